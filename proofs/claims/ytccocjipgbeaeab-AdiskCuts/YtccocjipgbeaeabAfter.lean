import Derived.Test.YtccocjipgbeaeabLasts
namespace Go.Proofs.Ytccocjipgbeaeab
open Go.RowKit Adk

/-- an act among the arguments -/
structure ActR where
  kind : Int
  b : Int
  a : Option Addr
  c : Nat
  x : List Int
def ActR.cells (q : ActR) : List Value := [.int .i64 q.kind, .int .i64 q.b, .slice q.a q.x.length q.c]
structure ActAt (w : World) (b off : Nat) (q : ActR) : Prop where
  f0 : w.cell? ⟨b, off, none⟩ = some (.int .i64 q.kind)
  f1 : w.cell? ⟨b, off + 1, none⟩ = some (.int .i64 q.b)
  f2 : w.cell? ⟨b, off + 2, none⟩ = some (.slice q.a q.x.length q.c)
structure Acts (w : World) (a0 : Option Addr) (L : List ActR) : Prop where
  at_ : L = [] ∨ ∃ b off, a0 = some ⟨b, off, none⟩ ∧ ∀ i q, L[i]? = some q → ActAt w b (off + i * 3) q
  each : ∀ q ∈ L, Bytes w q.a q.x
  len : L.length ≤ 4000000
theorem Acts.on {w w' : World} {a0 : Option Addr} {L : List ActR} (h : Acts w a0 L) (x : Below w.heap.size w w') : Acts w' a0 L := by
  refine ⟨?_, fun q hq => (h.each q hq).on x, h.len⟩
  rcases h.at_ with e | ⟨b, off, e, hc⟩
  · exact .inl e
  · have f := below_fr x (fun _ => False)
    exact .inr ⟨b, off, e, fun i q hq => ⟨f.cell (hc i q hq).f0 (fun e => e), f.cell (hc i q hq).f1 (fun e => e), f.cell (hc i q hq).f2 (fun e => e)⟩⟩
/-- what is wrong with an act -/
def actE (nb : Nat) (q : ActR) : Int := if q.kind = 1 then (if 0 ≤ q.b ∧ q.b < nb then (if q.x.length = 512 then 0 else 32) else 31) else if q.kind = 2 then 0 else 1
def AD.take (a : AD) (q : ActR) : AD := if q.kind = 1 then a.write q.b.toNat q.x else a.flush
/-- behind so many acts -/
def AD.takes (a : AD) (L : List ActR) : Nat → AD
  | 0 => a
  | k + 1 => (a.takes L k).take (L.getD k ⟨0, 0, none, 0, []⟩)
theorem LaI.take {a : AD} {m k : Nat} (h : LaI a m k) (q : ActR) (_ : actE m q = 0) : LaI (a.take q) m (k + 1) := by
  unfold AD.take
  split
  · unfold AD.write
    rw [if_neg (by rw [h.at_]; decide)]
    show LaI (AD.tick _) _ _
    unfold AD.tick
    rw [if_neg (by show ¬ (0 : Int) < a.at_; rw [h.at_]; decide)]
    exact ⟨h.nb, h.len, by show (a.P ++ _).length ≤ _; have := h.P; simp; omega, by show (a.T ++ _).length ≤ _; have := h.T; simp; omega, by show a.wr + 1 ≤ _; have := h.wr; omega, by show a.fl ≤ _; have := h.fl; omega, h.at_, h.keep, h.down⟩
  · exact (h.next_f 0 0).1
theorem LaI.room' {a : AD} {m k : Nat} (h : LaI a m k) (hk : k ≤ 4000000) : Room a :=
  ⟨by have := h.P; omega, by have := h.T; omega, by have := h.wr; omega, by have := h.fl; omega, by rw [h.keep]; simp⟩
set_option maxRecDepth 100000 in
set_option maxHeartbeats 1600000 in
theorem take_ok (w : World) (D : Dk) (h : Disk w D) (q : ActR) (m k : Nat) (hl : LaI D.abs m k) (hk : k ≤ 4000000) (he : actE m q = 0) (hb : Bytes w q.a q.x) (hh : q.x ≠ [] → ∀ p, q.a = some p → ¬ D.has p.block) :
    Calls Try.prog 35 #[.pointer (some ⟨D.d, 0, none⟩), .agg #[.int .i64 q.kind, .int .i64 q.b, .slice q.a q.x.length q.c]] w fun e w' => e = .returned (.int .i64 0) ∧ ∃ D', Disk w' D' ∧ Mv w D w' D' ∧ Al w.heap.size D D' ∧ D'.abs = D.abs.take q := by
  have HD : Hid (Disk w D) := h
  have hst := hl.step
  have hdn : D.down = false := hl.down
  have HA : Hid (Below w.heap.size w (w.alloc (.cells #[.int .i64 q.kind, .int .i64 q.b, .slice q.a q.x.length q.c] 80))) := (Below.refl _ _).alloc (Nat.le_refl _) _
  have HR := heap_alloc_new w (.cells #[.int .i64 q.kind, .int .i64 q.b, .slice q.a q.x.length q.c] 80)
  have HC : Hid (∀ j, (w.alloc (.cells #[.int .i64 q.kind, .int .i64 q.b, .slice q.a q.x.length q.c] 80)).cell? ⟨w.heap.size, j, none⟩ = (#[Value.int .i64 q.kind, .int .i64 q.b, .slice q.a q.x.length q.c])[j]?) := fun j => cell_of_row _ _ _ _ _ _ HR
  have HL : Hid (LaI D.abs m k) := hl
  have HBy : Hid (Bytes w q.a q.x) := hb
  clear h HR hl hb
  have hnb : D.nb = m := HL.out.nb
  unfold actE at he
  go_enter Try.func35, Try.ntmps35
  go_upto_region 1 with fail
  generalize w.alloc (.cells #[.int .i64 q.kind, .int .i64 q.b, .slice q.a q.x.length q.c] 80) = wa at *
  have S0 : wa.cell? ⟨w.heap.size, 0, none⟩ = some (.int .i64 q.kind) := HC.out 0
  have S1 : wa.cell? ⟨w.heap.size, 1, none⟩ = some (.int .i64 q.b) := HC.out 1
  have S2 : wa.cell? ⟨w.heap.size, 2, none⟩ = some (.slice q.a q.x.length q.c) := HC.out 2
  by_cases h1 : q.kind = 1
  · rw [if_pos h1] at he
    by_cases hb2 : 0 ≤ q.b ∧ q.b < m
    · rw [if_pos hb2] at he
      by_cases hx : q.x.length = 512
      · obtain ⟨i, hi⟩ := Int.eq_ofNat_of_zero_le hb2.1
        have him : i < D.nb := by omega
        obtain ⟨p, hp⟩ : ∃ p, q.a = some p := by
          cases hq : q.a with
          | none => rw [hq] at HBy; have := HBy.out.nil; rw [this] at hx; simp at hx
          | some p => exact ⟨p, rfl⟩
        rw [hp] at HBy
        have HZ : Hid (Calls Try.prog 30 #[.pointer (some ⟨D.d, 0, none⟩), .int .i64 q.b, .slice q.a q.x.length q.c] wa fun e w' => e = .returned (.int .i64 0) ∧ ∃ D', Disk w' D' ∧ Mv w D w' D' ∧ Al w.heap.size D D' ∧ D'.abs = D.abs.take q) := by
          rw [hi, hp, hx]
          refine (write_yes wa D (HD.out.on HA.out) i p q.c q.x him hdn (HBy.out.on HA.out) hx (HL.out.room' hk) (hh (by intro e; rw [e] at hx; simp at hx) p hp)).mono ?_
          rintro e w' ⟨rfl, D', z1, z2, z3, z4⟩
          refine ⟨by rw [hst], D', z1, (mv_on _ _ _ HA.out).trans z2, fun k hk => (z3 k hk).imp id (Nat.le_trans HA.out.size), ?_⟩
          rw [z4, AD.take, if_pos h1, hi]; rfl
        clear he hb2 hst hi hp hx him HBy hh HL HC HD HA
        rw [h1] at S0
        go_wp2_with (go_at_call 30; refine HZ.out.mono ?_; rintro e w1 ⟨rfl, hz⟩; have H1 : Hid (∃ D', Disk w1 D' ∧ Mv w D w1 D' ∧ Al w.heap.size D D' ∧ D'.abs = D.abs.take q) := hz; clear hz)
        go_ret
        exact ⟨rfl, H1.out⟩
      · rw [if_neg hx] at he; cases he
    · rw [if_neg hb2] at he; cases he
  · rw [if_neg h1] at he
    by_cases h2 : q.kind = 2
    · have HZ : Hid (Calls Try.prog 29 #[.pointer (some ⟨D.d, 0, none⟩)] wa fun e w' => e = .returned (.int .i64 0) ∧ ∃ D', Disk w' D' ∧ Mv w D w' D' ∧ Al w.heap.size D D' ∧ D'.abs = D.abs.take q) := by
        refine (flush_yes wa D (HD.out.on HA.out) hdn (HL.out.room' hk)).mono ?_
        rintro e w' ⟨rfl, D', z1, z2, z3, z4⟩
        refine ⟨by rw [hst], D', z1, (mv_on _ _ _ HA.out).trans z2, fun k hk => (z3 k hk).imp id (Nat.le_trans HA.out.size), ?_⟩
        rw [z4, AD.take, if_neg h1]
      clear he hst HBy hh HL HC HD HA
      rw [h2] at S0
      go_wp2_with (go_at_call 29; refine HZ.out.mono ?_; rintro e w1 ⟨rfl, hz⟩; have H1 : Hid (∃ D', Disk w1 D' ∧ Mv w D w1 D' ∧ Al w.heap.size D D' ∧ D'.abs = D.abs.take q) := hz; clear hz)
      go_ret
      exact ⟨rfl, H1.out⟩
    · rw [if_neg h2] at he; cases he
def AD0 (nb : Nat) (l : List Int) : AD := ⟨nb, l, [], [], 0, 0, 0, [], false⟩
/-- what lasts of an image behind acts -/
def aft (nb : Nat) (l : List Int) (L : List ActR) (keep : List Bool) : List Int := (((AD0 nb l).takes L L.length).cut (kpOf keep)).las
structure AfW (w wr : World) (d nb : Nat) (l : List Int) (L : List ActR) (k : Nat) (D : Dk) : Prop where
  disk : Disk wr D
  ab : D.abs = (AD0 nb l).takes L k
  la : LaI D.abs nb k
  dd : D.d = d
  core : ∀ j, D.has j → w.heap.size ≤ j
  bel : Below w.heap.size w wr
theorem AfW.on {w wr wx : World} {d nb k : Nat} {l : List Int} {L : List ActR} {D : Dk} (h : AfW w wr d nb l L k D) (x : Below wr.heap.size wr wx) : AfW w wx d nb l L k D :=
  ⟨h.disk.on x, h.ab, h.la, h.dd, h.core, h.bel.trans (x.mono h.bel.size)⟩
set_option maxRecDepth 100000 in
set_option maxHeartbeats 1600000 in
theorem after_ok (w : World) (p : Addr) (c nb : Nat) (l : List Int) (a0 : Option Addr) (ac : Nat) (L : List ActR) (kv : Value) (keep : List Bool) (hb : Bytes w (some p) l) (hl : l.length = 512 * nb) (h0 : 1 ≤ nb) (h1 : nb ≤ 16384)
    (hA : Acts w a0 L) (hE : ∀ q ∈ L, actE nb q = 0) (hK : Bools w kv keep) (hkl : keep.length ≤ 9223372036854775807) :
    Calls Try.prog 13 #[.slice (some p) (512 * nb : Nat) c, .slice a0 L.length ac, kv] w fun e w' => ∃ g cap, e = .returned (.tuple #[.slice (some ⟨g, 0, none⟩) (512 * nb : Nat) cap, .int .i64 0]) ∧ w.heap.size ≤ g ∧ OwnB w' g cap (aft nb l L keep) ∧ Below w.heap.size w w' := by
  have hll := hA.len
  have HB : Hid (Bytes w (some p) l) := hb
  have HL : Hid (l.length = 512 * nb) := hl
  have HA : Hid (Acts w a0 L ∧ ∀ q ∈ L, actE nb q = 0) := ⟨hA, hE⟩
  have HK : Hid (Bools w kv keep) := hK
  clear hb hl hA hE
  obtain ⟨ka, kc, rfl, hkk⟩ := hK
  clear hkk
  go_enter Try.func13, Try.ntmps13
  go_wp2_with (go_at_call 25; refine (open_yes _ p c nb l HB.out HL.out h0 h1).mono ?_; rintro e w1 ⟨d, nw, L0, capL, rfl, q1, q2, q3, hD, hb1⟩; have HW : Hid (AfW w w1 d nb l L 0 (newDk d L0 nw capL nb l)) := ⟨hD, rfl, ⟨rfl, HL.out, Nat.le_refl _, Nat.le_refl _, Nat.le_refl _, Nat.le_refl _, rfl, rfl, rfl⟩, rfl, (by rintro j (e | e | e | e | e) <;> first | (cases e; done) | (have e : j = d := e; omega) | (have e : j = L0 := e; omega) | (have e : j = nw := e; omega)), hb1⟩; clear hD hb1)
  go_loopw [11, 12, 23, 24, 25, 26, 27, 28, 29, 30, 31, 32, 33] (fun _ _ i _ _ _ _ _ _ _ _ _ _ wr => ∃ k : Nat, k ≤ L.length ∧ i = .int .i64 k ∧ ∃ D, AfW w wr d nb l L k D) (fun _ _ i _ _ _ _ _ _ _ _ _ _ _ => L.length - (intOf i).toNat)
  case atStart => exact ⟨0, Nat.zero_le _, rfl, _, HW.out⟩
  case round =>
    obtain ⟨k, hk, rfl, D, hW⟩ := hrel
    have hdd := hW.dd
    subst hdd
    clear HW
    have HW : Hid (AfW w wr D.d nb l L k D) := hW
    clear hW
    by_cases hlt : k < L.length
    · have hPr := HA.out.1.on HW.out.bel
      obtain ⟨b, off, rfl, hc⟩ := hPr.at_.resolve_left (by intro e; rw [e] at hlt; simp at hlt)
      obtain ⟨q, hq⟩ : ∃ q, L[k]? = some q := ⟨L[k], by simp [hlt]⟩
      have hqm := List.mem_of_getElem? hq
      obtain ⟨c0, c1, c2⟩ := hc k q hq
      have hqe := HA.out.2 q hqm
      have HAl : Hid (Below wr.heap.size wr (wr.alloc (.cells #[.int .i64 q.kind, .int .i64 q.b, .slice q.a q.x.length q.c] 80))) := (Below.refl _ _).alloc (Nat.le_refl _) _
      have HG : Hid (L.getD k ⟨0, 0, none, 0, []⟩ = q) := by show _ = _; simp [List.getD, hq]
      have HT : Hid (Calls Try.prog 35 #[.pointer (some ⟨D.d, 0, none⟩), .agg #[.int .i64 q.kind, .int .i64 q.b, .slice q.a q.x.length q.c]] (wr.alloc (.cells #[.int .i64 q.kind, .int .i64 q.b, .slice q.a q.x.length q.c] 80)) fun e w' => e = .returned (.int .i64 0) ∧ ∃ D', AfW w w' D.d nb l L (k + 1) D') := by
        have hx := HW.out.on HAl.out
        refine (take_ok _ D hx.disk q nb k hx.la (by omega) hqe ((HA.out.1.each q hqm).on hx.bel) (fun hne p hp e => ?_)).mono ?_
        · have h1 := hx.core _ e
          have h2 := HA.out.1.each q hqm
          rw [hp] at h2
          rcases h2.at_ with e2 | ⟨b', off', e2, hc'⟩
          · exact hne e2
          · cases e2
            have := block_lt_of_cell (hc' 0 (by cases hqx : q.x with | nil => exact absurd hqx hne | cons _ _ => simp))
            have h1 : w.heap.size ≤ b' := h1
            have this : b' < w.heap.size := this
            omega
        · rintro e w' ⟨rfl, D', z1, z2, _, z4⟩
          refine ⟨rfl, D', z1, ?_, by rw [z4]; exact hx.la.take q hqe, z2.d, (z2.below w.heap.size hx.bel.size hx.core).2, hx.bel.trans (z2.below w.heap.size hx.bel.size hx.core).1⟩
          rw [z4, hx.ab, AD.takes, HG.out]
      clear hPr hc hq hqm hqe
      go_wp2_with (go_at_call 35; refine HT.out.mono ?_; rintro e w2 ⟨rfl, hz⟩; have H2 : Hid (∃ D', AfW w w2 D.d nb l L (k + 1) D') := hz; clear hz)
      exact ⟨⟨k + 1, hlt, rfl, H2.out⟩, by simp [intOf]; omega⟩
    · obtain rfl : k = L.length := by omega
      have HM : Hid (D.nb = nb) := HW.out.la.nb
      go_wp2_with (go_at_call 12; refine (crash_any _ D HW.out.disk _ keep (HK.out.on HW.out.bel) (fun hl j hj e => absurd (HW.out.core j e) (Nat.not_le.2 (HK.out.lt hl hj))) hkl).mono ?_; rintro e w2 ⟨rfl, hd2, hm2⟩; have H2 : Hid (Disk w2 (D.cut (kpOf keep)) ∧ Below w.heap.size w w2) := ⟨hd2, HW.out.bel.trans (hm2.below _ HW.out.bel.size HW.out.core).1⟩; have C0 : w2.cell? ⟨D.d, 0, none⟩ = some (.slice (some ⟨D.L, 0, none⟩) (512 * nb) D.capL) := (by rw [← HM.out]; exact hd2.cell 0); clear hd2 hm2)
      go_ret2
      refine ⟨D.L, D.capL, rfl, HW.out.core _ (.inr (.inl rfl)), ?_, H2.out.2⟩
      have e : aft nb l L keep = (D.cut (kpOf keep)).las := by
        unfold aft
        rw [← HW.out.ab, ← abs_cut]; rfl
      rw [e]; exact H2.out.1.las
end Go.Proofs.Ytccocjipgbeaeab
