import Derived.Test.YtcbebalakdkgnaaGreatDoorKTxY
import Derived.Test.YtcbebalakdkgnaaGreatDoorKWRe
import Derived.Deep.MidRow
import Derived.Deep.RegionHeldLaw
import Derived.RangeFuncNested
import Derived.RangeFuncBound
import Derived.RangeFuncCalls
import Derived.RangeFuncLeaves
import Derived.RangeFuncWrites
namespace Go.Proofs.YtcbebalakdkgnaaGreatDoor
open Go.RowKit Rec

structure PutR where
  b : Int
  x : Int
  fl : Bool
structure PutAt (w : World) (b off : Nat) (q : PutR) : Prop where
  f0 : w.cell? ⟨b, off, none⟩ = some (.int .i64 q.b)
  f1 : w.cell? ⟨b, off + 1, none⟩ = some (.int .u8 q.x)
  f2 : w.cell? ⟨b, off + 2, none⟩ = some (.bool q.fl)
structure Puts (w : World) (a0 : Option Addr) (L : List PutR) : Prop where
  at_ : L = [] ∨ ∃ b off, a0 = some ⟨b, off, none⟩ ∧ ∀ i q, L[i]? = some q → PutAt w b (off + i * 3) q
  each : ∀ q ∈ L, 0 ≤ q.x ∧ q.x < 256
  len : L.length ≤ 9223372036854775807
theorem Puts.on {w w' : World} {a0 : Option Addr} {L : List PutR} (h : Puts w a0 L) (x : Below w.heap.size w w') : Puts w' a0 L := by
  refine ⟨?_, h.each, h.len⟩
  rcases h.at_ with e | ⟨b, off, e, hc⟩
  · exact .inl e
  · have f := below_fr x (fun _ => False)
    exact .inr ⟨b, off, e, fun i q hq => ⟨f.cell (hc i q hq).f0 (fun e => e), f.cell (hc i q hq).f1 (fun e => e), f.cell (hc i q hq).f2 (fun e => e)⟩⟩
theorem Bools.on {w w' : World} {v : Value} {l : List Bool} (h : Bools w v l) (x : Below w.heap.size w w') : Bools w' v l := by
  obtain ⟨a, c, rfl, hl⟩ := h
  refine ⟨a, c, rfl, ?_⟩
  rcases hl with rfl | ⟨b, off, rfl, hc⟩
  · exact .inl rfl
  · exact .inr ⟨b, off, rfl, fun i y hy => (below_fr x (fun _ => False)).cell (hc i y hy) (fun e => e)⟩
/-- behind k writes, nothing armed -/
structure ChI (a : AD) (m : Nat) (L : List PutR) (k : Nat) : Prop where
  nb : a.nb = m
  las : a.las = frs m
  P : a.P = (L.take k).map (fun q => ((q.b % (m : Int)).toNat, one q.x))
  T : a.T.length = k
  wr : a.wr = k
  fl : a.fl = 0
  at_ : a.at_ = 0
  keep : a.keep = []
  down : a.down = false
theorem ChI.next {a : AD} {m k : Nat} {L : List PutR} {q : PutR} (h : ChI a m L k) (hq : L[k]? = some q) : ChI (a.do q.b q.x false) m L (k + 1) ∧ a.stepE = 0 := by
  have h1 : ¬ a.at_ = 1 := by rw [h.at_]; decide
  have h0 : ¬ (0 : Int) < a.at_ := by rw [h.at_]; decide
  have e : a.do q.b q.x false = { a with P := a.P ++ [((q.b % (m : Int)).toNat, one q.x)], T := a.T ++ [(1, (((q.b % (m : Int)).toNat : Nat) : Int), one q.x)], wr := a.wr + 1 } := by
    show AD.write _ _ _ = _
    unfold AD.write
    rw [if_neg h1, h.nb]
    show AD.tick _ = _
    unfold AD.tick
    exact if_neg h0
  refine ⟨?_, by unfold AD.stepE; rw [if_neg h1]⟩
  rw [e]
  refine ⟨h.nb, h.las, ?_, ?_, ?_, h.fl, h.at_, h.keep, h.down⟩
  · show a.P ++ _ = _
    rw [h.P, List.take_add_one, hq, List.map_append]; rfl
  · show (a.T ++ _).length = _
    rw [List.length_append, h.T]; rfl
  · show a.wr + 1 = _
    rw [h.wr]
theorem ChI.room {a : AD} {m k : Nat} {L : List PutR} (h : ChI a m L k) (hk : k ≤ 200) : RoomD a := by
  refine ⟨?_, by rw [h.T]; omega, by rw [h.wr]; omega, by rw [h.fl]; omega, by rw [h.keep]; simp⟩
  rw [h.P, List.length_map, List.length_take]; omega
theorem blk_wr (l : List Int) (n b j : Nat) (x : List Int) (hl : l.length = 512 * n) (hj : j < n) (hx : x.length = 512) : bck (wr l b x) j = if j = b then x else bck l j := by
  have e1 : (wr l b x).length = 512 * n := by rw [wr_length, hl]
  have e2 := blk_length e1 hj
  by_cases h : j = b
  · rw [if_pos h]
    refine ext_nth (by rw [e2, hx]) fun i hi => ?_
    rw [e2] at hi
    rw [nth_blk e1 hj i hi, nth_wr _ _ _ _ (by rw [hl]; omega), if_pos (by omega), show (512 * j + i) % 512 = i by omega]
  · rw [if_neg h]
    refine ext_nth (by rw [e2, blk_length hl hj]) fun i hi => ?_
    rw [e2] at hi
    rw [nth_blk e1 hj i hi, nth_blk hl hj i hi, nth_wr _ _ _ _ (by rw [hl]; omega), if_neg (by omega)]
end Go.Proofs.YtcbebalakdkgnaaGreatDoor

namespace Go.Proofs.YtcbebalakdkgnaaGreatDoor
open Go.RowKit Rec

/-- nothing armed, so many steps -/
structure LaI (a : AD) (m k : Nat) : Prop where
  nb : a.nb = m
  len : a.las.length = 512 * m
  P : a.P.length ≤ k
  T : a.T.length ≤ k
  wr : a.wr ≤ k
  fl : a.fl ≤ k
  at_ : a.at_ = 0
  keep : a.keep = []
  down : a.down = false
theorem LaI.room {a : AD} {m k : Nat} (h : LaI a m k) (hk : k ≤ 200) : RoomD a :=
  ⟨by have := h.P; omega, by have := h.T; omega, by have := h.wr; omega, by have := h.fl; omega, by rw [h.keep]; simp⟩
theorem LaI.step {a : AD} {m k : Nat} (h : LaI a m k) : a.stepE = 0 := by unfold AD.stepE; rw [if_neg (by rw [h.at_]; decide)]
theorem do_f {a : AD} (b x : Int) (h : a.at_ = 0) : a.do b x true = { a with fl := a.fl + 1, T := a.T ++ [(2, 0, [])], las := a.full, P := [] } := by
  show AD.flush _ = _
  unfold AD.flush
  rw [if_neg (by rw [h]; decide)]
  have e : AD.tick { a with fl := a.fl + 1 } = { a with fl := a.fl + 1 } := by
    unfold AD.tick
    exact if_neg (by show ¬ (0 : Int) < a.at_; rw [h]; decide)
  simp only [e]
  rfl
theorem LaI.next_f {a : AD} {m k : Nat} (h : LaI a m k) (b x : Int) : LaI (a.do b x true) m (k + 1) ∧ (a.do b x true).las = a.full ∧ (a.do b x true).full = a.full := by
  refine ⟨?_, ?_, ?_⟩
  · rw [do_f b x h.at_]
    exact ⟨h.nb, by show a.full.length = _; unfold AD.full; rw [lay_length]; exact h.len, by show 0 ≤ _; omega, by show (a.T ++ _).length ≤ _; have := h.T; simp; omega, by show a.wr ≤ _; have := h.wr; omega, by show a.fl + 1 ≤ _; have := h.fl; omega, h.at_, h.keep, h.down⟩
  · rw [do_f b x h.at_]
  · rw [do_f b x h.at_]; rfl
theorem bools_of {w : World} {v : Value} {l : List Bool} (h : w.ownsRow 0 4 1 v l.length (l.map Value.bool)) : Bools w v l := by
  obtain ⟨a, c, rfl, _, hg, hc⟩ := owns_slice h
  refine ⟨a, c, rfl, ?_⟩
  rcases hg with h0 | ⟨g, rfl⟩
  · exact .inl (List.eq_nil_of_length_eq_zero h0)
  · refine .inr ⟨g, 0, rfl, fun i x hx => ?_⟩
    rw [Nat.zero_add]
    exact (hc g 0 rfl).2.1 i _ (by rw [List.getElem?_map, hx]; rfl)
end Go.Proofs.YtcbebalakdkgnaaGreatDoor

namespace Go.Proofs.YtcbebalakdkgnaaGreatDoor
open Go.RowKit Rec

theorem infoBoA : (Tryz.prog.info? 4).map (fun i => (i.zero, i.size, i.bytes)) = some (some (.bool false), 1, 1) := by kernel_rfl
theorem Bools.news {w : World} {p : Addr} {n c : Nat} {l : List Bool} (h : Bools w (.slice (some p) n c) l) : ∀ j u, (l.map Value.bool)[j]? = some u → w.cell? (p.add j) = some u := by
  intro j u hj
  obtain ⟨a, c', hv, hb⟩ := h
  cases hv
  rw [List.getElem?_map] at hj
  cases hl : l[j]? with
  | none => rw [hl] at hj; cases hj
  | some x =>
    rw [hl] at hj
    cases hj
    rcases hb with rfl | ⟨b, off, e, hc⟩
    · simp at hl
    · cases e
      rw [Addr.add_lit]; exact hc j x hl
set_option maxRecDepth 100000 in
set_option maxHeartbeats 800000 in
theorem sclone_nil (w : World) : Calls Tryz.prog 50 #[.slice none 0 0] w fun e w' => e = .returned (.slice none 0 0) ∧ w = w' := by
  have E1 : ∀ w : World, (binOp .eql 43 (.slice none 0 0) (.slice none 0 0)).run Tryz.prog w = .ok (.bool true) w := fun w => run_eql_nil_slice w _ _ _ _ _ _ _ Tryz.underlying43
  go_enter Tryz.func50, Tryz.ntmps50
  go_wp2
  go_ret
  exact ⟨rfl, rfl⟩
set_option maxRecDepth 100000 in
set_option maxHeartbeats 800000 in
theorem sclone_some (w : World) (p : Addr) (c : Nat) (l : List Bool) (h : Bools w (.slice (some p) l.length c) l) (h47 : l.length ≤ 140737488355328) :
    Calls Tryz.prog 50 #[.slice (some p) l.length c] w fun e w' => ∃ v', e = .returned v' ∧ Bools w' v' l ∧ (∀ k, v'.ownBlock = some k → w.heap.size ≤ k ∧ k < w'.heap.size) ∧ Below w.heap.size w w' := by
  have HB : Hid (Bools w (.slice (some p) l.length c) l) := h
  obtain ⟨i1, j1, j2, j3, j4⟩ := info_parts infoBoA
  clear h
  have E1 : ∀ w : World, (binOp .eql 43 (.slice (some p) l.length c) (.slice none 0 0)).run Tryz.prog w = .ok (.bool false) w := fun w => Go.Lib.run_eql_slice_some_nil w p l.length c Tryz.underlying43
  have HA : Hid (Below w.heap.size w (w.alloc (.cells #[] 4))) := (Below.refl _ _).alloc (Nat.le_refl _) _
  have HE : Hid ((w.alloc (.cells #[] 4)).ownsRow w.heap.size 4 1 (.slice (some ⟨w.heap.size, 0, none⟩) 0 0) 0 []) := ⟨rfl, .inr ⟨_, _, _, rfl, Nat.le_refl _, heap_alloc_new _ _, Nat.le_refl _, Nat.zero_le _, rfl, rfl⟩⟩
  have HN : Hid (∀ j u, (l.map Value.bool)[j]? = some u → (w.alloc (.cells #[] 4)).cell? (p.add j) = some u) := fun j u hj => (fr_alloc (fun _ => False) w _).cell (HB.out.news j u hj) (fun e => e)
  go_enter Tryz.func50, Tryz.ntmps50
  go_wp2_with (at_builtin; refine wpList_append_own _ rfl (.tmp 5) (.tmp 6) 43 rfl w.heap.size 4 i1 _ 1 1 Tryz.underlying43 j1 j2 j3 j4 rfl (by decide) (.slice (some ⟨w.heap.size, 0, none⟩) 0 0) 0 [] rfl HE.out p l.length c (l.map Value.bool) rfl (by simp) HN.out (by intro u hu; simp at hu; rcases hu with ⟨_, rfl⟩ | ⟨_, rfl⟩ <;> rfl) (by unfold maxLen; omega) (by omega) HA.out.size ?_; intro v' w' ho hg hn; have HZ : Hid (w'.ownsRow w.heap.size 4 1 v' (0 + l.length) ([] ++ l.map Value.bool) ∧ (w.alloc (.cells #[] 4)).grownBy w' (some w.heap.size)) := ⟨ho, hg⟩; clear ho hg hn)
  go_ret
  have ho := HZ.out.1
  rw [Nat.zero_add, List.nil_append] at ho
  have ho0 : w'.ownsRow 0 4 1 v' l.length (l.map Value.bool) := ⟨ho.1, by
    rcases ho.2 with h | ⟨g, cap, cur, h1, h2, h3⟩
    · exact .inl h
    · exact .inr ⟨g, cap, cur, h1, Nat.zero_le _, h3⟩⟩
  refine ⟨v', rfl, bools_of ho0, fun k hk => ⟨?_, owns_block ho0 hk⟩, HA.out.grown HZ.out.2 HA.out.size (by intro k hk; cases hk; exact Nat.le_refl _)⟩
  rcases ho.2 with ⟨rfl, _⟩ | ⟨g, cap, cur, rfl, h2, h3⟩
  · cases hk
  · cases hk; exact h2
/-- a power cut armed -/
def Dk.arm (D : Dk) (t : Int) (v : Value) (keep : List Bool) : Dk := { D with at_ := t, kv := v, keep := keep }
def AD.arm (a : AD) (t : Int) (keep : List Bool) : AD := { a with at_ := t, keep := keep }
theorem arm_all {n : Nat} {D : Dk} {t : Int} {v : Value} {keep : List Bool} (h : ∀ k, v.ownBlock = some k → n ≤ k) : Al n D (D.arm t v keep) := by
  rintro k (hk | hk | hk | hk)
  · exact .inl (.inl hk)
  · exact .inr (h k hk)
  · exact .inl (.inr (.inr (.inl hk)))
  · exact .inl (.inr (.inr (.inr hk)))
theorem Disk.armed {w wb w1 w2 : World} {D : Dk} {t : Int} {v : Value} {keep : List Bool} (h : Disk w D) (hb : Below w.heap.size w wb) (hk : Bools wb v keep) (hv : ∀ k, v.ownBlock = some k → w.heap.size ≤ k ∧ k < wb.heap.size) (ht : t ≤ 9223372036854775807)
    (e1 : w1 = wb.setCell ⟨D.d, 6, none⟩ (.int .i64 t)) (e2 : w2 = w1.setCell ⟨D.d, 7, none⟩ v) : Disk w2 (D.arm t v keep) ∧ Mv w D w2 (D.arm t v keep) := by
  have f1 : Fr (fun i => i = D.d) wb w1 := e1 ▸ Fr.set
  have f2 : Fr (fun i => i = D.d) w1 w2 := e2 ▸ Fr.set
  have f : Fr (fun i => i = D.d) wb w2 := f1.trans f2 (fun _ e => .inl e)
  have hw := h.on hb
  have hfr : Fr D.has wb w2 := f.mono (fun _ e => .inl e)
  have hm : Mv w D w2 (D.arm t v keep) := ⟨(below_fr hb D.has).trans hfr (fun _ h => .inl h), fun _ h => .inl h, rfl, rfl⟩
  refine ⟨?_, hm⟩
  exact {
    row := by
      have r1 := heap_setCell_same _ _ 6 _ _ (.int .i64 t) hw.row
      rw [← e1] at r1
      have r2 := heap_setCell_same _ _ 7 _ _ v r1
      rw [← e2] at r2
      exact r2
    las := hw.las.fr f (fun e => h.ap.dL e.symm)
    lasl := h.lasl
    nb0 := h.nb0
    nb1 := h.nb1
    nws := owns_fr hw.nws f (fun k hk e => by cases hk; exact h.ap.dn e.symm)
    pen := owns_fr hw.pen f (fun k hk => (h.ap.p k hk).1)
    penb := fun p hp => ⟨(h.penb p hp).1, (h.penb p hp).2.1, (hw.penb p hp).2.2.1.fr hfr (h.penb p hp).2.2.2, (h.penb p hp).2.2.2⟩
    tap := owns_fr hw.tap f (fun k hk => (h.ap.t k hk).1)
    tapb := fun a ha => by
      rcases hw.tapb a ha with ⟨h1, h2, h3, h4, g, cap, h5, h6, h7⟩ | h'
      · exact .inl ⟨h1, h2, h3, h4, g, cap, h5, h6.fr hfr h7, h7⟩
      · exact .inr h'
    kee := hk.fr f (fun _ k hk e => absurd (hv k hk).1 (by have := h.lt; have e : k = D.d := e; omega))
    keb := fun k hk e => absurd (h.hasLt e) (Nat.not_lt.2 (hv k hk).1)
    kel := fun k hk => Nat.lt_of_lt_of_le (hv k hk).2 hfr.size
    ap := ⟨h.ap.dL, h.ap.dn, h.ap.Ln, h.ap.p, h.ap.t⟩
    dn := h.dn
    pl := h.pl
    tl := h.tl
    wrs := h.wrs
    fls := h.fls
    at1 := ht }
set_option maxRecDepth 100000 in
set_option maxHeartbeats 800000 in
theorem arm_no (w : World) (D : Dk) (h : Disk w D) (t : Int) (v : Value) (hd : D.down = true) : Calls Tryz.prog 29 #[.pointer (some ⟨D.d, 0, none⟩), .agg #[.int .i64 t, v]] w fun e w' => e = .returned (.int .i64 30) ∧ Below w.heap.size w w' := by
  have C8 : w.cell? ⟨D.d, 8, none⟩ = some (.bool true) := by rw [← hd]; exact h.cell 8
  have HA : Hid (Below w.heap.size w (w.alloc (.cells #[.int .i64 t, v] 68))) := (Below.refl _ _).alloc (Nat.le_refl _) _
  have C8' : (w.alloc (.cells #[.int .i64 t, v] 68)).cell? ⟨D.d, 8, none⟩ = some (.bool true) := (fr_alloc (fun _ => False) w _).cell C8 (fun e => e)
  clear h
  go_enter Tryz.func29, Tryz.ntmps29
  go_wp2
  go_ret
  exact ⟨rfl, HA.out⟩
set_option maxRecDepth 100000 in
set_option maxHeartbeats 1600000 in
theorem arm_yes (w : World) (D : Dk) (h : Disk w D) (t : Int) (a : Option Addr) (c : Nat) (keep : List Bool) (hk : Bools w (.slice a keep.length c) keep) (hn : a = none → c = 0) (h47 : keep.length ≤ 140737488355328) (ht : t ≤ 9223372036854775807) (hd : D.down = false) :
    Calls Tryz.prog 29 #[.pointer (some ⟨D.d, 0, none⟩), .agg #[.int .i64 t, .slice a keep.length c]] w fun e w' => e = .returned (.int .i64 0) ∧ ∃ D', Disk w' D' ∧ Mv w D w' D' ∧ Al w.heap.size D D' ∧ D'.abs = D.abs.arm t keep := by
  have HS : Hid (∀ wx, Below w.heap.size w wx → Calls Tryz.prog 50 #[.slice a keep.length c] wx fun e w' => ∃ v', e = .returned v' ∧ Bools w' v' keep ∧ (∀ k, v'.ownBlock = some k → wx.heap.size ≤ k ∧ k < w'.heap.size) ∧ Below wx.heap.size wx w') := fun wx hx => by
    cases a with
    | none =>
      obtain rfl := hn rfl
      have e : keep = [] := by
        obtain ⟨a, c, hv, hb⟩ := hk
        rcases hb with e | ⟨b, off, e, _⟩
        · exact e
        · cases hv; cases e
      subst e
      exact (sclone_nil wx).mono (by
        rintro e w' ⟨rfl, rfl⟩
        exact ⟨_, rfl, ⟨none, 0, rfl, .inl rfl⟩, (fun k hk => by cases hk), Below.refl _ _⟩)
    | some p => exact sclone_some wx p c keep (hk.on hx) h47
  have HD : Hid (Disk w D) := h
  have HA : Hid (Below w.heap.size w (w.alloc (.cells #[.int .i64 t, .slice a keep.length c] 68))) := (Below.refl _ _).alloc (Nat.le_refl _) _
  have HR := heap_alloc_new w (.cells #[.int .i64 t, .slice a keep.length c] 68)
  have HC : Hid (∀ j, (w.alloc (.cells #[.int .i64 t, .slice a keep.length c] 68)).cell? ⟨w.heap.size, j, none⟩ = (#[Value.int .i64 t, .slice a keep.length c])[j]?) := fun j => cell_of_row _ _ _ _ _ _ HR
  clear h hk HR
  go_enter Tryz.func29, Tryz.ntmps29
  go_upto_region 1 with fail
  generalize w.alloc (.cells #[.int .i64 t, .slice a keep.length c] 68) = wa at *
  have C8 : wa.cell? ⟨D.d, 8, none⟩ = some (.bool false) := by rw [← hd]; exact (HD.out.on HA.out).cell 8
  have S0 : wa.cell? ⟨w.heap.size, 0, none⟩ = some (.int .i64 t) := HC.out 0
  have S1 : wa.cell? ⟨w.heap.size, 1, none⟩ = some (.slice a keep.length c) := HC.out 1
  have HB : Hid (Below w.heap.size w wa.drew) := HA.out.drew
  go_wp2
  go_region_law (go_simp; go_at_call 50; refine (HS.out _ HB.out).mono ?_; rintro e w1 ⟨v', rfl, h1, h2, h3⟩; have h1c := h1; obtain ⟨a2, c2, hv2, h1d⟩ := h1c; subst hv2; clear h1d; have H1 : Hid (Bools w1 (.slice a2 keep.length c2) keep ∧ (∀ k, (Value.slice a2 keep.length c2).ownBlock = some k → w.heap.size ≤ k ∧ k < w1.heap.size) ∧ Below w.heap.size w w1) := ⟨h1, fun k hk => ⟨Nat.le_trans HB.out.size (h2 k hk).1, (h2 k hk).2⟩, HB.out.trans (h3.mono HB.out.size)⟩; have T0 : w1.cell? ⟨w.heap.size, 0, none⟩ = some (.int .i64 t) := (below_fr ((Below.refl _ wa).drew.trans h3) (fun _ => False)).cell S0 (fun e => e); have R1 := (HD.out.on H1.out.2.2).frozen 6; have R2 : w1.frozen? ⟨D.d, 7, none⟩ = false := (HD.out.on H1.out.2.2).frozen 7; have R3 : w1.cell? ⟨D.d, 6, none⟩ = some (.int .i64 D.at_) := (HD.out.on H1.out.2.2).cell 6; have R4 : w1.cell? ⟨D.d, 7, none⟩ = some D.kv := (HD.out.on H1.out.2.2).cell 7; clear h1 h2 h3)
  all_goals
    go_wp2
    go_ret
    have hz := HD.out.armed (t := t) H1.out.2.2 H1.out.1 H1.out.2.1 ht rfl rfl
    exact ⟨rfl, _, hz.1, hz.2, arm_all (fun k hk => (H1.out.2.1 k hk).1), rfl⟩
end Go.Proofs.YtcbebalakdkgnaaGreatDoor

namespace Go.Proofs.YtcbebalakdkgnaaGreatDoor
open Go.RowKit Rec

theorem Rest.well {a : AD} {nb : Nat} {l : List Int} (h : Rest a nb l) (hn : 98 ≤ nb) : Well nb l l := ⟨h.len, (log_empty hn h.log).2.2, by rw [h.behind hn]; exact fun _ _ _ => rfl⟩
/-- a disk over what lasts -/
structure Lst (nb : Nat) (w0 w : World) (X : Dk) (W : List Int) : Prop where
  mine : Mine w0 w X
  well : Well nb W X.las
theorem Lst.on {nb : Nat} {w0 w w' : World} {X : Dk} {W : List Int} (h : Lst nb w0 w X W) (hb : Below w.heap.size w w') : Lst nb w0 w' X W := ⟨h.mine.on hb, h.well⟩
/-- the recovery that ends -/
structure Ended (nb : Nat) (w0 w : World) (E : Dk) (W : List Int) : Prop where
  mine : Mine w0 w E
  rest : Rest E.abs nb E.las
  like : Like nb E.las W
theorem Ended.on {nb : Nat} {w0 w w' : World} {E : Dk} {W : List Int} (h : Ended nb w0 w E W) (hb : Below w.heap.size w w') : Ended nb w0 w' E W := ⟨h.mine.on hb, h.rest, h.like⟩
end Go.Proofs.YtcbebalakdkgnaaGreatDoor

namespace Go.Proofs.YtcbebalakdkgnaaGreatDoor
open Go.RowKit Go.Maps Rec

/-- what block i of a fresh disk is full of -/
def v6 (i : Nat) : Int := if 0 < i ∧ i < 98 then 0 else (i : Int)
def fr6 (m : Nat) : List Int := (List.range m).flatMap (fun i : Nat => one (v6 i))
theorem fr6_succ (m : Nat) : fr6 (m + 1) = fr6 m ++ one (v6 m) := by
  unfold fr6
  rw [List.range_succ, List.flatMap_append]; simp
theorem fr6_length (m : Nat) : (fr6 m).length = 512 * m := by
  induction m with
  | zero => rfl
  | succ m ih => rw [fr6_succ, List.length_append, ih, one_length]; omega
theorem nth_fr6 (m i : Nat) (h : i < 512 * m) : nth (fr6 m) i = v6 (i / 512) := by
  induction m with
  | zero => omega
  | succ m ih =>
    rw [fr6_succ, nth_app, fr6_length]
    by_cases h2 : i < 512 * m
    · rw [if_pos h2]; exact ih h2
    · rw [if_neg h2, one, nth_rep _ _ _ (by omega), show i / 512 = m by omega]
theorem bck_fr6 (m i : Nat) (hi : i < m) : bck (fr6 m) i = one (v6 i) := by
  refine ext_nth (by rw [blk_length (fr6_length m) hi, one_length]) fun j hj => ?_
  rw [blk_length (fr6_length m) hi] at hj
  rw [nth_blk (fr6_length m) hi j hj, nth_fr6 m _ (by omega), one, nth_rep _ _ _ hj, show (512 * i + j) / 512 = i by omega]
theorem Fresh.rest {a : AD} {nb : Nat} {l : List Int} (h : Fresh a nb l) (h1 : bck l 1 = zs) : Rest a nb l := ⟨h.size, h.las, h.pen, h.down, h.at_, h.len, h1⟩
end Go.Proofs.YtcbebalakdkgnaaGreatDoor

namespace Go.Proofs.YtcbebalakdkgnaaGreatDoor
open Go.RowKit Go.Maps Rec

/-- a disk and a transaction on it -/
structure Ses (w0 w : World) (D : Dk) (T : Tx) : Prop where
  dk : Mine w0 w D
  tx : TxAt w T
  d : D.d = T.d
  nb : D.nb = T.nb
  ap1 : ∀ k, T.all k → ¬ D.has k
  ap2 : ∀ k, T.has k → ¬ D.all k
  far : ∀ k, T.all k → w0.heap.size ≤ k
theorem Ses.on {w0 w w' : World} {D : Dk} {T : Tx} (h : Ses w0 w D T) (hb : Below w.heap.size w w') : Ses w0 w' D T := ⟨h.dk.on hb, h.tx.on hb, h.d, h.nb, h.ap1, h.ap2, h.far⟩
theorem Ses.bel {w0 w : World} {D : Dk} {T : Tx} (h : Ses w0 w D T) : Below w0.heap.size w0 w := h.dk.bel
theorem Ses.mv {w0 w w' : World} {D : Dk} {T T' : Tx} (h : Ses w0 w D T) (ht : TxAt w' T') (hm : TMv w T w' T') : Ses w0 w' D T' := by
  refine ⟨⟨h.dk.disk.fr hm.fr (fun k hk hh => h.ap2 k hh hk), h.dk.far, h.dk.bel.trans (hm.fr.below _ (fun k hk => h.far k (.inl hk)) h.dk.bel.size)⟩, ht, h.d.trans hm.d.symm, h.nb.trans hm.nb.symm, fun k hk hh => ?_, fun k hk hh => ?_, fun k hk => ?_⟩
  · rcases hm.al k hk with e | e
    · exact h.ap1 k e hh
    · have := h.dk.hasLt k hh; omega
  · rcases hm.has k hk with e | e
    · exact h.ap2 k e hh
    · have := h.dk.disk.allLt hh; omega
  · rcases hm.al k hk with e | e
    · exact h.far k e
    · exact Nat.le_trans h.dk.bel.size e
theorem lst_ok {c : Cm} {n : Nat} (h : COk c n) (hb : ∀ i q, c i = some q → q.x.length = 512) (h0 : 98 ≤ n) (h1 : n ≤ 16384) (hne : lst c n ≠ []) (hl : (lst c n).length ≤ 96) : ComOk n (nsB (lst c n)) (dsB (lst c n)) := by
  have hp : 0 < (lst c n).length := by
    cases e : lst c n with
    | nil => exact absurd e hne
    | cons a l => simp
  refine ⟨h0, h1, pre_nsB _ (fun q hq => ?_) (lst_ris h) _ (fun q hq => ?_), by simp [nsB]; omega, by simp [nsB]; omega, by simp [nsB, dsB], fun b hb' => ?_⟩
  · obtain ⟨i, hi, e⟩ := lst_mem hq
    rw [h.num i q e]
    have := h.lo i q e
    omega
  · obtain ⟨i, hi, e⟩ := lst_mem hq
    rw [h.num i q e]
    omega
  · simp only [dsB, List.mem_map] at hb'
    obtain ⟨q, hq, rfl⟩ := hb'
    obtain ⟨i, hi, e⟩ := lst_mem hq
    exact hb i q e
end Go.Proofs.YtcbebalakdkgnaaGreatDoor

namespace Go.Proofs.YtcbebalakdkgnaaGreatDoor
open Go.RowKit Go.Maps Rec

def valC (c : Cm) (l : List Int) (i : Nat) : List Int := match c i with | some q => q.x | none => bck l i
theorem valC_some {c : Cm} {l : List Int} {i : Nat} {q : Bk} (h : c i = some q) : valC c l i = q.x := by simp [valC, h]
theorem valC_none {c : Cm} {l : List Int} {i : Nat} (h : c i = none) : valC c l i = bck l i := by simp [valC, h]
end Go.Proofs.YtcbebalakdkgnaaGreatDoor

namespace Go.Proofs.YtcbebalakdkgnaaGreatDoor
open Go.RowKit Go.Maps Rec

end Go.Proofs.YtcbebalakdkgnaaGreatDoor

namespace Go.Proofs.YtcbebalakdkgnaaGreatDoor
open Go.RowKit Go.Maps Rec

def rowU (f : Nat → Int) : Array Value := ((List.range 118).map fun j => Value.int .u8 (f j)).toArray
def rowB (f : Nat → Bool) : Array Value := ((List.range 118).map fun j => Value.bool (f j)).toArray
def updF {α : Type} (f : Nat → α) (i : Nat) (x : α) : Nat → α := fun j => if j = i then x else f j
theorem updF_same {α : Type} (f : Nat → α) (i : Nat) (x : α) : updF f i x i = x := by simp [updF]
theorem updF_other {α : Type} (f : Nat → α) {i j : Nat} (x : α) (h : j ≠ i) : updF f i x j = f j := by simp [updF, h]
theorem rowU_at (f : Nat → Int) (i : Nat) (h : i < 118) : (rowU f)[i]? = some (.int .u8 (f i)) := by simp [rowU, h]
theorem rowB_at (f : Nat → Bool) (i : Nat) (h : i < 118) : (rowB f)[i]? = some (.bool (f i)) := by simp [rowB, h]
/-- to go back over undo steps, the last one first -/
def undo (c : Cm) (us : List Un) : Cm := us.foldr (fun u c => ups c u.i u.old) c
theorem undo_snoc (c : Cm) (us : List Un) (u : Un) : undo c (us ++ [u]) = undo (ups c u.i u.old) us := by simp [undo]
/-- a transaction that was written on -/
def Ext (T T' : Tx) (k : Nat) : Prop := ∃ ext, T'.us = T.us ++ ext ∧ ext.length = k ∧ undo T'.c ext = T.c
theorem Ext.refl (T : Tx) : Ext T T 0 := ⟨[], by simp, rfl, rfl⟩
theorem Ext.next {T T' T'' : Tx} {k : Nat} {q : Option Bk} {u : Un} {i : Nat} (h : Ext T T' k) (hc : T''.c = ups T'.c i q) (hu : T''.us = T'.us ++ [u]) (hi : u.i = i) (ho : u.old = T'.c i) : Ext T T'' (k + 1) := by
  obtain ⟨ext, e1, e2, e3⟩ := h
  refine ⟨ext ++ [u], by rw [hu, e1, List.append_assoc], by simp [e2], ?_⟩
  rw [undo_snoc, hc, hi, ho, ups_back, e3]
/-- what the two rows say of a transaction -/
def Cnt (c0 c : Cm) (now : Nat → Int) (is : Nat → Bool) : Prop := ∀ i, 98 ≤ i → i < 118 → (0 ≤ now i ∧ now i < 256) ∧ (is i = true → ∃ q, c i = some q ∧ q.x = one (now i)) ∧ (is i = false → c i = c0 i ∧ now i = (i : Int))
theorem Cnt.put {c0 c : Cm} {now : Nat → Int} {is : Nat → Bool} (h : Cnt c0 c now is) (i : Nat) (q : Bk) (x : Int) (hx : 0 ≤ x ∧ x < 256) (hq : q.x = one x) : Cnt c0 (ups c i (some q)) (updF now i x) (updF is i true) := fun j h0 h1 => by
  by_cases e : j = i
  · subst e
    rw [updF_same, updF_same, ups_same]
    exact ⟨hx, fun _ => ⟨q, rfl, hq⟩, fun e => by cases e⟩
  · rw [updF_other _ _ e, updF_other _ _ e, ups_other _ _ e]
    exact h j h0 h1
end Go.Proofs.YtcbebalakdkgnaaGreatDoor

namespace Go.Proofs.YtcbebalakdkgnaaGreatDoor
open Go.RowKit Go.Maps Rec

end Go.Proofs.YtcbebalakdkgnaaGreatDoor

namespace Go.Proofs.YtcbebalakdkgnaaGreatDoor
open Go.RowKit Go.Maps Rec

theorem fr_setCells (b : Nat) : ∀ (vs : List Value) (o : Nat) (w : World), Fr (fun k => k = b) w (w.setCells b o vs)
  | [], _, w => Fr.refl _ w
  | v :: vs, o, _ => (Fr.set (g := b) (k := o) (v := v)).trans (fr_setCells b vs (o + 1) _) (fun _ hk => .inl hk)
end Go.Proofs.YtcbebalakdkgnaaGreatDoor


namespace Go.Proofs.YtcbebalakdkgnaaGreatDoor
open Go.RowKit Go.Maps Rec

/-- the two rows in a law's own variables -/
structure Rw (w : World) (A B : Nat) (now : Nat → Int) (is : Nat → Bool) : Prop where
  u : w.rangeAt A 0 (rowU now).toList
  b : w.rangeAt B 0 (rowB is).toList
theorem Rw.cu {w : World} {A B : Nat} {now : Nat → Int} {is : Nat → Bool} (h : Rw w A B now is) (i : Nat) (hi : i < 118) : w.cell? ⟨A, i, none⟩ = some (.int .u8 (now i)) := by
  have := h.u i (.int .u8 (now i)) (by have := rowU_at now i hi; simpa using this)
  simpa using this
theorem Rw.cb {w : World} {A B : Nat} {now : Nat → Int} {is : Nat → Bool} (h : Rw w A B now is) (i : Nat) (hi : i < 118) : w.cell? ⟨B, i, none⟩ = some (.bool (is i)) := by
  have := h.b i (.bool (is i)) (by have := rowB_at is i hi; simpa using this)
  simpa using this
theorem Rw.ltA {w : World} {A B : Nat} {now : Nat → Int} {is : Nat → Bool} (h : Rw w A B now is) : A < w.heap.size := block_lt_of_cell (h.cu 0 (by omega))
theorem Rw.ltB {w : World} {A B : Nat} {now : Nat → Int} {is : Nat → Bool} (h : Rw w A B now is) : B < w.heap.size := block_lt_of_cell (h.cb 0 (by omega))
theorem Rw.fr {S : Nat → Prop} {w w' : World} {A B : Nat} {now : Nat → Int} {is : Nat → Bool} (h : Rw w A B now is) (x : Fr S w w') (hA : ¬ S A) (hB : ¬ S B) : Rw w' A B now is :=
  ⟨fun j v hv => x.cell (h.u j v hv) hA, fun j v hv => x.cell (h.b j v hv) hB⟩
theorem Rw.on {w w' : World} {A B : Nat} {now : Nat → Int} {is : Nat → Bool} (h : Rw w A B now is) (x : Below w.heap.size w w') : Rw w' A B now is := h.fr (below_fr x (fun _ => False)) (fun e => e) (fun e => e)
/-- a law behind its fill -/
structure Pre6 (w0 w : World) (D : Dk) (T : Tx) (A B : Nat) (now : Nat → Int) (is : Nat → Bool) : Prop where
  ses : Ses w0 w D T
  rw : Rw w A B now is
  nA : ¬ T.all A ∧ ¬ D.all A ∧ w0.heap.size ≤ A
  nB : ¬ T.all B ∧ ¬ D.all B ∧ w0.heap.size ≤ B
  cnt : Cnt (fun _ => none) T.c now is
theorem Pre6.on {w0 w w' : World} {D : Dk} {T : Tx} {A B : Nat} {now : Nat → Int} {is : Nat → Bool} (h : Pre6 w0 w D T A B now is) (hb : Below w.heap.size w w') : Pre6 w0 w' D T A B now is := ⟨h.ses.on hb, h.rw.on hb, h.nA, h.nB, h.cnt⟩
end Go.Proofs.YtcbebalakdkgnaaGreatDoor

namespace Go.Proofs.YtcbebalakdkgnaaGreatDoor
open Go.RowKit Go.Maps Rec

theorem lst_le (c : Cm) (n : Nat) : (lst c n).length ≤ n := by
  have := List.length_filterMap_le c (List.range n)
  simpa [lst] using this
set_option maxRecDepth 100000 in
set_option maxHeartbeats 4000000 in
/-- an undo step is carried out -/
theorem undo_step (w : World) (t mb nb : Nat) (c : Cm) (u : Un) (hc1 : w.cell? ⟨t, 1, none⟩ = some (.map (some mb))) (hM : MapAt w mb c nb) (ok : COk c nb) (hU : UnAt w t u) (hi : u.i < nb) (hn : nb ≤ 16384) (hq : ∀ q, u.old = some q → q.n = (u.i : Int)) :
    Calls Tryz.prog 64 #[.pointer (some ⟨u.bw, 0, none⟩), .pointer (some ⟨u.bb, 0, none⟩), .pointer (some ⟨u.bt, 0, none⟩), .pointer (some ⟨u.bi, 0, none⟩)] w fun e w' => e = .returned (.tuple #[]) ∧ MapAt w' mb (ups c u.i u.old) nb ∧ Fr (fun k => k = mb) w w' := by
  obtain ⟨bw, bb, bt, bi, i, old⟩ := u
  obtain ⟨cw, cb, ct, ci, _⟩ := hU
  simp only at cw cb ct ci hi hq ⊢
  have hMd : MapAt w.drew mb c nb := hM.on (Below.refl _ w).drew
  cases old with
  | none =>
    obtain ⟨w6, hr, h1, h2⟩ := hMd.drop (i := i) ok hi (by omega) 0
    have H6 : Hid (MapAt w6 mb (ups c i none) nb ∧ Fr (fun k => k = mb) w w6) := ⟨h1, (below_fr (Below.refl _ w).drew (fun k => k = mb)).trans h2 (fun k hk => .inl hk)⟩
    have cw' : w.cell? ⟨bw, 0, none⟩ = some (.bool false) := cw
    clear h1 h2 cw cb hM hMd ok hq
    go_enter Tryz.func64, Tryz.ntmps64
    go_upto_region 2 with fail
    go_region
    all_goals
      go_wp2
      go_end0
      exact ⟨rfl, H6.out.1, H6.out.2⟩
  | some q =>
    have hqn : q.n = (i : Int) := hq q rfl
    obtain ⟨w6, hr, h1, h2⟩ := hMd.store (i := i) ok hi (by omega) q hqn (Nat.le_trans (lst_le _ _) (by omega))
    have H6 : Hid (MapAt w6 mb (ups c i (some q)) nb ∧ Fr (fun k => k = mb) w w6) := ⟨h1, (below_fr (Below.refl _ w).drew (fun k => k = mb)).trans h2 (fun k hk => .inl hk)⟩
    have cw' : w.cell? ⟨bw, 0, none⟩ = some (.bool true) := cw
    obtain ⟨qg, hqg⟩ : ∃ qg, q.g = qg := ⟨_, rfl⟩
    obtain ⟨qc, hqc⟩ : ∃ qc, q.c = qc := ⟨_, rfl⟩
    have cb' : w.cell? ⟨bb, 0, none⟩ = some (.slice (some ⟨qg, 0, none⟩) 512 qc) := by rw [← hqg, ← hqc]; exact cb
    have hr' : (Instr.mapUpdate 73 (.map (some mb)) (.int .i64 (i : Int)) (.slice (some ⟨qg, 0, none⟩) 512 qc)).run Tryz.prog w.drew = .ok () w6 := by rw [← hqg, ← hqc]; exact hr
    clear h1 h2 cw cb hM hMd ok hq hr hqg hqc hqn
    go_enter Tryz.func64, Tryz.ntmps64
    go_upto_region 1 with fail
    go_region
    all_goals
      go_wp2
      go_end0
      exact ⟨rfl, H6.out.1, H6.out.2⟩
end Go.Proofs.YtcbebalakdkgnaaGreatDoor
