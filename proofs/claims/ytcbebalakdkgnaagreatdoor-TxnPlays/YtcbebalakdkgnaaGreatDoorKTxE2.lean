import Derived.Test.YtcbebalakdkgnaaGreatDoorKTxBk
import Derived.Test.YtcbebalakdkgnaaGreatDoorKAChosen
namespace Go.Proofs.YtcbebalakdkgnaaGreatDoor
open Go.RowKit Go.Maps Rec

set_option maxRecDepth 100000 in
set_option maxHeartbeats 4000000 in
/-- a Write of a block that may not be -/
theorem twrite_blk (w : World) (T : Tx) (D : Dk) (h : TxAt w T) (hD : Disk w D) (hd : D.d = T.d) (hn : D.nb = T.nb) (i : Int) (hi : i < 98 ∨ (T.nb : Int) ≤ i) (v : Value) :
    Calls Tryz.prog 43 #[.pointer (some ⟨T.t, 0, none⟩), .int .i64 i, v] w fun e w' => e = .returned (.int .i64 31) ∧ Below w.heap.size w w' := by
  have HB0 : Hid (Below w.heap.size w ((w.alloc (.cells #[.pointer (some ⟨T.t, 0, none⟩)] 32)).alloc (.cells #[.int .i64 i] 3))) := ((Below.refl _ w).alloc (Nat.le_refl _) _).alloc (by simp) _
  have HMT : Hid (∀ wx, Below w.heap.size w wx → Calls Tryz.prog 56 #[.pointer (some ⟨T.t, 0, none⟩), .int .i64 i, .int .i64 98] wx fun e w' => e = .returned (.int .i64 31) ∧ wx = w') := fun wx hbx => by
    have := mayTouch_any wx T D (h.on hbx) (hD.on hbx) hd hn i 98
    rw [show touchT T.nb i 98 = 31 from by unfold touchT; rw [if_pos hi]] at this
    exact this
  clear h hD hd hn hi
  go_enter Tryz.func43, Tryz.ntmps43
  go_wp2_with (go_at_call 56; refine (HMT.out _ HB0.out).mono ?_; rintro e w' ⟨rfl, rfl⟩)
  go_ret
  exact ⟨rfl, HB0.out⟩
set_option maxRecDepth 100000 in
set_option maxHeartbeats 4000000 in
/-- .. of a block too many -/
theorem twrite_big (w : World) (T : Tx) (D : Dk) (h : TxAt w T) (hD : Disk w D) (hd : D.d = T.d) (hn : D.nb = T.nb) (i : Nat) (h0 : 98 ≤ i) (h1 : i < T.nb) (a : Option Addr) (c : Nat) (hci : T.c i = none) (h96 : (lst T.c T.nb).length = 96) :
    Calls Tryz.prog 43 #[.pointer (some ⟨T.t, 0, none⟩), .int .i64 (i : Int), .slice a 512 c] w fun e w' => e = .returned (.int .i64 60) ∧ Below w.heap.size w w' := by
  have HB0 : Hid (Below w.heap.size w ((w.alloc (.cells #[.pointer (some ⟨T.t, 0, none⟩)] 32)).alloc (.cells #[.int .i64 (i : Int)] 3))) := ((Below.refl _ w).alloc (Nat.le_refl _) _).alloc (by simp) _
  have HMT : Hid (∀ wx, Below w.heap.size w wx → Calls Tryz.prog 56 #[.pointer (some ⟨T.t, 0, none⟩), .int .i64 (i : Int), .int .i64 98] wx fun e w' => e = .returned (.int .i64 0) ∧ wx = w') := fun wx hbx => by
    have := mayTouch_any wx T D (h.on hbx) (hD.on hbx) hd hn (i : Int) 98
    rw [show touchT T.nb (i : Int) 98 = 0 from touchT_ok (first := 98) h0 h1] at this
    exact this
  have HT : Hid (TxAt w T) := h
  have hi16 : i ≤ 16384 := by have := h.n16; omega
  have HC : Hid (T.c i = none ∧ (lst T.c T.nb).length = 96) := ⟨hci, h96⟩
  clear h hD hd hn hci h96 h0 h1
  go_enter Tryz.func43, Tryz.ntmps43
  go_upto_region 6 with (go_at_call 56; refine (HMT.out _ HB0.out).mono ?_; rintro e w' ⟨rfl, rfl⟩)
  obtain ⟨wa, hwa⟩ : ∃ wa, (w.alloc (.cells #[.pointer (some ⟨T.t, 0, none⟩)] 32)).alloc (.cells #[.int .i64 (i : Int)] 3) = wa := ⟨_, rfl⟩
  have HBa : Hid (Below w.heap.size w wa) := by rw [← hwa]; exact HB0.out
  have hca : wa.cell? ⟨w.heap.size, 0, none⟩ = some (.pointer (some ⟨T.t, 0, none⟩)) := by rw [← hwa]; simp
  have hcb : wa.cell? ⟨w.heap.size + 1, 0, none⟩ = some (.int .i64 (i : Int)) := by rw [← hwa]; simp
  have hc1 : wa.cell? ⟨T.t, 1, none⟩ = some (.map (some T.mb)) := (HT.out.on HBa.out).cell 1
  have hs2 : wa.heap.size = w.heap.size + 2 := by rw [← hwa]; simp
  have HTa : Hid (TxAt wa T) := HT.out.on HBa.out
  rw [hwa]
  clear hwa HB0 HMT
  have hlk0 : ∀ wx, Below wa.heap.size wa wx → (Instr.lookup 73 (.map (some T.mb)) (.int .i64 (i : Int)) true).run Tryz.prog wx = .ok (.tuple #[.slice none 0 0, .bool false]) wx := fun wx hb => by
    have := (HTa.out.map.on hb).look HTa.out.ok i hi16
    rw [HC.out.1] at this
    exact this
  have hlk := hlk0 wa.drew (Below.refl _ wa).drew
  have hlkA := hlk0 (wa.alloc (.cells #[.slice none 0 0] 42)).drew ((Below.refl _ wa).alloc (Nat.le_refl _) _).drew
  have hlkB := hlk0 (wa.alloc (.cells #[.bool false] 4)).drew ((Below.refl _ wa).alloc (Nat.le_refl _) _).drew
  have hlkAB := hlk0 ((wa.alloc (.cells #[.slice none 0 0] 42)).alloc (.cells #[.bool false] 4)).drew (((Below.refl _ wa).alloc (Nat.le_refl _) _).alloc (by simp) _).drew
  have hlkBA := hlk0 ((wa.alloc (.cells #[.bool false] 4)).alloc (.cells #[.slice none 0 0] 42)).drew (((Below.refl _ wa).alloc (Nat.le_refl _) _).alloc (by simp) _).drew
  have hl1 : w.heap.size < wa.heap.size := by omega
  have hl2 : w.heap.size + 1 < wa.heap.size := by omega
  have hl3 : T.t < wa.heap.size := HTa.out.lt (.inl (.inl rfl))
  clear hlk0 hs2
  go_cut [8, 9] (fun s8 s9 wx => ∃ bb bw : Nat, s8 = .pointer (some ⟨bb, 0, none⟩) ∧ s9 = .pointer (some ⟨bw, 0, none⟩) ∧ Bx wa wx bb bw (.slice none 0 0) false)
  case first =>
    go_region
    all_goals
      go_wp2
      go_meet
      case rel => exact ⟨_, _, rfl, rfl, by first | exact bx_ab _ _ _ | exact bx_ba _ _ _⟩
  case rest =>
  obtain ⟨bb, bw, rfl, rfl, hbx⟩ := hcut
  have HX2 : Hid (Bx wa wc bb bw (.slice none 0 0) false) := hbx
  have HTc : Hid (TxAt wc T) := HTa.out.on hbx.bel
  have cw : wc.cell? ⟨bw, 0, none⟩ = some (.bool false) := by rw [cell_of_row _ _ _ _ _ _ hbx.w]; rfl
  have ca2 : wc.cell? ⟨w.heap.size, 0, none⟩ = some (.pointer (some ⟨T.t, 0, none⟩)) := (hbx.bel.cell hl1).trans hca
  have c12 : wc.cell? ⟨T.t, 1, none⟩ = some (.map (some T.mb)) := HTc.out.cell 1
  clear hlk hlkA hlkB hlkAB hlkBA hca hcb hc1 hbx
  have hlen : ∀ ty, (Builtin.len_ #[73] ty #[.map (some T.mb)]).run Tryz.prog wc = .ok (.int .i64 96) wc := fun ty => by
    have := HTc.out.map.len ty
    rw [HC.out.2] at this
    exact this
  go_upto_region 7 with (fail)
  go_wp2
  go_ret
  exact ⟨rfl, HBa.out.trans (HX2.out.bel.mono HBa.out.size)⟩
end Go.Proofs.YtcbebalakdkgnaaGreatDoor

namespace Go.Proofs.YtcbebalakdkgnaaGreatDoor
open Go.RowKit Go.Maps Go.Sort Go.Shelf Rec

theorem written_over (w : World) (t : Nat) (h : OverAt w t) :
    Calls Tryz.prog 35 #[.pointer (some ⟨t, 0, none⟩)] w fun e w' => e = .returned (.slice none 0 0) ∧ Below w.heap.size w w' := by
  refine (callsIn_wide (n := 6)).1 ?_
  have hc1 : w.cell? ⟨t, 1, none⟩ = some (.map none) := cell_of_row _ _ _ _ _ _ h
  have hseq : SeqGives Fence.wide 2 Tryz.prog 85 #[.pointer (some ⟨w.heap.size, 0, none⟩)] encZ (fun ss : List Int => ss = []) 0 (w.alloc (.cells #[.map none] 73)) :=
    AnyZI.keys_gives_nil (ρ := keysA_ren) { keysA with } Fence.wide _ trivial rfl w.heap.size _ (by simp) (by simp)
  have cK : ∀ mb W, CallsIn Fence.wide 5 Tryz.prog 61 #[.map mb] W fun e w' => e = .returned (.func (.func 85) #[] #[.pointer (some ⟨W.heap.size, 0, none⟩)]) ∧ w' = W.alloc (.cells #[.map mb] 73) := fun mb W => AnyZI.keys_in keysA Fence.wide 5 trivial rfl mb W
  have cS := AnyZI.sorted_in sortedA Fence.wide 5 trivial trivial trivial trivial rfl (by omega) (sortsA _) (enters_of Tryz.func84 (by kernel_rfl) rfl) 85 #[.pointer (some ⟨w.heap.size, 0, none⟩)] trivial (enters_of Tryz.func85 (by kernel_rfl) rfl) _ 0 (Nat.zero_le _) (by omega) _ hseq
  change CallsIn _ _ Tryz.prog 60 _ _ _ at cS
  have hfK : Fence.wide.fn 61 := trivial
  have hfS : Fence.wide.fn 60 := trivial
  clear hseq h
  refine callsIn_of_wp Tryz.func35 rfl trivial ?_ rfl
  simp only [Tryz.ntmps35, List.size_toArray, List.length_cons, List.length_nil, Nat.reduceAdd, Nat.reduceSub, Array.replicate_succ, Array.replicate_zero, List.push_toArray, List.append_toArray, List.nil_append, List.cons_append]
  gi_wp2_with (first
    | (gi_at_call 61; refine (cK _ _).mono ?_; rintro e w' ⟨rfl, rfl⟩)
    | (gi_at_call 60; refine cS.mono ?_; rintro e w' ⟨v, ss, rfl, rfl, hrow, hnil, hb⟩; obtain rfl : v = .slice none 0 0 := hnil.2 rfl))
  go_ret
  exact ⟨rfl, ((Below.refl _ w).alloc (Nat.le_refl _) _).trans (hb.mono (by simp))⟩
/-- numbers in memory -/
def IntsAt (w : World) (v : Value) (l : List Int) : Prop := ∃ a c, v = .slice a l.length c ∧ (l = [] ∨ ∃ g, a = some ⟨g, 0, none⟩ ∧ ∀ j x, l[j]? = some x → w.cell? ⟨g, j, none⟩ = some (.int .i64 x))
theorem IntsAt.on {w w' : World} {v : Value} {l : List Int} (h : IntsAt w v l) (hb : Below w.heap.size w w') : IntsAt w' v l := by
  obtain ⟨a, c, rfl, hl⟩ := h
  refine ⟨a, c, rfl, hl.imp id ?_⟩
  rintro ⟨g, rfl, hc⟩
  exact ⟨g, rfl, fun j x hx => (hb.cell (block_lt_of_cell (hc j x hx))).trans (hc j x hx)⟩
set_option maxRecDepth 100000 in
set_option maxHeartbeats 4000000 in
theorem sameInts_yes (w : World) (v1 v2 : Value) (l : List Int) (n : Nat) (hn : l.length = n) (hl : n ≤ 4000000) (h1 : IntsAt w v1 l) (h2 : IntsAt w v2 l) : Calls Tryz.prog 37 #[v1, v2] w fun e w' => e = .returned (.bool true) ∧ Below w.heap.size w w' := by
  obtain ⟨a, c, rfl, g1⟩ := h1
  obtain ⟨b, d, rfl, g2⟩ := h2
  have HG : Hid ((l = [] ∨ ∃ g, a = some ⟨g, 0, none⟩ ∧ ∀ j x, l[j]? = some x → w.cell? ⟨g, j, none⟩ = some (.int .i64 x)) ∧ (l = [] ∨ ∃ g, b = some ⟨g, 0, none⟩ ∧ ∀ j x, l[j]? = some x → w.cell? ⟨g, j, none⟩ = some (.int .i64 x))) := ⟨g1, g2⟩
  have HN : Hid (l.length = n) := hn
  rw [hn]
  clear g1 g2 hn
  go_enter Tryz.func37, Tryz.ntmps37
  go_upto_region 4 with (fail)
  go_loopw [13] (fun s wr => ∃ k : Nat, k ≤ n ∧ s = .int .i64 k ∧ Below w.heap.size w wr) (fun s _ => n - (intOf s).toNat)
  case atStart => exact ⟨0, Nat.zero_le _, rfl, by repeat (first | exact Below.refl _ _ | apply Below.drew)⟩
  case round =>
    obtain ⟨k, hk, rfl, hb⟩ := hrel
    have HB : Hid (Below w.heap.size w wr) := hb
    clear hb
    by_cases hlt : k < n
    · have hlen := HN.out
      obtain ⟨x, hx⟩ : ∃ x, l[k]? = some x := ⟨l[k]'(by omega), List.getElem?_eq_getElem _⟩
      have hne : l ≠ [] := fun e => by rw [e] at hx; simp at hx
      obtain ⟨ga, rfl, ca⟩ := HG.out.1.resolve_left hne
      obtain ⟨gb, rfl, cb⟩ := HG.out.2.resolve_left hne
      have e1 : wr.cell? ⟨ga, k, none⟩ = some (.int .i64 x) := (HB.out.cell (block_lt_of_cell (ca k x hx))).trans (ca k x hx)
      have e2 : wr.cell? ⟨gb, k, none⟩ = some (.int .i64 x) := (HB.out.cell (block_lt_of_cell (cb k x hx))).trans (cb k x hx)
      clear hlen hx hne ca cb
      go_upto_region 6 with (fail)
      go_region
      all_goals
        go_wp2
        exact ⟨⟨k + 1, hlt, rfl, by repeat (first | exact HB.out | apply Below.drew)⟩, by simp [intOf]; omega⟩
    · have hge : n ≤ k := by omega
      go_wp2
      go_ret
      exact ⟨rfl, HB.out⟩
theorem Cnt.val {c : Cm} {now : Nat → Int} {is : Nat → Bool} (h : Cnt (fun _ => none) c now is) (i : Nat) (h0 : 98 ≤ i) (h1 : i < 118) : valC c (fr6 118) i = one (now i) := by
  obtain ⟨_, a, b⟩ := h i h0 h1
  cases e : is i with
  | true =>
    obtain ⟨q, hq, hx⟩ := a e
    rw [valC_some hq, hx]
  | false =>
    obtain ⟨hq, hx⟩ := b e
    rw [valC_none hq, bck_fr6 _ _ h1, hx, v6, if_neg (by omega)]
theorem Cnt.is {c : Cm} {now : Nat → Int} {is : Nat → Bool} (h : Cnt (fun _ => none) c now is) (i : Nat) (h0 : 98 ≤ i) (h1 : i < 118) : is i = (c i).isSome := by
  obtain ⟨_, a, b⟩ := h i h0 h1
  cases e : is i with
  | true => obtain ⟨q, hq, hx⟩ := a e; rw [hq]; rfl
  | false => rw [(b e).1]; rfl
end Go.Proofs.YtcbebalakdkgnaaGreatDoor

namespace Go.Proofs.YtcbebalakdkgnaaGreatDoor
open Go.RowKit Go.Maps Rec

set_option maxRecDepth 100000 in
set_option maxHeartbeats 4000000 in
/-- a Back to a mark that is none -/
theorem tback_bad (w : World) (T : Tx) (h : TxAt w T) (i : Int) (hi : i < 0 ∨ (T.us.length : Int) < i) :
    Calls Tryz.prog 23 #[.pointer (some ⟨T.t, 0, none⟩), .int .i64 i] w fun e w' => e = .returned (.int .i64 62) ∧ w = w' := by
  have hc3 : w.cell? ⟨T.t, 3, none⟩ = some (.bool false) := h.cell 3
  obtain ⟨a, c, hv, _⟩ := owns_slice h.und
  obtain ⟨n, hn⟩ : ∃ n, T.us.length = n := ⟨_, rfl⟩
  have hc2 : w.cell? ⟨T.t, 2, none⟩ = some (.slice a n c) := by rw [← hn, ← hv]; exact h.cell 2
  rw [hn] at hi
  obtain ⟨t0, ht0⟩ : ∃ t0, T.t = t0 := ⟨_, rfl⟩
  rw [ht0] at hc2 hc3 ⊢
  clear h hv hn ht0
  rcases hi with hi | hi
  · go_enter Tryz.func23, Tryz.ntmps23
    go_wp2
    go_ret
    exact ⟨rfl, rfl⟩
  · have h0 : ¬ i < 0 := by omega
    have h00 : 0 ≤ i := by omega
    go_enter Tryz.func23, Tryz.ntmps23
    go_wp2
    go_ret
    exact ⟨rfl, rfl⟩
theorem IntsAt.fr {S : Nat → Prop} {w w' : World} {v : Value} {l : List Int} (h : IntsAt w v l) (x : Fr S w w') (hS : ∀ g, v.ownBlock = some g → ¬ S g) : IntsAt w' v l := by
  obtain ⟨a, c, rfl, hl⟩ := h
  refine ⟨a, c, rfl, hl.imp id ?_⟩
  rintro ⟨g, rfl, hc⟩
  exact ⟨g, rfl, fun j y hy => x.cell (hc j y hy) (hS g rfl)⟩
/-- a round of TxnBack -/
structure Rn (w0 w : World) (D : Dk) (T : Tx) (A B : Nat) (now : Nat → Int) (is : Nat → Bool) (v : Value) (l : List Int) : Prop where
  ses : Ses w0 w D T
  rw : Rw w A B now is
  nA : ¬ T.all A ∧ ¬ D.all A
  nB : ¬ T.all B ∧ ¬ D.all B
  ints : IntsAt w v l
  nL : ∀ g, v.ownBlock = some g → ¬ T.all g ∧ g < w.heap.size
theorem Rn.on {w0 w w' : World} {D : Dk} {T : Tx} {A B : Nat} {now : Nat → Int} {is : Nat → Bool} {v : Value} {l : List Int} (h : Rn w0 w D T A B now is v l) (hb : Below w.heap.size w w') : Rn w0 w' D T A B now is v l :=
  ⟨h.ses.on hb, h.rw.on hb, h.nA, h.nB, h.ints.on hb, fun g hg => ⟨(h.nL g hg).1, Nat.lt_of_lt_of_le (h.nL g hg).2 hb.size⟩⟩
theorem Rn.mv {w0 w w' : World} {D : Dk} {T T' : Tx} {A B : Nat} {now : Nat → Int} {is : Nat → Bool} {v : Value} {l : List Int} (h : Rn w0 w D T A B now is v l) (s : Ses w0 w' D T') (hm : TMv w T w' T') : Rn w0 w' D T' A B now is v l := by
  have hA := h.rw.ltA
  have hB := h.rw.ltB
  refine ⟨s, h.rw.fr hm.fr (fun e => h.nA.1 (.inl e)) (fun e => h.nB.1 (.inl e)), ⟨fun e => ?_, h.nA.2⟩, ⟨fun e => ?_, h.nB.2⟩, h.ints.fr hm.fr (fun g hg e => (h.nL g hg).1 (.inl e)), fun g hg => ⟨fun e => ?_, Nat.lt_of_lt_of_le (h.nL g hg).2 hm.fr.size⟩⟩
  · rcases hm.al _ e with e | e
    · exact h.nA.1 e
    · omega
  · rcases hm.al _ e with e | e
    · exact h.nB.1 e
    · omega
  · have h2 := h.nL g hg
    rcases hm.al _ e with e | e
    · exact h2.1 e
    · omega
end Go.Proofs.YtcbebalakdkgnaaGreatDoor

namespace Go.Proofs.YtcbebalakdkgnaaGreatDoor
open Go.RowKit Rec

/-- an act among the arguments -/
structure ActR where
  kind : Int
  b : Int
  a : Option Addr
  c : Nat
  x : List Int
def ActR.cells (q : ActR) : List Value := [.int .i64 q.kind, .int .i64 q.b, .slice q.a q.x.length q.c]
structure ActAt (w : World) (b off : Nat) (q : ActR) : Prop where
  f0 : w.cell? ⟨b, off, none⟩ = some (.int .i64 q.kind)
  f1 : w.cell? ⟨b, off + 1, none⟩ = some (.int .i64 q.b)
  f2 : w.cell? ⟨b, off + 2, none⟩ = some (.slice q.a q.x.length q.c)
structure Acts (w : World) (a0 : Option Addr) (L : List ActR) : Prop where
  at_ : L = [] ∨ ∃ b off, a0 = some ⟨b, off, none⟩ ∧ ∀ i q, L[i]? = some q → ActAt w b (off + i * 3) q
  each : ∀ q ∈ L, Bytes w q.a q.x
  len : L.length ≤ 3518437208780
theorem Acts.on {w w' : World} {a0 : Option Addr} {L : List ActR} (h : Acts w a0 L) (x : Below w.heap.size w w') : Acts w' a0 L := by
  refine ⟨?_, fun q hq => (h.each q hq).on x, h.len⟩
  rcases h.at_ with e | ⟨b, off, e, hc⟩
  · exact .inl e
  · have f := below_fr x (fun _ => False)
    exact .inr ⟨b, off, e, fun i q hq => ⟨f.cell (hc i q hq).f0 (fun e => e), f.cell (hc i q hq).f1 (fun e => e), f.cell (hc i q hq).f2 (fun e => e)⟩⟩
/-- what is wrong with an act -/
def actE (nb : Nat) (q : ActR) : Int := if q.kind = 1 then (if 0 ≤ q.b ∧ q.b < nb then (if q.x.length = 512 then 0 else 32) else 31) else if q.kind = 2 then 0 else 1
def AD.tk1 (a : AD) (q : ActR) : AD := if q.kind = 1 then a.write q.b.toNat q.x else a.flush
/-- behind so many acts -/
def AD.takes (a : AD) (L : List ActR) : Nat → AD
  | 0 => a
  | k + 1 => (a.takes L k).tk1 (L.getD k ⟨0, 0, none, 0, []⟩)
theorem LaI.take {a : AD} {m k : Nat} (h : LaI a m k) (q : ActR) (_ : actE m q = 0) : LaI (a.tk1 q) m (k + 1) := by
  unfold AD.tk1
  split
  · unfold AD.write
    rw [if_neg (by rw [h.at_]; decide)]
    show LaI (AD.tick _) _ _
    unfold AD.tick
    rw [if_neg (by show ¬ (0 : Int) < a.at_; rw [h.at_]; decide)]
    exact ⟨h.nb, h.len, by show (a.P ++ _).length ≤ _; have := h.P; simp; omega, by show (a.T ++ _).length ≤ _; have := h.T; simp; omega, by show a.wr + 1 ≤ _; have := h.wr; omega, by show a.fl ≤ _; have := h.fl; omega, h.at_, h.keep, h.down⟩
  · exact (h.next_f 0 0).1
def AD0 (nb : Nat) (l : List Int) : AD := ⟨nb, l, [], [], 0, 0, 0, [], false⟩
/-- what lasts of an image behind acts -/
def aft (nb : Nat) (l : List Int) (L : List ActR) (keep : List Bool) : List Int := (((AD0 nb l).takes L L.length).cut (kpOf keep)).las
structure AfW (w wr : World) (d nb : Nat) (l : List Int) (L : List ActR) (k : Nat) (D : Dk) : Prop where
  disk : Disk wr D
  ab : D.abs = (AD0 nb l).takes L k
  la : LaI D.abs nb k
  dd : D.d = d
  core : ∀ j, D.has j → w.heap.size ≤ j
  bel : Below w.heap.size w wr
theorem AfW.on {w wr wx : World} {d nb k : Nat} {l : List Int} {L : List ActR} {D : Dk} (h : AfW w wr d nb l L k D) (x : Below wr.heap.size wr wx) : AfW w wx d nb l L k D :=
  ⟨h.disk.on x, h.ab, h.la, h.dd, h.core, h.bel.trans (x.mono h.bel.size)⟩
end Go.Proofs.YtcbebalakdkgnaaGreatDoor

namespace Go.Proofs.YtcbebalakdkgnaaGreatDoor
open Go.RowKit Rec

/-- act number i -/
def actN (L : List ActR) (i : Nat) : ActR := L.getD i ⟨0, 0, none, 0, []⟩
/-- how many writes stand just ahead of act i -/
def numA (L : List ActR) : Nat → Nat
  | 0 => 0
  | i + 1 => if (actN L i).kind = 1 then numA L i + 1 else 0
/-- does write i last? -/
def lastsB (L : List ActR) (i : Nat) (keep : List Bool) : Bool := decide (∃ j, j < L.length ∧ i < j ∧ (actN L j).kind = 2) || kpOf keep (numA L i)
/-- the document's image behind i acts -/
def lft (l : List Int) (L : List ActR) (keep : List Bool) : Nat → List Int
  | 0 => l
  | i + 1 => if (actN L i).kind = 1 ∧ lastsB L i keep = true then wr (lft l L keep i) (actN L i).b.toNat (actN L i).x else lft l L keep i
/-- all writes -/
def alw (l : List Int) (L : List ActR) : Nat → List Int
  | 0 => l
  | i + 1 => if (actN L i).kind = 1 then wr (alw l L i) (actN L i).b.toNat (actN L i).x else alw l L i
/-- what is pending behind i acts -/
def pnd (L : List ActR) : Nat → List (Nat × List Int)
  | 0 => []
  | i + 1 => if (actN L i).kind = 1 then pnd L i ++ [((actN L i).b.toNat, (actN L i).x)] else []
/-- what has lasted behind i acts -/
def lsf (l : List Int) (L : List ActR) : Nat → List Int
  | 0 => l
  | i + 1 => if (actN L i).kind = 1 then lsf l L i else lay (fun _ => true) (fun k => ((pnd L i).getD k (0, [])).1) (fun k => ((pnd L i).getD k (0, [])).2) (lsf l L i) (pnd L i).length
theorem lay_cong {kp kp' : Nat → Bool} {f f' : Nat → Nat} {X X' : Nat → List Int} {l : List Int} {n : Nat} (h : ∀ k, k < n → kp k = kp' k ∧ f k = f' k ∧ X k = X' k) : lay kp f X l n = lay kp' f' X' l n := by
  induction n with
  | zero => rfl
  | succ n ih => rw [lay, lay, ih (fun k hk => h k (by omega)), (h n (by omega)).1, (h n (by omega)).2.1, (h n (by omega)).2.2]
theorem takes_shape (nb : Nat) (l : List Int) (L : List ActR) (k : Nat) : ((AD0 nb l).takes L k).las = lsf l L k ∧ ((AD0 nb l).takes L k).P = pnd L k ∧ ((AD0 nb l).takes L k).at_ = 0 := by
  induction k with
  | zero => exact ⟨rfl, rfl, rfl⟩
  | succ k ih =>
    obtain ⟨h1, h2, h3⟩ := ih
    have e : (AD0 nb l).takes L (k + 1) = ((AD0 nb l).takes L k).tk1 (actN L k) := rfl
    rw [e]
    generalize (AD0 nb l).takes L k = A at *
    unfold AD.tk1
    rw [lsf, pnd]
    by_cases c : (actN L k).kind = 1
    · rw [if_pos c, if_pos c, if_pos c]
      have : A.write (actN L k).b.toNat (actN L k).x = { A with P := A.P ++ [((actN L k).b.toNat, (actN L k).x)], T := A.T ++ [(1, ((actN L k).b.toNat : Int), (actN L k).x)], wr := A.wr + 1 } := by
        unfold AD.write
        simp only [h3]
        simp [AD.tick]
      rw [this]
      exact ⟨h1, by rw [h2], h3⟩
    · rw [if_neg c, if_neg c, if_neg c]
      have : A.flush = ({ A with fl := A.fl + 1, T := A.T ++ [(2, 0, [])] } : AD).settle (fun _ => true) := by
        unfold AD.flush
        simp only [h3]
        simp [AD.tick]
      rw [this]
      refine ⟨?_, rfl, h3⟩
      show lay (fun _ => true) _ _ A.las A.P.length = _
      rw [h1, h2]
      refine lay_cong fun k _ => ⟨rfl, ?_, ?_⟩
      · simp [AD.f]
      · simp [AD.X]
theorem lay_snoc (kp : Nat → Bool) (P : List (Nat × List Int)) (p : Nat × List Int) (l : List Int) (h : kp P.length = true) : lay kp (fun k => ((P ++ [p]).getD k (0, [])).1) (fun k => ((P ++ [p]).getD k (0, [])).2) l (P ++ [p]).length = wr (lay kp (fun k => (P.getD k (0, [])).1) (fun k => (P.getD k (0, [])).2) l P.length) p.1 p.2 := by
  rw [List.length_append, List.length_singleton, lay, if_pos h]
  congr 1
  · refine lay_cong fun k hk => ⟨rfl, ?_, ?_⟩ <;> simp [List.getD, List.getElem?_append, hk]
  · simp [List.getD]
  · simp [List.getD]
theorem lsf_alw (l : List Int) (L : List ActR) (k : Nat) : lay (fun _ => true) (fun i => ((pnd L k).getD i (0, [])).1) (fun i => ((pnd L k).getD i (0, [])).2) (lsf l L k) (pnd L k).length = alw l L k := by
  induction k with
  | zero => rfl
  | succ k ih =>
    rw [pnd, lsf, alw]
    by_cases c : (actN L k).kind = 1
    · rw [if_pos c, if_pos c, if_pos c, lay_snoc _ _ _ _ rfl, ih]
    · rw [if_neg c, if_neg c, if_neg c, ← ih]; rfl
/-- behind the last flush -/
theorem last_flush (L : List ActR) (n : Nat) : ∃ m, m ≤ n ∧ (∀ i, m ≤ i → i < n → (actN L i).kind = 1) ∧ (m = 0 ∨ ¬ (actN L (m - 1)).kind = 1) := by
  induction n with
  | zero => exact ⟨0, Nat.le_refl _, fun i h1 h2 => by omega, .inl rfl⟩
  | succ n ih =>
    by_cases c : (actN L n).kind = 1
    · obtain ⟨m, h1, h2, h3⟩ := ih
      refine ⟨m, by omega, fun i hi hj => ?_, h3⟩
      by_cases e : i = n
      · subst e; exact c
      · exact h2 i hi (by omega)
    · exact ⟨n + 1, Nat.le_refl _, fun i h1 h2 => by omega, .inr c⟩
theorem behind_last (l : List Int) (L : List ActR) (m : Nat) (h3 : m = 0 ∨ ¬ (actN L (m - 1)).kind = 1) (t : Nat) (h2 : ∀ i, m ≤ i → i < m + t → (actN L i).kind = 1) :
    lsf l L (m + t) = alw l L m ∧ (pnd L (m + t)).length = t ∧ numA L (m + t) = t ∧ ∀ k, k < t → (pnd L (m + t)).getD k (0, []) = ((actN L (m + k)).b.toNat, (actN L (m + k)).x) := by
  induction t with
  | zero =>
    rw [Nat.add_zero]
    rcases h3 with rfl | h3
    · exact ⟨rfl, rfl, rfl, fun k hk => by omega⟩
    · cases m with
      | zero => exact ⟨rfl, rfl, rfl, fun k hk => by omega⟩
      | succ m =>
        rw [Nat.add_sub_cancel] at h3
        rw [lsf, pnd, numA, alw, if_neg h3, if_neg h3, if_neg h3, if_neg h3]
        exact ⟨lsf_alw l L m, rfl, rfl, fun k hk => by omega⟩
  | succ t ih =>
    have ih := ih (fun i h1 h2' => h2 i h1 (by omega))
    have c := h2 (m + t) (by omega) (by omega)
    rw [← Nat.add_assoc, lsf, pnd, numA, if_pos c, if_pos c, if_pos c]
    refine ⟨ih.1, by rw [List.length_append, ih.2.1]; rfl, by rw [ih.2.2.1], fun k hk => ?_⟩
    by_cases e : k = t
    · subst e
      simp [List.getD, ih.2.1]
    · have := ih.2.2.2 k (by omega)
      rw [← this]
      simp [List.getD, List.getElem?_append, ih.2.1, show k < t by omega]
/-- the document's image is what the disk leaves -/
theorem aft_lft (nb : Nat) (l : List Int) (L : List ActR) (keep : List Bool) (hk : ∀ i, i < L.length → (actN L i).kind = 1 ∨ (actN L i).kind = 2) : aft nb l L keep = lft l L keep L.length := by
  obtain ⟨m, hm, h2, h3⟩ := last_flush L L.length
  obtain ⟨t, ht⟩ : ∃ t, L.length = m + t := ⟨L.length - m, by omega⟩
  have hs := takes_shape nb l L L.length
  have hb := behind_last l L m h3 t (fun i h1 h4 => h2 i h1 (by omega))
  have hlow : ∀ i, i ≤ m → lft l L keep i = alw l L i := by
    intro i
    induction i with
    | zero => intro _; rfl
    | succ i ih =>
      intro hi
      rw [lft, alw, ih (by omega)]
      by_cases c : (actN L i).kind = 1
      · have hla : lastsB L i keep = true := by
          unfold lastsB
          rw [Bool.or_eq_true, decide_eq_true_eq]
          left
          rcases h3 with h3 | h3
          · omega
          · have hne : i ≠ m - 1 := fun e => h3 (by rw [← e]; exact c)
            refine ⟨m - 1, by omega, by omega, ?_⟩
            rcases hk (m - 1) (by omega) with h | h
            · exact absurd h h3
            · exact h
        rw [if_pos ⟨c, hla⟩, if_pos c]
      · rw [if_neg (fun h => c h.1), if_neg c]
  have hhigh : ∀ s, s ≤ t → lft l L keep (m + s) = lay (kpOf keep) (fun k => (actN L (m + k)).b.toNat) (fun k => (actN L (m + k)).x) (alw l L m) s := by
    intro s
    induction s with
    | zero => intro _; exact hlow m (Nat.le_refl _)
    | succ s ih =>
      intro hs'
      have c := h2 (m + s) (by omega) (by omega)
      have hnum := (behind_last l L m h3 s (fun i h1 h4 => h2 i h1 (by omega))).2.2.1
      have hla : lastsB L (m + s) keep = kpOf keep s := by
        unfold lastsB
        rw [hnum]
        have : ¬ ∃ j, j < L.length ∧ m + s < j ∧ (actN L j).kind = 2 := by
          rintro ⟨j, j1, j2, j3⟩
          have := h2 j (by omega) j1
          omega
        rw [decide_eq_false this, Bool.false_or]
      rw [← Nat.add_assoc, lft, lay, ih (by omega), hla]
      by_cases d : kpOf keep s = true
      · rw [if_pos ⟨c, d⟩, if_pos d]
      · rw [if_neg (fun h => d h.2), if_neg d]
  unfold aft AD.cut AD.settle
  show lay (kpOf keep) _ _ ((AD0 nb l).takes L L.length).las ((AD0 nb l).takes L L.length).P.length = _
  rw [hs.1, hs.2.1, ht, hb.1, hb.2.1, hhigh t (Nat.le_refl _)]
  refine lay_cong fun k hk' => ⟨rfl, ?_, ?_⟩
  · show (((AD0 nb l).takes L (m + t)).P.getD k (0, [])).1 = _
    rw [← ht, hs.2.1, ht, hb.2.2.2 k hk']
  · show (((AD0 nb l).takes L (m + t)).P.getD k (0, [])).2 = _
    rw [← ht, hs.2.1, ht, hb.2.2.2 k hk']
end Go.Proofs.YtcbebalakdkgnaaGreatDoor

namespace Go.Proofs.YtcbebalakdkgnaaGreatDoor
open Go.RowKit Rec

end Go.Proofs.YtcbebalakdkgnaaGreatDoor

namespace Go.Proofs.YtcbebalakdkgnaaGreatDoor
open Go.RowKit Rec

set_option maxRecDepth 100000 in
set_option maxHeartbeats 800000 in
theorem copied_any (w : World) (p : Addr) (n c : Nat) (l : List Int) (hb : Bytes w (some p) l) (hl : l.length = n) (h0 : 0 < n) (h47 : n ≤ 140737488351232) :
    Calls Tryz.prog 62 #[.slice (some p) n c] w fun e w' => ∃ g cap, e = .returned (.slice (some ⟨g, 0, none⟩) n cap) ∧ w.heap.size ≤ g ∧ OwnB w' g cap l ∧ Below w.heap.size w w' := by
  have HB : Hid (Bytes w (some p) l) := hb
  have HL : Hid (l.length = n) := hl
  clear hb hl
  go_enter Tryz.func62, Tryz.ntmps62
  go_wp2_with (at_builtin; refine wp_bown rfl (.tmp 4) (.tmp 5) rfl (.slice none 0 0) 0 [] rfl ⟨rfl, .inl ⟨rfl, rfl⟩⟩ p n c l rfl h0 HL.out HB.out (by omega) ?_; intro g cap w2 ho hf hg; have H2 : Hid (w.heap.size ≤ g ∧ OwnB w2 g cap l ∧ Below w.heap.size w w2) := ⟨hg.elim (fun e => by cases e) id, ownB_of (n := n) (by simpa using ho) HL.out (by omega) HB.out.wf, hf.below _ (fun j hj => by cases hj) (Nat.le_refl _)⟩; clear ho hf hg)
  go_ret
  exact ⟨_, _, by first | rfl | (rw [Nat.zero_add]; rfl), H2.out⟩
end Go.Proofs.YtcbebalakdkgnaaGreatDoor
