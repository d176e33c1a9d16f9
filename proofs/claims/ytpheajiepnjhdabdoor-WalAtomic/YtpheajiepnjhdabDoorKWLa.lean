import Derived.Test.YtpheajiepnjhdabDoorWRe
namespace Go.Proofs.YtpheajiepnjhdabDoor
open Go.RowKit Rec

set_option maxRecDepth 100000 in
set_option maxHeartbeats 800000 in
theorem wmod_any (w : World) (v : Int) (n : Nat) (h0 : 0 < n) (h1 : n ≤ 1000000000) :
    Calls Tryd.prog 23 #[.int .i64 v, .int .i64 n] w fun e w' => e = .returned (.int .i64 (v % n)) ∧ w = w' := by
  go_enter Tryd.func23, Tryd.ntmps23
  by_cases h : v.tmod n < 0
  · have h2 : -(n : Int) ≤ v.tmod n := by
      have := tmod_neg v n h0 h
      have := Int.emod_nonneg v (b := n) (by omega)
      omega
    go_wp2
    go_ret
    refine ⟨?_, rfl⟩
    show Ending.returned (Value.int IntKind.i64 (v.tmod n + n)) = _
    rw [tmod_neg v n h0 h]
  · go_wp2
    go_ret
    refine ⟨?_, rfl⟩
    show Ending.returned (Value.int IntKind.i64 (v.tmod n)) = _
    rw [tmod_pos v n h0 (by omega)]
/-- 512 bytes: some at the front -/
def blkOf (of : List Int) (y : Int) (k : Nat) : List Int := (List.range k).map fun i => if i < of.length then nth of i else y
theorem blkOf_length (of : List Int) (y : Int) (k : Nat) : (blkOf of y k).length = k := by simp [blkOf]
theorem blkOf_succ (of : List Int) (y : Int) (k : Nat) : blkOf of y (k + 1) = blkOf of y k ++ [if k < of.length then nth of k else y] := by
  unfold blkOf; rw [List.range_succ, List.map_append]; rfl
theorem nth_blkOf (of : List Int) (y : Int) (k i : Nat) (hi : i < k) : nth (blkOf of y k) i = if i < of.length then nth of i else y := by
  simp [blkOf, nth, List.getD, hi]
theorem blkOf_wf (of : List Int) (y : Int) (k : Nat) (h : ∀ i, 0 ≤ nth of i ∧ nth of i < 256) (hy : 0 ≤ y ∧ y < 256) : ∀ i, 0 ≤ nth (blkOf of y k) i ∧ nth (blkOf of y k) i < 256 := fun i => by
  by_cases hi : i < k
  · rw [nth_blkOf _ _ _ _ hi]; split
    · exact h i
    · exact hy
  · rw [nth_out _ _ (by rw [blkOf_length]; omega)]; omega
theorem new1 (w : World) (x : Int) (hx : 0 ≤ x ∧ x < 256) : Bytes (w.alloc (.cells #[.int .u8 x] 5)) (some ⟨w.heap.size, 0, none⟩) [x] := by
  refine ⟨by simp, fun i => ?_, .inr ⟨_, _, rfl, fun i hi => ?_⟩⟩
  · cases i with
    | zero => exact hx
    | succ i => rw [nth_out _ _ (by simp)]; omega
  · have : i = 0 := by simpa using hi
    subst this
    rw [cell_of_row _ _ _ _ _ _ (heap_alloc_new _ _)]; rfl
set_option maxRecDepth 100000 in
set_option maxHeartbeats 4000000 in
theorem wblock_any (w : World) (a : Option Addr) (n c : Nat) (of : List Int) (y : Int) (hB : Bytes w a of) (hn : of.length = n) (hy : 0 ≤ y ∧ y < 256) :
    Calls Tryd.prog 19 #[.slice a n c, .int .u8 y] w fun e w' => ∃ g cap, e = .returned (.slice (some ⟨g, 0, none⟩) 512 cap) ∧ OwnB w' g cap (blkOf of y 512) ∧ w.heap.size ≤ g ∧ Below w.heap.size w w' := by
  have HB : Hid (Bytes w a of) := hB
  have HN : Hid (of.length = n) := hn
  have HY : Hid (0 ≤ y ∧ y < 256) := hy
  have hl := hB.len
  rw [hn] at hl
  clear hB hn
  go_enter Tryd.func19, Tryd.ntmps19
  go_wp2
  go_loopw [5, 6] (fun s5 s6 wr => ∃ j : Nat, j ≤ 512 ∧ s6 = .int .i64 j ∧ wr.ownsRow 0 5 1 s5 j ((blkOf of y j).map (Value.int .u8)) ∧ (∀ b, s5.ownBlock = some b → w.heap.size ≤ b) ∧ Below w.heap.size w wr) (fun _ s _ => 512 - (intOf s).toNat)
  case atStart => exact ⟨0, by omega, rfl, ⟨rfl, .inl ⟨rfl, rfl⟩⟩, (fun b h => by cases h), Below.refl _ _⟩
  case round =>
    obtain ⟨j, hj, rfl, ho, hfar, hb⟩ := hrel
    have HR : Hid (wr.ownsRow 0 5 1 u5 j ((blkOf of y j).map (Value.int .u8)) ∧ (∀ b, u5.ownBlock = some b → w.heap.size ≤ b) ∧ Below w.heap.size w wr) := ⟨ho, hfar, hb⟩
    clear ho hfar hb
    by_cases hlt : j < 512
    · by_cases hin : j < n
      · obtain ⟨b, off, rfl, hc⟩ : ∃ b off, a = some ⟨b, off, none⟩ ∧ wr.cell? ⟨b, off + j, none⟩ = some (.int .u8 (nth of j)) := by
          rcases HB.out.at_ with e | ⟨b, off, rfl, hc⟩
          · have := HN.out; rw [e] at this; simp at this; omega
          · exact ⟨b, off, rfl, (HR.out.2.2.cell (block_lt_of_cell (hc j (by rw [HN.out]; exact hin)))).trans (hc j (by rw [HN.out]; exact hin))⟩
        have HX : Hid (blkOf of y (j + 1) = blkOf of y j ++ [nth of j]) := by rw [blkOf_succ, if_pos (by rw [HN.out]; exact hin)]; rfl
        have HWx : Hid (0 ≤ nth of j ∧ nth of j < 256) := HB.out.wf j
        generalize nth of j = x at hc HX HWx
        have HA : Hid (Below wr.heap.size wr (wr.alloc (.cells #[.int .u8 x] 5))) := (Below.refl _ _).alloc (Nat.le_refl _) _
        go_wp2_with (at_builtin; refine wp_bown rfl (.tmp 15) (.tmp 20) rfl u5 j (blkOf of y j) rfl (owns_on HR.out.1 HA.out) ⟨wr.heap.size, 0, none⟩ 1 1 [x] rfl (by omega) rfl (new1 wr x HWx.out) (by omega) ?_; intro g3 cap3 w3 ho hf hg; have H3 : Hid (w3.ownsRow 0 5 1 (.slice (some ⟨g3, 0, none⟩) (j + 1) cap3) (j + 1) ((blkOf of y (j + 1)).map (Value.int .u8)) ∧ w.heap.size ≤ g3 ∧ Below w.heap.size w w3) := ⟨(by rw [HX.out]; exact ho), hg.elim (HR.out.2.1 g3) (fun e => Nat.le_trans (Nat.le_trans HR.out.2.2.size HA.out.size) e), (HR.out.2.2.trans (HA.out.mono HR.out.2.2.size)).trans (hf.below _ HR.out.2.1 (Nat.le_trans HR.out.2.2.size HA.out.size))⟩; clear ho hf hg)
        go_round
        case rel => exact ⟨j + 1, by omega, by go_num, H3.out.1, (fun b hb => by cases hb; exact H3.out.2.1), H3.out.2.2⟩
        case measure => simp [intOf]; omega
      · have HX : Hid (blkOf of y (j + 1) = blkOf of y j ++ [y]) := by rw [blkOf_succ, if_neg (by rw [HN.out]; exact hin)]; rfl
        have HA : Hid (Below wr.heap.size wr (wr.alloc (.cells #[.int .u8 y] 5))) := (Below.refl _ _).alloc (Nat.le_refl _) _
        go_wp2_with (at_builtin; refine wp_bown rfl (.tmp 22) (.tmp 24) rfl u5 j (blkOf of y j) rfl (owns_on HR.out.1 HA.out) ⟨wr.heap.size, 0, none⟩ 1 1 [y] rfl (by omega) rfl (new1 wr y HY.out) (by omega) ?_; intro g3 cap3 w3 ho hf hg; have H3 : Hid (w3.ownsRow 0 5 1 (.slice (some ⟨g3, 0, none⟩) (j + 1) cap3) (j + 1) ((blkOf of y (j + 1)).map (Value.int .u8)) ∧ w.heap.size ≤ g3 ∧ Below w.heap.size w w3) := ⟨(by rw [HX.out]; exact ho), hg.elim (HR.out.2.1 g3) (fun e => Nat.le_trans (Nat.le_trans HR.out.2.2.size HA.out.size) e), (HR.out.2.2.trans (HA.out.mono HR.out.2.2.size)).trans (hf.below _ HR.out.2.1 (Nat.le_trans HR.out.2.2.size HA.out.size))⟩; clear ho hf hg)
        go_round
        case rel => exact ⟨j + 1, by omega, by go_num, H3.out.1, (fun b hb => by cases hb; exact H3.out.2.1), H3.out.2.2⟩
        case measure => simp [intOf]; omega
    · have e : j = 512 := by omega
      subst e
      obtain ⟨g, cap, e⟩ := own_some HR.out.1 (by omega)
      subst e
      go_wp2
      go_ret
      exact ⟨g, cap, rfl, ownB_of HR.out.1 (blkOf_length _ _ _) (by omega) (blkOf_wf _ _ _ HB.out.wf HY.out), HR.out.2.1 g rfl, HR.out.2.2⟩
set_option maxRecDepth 100000 in
theorem sameBytes_yes (w : World) (a b : Option Addr) (n c d : Nat) (l : List Int) (h1 : Bytes w a l) (h2 : Bytes w b l) (hn : l.length = n) :
    Calls Tryd.prog 21 #[.slice a n c, .slice b n d] w fun e w' => e = .returned (.bool true) ∧ w = w' := by
  have e1 : (convert 32 9 (.slice a n c)).run Tryd.prog w = .ok (.string (strOfNums l)) w := str_opt h1 hn
  have e2 : (convert 32 9 (.slice b n d)).run Tryd.prog w = .ok (.string (strOfNums l)) w := str_opt h2 hn
  clear h1 h2 hn
  go_enter Tryd.func21, Tryd.ntmps21
  go_wp2
  go_ret
  exact ⟨rfl, rfl⟩
end Go.Proofs.YtpheajiepnjhdabDoor

namespace Go.Proofs.YtpheajiepnjhdabDoor
open Go.RowKit Rec

theorem bytes_drop {w : World} {g off : Nat} {l : List Int} (h : Bytes w (some ⟨g, off, none⟩) l) (k : Nat) : Bytes w (some ⟨g, off + k, none⟩) (l.drop k) := by
  have e : ∀ i, nth (l.drop k) i = nth l (k + i) := fun i => by simp [nth, List.getD]
  refine ⟨by have := h.len; rw [List.length_drop]; omega, fun i => by rw [e]; exact h.wf _, .inr ⟨g, off + k, rfl, fun i hi => ?_⟩⟩
  rw [List.length_drop] at hi
  rw [e, Nat.add_assoc]
  exact h.cell (by omega)
theorem bytes_end {w : World} {g : Nat} {l : List Int} (h : Bytes w (some ⟨g, 0, none⟩) l) (c : Nat) (hc : l.length ≤ c) : Bytes w (if c = 50176 then some ⟨g, 0, none⟩ else some ⟨g, 50176, none⟩) (l.drop 50176) := by
  have := bytes_drop h 50176
  rw [Nat.zero_add] at this
  split
  · have e : l.drop 50176 = [] := List.drop_eq_nil_of_le (by omega)
    rw [e] at this ⊢
    exact ⟨this.len, this.wf, .inl rfl⟩
  · exact this
theorem like_take {nb : Nat} {l m : List Int} (h : Like nb l m) (hl : l.length = 512 * nb) (hm : m.length = 512 * nb) (hn : 98 ≤ nb) : l.take 1024 = m.take 1024 ∧ l.drop 50176 = m.drop 50176 := by
  have key : ∀ i, i < 512 * nb → (i < 1024 ∨ 50176 ≤ i) → nth l i = nth m i := fun i hi hc => by
    have := congrArg (fun z => nth z (i % 512)) (h (i / 512) (by omega) (by omega))
    simp only [nth_bck _ _ _ (Nat.mod_lt i (by omega : 0 < 512))] at this
    rwa [Nat.div_add_mod] at this
  constructor
  · refine ext_nth (by simp [hl, hm]) fun i hi => ?_
    rw [List.length_take] at hi
    rw [nth_take _ _ _ (by omega), nth_take _ _ _ (by omega)]
    exact key i (by omega) (.inl (by omega))
  · refine ext_nth (by simp [hl, hm]) fun i hi => ?_
    rw [List.length_drop] at hi
    have e : ∀ (z : List Int), nth (z.drop 50176) i = nth z (50176 + i) := fun z => by simp [nth, List.getD]
    rw [e, e]
    exact key _ (by omega) (.inr (by omega))
set_option maxRecDepth 100000 in
set_option maxHeartbeats 4000000 in
theorem sameBut_yes (w : World) (g1 g2 c1 c2 nb : Nat) (l m : List Int) (h1 : Bytes w (some ⟨g1, 0, none⟩) l) (h2 : Bytes w (some ⟨g2, 0, none⟩) m) (hl : l.length = 512 * nb) (hm : m.length = 512 * nb) (hn : 98 ≤ nb) (hnb : nb ≤ 16384) (hc1 : 512 * nb ≤ c1) (hc2 : 512 * nb ≤ c2) (ht1 : c1 ≤ 9223372036854775807) (ht2 : c2 ≤ 9223372036854775807) (hk : Like nb l m) :
    Calls Tryd.prog 14 #[.slice (some ⟨g1, 0, none⟩) (512 * nb : Nat) c1, .slice (some ⟨g2, 0, none⟩) (512 * nb : Nat) c2] w fun e w' => e = .returned (.bool true) ∧ Below w.heap.size w w' := by
  obtain ⟨k1, k2⟩ := like_take hk hl hm hn
  have e1 : ∀ j, (convert 32 9 (.slice (some ⟨g1, 0, none⟩) 1024 c1)).run Tryd.prog (w.drewN j) = .ok (.string (strOfNums (m.take 1024))) (w.drewN j) := fun j => by
    rw [← k1]; exact str_opt ((h1.take 1024).on (below_drewN (Below.refl _ w) j)) (by rw [List.length_take]; omega)
  have e2 : ∀ j, (convert 32 9 (.slice (some ⟨g2, 0, none⟩) 1024 c2)).run Tryd.prog (w.drewN j) = .ok (.string (strOfNums (m.take 1024))) (w.drewN j) := fun j => str_opt ((h2.take 1024).on (below_drewN (Below.refl _ w) j)) (by rw [List.length_take]; omega)
  have e3 : ∀ j, (convert 32 9 (.slice (if c1 = 50176 then some ⟨g1, 0, none⟩ else some ⟨g1, 50176, none⟩) (512 * nb - 50176) (c1 - 50176))).run Tryd.prog (w.drewN j) = .ok (.string (strOfNums (m.drop 50176))) (w.drewN j) := fun j => by
    rw [← k2]
    have := bytes_end h1 c1 (by omega)
    exact str_opt (this.on (below_drewN (Below.refl _ w) j)) (by rw [List.length_drop]; omega)
  have e4 : ∀ j, (convert 32 9 (.slice (if c2 = 50176 then some ⟨g2, 0, none⟩ else some ⟨g2, 50176, none⟩) (512 * nb - 50176) (c2 - 50176))).run Tryd.prog (w.drewN j) = .ok (.string (strOfNums (m.drop 50176))) (w.drewN j) := fun j => by
    have := bytes_end h2 c2 (by omega)
    exact str_opt (this.on (below_drewN (Below.refl _ w) j)) (by rw [List.length_drop]; omega)
  clear h1 h2 hl hm hk k1 k2
  generalize strOfNums (m.take 1024) = S1 at *
  generalize strOfNums (m.drop 50176) = S2 at *
  obtain ⟨N, hN⟩ : ∃ N, 512 * nb = N := ⟨_, rfl⟩
  have n1 : ¬ (N : Int) < 50176 := by omega
  have n2 : N ≤ 8388608 := by omega
  rw [hN] at e3 e4 hc1 hc2 ⊢
  have n3 : 50176 ≤ N := by omega
  have n4 : (1024 : Int) ≤ c1 := by omega
  have n5 : (1024 : Int) ≤ c2 := by omega
  have n6 : (50176 : Int) ≤ N := by omega
  have n7 : N ≤ c1 := by omega
  have n8 : N ≤ c2 := by omega
  clear hN hn hnb
  go_enter Tryd.func14, Tryd.ntmps14
  go_wp2
  go_quiet (fail)
  go_wp2
  all_goals
    go_ret
    exact ⟨rfl, below_drewN (Below.refl _ w) _⟩
end Go.Proofs.YtpheajiepnjhdabDoor
