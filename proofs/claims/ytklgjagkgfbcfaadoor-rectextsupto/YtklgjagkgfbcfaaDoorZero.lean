import Derived.Test.YtklgjagkgfbcfaaDoorPut
namespace Go.Proofs.YtklgjagkgfbcfaaDoor
open Go.RowKit Rec

/-- n bytes from A on -/
def fld (l : List Int) (A N : Nat) : List Int := (l.drop A).take N
theorem fld_length (l : List Int) (A N : Nat) (h : A + N ≤ l.length) : (fld l A N).length = N := by unfold fld; rw [List.length_take, List.length_drop]; omega
theorem nth_fld (l : List Int) (A N i : Nat) (h : i < N) : nth (fld l A N) i = nth l (A + i) := by unfold fld; rw [nth_take _ _ _ h, nth_drop]
theorem zr_fld (l : List Int) (A N : Nat) : zr (fld l A N) 0 N = zr l A N := by
  unfold zr
  refine decide_eq_decide.2 (forall_congr' fun i => ⟨fun h hi => ?_, fun h hi => ?_⟩)
  · have := h hi; rwa [Nat.zero_add, nth_fld _ _ _ _ hi] at this
  · rw [Nat.zero_add, nth_fld _ _ _ _ hi]; exact h hi
theorem fz_fld (l : List Int) (A N : Nat) : fz (fld l A N) 0 N = fz l A N := by
  obtain ⟨h1, h2, h3⟩ := fz_spec l A N
  refine fz_eq _ _ _ _ h1 (fun i hi => ?_) (fun h => ?_)
  · rw [Nat.zero_add, nth_fld _ _ _ _ (by omega)]; exact h2 i hi
  · rw [Nat.zero_add, nth_fld _ _ _ _ h]; exact h3 h
theorem wf_fld {l : List Int} (h : ∀ i, 0 ≤ nth l i ∧ nth l i < 256) (A N : Nat) : ∀ i, 0 ≤ nth (fld l A N) i ∧ nth (fld l A N) i < 256 := wf_take (wf_drop h A) N
theorem OwnB.wf_left {w : World} {g cap : Nat} {l r : List Int} (h : OwnB w g cap (l ++ r)) : ∀ i, 0 ≤ nth l i ∧ nth l i < 256 := fun i => by
  by_cases hi : i < l.length
  · have := h.wf i
    have e : nth (l ++ r) i = nth l i := by simp [nth, List.getD, List.getElem?_append, hi]
    rwa [e] at this
  · rw [nth_out _ _ (by omega)]; omega
theorem OwnB.field {w : World} {g cap A N B : Nat} {l r : List Int} (h : OwnB w g cap (l ++ r)) (hA : A + N ≤ l.length) (hB : B = A ∨ N = 0) : Bytes w (some ⟨g, B, none⟩) (fld l A N) := by
  have hl := h.len
  rw [List.length_append] at hl
  refine ⟨by rw [fld_length l A N hA]; omega, wf_fld h.wf_left A N, ?_⟩
  rcases hB with rfl | rfl
  · refine .inr ⟨g, B, rfl, fun i hi => ?_⟩
    rw [fld_length l B N hA] at hi
    rw [nth_fld _ _ _ _ hi, h.cell (B + i) (by rw [List.length_append]; omega)]
    have : B + i < l.length := by omega
    simp [nth, List.getD, List.getElem?_append, this]
  · exact .inl (by simp [fld])

set_option maxRecDepth 100000 in
set_option maxHeartbeats 800000 in
theorem zero_in (w : World) (g cap n c A N : Nat) (l r : List Int) (hn : l.length = n) (hO : OwnB w g cap (l ++ r)) (hc : n ≤ c) (hA : A + N ≤ n) :
    Calls Tryd.prog 14 #[.slice (some ⟨g, 0, none⟩) n c, .int .i64 A, .int .i64 N] w fun e w' => e = .returned (.tuple #[.bool (zr l A N), .int .i64 0]) ∧ w' = w := by
  have hlen := hO.len
  rw [List.length_append, hn] at hlen
  have HF : Hid (∀ B, B = A ∨ N = 0 → Bytes w (some ⟨g, B, none⟩) (fld l A N)) := fun B hB => hO.field (by omega) hB
  have HL : Hid ((fld l A N).length = N) := fld_length _ _ _ (by omega)
  have hl : Hid (lies n A N = true) := by unfold lies; exact decide_eq_true (by omega)
  clear hO hn
  go_enter Tryd.func14, Tryd.ntmps14
  go_wp2_with (go_at_call 19; refine (lie_any _ _ _ _ _ _ (by omega) (by omega) (by omega)).mono ?_; rintro e w' ⟨rfl, rfl⟩; rw [hl.out])
  all_goals
    refine (allZero_any _ _ _ _ _ HL.out (HF.out _ (by omega))).mono ?_
    rintro e w' ⟨rfl, rfl⟩
    rw [zr_fld]
    go_wp2
    go_ret2
    exact ⟨rfl, rfl⟩
set_option maxRecDepth 100000 in
set_option maxHeartbeats 800000 in
theorem zero_no (w : World) (a : Option Addr) (n c : Nat) (at_ N : Int) (h : N < 0) :
    Calls Tryd.prog 14 #[.slice a n c, .int .i64 at_, .int .i64 N] w fun e w' => e = .returned (.tuple #[.bool false, .int .i64 1]) ∧ w' = w := by
  go_enter Tryd.func14, Tryd.ntmps14
  go_wp2
  go_ret2
  exact ⟨rfl, rfl⟩
set_option maxRecDepth 100000 in
set_option maxHeartbeats 800000 in
theorem zero_out (w : World) (a : Option Addr) (n c : Nat) (at_ N : Int) (hn : n ≤ 1000000000000000) (h1 : at_ ≤ 9223372036854775807) (h : ¬ N < 0) (hl : lies n at_ N = false) :
    Calls Tryd.prog 14 #[.slice a n c, .int .i64 at_, .int .i64 N] w fun e w' => e = .returned (.tuple #[.bool false, .int .i64 20]) ∧ w' = w := by
  have HL : Hid (lies n at_ N = false) := hl
  clear hl
  go_enter Tryd.func14, Tryd.ntmps14
  go_wp2_with (go_at_call 19; refine (lie_any _ _ _ _ _ _ (by omega) (by omega) (by omega)).mono ?_; rintro e w' ⟨rfl, rfl⟩; rw [HL.out])
  go_ret2
  exact ⟨rfl, rfl⟩
/-- rec.Zero: P2.5 -/
theorem zero_any (w : World) (g cap n c : Nat) (at_ N : Int) (l r : List Int) (hn : l.length = n) (hO : OwnB w g cap (l ++ r)) (hc : n ≤ c) (h1 : at_ ≤ 9223372036854775807) :
    Calls Tryd.prog 14 #[.slice (some ⟨g, 0, none⟩) n c, .int .i64 at_, .int .i64 N] w fun e w' => e = .returned (.tuple #[.bool (zerV l at_ N), .int .i64 (zerE l at_ N)]) ∧ w' = w := by
  have hlen := hO.len
  rw [List.length_append, hn] at hlen
  unfold zerV zerE
  rw [hn]
  by_cases h : N < 0
  · simp only [h, if_true]
    exact zero_no w _ n c at_ N h
  · simp only [h, if_false]
    cases hl : lies n at_ N with
    | false => exact zero_out w _ n c at_ N (by omega) h1 h hl
    | true =>
      have h2 := of_decide_eq_true hl
      obtain ⟨A, rfl⟩ := Int.eq_ofNat_of_zero_le h2.1
      obtain ⟨M, rfl⟩ := Int.eq_ofNat_of_zero_le (show 0 ≤ N by omega)
      exact zero_in w g cap n c A M l r hn hO hc (by omega)
end Go.Proofs.YtklgjagkgfbcfaaDoor
