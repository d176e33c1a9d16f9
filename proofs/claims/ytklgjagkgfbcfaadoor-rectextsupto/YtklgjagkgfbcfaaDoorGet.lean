import Derived.Test.YtklgjagkgfbcfaaDoorSame
import Derived.Laws.BitsAllLaws
namespace Go.Proofs.YtklgjagkgfbcfaaDoor
open Go.RowKit Rec

/-- a byte laid above a number that ends below it -/
theorem or_add (v c : Int) (k : Nat) (hk : k < 8) (hv : 0 ≤ v ∧ v < 256 ^ k) (hc : 0 ≤ c ∧ c < 256) : bits .or .u64 v (c * 256 ^ k) = v + c * 256 ^ k := by
  obtain ⟨V, rfl⟩ := Int.eq_ofNat_of_zero_le hv.1
  obtain ⟨C, rfl⟩ := Int.eq_ofNat_of_zero_le hc.1
  have e : (256 : Int) ^ k = ((2 ^ (8 * k) : Nat) : Int) := by rw [Nat.pow_mul]; simp
  rw [e] at hv ⊢
  have hV : V < 2 ^ (8 * k) := by omega
  have hC : C < 256 := by omega
  have hp : 2 ^ (8 * k) ≤ 2 ^ 56 := Nat.pow_le_pow_right (by decide) (by omega)
  have hm : C * 2 ^ (8 * k) ≤ 255 * 2 ^ (8 * k) := Nat.mul_le_mul_right _ (by omega)
  have := u64_or_nat V (C * 2 ^ (8 * k)) (by omega) (by omega)
  rw [← Int.natCast_mul, this, ← Int.natCast_add]
  have h2 := Nat.shiftLeft_add_eq_or_of_lt hV C
  rw [Nat.shiftLeft_eq] at h2
  rw [Nat.or_comm, ← h2, Nat.add_comm]

set_option maxRecDepth 100000 in
set_option maxHeartbeats 800000 in
theorem get_in (w : World) (g cap n c A W : Nat) (l r : List Int) (hn : l.length = n) (hO : OwnB w g cap (l ++ r)) (hc : n ≤ c) (hT : TabAt w) (hw : isW W = true) (hA : A + W ≤ n) :
    Calls Tryd.prog 10 #[.slice (some ⟨g, 0, none⟩) n c, .int .i64 A, .int .i64 W] w fun e w' => e = .returned (.tuple #[.int .u64 (num l A W), .int .i64 0]) ∧ w' = w := by
  have hlen := hO.len
  rw [List.length_append, hn] at hlen
  have hWc := isW_cases hw
  have HW : Hid (isW W = true) := hw
  have HT : Hid (TabAt w) := hT
  have HC : Hid (∀ i, i < n → w.cell? ⟨g, i, none⟩ = some (.int .u8 (nth l i))) := fun i hi => by
    rw [hO.cell i (by rw [List.length_append]; omega)]
    simp [nth, List.getD, List.getElem?_append, hn, hi]
  have HF : Hid (∀ i, 0 ≤ nth l i ∧ nth l i < 256) := fun i => by
    by_cases hi : i < n
    · have := hO.wf i
      have e : nth (l ++ r) i = nth l i := by simp [nth, List.getD, List.getElem?_append, hn, hi]
      rwa [e] at this
    · rw [nth_out _ _ (by omega)]; omega
  have hl : Hid (lies n A W = true) := by unfold lies; exact decide_eq_true (by omega)
  clear hO hT hw hn
  have hW1 : 1 ≤ W ∧ W ≤ 8 := by omega
  clear hWc
  go_enter Tryd.func10, Tryd.ntmps10
  go_wp2_with (go_at_call 17; refine (isWidth_any _ _ HT.out).mono ?_; rintro e w' ⟨rfl, rfl⟩; rw [HW.out])
  go_wp2_with (go_at_call 19; refine (lie_any _ _ _ _ _ _ (by omega) (by omega) (by omega)).mono ?_; rintro e w' ⟨rfl, rfl⟩; rw [hl.out])
  go_loop [8, 26] (fun v i => ∃ k : Nat, k ≤ W ∧ i = .int .i64 k ∧ v = .int .u64 (num l A k)) (fun _ i => W - (intOf i).toNat)
  case atStart => exact ⟨0, Nat.zero_le _, rfl, rfl⟩
  case round =>
    obtain ⟨k, hk, rfl, rfl⟩ := hrel
    by_cases hlt : k < W
    · have c := HC.out (A + k) (by omega)
      have cb := HF.out (A + k)
      have nb := num_bd l A k HF.out
      have HS : Hid (num l A (k + 1) = bits .or .u64 (num l A k) (nth l (A + k) * 256 ^ k)) := by
        show num l A (k + 1) = _
        rw [or_add _ _ _ (by omega) nb cb]; rfl
      have hkk : k = 0 ∨ k = 1 ∨ k = 2 ∨ k = 3 ∨ k = 4 ∨ k = 5 ∨ k = 6 ∨ k = 7 := by omega
      rcases hkk with rfl | rfl | rfl | rfl | rfl | rfl | rfl | rfl
      case inl =>
        simp only [Nat.add_zero] at c cb
        go_wp2
        refine ⟨⟨1, hlt, rfl, ?_⟩, by simp [intOf]; omega⟩
        have e := or_add 0 (nth l A) 0 (by omega) (by decide) cb
        have e2 : num l A 1 = 0 + nth l A * 256 ^ 0 := rfl
        rw [e2, ← e]
        simp
        rfl
      all_goals
        go_wp2
        refine ⟨⟨_, hlt, rfl, ?_⟩, by simp [intOf]; omega⟩
        have e := HS.out
        simp only [Int.reducePow] at e
        exact congrArg (Value.int .u64) e.symm
    · go_wp2
      obtain rfl : k = W := by omega
      go_ret2
      exact ⟨rfl, rfl⟩
set_option maxRecDepth 100000 in
set_option maxHeartbeats 800000 in
theorem get_no (w : World) (a : Option Addr) (n c : Nat) (at_ W : Int) (hT : TabAt w) (hw : isW W = false) :
    Calls Tryd.prog 10 #[.slice a n c, .int .i64 at_, .int .i64 W] w fun e w' => e = .returned (.tuple #[.int .u64 0, .int .i64 1]) ∧ w' = w := by
  have HW : Hid (isW W = false) := hw
  have HT : Hid (TabAt w) := hT
  clear hw hT
  go_enter Tryd.func10, Tryd.ntmps10
  go_wp2_with (go_at_call 17; refine (isWidth_any _ _ HT.out).mono ?_; rintro e w' ⟨rfl, rfl⟩; rw [HW.out])
  go_ret2
  exact ⟨rfl, rfl⟩
set_option maxRecDepth 100000 in
set_option maxHeartbeats 800000 in
theorem get_out (w : World) (a : Option Addr) (n c : Nat) (at_ W : Int) (hT : TabAt w) (hn : n ≤ 1000000000000000) (h1 : at_ ≤ 9223372036854775807) (hw : isW W = true) (hl : lies n at_ W = false) :
    Calls Tryd.prog 10 #[.slice a n c, .int .i64 at_, .int .i64 W] w fun e w' => e = .returned (.tuple #[.int .u64 0, .int .i64 20]) ∧ w' = w := by
  have hc := isW_cases hw
  have HW : Hid (isW W = true) := hw
  have HL : Hid (lies n at_ W = false) := hl
  have HT : Hid (TabAt w) := hT
  clear hw hT hl
  go_enter Tryd.func10, Tryd.ntmps10
  go_wp2_with (go_at_call 17; refine (isWidth_any _ _ HT.out).mono ?_; rintro e w' ⟨rfl, rfl⟩; rw [HW.out])
  go_wp2_with (go_at_call 19; refine (lie_any _ _ _ _ _ _ (by omega) (by omega) (by omega)).mono ?_; rintro e w' ⟨rfl, rfl⟩; rw [HL.out])
  go_ret2
  exact ⟨rfl, rfl⟩
/-- rec.Get: P2.1 -/
theorem get_any (w : World) (g cap n c : Nat) (at_ W : Int) (l r : List Int) (hn : l.length = n) (hO : OwnB w g cap (l ++ r)) (hc : n ≤ c) (hT : TabAt w) (h1 : at_ ≤ 9223372036854775807) :
    Calls Tryd.prog 10 #[.slice (some ⟨g, 0, none⟩) n c, .int .i64 at_, .int .i64 W] w fun e w' => e = .returned (.tuple #[.int .u64 (getV l at_ W), .int .i64 (getE l at_ W)]) ∧ w' = w := by
  have hlen := hO.len
  rw [List.length_append, hn] at hlen
  unfold getV getE
  rw [hn]
  cases hw : isW W with
  | false => exact get_no w _ n c at_ W hT hw
  | true =>
    cases hl : lies n at_ W with
    | false => exact get_out w _ n c at_ W hT (by omega) h1 hw hl
    | true =>
      have h2 := of_decide_eq_true hl
      have h3 := isW_cases hw
      obtain ⟨A, rfl⟩ := Int.eq_ofNat_of_zero_le h2.1
      obtain ⟨V, rfl⟩ := Int.eq_ofNat_of_zero_le (show 0 ≤ W by omega)
      exact get_in w g cap n c A V l r hn hO hc hT hw (by omega)
end Go.Proofs.YtklgjagkgfbcfaaDoor
