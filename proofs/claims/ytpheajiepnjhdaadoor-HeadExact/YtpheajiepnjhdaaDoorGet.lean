import Derived.Test.YtpheajiepnjhdaaDoorSmall
import Derived.Laws.BitsAllLaws
namespace Go.Proofs.YtpheajiepnjhdaaDoor
open Go.RowKit Rec

/-- a byte laid above a number that ends below it -/
theorem or_add (v c : Int) (k : Nat) (hk : k < 8) (hv : 0 ≤ v ∧ v < 256 ^ k) (hc : 0 ≤ c ∧ c < 256) : bits .or .u64 v (c * 256 ^ k) = v + c * 256 ^ k := by
  obtain ⟨V, rfl⟩ := Int.eq_ofNat_of_zero_le hv.1
  obtain ⟨C, rfl⟩ := Int.eq_ofNat_of_zero_le hc.1
  have e : (256 : Int) ^ k = ((2 ^ (8 * k) : Nat) : Int) := by rw [Nat.pow_mul]; simp
  rw [e] at hv ⊢
  have hV : V < 2 ^ (8 * k) := by omega
  have hC : C < 256 := by omega
  have hp : 2 ^ (8 * k) ≤ 2 ^ 56 := Nat.pow_le_pow_right (by decide) (by omega)
  have hm : C * 2 ^ (8 * k) ≤ 255 * 2 ^ (8 * k) := Nat.mul_le_mul_right _ (by omega)
  have := u64_or_nat V (C * 2 ^ (8 * k)) (by omega) (by omega)
  rw [← Int.natCast_mul, this, ← Int.natCast_add]
  have h2 := Nat.shiftLeft_add_eq_or_of_lt hV C
  rw [Nat.shiftLeft_eq] at h2
  rw [Nat.or_comm, ← h2, Nat.add_comm]

set_option maxRecDepth 100000 in
set_option maxHeartbeats 800000 in
theorem get_in (w : World) (b off n c A W : Nat) (l : List Int) (hn : l.length = n) (hO : Bytes w (some ⟨b, off, none⟩) l) (hc : n ≤ c) (hT : TabAt w) (hw : isW W = true) (hA : A + W ≤ n) :
    Calls Tryd.prog 54 #[.slice (some ⟨b, off, none⟩) n c, .int .i64 A, .int .i64 W] w fun e w' => e = .returned (.tuple #[.int .u64 (num l A W), .int .i64 0]) ∧ w = w' := by
  have hlen := hO.len
  rw [hn] at hlen
  have hWc := isW_cases hw
  have HW : Hid (isW W = true) := hw
  have HT : Hid (TabAt w) := hT
  have HC : Hid (∀ i, A + i < n → w.cell? ⟨b, off + A + i, none⟩ = some (.int .u8 (nth l (A + i)))) := fun i hi => by
    rw [Nat.add_assoc]; exact hO.cell (by omega)
  have HF : Hid (∀ i, 0 ≤ nth l i ∧ nth l i < 256) := hO.wf
  have hl : Hid (lies n A W = true) := by unfold lies; exact decide_eq_true (by omega)
  clear hO hT hw hn
  have hW1 : 1 ≤ W ∧ W ≤ 8 := by omega
  clear hWc
  go_enter Tryd.func54, Tryd.ntmps54
  go_wp2_with (go_at_call 81; refine (isWidth_any _ _ HT.out).mono ?_; rintro e w' ⟨rfl, rfl⟩; rw [HW.out])
  go_wp2_with (go_at_call 80; refine (lie_any _ _ _ _ _ _ (by omega) (by omega) (by omega)).mono ?_; rintro e w' ⟨rfl, rfl⟩; rw [hl.out])
  go_loop [8, 26] (fun v i => ∃ k : Nat, k ≤ W ∧ i = .int .i64 k ∧ v = .int .u64 (num l A k)) (fun _ i => W - (intOf i).toNat)
  case atStart => exact ⟨0, Nat.zero_le _, rfl, rfl⟩
  case round =>
    obtain ⟨k, hk, rfl, rfl⟩ := hrel
    by_cases hlt : k < W
    · have c := HC.out k (by omega)
      have cb := HF.out (A + k)
      have nb := num_bd l A k HF.out
      have HS : Hid (num l A (k + 1) = bits .or .u64 (num l A k) (nth l (A + k) * 256 ^ k)) := by
        show num l A (k + 1) = _
        rw [or_add _ _ _ (by omega) nb cb]; rfl
      have hkk : k = 0 ∨ k = 1 ∨ k = 2 ∨ k = 3 ∨ k = 4 ∨ k = 5 ∨ k = 6 ∨ k = 7 := by omega
      rcases hkk with rfl | rfl | rfl | rfl | rfl | rfl | rfl | rfl
      case inl =>
        simp only [Nat.add_zero] at c cb
        go_wp2
        refine ⟨⟨1, hlt, rfl, ?_⟩, by simp [intOf]; omega⟩
        have e := or_add 0 (nth l A) 0 (by omega) (by decide) cb
        have e2 : num l A 1 = 0 + nth l A * 256 ^ 0 := rfl
        rw [e2, ← e]
        simp
        rfl
      all_goals
        go_wp2
        refine ⟨⟨_, hlt, rfl, ?_⟩, by simp [intOf]; omega⟩
        have e := HS.out
        simp only [Int.reducePow] at e
        exact congrArg (Value.int .u64) e.symm
    · go_wp2
      obtain rfl : k = W := by omega
      go_ret2
      exact ⟨rfl, rfl⟩
end Go.Proofs.YtpheajiepnjhdaaDoor
