import Derived.Test.YtgkgcocpkammfaaSmall
import Derived.Laws.BitsAllLaws
namespace Go.Proofs.Ytgkgcocpkammfaa
open Go.RowKit Rec

/-- a byte laid above a number that ends below it -/
theorem or_add (v c : Int) (k : Nat) (hk : k < 8) (hv : 0 ≤ v ∧ v < 256 ^ k) (hc : 0 ≤ c ∧ c < 256) : bits .or .u64 v (c * 256 ^ k) = v + c * 256 ^ k := by
  obtain ⟨V, rfl⟩ := Int.eq_ofNat_of_zero_le hv.1
  obtain ⟨C, rfl⟩ := Int.eq_ofNat_of_zero_le hc.1
  have e : (256 : Int) ^ k = ((2 ^ (8 * k) : Nat) : Int) := by rw [Nat.pow_mul]; simp
  rw [e] at hv ⊢
  have hV : V < 2 ^ (8 * k) := by omega
  have hC : C < 256 := by omega
  have hp : 2 ^ (8 * k) ≤ 2 ^ 56 := Nat.pow_le_pow_right (by decide) (by omega)
  have hm : C * 2 ^ (8 * k) ≤ 255 * 2 ^ (8 * k) := Nat.mul_le_mul_right _ (by omega)
  have := u64_or_nat V (C * 2 ^ (8 * k)) (by omega) (by omega)
  rw [← Int.natCast_mul, this, ← Int.natCast_add]
  have h2 := Nat.shiftLeft_add_eq_or_of_lt hV C
  rw [Nat.shiftLeft_eq] at h2
  rw [Nat.or_comm, ← h2, Nat.add_comm]

end Go.Proofs.Ytgkgcocpkammfaa
