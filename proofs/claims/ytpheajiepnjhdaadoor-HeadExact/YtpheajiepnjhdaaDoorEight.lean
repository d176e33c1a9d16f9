import Derived.Test.YtpheajiepnjhdaaDoorOwn
namespace Go.Proofs.YtpheajiepnjhdaaDoor
open Go.RowKit
open Crc (W)

/-- a word as the model has it -/
def U (x : W) : Int := (x.toNat : Int)
theorem U_lo (x : W) : 0 ≤ U x := Int.natCast_nonneg _
theorem U_hi (x : W) : U x < 4294967296 := by unfold U; have := x.isLt; omega
theorem U_inj {x y : W} (h : U x = U y) : x = y := by unfold U at h; exact BitVec.eq_of_toNat_eq (by omega)
theorem U_ofInt (x : Int) (h0 : 0 ≤ x) (h1 : x < 4294967296) : U (BitVec.ofInt 32 x) = x := by
  obtain ⟨X, rfl⟩ := Int.eq_ofNat_of_zero_le h0
  unfold U
  rw [BitVec.ofInt_natCast, BitVec.toNat_ofNat, Nat.mod_eq_of_lt (by omega)]
theorem of_word (x : Int) (h0 : 0 ≤ x) (h1 : x < 4294967296) : ∃ X : W, x = U X := ⟨_, (U_ofInt x h0 h1).symm⟩
theorem ofInt_U (x : W) : BitVec.ofInt 32 (U x) = x := U_inj (U_ofInt _ (U_lo x) (U_hi x))

theorem bits_xor (x y : W) : bits .xor .u32 (U x) (U y) = U (x ^^^ y) := by
  have := u32_xor_nat x.toNat y.toNat (by have := x.isLt; omega) (by have := y.isLt; omega)
  unfold U
  rw [this, BitVec.toNat_xor]
theorem bits_and15 (x : W) : bits .and .u32 (U x) 15 = U x % 16 := by
  have := u32_and_nat x.toNat 15 (by have := x.isLt; omega) (by omega)
  unfold U
  rw [show (15 : Int) = ((15 : Nat) : Int) from rfl, this, show (15 : Nat) = 2 ^ 4 - 1 from rfl, Nat.and_two_pow_sub_one_eq_mod]; omega
theorem shr4 (x : W) : U x / (16 : Int) = U (x >>> (4 : Nat)) := by
  unfold U
  rw [BitVec.toNat_ushiftRight, Nat.shiftRight_eq_div_pow]; omega
theorem half_int (x : W) : bits .xor .u32 (U x / 16) ((Crc.tab.getD ((U x % 16).toNat) 0 : Nat) : Int) = U (Crc.half x) := by
  have e1 : (U x % 16).toNat = x.toNat % 16 := by unfold U; omega
  have hlt : ∀ k, k < 16 → Crc.tab.getD k 0 < 4294967296 := by decide +kernel
  have e2 : ((Crc.tab.getD (x.toNat % 16) 0 : Nat) : Int) = U (BitVec.ofNat 32 (Crc.tab.getD (x.toNat % 16) 0)) := by
    unfold U
    rw [BitVec.toNat_ofNat, Nat.mod_eq_of_lt (hlt _ (by omega))]
  rw [e1, e2, shr4, bits_xor]; rfl

set_option maxRecDepth 100000 in
theorem eight_core (w : World) (x y z t1 t2 : Int) (_h0 : 0 ≤ x) (_h1 : x < 4294967296) (_h2 : 0 ≤ y) (_h3 : y < 4294967296)
    (a1 : bits .and .u32 x 15 = x % 16) (c1 : w.cell? ⟨1, (x % 16).toNat, none⟩ = some (.int .u32 t1)) (e1 : bits .xor .u32 (x / 16) t1 = y)
    (a2 : bits .and .u32 y 15 = y % 16) (c2 : w.cell? ⟨1, (y % 16).toNat, none⟩ = some (.int .u32 t2)) (e2 : bits .xor .u32 (y / 16) t2 = z) :
    Calls Tryd.prog 101 #[.int .u32 x] w fun e w' => e = .returned (.int .u32 z) ∧ w = w' := by
  have b1 : 0 ≤ x % 16 ∧ x % 16 < 16 := by omega
  have b2 : 0 ≤ y % 16 ∧ y % 16 < 16 := by omega
  go_enter Tryd.func101, Tryd.ntmps101
  go_wp2
  go_ret
  exact ⟨rfl, rfl⟩

theorem eight_any (w : World) (x : W) (hT : TabAt w) :
    Calls Tryd.prog 101 #[.int .u32 (U x)] w fun e w' => e = .returned (.int .u32 (U (Crc.e8 x))) ∧ w = w' := by
  have lo := U_lo x
  have lo2 := U_lo (Crc.half x)
  rw [← Crc.half_half]
  exact eight_core w (U x) (U (Crc.half x)) _ _ _ lo (U_hi x) lo2 (U_hi _) (bits_and15 x) (hT.hal _ (by omega)) (half_int x) (bits_and15 _) (hT.hal _ (by omega)) (half_int _)
end Go.Proofs.YtpheajiepnjhdaaDoor
