import Derived.Test.YtccocjipgbeaeaaDoorBurstE
import Derived.BigRegion
namespace Go.Proofs.YtccocjipgbeaeaaDoor
open Go.RowKit Rec
open Crc (W)

theorem bit_test (x : W) (k : Nat) : bits .and .u32 (U x / (2 : Int) ^ k) 1 = if x.getLsbD k = true then 1 else 0 := by
  have e : U x / (2 : Int) ^ k = ((x.toNat / 2 ^ k : Nat) : Int) := by
    unfold U
    rw [Int.natCast_ediv, Int.natCast_pow]; rfl
  have hlt : x.toNat / 2 ^ k < 4294967296 := Nat.lt_of_le_of_lt (Nat.div_le_self _ _) (by have := x.isLt; omega)
  rw [e, show (1 : Int) = ((1 : Nat) : Int) from rfl, u32_and_nat _ 1 hlt (by omega), Nat.and_one_is_mod]
  have hb : x.getLsbD k = decide (x.toNat / 2 ^ k % 2 = 1) := Nat.testBit_eq_decide_div_mod_eq
  rw [hb]
  by_cases h : x.toNat / 2 ^ k % 2 = 1
  · simp [h]
  · have : x.toNat / 2 ^ k % 2 = 0 := by omega
    simp [this]
theorem flip_byte (c : Int) (r : Nat) (hc : 0 ≤ c ∧ c < 256) (hr : r < 8) : (0 ≤ bits .xor .u8 c ((2 : Int) ^ r % 256) ∧ bits .xor .u8 c ((2 : Int) ^ r % 256) < 256) ∧
    BitVec.ofInt 32 (bits .xor .u8 c ((2 : Int) ^ r % 256)) = BitVec.ofInt 32 c ^^^ (1#32 <<< r) := by
  obtain ⟨C, rfl⟩ := Int.eq_ofNat_of_zero_le hc.1
  have hC : C < 2 ^ 8 := by omega
  have h2 : 2 ^ r < 2 ^ 8 := Nat.pow_lt_pow_right (by decide) hr
  have e : (2 : Int) ^ r % 256 = ((2 ^ r : Nat) : Int) := by
    rw [show (2 : Int) ^ r = ((2 ^ r : Nat) : Int) by rw [Int.natCast_pow]; rfl]
    have h3 : ((2 ^ r : Nat) : Int) < ((256 : Nat) : Int) := Int.ofNat_lt.2 h2
    exact Int.emod_eq_of_lt (Int.natCast_nonneg _) h3
  have hlt : C ^^^ 2 ^ r < 2 ^ 8 := Nat.xor_lt_two_pow hC h2
  rw [e, u8_xor_nat C (2 ^ r) (by omega) (by omega)]
  refine ⟨by omega, ?_⟩
  rw [BitVec.ofInt_natCast, BitVec.ofInt_natCast]
  apply BitVec.eq_of_toNat_eq
  rw [BitVec.toNat_xor, BitVec.toNat_ofNat, BitVec.toNat_ofNat, BitVec.toNat_shiftLeft, Nat.shiftLeft_eq]
  rw [Nat.mod_eq_of_lt (by omega), Nat.mod_eq_of_lt (by omega)]
  rw [show (1#32).toNat * 2 ^ r = 2 ^ r by simp, Nat.mod_eq_of_lt (by omega)]
/-- in which stretch a bit stands -/
def strc (b : Nat) : Nat := if b < 96 then 0 else if b < 128 then 1 else 2
set_option maxRecDepth 100000 in
theorem stretch_any (w : World) (b : Nat) : Calls Tryd.prog 16 #[.int .i64 b] w fun e w' => e = .returned (.int .i64 (strc b)) ∧ w = w' := by
  unfold strc
  by_cases h1 : b < 96
  · rw [if_pos h1]
    go_enter Tryd.func16, Tryd.ntmps16
    go_wp2
    go_ret
    exact ⟨rfl, rfl⟩
  · rw [if_neg h1]
    by_cases h2 : b < 128
    · rw [if_pos h2]
      go_enter Tryd.func16, Tryd.ntmps16
      go_wp2
      go_ret
      exact ⟨rfl, rfl⟩
    · rw [if_neg h2]
      go_enter Tryd.func16, Tryd.ntmps16
      go_wp2
      go_ret
      exact ⟨rfl, rfl⟩
/-- is this bit turned? -/
def Tf (at_ : Int) (M : W) (I : Nat) (j : Nat) : Bool := decide (0 ≤ at_ ∧ at_ < 4096 ∧ at_ + j < 4096) && M.getLsbD j && (decide (I ≠ 0) || decide (strc (at_.toNat + j) = strc at_.toNat))
set_option maxRecDepth 100000 in
theorem Tf_head (at_ : Int) (M : W) : (∀ j, j < 32 → Tf at_ M 0 j = true → at_.toNat + j < 128) ∨ (∀ j, j < 32 → Tf at_ M 0 j = true → 128 ≤ at_.toNat + j) := by
  by_cases h : at_.toNat < 128
  · refine .inl fun j _ ht => ?_
    simp only [Tf, Bool.and_eq_true, Bool.or_eq_true, decide_eq_true_eq] at ht
    have := ht.2.resolve_left (by simp)
    unfold strc at this
    split at this <;> split at this <;> (try split at this) <;> (try split at this) <;> omega
  · exact .inr fun j _ _ => by omega
theorem row_zero (a : List Int) (l : List (List Int)) : row (a :: l) 0 = a := rfl
theorem row_succ (a : List Int) (l : List (List Int)) (i : Nat) : row (a :: l) (i + 1) = row l i := rfl
theorem set_zero (a b : List Int) (l : List (List Int)) : (a :: l).set 0 b = b :: l := rfl
theorem set_succ (a b : List Int) (l : List (List Int)) (i : Nat) : (a :: l).set (i + 1) b = a :: l.set i b := rfl
theorem drop_one (a : List Int) (l : List (List Int)) : (a :: l).drop 1 = l := rfl
/-- the rows -/
theorem good_rows {ns : List Int} {ds : List (List Int)} {K : Nat} (h : Fit ns ds K) (at_ : Int) (M : W) (I : Nat) (hI : I ≤ K) (own : List Int) (hF : Fl (Tf at_ M I) at_.toNat 32 (row (made ns ds :: ds) I) own) :
    good (row ((made ns ds :: ds).set I own) 0) 16384 (((made ns ds :: ds).set I own).drop 1) = quiet (Tf at_ M I) 32 := by
  cases I with
  | zero =>
    rw [row_zero] at hF
    rw [set_zero, row_zero, drop_one]
    exact burst_head h _ _ own hF (Tf_head at_ M)
  | succ i =>
    rw [row_succ] at hF
    rw [set_succ, row_zero, drop_one]
    exact burst_block h i (by omega) _ _ own hF
end Go.Proofs.YtccocjipgbeaeaaDoor
