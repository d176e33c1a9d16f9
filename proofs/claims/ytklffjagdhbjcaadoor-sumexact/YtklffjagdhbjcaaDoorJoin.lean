import Derived.Test.YtklffjagdhbjcaaDoorZeros
namespace Go.Proofs.YtklffjagdhbjcaaDoor
open Go.RowKit
open Crc (W)

set_option maxRecDepth 100000 in
theorem join_neg (w : World) (a b : W) (n : Int) (_h : n < 0) :
    Calls Tryd.prog 10 #[.int .u32 (U a), .int .u32 (U b), .int .i64 n] w fun e w' => e = .returned (.tuple #[.int .u32 0, .int .i64 1]) ∧ w' = w := by
  go_enter Tryd.func10, Tryd.ntmps10
  go_wp2
  go_ret2
  exact ⟨rfl, rfl⟩
set_option maxRecDepth 100000 in
theorem join_far (w : World) (a b : W) (n : Int) (_h : 1099511627776 < n) :
    Calls Tryd.prog 10 #[.int .u32 (U a), .int .u32 (U b), .int .i64 n] w fun e w' => e = .returned (.tuple #[.int .u32 0, .int .i64 1]) ∧ w' = w := by
  have h0 : ¬ n < 0 := by omega
  go_enter Tryd.func10, Tryd.ntmps10
  go_wp2
  go_ret2
  exact ⟨rfl, rfl⟩
set_option maxRecDepth 100000 in
theorem join_ok (w : World) (a b : W) (n : Int) (h0 : 0 ≤ n) (h1 : n ≤ 1099511627776) (hT : TabAt w) :
    Calls Tryd.prog 10 #[.int .u32 (U a), .int .u32 (U b), .int .i64 n] w fun e w' => e = .returned (.tuple #[.int .u32 (U (Crc.pw Crc.e8 n.toNat a ^^^ b)), .int .i64 0]) ∧ Below w.heap.size w w' := by
  obtain ⟨m, rfl⟩ := Int.eq_ofNat_of_zero_le h0
  rw [Int.toNat_natCast]
  have HT : Hid (TabAt w) := hT
  clear hT
  have h2 : ¬ (m : Int) < 0 := by omega
  have hx := bits_xor (Crc.pw Crc.e8 m a) b
  go_enter Tryd.func10, Tryd.ntmps10
  go_wp2_with (go_at_call 15; refine (zeros_any _ a m (by omega) HT.out).mono ?_; rintro e w1 ⟨rfl, hb⟩)
  go_ret2
  exact ⟨rfl, hb⟩
set_option maxRecDepth 100000 in
theorem num_any (w : World) (n : Int) : Calls Tryd.prog 11 #[.int .i64 n] w fun e w' => e = .returned (.int .i64 n) ∧ w' = w := by
  go_enter Tryd.func11, Tryd.ntmps11
  go_wp2
  go_ret
  exact ⟨rfl, rfl⟩
end Go.Proofs.YtklffjagdhbjcaaDoor
