import Derived.Test.YtklffjagdhbjcaaDoorJoin
namespace Go.Proofs.YtklffjagdhbjcaaDoor
open Go.RowKit
open Crc (W)

set_option maxRecDepth 100000 in
set_option maxHeartbeats 400000 in
theorem turn_ok (w : World) (s : W) (n at_ : Int) (a1 a2 : Option Addr) (n1 c1 c2 : Nat) (l1 l2 : List Int)
    (h0 : 0 ≤ n) (h1 : n ≤ 1099511627776) (h2 : 0 ≤ at_) (h3 : at_ + n1 ≤ n) (e1 : l1.length = n1) (e2 : l2.length = n1) (hT : TabAt w) (b1 : Bytes w a1 l1) (b2 : Bytes w a2 l2) :
    Calls Tryd.prog 12 #[.int .u32 (U s), .int .i64 n, .int .i64 at_, .slice a1 n1 c1, .slice a2 n1 c2] w fun e w' =>
      e = .returned (.tuple #[.int .u32 (U (s ^^^ Crc.pw Crc.e8 (n - at_ - n1).toNat (Crc.crc l1 ^^^ Crc.crc l2))), .int .i64 0]) ∧ Below w.heap.size w w' := by
  have HT : Hid (TabAt w) := hT
  have B1 : Hid (Bytes w a1 l1) := b1
  have B2 : Hid (Bytes w a2 l2) := b2
  have E1 : Hid (l1.length = n1) := e1
  have E2 : Hid (l2.length = n1) := e2
  clear hT b1 b2 e1 e2
  obtain ⟨m, hm⟩ := Int.eq_ofNat_of_zero_le (show 0 ≤ n - at_ - n1 by omega)
  have Hm : Hid ((n - at_ - n1).toNat = m) := by rw [hm]; rfl
  have hx := bits_xor (Crc.crc l1) (Crc.crc l2)
  have hy := bits_xor s (Crc.pw Crc.e8 m (Crc.crc l1 ^^^ Crc.crc l2))
  have g1 : ¬ n < 0 := by omega
  have g2 : ¬ at_ < 0 := by omega
  have g3 : ¬ 1099511627776 < n := by omega
  have g4 : ((n1 : Int) != n1) = false := by simp
  have g5 : ¬ n < at_ := by omega
  have g6 : ¬ n - at_ < n1 := by omega
  rw [Hm.out]
  go_enter Tryd.func12, Tryd.ntmps12
  go_wp2_with fail
  refine (of_any _ a1 n1 c1 l1 E1.out HT.out B1.out).mono ?_
  rintro e w1 ⟨rfl, rfl⟩
  go_wp2_with fail
  refine (of_any _ a2 n1 c2 l2 E2.out HT.out B2.out).mono ?_
  rintro e w2 ⟨rfl, rfl⟩
  go_wp2_with fail
  refine (zeros_any _ (Crc.crc l1 ^^^ Crc.crc l2) m (by omega) HT.out).mono ?_
  rintro e w3 ⟨rfl, hb⟩
  go_wp2
  go_ret2
  exact ⟨rfl, hb⟩
set_option maxRecDepth 100000 in
theorem turn_bad1 (w : World) (s : W) (n at_ : Int) (a1 a2 : Option Addr) (n1 n2 c1 c2 : Nat) (_h : n < 0) :
    Calls Tryd.prog 12 #[.int .u32 (U s), .int .i64 n, .int .i64 at_, .slice a1 n1 c1, .slice a2 n2 c2] w fun e w' => e = .returned (.tuple #[.int .u32 0, .int .i64 1]) ∧ w' = w := by
  go_enter Tryd.func12, Tryd.ntmps12
  go_wp2
  go_ret2
  exact ⟨rfl, rfl⟩
set_option maxRecDepth 100000 in
theorem turn_bad2 (w : World) (s : W) (n at_ : Int) (a1 a2 : Option Addr) (n1 n2 c1 c2 : Nat) (_g : ¬ n < 0) (_h : at_ < 0) :
    Calls Tryd.prog 12 #[.int .u32 (U s), .int .i64 n, .int .i64 at_, .slice a1 n1 c1, .slice a2 n2 c2] w fun e w' => e = .returned (.tuple #[.int .u32 0, .int .i64 1]) ∧ w' = w := by
  go_enter Tryd.func12, Tryd.ntmps12
  go_wp2
  go_ret2
  exact ⟨rfl, rfl⟩
set_option maxRecDepth 100000 in
theorem turn_bad3 (w : World) (s : W) (n at_ : Int) (a1 a2 : Option Addr) (n1 n2 c1 c2 : Nat) (_g : ¬ n < 0) (_g2 : ¬ at_ < 0) (_h : 1099511627776 < n) :
    Calls Tryd.prog 12 #[.int .u32 (U s), .int .i64 n, .int .i64 at_, .slice a1 n1 c1, .slice a2 n2 c2] w fun e w' => e = .returned (.tuple #[.int .u32 0, .int .i64 1]) ∧ w' = w := by
  go_enter Tryd.func12, Tryd.ntmps12
  go_wp2
  go_ret2
  exact ⟨rfl, rfl⟩
set_option maxRecDepth 100000 in
theorem turn_bad4 (w : World) (s : W) (n at_ : Int) (a1 a2 : Option Addr) (n1 n2 c1 c2 : Nat) (_g : ¬ n < 0) (_g2 : ¬ at_ < 0) (_g3 : ¬ 1099511627776 < n) (h : n1 ≠ n2) :
    Calls Tryd.prog 12 #[.int .u32 (U s), .int .i64 n, .int .i64 at_, .slice a1 n1 c1, .slice a2 n2 c2] w fun e w' => e = .returned (.tuple #[.int .u32 0, .int .i64 1]) ∧ w' = w := by
  have g4 : ((n1 : Int) != n2) = true := by simp; omega
  go_enter Tryd.func12, Tryd.ntmps12
  go_wp2
  go_ret2
  exact ⟨rfl, rfl⟩
set_option maxRecDepth 100000 in
theorem turn_bad5 (w : World) (s : W) (n at_ : Int) (a1 a2 : Option Addr) (n1 c1 c2 : Nat) (_g : ¬ n < 0) (_g2 : ¬ at_ < 0) (_g3 : ¬ 1099511627776 < n) (_h : n < at_) :
    Calls Tryd.prog 12 #[.int .u32 (U s), .int .i64 n, .int .i64 at_, .slice a1 n1 c1, .slice a2 n1 c2] w fun e w' => e = .returned (.tuple #[.int .u32 0, .int .i64 1]) ∧ w' = w := by
  have g4 : ((n1 : Int) != n1) = false := by simp
  go_enter Tryd.func12, Tryd.ntmps12
  go_wp2
  go_ret2
  exact ⟨rfl, rfl⟩
set_option maxRecDepth 100000 in
theorem turn_bad6 (w : World) (s : W) (n at_ : Int) (a1 a2 : Option Addr) (n1 c1 c2 : Nat) (_g : ¬ n < 0) (_g2 : ¬ at_ < 0) (_g3 : ¬ 1099511627776 < n) (_g5 : ¬ n < at_) (_h : n - at_ < n1) :
    Calls Tryd.prog 12 #[.int .u32 (U s), .int .i64 n, .int .i64 at_, .slice a1 n1 c1, .slice a2 n1 c2] w fun e w' => e = .returned (.tuple #[.int .u32 0, .int .i64 1]) ∧ w' = w := by
  have g4 : ((n1 : Int) != n1) = false := by simp
  go_enter Tryd.func12, Tryd.ntmps12
  go_wp2
  go_ret2
  exact ⟨rfl, rfl⟩
theorem turn_bad (w : World) (s : W) (n at_ : Int) (a1 a2 : Option Addr) (n1 n2 c1 c2 : Nat)
    (h : ¬ (0 ≤ n ∧ n ≤ 1099511627776 ∧ 0 ≤ at_ ∧ n1 = n2 ∧ at_ + n1 ≤ n)) :
    Calls Tryd.prog 12 #[.int .u32 (U s), .int .i64 n, .int .i64 at_, .slice a1 n1 c1, .slice a2 n2 c2] w fun e w' => e = .returned (.tuple #[.int .u32 0, .int .i64 1]) ∧ w' = w := by
  by_cases k1 : n < 0
  · exact turn_bad1 w s n at_ a1 a2 n1 n2 c1 c2 k1
  by_cases k2 : at_ < 0
  · exact turn_bad2 w s n at_ a1 a2 n1 n2 c1 c2 k1 k2
  by_cases k3 : 1099511627776 < n
  · exact turn_bad3 w s n at_ a1 a2 n1 n2 c1 c2 k1 k2 k3
  by_cases k4 : n1 = n2
  · subst k4
    by_cases k5 : n < at_
    · exact turn_bad5 w s n at_ a1 a2 n1 c1 c2 k1 k2 k3 k5
    · exact turn_bad6 w s n at_ a1 a2 n1 c1 c2 k1 k2 k3 k5 (by omega)
  · exact turn_bad4 w s n at_ a1 a2 n1 n2 c1 c2 k1 k2 k3 k4
end Go.Proofs.YtklffjagdhbjcaaDoor
