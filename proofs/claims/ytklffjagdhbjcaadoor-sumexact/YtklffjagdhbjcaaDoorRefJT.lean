import Derived.Test.YtklffjagdhbjcaaDoorThru2
namespace Go.Proofs.YtklffjagdhbjcaaDoor
open Go.RowKit
open Crc (W)

set_option maxRecDepth 100000 in
theorem rjoin_bad (w : World) (a b : W) (n : Int) (h : n < 0 ∨ 1099511627776 < n) :
    Calls Tryd.prog 19 #[.int .u32 (U a), .int .u32 (U b), .int .i64 n] w fun e w' => e = .returned (.tuple #[.int .u32 0, .int .i64 1]) ∧ w' = w := by
  rcases h with h | h
  · go_enter Tryd.func19, Tryd.ntmps19
    go_wp2
    go_ret2
    exact ⟨rfl, rfl⟩
  · have h0 : ¬ n < 0 := by omega
    go_enter Tryd.func19, Tryd.ntmps19
    go_wp2
    go_ret2
    exact ⟨rfl, rfl⟩
set_option maxRecDepth 100000 in
theorem rjoin_ok (w : World) (a b : W) (n : Int) (h0 : 0 ≤ n) (h1 : n ≤ 1099511627776) :
    Calls Tryd.prog 19 #[.int .u32 (U a), .int .u32 (U b), .int .i64 n] w fun e w' => e = .returned (.tuple #[.int .u32 (U (Crc.pw Crc.e8 n.toNat a ^^^ b)), .int .i64 0]) ∧ Below w.heap.size w w' := by
  obtain ⟨m, rfl⟩ := Int.eq_ofNat_of_zero_le h0
  rw [Int.toNat_natCast]
  have h2 : ¬ (m : Int) < 0 := by omega
  have hx := bits_xor (Crc.pw Crc.e8 m a) b
  go_enter Tryd.func19, Tryd.ntmps19
  go_wp2_with (go_at_call 25; refine (thru_any _ a m (by omega)).mono ?_; rintro e w1 ⟨rfl, hb⟩)
  go_ret2
  exact ⟨rfl, hb⟩
set_option maxRecDepth 100000 in
set_option maxHeartbeats 400000 in
theorem rturn_ok (w : World) (s : W) (n at_ : Int) (a1 a2 : Option Addr) (n1 c1 c2 : Nat) (l1 l2 : List Int)
    (h0 : 0 ≤ n) (h1 : n ≤ 1099511627776) (h2 : 0 ≤ at_) (h3 : at_ + n1 ≤ n) (e1 : l1.length = n1) (e2 : l2.length = n1) (b1 : Bytes w a1 l1) (b2 : Bytes w a2 l2) :
    Calls Tryd.prog 20 #[.int .u32 (U s), .int .i64 n, .int .i64 at_, .slice a1 n1 c1, .slice a2 n1 c2] w fun e w' =>
      e = .returned (.tuple #[.int .u32 (U (s ^^^ Crc.pw Crc.e8 (n - at_ - n1).toNat (Crc.crc l1 ^^^ Crc.crc l2))), .int .i64 0]) ∧ Below w.heap.size w w' := by
  have B1 : Hid (Bytes w a1 l1) := b1
  have B2 : Hid (Bytes w a2 l2) := b2
  have E1 : Hid (l1.length = n1) := e1
  have E2 : Hid (l2.length = n1) := e2
  clear b1 b2 e1 e2
  obtain ⟨m, hm⟩ := Int.eq_ofNat_of_zero_le (show 0 ≤ n - at_ - n1 by omega)
  have Hm : Hid ((n - at_ - n1).toNat = m) := by rw [hm]; rfl
  have hx := bits_xor (Crc.crc l1) (Crc.crc l2)
  have hy := bits_xor s (Crc.pw Crc.e8 m (Crc.crc l1 ^^^ Crc.crc l2))
  have g1 : ¬ n < 0 := by omega
  have g2 : ¬ at_ < 0 := by omega
  have g3 : ¬ 1099511627776 < n := by omega
  have g4 : ((n1 : Int) != n1) = false := by simp
  have g5 : ¬ n < n1 := by omega
  have g6 : ¬ n - n1 < at_ := by omega
  rw [Hm.out]
  go_enter Tryd.func20, Tryd.ntmps20
  go_wp2_with fail
  refine (refOf_any _ a1 n1 c1 l1 E1.out B1.out).mono ?_
  rintro e w1 ⟨rfl, rfl⟩
  go_wp2_with fail
  refine (refOf_any _ a2 n1 c2 l2 E2.out B2.out).mono ?_
  rintro e w2 ⟨rfl, rfl⟩
  go_wp2_with fail
  refine (thru_any _ (Crc.crc l1 ^^^ Crc.crc l2) m (by omega)).mono ?_
  rintro e w3 ⟨rfl, hb⟩
  go_wp2
  go_ret2
  exact ⟨rfl, hb⟩
set_option maxRecDepth 100000 in
theorem rturn_bad (w : World) (s : W) (n at_ : Int) (a1 a2 : Option Addr) (n1 n2 c1 c2 : Nat) (hs : n1 ≤ 1000000000000000)
    (h : ¬ (0 ≤ n ∧ n ≤ 1099511627776 ∧ 0 ≤ at_ ∧ n1 = n2 ∧ at_ + n1 ≤ n)) :
    Calls Tryd.prog 20 #[.int .u32 (U s), .int .i64 n, .int .i64 at_, .slice a1 n1 c1, .slice a2 n2 c2] w fun e w' => e = .returned (.tuple #[.int .u32 0, .int .i64 1]) ∧ w' = w := by
  by_cases k1 : n < 0
  · clear h
    go_enter Tryd.func20, Tryd.ntmps20
    go_wp2
    go_ret2
    exact ⟨rfl, rfl⟩
  by_cases k2 : at_ < 0
  · clear h
    go_enter Tryd.func20, Tryd.ntmps20
    go_wp2
    go_ret2
    exact ⟨rfl, rfl⟩
  by_cases k3 : 1099511627776 < n
  · clear h
    go_enter Tryd.func20, Tryd.ntmps20
    go_wp2
    go_ret2
    exact ⟨rfl, rfl⟩
  by_cases k4 : n1 = n2
  · subst k4
    have g4 : ((n1 : Int) != n1) = false := by simp
    by_cases k5 : n < n1
    · clear h
      go_enter Tryd.func20, Tryd.ntmps20
      go_wp2
      go_ret2
      exact ⟨rfl, rfl⟩
    · have k6 : n - n1 < at_ := by omega
      clear h
      go_enter Tryd.func20, Tryd.ntmps20
      go_wp2
      go_ret2
      exact ⟨rfl, rfl⟩
  · have g4 : ((n1 : Int) != n2) = true := by simp; omega
    clear h
    go_enter Tryd.func20, Tryd.ntmps20
    go_wp2
    go_ret2
    exact ⟨rfl, rfl⟩
end Go.Proofs.YtklffjagdhbjcaaDoor
