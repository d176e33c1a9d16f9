import Derived.Test.YtklffjagdhbjcaaDoorKnown
import Derived.Deep.QuietTactic
import Derived.BigQuiet
namespace Go.Proofs.YtklffjagdhbjcaaDoor
open Go.RowKit
open Crc (W)

theorem U_zero : U 0#32 = 0 := by decide
theorem join0_ok (w : World) (a : W) (n : Int) (h0 : 0 ≤ n) (h1 : n ≤ 1099511627776) (hT : TabAt w) :
    Calls Tryd.prog 10 #[.int .u32 (U a), .int .u32 0, .int .i64 n] w fun e w' => e = .returned (.tuple #[.int .u32 (U (Crc.pw Crc.e8 n.toNat a)), .int .i64 0]) ∧ Below w.heap.size w w' := by
  have := join_ok w a 0#32 n h0 h1 hT
  rwa [U_zero, BitVec.xor_zero] at this
theorem join0_bad (w : World) (a : W) (n : Int) (h : n < 0 ∨ 1099511627776 < n) :
    Calls Tryd.prog 10 #[.int .u32 (U a), .int .u32 0, .int .i64 n] w fun e w' => e = .returned (.tuple #[.int .u32 0, .int .i64 1]) ∧ w' = w := by
  rcases h with h | h
  · have := join_neg w a 0#32 n h
    rwa [U_zero] at this
  · have := join_far w a 0#32 n h
    rwa [U_zero] at this

theorem lens_cells {w w1 : World} {n m : Int} (hb : Below (w.heap.size + 1) (w.alloc (.cells #[.int .i64 n, .int .i64 m] 32)) w1) :
    w1.cell? ⟨w.heap.size, 0, none⟩ = some (.int .i64 n) ∧ w1.cell? ⟨w.heap.size, 1, none⟩ = some (.int .i64 m) := by
  have h : w1.heap[w.heap.size]? = some (.cells #[.int .i64 n, .int .i64 m] 32) := by rw [hb.block _ (by omega)]; exact heap_alloc_new _ _
  exact ⟨by rw [cell_of_row _ _ _ _ _ _ h]; rfl, by rw [cell_of_row _ _ _ _ _ _ h]; rfl⟩
theorem below_box {w w1 : World} {o : Obj} (hb : Below (w.heap.size + 1) (w.alloc o) w1) : Below w.heap.size w w1 :=
  ((Below.refl _ _).alloc (Nat.le_refl _) _).trans (hb.mono (by omega))
theorem known_box (w : World) (o : Obj) (hT : TabAt w) :
    Calls Tryd.prog 8 #[] (w.alloc o) fun e w' => e = .returned (.bool true) ∧ Below (w.heap.size + 1) (w.alloc o) w' ∧ TabAt w' := by
  have hT1 : TabAt (w.alloc o) := hT.on ((Below.refl _ _).alloc (Nat.le_refl _) _)
  refine (known_any _ hT1).mono ?_
  rintro e w1 ⟨rfl, hb⟩
  exact ⟨rfl, by rwa [size_alloc] at hb, hT1.on hb⟩
theorem TabAt.drewN {w : World} (h : TabAt w) (n : Nat) : TabAt (w.drewN n) := fun i hi => by
  have := h i hi
  simpa using this

set_option maxRecDepth 100000 in
set_option maxHeartbeats 1600000 in
theorem far_bad (w : World) (a b : W) (n m : Int) (h : n < 0 ∨ 1099511627776 < n) (hT : TabAt w) :
    Calls Tryd.prog 4 #[.int .u32 (U a), .int .u32 (U b), .agg #[.int .i64 n, .int .i64 m]] w fun e w' => e = .returned (.bool true) ∧ Below w.heap.size w w' := by
  have HT : Hid (TabAt w) := hT
  have HH : Hid (n < 0 ∨ 1099511627776 < n) := h
  clear hT h
  go_enter Tryd.func4, Tryd.ntmps4
  go_wp2_with fail
  refine (known_box w _ HT.out).mono ?_
  rintro e w1 ⟨rfl, hb, ht1⟩
  obtain ⟨q0, q1⟩ := lens_cells hb
  have hb1 := below_box hb
  clear hb
  go_wp2_with fail
  go_quiet (fail)
  have HT2 : Hid (TabAt (w1.drewN nq)) := ht1.drewN nq
  have HB2 : Hid (Below w.heap.size w (w1.drewN nq)) := below_drewN hb1 nq
  clear hb1 q0 q1 ht1
  generalize w1.drewN nq = w2 at *
  go_wp2_with fail
  refine (join0_bad _ a n HH.out).mono ?_
  rintro e w3 ⟨rfl, rfl⟩
  rcases HH.out with h | h
  · go_wp2
    go_ret
    exact ⟨rfl, HB2.out⟩
  · have h' : ¬ n < 0 := by omega
    go_wp2
    go_ret
    exact ⟨rfl, HB2.out⟩
set_option maxRecDepth 100000 in
set_option maxHeartbeats 1600000 in
theorem far_bad2 (w : World) (a b : W) (n m : Int) (h0 : 0 ≤ n) (h1 : n ≤ 1099511627776) (h : m < 0 ∨ 1099511627776 < m) (hT : TabAt w) :
    Calls Tryd.prog 4 #[.int .u32 (U a), .int .u32 (U b), .agg #[.int .i64 n, .int .i64 m]] w fun e w' => e = .returned (.bool true) ∧ Below w.heap.size w w' := by
  have HT : Hid (TabAt w) := hT
  have HH : Hid (m < 0 ∨ 1099511627776 < m) := h
  have g1 : ¬ n < 0 := by omega
  have g2 : ¬ 1099511627776 < n := by omega
  have x1 := bits_xor a b
  have x2 := bits_xor (Crc.pw Crc.e8 n.toNat a) b
  have x3 := bits_xor (Crc.pw Crc.e8 n.toNat a) (Crc.pw Crc.e8 n.toNat b)
  clear hT h
  go_enter Tryd.func4, Tryd.ntmps4
  go_wp2_with fail
  refine (known_box w _ HT.out).mono ?_
  rintro e w1 ⟨rfl, hb, ht1⟩
  obtain ⟨q0, q1⟩ := lens_cells hb
  have hb1 := below_box hb
  clear hb
  go_wp2_with fail
  go_quiet (fail)
  have HT2 : Hid (TabAt (w1.drewN nq)) := ht1.drewN nq
  have HB2 : Hid (Below w.heap.size w (w1.drewN nq)) := below_drewN hb1 nq
  clear hb1 q0 q1 ht1
  generalize w1.drewN nq = w2 at *
  go_wp2_with fail
  refine (join0_ok w2 a n (by omega) (by omega) HT2.out).mono ?_
  rintro e w3 ⟨rfl, hb3⟩
  have HB3 : Hid (Below w.heap.size w w3) := chain HB2.out hb3
  have HT3 : Hid (TabAt w3) := HT.out.on HB3.out
  clear hb3
  go_wp2_with fail
  refine (join_ok w3 a b n (by omega) (by omega) HT3.out).mono ?_
  rintro e w4 ⟨rfl, hb4⟩
  have HB4 : Hid (Below w.heap.size w w4) := chain HB3.out hb4
  have HT4 : Hid (TabAt w4) := HT.out.on HB4.out
  clear hb4
  go_wp2_with fail
  refine (join0_ok w4 (a ^^^ b) n (by omega) (by omega) HT4.out).mono ?_
  rintro e w5 ⟨rfl, hb5⟩
  have HB5 : Hid (Below w.heap.size w w5) := chain HB4.out hb5
  have HT5 : Hid (TabAt w5) := HT.out.on HB5.out
  clear hb5
  rw [(Crc.e8_lin.pw n.toNat) a b]
  go_wp2_with fail
  refine (join0_ok w5 b n (by omega) (by omega) HT5.out).mono ?_
  rintro e w6 ⟨rfl, hb6⟩
  have HB6 : Hid (Below w.heap.size w w6) := chain HB5.out hb6
  have HT6 : Hid (TabAt w6) := HT.out.on HB6.out
  clear hb6
  go_wp2_with (first | (go_at_call 11; go_in))
  refine (join0_bad _ _ m HH.out).mono ?_
  rintro e w7 ⟨rfl, rfl⟩
  rcases HH.out with h | h
  · go_wp2
    go_ret
    exact ⟨rfl, HB6.out⟩
  · have h' : ¬ m < 0 := by omega
    go_wp2
    go_ret
    exact ⟨rfl, HB6.out⟩
set_option maxRecDepth 100000 in
set_option maxHeartbeats 1600000 in
theorem far_over (w : World) (a b : W) (n m : Int) (h0 : 0 ≤ n) (h1 : n ≤ 1099511627776) (h2 : 0 ≤ m) (h3 : m ≤ 1099511627776) (h4 : 1099511627776 < n + m) (hT : TabAt w) :
    Calls Tryd.prog 4 #[.int .u32 (U a), .int .u32 (U b), .agg #[.int .i64 n, .int .i64 m]] w fun e w' => e = .returned (.bool true) ∧ Below w.heap.size w w' := by
  have HT : Hid (TabAt w) := hT
  have g3 : ¬ m < 0 := by omega
  have g4 : ¬ 1099511627776 < m := by omega
  have g1 : ¬ n < 0 := by omega
  have g2 : ¬ 1099511627776 < n := by omega
  have x1 := bits_xor a b
  have x2 := bits_xor (Crc.pw Crc.e8 n.toNat a) b
  have x3 := bits_xor (Crc.pw Crc.e8 n.toNat a) (Crc.pw Crc.e8 n.toNat b)
  clear hT
  go_enter Tryd.func4, Tryd.ntmps4
  go_wp2_with fail
  refine (known_box w _ HT.out).mono ?_
  rintro e w1 ⟨rfl, hb, ht1⟩
  obtain ⟨q0, q1⟩ := lens_cells hb
  have hb1 := below_box hb
  clear hb
  go_wp2_with fail
  go_quiet (fail)
  have HT2 : Hid (TabAt (w1.drewN nq)) := ht1.drewN nq
  have HB2 : Hid (Below w.heap.size w (w1.drewN nq)) := below_drewN hb1 nq
  clear hb1 q0 q1 ht1
  generalize w1.drewN nq = w2 at *
  go_wp2_with fail
  refine (join0_ok w2 a n (by omega) (by omega) HT2.out).mono ?_
  rintro e w3 ⟨rfl, hb3⟩
  have HB3 : Hid (Below w.heap.size w w3) := chain HB2.out hb3
  have HT3 : Hid (TabAt w3) := HT.out.on HB3.out
  clear hb3
  go_wp2_with fail
  refine (join_ok w3 a b n (by omega) (by omega) HT3.out).mono ?_
  rintro e w4 ⟨rfl, hb4⟩
  have HB4 : Hid (Below w.heap.size w w4) := chain HB3.out hb4
  have HT4 : Hid (TabAt w4) := HT.out.on HB4.out
  clear hb4
  go_wp2_with fail
  refine (join0_ok w4 (a ^^^ b) n (by omega) (by omega) HT4.out).mono ?_
  rintro e w5 ⟨rfl, hb5⟩
  have HB5 : Hid (Below w.heap.size w w5) := chain HB4.out hb5
  have HT5 : Hid (TabAt w5) := HT.out.on HB5.out
  clear hb5
  rw [(Crc.e8_lin.pw n.toNat) a b]
  go_wp2_with fail
  refine (join0_ok w5 b n (by omega) (by omega) HT5.out).mono ?_
  rintro e w6 ⟨rfl, hb6⟩
  have HB6 : Hid (Below w.heap.size w w6) := chain HB5.out hb6
  have HT6 : Hid (TabAt w6) := HT.out.on HB6.out
  clear hb6
  go_wp2_with (first | (go_at_call 11; go_in))
  refine (join0_ok w6 _ m (by omega) (by omega) HT6.out).mono ?_
  rintro e w7 ⟨rfl, hb7⟩
  have HB7 : Hid (Below w.heap.size w w7) := chain HB6.out hb7
  have HT7 : Hid (TabAt w7) := HT.out.on HB7.out
  clear hb7
  go_wp2_with fail
  refine (join0_bad _ a (n + m) (.inr h4)).mono ?_
  rintro e w8 ⟨rfl, rfl⟩
  go_wp2
  go_ret
  exact ⟨rfl, HB7.out⟩
set_option maxRecDepth 100000 in
set_option maxHeartbeats 1600000 in
theorem far_fits (w : World) (a b : W) (n m : Int) (h0 : 0 ≤ n) (h1 : n ≤ 1099511627776) (h2 : 0 ≤ m) (h3 : m ≤ 1099511627776) (h4 : n + m ≤ 1099511627776) (hT : TabAt w) :
    Calls Tryd.prog 4 #[.int .u32 (U a), .int .u32 (U b), .agg #[.int .i64 n, .int .i64 m]] w fun e w' => e = .returned (.bool true) ∧ Below w.heap.size w w' := by
  have HT : Hid (TabAt w) := hT
  have g3 : ¬ m < 0 := by omega
  have g4 : ¬ 1099511627776 < m := by omega
  have g5 : ¬ 1099511627776 < n + m := by omega
  have HA : Hid (Crc.pw Crc.e8 (n + m).toNat a = Crc.pw Crc.e8 m.toNat (Crc.pw Crc.e8 n.toNat a)) := by
    rw [show (n + m).toNat = n.toNat + m.toNat by omega]; exact Crc.pw_add _ _ _ _
  have g1 : ¬ n < 0 := by omega
  have g2 : ¬ 1099511627776 < n := by omega
  have x1 := bits_xor a b
  have x2 := bits_xor (Crc.pw Crc.e8 n.toNat a) b
  have x3 := bits_xor (Crc.pw Crc.e8 n.toNat a) (Crc.pw Crc.e8 n.toNat b)
  clear hT
  go_enter Tryd.func4, Tryd.ntmps4
  go_wp2_with fail
  refine (known_box w _ HT.out).mono ?_
  rintro e w1 ⟨rfl, hb, ht1⟩
  obtain ⟨q0, q1⟩ := lens_cells hb
  have hb1 := below_box hb
  clear hb
  go_wp2_with fail
  go_quiet (fail)
  have HT2 : Hid (TabAt (w1.drewN nq)) := ht1.drewN nq
  have HB2 : Hid (Below w.heap.size w (w1.drewN nq)) := below_drewN hb1 nq
  clear hb1 q0 q1 ht1
  generalize w1.drewN nq = w2 at *
  go_wp2_with fail
  refine (join0_ok w2 a n (by omega) (by omega) HT2.out).mono ?_
  rintro e w3 ⟨rfl, hb3⟩
  have HB3 : Hid (Below w.heap.size w w3) := chain HB2.out hb3
  have HT3 : Hid (TabAt w3) := HT.out.on HB3.out
  clear hb3
  go_wp2_with fail
  refine (join_ok w3 a b n (by omega) (by omega) HT3.out).mono ?_
  rintro e w4 ⟨rfl, hb4⟩
  have HB4 : Hid (Below w.heap.size w w4) := chain HB3.out hb4
  have HT4 : Hid (TabAt w4) := HT.out.on HB4.out
  clear hb4
  go_wp2_with fail
  refine (join0_ok w4 (a ^^^ b) n (by omega) (by omega) HT4.out).mono ?_
  rintro e w5 ⟨rfl, hb5⟩
  have HB5 : Hid (Below w.heap.size w w5) := chain HB4.out hb5
  have HT5 : Hid (TabAt w5) := HT.out.on HB5.out
  clear hb5
  rw [(Crc.e8_lin.pw n.toNat) a b]
  go_wp2_with fail
  refine (join0_ok w5 b n (by omega) (by omega) HT5.out).mono ?_
  rintro e w6 ⟨rfl, hb6⟩
  have HB6 : Hid (Below w.heap.size w w6) := chain HB5.out hb6
  have HT6 : Hid (TabAt w6) := HT.out.on HB6.out
  clear hb6
  go_wp2_with (first | (go_at_call 11; go_in))
  refine (join0_ok w6 _ m (by omega) (by omega) HT6.out).mono ?_
  rintro e w7 ⟨rfl, hb7⟩
  have HB7 : Hid (Below w.heap.size w w7) := chain HB6.out hb7
  have HT7 : Hid (TabAt w7) := HT.out.on HB7.out
  clear hb7
  go_wp2_with fail
  refine (join0_ok w7 a (n + m) (by omega) h4 HT7.out).mono ?_
  rintro e w8 ⟨rfl, hb8⟩
  have HB8 : Hid (Below w.heap.size w w8) := chain HB7.out hb8
  clear hb8
  rw [HA.out]
  go_wp2
  go_ret
  exact ⟨rfl, HB8.out⟩
theorem far_any (w : World) (a b : W) (n m : Int) (hT : TabAt w) :
    Calls Tryd.prog 4 #[.int .u32 (U a), .int .u32 (U b), .agg #[.int .i64 n, .int .i64 m]] w fun e w' => e = .returned (.bool true) ∧ Below w.heap.size w w' := by
  by_cases k1 : n < 0 ∨ 1099511627776 < n
  · exact far_bad w a b n m k1 hT
  by_cases k2 : m < 0 ∨ 1099511627776 < m
  · exact far_bad2 w a b n m (by omega) (by omega) k2 hT
  by_cases k3 : 1099511627776 < n + m
  · exact far_over w a b n m (by omega) (by omega) (by omega) (by omega) k3 hT
  · exact far_fits w a b n m (by omega) (by omega) (by omega) (by omega) (by omega) hT
end Go.Proofs.YtklffjagdhbjcaaDoor
