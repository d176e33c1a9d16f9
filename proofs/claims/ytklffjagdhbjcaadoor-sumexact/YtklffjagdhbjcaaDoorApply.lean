import Derived.Test.YtklffjagdhbjcaaDoorOf
import Derived.Deep.WholeRow
namespace Go.Proofs.YtklffjagdhbjcaaDoor
open Go.RowKit
open Crc (W)

/-- an array of 32 words -/
def zarr (z : Nat → W) : Array Value := Array.ofFn (n := 32) fun i => .int .u32 (U (z i))
theorem zarr_size (z : Nat → W) : (zarr z).size = 32 := by simp [zarr]

theorem zarr_get (z : Nat → W) (k : Nat) (hk : k < 32) : (zarr z)[k]? = some (.int .u32 (U (z k))) := by simp [zarr, hk]
theorem info50 : (Tryd.prog.info? 50).map (·.size) = some 32 := by kernel_rfl
theorem size50 (z : Nat → W) : (Tryd.prog.info? 50).map (·.size) = some (zarr z).size := by rw [zarr_size]; exact info50

theorem run_index (z : Nat → W) (k : Nat) (hk : k < 32) (w : World) : (Instr.index 50 (.agg (zarr z)) (.int .i64 (k : Int))).run Tryd.prog w = .ok (.int .u32 (U (z k))) w := by
  unfold Instr.index
  simp [asIntOf, run_underlying Tryd.underlying50, hk, go_sem]
  rw [zarr_get z k hk]; rfl
theorem bit_test (x : W) (k : Nat) : bits .and .u32 (U x / (2 : Int) ^ k) 1 = if x.getLsbD k = true then 1 else 0 := by
  have e : U x / (2 : Int) ^ k = ((x.toNat / 2 ^ k : Nat) : Int) := by
    unfold U
    rw [Int.natCast_ediv, Int.natCast_pow]; rfl
  have hlt : x.toNat / 2 ^ k < 4294967296 := Nat.lt_of_le_of_lt (Nat.div_le_self _ _) (by have := x.isLt; omega)
  rw [e, show (1 : Int) = ((1 : Nat) : Int) from rfl, u32_and_nat _ 1 hlt (by omega), Nat.and_one_is_mod]
  have hb : x.getLsbD k = decide (x.toNat / 2 ^ k % 2 = 1) := Nat.testBit_eq_decide_div_mod_eq
  rw [hb]
  by_cases h : x.toNat / 2 ^ k % 2 = 1
  · simp [h]
  · have : x.toNat / 2 ^ k % 2 = 0 := by omega
    simp [this]
theorem bit_yes {x : W} {k : Nat} (h : (bits .and .u32 (U x / (2 : Int) ^ k) 1 == 1) = true) : x.getLsbD k = true := by
  rw [bit_test] at h
  by_cases hb : x.getLsbD k = true
  · exact hb
  · rw [if_neg hb] at h; exact absurd h (by decide)
theorem bit_no {x : W} {k : Nat} (h : (bits .and .u32 (U x / (2 : Int) ^ k) 1 == 1) = false) : ¬ x.getLsbD k = true := by
  intro hb
  rw [bit_test, if_pos hb] at h
  exact absurd h (by decide)

set_option maxRecDepth 100000 in
set_option maxHeartbeats 400000 in
theorem apply_any (w : World) (z : Nat → W) (x : W) :
    Calls Tryd.prog 22 #[.agg (zarr z), .int .u32 (U x)] w fun e w' => e = .returned (.int .u32 (U (Crc.app z x 32))) ∧ w' = w.alloc (.cells (zarr z) 50) := by
  go_enter Tryd.func22, Tryd.ntmps22
  go_wp2_with (refine wpList_load_row rfl 50 _ rfl w.heap.size rfl 50 (zarr z) (0, 0) _ (heap_alloc_new _ _) Tryd.underlying50 rfl (size50 z) ?_)
  go_loop [5, 9] (fun t i => ∃ k : Nat, k ≤ 32 ∧ i = .int .i64 k ∧ t = .int .u32 (U (Crc.app z x k))) (fun _ i => 32 - (intOf i).toNat)
  case atStart => exact ⟨0, Nat.zero_le _, rfl, rfl⟩
  case round =>
    obtain ⟨k, hk, rfl, rfl⟩ := hrel
    by_cases hlt : k < 32
    · have hi := run_index z k hlt
      go_wp2
      · refine ⟨⟨k + 1, by omega, by go_num, ?_⟩, by simp [intOf]; omega⟩
        rw [bits_xor, Crc.app, if_pos (bit_yes ‹_›)]
      · refine ⟨⟨k + 1, by omega, by go_num, ?_⟩, by simp [intOf]; omega⟩
        rw [Crc.app, if_neg (bit_no ‹_›), BitVec.xor_zero]
    · go_wp2
      go_ret
      obtain rfl : k = 32 := by omega
      exact ⟨rfl, rfl⟩
end Go.Proofs.YtklffjagdhbjcaaDoor
