import Derived.Test.YtklffjagdhbjcaaDoorRefOf
import Derived.Deep.RegionWith
import Derived.Deep.DeepCutAuto
namespace Go.Proofs.YtklffjagdhbjcaaDoor
open Go.RowKit
open Crc (W)

theorem info52 : (Tryd.prog.info? 52).map (·.size) = some 32 := by kernel_rfl
theorem size52 (z : Nat → W) : (Tryd.prog.info? 52).map (·.size) = some (zarr z).size := by rw [zarr_size]; exact info52

set_option maxRecDepth 100000 in
set_option maxHeartbeats 400000 in
theorem turnsOf_any (w : World) (z : Nat → W) (x : W) :
    Calls Tryd.prog 26 #[.agg (zarr z), .int .u32 (U x)] w fun e w' => e = .returned (.int .u32 (U (Crc.app z x 32))) ∧ w' = w.alloc (.cells (zarr z) 52) := by
  go_enter Tryd.func26, Tryd.ntmps26
  go_wp2
  go_loop [5, 6] (fun t i => ∃ k : Nat, k ≤ 32 ∧ i = .int .i64 k ∧ t = .int .u32 (U (Crc.app z x k))) (fun _ i => 32 - (intOf i).toNat)
  case atStart => exact ⟨0, Nat.zero_le _, rfl, rfl⟩
  case round =>
    obtain ⟨k, hk, rfl, rfl⟩ := hrel
    by_cases hlt : k < 32
    · have hc : (w.alloc (.cells (zarr z) 52)).cell? ⟨w.heap.size, k, none⟩ = some (.int .u32 (U (z k))) := by
        rw [cell_of_row _ _ _ _ _ _ (heap_alloc_new _ _), zarr_get _ _ hlt]
      go_wp2
      · refine ⟨⟨k + 1, by omega, by go_num, ?_⟩, by simp [intOf]; omega⟩
        rw [bits_xor, Crc.app, if_pos (bit_yes ‹_›)]
      · refine ⟨⟨k + 1, by omega, by go_num, ?_⟩, by simp [intOf]; omega⟩
        rw [Crc.app, if_neg (bit_no ‹_›), BitVec.xor_zero]
    · go_wp2
      go_ret
      obtain rfl : k = 32 := by omega
      exact ⟨rfl, rfl⟩
end Go.Proofs.YtklffjagdhbjcaaDoor
