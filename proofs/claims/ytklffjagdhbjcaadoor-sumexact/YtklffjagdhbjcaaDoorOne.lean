import Derived.Test.YtklffjagdhbjcaaDoorSquare
namespace Go.Proofs.YtklffjagdhbjcaaDoor
open Go.RowKit
open Crc (W)

/-- what the first k rounds leave -/
def onz (k : Nat) : Nat → W := fun i => if i < k then Crc.e8 (1#32 <<< i) else 0#32
structure OneRel (w wr : World) (k : Nat) : Prop where
  below : Below w.heap.size w wr
  res : wr.heap[w.heap.size]? = some (.cells (zarr fun _ => 0#32) 50)
  out : wr.heap[w.heap.size + 1]? = some (.cells (zarr (onz k)) 50)
  size : w.heap.size + 2 ≤ wr.heap.size
theorem one_start (w : World) : OneRel w ((w.alloc (.cells (zarr fun _ => 0#32) 50)).alloc (.cells (zarr fun _ => 0#32) 50)) 0 := by
  refine ⟨((Below.refl _ _).alloc (Nat.le_refl _) _).alloc (by simp) _, heap_alloc2_old _ _ _, heap_alloc2_new _ _ _, by simp⟩
theorem one_step {w wr : World} {k : Nat} (h : OneRel w wr k) :
    OneRel w (wr.setCell ⟨w.heap.size + 1, k, none⟩ (.int .u32 (U (Crc.e8 (1#32 <<< k))))) (k + 1) := by
  have hs := h.size
  refine ⟨h.below.setCell (by simp) _, ?_, ?_, by simp [World.setCell]; omega⟩
  · rw [heap_setCell_other _ _ _ _ (by simp)]; exact h.res
  · rw [heap_setCell_same _ _ _ (zarr (onz k)) 50 _ h.out, zarr_set]
    have e : zarr (fun i => if i = k then Crc.e8 (1#32 <<< k) else onz k i) = zarr (onz (k + 1)) := by
      apply zarr_congr
      intro i _
      unfold onz
      by_cases e : i = k
      · subst e; simp
      · have : (i < k + 1) ↔ i < k := by omega
        simp [e, this]
    rw [e]
theorem one_cell {w wr : World} {k : Nat} (h : OneRel w wr k) (hk : k < 32) :
    (∃ v, wr.cell? ⟨w.heap.size + 1, k, none⟩ = some v) ∧ wr.frozen? ⟨w.heap.size + 1, k, none⟩ = false :=
  ⟨⟨_, by rw [cell_of_row _ _ _ _ _ _ h.out, zarr_get _ _ hk]⟩, frozen_of_row _ _ _ _ _ h.out⟩

theorem shl_one (k : Nat) : (2 : Int) ^ k % 4294967296 = U (1#32 <<< k) := by
  unfold U
  rw [BitVec.toNat_shiftLeft, Nat.shiftLeft_eq]
  simp

set_option maxRecDepth 100000 in
set_option maxHeartbeats 400000 in
theorem one_any (w : World) (hT : TabAt w) :
    Calls Tryd.prog 21 #[] w fun e w' => e = .returned (.agg (zarr fun i => Crc.e8 (1#32 <<< i))) ∧ Below w.heap.size w w' := by
  have HT : Hid (TabAt w) := hT
  clear hT
  go_enter Tryd.func21, Tryd.ntmps21
  go_wp2
  rw [zarr_zero]
  go_loopw [3] (fun i wr => ∃ k : Nat, k ≤ 32 ∧ i = .int .i64 k ∧ OneRel w wr k) (fun i _ => 32 - (intOf i).toNat)
  case atStart => exact ⟨0, Nat.zero_le _, rfl, one_start w⟩
  case round =>
    obtain ⟨k, hk, rfl, hr⟩ := hrel
    have HT' : Hid (TabAt wr) := HT.out.below hr.below HT.out.size
    by_cases hlt : k < 32
    · obtain ⟨⟨v, hv⟩, hf⟩ := one_cell hr hlt
      have HR := one_step hr
      go_wp2_with fail
      rw [shl_one k]
      refine (eight_any _ _ HT'.out).mono ?_
      rintro e w' ⟨rfl, rfl⟩
      go_wp2
      go_roundw
      case rel => exact ⟨k + 1, by omega, by go_num, HR⟩
      case measure => simp [intOf]; omega
    · obtain rfl : k = 32 := by omega
      have hfin : zarr (onz 32) = zarr (fun i => Crc.e8 (1#32 <<< i)) := zarr_congr fun i hi => by unfold onz; rw [if_pos hi]
      have hout := hr.out
      rw [hfin] at hout
      clear hfin
      obtain ⟨y, hy⟩ : ∃ y : Nat → W, y = fun i => Crc.e8 (1#32 <<< i) := ⟨_, rfl⟩
      rw [← hy] at hout
      have HY : Hid (y = fun i => Crc.e8 (1#32 <<< i)) := hy
      clear hy
      go_wp2_with (first | (refine wpList_load_row rfl 50 _ rfl (w.heap.size + 1) rfl 50 (zarr y) (0, 0) _ hout Tryd.underlying50 rfl (size50 y) ?_) | (refine wpList_store_row rfl 50 _ _ rfl (w.heap.size) (zarr y) rfl rfl 50 (zarr fun _ => 0#32) hr.res (size50 y) (by rw [zarr_size, zarr_size]) (zarr_one y) ?_))
      refine bodyPost_ret (v := .agg (zarr y)) (results_cell_row Tryd.results21 _ _ (w.heap.size) 50 (zarr y) (0, 0) _ rfl ?_ Tryd.underlying50 rfl (size50 y)) rfl ⟨by rw [HY.out], ?_⟩
      · exact setRow_heap _ _ _ _ _ _ hr.res
      · exact below_setRow hr.below (by omega) _
end Go.Proofs.YtklffjagdhbjcaaDoor
