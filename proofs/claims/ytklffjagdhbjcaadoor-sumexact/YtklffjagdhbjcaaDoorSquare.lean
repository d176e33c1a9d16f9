import Derived.Test.YtklffjagdhbjcaaDoorApply
import Derived.Laws.CopyOwn
namespace Go.Proofs.YtklffjagdhbjcaaDoor
open Go.RowKit
open Crc (W)

theorem size_alloc (w : World) (A : Obj) : (w.alloc A).heap.size = w.heap.size + 1 := by show (w.heap.push A).size = _; simp
theorem heap3 (w : World) (A B C : Obj) : (((w.alloc A).alloc B).alloc C).heap[w.heap.size]? = some A := by
  rw [Below.heap_alloc _ _ _ (by simp; omega), heap_alloc2_old]
theorem heap3b (w : World) (A B C : Obj) : (((w.alloc A).alloc B).alloc C).heap[w.heap.size + 1]? = some B := by
  rw [Below.heap_alloc _ _ _ (by simp), heap_alloc2_new]
theorem heap3c (w : World) (A B C : Obj) : (((w.alloc A).alloc B).alloc C).heap[w.heap.size + 1 + 1]? = some C := by
  have := heap_alloc_new ((w.alloc A).alloc B) C
  rwa [size_alloc, size_alloc] at this
theorem zarr_zero : #[Value.int IntKind.u32 0, Value.int IntKind.u32 0, Value.int IntKind.u32 0, Value.int IntKind.u32 0,
          Value.int IntKind.u32 0, Value.int IntKind.u32 0, Value.int IntKind.u32 0, Value.int IntKind.u32 0,
          Value.int IntKind.u32 0, Value.int IntKind.u32 0, Value.int IntKind.u32 0, Value.int IntKind.u32 0,
          Value.int IntKind.u32 0, Value.int IntKind.u32 0, Value.int IntKind.u32 0, Value.int IntKind.u32 0,
          Value.int IntKind.u32 0, Value.int IntKind.u32 0, Value.int IntKind.u32 0, Value.int IntKind.u32 0,
          Value.int IntKind.u32 0, Value.int IntKind.u32 0, Value.int IntKind.u32 0, Value.int IntKind.u32 0,
          Value.int IntKind.u32 0, Value.int IntKind.u32 0, Value.int IntKind.u32 0, Value.int IntKind.u32 0,
          Value.int IntKind.u32 0, Value.int IntKind.u32 0, Value.int IntKind.u32 0, Value.int IntKind.u32 0] = zarr (fun _ => 0#32) := by
  kernel_rfl
theorem zarr_congr {z y : Nat → W} (h : ∀ i, i < 32 → z i = y i) : zarr z = zarr y := by
  apply Array.ext_getElem?
  intro i
  by_cases hi : i < 32
  · rw [zarr_get _ i hi, zarr_get _ i hi, h i hi]
  · rw [Array.getElem?_eq_none (by rw [zarr_size]; omega), Array.getElem?_eq_none (by rw [zarr_size]; omega)]
theorem zarr_set (z : Nat → W) (k : Nat) (x : W) : (zarr z).setIfInBounds k (.int .u32 (U x)) = zarr (fun i => if i = k then x else z i) := by
  apply Array.ext_getElem?
  intro i
  by_cases hi : i < 32
  · rw [Array.getElem?_setIfInBounds, zarr_get _ i hi, zarr_get _ i hi, zarr_size]
    by_cases h : k = i
    · subst h; simp [hi]
    · have : ¬ i = k := fun e => h e.symm
      simp [h, this]
  · rw [Array.getElem?_eq_none (by simp [zarr_size]; omega), Array.getElem?_eq_none (by rw [zarr_size]; omega)]
theorem zarr_one (z : Nat → W) : (zarr z).all (·.oneCell') = true := by
  rw [Array.all_eq_true]
  intro i hi
  simp [zarr, Value.oneCell']

/-- what the first k rounds leave -/
def sqz (z : Nat → W) (k : Nat) : Nat → W := fun i => if i < k then Crc.app z (z i) 32 else 0#32
structure SqRel (w wr : World) (z : Nat → W) (k : Nat) : Prop where
  below : Below w.heap.size w wr
  src : wr.heap[w.heap.size]? = some (.cells (zarr z) 50)
  res : wr.heap[w.heap.size + 1]? = some (.cells (zarr fun _ => 0#32) 50)
  out : wr.heap[w.heap.size + 1 + 1]? = some (.cells (zarr (sqz z k)) 50)
  size : w.heap.size + 3 ≤ wr.heap.size
theorem sq_start (w : World) (z : Nat → W) : SqRel w (((w.alloc (.cells (zarr z) 50)).alloc (.cells (zarr fun _ => 0#32) 50)).alloc (.cells (zarr fun _ => 0#32) 50)) z 0 := by
  refine ⟨(((Below.refl _ _).alloc (Nat.le_refl _) _).alloc (by simp) _).alloc (by simp; omega) _, heap3 _ _ _ _, heap3b _ _ _ _, heap3c _ _ _ _, by simp⟩
theorem sq_step {w wr : World} {z : Nat → W} {k : Nat} (h : SqRel w wr z k) (_hk : k < 32) :
    SqRel w ((wr.alloc (.cells (zarr z) 50)).setCell ⟨w.heap.size + 1 + 1, k, none⟩ (.int .u32 (U (Crc.app z (z k) 32)))) z (k + 1) := by
  have hs := h.size
  have old : ∀ i, i < wr.heap.size → i ≠ w.heap.size + 1 + 1 → ((wr.alloc (.cells (zarr z) 50)).setCell ⟨w.heap.size + 1 + 1, k, none⟩ (.int .u32 (U (Crc.app z (z k) 32)))).heap[i]? = wr.heap[i]? := fun i hi hne => by
    rw [heap_setCell_other _ _ _ _ hne, Below.heap_alloc _ _ _ hi]
  refine ⟨(h.below.alloc (by omega) _).setCell (by simp; omega) _, ?_, ?_, ?_, by simp [World.setCell]; omega⟩
  · rw [old _ (by omega) (by omega)]; exact h.src
  · rw [old _ (by omega) (by omega)]; exact h.res
  · rw [heap_setCell_same _ _ _ (zarr (sqz z k)) 50 _ (by rw [Below.heap_alloc _ _ _ (by omega)]; exact h.out), zarr_set]
    have e : zarr (fun i => if i = k then Crc.app z (z k) 32 else sqz z k i) = zarr (sqz z (k + 1)) := by
      apply zarr_congr
      intro i _
      unfold sqz
      by_cases e : i = k
      · subst e; simp
      · have : (i < k + 1) ↔ i < k := by omega
        simp [e, this]
    rw [e]
theorem sq_cell {w wr : World} {z : Nat → W} {k : Nat} (h : SqRel w wr z k) (hk : k < 32) (o : Obj) :
    (∃ v, (wr.alloc o).cell? ⟨w.heap.size + 1 + 1, k, none⟩ = some v) ∧ (wr.alloc o).frozen? ⟨w.heap.size + 1 + 1, k, none⟩ = false := by
  have hs := h.size
  have hh : (wr.alloc o).heap[w.heap.size + 1 + 1]? = some (.cells (zarr (sqz z k)) 50) := by rw [Below.heap_alloc _ _ _ (by omega)]; exact h.out
  exact ⟨⟨_, by rw [cell_of_row _ _ _ _ _ _ hh, zarr_get _ _ hk]⟩, frozen_of_row _ _ _ _ _ hh⟩

set_option maxRecDepth 100000 in
set_option maxHeartbeats 400000 in
theorem square_any (w : World) (z : Nat → W) :
    Calls Tryd.prog 23 #[.agg (zarr z)] w fun e w' => e = .returned (.agg (zarr fun i => Crc.app z (z i) 32)) ∧ Below w.heap.size w w' := by
  go_enter Tryd.func23, Tryd.ntmps23
  go_wp2_with (refine wpList_load_row rfl 50 _ rfl w.heap.size rfl 50 (zarr z) (0, 0) _ (heap3 w _ _ _) Tryd.underlying50 rfl (size50 z) ?_)
  rw [zarr_zero]
  go_loopw [7] (fun i wr => ∃ k : Nat, k ≤ 32 ∧ i = .int .i64 k ∧ SqRel w wr z k) (fun i _ => 32 - (intOf i).toNat)
  case atStart => exact ⟨0, Nat.zero_le _, rfl, sq_start w z⟩
  case round =>
    obtain ⟨k, hk, rfl, hr⟩ := hrel
    by_cases hlt : k < 32
    · have hi := run_index z k hlt
      obtain ⟨⟨v, hv⟩, hf⟩ := sq_cell hr hlt (.cells (zarr z) 50)
      have HR := sq_step hr hlt
      go_wp2_with (first | (refine wpList_load_row rfl 50 _ rfl w.heap.size rfl 50 (zarr z) (0, 0) _ hr.src Tryd.underlying50 rfl (size50 z) ?_) | (go_at_call 22; refine (apply_any _ z (z k)).mono ?_; rintro e w' ⟨rfl, rfl⟩))
      go_roundw
      case rel => exact ⟨k + 1, by omega, by go_num, HR⟩
      case measure => simp [intOf]; omega
    · obtain rfl : k = 32 := by omega
      have hfin : zarr (sqz z 32) = zarr (fun i => Crc.app z (z i) 32) := zarr_congr fun i hi => by unfold sqz; rw [if_pos hi]
      have hout := hr.out
      rw [hfin] at hout
      clear hfin
      obtain ⟨y, hy⟩ : ∃ y : Nat → W, y = fun i => Crc.app z (z i) 32 := ⟨_, rfl⟩
      rw [← hy] at hout
      have HY : Hid (y = fun i => Crc.app z (z i) 32) := hy
      clear hy
      go_wp2_with (first | (refine wpList_load_row rfl 50 _ rfl (w.heap.size + 1 + 1) rfl 50 (zarr y) (0, 0) _ hout Tryd.underlying50 rfl (size50 y) ?_) | (refine wpList_store_row rfl 50 _ _ rfl (w.heap.size + 1) (zarr y) rfl rfl 50 (zarr fun _ => 0#32) hr.res (size50 y) (by rw [zarr_size, zarr_size]) (zarr_one y) ?_))
      refine bodyPost_ret (v := .agg (zarr y)) (results_cell_row Tryd.results23 _ _ (w.heap.size + 1) 50 (zarr y) (0, 0) _ rfl ?_ Tryd.underlying50 rfl (size50 y)) rfl ⟨by rw [HY.out], ?_⟩
      · exact setRow_heap _ _ _ _ _ _ hr.res
      · exact below_setRow hr.below (by omega) _
end Go.Proofs.YtklffjagdhbjcaaDoor
