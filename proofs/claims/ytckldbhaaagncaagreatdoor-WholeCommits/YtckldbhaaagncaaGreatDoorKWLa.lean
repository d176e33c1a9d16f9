import Derived.Test.YtckldbhaaagncaaGreatDoorWRe
namespace Go.Proofs.YtckldbhaaagncaaGreatDoor
open Go.RowKit Rec

/-- 512 bytes: some at the front -/
def blkOf (of : List Int) (y : Int) (k : Nat) : List Int := (List.range k).map fun i => if i < of.length then nth of i else y
theorem blkOf_length (of : List Int) (y : Int) (k : Nat) : (blkOf of y k).length = k := by simp [blkOf]
theorem blkOf_succ (of : List Int) (y : Int) (k : Nat) : blkOf of y (k + 1) = blkOf of y k ++ [if k < of.length then nth of k else y] := by
  unfold blkOf; rw [List.range_succ, List.map_append]; rfl
theorem nth_blkOf (of : List Int) (y : Int) (k i : Nat) (hi : i < k) : nth (blkOf of y k) i = if i < of.length then nth of i else y := by
  simp [blkOf, nth, List.getD, hi]
theorem blkOf_wf (of : List Int) (y : Int) (k : Nat) (h : ∀ i, 0 ≤ nth of i ∧ nth of i < 256) (hy : 0 ≤ y ∧ y < 256) : ∀ i, 0 ≤ nth (blkOf of y k) i ∧ nth (blkOf of y k) i < 256 := fun i => by
  by_cases hi : i < k
  · rw [nth_blkOf _ _ _ _ hi]; split
    · exact h i
    · exact hy
  · rw [nth_out _ _ (by rw [blkOf_length]; omega)]; omega
theorem new1 (w : World) (x : Int) (hx : 0 ≤ x ∧ x < 256) : Bytes (w.alloc (.cells #[.int .u8 x] 5)) (some ⟨w.heap.size, 0, none⟩) [x] := by
  refine ⟨by simp, fun i => ?_, .inr ⟨_, _, rfl, fun i hi => ?_⟩⟩
  · cases i with
    | zero => exact hx
    | succ i => rw [nth_out _ _ (by simp)]; omega
  · have : i = 0 := by simpa using hi
    subst this
    rw [cell_of_row _ _ _ _ _ _ (heap_alloc_new _ _)]; rfl
end Go.Proofs.YtckldbhaaagncaaGreatDoor

namespace Go.Proofs.YtckldbhaaagncaaGreatDoor
open Go.RowKit Rec

theorem bytes_drop {w : World} {g off : Nat} {l : List Int} (h : Bytes w (some ⟨g, off, none⟩) l) (k : Nat) : Bytes w (some ⟨g, off + k, none⟩) (l.drop k) := by
  have e : ∀ i, nth (l.drop k) i = nth l (k + i) := fun i => by simp [nth, List.getD]
  refine ⟨by have := h.len; rw [List.length_drop]; omega, fun i => by rw [e]; exact h.wf _, .inr ⟨g, off + k, rfl, fun i hi => ?_⟩⟩
  rw [List.length_drop] at hi
  rw [e, Nat.add_assoc]
  exact h.cell (by omega)
theorem bytes_end {w : World} {g : Nat} {l : List Int} (h : Bytes w (some ⟨g, 0, none⟩) l) (c : Nat) (hc : l.length ≤ c) : Bytes w (if c = 50176 then some ⟨g, 0, none⟩ else some ⟨g, 50176, none⟩) (l.drop 50176) := by
  have := bytes_drop h 50176
  rw [Nat.zero_add] at this
  split
  · have e : l.drop 50176 = [] := List.drop_eq_nil_of_le (by omega)
    rw [e] at this ⊢
    exact ⟨this.len, this.wf, .inl rfl⟩
  · exact this
theorem like_take {nb : Nat} {l m : List Int} (h : Like nb l m) (hl : l.length = 512 * nb) (hm : m.length = 512 * nb) (hn : 98 ≤ nb) : l.take 1024 = m.take 1024 ∧ l.drop 50176 = m.drop 50176 := by
  have key : ∀ i, i < 512 * nb → (i < 1024 ∨ 50176 ≤ i) → nth l i = nth m i := fun i hi hc => by
    have := congrArg (fun z => nth z (i % 512)) (h (i / 512) (by omega) (by omega))
    simp only [nth_bck _ _ _ (Nat.mod_lt i (by omega : 0 < 512))] at this
    rwa [Nat.div_add_mod] at this
  constructor
  · refine ext_nth (by simp [hl, hm]) fun i hi => ?_
    rw [List.length_take] at hi
    rw [nth_take _ _ _ (by omega), nth_take _ _ _ (by omega)]
    exact key i (by omega) (.inl (by omega))
  · refine ext_nth (by simp [hl, hm]) fun i hi => ?_
    rw [List.length_drop] at hi
    have e : ∀ (z : List Int), nth (z.drop 50176) i = nth z (50176 + i) := fun z => by simp [nth, List.getD]
    rw [e, e]
    exact key _ (by omega) (.inr (by omega))
end Go.Proofs.YtckldbhaaagncaaGreatDoor
