import Derived.Test.YtleakaddlgpamaaDoorTxT
import Derived.Shelf.Abstract
import Derived.Shelf.RegionOpen
import Derived.OwnWalkIn
import Derived.TacticsInMore
import Derived.LoopNIn
import Derived.LoopIn
namespace Go.Proofs.YtleakaddlgpamaaDoor
open Go.RowKit Go.Maps Go.Shelf Rec
attribute [local go_sem] Oper.semAt_some

/-- what a round keeps: all that lay, but for the map -/
def KpM (n₀ mb : Nat) (W W' : World) : Prop := ∀ k, k < n₀ → k ≠ mb → W'.heap[k]? = W.heap[k]?
theorem KpM.trans {n₀ mb : Nat} {A B C : World} (h : KpM n₀ mb A B) (k : KpM n₀ mb B C) : KpM n₀ mb A C := fun i h1 h2 => (k i h1 h2).trans (h i h1 h2)
theorem KpM.refl (n₀ mb : Nat) (A : World) : KpM n₀ mb A A := fun _ _ _ => rfl
theorem KpM.cell {n₀ mb : Nat} {A B : World} (h : KpM n₀ mb A B) {p : Addr} {v : Value} (hc : A.cell? p = some v) (h1 : p.block < n₀) (h2 : p.block ≠ mb) : B.cell? p = some v := by
  rw [World.cell?] at hc ⊢
  rw [h _ h1 h2]
  exact hc
/-- the indices of a list from the last one down to k -/
def des (L : Nat) : (k : Nat) → List (Fin L) := fun k => ((List.finRange L).drop k).reverse
theorem des_full (L : Nat) : des L L = [] := by
  unfold des
  rw [List.drop_eq_nil_of_le (by simp)]; rfl
theorem des_succ {L k : Nat} (h : k < L) : des L k = des L (k + 1) ++ [⟨k, h⟩] := by
  unfold des
  rw [List.drop_eq_getElem_cons (by simpa using h), List.reverse_cons]
  simp
theorem des_length (L k : Nat) : (des L k).length = L - k := by simp [des]
end Go.Proofs.YtleakaddlgpamaaDoor
