import Derived.Test.YtleakaddlgpamaaDoorKInK
namespace Go.Proofs.YtleakaddlgpamaaDoor
open Go.RowKit Rec

theorem drew7 (w : World) (n : Nat) : Below w.heap.size w (w.drewN n) := ⟨rfl, rfl, rfl, Nat.le_refl _, fun _ _ => rfl⟩
theorem sup9 : (sup 128).take 9 = [66, 79, 76, 69, 70, 83, 48, 49, 128] := by
  have e : (sup 128).take 9 = ((sup 128).take 16).take 9 := by rw [List.take_take]; rfl
  rw [e, sup_sixteen, supA_twelve (n := 128) (by decide)]
  rfl
theorem str9 : strOfNums [66, 79, 76, 69, 70, 83, 48, 49, 128] = { data := #[66, 79, 76, 69, 70, 83, 48, 49, 128] } := by decide +kernel
end Go.Proofs.YtleakaddlgpamaaDoor
