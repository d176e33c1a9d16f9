import Derived.Test.YtcdggcdkjooohaaGreatDoorKWBd
namespace Go.Proofs.YtcdggcdkjooohaaGreatDoor
open Go.RowKit Rec

theorem take_bck (F : List Int) (j : Nat) : F.take (512 * (j + 1)) = F.take (512 * j) ++ bck F j := by
  rw [Nat.mul_add, Nat.mul_one, List.take_add]; rfl
theorem ReadAt.cell {w0 w : World} {F : List Int} {f k g c : Nat} {L : List Rb} (h : ReadAt w0 w F f k (.slice (some ⟨g, 0, none⟩) k c) L) (i : Nat) (q : Rb) (hq : L[i]? = some q) : w.cell? ⟨g, i, none⟩ = some (.slice (some ⟨q.g, 0, none⟩) 512 q.c) := by
  have hc := h.row.cells (g := g) rfl i q.v (by simp [hq])
  rw [Addr.add_lit] at hc
  rw [Nat.zero_add] at hc
  exact hc
end Go.Proofs.YtcdggcdkjooohaaGreatDoor

namespace Go.Proofs.YtcdggcdkjooohaaGreatDoor
open Go.RowKit Rec

end Go.Proofs.YtcdggcdkjooohaaGreatDoor
