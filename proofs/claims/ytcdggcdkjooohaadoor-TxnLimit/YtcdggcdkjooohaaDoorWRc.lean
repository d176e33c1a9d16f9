import Derived.Test.YtcdggcdkjooohaaDoorKWBh
import Derived.Test.YtcdggcdkjooohaaDoorWCi
namespace Go.Proofs.YtcdggcdkjooohaaDoor
open Go.RowKit Rec

theorem DoneAt.set {w w1 w' : World} {D E : Dk} {acts : List WA} (h : DoneAt w1 D w' E acts) (hb : Below w.heap.size w w1) (hD : Disk w D) (p i : Nat) (h1 : w.heap.size ≤ p) (h2 : p < w1.heap.size) (v : Value) : DoneAt w D (w'.setCell ⟨p, i, none⟩ v) E acts := by
  have hF := h.from hb
  refine ⟨h.disk.fr Fr.set (fun k hk e => ?_), ⟨hF.mv.fr.trans Fr.set (fun k hk => .inr (by rw [hk]; exact h1)), hF.mv.has, hF.mv.d, hF.mv.nb⟩, hF.al, h.abs⟩
  subst e
  rcases h.al k hk with e | e
  · have := hD.allLt e; omega
  · omega
theorem homeA_length (Q : List (Nat × List Int)) : (homeA Q).length = Q.length + 3 := by simp [homeA]
theorem logH_length (F : List Int) (nb : Nat) : (logH F nb).length = (logN F nb).length := homes_length _ _ (logD_length _ _)
end Go.Proofs.YtcdggcdkjooohaaDoor
