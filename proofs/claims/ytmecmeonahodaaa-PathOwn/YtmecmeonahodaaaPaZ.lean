import Derived.Test.YtmecmeonahodaaaKPaY
namespace Go.Proofs.Ytmecmeonahodaaa
open Go.RowKit Go.Shelf Pa
theorem StrsAt.take {w : World} {a : Option Addr} {xs : List ByteArray} (h : StrsAt w a xs) (m : Nat) : StrsAt w a (xs.take m) := by
  rcases h with h | ⟨b, off, e, hc⟩
  · exact .inl (by rw [h]; simp)
  · refine .inr ⟨b, off, e, fun j x hj => hc j x ?_⟩
    rw [List.getElem?_take] at hj
    split at hj
    · exact hj
    · cases hj
theorem int_size (s : ByteArray) : (s.size : Int) = ((tx s).length : Int) := by rw [size_tx]
end Go.Proofs.Ytmecmeonahodaaa
