import Derived.Test.YtcjfgffkkjekoaaKOp9
namespace Go.Proofs.Ytcjfgffkkjekoaa
open Go.RowKit Rec

theorem Ints.some {w : World} {a : Option Addr} {l : List Int} (h : Ints w a l) (h0 : 0 < l.length) : ∃ b off, a = some ⟨b, off, none⟩ := by
  rcases h.at_ with e | ⟨b, off, e, _⟩
  · subst e; simp at h0
  · exact ⟨b, off, e⟩
theorem Data.some {w : World} {a : Option Addr} {l : List (List Int)} (h : Data w a l) (h0 : 0 < l.length) : ∃ b off, a = some ⟨b, off, none⟩ := by
  rcases h.at_ with e | ⟨b, off, e, _⟩
  · subst e; simp at h0
  · exact ⟨b, off, e⟩
theorem Bytes.some {w : World} {a : Option Addr} {l : List Int} (h : Bytes w a l) (h0 : 0 < l.length) : ∃ b off, a = some ⟨b, off, none⟩ := by
  rcases h.at_ with e | ⟨b, off, e, _⟩
  · subst e; simp at h0
  · exact ⟨b, off, e⟩
theorem has_of {v : Int} (W : Nat) (h : v < 256 ^ W) : has v W = true := decide_eq_true (by simpa using h)

end Go.Proofs.Ytcjfgffkkjekoaa

namespace Go.Proofs.Ytcjfgffkkjekoaa
open Go.RowKit Rec

/-- what Nums hands back -/
def NumsAt (w w' : World) (v : Value) (l : List Int) : Prop := (l = [] ∧ v = .slice none 0 0) ∨ ∃ g cap, v = .slice (some ⟨g, 0, none⟩) l.length cap ∧ OwnI w' g cap l ∧ w.heap.size ≤ g

end Go.Proofs.Ytcjfgffkkjekoaa
