import Derived.Test.YtaaeahpmnfifiaaDoorSnY
namespace Go.Proofs.YtaaeahpmnfifiaaDoor
open Go.RowKit Rec Sc
theorem LsAt.less {S S' : Nat → Prop} {w : World} {B : Nat} {v : Value} {xs : List ET} (h : LsAt w B S v xs) (hs : ∀ x, S' x → S x) : LsAt w B S' v xs := by
  obtain ⟨a, c, h1, h2, h3⟩ := h
  exact ⟨a, c, h1, h2, fun p hp => ⟨(h3 p hp).1, fun h => (h3 p hp).2 (hs _ h)⟩⟩
theorem EnI.less {S S' : Nat → Prop} {w : World} {B k : Nat} {r c f m : Value} (h : EnI w B S k r c f m) (hs : ∀ x, S' x → S x) : EnI w B S' k r c f m := by
  obtain ⟨T, h0, h1, h2, h3, h4⟩ := h.at_
  exact ⟨T, h0, h1.less hs, h2.less hs, h3.less hs, h4.less hs⟩
/-- of a list the first k are marks -/
def mkd (T : List ET) (mk : ET) (k : Nat) : List ET := List.replicate k mk ++ T.drop k
theorem mkd_zero (T : List ET) (mk : ET) : mkd T mk 0 = T := rfl
theorem mkd_len (T : List ET) (mk : ET) {k : Nat} (h : k ≤ T.length) : (mkd T mk k).length = T.length := by simp [mkd]; omega
theorem mkd_set (T : List ET) (mk : ET) {k : Nat} (h : k < T.length) : (mkd T mk k).set k mk = mkd T mk (k + 1) := by
  apply List.ext_getElem?
  intro i
  by_cases hi : i = k
  · subst hi
    rw [List.getElem?_set_self (by rw [mkd_len T mk (by omega)]; exact h)]
    unfold mkd
    rw [List.getElem?_append_left (by simp), List.getElem?_replicate_of_lt (by omega)]
  · rw [List.getElem?_set_ne (by omega)]
    unfold mkd
    by_cases h1 : i < k
    · rw [List.getElem?_append_left (by simp; omega), List.getElem?_append_left (by simp; omega), List.getElem?_replicate_of_lt h1, List.getElem?_replicate_of_lt (by omega)]
    · rw [List.getElem?_append_right (by simp; omega), List.getElem?_append_right (by simp; omega), List.getElem?_drop, List.getElem?_drop]
      simp only [List.length_replicate]
      congr 1
      omega
theorem mkd_all (T : List ET) (mk : ET) : mkd T mk T.length = List.replicate T.length mk := by simp [mkd]
end Go.Proofs.YtaaeahpmnfifiaaDoor
