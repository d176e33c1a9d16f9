import Derived.Test.YtleakaddlgpamaaDoorTxK
import Derived.Deep.MidRow
import Derived.Deep.RegionHeldLaw
namespace Go.Proofs.YtleakaddlgpamaaDoor
open Go.RowKit Go.Maps Rec

def rowU (f : Nat → Int) : Array Value := ((List.range 118).map fun j => Value.int .u8 (f j)).toArray
def rowB (f : Nat → Bool) : Array Value := ((List.range 118).map fun j => Value.bool (f j)).toArray
def updF {α : Type} (f : Nat → α) (i : Nat) (x : α) : Nat → α := fun j => if j = i then x else f j
theorem updF_same {α : Type} (f : Nat → α) (i : Nat) (x : α) : updF f i x i = x := by simp [updF]
theorem updF_other {α : Type} (f : Nat → α) {i j : Nat} (x : α) (h : j ≠ i) : updF f i x j = f j := by simp [updF, h]
theorem rowU_at (f : Nat → Int) (i : Nat) (h : i < 118) : (rowU f)[i]? = some (.int .u8 (f i)) := by simp [rowU, h]
theorem rowB_at (f : Nat → Bool) (i : Nat) (h : i < 118) : (rowB f)[i]? = some (.bool (f i)) := by simp [rowB, h]
theorem rowU_set (f : Nat → Int) (i : Nat) (x : Int) : (rowU f).setIfInBounds i (.int .u8 x) = rowU (updF f i x) := by
  apply Array.ext_getElem?
  intro j
  simp only [rowU, updF, Array.getElem?_setIfInBounds, List.size_toArray, List.length_map, List.length_range, List.getElem?_toArray, List.getElem?_map]
  by_cases h : i = j
  · subst h
    by_cases h2 : i < 118 <;> simp [h2]
  · rw [if_neg h]
    by_cases h2 : j < 118 <;> simp [h2, Ne.symm h]
theorem rowB_set (f : Nat → Bool) (i : Nat) (x : Bool) : (rowB f).setIfInBounds i (.bool x) = rowB (updF f i x) := by
  apply Array.ext_getElem?
  intro j
  simp only [rowB, updF, Array.getElem?_setIfInBounds, List.size_toArray, List.length_map, List.length_range, List.getElem?_toArray, List.getElem?_map]
  by_cases h : i = j
  · subst h
    by_cases h2 : i < 118 <;> simp [h2]
  · rw [if_neg h]
    by_cases h2 : j < 118 <;> simp [h2, Ne.symm h]
theorem lst_few {c : Cm} (h : COk c 118) : (lst c 118).length ≤ 20 := by
  have e : lst c 118 = lst c 98 ++ (List.range' 98 20).filterMap c := by
    unfold lst
    rw [← List.filterMap_append]
    rfl
  have e2 : lst c 98 = [] := by
    unfold lst
    refine List.filterMap_eq_nil_iff.2 (fun i hi => ?_)
    cases hc : c i with
    | none => rfl
    | some q => have := h.lo i q hc; have := List.mem_range.1 hi; omega
  rw [e, e2]
  have := List.length_filterMap_le c (List.range' 98 20)
  simpa using this
/-- to go back over undo steps, the last one first -/
def undo (c : Cm) (us : List Un) : Cm := us.foldr (fun u c => ups c u.i u.old) c
theorem undo_snoc (c : Cm) (us : List Un) (u : Un) : undo c (us ++ [u]) = undo (ups c u.i u.old) us := by simp [undo]
/-- a transaction that was written on -/
def Ext (T T' : Tx) (k : Nat) : Prop := ∃ ext, T'.us = T.us ++ ext ∧ ext.length = k ∧ undo T'.c ext = T.c
theorem Ext.refl (T : Tx) : Ext T T 0 := ⟨[], by simp, rfl, rfl⟩
theorem Ext.next {T T' T'' : Tx} {k : Nat} {q : Option Bk} {u : Un} {i : Nat} (h : Ext T T' k) (hc : T''.c = ups T'.c i q) (hu : T''.us = T'.us ++ [u]) (hi : u.i = i) (ho : u.old = T'.c i) : Ext T T'' (k + 1) := by
  obtain ⟨ext, e1, e2, e3⟩ := h
  refine ⟨ext ++ [u], by rw [hu, e1, List.append_assoc], by simp [e2], ?_⟩
  rw [undo_snoc, hc, hi, ho, ups_back, e3]
/-- what the two rows say of a transaction -/
def Cnt (c0 c : Cm) (now : Nat → Int) (is : Nat → Bool) : Prop := ∀ i, 98 ≤ i → i < 118 → (0 ≤ now i ∧ now i < 256) ∧ (is i = true → ∃ q, c i = some q ∧ q.x = one (now i)) ∧ (is i = false → c i = c0 i ∧ now i = (i : Int))
theorem Cnt.put {c0 c : Cm} {now : Nat → Int} {is : Nat → Bool} (h : Cnt c0 c now is) (i : Nat) (q : Bk) (x : Int) (hx : 0 ≤ x ∧ x < 256) (hq : q.x = one x) : Cnt c0 (ups c i (some q)) (updF now i x) (updF is i true) := fun j h0 h1 => by
  by_cases e : j = i
  · subst e
    rw [updF_same, updF_same, ups_same]
    exact ⟨hx, fun _ => ⟨q, rfl, hq⟩, fun e => by cases e⟩
  · rw [updF_other _ _ e, updF_other _ _ e, ups_other _ _ e]
    exact h j h0 h1
theorem cells_setCell {w : World} {b i : Nat} {cs : Array Value} {t : TypeId} {v : Value} (h : w.heap[b]? = some (.cells cs t (0, 0))) : (w.setCell ⟨b, i, none⟩ v).heap[b]? = some (.cells (cs.setIfInBounds i v) t (0, 0)) := heap_setCell_same w b i cs t v h
end Go.Proofs.YtleakaddlgpamaaDoor

namespace Go.Proofs.YtleakaddlgpamaaDoor
open Go.RowKit Go.Maps Rec

end Go.Proofs.YtleakaddlgpamaaDoor
