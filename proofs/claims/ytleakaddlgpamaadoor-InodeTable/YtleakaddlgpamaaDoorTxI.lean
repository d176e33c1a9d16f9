import Derived.Test.YtleakaddlgpamaaDoorKTxG
namespace Go.Proofs.YtleakaddlgpamaaDoor
open Go.RowKit Go.Maps Rec

def now0 (k : Nat) : Nat → Int := fun j => if 98 ≤ j ∧ j < k then (j : Int) else 0
theorem now0_succ (k : Nat) (h : 98 ≤ k) : updF (now0 k) k (k : Int) = now0 (k + 1) := by
  funext j
  unfold updF now0
  by_cases e : j = k
  · subst e; rw [if_pos rfl, if_pos (by omega)]
  · rw [if_neg e]
    by_cases e2 : 98 ≤ j ∧ j < k
    · rw [if_pos e2, if_pos (by omega)]
    · rw [if_neg e2, if_neg (by omega)]
theorem cnt0 (c0 : Cm) : Cnt c0 c0 (now0 118) (fun _ => false) := fun i h0 h1 => by
  have e : now0 118 i = (i : Int) := by unfold now0; rw [if_pos ⟨h0, h1⟩]
  rw [e]
  exact ⟨by omega, (fun h => by cases h), fun _ => ⟨rfl, rfl⟩⟩
theorem range_row {w : World} {b : Nat} {cs : Array Value} {t : TypeId} (h : w.heap[b]? = some (.cells cs t (0, 0))) : w.rangeAt b 0 cs.toList := fun j v hv => by
  rw [cell_of_row _ _ _ _ _ _ h, Nat.zero_add]
  simpa using hv
theorem there_row {w : World} {b n : Nat} {cs : Array Value} {t : TypeId} (h : w.heap[b]? = some (.cells cs t (0, 0))) (hn : cs.size = n) : w.there b 0 n := fun j hj => by
  rw [cell_of_row _ _ _ _ _ _ h]
  refine ⟨?_, frozen_of_row _ _ _ _ _ h⟩
  rw [Nat.zero_add, Array.getElem?_eq_getElem (by omega)]; rfl
theorem fr_setCells (b : Nat) : ∀ (vs : List Value) (o : Nat) (w : World), Fr (fun k => k = b) w (w.setCells b o vs)
  | [], _, w => Fr.refl _ w
  | v :: vs, o, _ => (Fr.set (g := b) (k := o) (v := v)).trans (fr_setCells b vs (o + 1) _) (fun _ hk => .inl hk)
end Go.Proofs.YtleakaddlgpamaaDoor

