import Derived.Test.YtdheojhfgeabhaaDoorKTxF
import Derived.Deep.MidRow
import Derived.Deep.RegionHeldLaw
import Derived.RangeFuncNested
import Derived.RangeFuncBound
import Derived.RangeFuncCalls
import Derived.RangeFuncLeaves
import Derived.RangeFuncWrites
import Derived.Shelf.Abstract
import Derived.Shelf.RegionOpen
import Derived.OwnWalkIn
import Derived.TacticsInMore
import Derived.LoopNIn
import Derived.LoopIn
namespace Go.Proofs.YtdheojhfgeabhaaDoor
open Go.RowKit Go.Maps Rec

def rowU (f : Nat → Int) : Array Value := ((List.range 118).map fun j => Value.int .u8 (f j)).toArray
def rowB (f : Nat → Bool) : Array Value := ((List.range 118).map fun j => Value.bool (f j)).toArray
def updF {α : Type} (f : Nat → α) (i : Nat) (x : α) : Nat → α := fun j => if j = i then x else f j
theorem updF_same {α : Type} (f : Nat → α) (i : Nat) (x : α) : updF f i x i = x := by simp [updF]
theorem updF_other {α : Type} (f : Nat → α) {i j : Nat} (x : α) (h : j ≠ i) : updF f i x j = f j := by simp [updF, h]
theorem rowU_at (f : Nat → Int) (i : Nat) (h : i < 118) : (rowU f)[i]? = some (.int .u8 (f i)) := by simp [rowU, h]
theorem rowB_at (f : Nat → Bool) (i : Nat) (h : i < 118) : (rowB f)[i]? = some (.bool (f i)) := by simp [rowB, h]
theorem rowU_set (f : Nat → Int) (i : Nat) (x : Int) : (rowU f).setIfInBounds i (.int .u8 x) = rowU (updF f i x) := by
  apply Array.ext_getElem?
  intro j
  simp only [rowU, updF, Array.getElem?_setIfInBounds, List.size_toArray, List.length_map, List.length_range, List.getElem?_toArray, List.getElem?_map]
  by_cases h : i = j
  · subst h
    by_cases h2 : i < 118 <;> simp [h2]
  · rw [if_neg h]
    by_cases h2 : j < 118 <;> simp [h2, Ne.symm h]
theorem rowB_set (f : Nat → Bool) (i : Nat) (x : Bool) : (rowB f).setIfInBounds i (.bool x) = rowB (updF f i x) := by
  apply Array.ext_getElem?
  intro j
  simp only [rowB, updF, Array.getElem?_setIfInBounds, List.size_toArray, List.length_map, List.length_range, List.getElem?_toArray, List.getElem?_map]
  by_cases h : i = j
  · subst h
    by_cases h2 : i < 118 <;> simp [h2]
  · rw [if_neg h]
    by_cases h2 : j < 118 <;> simp [h2, Ne.symm h]
theorem lst_few {c : Cm} (h : COk c 118) : (lst c 118).length ≤ 20 := by
  have e : lst c 118 = lst c 98 ++ (List.range' 98 20).filterMap c := by
    unfold lst
    rw [← List.filterMap_append]
    rfl
  have e2 : lst c 98 = [] := by
    unfold lst
    refine List.filterMap_eq_nil_iff.2 (fun i hi => ?_)
    cases hc : c i with
    | none => rfl
    | some q => have := h.lo i q hc; have := List.mem_range.1 hi; omega
  rw [e, e2]
  have := List.length_filterMap_le c (List.range' 98 20)
  simpa using this
/-- to go back over undo steps, the last one first -/
def undo (c : Cm) (us : List Un) : Cm := us.foldr (fun u c => ups c u.i u.old) c
theorem undo_snoc (c : Cm) (us : List Un) (u : Un) : undo c (us ++ [u]) = undo (ups c u.i u.old) us := by simp [undo]
/-- a transaction that was written on -/
def Ext (T T' : Tx) (k : Nat) : Prop := ∃ ext, T'.us = T.us ++ ext ∧ ext.length = k ∧ undo T'.c ext = T.c
theorem Ext.refl (T : Tx) : Ext T T 0 := ⟨[], by simp, rfl, rfl⟩
theorem Ext.next {T T' T'' : Tx} {k : Nat} {q : Option Bk} {u : Un} {i : Nat} (h : Ext T T' k) (hc : T''.c = ups T'.c i q) (hu : T''.us = T'.us ++ [u]) (hi : u.i = i) (ho : u.old = T'.c i) : Ext T T'' (k + 1) := by
  obtain ⟨ext, e1, e2, e3⟩ := h
  refine ⟨ext ++ [u], by rw [hu, e1, List.append_assoc], by simp [e2], ?_⟩
  rw [undo_snoc, hc, hi, ho, ups_back, e3]
/-- what the two rows say of a transaction -/
def Cnt (c0 c : Cm) (now : Nat → Int) (is : Nat → Bool) : Prop := ∀ i, 98 ≤ i → i < 118 → (0 ≤ now i ∧ now i < 256) ∧ (is i = true → ∃ q, c i = some q ∧ q.x = one (now i)) ∧ (is i = false → c i = c0 i ∧ now i = (i : Int))
theorem Cnt.put {c0 c : Cm} {now : Nat → Int} {is : Nat → Bool} (h : Cnt c0 c now is) (i : Nat) (q : Bk) (x : Int) (hx : 0 ≤ x ∧ x < 256) (hq : q.x = one x) : Cnt c0 (ups c i (some q)) (updF now i x) (updF is i true) := fun j h0 h1 => by
  by_cases e : j = i
  · subst e
    rw [updF_same, updF_same, ups_same]
    exact ⟨hx, fun _ => ⟨q, rfl, hq⟩, fun e => by cases e⟩
  · rw [updF_other _ _ e, updF_other _ _ e, ups_other _ _ e]
    exact h j h0 h1
theorem cells_setCell {w : World} {b i : Nat} {cs : Array Value} {t : TypeId} {v : Value} (h : w.heap[b]? = some (.cells cs t (0, 0))) : (w.setCell ⟨b, i, none⟩ v).heap[b]? = some (.cells (cs.setIfInBounds i v) t (0, 0)) := heap_setCell_same w b i cs t v h
end Go.Proofs.YtdheojhfgeabhaaDoor

namespace Go.Proofs.YtdheojhfgeabhaaDoor
open Go.RowKit Go.Maps Rec

end Go.Proofs.YtdheojhfgeabhaaDoor

namespace Go.Proofs.YtdheojhfgeabhaaDoor
open Go.RowKit Go.Maps Rec

def now0 (k : Nat) : Nat → Int := fun j => if 98 ≤ j ∧ j < k then (j : Int) else 0
theorem now0_succ (k : Nat) (h : 98 ≤ k) : updF (now0 k) k (k : Int) = now0 (k + 1) := by
  funext j
  unfold updF now0
  by_cases e : j = k
  · subst e; rw [if_pos rfl, if_pos (by omega)]
  · rw [if_neg e]
    by_cases e2 : 98 ≤ j ∧ j < k
    · rw [if_pos e2, if_pos (by omega)]
    · rw [if_neg e2, if_neg (by omega)]
theorem cnt0 (c0 : Cm) : Cnt c0 c0 (now0 118) (fun _ => false) := fun i h0 h1 => by
  have e : now0 118 i = (i : Int) := by unfold now0; rw [if_pos ⟨h0, h1⟩]
  rw [e]
  exact ⟨by omega, (fun h => by cases h), fun _ => ⟨rfl, rfl⟩⟩
theorem range_row {w : World} {b : Nat} {cs : Array Value} {t : TypeId} (h : w.heap[b]? = some (.cells cs t (0, 0))) : w.rangeAt b 0 cs.toList := fun j v hv => by
  rw [cell_of_row _ _ _ _ _ _ h, Nat.zero_add]
  simpa using hv
theorem there_row {w : World} {b n : Nat} {cs : Array Value} {t : TypeId} (h : w.heap[b]? = some (.cells cs t (0, 0))) (hn : cs.size = n) : w.there b 0 n := fun j hj => by
  rw [cell_of_row _ _ _ _ _ _ h]
  refine ⟨?_, frozen_of_row _ _ _ _ _ h⟩
  rw [Nat.zero_add, Array.getElem?_eq_getElem (by omega)]; rfl
theorem fr_setCells (b : Nat) : ∀ (vs : List Value) (o : Nat) (w : World), Fr (fun k => k = b) w (w.setCells b o vs)
  | [], _, w => Fr.refl _ w
  | v :: vs, o, _ => (Fr.set (g := b) (k := o) (v := v)).trans (fr_setCells b vs (o + 1) _) (fun _ hk => .inl hk)
end Go.Proofs.YtdheojhfgeabhaaDoor


namespace Go.Proofs.YtdheojhfgeabhaaDoor
open Go.RowKit Go.Maps Rec

theorem Fr.mono' {S T : Nat → Prop} {a b : World} (x : Fr S a b) (h : ∀ k, S k → T k) : Fr T a b := x.mono h
/-- the two rows in a law's own variables -/
structure Rw (w : World) (A B : Nat) (now : Nat → Int) (is : Nat → Bool) : Prop where
  u : w.rangeAt A 0 (rowU now).toList
  b : w.rangeAt B 0 (rowB is).toList
theorem Rw.cu {w : World} {A B : Nat} {now : Nat → Int} {is : Nat → Bool} (h : Rw w A B now is) (i : Nat) (hi : i < 118) : w.cell? ⟨A, i, none⟩ = some (.int .u8 (now i)) := by
  have := h.u i (.int .u8 (now i)) (by have := rowU_at now i hi; simpa using this)
  simpa using this
theorem Rw.cb {w : World} {A B : Nat} {now : Nat → Int} {is : Nat → Bool} (h : Rw w A B now is) (i : Nat) (hi : i < 118) : w.cell? ⟨B, i, none⟩ = some (.bool (is i)) := by
  have := h.b i (.bool (is i)) (by have := rowB_at is i hi; simpa using this)
  simpa using this
theorem Rw.ltA {w : World} {A B : Nat} {now : Nat → Int} {is : Nat → Bool} (h : Rw w A B now is) : A < w.heap.size := block_lt_of_cell (h.cu 0 (by omega))
theorem Rw.ltB {w : World} {A B : Nat} {now : Nat → Int} {is : Nat → Bool} (h : Rw w A B now is) : B < w.heap.size := block_lt_of_cell (h.cb 0 (by omega))
theorem Rw.fr {S : Nat → Prop} {w w' : World} {A B : Nat} {now : Nat → Int} {is : Nat → Bool} (h : Rw w A B now is) (x : Fr S w w') (hA : ¬ S A) (hB : ¬ S B) : Rw w' A B now is :=
  ⟨fun j v hv => x.cell (h.u j v hv) hA, fun j v hv => x.cell (h.b j v hv) hB⟩
theorem Rw.on {w w' : World} {A B : Nat} {now : Nat → Int} {is : Nat → Bool} (h : Rw w A B now is) (x : Below w.heap.size w w') : Rw w' A B now is := h.fr (below_fr x (fun _ => False)) (fun e => e) (fun e => e)
/-- a law behind its fill -/
structure Pre6 (w0 w : World) (D : Dk) (T : Tx) (A B : Nat) (now : Nat → Int) (is : Nat → Bool) : Prop where
  ses : Ses w0 w D T
  rw : Rw w A B now is
  nA : ¬ T.all A ∧ ¬ D.all A ∧ w0.heap.size ≤ A
  nB : ¬ T.all B ∧ ¬ D.all B ∧ w0.heap.size ≤ B
  cnt : Cnt (fun _ => none) T.c now is
theorem Pre6.on {w0 w w' : World} {D : Dk} {T : Tx} {A B : Nat} {now : Nat → Int} {is : Nat → Bool} (h : Pre6 w0 w D T A B now is) (hb : Below w.heap.size w w') : Pre6 w0 w' D T A B now is := ⟨h.ses.on hb, h.rw.on hb, h.nA, h.nB, h.cnt⟩
end Go.Proofs.YtdheojhfgeabhaaDoor

namespace Go.Proofs.YtdheojhfgeabhaaDoor
open Go.RowKit Go.Maps Rec

theorem lst_le (c : Cm) (n : Nat) : (lst c n).length ≤ n := by
  have := List.length_filterMap_le c (List.range n)
  simpa [lst] using this
set_option maxRecDepth 100000 in
set_option maxHeartbeats 4000000 in
/-- an undo step is carried out -/
theorem undo_step (w : World) (t mb nb : Nat) (c : Cm) (u : Un) (hc1 : w.cell? ⟨t, 1, none⟩ = some (.map (some mb))) (hM : MapAt w mb c nb) (ok : COk c nb) (hU : UnAt w t u) (hi : u.i < nb) (hn : nb ≤ 1000) (hq : ∀ q, u.old = some q → q.n = (u.i : Int)) :
    Calls Tryd.prog 46 #[.pointer (some ⟨u.bw, 0, none⟩), .pointer (some ⟨u.bb, 0, none⟩), .pointer (some ⟨u.bt, 0, none⟩), .pointer (some ⟨u.bi, 0, none⟩)] w fun e w' => e = .returned (.tuple #[]) ∧ MapAt w' mb (ups c u.i u.old) nb ∧ Fr (fun k => k = mb) w w' := by
  obtain ⟨bw, bb, bt, bi, i, old⟩ := u
  obtain ⟨cw, cb, ct, ci, _⟩ := hU
  simp only at cw cb ct ci hi hq ⊢
  have hMd : MapAt w.drew mb c nb := hM.on (Below.refl _ w).drew
  cases old with
  | none =>
    obtain ⟨w6, hr, h1, h2⟩ := hMd.drop (i := i) ok hi (by omega) 0
    have H6 : Hid (MapAt w6 mb (ups c i none) nb ∧ Fr (fun k => k = mb) w w6) := ⟨h1, (below_fr (Below.refl _ w).drew (fun k => k = mb)).trans h2 (fun k hk => .inl hk)⟩
    have cw' : w.cell? ⟨bw, 0, none⟩ = some (.bool false) := cw
    clear h1 h2 cw cb hM hMd ok hq
    go_enter Tryd.func46, Tryd.ntmps46
    go_upto_region 2 with fail
    go_region
    all_goals
      go_wp2
      go_end0
      exact ⟨rfl, H6.out.1, H6.out.2⟩
  | some q =>
    have hqn : q.n = (i : Int) := hq q rfl
    obtain ⟨w6, hr, h1, h2⟩ := hMd.store (i := i) ok hi (by omega) q hqn (Nat.le_trans (lst_le _ _) hn)
    have H6 : Hid (MapAt w6 mb (ups c i (some q)) nb ∧ Fr (fun k => k = mb) w w6) := ⟨h1, (below_fr (Below.refl _ w).drew (fun k => k = mb)).trans h2 (fun k hk => .inl hk)⟩
    have cw' : w.cell? ⟨bw, 0, none⟩ = some (.bool true) := cw
    obtain ⟨qg, hqg⟩ : ∃ qg, q.g = qg := ⟨_, rfl⟩
    obtain ⟨qc, hqc⟩ : ∃ qc, q.c = qc := ⟨_, rfl⟩
    have cb' : w.cell? ⟨bb, 0, none⟩ = some (.slice (some ⟨qg, 0, none⟩) 512 qc) := by rw [← hqg, ← hqc]; exact cb
    have hr' : (Instr.mapUpdate 62 (.map (some mb)) (.int .i64 (i : Int)) (.slice (some ⟨qg, 0, none⟩) 512 qc)).run Tryd.prog w.drew = .ok () w6 := by rw [← hqg, ← hqc]; exact hr
    clear h1 h2 cw cb hM hMd ok hq hr hqg hqc hqn
    go_enter Tryd.func46, Tryd.ntmps46
    go_upto_region 1 with fail
    go_region
    all_goals
      go_wp2
      go_end0
      exact ⟨rfl, H6.out.1, H6.out.2⟩
end Go.Proofs.YtdheojhfgeabhaaDoor

namespace Go.Proofs.YtdheojhfgeabhaaDoor
open Go.RowKit Go.Maps Go.Shelf Rec
attribute [local go_sem] Oper.semAt_some

/-- what a round keeps: all that lay, but for the map -/
def KpM (n₀ mb : Nat) (W W' : World) : Prop := ∀ k, k < n₀ → k ≠ mb → W'.heap[k]? = W.heap[k]?
theorem KpM.trans {n₀ mb : Nat} {A B C : World} (h : KpM n₀ mb A B) (k : KpM n₀ mb B C) : KpM n₀ mb A C := fun i h1 h2 => (k i h1 h2).trans (h i h1 h2)
theorem KpM.refl (n₀ mb : Nat) (A : World) : KpM n₀ mb A A := fun _ _ _ => rfl
theorem KpM.cell {n₀ mb : Nat} {A B : World} (h : KpM n₀ mb A B) {p : Addr} {v : Value} (hc : A.cell? p = some v) (h1 : p.block < n₀) (h2 : p.block ≠ mb) : B.cell? p = some v := by
  rw [World.cell?] at hc ⊢
  rw [h _ h1 h2]
  exact hc
/-- the indices of a list from the last one down to k -/
def des (L : Nat) : (k : Nat) → List (Fin L) := fun k => ((List.finRange L).drop k).reverse
theorem des_full (L : Nat) : des L L = [] := by
  unfold des
  rw [List.drop_eq_nil_of_le (by simp)]; rfl
theorem des_succ {L k : Nat} (h : k < L) : des L k = des L (k + 1) ++ [⟨k, h⟩] := by
  unfold des
  rw [List.drop_eq_getElem_cons (by simpa using h), List.reverse_cons]
  simp
theorem des_length (L k : Nat) : (des L k).length = L - k := by simp [des]
end Go.Proofs.YtdheojhfgeabhaaDoor
