import Derived.Test.YtklffjagdhbjcaaDoorKnown
import Derived.Laws.AppendOwnNone
namespace Go.Proofs.YtklffjagdhbjcaaDoor
open Go.RowKit
open Crc (W)

/-- bytes in a row of one's own -/
structure OwnB (w : World) (g cap : Nat) (l : List Int) : Prop where
  row : ∃ cur : Array Value, w.heap[g]? = some (.cells cur 5 (0, 0)) ∧ cur.size = cap ∧ cur.toList.take l.length = l.map (Value.int .u8)
  len : l.length ≤ 1000000000000000
  room : l.length ≤ cap
  wf : ∀ i, 0 ≤ nth l i ∧ nth l i < 256

theorem OwnB.cell {w : World} {g cap : Nat} {l : List Int} (h : OwnB w g cap l) (i : Nat) (hi : i < l.length) : w.cell? ⟨g, i, none⟩ = some (.int .u8 (nth l i)) := by
  obtain ⟨cur, hg, _, ht⟩ := h.row
  rw [cell_of_row _ _ _ _ _ _ hg, ← nth_cell l i hi, ← ht]
  simp [hi]
theorem OwnB.frozen {w : World} {g cap : Nat} {l : List Int} (h : OwnB w g cap l) (i : Nat) : w.frozen? ⟨g, i, none⟩ = false := by
  obtain ⟨cur, hg, _, _⟩ := h.row
  exact frozen_of_row _ _ _ _ _ hg
theorem OwnB.bytes {w : World} {g cap : Nat} {l : List Int} (h : OwnB w g cap l) : Bytes w (some ⟨g, 0, none⟩) l :=
  ⟨h.len, h.wf, .inr ⟨g, 0, rfl, fun i hi => by rw [Nat.zero_add]; exact h.cell i hi⟩⟩
theorem OwnB.lt {w : World} {g cap : Nat} {l : List Int} (h : OwnB w g cap l) : g < w.heap.size := by
  obtain ⟨cur, hg, _, _⟩ := h.row
  exact heap_lt hg
theorem OwnB.below {B : Nat} {w w' : World} {g cap : Nat} {l : List Int} (h : OwnB w g cap l) (hb : Below B w w') (hB : g < B) : OwnB w' g cap l := by
  obtain ⟨cur, hg, h2, h3⟩ := h.row
  exact ⟨⟨cur, by rw [hb.block g hB]; exact hg, h2, h3⟩, h.len, h.room, h.wf⟩
theorem nth_set (l : List Int) (k i : Nat) (c : Int) (hk : k < l.length) : nth (l.set k c) i = if i = k then c else nth l i := by
  unfold nth
  simp only [List.getD, List.getElem?_set]
  by_cases h : k = i
  · subst h; simp [hk]
  · have : ¬ i = k := fun e => h e.symm
    simp [h, this]
theorem OwnB.set {w : World} {g cap : Nat} {l : List Int} (h : OwnB w g cap l) (k : Nat) (c : Int) (hk : k < l.length) (hc : 0 ≤ c ∧ c < 256) :
    OwnB (w.setCell ⟨g, k, none⟩ (.int .u8 c)) g cap (l.set k c) := by
  obtain ⟨cur, hg, h2, h3⟩ := h.row
  refine ⟨⟨cur.setIfInBounds k (.int .u8 c), heap_setCell_same _ _ _ _ _ _ hg, by simp [h2], ?_⟩, by simpa using h.len, by simpa using h.room, fun i => ?_⟩
  · rw [List.length_set, Array.toList_setIfInBounds, List.take_set, h3, List.map_set]
  · rw [nth_set l k i c hk]
    split
    · exact hc
    · exact h.wf i

theorem info5 : (Tryd.prog.info? 5).map (fun i => (i.zero, i.size, i.bytes)) = some (some (.int .u8 0), 1, 1) := by kernel_rfl
theorem cells_u8 (l : List Int) : ∀ u ∈ l.map (Value.int .u8), u.oneCell' = true := by
  intro u hu
  obtain ⟨c, _, rfl⟩ := List.mem_map.1 hu
  rfl
/-- 'append([]byte{}, b...)' -/
theorem wp_copy {ops : Array Oper} {rest : List Oper} {o : Oper} {a : Act} {Q : Exit → Act → World → Prop} (w1 : World) (hgd : o.guard = none) (s x : Operand)
    (ho : o.op = .call { callee := .builtin .append, args := #[s, x], argTypes := #[24, 24] }) (hs : a.eval s = .slice (some ⟨w1.heap.size, 0, none⟩) 0 0)
    (ad : Option Addr) (n c : Nat) (l : List Int) (hx : a.eval x = .slice ad n c) (hn : l.length = n) (hb : Bytes w1 ad l) (hz : ad = none → c = 0) (h47 : n ≤ 140737488351232)
    (h : ∀ g cap w', w1.heap.size ≤ g → OwnB w' g cap l → Below w1.heap.size w1 w' → wpList Tryd.prog ops Q rest (a.put o.dst (.slice (some ⟨g, 0, none⟩) n cap)) w') :
    wpList Tryd.prog ops Q (o :: rest) a (w1.alloc (.cells #[] 5)) := by
  subst hn
  obtain ⟨i0, hi, hz0, hz1, hz2⟩ := info_parts info5
  have hown : (w1.alloc (.cells #[] 5)).ownsRow w1.heap.size 5 1 (.slice (some ⟨w1.heap.size, 0, none⟩) 0 0) 0 [] :=
    ⟨rfl, .inr ⟨w1.heap.size, 0, #[], rfl, Nat.le_refl _, heap_alloc_new _ _, Nat.le_refl _, by unfold maxLen; omega, rfl, rfl⟩⟩
  have hB0 : Below w1.heap.size w1 (w1.alloc (.cells #[] 5)) := (Below.refl _ _).alloc (Nat.le_refl _) _
  cases ad with
  | none =>
    have hl : l = [] := by
      rcases hb.at_ with e | ⟨_, _, e, _⟩
      · exact e
      · cases e
    subst hl
    have hc := hz rfl
    subst hc
    refine wpList_append_own_none hgd s x 24 ho w1.heap.size 5 i0 1 Tryd.underlying24 hi _ 0 [] hs hown hx ?_
    exact h _ _ _ (Nat.le_refl _) ⟨⟨#[], heap_alloc_new _ _, rfl, rfl⟩, by simp, by simp, hb.wf⟩ hB0
  | some p =>
    refine wpList_append_own _ hgd s x 24 ho w1.heap.size 5 i0 (.int .u8 0) 1 1 Tryd.underlying24 hi hz0 hz1 hz2 rfl (by decide) _ 0 [] hs hown p l.length c (l.map (Value.int .u8)) hx (by simp) ?_ (cells_u8 l) ?_ (by omega) (by simp) ?_
    · intro j u hj
      rcases hb.at_ with e | ⟨b, off, e, hc⟩
      · subst e; simp at hj
      · cases e
        have hlt : j < l.length := by
          by_cases hlt : j < l.length
          · exact hlt
          · rw [List.getElem?_eq_none (by simp; omega)] at hj; cases hj
        have e2 : (l.map (Value.int .u8))[j]? = some (.int .u8 (nth l j)) := by
          have := nth_cell l j hlt
          simpa using this
        rw [e2] at hj
        cases hj
        rw [Addr.add_lit, ← hc j hlt]
        exact hB0.cell (p := ⟨b, off + j, none⟩) (block_lt_of_cell (hc j hlt))
    · unfold maxLen; omega
    · intro v' w' ho' hg' hnil
      have hb2 : Below w1.heap.size w1 w' := hB0.grown hg' (by simp) (by intro k hk; cases hk; exact Nat.le_refl _)
      obtain ⟨hxs, hh⟩ := ho'
      rcases hh with ⟨hv, h0⟩ | ⟨g, cap, cur, hv, hgB, hgr, hcap, hcm, hsz, htk⟩
      · have := (hnil.1 hv).1
        cases this
      · subst hv
        rw [Nat.zero_add] at *
        exact h _ _ _ hgB ⟨⟨cur, hgr, by simpa using hsz, by simpa using htk⟩, hb.len, by simpa using hcap, hb.wf⟩ hb2
end Go.Proofs.YtklffjagdhbjcaaDoor
