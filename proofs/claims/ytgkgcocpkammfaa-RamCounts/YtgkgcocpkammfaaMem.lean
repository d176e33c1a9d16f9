import Derived.Test.YtgkgcocpkammfaaRows
import Derived.Test.YtgkgcocpkammfaaKMathR
import Derived.WalkKit
import Derived.WalkLawsBesides
import Derived.WalkSmall
import Derived.Laws.AppendOwnNone
import Derived.Laws.CopyOwn
import Derived.Laws.BytesArg
import Derived.Deep.QuietTactic
import Derived.BigQuiet
namespace Go.Proofs.Ytgkgcocpkammfaa
open Go.RowKit Rec

/-- the one table, where there is no sum  -/
structure TabAt (w : World) : Prop where
  wid : ∀ i, i < 4 → w.cell? ⟨0, i, none⟩ = some (.int .i64 (nth [1, 2, 4, 8] i))
/-- its size  -/
theorem TabAt.size {w : World} (h : TabAt w) : 0 < w.heap.size := block_lt_of_cell (h.wid 0 (by omega))
/-- below  -/
theorem TabAt.below {B : Nat} {w w' : World} (h : TabAt w) (hb : Below B w w') (hB : 0 < B) : TabAt w' :=
  ⟨fun i hi => by rw [hb.cell (p := ⟨0, i, none⟩) hB]; exact h.wid i hi⟩
/-- on  -/
theorem TabAt.on {w w' : World} (h : TabAt w) (hb : Below w.heap.size w w') : TabAt w' := h.below hb h.size
/-- grown  -/
theorem TabAt.grown {w w' : World} {r : Option Nat} (h : TabAt w) (hb : w.grownBy w' r) (h0 : r ≠ some 0) (_ : r ≠ some 1) : TabAt w' :=
  ⟨fun i hi => hb.cell (h.wid i hi) (fun e => h0 e.symm)⟩
/-- bytes in memory -/
structure Bytes (w : World) (a : Option Addr) (l : List Int) : Prop where
  len : l.length ≤ 1000000000000000
  wf : ∀ i, 0 ≤ nth l i ∧ nth l i < 256
  at_ : l = [] ∨ ∃ b off, a = some ⟨b, off, none⟩ ∧ ∀ i, i < l.length → w.cell? ⟨b, off + i, none⟩ = some (.int .u8 (nth l i))
theorem Bytes.cell {w : World} {b off i : Nat} {l : List Int} (h : Bytes w (some ⟨b, off, none⟩) l) (hi : i < l.length) : w.cell? ⟨b, off + i, none⟩ = some (.int .u8 (nth l i)) := by
  rcases h.at_ with e | ⟨b', off', e, hc⟩
  · subst e; exact absurd hi (by simp)
  · cases e; exact hc i hi
theorem heap_lt {w : World} {B : Nat} {o : Obj} (h : w.heap[B]? = some o) : B < w.heap.size := by
  by_cases hb : B < w.heap.size
  · exact hb
  · rw [Array.getElem?_eq_none (by omega)] at h; exact absurd h (by simp)
theorem nth_cell (l : List Int) (k : Nat) (h : k < l.length) : ((l.map (Value.int .u8)).toArray)[k]? = some (.int .u8 (nth l k)) := by
  simp [nth, List.getD, h]
theorem nth_cellL (l : List Int) (k : Nat) (h : k < l.length) : (l.map (Value.int .u8))[k]? = some (.int .u8 (nth l k)) := by
  simp [nth, List.getD, h]
theorem grown_of {w w' : World} (h : Below w.heap.size w w') (r : Option Nat) : w.grownBy w' r := ⟨h.os, h.tape, h.output, h.size, fun k hk _ => h.block k hk⟩
theorem grown_trans {a b c : World} {r : Option Nat} (h : a.grownBy b r) (k : b.grownBy c r) : a.grownBy c r :=
  ⟨k.os.trans h.os, k.tape.trans h.tape, k.output.trans h.output, Nat.le_trans h.size k.size, fun i hi hr => (k.block i (Nat.lt_of_lt_of_le hi h.size) hr).trans (h.block i hi hr)⟩
theorem grown_refl (w : World) (r : Option Nat) : w.grownBy w r := ⟨rfl, rfl, rfl, Nat.le_refl _, fun _ _ _ => rfl⟩
theorem below_of {w w' : World} {g B : Nat} (h : w.grownBy w' (some g)) (hB : B ≤ g) (hs : B ≤ w.heap.size) : Below B w w' := (Below.refl B w).grown h hs (by intro k hk; cases hk; exact hB)

/-- bytes in a row of one's own -/
structure OwnB (w : World) (g cap : Nat) (l : List Int) : Prop where
  row : ∃ cur : Array Value, w.heap[g]? = some (.cells cur 5 (0, 0)) ∧ cur.size = cap ∧ cur.toList.take l.length = l.map (Value.int .u8)
  len : l.length ≤ 1000000000000000
  room : l.length ≤ cap
  top : cap ≤ maxLen
  wf : ∀ i, 0 ≤ nth l i ∧ nth l i < 256

theorem OwnB.cell {w : World} {g cap : Nat} {l : List Int} (h : OwnB w g cap l) (i : Nat) (hi : i < l.length) : w.cell? ⟨g, i, none⟩ = some (.int .u8 (nth l i)) := by
  obtain ⟨cur, hg, _, ht⟩ := h.row
  rw [cell_of_row _ _ _ _ _ _ hg, ← nth_cell l i hi, ← ht]
  simp [hi]
theorem OwnB.frozen {w : World} {g cap : Nat} {l : List Int} (h : OwnB w g cap l) (i : Nat) : w.frozen? ⟨g, i, none⟩ = false := by
  obtain ⟨cur, hg, _, _⟩ := h.row
  exact frozen_of_row _ _ _ _ _ hg
theorem OwnB.bytes {w : World} {g cap : Nat} {l : List Int} (h : OwnB w g cap l) : Bytes w (some ⟨g, 0, none⟩) l :=
  ⟨h.len, h.wf, .inr ⟨g, 0, rfl, fun i hi => by rw [Nat.zero_add]; exact h.cell i hi⟩⟩
theorem OwnB.lt {w : World} {g cap : Nat} {l : List Int} (h : OwnB w g cap l) : g < w.heap.size := by
  obtain ⟨cur, hg, _, _⟩ := h.row
  exact heap_lt hg
theorem OwnB.below {B : Nat} {w w' : World} {g cap : Nat} {l : List Int} (h : OwnB w g cap l) (hb : Below B w w') (hB : g < B) : OwnB w' g cap l := by
  obtain ⟨cur, hg, h2, h3⟩ := h.row
  exact ⟨⟨cur, by rw [hb.block g hB]; exact hg, h2, h3⟩, h.len, h.room, h.top, h.wf⟩
theorem OwnB.on {w w' : World} {g cap : Nat} {l : List Int} (h : OwnB w g cap l) (hb : Below w.heap.size w w') : OwnB w' g cap l := h.below hb h.lt
theorem OwnB.grown {r : Option Nat} {w w' : World} {g cap : Nat} {l : List Int} (h : OwnB w g cap l) (hb : w.grownBy w' r) (hr : some g ≠ r) : OwnB w' g cap l := by
  obtain ⟨cur, hg, h2, h3⟩ := h.row
  exact ⟨⟨cur, by rw [hb.block g h.lt hr]; exact hg, h2, h3⟩, h.len, h.room, h.top, h.wf⟩
theorem grown_set {w : World} {g k : Nat} {v : Value} : w.grownBy (w.setCell ⟨g, k, none⟩ v) (some g) :=
  ⟨rfl, rfl, rfl, by simp [World.setCell], fun i _ hr => Below.heap_setCell w ⟨g, k, none⟩ v i (fun e => hr (by rw [e]))⟩
theorem OwnB.set {w : World} {g cap : Nat} {l : List Int} (h : OwnB w g cap l) (k : Nat) (c : Int) (hk : k < l.length) (hc : 0 ≤ c ∧ c < 256) :
    OwnB (w.setCell ⟨g, k, none⟩ (.int .u8 c)) g cap (l.set k c) := by
  obtain ⟨cur, hg, h2, h3⟩ := h.row
  refine ⟨⟨cur.setIfInBounds k (.int .u8 c), heap_setCell_same _ _ _ _ _ _ hg, by simp [h2], ?_⟩, by simpa using h.len, by simpa using h.room, h.top, fun i => ?_⟩
  · rw [List.length_set, Array.toList_setIfInBounds, List.take_set, h3, List.map_set]
  · rw [nth_set l k i c hk]
    split
    · exact hc
    · exact h.wf i
theorem Bytes.below {B : Nat} {w w' : World} {a : Option Addr} {l : List Int} (h : Bytes w a l) (hb : Below B w w') (hB : ∀ p, a = some p → p.block < B) : Bytes w' a l := by
  refine ⟨h.len, h.wf, ?_⟩
  rcases h.at_ with e | ⟨b, off, rfl, hc⟩
  · exact .inl e
  · refine .inr ⟨b, off, rfl, fun i hi => ?_⟩
    have := hB _ rfl
    rw [hb.cell (p := ⟨b, off + i, none⟩) this]; exact hc i hi
theorem Bytes.on {w w' : World} {a : Option Addr} {l : List Int} (h : Bytes w a l) (hb : Below w.heap.size w w') : Bytes w' a l := by
  refine ⟨h.len, h.wf, ?_⟩
  rcases h.at_ with e | ⟨b, off, rfl, hc⟩
  · exact .inl e
  · exact .inr ⟨b, off, rfl, fun i hi => by rw [hb.cell (block_lt_of_cell (hc i hi))]; exact hc i hi⟩
theorem nth_take (l : List Int) (k i : Nat) (h : i < k) : nth (l.take k) i = nth l i := by simp [nth, List.getD, h]
theorem nth_drop (l : List Int) (k i : Nat) : nth (l.drop k) i = nth l (k + i) := by simp [nth, List.getD]
theorem wf_drop {l : List Int} (h : ∀ i, 0 ≤ nth l i ∧ nth l i < 256) (k : Nat) : ∀ i, 0 ≤ nth (l.drop k) i ∧ nth (l.drop k) i < 256 := fun i => by rw [nth_drop]; exact h _
theorem wf_take {l : List Int} (h : ∀ i, 0 ≤ nth l i ∧ nth l i < 256) (k : Nat) : ∀ i, 0 ≤ nth (l.take k) i ∧ nth (l.take k) i < 256 := by
  intro i
  by_cases hi : i < k
  · rw [nth_take l k i hi]; exact h i
  · rw [nth_out _ _ (by rw [List.length_take]; omega)]; omega
theorem wf_two {l m : List Int} (h : ∀ i, 0 ≤ nth l i ∧ nth l i < 256) (k : ∀ i, 0 ≤ nth m i ∧ nth m i < 256) : ∀ i, 0 ≤ nth (l ++ m) i ∧ nth (l ++ m) i < 256 := by
  intro i
  unfold nth at *
  by_cases hi : i < l.length
  · have : (l ++ m).getD i 0 = l.getD i 0 := by simp [List.getD, List.getElem?_append, hi]
    rw [this]; exact h i
  · have : (l ++ m).getD i 0 = m.getD (i - l.length) 0 := by simp [List.getD, List.getElem?_append, hi]
    rw [this]; exact k _
theorem wf_list {l : List Int} (h : l.all (fun c => decide (0 ≤ c ∧ c < 256)) = true) : ∀ i, 0 ≤ nth l i ∧ nth l i < 256 := by
  intro i
  by_cases hi : i < l.length
  · have e : nth l i = l[i] := by simp [nth, List.getD, hi]
    rw [e]
    have := List.all_eq_true.1 h l[i] (List.getElem_mem hi)
    simpa using this
  · rw [nth_out _ _ (by omega)]; omega
theorem Bytes.take {w : World} {a : Option Addr} {l : List Int} (h : Bytes w a l) (k : Nat) : Bytes w a (l.take k) := by
  refine ⟨by have := h.len; rw [List.length_take]; omega, wf_take h.wf k, ?_⟩
  rcases h.at_ with e | ⟨b, off, rfl, hc⟩
  · exact .inl (by rw [e]; simp)
  · refine .inr ⟨b, off, rfl, fun i hi => ?_⟩
    rw [List.length_take] at hi
    rw [nth_take _ _ _ (by omega)]; exact hc i (by omega)

theorem info5 : (Try.prog.info? 5).map (fun i => (i.zero, i.size, i.bytes)) = some (some (.int .u8 0), 1, 1) := by kernel_rfl
theorem size5 : (Try.prog.info? 5).map (·.size) = some 1 := by kernel_rfl
theorem cells_u8 (l : List Int) : ∀ u ∈ l.map (Value.int .u8), u.oneCell' = true := by
  intro u hu
  obtain ⟨c, _, rfl⟩ := List.mem_map.1 hu
  rfl
theorem Bytes.news {w : World} {p : Addr} {l : List Int} (hb : Bytes w (some p) l) : ∀ j u, (l.map (Value.int .u8))[j]? = some u → w.cell? (p.add j) = some u := by
  intro j u hj
  rcases hb.at_ with e | ⟨b, off, e, hc⟩
  · subst e; simp at hj
  · cases e
    have hlt : j < l.length := by
      by_cases hlt : j < l.length
      · exact hlt
      · rw [List.getElem?_eq_none (by simp; omega)] at hj; cases hj
    rw [nth_cellL l j hlt] at hj
    cases hj
    rw [Addr.add_lit, ← hc j hlt]
theorem Bytes.nil {w : World} {l : List Int} (hb : Bytes w none l) : l = [] := by
  rcases hb.at_ with e | ⟨_, _, e, _⟩
  · exact e
  · cases e
theorem owns_of {w : World} {B g cap : Nat} {l : List Int} (h : OwnB w g cap l) (hg : B ≤ g) : w.ownsRow B 5 1 (.slice (some ⟨g, 0, none⟩) l.length cap) l.length (l.map (Value.int .u8)) := by
  obtain ⟨cur, h1, h2, h3⟩ := h.row
  exact ⟨by simp, .inr ⟨g, cap, cur, rfl, hg, h1, h.room, h.top, by omega, by simpa using h3⟩⟩
/-- an empty row of one's own -/
theorem own_empty {w : World} {g : Nat} (h : w.heap[g]? = some (.cells #[] 5 (0, 0))) : OwnB w g 0 [] :=
  ⟨⟨#[], h, rfl, rfl⟩, by simp, by simp, by unfold maxLen; omega, by intro i; simp [nth]⟩
end Go.Proofs.Ytgkgcocpkammfaa
