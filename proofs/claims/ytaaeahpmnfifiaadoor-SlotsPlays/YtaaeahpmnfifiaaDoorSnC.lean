import Derived.Test.YtaaeahpmnfifiaaDoorSnB
import Derived.Laws.CopyRow
namespace Go.Proofs.YtaaeahpmnfifiaaDoor
open Go.RowKit Rec Sc
/-- a told cell: place, name, inode -/
abbrev ET := Int × ByteArray × Int
abbrev eVt (q : ET) : Value := eV q.1 q.2.1 q.2.2
def eC (L : List ET) : List Value := L.flatMap fun q => [.int .i64 q.1, .string q.2.1, .int .i64 q.2.2]
theorem eC_nil : eC [] = [] := rfl
theorem eC_cons (q : ET) (L : List ET) : eC (q :: L) = [.int .i64 q.1, .string q.2.1, .int .i64 q.2.2] ++ eC L := rfl
theorem eC_app (L M : List ET) : eC (L ++ M) = eC L ++ eC M := by simp [eC]
theorem eC_len (L : List ET) : (eC L).length = L.length * 3 := by
  induction L with
  | nil => rfl
  | cons q L ih => rw [eC_cons, List.length_append, ih, List.length_cons]; simp; omega
theorem eC_at (L : List ET) (j : Nat) (q : ET) (h : L[j]? = some q) : (eC L)[j * 3]? = some (.int .i64 q.1) ∧ (eC L)[j * 3 + 1]? = some (.string q.2.1) ∧ (eC L)[j * 3 + 2]? = some (.int .i64 q.2.2) := by
  induction L generalizing j with
  | nil => simp at h
  | cons q L ih =>
    cases j with
    | zero => cases h; exact ⟨rfl, rfl, rfl⟩
    | succ j =>
      have := ih j (by simpa using h)
      have e : (j + 1) * 3 = j * 3 + 3 := by omega
      rw [e]
      exact this
theorem eC_take (L : List ET) (j : Nat) : (eC L).take (j * 3) = eC (L.take j) := by
  induction L generalizing j with
  | nil => simp [eC]
  | cons q L ih =>
    cases j with
    | zero => simp [eC]
    | succ j =>
      have e : (j + 1) * 3 = j * 3 + 3 := by omega
      rw [e, List.take_succ_cons, eC_cons, eC_cons]
      show (_ :: _ :: _ :: eC L).take (j * 3 + 3) = _
      rw [List.take_succ_cons, List.take_succ_cons, List.take_succ_cons, ih]; rfl
theorem eC_set (L : List ET) (j : Nat) (q : ET) : (((eC L).set (j * 3) (.int .i64 q.1)).set (j * 3 + 1) (.string q.2.1)).set (j * 3 + 2) (.int .i64 q.2.2) = eC (L.set j q) := by
  induction L generalizing j with
  | nil => simp [eC]
  | cons p L ih =>
    cases j with
    | zero => simp [eC]
    | succ j =>
      have e : (j + 1) * 3 = j * 3 + 3 := by omega
      rw [e, List.set_cons_succ, eC_cons, eC_cons, ← ih]
      rfl
theorem eC_one (L : List ET) : ∀ u ∈ eC L, u.oneCell' = true := by
  intro u hu
  simp only [eC, List.mem_flatMap] at hu
  obtain ⟨q, _, hq⟩ := hu
  simp at hq
  rcases hq with rfl | rfl | rfl <;> rfl
/-- told cells in a row of one's own -/
structure OwnE (w : World) (g cap : Nat) (xs : List ET) : Prop where
  row : ∃ cur : Array Value, w.heap[g]? = some (.cells cur 27 (0, 0)) ∧ cur.size = cap * 3 ∧ cur.toList.take (xs.length * 3) = eC xs
  room : xs.length ≤ cap
  top : cap ≤ maxLen
theorem OwnE.lt {w : World} {g cap : Nat} {xs : List ET} (h : OwnE w g cap xs) : g < w.heap.size := by
  obtain ⟨cur, hg, _⟩ := h.row
  exact heap_lt hg
theorem OwnE.owns {w : World} {g cap : Nat} {xs : List ET} (h : OwnE w g cap xs) : w.ownsRow 0 27 3 (.slice (some ⟨g, 0, none⟩) xs.length cap) xs.length (eC xs) := by
  obtain ⟨cur, h1, h2, h3⟩ := h.row
  exact ⟨eC_len xs, .inr ⟨g, cap, cur, rfl, Nat.zero_le _, h1, h.room, h.top, h2, h3⟩⟩
theorem OwnE.of {w : World} {g cap n : Nat} {xs : List ET} (hn : xs.length = n) (h : w.ownsRow 0 27 3 (.slice (some ⟨g, 0, none⟩) n cap) n (eC xs)) : OwnE w g cap xs := by
  subst hn
  rcases h.2 with ⟨e, _⟩ | ⟨g', cap', cur, e, _, h1, h2, h3, h4, h5⟩
  · cases e
  · cases e; exact ⟨⟨cur, h1, h4, h5⟩, h2, h3⟩
theorem OwnE.cell {w : World} {g cap : Nat} {xs : List ET} (h : OwnE w g cap xs) {k : Nat} {q : ET} (hk : xs[k]? = some q) :
    w.cell? ⟨g, k * 3, none⟩ = some (.int .i64 q.1) ∧ w.cell? ⟨g, k * 3 + 1, none⟩ = some (.string q.2.1) ∧ w.cell? ⟨g, k * 3 + 2, none⟩ = some (.int .i64 q.2.2) := by
  obtain ⟨cur, hg, _, ht⟩ := h.row
  have hlt : k < xs.length := (List.getElem?_eq_some_iff.1 hk).1
  obtain ⟨a, b, c⟩ := eC_at xs k q hk
  rw [← ht, List.getElem?_take_of_lt (by omega), Array.getElem?_toList] at a b c
  exact ⟨(cell_of_row _ _ _ _ _ _ hg).trans a, (cell_of_row _ _ _ _ _ _ hg).trans b, (cell_of_row _ _ _ _ _ _ hg).trans c⟩
theorem OwnE.frozen {w : World} {g cap : Nat} {xs : List ET} (h : OwnE w g cap xs) (i : Nat) : w.frozen? ⟨g, i, none⟩ = false := by
  obtain ⟨cur, hg, _⟩ := h.row
  exact frozen_of_row _ _ _ _ _ hg
theorem OwnE.keep {w w' : World} {g cap : Nat} {xs : List ET} (h : OwnE w g cap xs) (hb : w'.heap[g]? = w.heap[g]?) : OwnE w' g cap xs := by
  obtain ⟨cur, hg, h2⟩ := h.row
  exact ⟨⟨cur, hb.trans hg, h2⟩, h.room, h.top⟩
theorem OwnE.on {w w' : World} {g cap : Nat} {xs : List ET} (h : OwnE w g cap xs) (hb : Below w.heap.size w w') : OwnE w' g cap xs := h.keep (hb.block g h.lt)
theorem OwnE.take {w : World} {g cap : Nat} {xs : List ET} (h : OwnE w g cap xs) (j : Nat) : OwnE w g cap (xs.take j) := by
  obtain ⟨cur, hg, h2, h3⟩ := h.row
  refine ⟨⟨cur, hg, h2, ?_⟩, Nat.le_trans (by rw [List.length_take]; omega) h.room, h.top⟩
  rw [← eC_take, ← h3, List.take_take]
  congr 1
  rw [List.length_take]; omega
theorem OwnE.set {w : World} {g cap : Nat} {xs : List ET} (h : OwnE w g cap xs) {k : Nat} (_hk : k < xs.length) (q : ET) :
    OwnE (((w.setCell ⟨g, k * 3, none⟩ (.int .i64 q.1)).setCell ⟨g, k * 3 + 1, none⟩ (.string q.2.1)).setCell ⟨g, k * 3 + 2, none⟩ (.int .i64 q.2.2)) g cap (xs.set k q) := by
  obtain ⟨cur, hg, h2, h3⟩ := h.row
  refine ⟨⟨_, heap_setCell_same _ _ _ _ _ _ (heap_setCell_same _ _ _ _ _ _ (heap_setCell_same _ _ _ _ _ _ hg)), by simp [h2], ?_⟩, by simpa using h.room, h.top⟩
  rw [List.length_set, Array.toList_setIfInBounds, Array.toList_setIfInBounds, Array.toList_setIfInBounds, List.take_set, List.take_set, List.take_set, h3, eC_set]
theorem infoE : (Tryd.prog.info? 27).map (fun i => (i.zero, i.size, i.bytes)) = some (some (.agg #[.int .i64 0, .string ⟨#[]⟩, .int .i64 0]), 3, 32) := by kernel_rfl
theorem zeroE (w : World) : (zeroValue 27).run Tryd.prog w = .ok (.agg #[.int .i64 0, .string ⟨#[]⟩, .int .i64 0]) w := by kernel_rfl
theorem zeroC_one (n : Nat) : ∀ u ∈ (Builtin.zeroCells (Value.agg #[.int .i64 0, .string ⟨#[]⟩, .int .i64 0]).cells n).toList, u.oneCell' = true := by
  intro u hu
  simp only [Builtin.zeroCells, Array.toList_map, List.mem_map] at hu
  obtain ⟨i, _, rfl⟩ := hu
  have hs : (Value.agg #[.int .i64 0, .string ⟨#[]⟩, .int .i64 0]).cells = #[.int .i64 0, .string ⟨#[]⟩, .int .i64 0] := rfl
  rw [hs]
  have : i % 3 = 0 ∨ i % 3 = 1 ∨ i % 3 = 2 := by omega
  show Value.oneCell' (#[Value.int .i64 0, .string ⟨#[]⟩, .int .i64 0][i % 3]!) = true
  rcases this with e | e | e <;> rw [e] <;> rfl
theorem clearE {w : World} {g cap : Nat} {xs : List ET} (h : OwnE w g cap xs) (i : Nat) (hi : i < xs.length) (ty : TypeId) (c : Nat) :
    ∃ w', (Builtin.clear_ #[36] ty #[.slice (some ⟨g, i * 3, none⟩) (xs.length - i) c]).run Tryd.prog w = .ok (.tuple #[]) w' ∧ OwnE w' g cap (xs.take i) ∧ w.grownBy w' (some g) := by
  obtain ⟨cur, hg, h2, h3⟩ := h.row
  have hr := h.room
  obtain ⟨m, hm⟩ : ∃ m, xs.length - i = m + 1 := ⟨xs.length - i - 1, by omega⟩
  have hz : (Builtin.zeroCells (Value.agg #[.int .i64 0, .string ⟨#[]⟩, .int .i64 0]).cells (m + 1)).toList.length = (m + 1) * 3 := by simp [Builtin.zeroCells, Value.cells]
  have hst := run_storeCells_at (P := Tryd.prog) g (i * 3) 27 (Builtin.zeroCells (Value.agg #[.int .i64 0, .string ⟨#[]⟩, .int .i64 0]).cells (m + 1)).toList 0 cur w hg (by rw [hz, h2]; omega) (zeroC_one _)
  generalize hZ : (Builtin.zeroCells (Value.agg #[.int .i64 0, .string ⟨#[]⟩, .int .i64 0]).cells (m + 1)).toList = Z at hz hst
  refine ⟨w.setRow g (cur.toList.take (i * 3 + 0) ++ Z ++ cur.toList.drop (i * 3 + 0 + Z.length)).toArray, ?_, ?_, ?_⟩
  · rw [hm]
    simp [Builtin.clear_, run_underlying Tryd.underlying36, hZ, hst]
  · refine ⟨⟨_, setRow_heap w g cur _ _ _ hg, ?_, ?_⟩, Nat.le_trans (by rw [List.length_take]; omega) h.room, h.top⟩
    · simp only [List.size_toArray, List.length_append, List.length_take, List.length_drop, hz, Array.length_toList, h2]; omega
    · have hl : (xs.take i).length = i := by rw [List.length_take]; omega
      rw [hl, List.append_assoc, List.take_append_of_le_length (by rw [List.length_take, Array.length_toList, h2]; omega), Nat.add_zero, List.take_take, Nat.min_self, ← eC_take, ← h3, List.take_take]
      congr 1; omega
  · exact ⟨rfl, rfl, rfl, by simp [World.setRow], fun k hk hr => by
      have : g ≠ k := fun e => hr (by rw [e])
      simp [World.setRow, Array.getElem?_modify, this]⟩
end Go.Proofs.YtaaeahpmnfifiaaDoor
