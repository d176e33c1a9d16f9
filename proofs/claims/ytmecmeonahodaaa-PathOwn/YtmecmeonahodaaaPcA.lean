import Derived.Test.YtmecmeonahodaaaOwnP
namespace Go.Proofs.Ytmecmeonahodaaa
open Go.RowKit Go.Shelf Pa
/-- a list of texts that may be written: in a row, or at the head of one -/
def Lp (w : World) (v : Value) (xs : List ByteArray) : Prop :=
  (v = .slice none 0 0 ∧ xs = []) ∨ ∃ g cap cur, v = .slice (some ⟨g, 0, none⟩) xs.length cap ∧ w.heap[g]? = some (.cells cur 9 (0, 0)) ∧ xs.length ≤ cap ∧ cap ≤ cur.size ∧ cap ≤ maxLen ∧ cur.toList.take xs.length = xs.map Value.string
theorem Lp.ow {w : World} {b : Nat} {v : Value} {xs : List ByteArray} (h : Ow w b v xs) : Lp w v xs := by
  rcases h.2 with ⟨e, e2⟩ | ⟨g, cap, cur, e1, e2, e3, e4, e5, e6, e7⟩
  · exact .inl ⟨e, List.eq_nil_of_length_eq_zero e2⟩
  · rw [Nat.mul_one] at e6 e7
    exact .inr ⟨g, cap, cur, e1, e3, e4, by omega, e5, e7⟩
/-- its head, with no room behind it -/
theorem Lp.head {w : World} {b g n cap : Nat} {xs ys : List ByteArray} (h : Ow w b (.slice (some ⟨g, 0, none⟩) n cap) (xs ++ ys)) : Lp w (.slice (some ⟨g, 0, none⟩) xs.length xs.length) xs := by
  rcases h.2 with ⟨e, e2⟩ | ⟨g', cap', cur, e1, e2, e3, e4, e5, e6, e7⟩
  · cases e
  · cases e1
    rw [Nat.mul_one] at e6 e7
    rw [List.length_append] at e4 e7
    refine .inr ⟨g, xs.length, cur, rfl, e3, Nat.le_refl _, by omega, by omega, ?_⟩
    have h1 := congrArg (List.take xs.length) e7
    rw [List.take_take, Nat.min_eq_left (by omega), List.map_append, List.take_left' (by simp)] at h1
    exact h1
theorem Lp.lt {w : World} {v : Value} {xs : List ByteArray} (h : Lp w v xs) {b : Nat} (hb : v.ownBlock = some b) : b < w.heap.size := by
  rcases h with ⟨e, _⟩ | ⟨g, cap, cur, e1, e3, _⟩
  · rw [e] at hb; cases hb
  · rw [e1] at hb
    have : g = b := by cases hb; rfl
    rw [← this]; exact heap_lt e3
theorem Lp.fr {S : Nat → Prop} {w w' : World} {v : Value} {xs : List ByteArray} (h : Lp w v xs) (x : Fr S w w') (hS : ∀ b, v.ownBlock = some b → ¬ S b) : Lp w' v xs := by
  rcases h with h | ⟨g, cap, cur, e1, e3, r⟩
  · exact .inl h
  · exact .inr ⟨g, cap, cur, e1, x.heap e3 (hS g (by rw [e1]; rfl)), r⟩
theorem Lp.on {w w' : World} {v : Value} {xs : List ByteArray} (h : Lp w v xs) (hb : Below w.heap.size w w') : Lp w' v xs := h.fr (below_fr hb (fun _ => False)) (fun _ _ e => e)
theorem Lp.strs {w : World} {v : Value} {xs : List ByteArray} (h : Lp w v xs) : ∃ a c, v = .slice a xs.length c ∧ StrsAt w a xs ∧ xs.length ≤ c := by
  rcases h with ⟨e, e2⟩ | ⟨g, cap, cur, e1, e3, e4, e5, e6, e7⟩
  · subst e2; exact ⟨none, 0, e, .inl rfl, Nat.le_refl _⟩
  · refine ⟨_, cap, e1, .inr ⟨g, 0, rfl, fun j x hj => ?_⟩, e4⟩
    have hjl := (List.getElem?_eq_some_iff.1 hj).1
    rw [Nat.zero_add, cell_of_row _ _ _ _ _ _ e3]
    have : (cur.toList.take xs.length)[j]? = some (.string x) := by rw [e7, List.getElem?_map, hj]; rfl
    rw [List.getElem?_take_of_lt hjl, Array.getElem?_toList] at this
    exact this
theorem Lp.cell {w : World} {v : Value} {xs : List ByteArray} (h : Lp w v xs) {k : Nat} {x : ByteArray} (hk : xs[k]? = some x) : ∃ g cap, v = .slice (some ⟨g, 0, none⟩) xs.length cap ∧ w.cell? ⟨g, k, none⟩ = some (.string x) ∧ w.frozen? ⟨g, k, none⟩ = false := by
  have hkl := (List.getElem?_eq_some_iff.1 hk).1
  rcases h with ⟨e, e2⟩ | ⟨g, cap, cur, e1, e3, e4, e5, e6, e7⟩
  · subst e2; simp at hk
  · refine ⟨g, cap, e1, ?_, frozen_of_row _ _ k _ _ e3⟩
    rw [cell_of_row _ _ _ _ _ _ e3]
    have : (cur.toList.take xs.length)[k]? = some (.string x) := by rw [e7, List.getElem?_map, hk]; rfl
    rw [List.getElem?_take_of_lt hkl, Array.getElem?_toList] at this
    exact this
theorem Lp.set {w : World} {g n cap : Nat} {xs : List ByteArray} (h : Lp w (.slice (some ⟨g, 0, none⟩) n cap) xs) {k : Nat} (x : ByteArray) (_hk : k < xs.length) : Lp (w.setCell ⟨g, k, none⟩ (.string x)) (.slice (some ⟨g, 0, none⟩) n cap) (xs.set k x) := by
  rcases h with ⟨e, e2⟩ | ⟨g', cap', cur, e1, e3, e4, e5, e6, e7⟩
  · cases e
  · cases e1
    refine .inr ⟨g, cap, cur.setIfInBounds k (.string x), by rw [List.length_set], heap_setCell_same _ _ _ _ _ _ e3, by rw [List.length_set]; exact e4, by simpa using e5, e6, ?_⟩
    rw [List.length_set, Array.toList_setIfInBounds, List.take_set, e7, List.map_set]
/-- append of two texts: the list stays as it was -/
theorem Lp.app2 (w : World) (ty : TypeId) (v : Value) (xs : List ByteArray) (P : Nat) (x y : ByteArray) (hP : w.heap[P]? = some (.cells #[.string x, .string y] 9 (0, 0))) (h : Lp w v xs) (hn : xs.length ≤ 1000) :
    ∃ b cap w', (Builtin.append_ #[24, 24] ty #[v, .slice (some ⟨P, 0, none⟩) 2 2]).run Try.prog w = .ok (.slice (some ⟨b, 0, none⟩) (xs.length + 2) cap) w' ∧ Lp w' (.slice (some ⟨b, 0, none⟩) (xs.length + 2) cap) (xs ++ [x, y]) ∧ Fr (fun k => v.ownBlock = some k) w w' ∧ (v.ownBlock = some b ∨ w.heap.size ≤ b) ∧ Lp w' v xs := by
  obtain ⟨i0, hi, hz0, hz1, hz2⟩ := info_parts infoS
  have hcell : ∀ j u, [Value.string x, .string y][j]? = some u → w.cell? ((⟨P, 0, none⟩ : Addr).add j) = some u := by
    intro j u hj
    match j, hj with
    | 0, hj => cases hj; rw [Addr.add_lit, cell_of_row _ _ _ _ _ _ hP]; rfl
    | 1, hj => cases hj; rw [Addr.add_lit, cell_of_row _ _ _ _ _ _ hP]; rfl
  have hone : ∀ u ∈ [Value.string x, .string y], u.oneCell' = true := by simp [Value.oneCell']
  have hb0 : Below w.heap.size w w.drew := (Below.refl _ _).drew
  rcases h with ⟨e, e2⟩ | ⟨g, cap, cur, e1, e3, e4, e5, e6, e7⟩
  · subst e e2
    have hr := run_append_nil (P := Try.prog) w 24 ty 9 i0 _ Try.underlying24 hi hz0 ⟨P, 0, none⟩ 2 2 [.string x, .string y] (by rw [hz1]; rfl) hcell (by omega) (by omega) (by rw [hz2]; omega)
    refine ⟨_, _, _, hr, .inr ⟨w.heap.size, _, _, rfl, heap_alloc_new w.drew _, grownCap_ge w 2 0 _, ?_, grownCap_le_maxLen w 2 0 _ (by simp [maxLen]), ?_⟩, ⟨rfl, rfl, rfl, by simp, fun k hk _ => heap_alloc_old w.drew _ k hk⟩, .inr (Nat.le_refl _), .inl ⟨rfl, rfl⟩⟩
    · have := grownCap_ge w 2 0 9
      simp [Builtin.zeroCells, Value.cells]; omega
    · simp
  · subst e1
    by_cases hroom : xs.length + 2 ≤ cap
    · have hr := run_append_room (P := Try.prog) w 24 ty 9 i0 Try.underlying24 hi g xs.length cap cur e3 ⟨P, 0, none⟩ 2 2 [.string x, .string y] (by rw [hz1]; rfl) hcell hone hroom (by rw [hz1]; simp; omega)
      rw [hz1] at hr
      simp only [Nat.mul_one] at hr
      refine ⟨g, cap, _, hr, .inr ⟨g, cap, _, by simp, setRow_heap w g cur _ _ _ e3, by simp; omega, ?_, e6, ?_⟩, ⟨rfl, rfl, rfl, by simp, fun k _ hk => setRow_other w g k _ (fun e => hk (by simp [Value.ownBlock, e]))⟩, .inl rfl, .inr ⟨g, cap, _, rfl, setRow_heap w g cur _ _ _ e3, e4, ?_, e6, ?_⟩⟩
      · simp; omega
      · rw [e7, List.length_append, List.map_append]
        exact List.take_left' (by simp)
      · simp; omega
      · rw [List.append_assoc, e7]
        exact List.take_left' (by simp)
    · have holds : ∀ j u, (xs.map Value.string)[j]? = some u → w.cell? ((⟨g, 0, none⟩ : Addr).add j) = some u := by
        intro j u hj
        rw [Addr.add_lit, Nat.zero_add, cell_of_row _ _ _ _ _ _ e3]
        have hjl := (List.getElem?_eq_some_iff.1 hj).1
        rw [List.length_map] at hjl
        rw [← e7, List.getElem?_take_of_lt hjl, Array.getElem?_toList] at hj
        exact hj
      have hr := run_append_grow (P := Try.prog) w 24 ty 9 i0 _ Try.underlying24 hi hz0 ⟨g, 0, none⟩ xs.length cap (xs.map Value.string) (by rw [hz1]; simp) holds ⟨P, 0, none⟩ 2 2 [.string x, .string y] (by rw [hz1]; rfl) hcell (by omega) (by omega) (growslice_fits (by omega) (by rw [hz2]; omega))
      have hal : Below w.heap.size w (w.drew.alloc (.cells ((xs.map Value.string).toArray ++ [Value.string x, .string y].toArray ++ Builtin.zeroCells (Value.string ⟨#[]⟩).cells (grownCap w (xs.length + 2) cap 9 - (xs.length + 2))) 9)) := (Below.refl w.heap.size w).drew.alloc (Nat.le_refl _) _
      refine ⟨_, _, _, hr, .inr ⟨w.heap.size, grownCap w (xs.length + 2) cap 9, _, by simp, heap_alloc_new w.drew _, ?_, ?_, grownCap_le_maxLen w (xs.length + 2) cap 9 (by simp [maxLen]; omega), ?_⟩, below_fr hal _, .inr (Nat.le_refl _), (show Lp w _ xs from .inr ⟨g, cap, cur, rfl, e3, e4, e5, e6, e7⟩).on hal⟩
      · have := grownCap_ge w (xs.length + 2) cap 9
        simp; omega
      · have := grownCap_ge w (xs.length + 2) cap 9
        simp [Builtin.zeroCells, Value.cells]; omega
      · simp only [Array.toList_append, List.append_assoc, List.length_append]
        rw [← List.append_assoc, List.map_append]
        exact List.take_left' (by simp)
end Go.Proofs.Ytmecmeonahodaaa
