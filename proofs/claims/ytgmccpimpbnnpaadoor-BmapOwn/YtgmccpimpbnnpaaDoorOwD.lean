import Derived.Test.YtgmccpimpbnnpaaDoorOwC
namespace Go.Proofs.YtgmccpimpbnnpaaDoor
open Go.RowKit Go.Maps Rec
theorem lit_cells {w : World} {P e : Nat} {news : List Value} (hP : w.heap[P]? = some (.cells news.toArray e (0, 0))) : ∀ j u, news[j]? = some u → w.cell? ((⟨P, 0, none⟩ : Addr).add j) = some u := fun j u hj => by
  rw [Addr.add_lit, Nat.zero_add, cell_of_row _ _ _ _ _ _ hP, List.getElem?_toArray]; exact hj
theorem stepw_appB {o : Oper} {a : Act} {w : World} {K : Act → World → Prop} {Q : Exit → Act → World → Prop} (s x : Operand) (t : TypeId)
    (ho : o.op = .call { callee := .builtin .append, args := #[s, x], argTypes := #[t, t] }) (e : TypeId) (z : Value) (size bytes : Nat) (ht : Tryd.prog.underlying t = some (.slice e)) (hi : (Tryd.prog.info? e).map (fun i => (i.zero, i.size, i.bytes)) = some (some z, size, bytes))
    (hzs : z.cells.size = size) (hsz : 0 < size) (hby : bytes ≤ 24) (B : Nat) (hBw : B ≤ w.heap.size) (v : Value) (k : Nat) (xs : List Value) (hs : a.eval s = v) (hown : w.ownsRow B e size v k xs)
    (P : Nat) (hx : a.eval x = .slice (some ⟨P, 0, none⟩) 1 1) (news : List Value) (hl : news.length = size) (hP : w.heap[P]? = some (.cells news.toArray e (0, 0))) (h1 : ∀ u ∈ news, u.oneCell' = true) (hk : k ≤ 1000000)
    (h : ∀ g cap w', w.ownsRow B e size v k xs → w'.ownsRow B e size (.slice (some ⟨g, 0, none⟩) (k + 1) cap) (k + 1) (xs ++ news) → w'.ownsRow B e size v k xs → Fr (fun k => v.ownBlock = some k) w w' → (v.ownBlock = some g ∨ w.heap.size ≤ g) → K (a.put o.dst (.slice (some ⟨g, 0, none⟩) (k + 1) cap)) w') :
    o.wp Tryd.prog a w K Q := by
  obtain ⟨i0, hi, hz0, hz1, hz2⟩ := info_parts hi
  obtain ⟨g, cap, w', hr, h2, h3, h4, h5⟩ := run_ownB hBw t o.type e i0 z size bytes ht hi hz0 hz1 hz2 hzs hsz v k xs hown ⟨P, 0, none⟩ 1 1 news (by decide) (by omega) (lit_cells hP) h1 (by unfold maxLen; omega) (by have := Nat.mul_le_mul (show k + 1 ≤ 1000001 by omega) hby; omega)
  unfold Oper.wp
  simp only [execOp, ho, resolve, invoke, builtin, Sem.run_bind, Sem.run_pure, Result.andThen_ok, List.map_toArray, List.map_cons, List.map_nil, hs, hx, hr]
  exact h g cap w' hown h2 h3 h4 h5
theorem wp_appB {ops : Array Oper} {rest : List Oper} {o : Oper} {a : Act} {Q : Exit → Act → World → Prop} {w : World} (hgd : o.guard = none) (s x : Operand) (t : TypeId)
    (ho : o.op = .call { callee := .builtin .append, args := #[s, x], argTypes := #[t, t] }) (e : TypeId) (z : Value) (size bytes : Nat) (ht : Tryd.prog.underlying t = some (.slice e)) (hi : (Tryd.prog.info? e).map (fun i => (i.zero, i.size, i.bytes)) = some (some z, size, bytes))
    (hzs : z.cells.size = size) (hsz : 0 < size) (hby : bytes ≤ 24) (B : Nat) (hBw : B ≤ w.heap.size) (v : Value) (k : Nat) (xs : List Value) (hs : a.eval s = v) (hown : w.ownsRow B e size v k xs)
    (P : Nat) (hx : a.eval x = .slice (some ⟨P, 0, none⟩) 1 1) (news : List Value) (hl : news.length = size) (hP : w.heap[P]? = some (.cells news.toArray e (0, 0))) (h1 : ∀ u ∈ news, u.oneCell' = true) (hk : k ≤ 1000000)
    (h : ∀ g cap w', w'.ownsRow B e size (.slice (some ⟨g, 0, none⟩) (k + 1) cap) (k + 1) (xs ++ news) → Fr (fun k => v.ownBlock = some k) w w' → (v.ownBlock = some g ∨ w.heap.size ≤ g) → wpList Tryd.prog ops Q rest (a.put o.dst (.slice (some ⟨g, 0, none⟩) (k + 1) cap)) w') :
    wpList Tryd.prog ops Q (o :: rest) a w := by
  obtain ⟨i0, hi, hz0, hz1, hz2⟩ := info_parts hi
  obtain ⟨g, cap, w', hr, h2, _, h4, h5⟩ := run_ownB hBw t o.type e i0 z size bytes ht hi hz0 hz1 hz2 hzs hsz v k xs hown ⟨P, 0, none⟩ 1 1 news (by decide) (by omega) (lit_cells hP) h1 (by unfold maxLen; omega) (by have := Nat.mul_le_mul (show k + 1 ≤ 1000001 by omega) hby; omega)
  refine wpList_plain hgd fun K hK => ?_
  unfold Oper.wp execOp
  simp only [ho, resolve, invoke, builtin, Sem.run_bind, Sem.run_pure, Result.andThen_ok, List.map_toArray, List.map_cons, List.map_nil, hs, hx, hr]
  exact hK _ _ (h g cap w' h2 h4 h5)
theorem wp_cpyB {ops : Array Oper} {rest : List Oper} {o : Oper} {a : Act} {Q : Exit → Act → World → Prop} {w : World} (hgd : o.guard = none) (s x : Operand) (t : TypeId)
    (ho : o.op = .call { callee := .builtin .append, args := #[s, x], argTypes := #[t, t] }) (e : TypeId) (z : Value) (size bytes : Nat) (ht : Tryd.prog.underlying t = some (.slice e)) (hi : (Tryd.prog.info? e).map (fun i => (i.zero, i.size, i.bytes)) = some (some z, size, bytes))
    (hzs : z.cells.size = size) (hsz : 0 < size) (hby : bytes ≤ 24) (B : Nat) (P : Nat) (hBw : B ≤ P) (hs : a.eval s = .slice (some ⟨P, 0, none⟩) 0 0) (hP : w.heap[P]? = some (.cells #[] e (0, 0)))
    (v : Value) (n : Nat) (f : Nat → Int) (hx : a.eval x = v) (hown : w.ownsRow B e size v n (ivs (n * size) f)) (hk : n ≤ 1000000)
    (h : ∀ g cap w', w'.ownsRow B e size (.slice (some ⟨g, 0, none⟩) n cap) n (ivs (n * size) f) → Fr (fun k => k = P) w w' → (g = P ∨ w.heap.size ≤ g) → wpList Tryd.prog ops Q rest (a.put o.dst (.slice (some ⟨g, 0, none⟩) n cap)) w') :
    wpList Tryd.prog ops Q (o :: rest) a w := by
  obtain ⟨i0, hi, hz0, hz1, hz2⟩ := info_parts hi
  have hlit : w.ownsRow B e size (.slice (some ⟨P, 0, none⟩) 0 0) 0 [] := ⟨by simp, .inr ⟨P, 0, #[], rfl, hBw, hP, Nat.le_refl _, by simp [maxLen], by simp, by simp⟩⟩
  by_cases hn : n = 0
  · subst hn
    have hr : (Builtin.append_ #[t, t] o.type #[.slice (some ⟨P, 0, none⟩) 0 0, v]).run Tryd.prog w = .ok (.slice (some ⟨P, 0, none⟩) 0 0) w := by
      rcases hown.2 with ⟨e1, _⟩ | ⟨g, cap, cur, e1, _⟩ <;> rw [e1] <;> simp [Builtin.append_, run_underlying ht, sizeOf, typeInfo, hi, Builtin.lenOf, Builtin.firstCells, storeCells, loadCells, loadCellsFrom]
    refine wpList_plain hgd fun K hK => ?_
    unfold Oper.wp execOp
    simp only [ho, resolve, invoke, builtin, Sem.run_bind, Sem.run_pure, Result.andThen_ok, List.map_toArray, List.map_cons, List.map_nil, hs, hx, hr]
    refine hK _ _ (h P 0 w ?_ (Fr.refl _ _) (.inl rfl))
    have : ivs (0 * size) f = [] := by simp [ivs]
    rw [this]; exact hlit
  · rcases hown.2 with ⟨_, e1⟩ | ⟨g, cap, cur, e1, hB, hg, hnc, hcm, hcs, htake⟩
    · omega
    · obtain ⟨g2, cap2, w', hr, h2, _, h4, h5⟩ := run_ownB (Nat.le_trans hBw (Nat.le_of_lt (heap_lt hP))) t o.type e i0 z size bytes ht hi hz0 hz1 hz2 hzs hsz _ 0 [] hlit ⟨g, 0, none⟩ n cap (ivs (n * size) f) (by omega) hown.1 (fun j u hj => by
        rw [Addr.add_lit, Nat.zero_add, cell_of_row _ _ _ _ _ _ hg]
        have hjl := (List.getElem?_eq_some_iff.1 hj).1
        rw [ivs_len] at hjl
        rw [← htake, List.getElem?_take_of_lt hjl, Array.getElem?_toList] at hj
        exact hj) (fun u hu => by
        unfold ivs at hu
        obtain ⟨j, _, rfl⟩ := List.mem_map.1 hu
        rfl) (by unfold maxLen; omega) (by have := Nat.mul_le_mul (show 0 + n ≤ 1000001 by omega) hby; omega)
      rw [Nat.zero_add] at hr h2
      refine wpList_plain hgd fun K hK => ?_
      unfold Oper.wp execOp
      simp only [ho, resolve, invoke, builtin, Sem.run_bind, Sem.run_pure, Result.andThen_ok, List.map_toArray, List.map_cons, List.map_nil, hs, hx, e1, hr]
      refine hK _ _ (h g2 cap2 w' h2 (h4.mono fun k hk => ?_) ?_)
      · cases hk; rfl
      · rcases h5 with h5 | h5
        · cases h5; exact .inl rfl
        · exact .inr h5
theorem wp_storeB {o : Oper} {a : Act} {w : World} {K : Act → World → Prop} {Q : Exit → Act → World → Prop} (ty : TypeId) (x y : Operand) (ho : o.op = .store ty x y)
    (g q : Nat) (cells : Array Value) (hx : a.eval x = .pointer (some ⟨g, q, none⟩)) (hy : a.eval y = .agg cells)
    (t : TypeId) (old : Array Value) (hg : w.heap[g]? = some (.cells old t (0, 0))) (hi : (Tryd.prog.info? ty).map (·.size) = some cells.size)
    (hold : q + cells.size ≤ old.size) (h1 : cells.all (·.oneCell') = true)
    (h : K (a.put o.dst undef) (w.setRow g (old.toList.take q ++ cells.toList ++ old.toList.drop (q + cells.size)).toArray)) : o.wp Tryd.prog a w K Q := by
  have h9 := run_storeCells_at (P := Tryd.prog) g q t cells.toList 0 old w hg (by simpa using hold) (fun v hv => (Array.all_eq_true_iff_forall_mem.1 h1) v (by simpa using hv))
  rw [Nat.add_zero, Array.length_toList] at h9
  have hr : (storeVar ty ⟨g, q, none⟩ (.agg cells)).run Tryd.prog w = .ok () (w.setRow g (old.toList.take q ++ cells.toList ++ old.toList.drop (q + cells.size)).toArray) := by
    cases hq : Tryd.prog.info? ty with
    | none => simp [hq] at hi
    | some i =>
      have hs : cells.size = i.size := by simp [hq] at hi; omega
      simp [storeVar, sizeOf, typeInfo, hq, Value.cells, hs]
      rw [← hs]
      rw [List.append_assoc] at h9
      exact h9
  unfold Oper.wp execOp
  simp only [ho, hx, hy, Instr.storeAt, Instr.sureAddr, Sem.run_bind, Sem.run_pure, Result.andThen_ok, hr]
  exact h
theorem wpl_storeB {ops : Array Oper} {rest : List Oper} {o : Oper} {a : Act} {w : World} {Q : Exit → Act → World → Prop} (hgd : o.guard = none) (ty : TypeId) (x y : Operand) (ho : o.op = .store ty x y)
    (g q : Nat) (cells : Array Value) (hx : a.eval x = .pointer (some ⟨g, q, none⟩)) (hy : a.eval y = .agg cells)
    (t : TypeId) (old : Array Value) (hg : w.heap[g]? = some (.cells old t (0, 0))) (hi : (Tryd.prog.info? ty).map (·.size) = some cells.size)
    (hold : q + cells.size ≤ old.size) (h1 : cells.all (·.oneCell') = true)
    (h : wpList Tryd.prog ops Q rest (a.put o.dst undef) (w.setRow g (old.toList.take q ++ cells.toList ++ old.toList.drop (q + cells.size)).toArray)) : wpList Tryd.prog ops Q (o :: rest) a w :=
  wpList_plain hgd fun _ hK => wp_storeB ty x y ho g q cells hx hy t old hg hi hold h1 (hK _ _ h)
theorem wpl_rowB {ops : Array Oper} {rest : List Oper} {o : Oper} {a : Act} {w : World} {Q : Exit → Act → World → Prop} (hgd : o.guard = none) (ty : TypeId) (x y : Operand) (ho : o.op = .store ty x y)
    (g : Nat) (cells : Array Value) (hx : a.eval x = .pointer (some ⟨g, 0, none⟩)) (hy : a.eval y = .agg cells)
    (t : TypeId) (old : Array Value) (hg : w.heap[g]? = some (.cells old t (0, 0))) (hi : (Tryd.prog.info? ty).map (·.size) = some cells.size)
    (hold : old.size = cells.size) (h1 : cells.all (·.oneCell') = true)
    (h : wpList Tryd.prog ops Q rest (a.put o.dst undef) (w.setRow g cells)) : wpList Tryd.prog ops Q (o :: rest) a w :=
  wpList_plain hgd fun _ hK => wp_store_row ty x y ho g cells hx hy t old hg hi hold h1 (hK _ _ h)
end Go.Proofs.YtgmccpimpbnnpaaDoor
