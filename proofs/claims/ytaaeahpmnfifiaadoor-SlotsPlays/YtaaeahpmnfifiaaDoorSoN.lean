import Derived.Test.YtaaeahpmnfifiaaDoorSoM
namespace Go.Proofs.YtaaeahpmnfifiaaDoor
open Go.RowKit Rec Sc
theorem eC_inv (L : List ET) (j : Nat) (u : Value) (h : (eC L)[j]? = some u) : ∃ k q, L[k]? = some q ∧ ((j = k * 3 ∧ u = .int .i64 q.1) ∨ (j = k * 3 + 1 ∧ u = .string q.2.1) ∨ (j = k * 3 + 2 ∧ u = .int .i64 q.2.2)) := by
  have hj := (List.getElem?_eq_some_iff.1 h).1
  rw [eC_len] at hj
  have hk : j / 3 < L.length := by omega
  refine ⟨j / 3, L[j / 3], List.getElem?_eq_getElem hk, ?_⟩
  obtain ⟨e0, e1, e2⟩ := eC_at L (j / 3) _ (List.getElem?_eq_getElem hk)
  have h3 : j = j / 3 * 3 ∨ j = j / 3 * 3 + 1 ∨ j = j / 3 * 3 + 2 := by omega
  rcases h3 with h3 | h3 | h3
  · refine .inl ⟨h3, ?_⟩; rw [← h3] at e0; rw [h] at e0; exact Option.some.inj e0
  · refine .inr (.inl ⟨h3, ?_⟩); rw [← h3] at e1; rw [h] at e1; exact Option.some.inj e1
  · refine .inr (.inr ⟨h3, ?_⟩); rw [← h3] at e2; rw [h] at e2; exact Option.some.inj e2
theorem app_zeroE (w : World) (g cap m c : Nat) (aw : Option Addr) (hm : m ≤ cap) : (Builtin.append_ #[36, 36] 36 #[.slice (some ⟨g, 0, none⟩) m cap, .slice aw 0 c]).run Tryd.prog w = .ok (.slice (some ⟨g, 0, none⟩) m cap) w := by
  obtain ⟨i0, hi, hz0, hz1, hz2⟩ := info_parts infoE
  cases aw <;> simp [Builtin.append_, run_underlying Tryd.underlying36, sizeOf, typeInfo, hi, Builtin.lenOf, Builtin.firstCells, hm, storeCells, loadCells, loadCellsFrom]
/-- append of a told list to an empty literal -/
theorem app_ents (w : World) (P : Nat) (aw : Option Addr) (cw : Nat) (T : List ET) (hP : w.heap[P]? = some (.cells #[] 27 (0, 0))) (h : EntAt w aw T) (hn : T.length ≤ 1000) :
    ∃ g cap w', (Builtin.append_ #[36, 36] 36 #[.slice (some ⟨P, 0, none⟩) 0 0, .slice aw T.length cw]).run Tryd.prog w = .ok (.slice (some ⟨g, 0, none⟩) T.length cap) w' ∧ EntAt w' (some ⟨g, 0, none⟩) T ∧ (P = g ∨ w.heap.size ≤ g) ∧ Fr (fun k => k = P) w w' ∧ g < w'.heap.size := by
  obtain ⟨i0, hi, hz0, hz1, hz2⟩ := info_parts infoE
  have hrow : w.ownsRow 0 27 3 (.slice (some ⟨P, 0, none⟩) 0 0) 0 [] := ⟨rfl, .inr ⟨P, 0, #[], rfl, Nat.zero_le _, hP, Nat.le_refl _, by simp [maxLen], rfl, rfl⟩⟩
  by_cases hT : T = []
  · subst hT
    exact ⟨P, 0, w, app_zeroE w P 0 0 cw aw (Nat.le_refl _), .inl rfl, .inl rfl, Fr.refl _ _, heap_lt hP⟩
  · obtain ⟨b, rfl, hc⟩ : ∃ b, aw = some ⟨b, 0, none⟩ ∧ ∀ k q, T[k]? = some q → w.cell? ⟨b, k * 3, none⟩ = some (.int .i64 q.1) ∧ w.cell? ⟨b, k * 3 + 1, none⟩ = some (.string q.2.1) ∧ w.cell? ⟨b, k * 3 + 2, none⟩ = some (.int .i64 q.2.2) := by
      rcases h with h | h
      · exact absurd h hT
      · exact h
    have hcell : ∀ j u, (eC T)[j]? = some u → w.cell? ((⟨b, 0, none⟩ : Addr).add j) = some u := by
      intro j u hu
      obtain ⟨k, q, hq, hh⟩ := eC_inv T j u hu
      obtain ⟨c0, c1, c2⟩ := hc k q hq
      rw [Addr.add_lit, Nat.zero_add]
      rcases hh with ⟨rfl, rfl⟩ | ⟨rfl, rfl⟩ | ⟨rfl, rfl⟩
      · exact c0
      · exact c1
      · exact c2
    obtain ⟨g, cap, w', hr, r1, r2, r3⟩ := run_own 36 36 27 i0 _ 3 32 Tryd.underlying36 hi hz0 hz1 hz2 rfl (by decide) _ 0 _ hrow ⟨b, 0, none⟩ T.length cw (eC T) (List.length_pos_iff.2 hT) (eC_len T) hcell (eC_one T) (by simp [maxLen]; omega) (by omega)
    rw [Nat.zero_add] at hr r1
    rw [List.nil_append] at r1
    have hO : OwnE w' g cap T := OwnE.of rfl r1
    refine ⟨g, cap, w', hr, hO.ents, ?_, r2.mono (fun k hk => by cases hk; rfl), hO.lt⟩
    rcases r3 with e | e
    · exact .inl (by cases e; rfl)
    · exact .inr e
theorem step_cpyE {ops : Array Oper} {o : Oper} {a : Act} {w : World} {K : Act → World → Prop} {Q : Exit → Act → World → Prop} {E : Prop} (hgd : o.guard = none) (s x : Operand)
    (ho : o.op = .call { callee := .builtin .append, args := #[s, x], argTypes := #[36, 36] }) (hty : o.type = 36) (P : Nat) (hs : a.eval s = .slice (some ⟨P, 0, none⟩) 0 0) (hP : w.heap[P]? = some (.cells #[] 27 (0, 0)))
    (aw : Option Addr) (cw : Nat) (T : List ET) (hx : a.eval x = .slice aw T.length cw) (hW : EntAt w aw T) (hn : T.length ≤ 1000)
    (h : ∀ g cap w', EntAt w' (some ⟨g, 0, none⟩) T → (P = g ∨ w.heap.size ≤ g) → Fr (fun k => k = P) w w' → g < w'.heap.size → K (a.put o.dst (.slice (some ⟨g, 0, none⟩) T.length cap)) w') :
    if Region.wanted o (yielded ops a.tmps) = true then Oper.wp Tryd.prog o a w K Q else E := by
  have hw : Region.wanted o (yielded ops a.tmps) = true := by simp [Region.wanted, hgd]
  rw [if_pos hw]
  obtain ⟨g, cap, w', hr, h2, h3, h4, h5⟩ := app_ents w P aw cw T hP hW hn
  unfold Oper.wp
  simp only [execOp, ho, hty, resolve, invoke, builtin, Sem.run_bind, Sem.run_pure, Result.andThen_ok, List.map_toArray, List.map_cons, List.map_nil, hs, hx, hr]
  exact h g cap w' h2 h3 h4 h5
/-- append of a list to a row of lists, as a step -/
theorem step_lst {ops : Array Oper} {o : Oper} {a : Act} {w : World} {K : Act → World → Prop} {Q : Exit → Act → World → Prop} {E : Prop} (hgd : o.guard = none) (s x : Operand)
    (ho : o.op = .call { callee := .builtin .append, args := #[s, x], argTypes := #[56, 56] }) (v : Value) (vs : List Value) (hs : a.eval s = v) (P : Nat) (hx : a.eval x = .slice (some ⟨P, 0, none⟩) 1 1)
    (u : Value) (hu : u.oneCell' = true) (hP : w.heap[P]? = some (.cells #[u] 36 (0, 0))) (hR : w.ownsRow 0 36 1 v vs.length vs) (hn : vs.length ≤ 3000000000000)
    (h : ∀ b cap w', w'.ownsRow 0 36 1 (.slice (some ⟨b, 0, none⟩) (vs.length + 1) cap) (vs.length + 1) (vs ++ [u]) → Fr (fun k => v.ownBlock = some k) w w' → (v.ownBlock = some b ∨ w.heap.size ≤ b) → K (a.put o.dst (.slice (some ⟨b, 0, none⟩) (vs.length + 1) cap)) w') :
    if Region.wanted o (yielded ops a.tmps) = true then Oper.wp Tryd.prog o a w K Q else E := by
  obtain ⟨i0, hi, hz0, hz1, hz2⟩ := info_parts infoL
  refine step_own hgd s x 56 ho 36 i0 _ 1 24 Tryd.underlying56 hi hz0 hz1 hz2 rfl (by decide) v vs.length _ hs hR ⟨P, 0, none⟩ 1 1 [u] hx (by decide) rfl (fun j w hj => ?_) (fun w hw => ?_) (by unfold maxLen; omega) (by omega) h
  · match j, hj with
    | 0, hj => cases hj; rw [Addr.add_lit, cell_of_row _ _ _ _ _ _ hP]; rfl
  · rw [List.mem_singleton.1 hw]; exact hu
/-- append of one entry to a list of one's own: the list stays as it was -/
theorem app_entE (w : World) (ty : TypeId) (v : Value) (T : List ET) (P : Nat) (q : ET) (hP : w.heap[P]? = some (.cells #[.int .i64 q.1, .string q.2.1, .int .i64 q.2.2] 27 (0, 0))) (hR : w.ownsRow 0 27 3 v T.length (eC T)) (hn : T.length ≤ 1000) :
    ∃ b cap w', (Builtin.append_ #[36, 36] ty #[v, .slice (some ⟨P, 0, none⟩) 1 1]).run Tryd.prog w = .ok (.slice (some ⟨b, 0, none⟩) (T.length + 1) cap) w' ∧ OwnE w' b cap (T ++ [q]) ∧ Fr (fun k => v.ownBlock = some k) w w' ∧ (v.ownBlock = some b ∨ w.heap.size ≤ b) ∧ ∃ a c, v = .slice a T.length c ∧ EntAt w' a T := by
  obtain ⟨i0, hi, hz0, hz1, hz2⟩ := info_parts infoE
  have hcell : ∀ j u, (eC [q])[j]? = some u → w.cell? ((⟨P, 0, none⟩ : Addr).add j) = some u := by
    intro j u hj
    match j, hj with
    | 0, hj => cases hj; rw [Addr.add_lit, cell_of_row _ _ _ _ _ _ hP]; rfl
    | 1, hj => cases hj; rw [Addr.add_lit, cell_of_row _ _ _ _ _ _ hP]; rfl
    | 2, hj => cases hj; rw [Addr.add_lit, cell_of_row _ _ _ _ _ _ hP]; rfl
  obtain ⟨b, cap, w', hr, r1, r2, r3⟩ := run_own 36 ty 27 i0 _ 3 32 Tryd.underlying36 hi hz0 hz1 hz2 rfl (by decide) v T.length _ hR ⟨P, 0, none⟩ 1 1 (eC [q]) (by decide) rfl hcell (eC_one _) (by unfold maxLen; omega) (by omega)
  have hO : OwnE w' b cap (T ++ [q]) := OwnE.of (n := T.length + 1) (by simp) (by rw [eC_app]; exact r1)
  refine ⟨b, cap, w', hr, hO, r2, r3, ?_⟩
  rcases hR.2 with ⟨e, e0⟩ | ⟨g, cap2, cur, e, _, hg, hle, hcm, hcs, _⟩
  · have hL : T = [] := List.length_eq_zero_iff.1 e0
    subst hL
    exact ⟨none, 0, e, .inl rfl⟩
  · subst e
    refine ⟨_, cap2, rfl, ?_⟩
    have hT : OwnE w g cap2 T := OwnE.of rfl hR
    rcases r3 with e2 | e2
    · have e3 : g = b := by cases e2; rfl
      subst e3
      have := (hO.take T.length).ents
      rw [List.take_left' rfl] at this
      exact this
    · by_cases hroom : T.length + 1 ≤ cap2
      · exfalso
        have hr2 := run_append_room (P := Tryd.prog) w 36 ty 27 i0 Tryd.underlying36 hi g T.length cap2 cur hg ⟨P, 0, none⟩ 1 1 (eC [q]) (by rw [hz1]; rfl) hcell (eC_one _) hroom (by rw [hz1, hcs]; simp [eC]; omega)
        rw [hr] at hr2
        injection hr2 with h5 h6
        injection h5 with h5
        injection h5 with h5
        injection h5 with h5
        have := heap_lt hg
        omega
      · have hr3 := run_append_grow (P := Tryd.prog) w 36 ty 27 i0 _ Tryd.underlying36 hi hz0 ⟨g, 0, none⟩ T.length cap2 (eC T) (by rw [hz1, eC_len]) (hR.cells (g := g) rfl) ⟨P, 0, none⟩ 1 1 (eC [q]) (by rw [hz1]; rfl) hcell (by omega) (by omega) (growslice_fits (by omega) (by rw [hz2]; omega))
        rw [hr] at hr3
        injection hr3 with h5 h6
        subst h6
        exact hT.ents.on ((Below.refl w.heap.size w).drew.alloc (Nat.le_refl _) _)
theorem step_entE {ops : Array Oper} {o : Oper} {a : Act} {w : World} {K : Act → World → Prop} {Q : Exit → Act → World → Prop} {E : Prop} (hgd : o.guard = none) (s x : Operand)
    (ho : o.op = .call { callee := .builtin .append, args := #[s, x], argTypes := #[36, 36] }) (v : Value) (T : List ET) (hs : a.eval s = v) (P : Nat) (hx : a.eval x = .slice (some ⟨P, 0, none⟩) 1 1)
    (q : ET) (hP : w.heap[P]? = some (.cells #[.int .i64 q.1, .string q.2.1, .int .i64 q.2.2] 27 (0, 0))) (hR : w.ownsRow 0 27 3 v T.length (eC T)) (hn : T.length ≤ 1000)
    (h : ∀ b cap w', OwnE w' b cap (T ++ [q]) → Fr (fun k => v.ownBlock = some k) w w' → (v.ownBlock = some b ∨ w.heap.size ≤ b) → (∃ a c, v = .slice a T.length c ∧ EntAt w' a T) → K (a.put o.dst (.slice (some ⟨b, 0, none⟩) (T.length + 1) cap)) w') :
    if Region.wanted o (yielded ops a.tmps) = true then Oper.wp Tryd.prog o a w K Q else E := by
  have hw : Region.wanted o (yielded ops a.tmps) = true := by simp [Region.wanted, hgd]
  rw [if_pos hw]
  obtain ⟨b, cap, w', hr, h2, h3, h4, h5⟩ := app_entE w o.type v T P q hP hR hn
  unfold Oper.wp
  simp only [execOp, ho, resolve, invoke, builtin, Sem.run_bind, Sem.run_pure, Result.andThen_ok, List.map_toArray, List.map_cons, List.map_nil, hs, hx, hr]
  exact h b cap w' h2 h3 h4 h5
end Go.Proofs.YtaaeahpmnfifiaaDoor
