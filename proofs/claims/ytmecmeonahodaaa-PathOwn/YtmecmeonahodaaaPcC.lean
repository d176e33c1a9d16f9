import Derived.Test.YtmecmeonahodaaaPcB
namespace Go.Proofs.Ytmecmeonahodaaa
open Go.RowKit Go.Shelf Pa
theorem LI.congr {w : World} {lv : Value} {n : Nat} {V : Nat → Value} {T T' : Nat → List ByteArray} (h : LI w lv n V T) (e : ∀ i, i < n → T i = T' i) : LI w lv n V T' :=
  ⟨h.row, fun i hi => by rw [← e i hi]; exact h.ls i hi, h.ap, h.rw_⟩
theorem LI.own {w : World} {lv : Value} {n : Nat} {V : Nat → Value} {T : Nat → List ByteArray} (h : LI w lv n V T) {b : Nat} (hb : lv.ownBlock = some b) : b < w.heap.size := owns_block h.row hb
theorem app_zeroS (w : World) (g cap m c : Nat) (aw : Option Addr) (hm : m ≤ cap) : (Builtin.append_ #[24, 24] 24 #[.slice (some ⟨g, 0, none⟩) m cap, .slice aw 0 c]).run Try.prog w = .ok (.slice (some ⟨g, 0, none⟩) m cap) w := by
  obtain ⟨i0, hi, hz0, hz1, hz2⟩ := info_parts infoS
  cases aw <;> simp [Builtin.append_, run_underlying Try.underlying24, sizeOf, typeInfo, hi, Builtin.lenOf, Builtin.firstCells, hm, storeCells, loadCells, loadCellsFrom]
/-- append of a told list to an empty literal -/
theorem app_strs (w : World) (P : Nat) (aw : Option Addr) (n cw : Nat) (xs : List ByteArray) (hP : w.heap[P]? = some (.cells #[] 9 (0, 0))) (h : StrsAt w aw xs) (hl : xs.length = n) (hn : n ≤ 1000) :
    ∃ g cap w', (Builtin.append_ #[24, 24] 24 #[.slice (some ⟨P, 0, none⟩) 0 0, .slice aw n cw]).run Try.prog w = .ok (.slice (some ⟨g, 0, none⟩) n cap) w' ∧ Lp w' (.slice (some ⟨g, 0, none⟩) n cap) xs ∧ (P = g ∨ w.heap.size ≤ g) ∧ Fr (fun k => k = P) w w' := by
  obtain ⟨i0, hi, hz0, hz1, hz2⟩ := info_parts infoS
  subst hl
  have hrow : w.ownsRow 0 9 1 (.slice (some ⟨P, 0, none⟩) 0 0) 0 [] := ⟨rfl, .inr ⟨P, 0, #[], rfl, Nat.zero_le _, hP, Nat.le_refl _, by simp [maxLen], rfl, rfl⟩⟩
  by_cases hT : xs = []
  · subst hT
    exact ⟨P, 0, w, app_zeroS w P 0 0 cw aw (Nat.le_refl _), .inr ⟨P, 0, #[], rfl, hP, Nat.le_refl _, Nat.le_refl _, by simp [maxLen], rfl⟩, .inl rfl, Fr.refl _ _⟩
  · obtain ⟨b, o, rfl, hc⟩ : ∃ b o, aw = some ⟨b, o, none⟩ ∧ ∀ j x, xs[j]? = some x → w.cell? ⟨b, o + j, none⟩ = some (.string x) := by
      rcases h with h | h
      · exact absurd h hT
      · exact h
    have hcell : ∀ j u, (xs.map Value.string)[j]? = some u → w.cell? ((⟨b, o, none⟩ : Addr).add j) = some u := by
      intro j u hu
      rw [List.getElem?_map] at hu
      cases hx : xs[j]? with
      | none => rw [hx] at hu; cases hu
      | some x =>
        rw [hx] at hu
        cases hu
        rw [Addr.add_lit]
        exact hc j x hx
    obtain ⟨g, cap, w', hr, r1, r2, r3⟩ := run_own 24 24 9 i0 _ 1 16 Try.underlying24 hi hz0 hz1 hz2 rfl (by decide) _ 0 _ hrow ⟨b, o, none⟩ xs.length cw (xs.map Value.string) (List.length_pos_iff.2 hT) (by simp) hcell (by simp [Value.oneCell']) (by simp [maxLen]; omega) (by omega)
    rw [Nat.zero_add] at hr r1
    rw [List.nil_append] at r1
    have hO : Ow w' 0 (.slice (some ⟨g, 0, none⟩) xs.length cap) xs := r1
    refine ⟨g, cap, w', hr, Lp.ow hO, ?_, r2.mono (fun k hk => by cases hk; rfl)⟩
    rcases r3 with e | e
    · exact .inl (by cases e; rfl)
    · exact .inr e
theorem wp_cpyS {ops : Array Oper} {rest : List Oper} {o : Oper} {a : Act} {Q : Exit → Act → World → Prop} {w : World} (hgd : o.guard = none) (s x : Operand)
    (ho : o.op = .call { callee := .builtin .append, args := #[s, x], argTypes := #[24, 24] }) (hty : o.type = 24) (P : Nat) (hs : a.eval s = .slice (some ⟨P, 0, none⟩) 0 0) (hP : w.heap[P]? = some (.cells #[] 9 (0, 0)))
    (v : Value) (xs : List ByteArray) (hx : a.eval x = v) (hW : Lp w v xs) (hn : xs.length ≤ 1000)
    (h : ∀ g cap w', Lp w' (.slice (some ⟨g, 0, none⟩) xs.length cap) xs → (P = g ∨ w.heap.size ≤ g) → Fr (fun k => k = P) w w' → wpList Try.prog ops Q rest (a.put o.dst (.slice (some ⟨g, 0, none⟩) xs.length cap)) w') :
    wpList Try.prog ops Q (o :: rest) a w := by
  obtain ⟨aw, cw, rfl, hst, _⟩ := hW.strs
  obtain ⟨g, cap, w', hr, h2, h3, h4⟩ := app_strs w P aw xs.length cw xs hP hst rfl hn
  refine wpList_plain hgd fun K hK => ?_
  unfold Oper.wp execOp
  simp only [ho, hty, resolve, invoke, builtin, Sem.run_bind, Sem.run_pure, Result.andThen_ok, List.map_toArray, List.map_cons, List.map_nil, hs, hx, hr]
  exact hK _ _ (h g cap w' h2 h3 h4)
theorem wp_app2S {ops : Array Oper} {rest : List Oper} {o : Oper} {a : Act} {Q : Exit → Act → World → Prop} {w : World} (hgd : o.guard = none) (s x : Operand)
    (ho : o.op = .call { callee := .builtin .append, args := #[s, x], argTypes := #[24, 24] }) (v : Value) (xs : List ByteArray) (hs : a.eval s = v) (P : Nat) (hx : a.eval x = .slice (some ⟨P, 0, none⟩) 2 2) (y z : ByteArray) (hP : w.heap[P]? = some (.cells #[.string y, .string z] 9 (0, 0))) (hW : Lp w v xs) (hn : xs.length ≤ 1000)
    (h : ∀ b cap w', Lp w' (.slice (some ⟨b, 0, none⟩) (xs.length + 2) cap) (xs ++ [y, z]) → Fr (fun k => v.ownBlock = some k) w w' → (v.ownBlock = some b ∨ w.heap.size ≤ b) → Lp w' v xs → wpList Try.prog ops Q rest (a.put o.dst (.slice (some ⟨b, 0, none⟩) (xs.length + 2) cap)) w') :
    wpList Try.prog ops Q (o :: rest) a w := by
  obtain ⟨b, cap, w', hr, h2, h3, h4, h5⟩ := Lp.app2 w o.type v xs P y z hP hW hn
  refine wpList_plain hgd fun K hK => ?_
  unfold Oper.wp execOp
  simp only [ho, resolve, invoke, builtin, Sem.run_bind, Sem.run_pure, Result.andThen_ok, List.map_toArray, List.map_cons, List.map_nil, hs, hx, hr]
  exact hK _ _ (h b cap w' h2 h3 h4 h5)
/-- the j-th text, and the i-th list -/
def Xs (s t : ByteArray) (j : Nat) : ByteArray := if j = 1 then t else s
def TS (s t : ByteArray) (i : Nat) : List ByteArray := PT (i % 3) (Xs s t (i / 3))
theorem TS_len (s t : ByteArray) (i : Nat) : (TS s t i).length ≤ 32 := PT_len _ _
/-- one text's three lists come into the row -/
theorem LI.three {w wx w' : World} {lv : Value} {j b cap : Nat} {V : Nat → Value} {s t : ByteArray} {v1 v2 v3 : Value} (h : LI w lv (3 * j) V (TS s t)) (hb : Below w.heap.size w wx) (k1 : Lp wx v1 (PT 0 (Xs s t j))) (k2 : Lp wx v2 (PT 1 (Xs s t j))) (k3 : Lp wx v3 (PT 2 (Xs s t j)))
    (p1 : ∀ b, v1.ownBlock = some b → w.heap.size ≤ b) (p2 : ∀ b, v2.ownBlock = some b → w.heap.size ≤ b ∧ v1.ownBlock ≠ some b) (p3 : ∀ b, v3.ownBlock = some b → w.heap.size ≤ b ∧ v1.ownBlock ≠ some b ∧ v2.ownBlock ≠ some b)
    (h1 : w'.ownsRow 0 24 1 (.slice (some ⟨b, 0, none⟩) (3 * j + 3) cap) (3 * j + 3) ((List.range (3 * j)).map V ++ [v1, v2, v3])) (h2 : Fr (fun k => lv.ownBlock = some k) wx w') (h3 : lv.ownBlock = some b ∨ wx.heap.size ≤ b) :
    ∃ V', LI w' (.slice (some ⟨b, 0, none⟩) (3 * j + 3) cap) (3 * (j + 1)) V' (TS s t) ∧ ∀ i, i < 3 * (j + 1) → (∃ k, k < 3 * j ∧ V' i = V k) ∨ (∀ b, (V' i).ownBlock = some b → w.heap.size ≤ b) := by
  have hU : ∀ i, i < 3 → ∀ b, ([v1, v2, v3].getD i (.slice none 0 0)).ownBlock = some b → w.heap.size ≤ b := by
    intro i hi b hb
    match i, hi with
    | 0, _ => exact p1 b hb
    | 1, _ => exact (p2 b hb).1
    | 2, _ => exact (p3 b hb).1
  have := (h.on hb).add (m := 3) (U := fun i => [v1, v2, v3].getD i (.slice none 0 0)) (TT := fun i => PT i (Xs s t j)) h1 h2 h3
    (fun i hi => by
      match i, hi with
      | 0, _ => exact k1
      | 1, _ => exact k2
      | 2, _ => exact k3)
    (fun i i' hi hi' hne c hc => by
      match i, i', hi, hi', hne, hc with
      | 0, 0, _, _, hne, _ => exact absurd rfl hne
      | 1, 1, _, _, hne, _ => exact absurd rfl hne
      | 2, 2, _, _, hne, _ => exact absurd rfl hne
      | 0, 1, _, _, _, hc => exact fun e => (p2 c e).2 hc
      | 0, 2, _, _, _, hc => exact fun e => (p3 c e).2.1 hc
      | 1, 0, _, _, _, hc => exact (p2 c hc).2
      | 1, 2, _, _, _, hc => exact fun e => (p3 c e).2.2 hc
      | 2, 0, _, _, _, hc => exact (p3 c hc).2.1
      | 2, 1, _, _, _, hc => exact (p3 c hc).2.2)
    (fun i i' hi hi' c hc e => by
      have h7 := (h.ls i hi).lt hc
      have h8 := hU i' hi' c e
      omega)
    (fun i hi c hc e => by
      have h7 := h.own e
      have h8 := hU i hi c hc
      omega)
  refine ⟨_, this.congr (fun i hi => ?_), fun i hi => ?_⟩
  · by_cases e : i < 3 * j
    · rw [if_pos e]
    · rw [if_neg e]
      unfold TS
      have e1 : i % 3 = i - 3 * j := by omega
      have e2 : i / 3 = j := by omega
      rw [e1, e2]
  · by_cases e : i < 3 * j
    · exact .inl ⟨i, e, by rw [if_pos e]⟩
    · right
      rw [if_neg e]
      exact hU _ (by omega)
end Go.Proofs.Ytmecmeonahodaaa
