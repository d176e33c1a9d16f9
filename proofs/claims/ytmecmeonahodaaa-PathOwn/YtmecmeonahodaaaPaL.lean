import Derived.Test.YtmecmeonahodaaaPaK
namespace Go.Proofs.Ytmecmeonahodaaa
open Go.RowKit Go.Shelf Pa
attribute [local go_sem] Oper.semAt_some

theorem clone_any (w : World) (s : ByteArray) (hs : s.size ≤ 281474976710656) : Calls Try.prog 28 #[.string s] w fun e w' => e = .returned (.string s) ∧ Below w.heap.size w w' := by
  go_enter Try.func28, Try.ntmps28
  go_wp2_with (go_at_call 36; refine (stringslite_Clone _ _ hs).mono ?_; rintro e w' ⟨rfl, hb⟩)
  go_ret
  exact ⟨rfl, hb⟩
theorem infoS : (Try.prog.info? 9).map (fun i => (i.zero, i.size, i.bytes)) = some (some (.string ⟨#[]⟩), 1, 16) := by kernel_rfl
/-- a list of texts, in a row of one's own -/
structure Sl (w : World) (base : Nat) (v : Value) (xs : List ByteArray) : Prop where
  row : w.ownsRow base 9 1 v xs.length (xs.map Value.string)
  nil : v = .slice none 0 0 ↔ xs = []
theorem Sl.nil0 (w : World) (base : Nat) : Sl w base (.slice none 0 0) [] := ⟨World.ownsRow_nil _ _ _ _, by simp⟩
theorem Sl.base {w : World} {b b' : Nat} {v : Value} {xs : List ByteArray} (h : Sl w b v xs) (hb : b' ≤ b) : Sl w b' v xs := by
  refine ⟨⟨h.row.1, ?_⟩, h.nil⟩
  rcases h.row.2 with e | ⟨g, cap, cur, e1, e2, r⟩
  · exact .inl e
  · exact .inr ⟨g, cap, cur, e1, Nat.le_trans hb e2, r⟩
theorem Sl.kept {w w' : World} {b : Nat} {v : Value} {xs : List ByteArray} {row : Option Nat} (h : Sl w b v xs) (hg : w.grownBy w' row) (hne : v.ownBlock = .none ∨ v.ownBlock ≠ row) : Sl w' b v xs := ⟨h.row.kept hg hne, h.nil⟩
theorem Sl.putObj {w : World} {b : Nat} {v : Value} {xs : List ByteArray} (h : Sl w b v xs) {l : Nat} {o : Obj} (o' : Obj) (hl : w.heap[l]? = some o) (ho : o.isCells = false) : Sl (w.putObj l o') b v xs := ⟨ownsRow_putObj h.row o' hl ho, h.nil⟩
/-- turned non-cells leave it -/
theorem Sl.others {w w' : World} {b : Nat} {v : Value} {xs : List ByteArray} {row : Option Nat} (h : Sl w b v xs) (hg : w.grownBy w' row) (hr : ∀ r, row = some r → ∃ o : Obj, w.heap[r]? = some o ∧ o.isCells = false) : Sl w' b v xs := by
  refine h.kept hg ?_
  rcases h.row.2 with ⟨e, _⟩ | ⟨g, cap, cur, e1, _, hc, _⟩
  · exact .inl (by rw [e]; rfl)
  · refine .inr fun e => ?_
    rw [e1] at e
    obtain ⟨o, ho, hn⟩ := hr g e.symm
    rw [hc] at ho; cases ho; cases hn
theorem Sl.on {w w' : World} {b : Nat} {v : Value} {xs : List ByteArray} (h : Sl w b v xs) (hb : Below w.heap.size w w') : Sl w' b v xs := by
  refine h.kept (grown_of hb .none) ?_
  cases e : v.ownBlock
  · exact .inl rfl
  · exact .inr (by simp)
theorem oper_append {F : Fence} {n : Nat} {P : Program} {o : Oper} {a : Act} {w : World} {K : Act → World → Prop} {Q : Exit → Act → World → Prop} (s x : Operand) (t : TypeId)
    (hop : o.op = Op.call { callee := Callee.builtin Builtin.append, args := #[s, x], argTypes := #[t, t] }) {v' : Value} {w' : World} (hrun : (Builtin.append_ #[t, t] o.type #[a.eval s, a.eval x]).run P w = .ok v' w') (h : K (a.put o.dst v') w') : Oper.wpIn F n P o a w K Q := by
  unfold Oper.wpIn
  refine ⟨by simp [Oper.about, hop, resolve, Target.leads, Sem.run_pure], ?_⟩
  rw [Oper.semAt_plain F _ _ (by rw [hop]; intro c hc'; cases hc')]
  simp [execOp, hop, resolve, invoke, builtin, hrun, Result.andThen]
  exact h
set_option maxRecDepth 100000 in
set_option maxHeartbeats 4000000 in
theorem list_any (w : World) (s : ByteArray) (hs : s.size ≤ 1024) (hk : Ok32 (cps (tx s))) : Calls Try.prog 17 #[.string s] w fun e w' => (∃ v xs, e = .returned v ∧ Sl w' w.heap.size v xs ∧ xs.map tx = cps (tx s)) ∧ Below w.heap.size w w' := by
  obtain ⟨we, hwe⟩ : ∃ we, w.alloc (.cells #[.slice none 0 0] 24) = we := ⟨_, rfl⟩
  have hez : we.heap.size = w.heap.size + 1 := by rw [← hwe]; simp
  have hbe : Below w.heap.size w we := by rw [← hwe]; exact (Below.refl _ w).alloc (Nat.le_refl _) _
  have hce : we.cell? ⟨w.heap.size, 0, none⟩ = some (.slice none 0 0) := by rw [← hwe]; exact cell_new w _ _
  have hfe : we.frozen? ⟨w.heap.size, 0, none⟩ = false := by rw [← hwe]; exact frozen_new w _ _
  have HW : Hid (w.alloc (.cells #[.slice none 0 0] 24) = we) := hwe
  have C : CallsIn Fence.wide 4 Try.prog 27 #[.string s] (w.alloc (.cells #[.slice none 0 0] 24)) _ := callsIn_wide.2 (components_any _ s)
  clear hwe
  have hf : Fence.wide.fn 27 := trivial
  have hf2 : Fence.wide.fn 28 := trivial
  refine callsIn_wide (n := 5).1 ?_
  refine callsIn_of_wp_marks Try.func17 rfl trivial ?_ rfl
  simp only [Try.ntmps17, List.size_toArray, List.length_cons, List.length_nil, Nat.reduceAdd, Nat.reduceSub, Array.replicate_succ, Array.replicate_zero, List.push_toArray, List.append_toArray, List.nil_append, List.cons_append]
  gi_wp2_with (gi_at_call 27; refine C.mono ?_; clear C; rintro e w' ⟨rfl, rfl⟩)
  rw [HW.out]
  obtain ⟨w1, hw1⟩ : ∃ w1, we.alloc (.cells #[.string s] 9) = w1 := ⟨_, rfl⟩
  rw [hw1]
  have h1z : w1.heap.size = w.heap.size + 2 := by rw [← hw1]; simp [hez]
  have hb1 : Below we.heap.size we w1 := by rw [← hw1]; exact (Below.refl _ we).alloc (Nat.le_refl _) _
  have hcs : w1.cell? ⟨w.heap.size + 1, 0, none⟩ = some (.string s) := by rw [← hw1, ← hez]; exact cell_new we _ _
  have hce1 : w1.cell? ⟨w.heap.size, 0, none⟩ = some (.slice none 0 0) := (hb1.cell (p := ⟨w.heap.size, 0, none⟩) (by show w.heap.size < _; omega)).trans hce
  have hfe1 : w1.frozen? ⟨w.heap.size, 0, none⟩ = false := (hb1.frozen (p := ⟨w.heap.size, 0, none⟩) (by show w.heap.size < _; omega)).trans hfe
  have hb2 : Below w.heap.size w w1 := hbe.trans (hb1.mono hbe.size)
  obtain ⟨i0, hi, hz0, hz1, hz2⟩ := info_parts infoS
  refine wpIn_rangeR (gf := 35) (lb := #[.pointer (some ⟨w.heap.size + 1, 0, none⟩)]) rfl (enters_of Try.func35 (by kernel_rfl) rfl)
    (comps_seq w1 s (by omega) (w.heap.size + 1) (by omega) hcs) (Below.refl _ _)
    (fun pre W' => (∃ v, W'.cell? ⟨w.heap.size, 0, none⟩ = some v ∧ W'.frozen? ⟨w.heap.size, 0, none⟩ = false ∧ Sl W' (w.heap.size + 8) v (pre.map (·.1))) ∧ Below w.heap.size w W')
    (fun _ _ => False) ?_ (fun _ _ _ _ h _ _ => h) ⟨⟨_, hce1, hfe1, Sl.nil0 _ _⟩, hb2⟩
    (fun x => { tmps := #[.string s, undef, .slice none 0 0, .pointer (some ⟨w.heap.size, 0, none⟩), .string x.1, .string s, .func (.func 35) #[] #[.pointer (some ⟨w.heap.size + 1, 0, none⟩)], .string x.1, undef, undef, undef, undef, undef, undef], defers := [] }) ?assign ?body ?done ?stop
  · rintro pre A C row ⟨⟨v, e1, e2, e3⟩, e5⟩ hg hr
    have n0 : some w.heap.size ≠ row := fun e => by have := (hr _ e.symm).1; omega
    exact ⟨⟨v, hg.cell e1 n0, (grown_frozen hg e1 n0).trans e2, e3.others hg (fun r e => (hr r e).2)⟩, e5.grown hg e5.size (fun k e => by have := (hr _ e).1; omega)⟩
  case assign =>
    intro l2 x W2 K hK
    gi_wp2
    exact hK
  case body =>
    rintro l2 pre x W2 ⟨⟨v, e1, e2, e3⟩, e5⟩ hsp hsz
    have e4 : pre.length ≤ 32 := by
      have h1 := hsp.length_le
      have h2 := hk.2
      have h3 : (txs (pre ++ [x])).length = pre.length + 1 := by simp [txs]
      omega
    have hx : x.1.size ≤ 281474976710656 := by
      have := hk.1 _ x.2
      simp [long] at this
      rw [size_tx]; omega
    have hcl : ∀ W3, Below W2.drew.heap.size W2.drew W3 → W3.cell? ⟨w.heap.size, 0, none⟩ = some v ∧ (∀ o, (W3.alloc o).cell? ⟨w.heap.size, 0, none⟩ = some v) ∧ W3.frozen? ⟨w.heap.size, 0, none⟩ = false ∧ W2.heap.size ≤ W3.heap.size ∧ Sl W3 (w.heap.size + 8) v (pre.map (·.1)) := by
      intro W3 hB
      have hlt : w.heap.size < W2.heap.size := by omega
      have c3 : W3.cell? ⟨w.heap.size, 0, none⟩ = some v := (hB.cell (p := ⟨w.heap.size, 0, none⟩) hlt).trans e1
      refine ⟨c3, fun o => ?_, (hB.frozen (p := ⟨w.heap.size, 0, none⟩) hlt).trans e2, hB.size, e3.on (w := W2) (w' := W3) ⟨hB.os, hB.tape, hB.output, hB.size, hB.block⟩⟩
      have := hB.size
      have h2 : W2.drew.heap.size = W2.heap.size := rfl
      exact (((Below.refl W3.heap.size W3).alloc (Nat.le_refl _) o).cell (p := ⟨w.heap.size, 0, none⟩) (by show w.heap.size < _; omega)).trans c3
    have hap : ∀ W3, Below W2.drew.heap.size W2.drew W3 → ∃ v' w', (Builtin.append_ #[24, 24] 24 #[v, .slice (some ⟨W3.heap.size, 0, none⟩) 1 1]).run Try.prog (W3.alloc (.cells #[.string x.1] 9)) = .ok v' w' ∧ w'.ownsRow (w.heap.size + 8) 9 1 v' (pre.length + 1) (pre.map (fun y => Value.string y.1) ++ [.string x.1]) ∧ (W3.alloc (.cells #[.string x.1] 9)).grownBy w' v.ownBlock ∧ (v' = .slice none 0 0 ↔ v = .slice none 0 0 ∧ 1 = 0) := by
      intro W3 hB
      obtain ⟨_, _, _, hz3, ho3⟩ := hcl W3 hB
      have hrow := ho3.row.alloc (.cells #[.string x.1] 9)
      rw [List.length_map, List.map_map] at hrow
      exact run_append_own (P := Try.prog) _ (w.heap.size + 8) 24 24 9 i0 (.string ⟨#[]⟩) 1 16 Try.underlying24 hi hz0 hz1 hz2 rfl (by decide) v pre.length _ hrow ⟨W3.heap.size, 0, none⟩ 1 1 [.string x.1] rfl
        (fun j u hu => by
          cases j with
          | zero => simp at hu; subst hu; exact cell_new W3 _ _
          | succ j => simp at hu) (by simp [Value.oneCell']) (by simp [maxLen]; omega) (by omega) (by simp; omega)
    have hst : ∀ W3 w', Below W2.drew.heap.size W2.drew W3 → (W3.alloc (.cells #[.string x.1] 9)).grownBy w' v.ownBlock → w'.cell? ⟨w.heap.size, 0, none⟩ = some v ∧ w'.frozen? ⟨w.heap.size, 0, none⟩ = false := by
      intro W3 w' hB hg
      obtain ⟨c3, ca, f3, hz3, ho3⟩ := hcl W3 hB
      have hne : some w.heap.size ≠ v.ownBlock := fun e => by have := (ho3.row.lt _ e.symm).1; omega
      refine ⟨hg.cell (ca _) hne, (grown_frozen hg (ca _) hne).trans ?_⟩
      exact (((Below.refl W3.heap.size W3).alloc (Nat.le_refl _) _).frozen (p := ⟨w.heap.size, 0, none⟩) (by show w.heap.size < _; omega)).trans f3
    have hfin : ∀ W3 v' w', Below W2.drew.heap.size W2.drew W3 → w'.ownsRow (w.heap.size + 8) 9 1 v' (pre.length + 1) (pre.map (fun y => Value.string y.1) ++ [.string x.1]) → (W3.alloc (.cells #[.string x.1] 9)).grownBy w' v.ownBlock → Rng w1.heap.size (2 + 4) W2 (w'.setCell ⟨w.heap.size, 0, none⟩ v') ∧ (∃ v, (w'.setCell ⟨w.heap.size, 0, none⟩ v').cell? ⟨w.heap.size, 0, none⟩ = some v ∧ (w'.setCell ⟨w.heap.size, 0, none⟩ v').frozen? ⟨w.heap.size, 0, none⟩ = false ∧ Sl (w'.setCell ⟨w.heap.size, 0, none⟩ v') (w.heap.size + 8) v ((pre ++ [x]).map (·.1))) ∧ Below w.heap.size w (w'.setCell ⟨w.heap.size, 0, none⟩ v') := by
      intro W3 v' w' hB r1 hg
      obtain ⟨c3, ca, f3, hz3, ho3⟩ := hcl W3 hB
      obtain ⟨hcw, hfw⟩ := hst W3 w' hB hg
      obtain ⟨g', cap', rfl⟩ := ownsRow_succ r1
      have hB' : Below W2.heap.size W2 W3 := ⟨hB.os, hB.tape, hB.output, hB.size, hB.block⟩
      have hge : ∀ r, v.ownBlock = some r → w.heap.size + 8 ≤ r := fun r e => (ho3.row.lt r e).1
      have hsz3 : (W3.alloc (.cells #[.string x.1] 9)).heap.size = W3.heap.size + 1 := by simp
      have g1 : Rng w1.heap.size (2 + 4) W2 w' := ((Rng.of_below hB' (by omega)).trans (Rng.alloc W3 _ (by omega))).trans (Rng.grown hg (by omega) (fun r e => .inr (by have := hge r e; omega)))
      have g2 : Below w.heap.size w w' := ((e5.trans (hB'.mono (by omega))).alloc (by omega) _).grown hg (by omega) (fun r e => by have := hge r e; omega)
      refine ⟨g1.trans (Rng.setCell _ _ _ (.inl (by show w.heap.size < _; omega))), ⟨_, World.cell?_setCell_same' _ _ _ (by rw [hcw]; rfl), by rw [World.frozen?_setCell]; exact hfw, ?_, ?_⟩, g2.setCell (p := ⟨w.heap.size, 0, none⟩) (Nat.le_refl _) _⟩
      · have h2 := ownsRow_setCell_below r1 (a := ⟨w.heap.size, 0, none⟩) (by show w.heap.size < _; omega) (.slice (some ⟨g', 0, none⟩) (pre.length + 1) cap')
        simpa using h2
      · simp
    gi_wp2
    refine wpIn_region_any (by as_aux_lemma => kernel_rfl) ?_
    refine wpAnyIn_ready (rs := [0, 1]) (by as_aux_lemma => kernel_rfl) (by simp) ?_
    refine AllReadyIn.cons rfl (fun K' hK => ?_) ?_
    · rw [if_pos (by as_aux_lemma => kernel_rfl)]
      go_simp
      refine hK _ _ ?_
      clear hK K'
      refine wpAnyIn_ready (rs := [1]) (by as_aux_lemma => kernel_rfl) (by simp) ?_
      refine AllReadyIn.cons rfl (fun K' hK => ?_) ?_
      · rw [if_pos (by as_aux_lemma => kernel_rfl)]
        go_simp
        refine hK _ _ ?_
        clear hK K'
        refine wpAnyIn_ready (rs := [2]) (by as_aux_lemma => kernel_rfl) (by simp) ?_
        refine AllReadyIn.cons rfl (fun K' hK => ?_) ?_
        · rw [if_pos (by as_aux_lemma => kernel_rfl)]
          go_simp; refine (CallsIn.inRound l2 (callsIn_wide.2 (clone_any _ x.1 hx))).mono ?_; rintro e W3 ⟨rfl, hB3⟩; obtain ⟨hc3, hca3, hf3, hz3, ho3⟩ := hcl W3 hB3
          refine hK _ _ ?_
          clear hK K'
          refine wpAnyIn_ready (rs := [3]) (by as_aux_lemma => kernel_rfl) (by simp) ?_
          refine AllReadyIn.cons rfl (fun K' hK => ?_) ?_
          · rw [if_pos (by as_aux_lemma => kernel_rfl)]
            go_simp
            refine hK _ _ ?_
            clear hK K'
            refine wpAnyIn_ready (rs := [4]) (by as_aux_lemma => kernel_rfl) (by simp) ?_
            refine AllReadyIn.cons rfl (fun K' hK => ?_) ?_
            · rw [if_pos (by as_aux_lemma => kernel_rfl)]
              obtain ⟨v', w', hrun, r1, r2, r3⟩ := hap W3 hB3; obtain ⟨hcw, hfw⟩ := hst W3 w' hB3 r2; obtain ⟨g', cap', rfl⟩ := ownsRow_succ r1; refine oper_append (.tmp 8) (.tmp 11) 24 rfl hrun ?_; clear hrun; go_simp
              refine hK _ _ ?_
              clear hK K'
              refine wpAnyIn_ready (rs := [5]) (by as_aux_lemma => kernel_rfl) (by simp) ?_
              refine AllReadyIn.cons rfl (fun K' hK => ?_) ?_
              · rw [if_pos (by as_aux_lemma => kernel_rfl)]
                go_simp
                refine hK _ _ ?_
                clear hK K'
                refine wpAnyIn_done (by as_aux_lemma => kernel_rfl) ?_ _
                exact hfin W3 _ w' hB3 r1 r2
              exact AllReadyIn.nil
            exact AllReadyIn.nil
          exact AllReadyIn.nil
        exact AllReadyIn.nil
      exact AllReadyIn.nil
    refine AllReadyIn.cons rfl (fun K' hK => ?_) ?_
    · rw [if_pos (by as_aux_lemma => kernel_rfl)]
      go_simp
      refine hK _ _ ?_
      clear hK K'
      refine wpAnyIn_ready (rs := [0, 2]) (by as_aux_lemma => kernel_rfl) (by simp) ?_
      refine AllReadyIn.cons rfl (fun K' hK => ?_) ?_
      · rw [if_pos (by as_aux_lemma => kernel_rfl)]
        go_simp
        refine hK _ _ ?_
        clear hK K'
        refine wpAnyIn_ready (rs := [2]) (by as_aux_lemma => kernel_rfl) (by simp) ?_
        refine AllReadyIn.cons rfl (fun K' hK => ?_) ?_
        · rw [if_pos (by as_aux_lemma => kernel_rfl)]
          go_simp; refine (CallsIn.inRound l2 (callsIn_wide.2 (clone_any _ x.1 hx))).mono ?_; rintro e W3 ⟨rfl, hB3⟩; obtain ⟨hc3, hca3, hf3, hz3, ho3⟩ := hcl W3 hB3
          refine hK _ _ ?_
          clear hK K'
          refine wpAnyIn_ready (rs := [3]) (by as_aux_lemma => kernel_rfl) (by simp) ?_
          refine AllReadyIn.cons rfl (fun K' hK => ?_) ?_
          · rw [if_pos (by as_aux_lemma => kernel_rfl)]
            go_simp
            refine hK _ _ ?_
            clear hK K'
            refine wpAnyIn_ready (rs := [4]) (by as_aux_lemma => kernel_rfl) (by simp) ?_
            refine AllReadyIn.cons rfl (fun K' hK => ?_) ?_
            · rw [if_pos (by as_aux_lemma => kernel_rfl)]
              obtain ⟨v', w', hrun, r1, r2, r3⟩ := hap W3 hB3; obtain ⟨hcw, hfw⟩ := hst W3 w' hB3 r2; obtain ⟨g', cap', rfl⟩ := ownsRow_succ r1; refine oper_append (.tmp 8) (.tmp 11) 24 rfl hrun ?_; clear hrun; go_simp
              refine hK _ _ ?_
              clear hK K'
              refine wpAnyIn_ready (rs := [5]) (by as_aux_lemma => kernel_rfl) (by simp) ?_
              refine AllReadyIn.cons rfl (fun K' hK => ?_) ?_
              · rw [if_pos (by as_aux_lemma => kernel_rfl)]
                go_simp
                refine hK _ _ ?_
                clear hK K'
                refine wpAnyIn_done (by as_aux_lemma => kernel_rfl) ?_ _
                exact hfin W3 _ w' hB3 r1 r2
              exact AllReadyIn.nil
            exact AllReadyIn.nil
          exact AllReadyIn.nil
        exact AllReadyIn.nil
      refine AllReadyIn.cons rfl (fun K' hK => ?_) ?_
      · rw [if_pos (by as_aux_lemma => kernel_rfl)]
        go_simp; refine (CallsIn.inRound l2 (callsIn_wide.2 (clone_any _ x.1 hx))).mono ?_; rintro e W3 ⟨rfl, hB3⟩; obtain ⟨hc3, hca3, hf3, hz3, ho3⟩ := hcl W3 hB3
        refine hK _ _ ?_
        clear hK K'
        refine wpAnyIn_ready (rs := [0, 3]) (by as_aux_lemma => kernel_rfl) (by simp) ?_
        refine AllReadyIn.cons rfl (fun K' hK => ?_) ?_
        · rw [if_pos (by as_aux_lemma => kernel_rfl)]
          go_simp
          refine hK _ _ ?_
          clear hK K'
          refine wpAnyIn_ready (rs := [3]) (by as_aux_lemma => kernel_rfl) (by simp) ?_
          refine AllReadyIn.cons rfl (fun K' hK => ?_) ?_
          · rw [if_pos (by as_aux_lemma => kernel_rfl)]
            go_simp
            refine hK _ _ ?_
            clear hK K'
            refine wpAnyIn_ready (rs := [4]) (by as_aux_lemma => kernel_rfl) (by simp) ?_
            refine AllReadyIn.cons rfl (fun K' hK => ?_) ?_
            · rw [if_pos (by as_aux_lemma => kernel_rfl)]
              obtain ⟨v', w', hrun, r1, r2, r3⟩ := hap W3 hB3; obtain ⟨hcw, hfw⟩ := hst W3 w' hB3 r2; obtain ⟨g', cap', rfl⟩ := ownsRow_succ r1; refine oper_append (.tmp 8) (.tmp 11) 24 rfl hrun ?_; clear hrun; go_simp
              refine hK _ _ ?_
              clear hK K'
              refine wpAnyIn_ready (rs := [5]) (by as_aux_lemma => kernel_rfl) (by simp) ?_
              refine AllReadyIn.cons rfl (fun K' hK => ?_) ?_
              · rw [if_pos (by as_aux_lemma => kernel_rfl)]
                go_simp
                refine hK _ _ ?_
                clear hK K'
                refine wpAnyIn_done (by as_aux_lemma => kernel_rfl) ?_ _
                exact hfin W3 _ w' hB3 r1 r2
              exact AllReadyIn.nil
            exact AllReadyIn.nil
          exact AllReadyIn.nil
        refine AllReadyIn.cons rfl (fun K' hK => ?_) ?_
        · rw [if_pos (by as_aux_lemma => kernel_rfl)]
          go_simp
          refine hK _ _ ?_
          clear hK K'
          refine wpAnyIn_ready (rs := [0]) (by as_aux_lemma => kernel_rfl) (by simp) ?_
          refine AllReadyIn.cons rfl (fun K' hK => ?_) ?_
          · rw [if_pos (by as_aux_lemma => kernel_rfl)]
            go_simp
            refine hK _ _ ?_
            clear hK K'
            refine wpAnyIn_ready (rs := [4]) (by as_aux_lemma => kernel_rfl) (by simp) ?_
            refine AllReadyIn.cons rfl (fun K' hK => ?_) ?_
            · rw [if_pos (by as_aux_lemma => kernel_rfl)]
              obtain ⟨v', w', hrun, r1, r2, r3⟩ := hap W3 hB3; obtain ⟨hcw, hfw⟩ := hst W3 w' hB3 r2; obtain ⟨g', cap', rfl⟩ := ownsRow_succ r1; refine oper_append (.tmp 8) (.tmp 11) 24 rfl hrun ?_; clear hrun; go_simp
              refine hK _ _ ?_
              clear hK K'
              refine wpAnyIn_ready (rs := [5]) (by as_aux_lemma => kernel_rfl) (by simp) ?_
              refine AllReadyIn.cons rfl (fun K' hK => ?_) ?_
              · rw [if_pos (by as_aux_lemma => kernel_rfl)]
                go_simp
                refine hK _ _ ?_
                clear hK K'
                refine wpAnyIn_done (by as_aux_lemma => kernel_rfl) ?_ _
                exact hfin W3 _ w' hB3 r1 r2
              exact AllReadyIn.nil
            exact AllReadyIn.nil
          exact AllReadyIn.nil
        exact AllReadyIn.nil
      exact AllReadyIn.nil
    exact AllReadyIn.nil
  case done =>
    rintro xs W2 hxs ⟨⟨v, e1, e2, e3⟩, e5⟩ hd
    gi_wp2
    refine wp_ret1 rfl hd ?_
    exact ⟨⟨v, xs.map (·.1), rfl, (e3.putObj _ hd rfl).base (by omega), by rw [List.map_map]; exact hxs⟩, e5.trans (belowK_b (w := w) (Nat.le_refl _) W2 w1.heap.size _ _ (by omega) hd rfl rfl)⟩
  case stop =>
    rintro xs W2 hxs h hd
    exact h.elim
end Go.Proofs.Ytmecmeonahodaaa
