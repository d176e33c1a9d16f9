import Derived.Test.YtdkolofmnbbocaaDoorGeN
import Derived.Test.YtdkolofmnbbocaaDoorKMade
namespace Go.Proofs.YtdkolofmnbbocaaDoor
open Go.RowKit Rec

theorem wf_pair (b : Int) (h : 0 ≤ b ∧ b < 256) : ∀ i, 0 ≤ nth [b, b] i ∧ nth [b, b] i < 256 := fun i => by
  match i with
  | 0 => exact h
  | 1 => exact h
  | i + 2 => rw [nth_out _ _ (by simp)]; omega
theorem ints7 (w : World) (l : List Int) (hl : l.length ≤ 100) : OwnI (w.alloc (.cells (l.map (Value.int .i64)).toArray 3)) w.heap.size l.length l :=
  ⟨⟨_, heap_alloc_new _ _, by simp, List.take_of_length_le (by simp)⟩, by omega, Nat.le_refl _, by unfold maxLen; omega⟩
theorem Ints.news7 {w : World} {p : Addr} {l : List Int} (hb : Ints w (Option.some p) l) : ∀ j u, (l.map (Value.int .i64))[j]? = Option.some u → w.cell? (p.add j) = Option.some u := fun j u hj => by
  have hlt : j < l.length := by
    by_cases hlt : j < l.length
    · exact hlt
    · rw [List.getElem?_eq_none (by rw [List.length_map]; omega)] at hj; cases hj
  have e : (l.map (Value.int .i64))[j]? = Option.some (.int .i64 (nth l j)) := by simp [nth, List.getD, hlt]
  rw [e] at hj
  cases hj
  rcases hb.at_ with h | ⟨b, off, h, hc⟩
  · subst h; simp at hlt
  · cases h
    rw [Addr.add_lit]
    exact hc j hlt
theorem infoLi : (Tryd.prog.info? 22).map (fun i => (i.zero, i.size, i.bytes)) = some (some (.slice none 0 0), 1, 24) := by kernel_rfl
theorem own_apartI {w : World} {B e size n g cap : Nat} {v : Value} {xs : List Value} {l : List Int} (h : w.ownsRow B e size v n xs) (h' : OwnI w g cap l) (hne : e ≠ 3) : ¬ v.ownBlock = some g := by
  intro hk
  rcases h.2 with ⟨hv, _⟩ | ⟨g', cap', cur, hv, _, hg, _⟩
  · rw [hv] at hk; cases hk
  · rw [hv] at hk
    have e1 : g' = g := Option.some.inj hk
    subst e1
    obtain ⟨cur', h1, _⟩ := h'.row
    rw [hg] at h1
    injection h1 with h1
    injection h1 with _ h2 _
    exact hne h2
/-- a row of rows of ints, all one's own -/
structure RowsI (w0 wr : World) (s : Value) (n : Nat) (g c : Nat → Nat) (C : Nat → List Int) : Prop where
  own : wr.ownsRow 0 22 1 s n (hdrs n g c C)
  top : ∀ k, s.ownBlock = some k → w0.heap.size ≤ k
  els : ∀ i, i < n → OwnI wr (g i) (c i) (C i) ∧ w0.heap.size ≤ g i
  apart : ∀ i j, i < n → j < n → g i = g j → i = j
theorem rowsI_none (w0 wr : World) (g c : Nat → Nat) (C : Nat → List Int) : RowsI w0 wr (.slice none 0 0) 0 g c C :=
  ⟨World.ownsRow_nil _ _ _ _, (fun k h => by cases h), (fun i h => by omega), (fun i j h => by omega)⟩
theorem RowsI.fr {w0 wr wq : World} {s : Value} {n : Nat} {g c : Nat → Nat} {C : Nat → List Int} {S : Nat → Prop} (h : RowsI w0 wr s n g c C) (x : Fr S wr wq) (h1 : ∀ k, s.ownBlock = some k → ¬ S k) (h2 : ∀ i, i < n → ¬ S (g i)) : RowsI w0 wq s n g c C :=
  ⟨owns_fr h.own x h1, h.top, fun i hi => ⟨OwnI.fr (h.els i hi).1 x (h2 i hi), (h.els i hi).2⟩, h.apart⟩
theorem RowsI.on {w0 wr wq : World} {s : Value} {n : Nat} {g c : Nat → Nat} {C : Nat → List Int} (h : RowsI w0 wr s n g c C) (hb : Below wr.heap.size wr wq) : RowsI w0 wq s n g c C :=
  h.fr (below_fr hb (fun _ => False)) (fun _ _ e => e) (fun _ _ e => e)
/-- one byte of one row is written -/
theorem RowsI.set {w0 wr : World} {s : Value} {n : Nat} {g c : Nat → Nat} {C : Nat → List Int} (h : RowsI w0 wr s n g c C) (i : Nat) (hi : i < n) (k : Nat) (v : Int) (_hk : k < (C i).length) :
    RowsI w0 (wr.setCell ⟨g i, k, none⟩ (.int .i64 v)) s n g c (up C i ((C i).set k v)) := by
  refine ⟨?_, h.top, fun j hj => ?_, h.apart⟩
  · rw [hdrs_set _ _ _ _ _ _ (by rw [List.length_set])]
    exact owns_fr h.own Fr.set fun q hq e => own_apartI h.own (h.els i hi).1 (by decide) (e ▸ hq)
  · by_cases e : j = i
    · subst e
      rw [up_at]
      exact ⟨(h.els j hj).1.set k v, (h.els j hj).2⟩
    · rw [up_off C _ e]
      exact ⟨OwnI.fr (h.els j hj).1 Fr.set (fun e' => e (h.apart j i hj hi e')), (h.els j hj).2⟩
theorem RowsI.is {w0 wr : World} {b n cap : Nat} {g c : Nat → Nat} {C : Nat → List Int} (h : RowsI w0 wr (.slice (some ⟨b, 0, none⟩) n cap) n g c C) (i : Nat) (hi : i < n) : wr.cell? ⟨b, i, none⟩ = some (.slice (some ⟨g i, 0, none⟩) (C i).length (c i)) := by
  rcases h.own.2 with ⟨hv, _⟩ | ⟨g', cap', cur, hv, _, hg, _, _, _, h5⟩
  · cases hv
  · cases hv
    rw [cell_of_row _ _ _ _ _ _ hg]
    have := hdrs_at n g c C i hi
    rw [Nat.mul_one] at h5
    rw [← h5, List.getElem?_take, if_pos hi] at this
    simpa using this
/-- append of one row to a row of rows -/
theorem wp_rowsI {ops : Array Oper} {rest : List Oper} {o : Oper} {a : Act} {Q : Exit → Act → World → Prop} {wx : World} (hgd : o.guard = none) (s x : Operand)
    (ho : o.op = .call { callee := .builtin .append, args := #[s, x], argTypes := #[28, 28] }) (w0 : World) (v : Value) (n : Nat) (g c : Nat → Nat) (C : Nat → List Int) (hs : a.eval s = v) (hx : a.eval x = .slice (some ⟨wx.heap.size, 0, none⟩) 1 1)
    (gn cn m : Nat) (ln : List Int) (hm : ln.length = m) (hR : RowsI w0 wx v n g c C) (hO : OwnI wx gn cn ln) (hg : w0.heap.size ≤ gn) (hne : ∀ i, i < n → g i ≠ gn) (hB : w0.heap.size ≤ wx.heap.size) (hn : n ≤ 1000)
    (h : ∀ b cap w', RowsI w0 w' (.slice (some ⟨b, 0, none⟩) (n + 1) cap) (n + 1) (up g n gn) (up c n cn) (up C n ln) → Fr (fun k => v.ownBlock = some k) wx w' → (v.ownBlock = some b ∨ wx.heap.size ≤ b) → wpList Tryd.prog ops Q rest (a.put o.dst (.slice (some ⟨b, 0, none⟩) (n + 1) cap)) w') :
    wpList Tryd.prog ops Q (o :: rest) a (wx.alloc (.cells #[.slice (some ⟨gn, 0, none⟩) m cn] 22)) := by
  subst hm
  obtain ⟨i0, hi, hz0, hz1, hz2⟩ := info_parts infoLi
  have hal : Below wx.heap.size wx (wx.alloc (.cells #[.slice (some ⟨gn, 0, none⟩) ln.length cn] 22)) := (Below.refl _ _).alloc (Nat.le_refl _) _
  have hR' := hR.on hal
  refine wp_own hgd s x 28 ho 22 i0 _ 1 24 Tryd.underlying28 hi hz0 hz1 hz2 rfl (by decide) v n _ hs hR'.own ⟨wx.heap.size, 0, none⟩ 1 1 [.slice (some ⟨gn, 0, none⟩) ln.length cn] hx (by decide) rfl (fun j u hj => ?_) (fun u hu => ?_) (by unfold maxLen; omega) (by omega) ?_
  · cases j with
    | zero => cases hj; rw [Addr.add_lit]; rw [cell_of_row _ _ _ _ _ _ (heap_alloc_new _ _)]; rfl
    | succ j => simp at hj
  · rw [List.mem_singleton.1 hu]; rfl
  · intro b cap w' h1 h2 h3
    have hfr : Fr (fun k => v.ownBlock = some k) wx w' := (below_fr hal (fun k => v.ownBlock = some k)).trans h2 (fun k hk => .inl hk)
    have hOx := hO.on hal
    refine h b cap w' ⟨?_, fun k hk => ?_, fun i hi => ?_, fun i j hi hj => ?_⟩ hfr ?_
    · rw [← hdrs_up]; exact h1
    · have : b = k := Option.some.inj hk
      subst this
      rcases h3 with h3 | h3
      · exact hR.top _ h3
      · exact Nat.le_trans hB (Nat.le_trans hal.size h3)
    · by_cases e : i = n
      · subst e
        rw [up_at, up_at, up_at]
        exact ⟨OwnI.fr hOx h2 (own_apartI hR'.own hOx (by decide)), hg⟩
      · rw [up_off g _ e, up_off c _ e, up_off C _ e]
        have := hR'.els i (by omega)
        exact ⟨OwnI.fr this.1 h2 (own_apartI hR'.own this.1 (by decide)), this.2⟩
    · by_cases e : i = n
      · by_cases e' : j = n
        · omega
        · subst e
          rw [up_at, up_off g _ e']
          intro z; exact absurd z.symm (hne j (by omega))
      · by_cases e' : j = n
        · subst e'
          rw [up_at, up_off g _ e]
          intro z; exact absurd z (hne i (by omega))
        · rw [up_off g _ e, up_off g _ e']
          exact hR.apart i j (by omega) (by omega)
    · rcases h3 with h3 | h3
      · exact .inl h3
      · exact .inr (Nat.le_trans hal.size h3)
theorem RowsI.cong {w0 wr : World} {s : Value} {n : Nat} {g c : Nat → Nat} {C D : Nat → List Int} (h : RowsI w0 wr s n g c C) (e : ∀ i, i < n → C i = D i) : RowsI w0 wr s n g c D := by
  refine ⟨?_, h.top, fun i hi => by rw [← e i hi]; exact h.els i hi, h.apart⟩
  have : hdrs n g c D = hdrs n g c C := List.map_congr_left fun i hi => by rw [e i (List.mem_range.1 hi)]
  rw [this]; exact h.own
/-- append of two rows to a row of rows -/
theorem wp_rows72 {ops : Array Oper} {rest : List Oper} {o : Oper} {a : Act} {Q : Exit → Act → World → Prop} {wx : World} (hgd : o.guard = none) (s x : Operand)
    (ho : o.op = .call { callee := .builtin .append, args := #[s, x], argTypes := #[27, 27] }) (w0 : World) (v : Value) (n : Nat) (g c : Nat → Nat) (C : Nat → List Int) (hs : a.eval s = v) (hx : a.eval x = .slice (some ⟨wx.heap.size, 0, none⟩) 2 2)
    (gn cn m gk ck mk : Nat) (ln lk : List Int) (hm : ln.length = m) (hmk : lk.length = mk) (hR : RowsAt w0 wx v n g c C) (hO : OwnB wx gn cn ln) (hg : w0.heap.size ≤ gn) (hne : ∀ i, i < n → g i ≠ gn) (hOk : OwnB wx gk ck lk) (hgk : w0.heap.size ≤ gk) (hnk : ∀ i, i < n → g i ≠ gk) (hnn : gn ≠ gk) (hB : w0.heap.size ≤ wx.heap.size) (hn : n ≤ 1000)
    (h : ∀ b cap w', RowsAt w0 w' (.slice (some ⟨b, 0, none⟩) (n + 2) cap) (n + 2) (up (up g n gn) (n + 1) gk) (up (up c n cn) (n + 1) ck) (up (up C n ln) (n + 1) lk) → Fr (fun k => v.ownBlock = some k) wx w' → (v.ownBlock = some b ∨ wx.heap.size ≤ b) → wpList Tryd.prog ops Q rest (a.put o.dst (.slice (some ⟨b, 0, none⟩) (n + 2) cap)) w') :
    wpList Tryd.prog ops Q (o :: rest) a (wx.alloc (.cells #[.slice (some ⟨gn, 0, none⟩) m cn, .slice (some ⟨gk, 0, none⟩) mk ck] 23)) := by
  subst hm hmk
  obtain ⟨i0, hi, hz0, hz1, hz2⟩ := info_parts info28
  have hal : Below wx.heap.size wx (wx.alloc (.cells #[.slice (some ⟨gn, 0, none⟩) ln.length cn, .slice (some ⟨gk, 0, none⟩) lk.length ck] 23)) := (Below.refl _ _).alloc (Nat.le_refl _) _
  have hR' := hR.on hal
  refine wp_own hgd s x 27 ho 23 i0 _ 1 24 Tryd.underlying27 hi hz0 hz1 hz2 rfl (by decide) v n _ hs hR'.own ⟨wx.heap.size, 0, none⟩ 2 2 [.slice (some ⟨gn, 0, none⟩) ln.length cn, .slice (some ⟨gk, 0, none⟩) lk.length ck] hx (by decide) rfl (fun j u hj => ?_) (fun u hu => ?_) (by unfold maxLen; omega) (by omega) ?_
  · match j, hj with
    | 0, hj => cases hj; rw [Addr.add_lit]; rw [cell_of_row _ _ _ _ _ _ (heap_alloc_new _ _)]; rfl
    | 1, hj => cases hj; rw [Addr.add_lit]; rw [cell_of_row _ _ _ _ _ _ (heap_alloc_new _ _)]; rfl
    | j + 2, hj => simp at hj
  · have hu' : u = .slice (some ⟨gn, 0, none⟩) ln.length cn ∨ u = .slice (some ⟨gk, 0, none⟩) lk.length ck := by simpa using hu
    rcases hu' with rfl | rfl <;> rfl
  · intro b cap w' h1 h2 h3
    have hfr : Fr (fun k => v.ownBlock = some k) wx w' := (below_fr hal (fun k => v.ownBlock = some k)).trans h2 (fun k hk => .inl hk)
    have hOx := hO.on hal
    have hOy := hOk.on hal
    refine h b cap w' ⟨?_, fun k hk => ?_, fun i hi => ?_, fun i j hi hj => ?_⟩ hfr ?_
    · rw [← hdrs_up, ← hdrs_up, List.append_assoc]; exact h1
    · have : b = k := Option.some.inj hk
      subst this
      rcases h3 with h3 | h3
      · exact hR.top _ h3
      · exact Nat.le_trans hB (Nat.le_trans hal.size h3)
    · by_cases e2 : i = n + 1
      · subst e2
        rw [up_at, up_at, up_at]
        exact ⟨ownB_fr hOy h2 (own_apart7 hR'.own hOy (by decide)), hgk⟩
      · rw [up_off _ _ e2, up_off _ _ e2, up_off _ _ e2]
        by_cases e : i = n
        · subst e
          rw [up_at, up_at, up_at]
          exact ⟨ownB_fr hOx h2 (own_apart7 hR'.own hOx (by decide)), hg⟩
        · rw [up_off g _ e, up_off c _ e, up_off C _ e]
          have := hR'.els i (by omega)
          exact ⟨ownB_fr this.1 h2 (own_apart7 hR'.own this.1 (by decide)), this.2⟩
    · have val : ∀ i, i < n + 2 → (i = n + 1 ∧ up (up g n gn) (n + 1) gk i = gk) ∨ (i = n ∧ up (up g n gn) (n + 1) gk i = gn) ∨ (i < n ∧ up (up g n gn) (n + 1) gk i = g i) := fun i hi => by
        by_cases e2 : i = n + 1
        · subst e2; exact .inl ⟨rfl, up_at _ _ _⟩
        · rw [up_off _ _ e2]
          by_cases e : i = n
          · subst e; exact .inr (.inl ⟨rfl, up_at _ _ _⟩)
          · exact .inr (.inr ⟨by omega, up_off _ _ e⟩)
      intro z
      rcases val i hi with ⟨a1, b1⟩ | ⟨a1, b1⟩ | ⟨a1, b1⟩ <;> rcases val j hj with ⟨a2, b2⟩ | ⟨a2, b2⟩ | ⟨a2, b2⟩ <;> rw [b1, b2] at z
      · omega
      · exact absurd z.symm hnn
      · exact absurd z.symm (hnk j a2)
      · exact absurd z hnn
      · omega
      · exact absurd z.symm (hne j a2)
      · exact absurd z (hnk i a1)
      · exact absurd z (hne i a1)
      · exact hR.apart i j a1 a2 z
    · rcases h3 with h3 | h3
      · exact .inl h3
      · exact .inr (Nat.le_trans hal.size h3)
/-- append of two to a row that is full: the row stays as it is -/
theorem wp_full72 {ops : Array Oper} {rest : List Oper} {o : Oper} {act : Act} {Q : Exit → Act → World → Prop} {w1 : World} (hgd : o.guard = none) (s x : Operand)
    (ho : o.op = .call { callee := .builtin .append, args := #[s, x], argTypes := #[23, 23] }) (g n : Nat) (l : List Int) (v : Int) (hv : 0 ≤ v ∧ v < 256) (hl : l.length = n) (hs : act.eval s = .slice (some ⟨g, 0, none⟩) n n) (hx : act.eval x = .slice (some ⟨w1.heap.size, 0, none⟩) 2 2)
    (hO : OwnB w1 g n l) (hn : n ≤ 100000)
    (h : ∀ g' cap' w', w1.heap.size ≤ g' → OwnB w' g' cap' (l ++ [v, v]) → Below w1.heap.size w1 w' → wpList Tryd.prog ops Q rest (act.put o.dst (.slice (some ⟨g', 0, none⟩) (n + 2) cap')) w') :
    wpList Tryd.prog ops Q (o :: rest) act (w1.alloc (.cells #[.int .u8 v, .int .u8 v] 5)) := by
  have hA : Below w1.heap.size w1 (w1.alloc (.cells #[.int .u8 v, .int .u8 v] 5)) := (Below.refl _ _).alloc (Nat.le_refl _) _
  have hOb : OwnB (w1.alloc (.cells #[.int .u8 v, .int .u8 v] 5)) w1.heap.size 2 [v, v] := bytes7 w1 [v, v] (by simp) (wf_pair v hv)
  have hOx := hO.on hA
  obtain ⟨i0, hi, hz0, hz1, hz2⟩ := info_parts info5
  have hr := run_append_grow (P := Tryd.prog) (w1.alloc (.cells #[.int .u8 v, .int .u8 v] 5)) 23 o.type 5 i0 (.int .u8 0) Tryd.underlying23 hi hz0 ⟨g, 0, none⟩ n n (l.map (Value.int .u8)) (by rw [hz1, List.length_map, hl, Nat.mul_one]) hOx.bytes.news ⟨w1.heap.size, 0, none⟩ 2 2 ([v, v].map (Value.int .u8)) (by rw [hz1]; rfl) (hOb.bytes.news) (by omega) (by omega) (by rw [hz2]; exact growslice_fits (bytes := 1) (by omega) (by omega))
  refine wpList_plain hgd fun K hK => ?_
  unfold Oper.wp execOp
  simp only [ho, resolve, invoke, builtin, Sem.run_bind, Sem.run_pure, Result.andThen_ok, List.map_toArray, List.map_cons, List.map_nil, hs, hx] at hr ⊢
  rw [hr]
  refine hK _ _ (h _ _ _ hA.size ?_ (hA.trans (((Below.refl _ _).drew.alloc (Nat.le_refl _) _).mono hA.size)))
  have h1 := grownCap_ge (w1.alloc (.cells #[.int .u8 v, .int .u8 v] 5)) (n + 2) n 5
  have h2 := grownCap_le_maxLen (w1.alloc (.cells #[.int .u8 v, .int .u8 v] 5)) (n + 2) n 5 (by unfold maxLen; omega)
  generalize grownCap (w1.alloc (.cells #[.int .u8 v, .int .u8 v] 5)) (n + 2) n 5 = C at h1 h2 ⊢
  refine ⟨⟨_, heap_alloc_new _ _, ?_, ?_⟩, by simp [hl]; omega, by simp [hl]; omega, h2, wf_two hO.wf (wf_pair v hv)⟩
  · rw [Array.size_append, Array.size_append, size_zeroCells]
    show (l.map (Value.int .u8)).toArray.size + 2 + (C - (n + 2)) * 1 = C
    rw [List.size_toArray, List.length_map, hl]; omega
  · rw [Array.toList_append, Array.toList_append, List.take_append_of_le_length (by simp [hl])]
    simp [hl, List.take_of_length_le]
/-- append of two to a row that is full: the row stays as it is -/
theorem wp_fullI2 {ops : Array Oper} {rest : List Oper} {o : Oper} {act : Act} {Q : Exit → Act → World → Prop} {w1 : World} (hgd : o.guard = none) (s x : Operand)
    (ho : o.op = .call { callee := .builtin .append, args := #[s, x], argTypes := #[22, 22] }) (g n : Nat) (l : List Int) (v : Int) (hl : l.length = n) (hs : act.eval s = .slice (some ⟨g, 0, none⟩) n n) (hx : act.eval x = .slice (some ⟨w1.heap.size, 0, none⟩) 2 2)
    (hO : OwnI w1 g n l) (hn : n ≤ 100000)
    (h : ∀ g' cap' w', w1.heap.size ≤ g' → OwnI w' g' cap' (l ++ [v, v]) → Below w1.heap.size w1 w' → wpList Tryd.prog ops Q rest (act.put o.dst (.slice (some ⟨g', 0, none⟩) (n + 2) cap')) w') :
    wpList Tryd.prog ops Q (o :: rest) act (w1.alloc (.cells #[.int .i64 v, .int .i64 v] 3)) := by
  have hA : Below w1.heap.size w1 (w1.alloc (.cells #[.int .i64 v, .int .i64 v] 3)) := (Below.refl _ _).alloc (Nat.le_refl _) _
  have hOb : OwnI (w1.alloc (.cells #[.int .i64 v, .int .i64 v] 3)) w1.heap.size 2 [v, v] := ints7 w1 [v, v] (by simp)
  have hOx := hO.on hA
  obtain ⟨i0, hi, hz0, hz1, hz2⟩ := info_parts info3
  have hr := run_append_grow (P := Tryd.prog) (w1.alloc (.cells #[.int .i64 v, .int .i64 v] 3)) 22 o.type 3 i0 (.int .i64 0) Tryd.underlying22 hi hz0 ⟨g, 0, none⟩ n n (l.map (Value.int .i64)) (by rw [hz1, List.length_map, hl, Nat.mul_one]) hOx.ints.news7 ⟨w1.heap.size, 0, none⟩ 2 2 ([v, v].map (Value.int .i64)) (by rw [hz1]; rfl) (hOb.ints.news7) (by omega) (by omega) (by rw [hz2]; exact growslice_fits (bytes := 8) (by omega) (by omega))
  refine wpList_plain hgd fun K hK => ?_
  unfold Oper.wp execOp
  simp only [ho, resolve, invoke, builtin, Sem.run_bind, Sem.run_pure, Result.andThen_ok, List.map_toArray, List.map_cons, List.map_nil, hs, hx] at hr ⊢
  rw [hr]
  refine hK _ _ (h _ _ _ hA.size ?_ (hA.trans (((Below.refl _ _).drew.alloc (Nat.le_refl _) _).mono hA.size)))
  have h1 := grownCap_ge (w1.alloc (.cells #[.int .i64 v, .int .i64 v] 3)) (n + 2) n 3
  have h2 := grownCap_le_maxLen (w1.alloc (.cells #[.int .i64 v, .int .i64 v] 3)) (n + 2) n 3 (by unfold maxLen; omega)
  generalize grownCap (w1.alloc (.cells #[.int .i64 v, .int .i64 v] 3)) (n + 2) n 3 = C at h1 h2 ⊢
  refine ⟨⟨_, heap_alloc_new _ _, ?_, ?_⟩, by simp [hl]; omega, by simp [hl]; omega, h2⟩
  · rw [Array.size_append, Array.size_append, size_zeroCells]
    show (l.map (Value.int .i64)).toArray.size + 2 + (C - (n + 2)) * 1 = C
    rw [List.size_toArray, List.length_map, hl]; omega
  · rw [Array.toList_append, Array.toList_append, List.take_append_of_le_length (by simp [hl])]
    simp [hl, List.take_of_length_le]
end Go.Proofs.YtdkolofmnbbocaaDoor
