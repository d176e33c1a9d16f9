import Derived.Test.YtgmccpimpbnnpaaDoorKSpN
namespace Go.Proofs.YtgmccpimpbnnpaaDoor
open Go.RowKit Go.Maps Rec
def StAt (w : World) (p a f s : Nat) : Prop := w.heap[p]? = some (.cells #[.int .i64 (a : Int), .int .i64 (f : Int), .int .i64 (s : Int)] 80 (0, 0))
theorem StAt.cells {w : World} {p a f s : Nat} (h : StAt w p a f s) : w.cell? ⟨p, 0, none⟩ = some (.int .i64 (a : Int)) ∧ w.cell? ⟨p, 1, none⟩ = some (.int .i64 (f : Int)) ∧ w.cell? ⟨p, 2, none⟩ = some (.int .i64 (s : Int)) := by
  refine ⟨?_, ?_, ?_⟩ <;> (rw [cell_of_row _ _ _ _ _ _ h]; rfl)
theorem StAt.on {w w' : World} {p a f s : Nat} (h : StAt w p a f s) (hb : Below w.heap.size w w') : StAt w' p a f s := (hb.block p (heap_lt h)).trans h
theorem below_set {w w2 : World} {p j : Nat} (h : Below w.heap.size w w2) (hp : w.heap.size ≤ p) (x : Value) : Below w.heap.size w (w2.setCell ⟨p, j, none⟩ x) :=
  h.trans ((Fr.set (g := p)).below _ (fun k hk => by have hk : k = p := hk; omega) h.size)
theorem below_set3 {w w2 : World} {p : Nat} (h : Below w.heap.size w w2) (hp : w.heap.size ≤ p) (x y z : Value) : Below w.heap.size w (((w2.setCell ⟨p, 0, none⟩ x).setCell ⟨p, 1, none⟩ y).setCell ⟨p, 2, none⟩ z) :=
  below_set (below_set (below_set h hp x) hp y) hp z
set_option maxRecDepth 100000 in
set_option maxHeartbeats 4000000 in
theorem below_any (w : World) (a f s i : Nat) (hs : s ≤ 16384) (hf : f ≤ 100000) (hi : i < 128) : Calls Tryd.prog 31 #[stV a f s, .int .i64 (i : Int)] w fun e w' => e = .returned (stV i (f + i * (s / 128)) (s / 128)) ∧ Below w.heap.size w w' := by
  obtain ⟨q, hq⟩ : ∃ q, s / 128 = q := ⟨_, rfl⟩
  have hq2 : q ≤ 128 := by omega
  obtain ⟨m, hm⟩ : ∃ m, i * q = m := ⟨_, rfl⟩
  have hm2 : m ≤ 128 * 128 := by rw [← hm]; exact Nat.mul_le_mul (by omega) hq2
  have em : (i : Int) * (q : Int) = (m : Int) := by rw [← hm]; push_cast; rfl
  obtain ⟨F, hF⟩ : ∃ F, f + m = F := ⟨_, rfl⟩
  have ef : (f : Int) + (m : Int) = (F : Int) := by omega
  have e1 : IntKind.i64.wrap (m : Int) = (m : Int) := by rw [IntKind.wrap_i64]; omega
  have e2 : IntKind.i64.wrap (F : Int) = (F : Int) := by rw [IntKind.wrap_i64]; omega
  have HP : Hid (∀ wx, Calls Tryd.prog 54 #[.agg #[.int .i64 (a : Int), .int .i64 (f : Int), .int .i64 (s : Int)]] wx fun e w' => e = .returned (.int .i64 (q : Int)) ∧ Below wx.heap.size wx w') := fun wx => by
    rw [← hq]; exact part_any wx a f s (by omega)
  rw [hq, hm, hF]
  clear hq hm hq2 hm2 hF
  unfold stV
  obtain ⟨wa, hwa⟩ : ∃ wa, (w.alloc (.cells #[.int .i64 (a : Int), .int .i64 (f : Int), .int .i64 (s : Int)] 80)).alloc (.cells #[.int .i64 0, .int .i64 0, .int .i64 0] 80) = wa := ⟨_, rfl⟩
  have HA : Hid (Below w.heap.size w wa ∧ StAt wa w.heap.size a f s ∧ wa.heap[w.heap.size + 1]? = some (.cells #[.int .i64 0, .int .i64 0, .int .i64 0] 80 (0, 0))) := by
    rw [← hwa]
    refine ⟨(below_new _).alloc (by simp) _, (Below.heap_alloc _ _ _ (by simp)).trans (heap_alloc_new _ _), ?_⟩
    have := heap_alloc_new (w.alloc (.cells #[.int .i64 (a : Int), .int .i64 (f : Int), .int .i64 (s : Int)] 80)) (.cells #[.int .i64 0, .int .i64 0, .int .i64 0] 80)
    rw [World.size_alloc] at this
    exact this
  obtain ⟨z0, z1, z2⟩ := HA.out.2.1.cells
  go_enter Tryd.func31, Tryd.ntmps31
  go_upto_region 1 with (fail)
  have HB0 : Hid (Below wa.heap.size wa wa.drew) := (Below.refl _ _).drew
  have HX : Hid (∀ wx, Below wa.heap.size wa wx → (wx.cell? ⟨w.heap.size, 0, none⟩ = some (.int .i64 (a : Int)) ∧ wx.cell? ⟨w.heap.size, 1, none⟩ = some (.int .i64 (f : Int)) ∧ wx.cell? ⟨w.heap.size, 2, none⟩ = some (.int .i64 (s : Int))) ∧ (wx.cell? ⟨w.heap.size + 1, 0, none⟩ = some (.int .i64 0) ∧ wx.cell? ⟨w.heap.size + 1, 1, none⟩ = some (.int .i64 0) ∧ wx.cell? ⟨w.heap.size + 1, 2, none⟩ = some (.int .i64 0)) ∧ wx.frozen? ⟨w.heap.size + 1, 0, none⟩ = false ∧ wx.frozen? ⟨w.heap.size + 1, 1, none⟩ = false ∧ wx.frozen? ⟨w.heap.size + 1, 2, none⟩ = false) := fun wx hb => by
    have h1 : wx.heap[w.heap.size + 1]? = some (.cells #[.int .i64 0, .int .i64 0, .int .i64 0] 80 (0, 0)) := (hb.block _ (heap_lt HA.out.2.2)).trans HA.out.2.2
    refine ⟨(HA.out.2.1.on hb).cells, ⟨?_, ?_, ?_⟩, ?_, ?_, ?_⟩
    · rw [cell_of_row _ _ _ _ _ _ h1]; rfl
    · rw [cell_of_row _ _ _ _ _ _ h1]; rfl
    · rw [cell_of_row _ _ _ _ _ _ h1]; rfl
    · exact frozen_of_row _ _ _ _ _ h1
    · exact frozen_of_row _ _ _ _ _ h1
    · exact frozen_of_row _ _ _ _ _ h1
  go_region_held3 (fun w' => w'.cell? ⟨w.heap.size, 0, none⟩ = some (.int .i64 (a : Int)) ∧ w'.cell? ⟨w.heap.size, 1, none⟩ = some (.int .i64 (f : Int)) ∧ w'.cell? ⟨w.heap.size, 2, none⟩ = some (.int .i64 (s : Int))) (go_keep)
    (first
      | (go_at_call 54; refine (HP.out _).mono ?_; rintro e w1 ⟨rfl, hb⟩; have H1 : Hid (Below wa.heap.size wa w1) := HB0.out.trans (hb.mono HB0.out.size); obtain ⟨⟨y0, y1, y2⟩, _⟩ := HX.out _ H1.out; clear hb HB0)
      | (go_at_call 54; refine (HP.out _).mono ?_; rintro e w2 ⟨rfl, hb⟩; have H2 : Hid (Below wa.heap.size wa w2) := H1.out.trans (hb.mono H1.out.size); obtain ⟨⟨y0, y1, y2⟩, ⟨c0, c1, c2⟩, f0, f1, f2⟩ := HX.out _ H2.out; clear hb))
  all_goals go_wp2
  refine bodyPost_ret (v := .agg #[.int .i64 (i : Int), .int .i64 (F : Int), .int .i64 (q : Int)]) (res_row9 rfl _ _ (w.heap.size + 1) #[.int .i64 (i : Int), .int .i64 (F : Int), .int .i64 (q : Int)] rfl (by simp [go_sem, c0, c1, c2])) rfl ?_
  exact ⟨rfl, below_set3 (HA.out.1.trans (H2.out.mono HA.out.1.size)) (by omega) _ _ _⟩
end Go.Proofs.YtgmccpimpbnnpaaDoor

namespace Go.Proofs.YtgmccpimpbnnpaaDoor
open Go.RowKit Go.Maps Rec
def wayL (k : Nat) : List (Nat × Nat × Nat) :=
  if k < 10 then [(k, k, 1)]
  else if k < 138 then [(10, 10, 128), (k - 10, k, 1)]
  else [(11, 138, 16384), ((k - 138) / 128, 138 + (k - 138) / 128 * 128, 128), ((k - 138) % 128, k, 1)]
theorem wayL_len (k : Nat) : 0 < (wayL k).length ∧ (wayL k).length ≤ 3 := by unfold wayL; split <;> (try split) <;> simp
theorem wayL_head (k : Nat) : (wayL k)[0]? = some (oP k, oF (oP k), oS (oP k)) := by
  unfold wayL oP
  by_cases h0 : k < 10
  · rw [if_pos h0, if_pos h0]
    show some (k, k, 1) = _
    rw [oF, oS, if_neg (by omega), if_neg (by omega), if_neg (by omega), if_neg (by omega)]
  · rw [if_neg h0, if_neg h0]
    by_cases h1 : k < 138
    · rw [if_pos h1, if_pos h1]; rfl
    · rw [if_neg h1, if_neg h1]; rfl
set_option maxRecDepth 200000 in
theorem wayL_at {k j a f s : Nat} (hk : k < 16522) (h : (wayL k)[j]? = some (a, f, s)) :
    f ≤ k ∧ s ≤ 16384 ∧ k < f + s ∧ (j = 0 → a < 12) ∧ (0 < j → a < 128) ∧ (1 < s → 128 ≤ s ∧ (k - f) / (s / 128) < 128 ∧ (wayL k)[j + 1]? = some ((k - f) / (s / 128), f + (k - f) / (s / 128) * (s / 128), s / 128)) ∧ (¬ 1 < s → s = 1 ∧ j + 1 = (wayL k).length ∧ f = k) := by
  unfold wayL at h ⊢
  by_cases h0 : k < 10
  · rw [if_pos h0] at h ⊢
    match j, h with
    | 0, h => cases h; refine ⟨Nat.le_refl _, by omega, by omega, fun _ => by omega, fun h => by omega, fun h => by omega, fun _ => ⟨rfl, rfl, rfl⟩⟩
  · rw [if_neg h0] at h ⊢
    by_cases h1 : k < 138
    · rw [if_pos h1] at h ⊢
      match j, h with
      | 0, h =>
        cases h
        refine ⟨by omega, by omega, by omega, fun _ => by omega, fun h => by omega, fun _ => ⟨Nat.le_refl _, by omega, ?_⟩, fun h => by omega⟩
        show some (k - 10, k, 1) = _
        rw [show 128 / 128 = 1 by rfl, Nat.div_one, Nat.mul_one, show 10 + (k - 10) = k by omega]
      | 1, h => cases h; refine ⟨Nat.le_refl _, by omega, by omega, fun h => by omega, fun _ => by omega, fun h => by omega, fun _ => ⟨rfl, rfl, rfl⟩⟩
    · rw [if_neg h1] at h ⊢
      match j, h with
      | 0, h =>
        have h := Option.some.inj h
        simp only [Prod.mk.injEq] at h
        obtain ⟨rfl, rfl, rfl⟩ := h
        refine ⟨by omega, by omega, by omega, fun _ => by omega, fun h => by omega, fun _ => ⟨by omega, by omega, ?_⟩, fun h => by omega⟩
        rfl
      | 1, h =>
        have h := Option.some.inj h
        simp only [Prod.mk.injEq] at h
        obtain ⟨rfl, rfl, rfl⟩ := h
        refine ⟨by omega, by omega, by omega, fun h => by omega, fun _ => by omega, fun _ => ⟨Nat.le_refl _, by omega, ?_⟩, fun h => by omega⟩
        show some ((k - 138) % 128, k, 1) = _
        rw [show 128 / 128 = 1 by rfl, Nat.div_one, Nat.mul_one, show k - (138 + (k - 138) / 128 * 128) = (k - 138) % 128 by omega, show 138 + (k - 138) / 128 * 128 + (k - 138) % 128 = k by omega]
      | 2, h => cases h; refine ⟨Nat.le_refl _, by omega, by omega, fun h => by omega, fun _ => by omega, fun h => by omega, fun _ => ⟨rfl, rfl, rfl⟩⟩
def stC (L : List (Nat × Nat × Nat)) : List Value := L.flatMap fun q => [.int .i64 (q.1 : Int), .int .i64 (q.2.1 : Int), .int .i64 (q.2.2 : Int)]
theorem stC_at (L : List (Nat × Nat × Nat)) (j a f s : Nat) (h : L[j]? = some (a, f, s)) : (stC L)[j * 3]? = some (.int .i64 (a : Int)) ∧ (stC L)[j * 3 + 1]? = some (.int .i64 (f : Int)) ∧ (stC L)[j * 3 + 2]? = some (.int .i64 (s : Int)) := by
  induction L generalizing j with
  | nil => simp at h
  | cons q L ih =>
    cases j with
    | zero => cases h; exact ⟨rfl, rfl, rfl⟩
    | succ j =>
      have := ih j (by simpa using h)
      have e : (j + 1) * 3 = j * 3 + 3 := by omega
      rw [e]
      exact this
theorem infoSt : (Tryd.prog.info? 80).map (fun i => (i.zero, i.size, i.bytes)) = some (some (.agg #[.int .i64 0, .int .i64 0, .int .i64 0]), 3, 24) := by kernel_rfl
theorem wp_step {ops : Array Oper} {rest : List Oper} {o : Oper} {a : Act} {Q : Exit → Act → World → Prop} {wx : World} (hgd : o.guard = none) (s x : Operand)
    (ho : o.op = .call { callee := .builtin .append, args := #[s, x], argTypes := #[110, 110] }) (v : Value) (n : Nat) (ss : List Value) (hs : a.eval s = v) (hx : a.eval x = .slice (some ⟨wx.heap.size, 0, none⟩) 1 1)
    (t0 t1 t2 : Int) (hR : wx.ownsRow 0 80 3 v n ss) (hn : n ≤ 1000)
    (h : ∀ b cap w', w'.ownsRow 0 80 3 (.slice (some ⟨b, 0, none⟩) (n + 1) cap) (n + 1) (ss ++ [.int .i64 t0, .int .i64 t1, .int .i64 t2]) → Fr (fun k => v.ownBlock = some k) wx w' → (v.ownBlock = some b ∨ wx.heap.size ≤ b) → wpList Tryd.prog ops Q rest (a.put o.dst (.slice (some ⟨b, 0, none⟩) (n + 1) cap)) w') :
    wpList Tryd.prog ops Q (o :: rest) a (wx.alloc (.cells #[.int .i64 t0, .int .i64 t1, .int .i64 t2] 80)) := by
  obtain ⟨i0, hi, hz0, hz1, hz2⟩ := info_parts infoSt
  have hal : Below wx.heap.size wx (wx.alloc (.cells #[.int .i64 t0, .int .i64 t1, .int .i64 t2] 80)) := below_new _
  refine wp_own hgd s x 110 ho 80 i0 _ 3 24 Tryd.underlying110 hi hz0 hz1 hz2 rfl (by decide) v n _ hs (owns_fr hR (below_fr hal (fun _ => False)) (fun _ _ e => e)) ⟨wx.heap.size, 0, none⟩ 1 1 [.int .i64 t0, .int .i64 t1, .int .i64 t2] hx (by decide) rfl (fun j u hj => ?_) (fun u hu => ?_) (by unfold maxLen; omega) (by omega) ?_
  · match j, hj with
    | 0, hj => cases hj; rw [Addr.add_lit, cell_of_row _ _ _ _ _ _ (heap_alloc_new _ _)]; rfl
    | 1, hj => cases hj; rw [Addr.add_lit, cell_of_row _ _ _ _ _ _ (heap_alloc_new _ _)]; rfl
    | 2, hj => cases hj; rw [Addr.add_lit, cell_of_row _ _ _ _ _ _ (heap_alloc_new _ _)]; rfl
  · rcases List.mem_cons.1 hu with rfl | hu
    · rfl
    · rcases List.mem_cons.1 hu with rfl | hu
      · rfl
      · rw [List.mem_singleton.1 hu]; rfl
  · intro b cap w' h1 h2 h3
    refine h b cap w' h1 ((below_fr hal (fun k => v.ownBlock = some k)).trans h2 (fun k hk => .inl hk)) ?_
    rcases h3 with h3 | h3
    · exact .inl h3
    · exact .inr (Nat.le_trans hal.size h3)
end Go.Proofs.YtgmccpimpbnnpaaDoor
