import Derived.Test.YtgmccpimpbnnpaaDoorKBpB
namespace Go.Proofs.YtgmccpimpbnnpaaDoor
open Go.RowKit Go.Maps Rec
structure StB (w : World) (p a f s : Nat) : Prop where
  c0 : w.cell? ⟨p, 0, none⟩ = some (.int .i64 (a : Int))
  c1 : w.cell? ⟨p, 1, none⟩ = some (.int .i64 (f : Int))
  c2 : w.cell? ⟨p, 2, none⟩ = some (.int .i64 (s : Int))
  fz : ∀ j, w.frozen? ⟨p, j, none⟩ = false
theorem StB.lt {w : World} {p a f s : Nat} (h : StB w p a f s) : p < w.heap.size := block_lt_of_cell h.c0
theorem StB.fr {S : Nat → Prop} {w w' : World} {p a f s : Nat} (h : StB w p a f s) (x : Fr S w w') (hS : ¬ S p) : StB w' p a f s := by
  have hl := h.lt
  exact ⟨x.cell h.c0 hS, x.cell h.c1 hS, x.cell h.c2 hS, fun j => by have e := x.block p hl hS; rw [← h.fz j]; simp only [World.frozen?, e]⟩
theorem StB.on {w w' : World} {p a f s : Nat} (h : StB w p a f s) (hb : Below w.heap.size w w') : StB w' p a f s := h.fr (below_fr hb (fun _ => False)) (fun e => e)
theorem StB.of {w : World} {p a f s : Nat} (h : w.heap[p]? = some (.cells #[.int .i64 (a : Int), .int .i64 (f : Int), .int .i64 (s : Int)] 80 (0, 0))) : StB w p a f s := by
  refine ⟨?_, ?_, ?_, fun j => frozen_of_row _ _ _ _ _ h⟩ <;> (rw [cell_of_row _ _ _ _ _ _ h]; rfl)
theorem StB.set {w : World} {p a f s : Nat} (h : StB w p a f s) (a' f' s' : Nat) : StB (((w.setCell ⟨p, 0, none⟩ (.int .i64 (a' : Int))).setCell ⟨p, 1, none⟩ (.int .i64 (f' : Int))).setCell ⟨p, 2, none⟩ (.int .i64 (s' : Int))) p a' f' s' := by
  refine ⟨?_, ?_, ?_, fun j => by rw [World.frozen?_setCell, World.frozen?_setCell, World.frozen?_setCell]; exact h.fz j⟩
  · rw [World.cell?_setCell_other (h := by simp), World.cell?_setCell_other (h := by simp)]
    exact World.cell?_setCell_same' _ _ _ (by rw [h.c0]; rfl)
  · rw [World.cell?_setCell_other (h := by simp)]
    exact World.cell?_setCell_same' _ _ _ (by rw [World.cell?_setCell_other (h := by simp), h.c1]; rfl)
  · exact World.cell?_setCell_same' _ _ _ (by rw [World.cell?_setCell_other (h := by simp), World.cell?_setCell_other (h := by simp), h.c2]; rfl)
theorem fr_set3 {w : World} {p : Nat} (x y z : Value) : Fr (fun i => i = p) w (((w.setCell ⟨p, 0, none⟩ x).setCell ⟨p, 1, none⟩ y).setCell ⟨p, 2, none⟩ z) :=
  ((Fr.set (g := p)).trans (Fr.set (g := p)) (fun _ h => .inl h)).trans (Fr.set (g := p)) (fun _ h => .inl h)
def lenV : Value → Nat
  | .slice _ n _ => n
  | _ => 0
structure WyI (w wr : World) (v : Value) (P k j a f s : Nat) : Prop where
  bel : Below w.heap.size w wr
  st : StB wr P a f s
  at_ : (wayL k)[j]? = some (a, f, s)
  row : wr.ownsRow 0 80 3 v (j + 1) (stC ((wayL k).take (j + 1)))
  far : ∀ b, v.ownBlock = some b → w.heap.size ≤ b ∧ b ≠ P
  P0 : w.heap.size ≤ P
structure WyN (w wr wx : World) (v : Value) (P k j d F q : Nat) : Prop where
  bel : Below w.heap.size w wx
  st : StB wx P d F q
  at_ : (wayL k)[j + 1]? = some (d, F, q)
  row : wx.ownsRow 0 80 3 v (j + 1) (stC ((wayL k).take (j + 1)))
  far : ∀ b, v.ownBlock = some b → w.heap.size ≤ b ∧ b ≠ P
  P0 : w.heap.size ≤ P
theorem WyI.next {w wr w6 : World} {v : Value} {P k j a f s d F q : Nat} (h : WyI w wr v P k j a f s) (hb : Below wr.heap.size wr w6) (hn : (wayL k)[j + 1]? = some (d, F, q)) : WyN w wr (((w6.setCell ⟨P, 0, none⟩ (.int .i64 (d : Int))).setCell ⟨P, 1, none⟩ (.int .i64 (F : Int))).setCell ⟨P, 2, none⟩ (.int .i64 (q : Int))) v P k j d F q :=
  ⟨below_set3 (h.bel.trans (hb.mono h.bel.size)) h.P0 _ _ _, (h.st.on hb).set d F q, hn, owns_fr (owns_fr h.row (below_fr hb (fun _ => False)) (fun _ _ e => e)) (fr_set3 _ _ _) (fun b hb e => (h.far b hb).2 e), h.far, h.P0⟩
theorem stC_take {L : List (Nat × Nat × Nat)} {j a f s : Nat} (h : L[j]? = some (a, f, s)) : stC (L.take (j + 1)) = stC (L.take j) ++ [.int .i64 (a : Int), .int .i64 (f : Int), .int .i64 (s : Int)] := by
  rw [List.take_add_one, h]
  simp [stC]
theorem WyN.app {w wr wx w' : World} {v : Value} {P k j d F q b cap : Nat} (h : WyN w wr wx v P k j d F q) (hr : w'.ownsRow 0 80 3 (.slice (some ⟨b, 0, none⟩) (j + 1 + 1) cap) (j + 1 + 1) (stC ((wayL k).take (j + 1)) ++ [.int .i64 (d : Int), .int .i64 (F : Int), .int .i64 (q : Int)])) (hf : Fr (fun k => v.ownBlock = some k) wx w') (hb : v.ownBlock = some b ∨ wx.heap.size ≤ b) : WyI w w' (.slice (some ⟨b, 0, none⟩) (j + 1 + 1) cap) P k (j + 1) d F q := by
  have hl := h.st.lt
  refine ⟨h.bel.trans (hf.below _ (fun k hk => (h.far k hk).1) h.bel.size), h.st.fr hf (fun e => (h.far P e).2 rfl), h.at_, by rw [stC_take h.at_]; exact hr, fun b' hb' => ?_, h.P0⟩
  have hb' : some b = some b' := hb'
  injection hb' with hb'
  subst hb'
  rcases hb with e | e
  · exact h.far _ e
  · have := h.bel.size; omega
set_option maxRecDepth 100000 in
set_option maxHeartbeats 8000000 in
theorem way_any (w : World) (k : Nat) (hk : k < 16522) : Calls Tryd.prog 48 #[.int .i64 (k : Int)] w fun e w' => ∃ g cap, e = .returned (.slice (some ⟨g, 0, none⟩) (wayL k).length cap) ∧ w.heap.size ≤ g ∧ g < w'.heap.size ∧ (∀ j (a f s : Nat), (wayL k)[j]? = some (a, f, s) → w'.cell? ⟨g, j * 3, none⟩ = some (.int .i64 (a : Int)) ∧ w'.cell? ⟨g, j * 3 + 1, none⟩ = some (.int .i64 (f : Int)) ∧ w'.cell? ⟨g, j * 3 + 2, none⟩ = some (.int .i64 (s : Int))) ∧ Below w.heap.size w w' := by
  have HP : Hid (∀ wx, Calls Tryd.prog 61 #[.int .i64 (k : Int)] wx fun e w' => e = .returned (.int .i64 (oP k : Nat)) ∧ wx = w') := fun wx => ownPlace_any wx k
  obtain ⟨p, hp⟩ : ∃ p, oP k = p := ⟨_, rfl⟩
  have HO : Hid (∀ wx, Calls Tryd.prog 32 #[.int .i64 (p : Int)] wx fun e w' => e = .returned (.agg #[.int .i64 (p : Int), .int .i64 (oF p : Nat), .int .i64 (oS p : Nat)]) ∧ Below wx.heap.size wx w') := fun wx => own_any wx p
  have HH : Hid ((wayL k)[0]? = some (p, oF p, oS p)) := by rw [← hp]; exact wayL_head k
  rw [hp] at HP
  obtain ⟨f0, hf0⟩ : ∃ f0, oF p = f0 := ⟨_, rfl⟩
  obtain ⟨s0, hs0⟩ : ∃ s0, oS p = s0 := ⟨_, rfl⟩
  rw [hf0, hs0] at HO HH
  clear hp hf0 hs0
  go_enter Tryd.func48, Tryd.ntmps48
  go_upto_region 3 with (first
    | (go_at_call 61; refine (HP.out _).mono ?_; rintro e w' ⟨rfl, rfl⟩)
    | (go_at_call 32; refine (HO.out _).mono ?_; rintro e w1 ⟨rfl, hb⟩; have H1 : Hid (Below w.heap.size w w1) := hb; clear hb))
  obtain ⟨P, hP⟩ : ∃ P, w1.heap.size = P := ⟨_, rfl⟩
  obtain ⟨w2, hw2⟩ : ∃ w2, (w1.alloc (.cells #[.int .i64 (p : Int), .int .i64 (f0 : Int), .int .i64 (s0 : Int)] 80)).alloc (.cells #[.int .i64 (p : Int), .int .i64 (f0 : Int), .int .i64 (s0 : Int)] 80) = w2 := ⟨_, rfl⟩
  have H2 : Hid (WyI w w2 (.slice (some ⟨P + 1, 0, none⟩) 1 1) P k 0 p f0 s0) := by
    have hs := H1.out.size
    have hrow : w2.heap[P + 1]? = some (.cells #[.int .i64 (p : Int), .int .i64 (f0 : Int), .int .i64 (s0 : Int)] 80 (0, 0)) := by
      have := heap_alloc_new (w1.alloc (.cells #[.int .i64 (p : Int), .int .i64 (f0 : Int), .int .i64 (s0 : Int)] 80)) (.cells #[.int .i64 (p : Int), .int .i64 (f0 : Int), .int .i64 (s0 : Int)] 80)
      rw [World.size_alloc, hP] at this
      rw [← hw2]
      exact this
    refine ⟨by rw [← hw2]; exact (H1.out.alloc hs _).alloc (by simp; omega) _, StB.of (by rw [← hw2, ← hP]; exact (Below.heap_alloc _ _ _ (by simp)).trans (heap_alloc_new _ _)), HH.out, ?_, fun b hb => ?_, by omega⟩
    · rw [stC_take HH.out]
      exact ⟨rfl, .inr ⟨P + 1, 1, _, rfl, Nat.zero_le _, hrow, Nat.le_refl _, by unfold maxLen; omega, rfl, rfl⟩⟩
    · have hb : some (P + 1) = some b := hb
      injection hb with hb
      omega
  rw [hw2, hP]
  clear hw2 hP HP HO HH H1
  have HK : Hid (k < 16522) := hk
  go_loopw [4] (fun s4 wr => ∃ (j a f s : Nat), WyI w wr s4 P k j a f s) (fun s4 _ => 4 - lenV s4)
  case atStart => exact ⟨0, p, f0, s0, H2.out⟩
  case round =>
    clear H2
    obtain ⟨j, a, f, s, hI⟩ := hrel
    have HI : Hid (WyI w wr u4 P k j a f s) := hI
    obtain ⟨y0, y1, y2, _⟩ := hI.st
    obtain ⟨hfk, hs1, hks, _, _, hnx, hlast⟩ := wayL_at hk hI.at_
    clear hI
    have HT : Hid (Calls Tryd.prog 28 #[.agg #[.int .i64 (a : Int), .int .i64 (f : Int), .int .i64 (s : Int)]] wr fun e w' => e = .returned (.bool (decide (1 < s))) ∧ Below wr.heap.size wr w') := isTable_any wr a f s
    by_cases h1 : 1 < s
    · rw [decide_eq_true h1] at HT
      obtain ⟨hs2, hd, hnext⟩ := hnx h1
      obtain ⟨q, hq⟩ : ∃ q, s / 128 = q := ⟨_, rfl⟩
      obtain ⟨kf, hkf⟩ : ∃ kf, k - f = kf := ⟨_, rfl⟩
      rw [hq, hkf] at hd hnext
      obtain ⟨d, hdd⟩ : ∃ d, kf / q = d := ⟨_, rfl⟩
      rw [hdd] at hd hnext
      obtain ⟨F, hF⟩ : ∃ F, f + d * q = F := ⟨_, rfl⟩
      rw [hF] at hnext
      have hq0 : 1 ≤ q := by omega
      have e1 : (k : Int) - (f : Int) = (kf : Int) := by omega
      have e2 : IntKind.i64.wrap (kf : Int) = (kf : Int) := by rw [IntKind.wrap_i64]; omega
      have e3 : (kf : Int).tdiv (q : Int) = (d : Int) := by rw [← hdd]; rfl
      have hdk : d ≤ kf := by rw [← hdd]; exact Nat.div_le_self _ _
      have e4 : IntKind.i64.wrap (d : Int) = (d : Int) := by rw [IntKind.wrap_i64]; omega
      have e5 : ¬ (q : Int) = 0 := by omega
      have e6 : ¬ q = 0 := by omega
      have HPt : Hid (∀ wx, Calls Tryd.prog 54 #[.agg #[.int .i64 (a : Int), .int .i64 (f : Int), .int .i64 (s : Int)]] wx fun e w' => e = .returned (.int .i64 (q : Int)) ∧ Below wx.heap.size wx w') := fun wx => by
        rw [← hq]; exact part_any wx a f s (by omega)
      have HBl : Hid (∀ wx, Calls Tryd.prog 31 #[.agg #[.int .i64 (a : Int), .int .i64 (f : Int), .int .i64 (s : Int)], .int .i64 (d : Int)] wx fun e w' => e = .returned (.agg #[.int .i64 (d : Int), .int .i64 (F : Int), .int .i64 (q : Int)]) ∧ Below wx.heap.size wx w') := fun wx => by
        rw [← hF, ← hq]; exact below_any wx a f s d hs1 (by have := HK.out; omega) hd
      have HN : Hid ((wayL k)[j + 1]? = some (d, F, q)) := hnext
      have HJ : Hid (j + 1 < (wayL k).length ∧ (wayL k).length ≤ 3) := ⟨by
        have := List.getElem?_eq_some_iff.1 hnext
        exact this.1, (wayL_len k).2⟩
      clear hnext hF hdd hd hdk hkf hq hnx hlast hq0 hfk hs1 hks hs2
      go_upto_region 4 with (go_at_call 28; refine HT.out.mono ?_; rintro e w3 ⟨rfl, hb⟩; have H3 : Hid (Below wr.heap.size wr w3) := hb; clear hb HT)
      have HB0 : Hid (Below wr.heap.size wr w3.drew) := H3.out.drew
      obtain ⟨x0, x1, x2, _⟩ := HI.out.st.on H3.out
      have HMt : Hid (∀ w6, Below wr.heap.size wr w6 → WyN w wr (((w6.setCell ⟨P, 0, none⟩ (.int .i64 (d : Int))).setCell ⟨P, 1, none⟩ (.int .i64 (F : Int))).setCell ⟨P, 2, none⟩ (.int .i64 (q : Int))) u4 P k j d F q) := fun w6 hb => HI.out.next hb HN.out
      go_cut [20] (fun _ wx => WyN w wr wx u4 P k j d F q)
      case first => as_aux_lemma =>
        refine wp_region_any (by as_aux_lemma => kernel_rfl) ?_
        try (change wpAny _ _ _ _ _ _ _ (World.drew _))
        refine wpAny_take (i := 1) (v := ?_) rfl (by as_aux_lemma => kernel_rfl) (by as_aux_lemma => kernel_rfl) (by as_aux_lemma => kernel_rfl) (fun _ _ _ h => h) (Or.inl ⟨by as_aux_lemma => kernel_rfl, ?_⟩) ?_
        rotate_left
        focus (intro w; go_simp; (try (with_reducible rfl)); done)
        go_simp
        refine wpAny_take (i := 2) (v := ?_) rfl (by as_aux_lemma => kernel_rfl) (by as_aux_lemma => kernel_rfl) (by as_aux_lemma => kernel_rfl) (fun _ _ _ h => h) (Or.inl ⟨by as_aux_lemma => kernel_rfl, ?_⟩) ?_
        rotate_left
        focus (intro w; go_simp; (try (with_reducible rfl)); done)
        go_simp
        refine wpAny_ready (rs := [0, 3, 5]) (by as_aux_lemma => kernel_rfl) (by simp) ?_
        refine AllReady.cons rfl (fun K hK => ?_) ?_
        · go_simp
          try go_simp
          first
            | (refine hK _ _ ?_; clear hK K)
            | skip
          refine wpAny_ready (rs := [3, 5]) (by as_aux_lemma => kernel_rfl) (by simp) ?_
          refine AllReady.cons rfl (fun K hK => ?_) ?_
          · go_simp
            try go_simp
            first
              | (refine hK _ _ ?_; clear hK K)
              | skip
            refine wpAny_take (i := 4) (v := ?_) rfl (by as_aux_lemma => kernel_rfl) (by as_aux_lemma => kernel_rfl) (by as_aux_lemma => kernel_rfl) (fun _ _ _ h => h) (Or.inl ⟨by as_aux_lemma => kernel_rfl, ?_⟩) ?_
            rotate_left
            focus (intro w; go_simp; (try (with_reducible rfl)); done)
            go_simp
            refine wpAny_ready (rs := [5]) (by as_aux_lemma => kernel_rfl) (by simp) ?_
            refine AllReady.cons rfl (fun K hK => ?_) ?_
            · go_simp
              try go_simp
              first
                | (refine hK _ _ ?_; clear hK K)
                | skip
              refine wpAny_ready (rs := [6]) (by as_aux_lemma => kernel_rfl) (by simp) ?_
              refine AllReady.cons rfl (fun K hK => ?_) ?_
              · (go_simp; go_at_call 54; refine (HPt.out _).mono ?_; rintro e w5 ⟨rfl, hb⟩; have H5 : Hid (Below wr.heap.size wr w5) := HB0.out.trans (hb.mono HB0.out.size); obtain ⟨t0, t1, t2, _⟩ := HI.out.st.on H5.out; clear hb)
                try go_simp
                first
                  | (refine hK _ _ ?_; clear hK K)
                  | skip
                refine wpAny_take (i := 7) (v := ?_) rfl (by as_aux_lemma => kernel_rfl) (by as_aux_lemma => kernel_rfl) (by as_aux_lemma => kernel_rfl) (fun _ _ _ h => h) (Or.inl ⟨by as_aux_lemma => kernel_rfl, ?_⟩) ?_
                rotate_left
                focus (intro w; go_simp; (try (with_reducible rfl)); done)
                go_simp
                refine wpAny_ready (rs := [8]) (by as_aux_lemma => kernel_rfl) (by simp) ?_
                refine AllReady.cons rfl (fun K hK => ?_) ?_
                · (go_simp; go_at_call 31; refine (HBl.out _).mono ?_; rintro e w6 ⟨rfl, hb⟩; have H6 : Hid (Below wr.heap.size wr w6) := H5.out.trans (hb.mono H5.out.size); obtain ⟨v0, v1, v2, v3⟩ := HI.out.st.on H6.out; have v30 := v3 0; have v31 := v3 1; have v32 := v3 2; clear hb)
                  try go_simp
                  first
                    | (refine hK _ _ ?_; clear hK K)
                    | skip
                  refine wpAny_ready (rs := [9]) (by as_aux_lemma => kernel_rfl) (by simp) ?_
                  refine AllReady.cons rfl (fun K hK => ?_) ?_
                  · go_simp
                    try go_simp
                    first
                      | (refine hK _ _ ?_; clear hK K)
                      | skip
                    refine wpAny_done (by kernel_rfl) ?_ _
                    go_wp2
                    go_meet
                    case rel => exact HMt.out _ H6.out
                  exact AllReady.nil
                exact AllReady.nil
              exact AllReady.nil
            exact AllReady.nil
          refine AllReady.cons rfl (fun K hK => ?_) ?_
          · go_simp
            try go_simp
            first
              | (refine hK _ _ ?_; clear hK K)
              | skip
            refine wpAny_ready (rs := [3, 6]) (by as_aux_lemma => kernel_rfl) (by simp) ?_
            refine AllReady.cons rfl (fun K hK => ?_) ?_
            · go_simp
              try go_simp
              first
                | (refine hK _ _ ?_; clear hK K)
                | skip
              refine wpAny_take (i := 4) (v := ?_) rfl (by as_aux_lemma => kernel_rfl) (by as_aux_lemma => kernel_rfl) (by as_aux_lemma => kernel_rfl) (fun _ _ _ h => h) (Or.inl ⟨by as_aux_lemma => kernel_rfl, ?_⟩) ?_
              rotate_left
              focus (intro w; go_simp; (try (with_reducible rfl)); done)
              go_simp
              refine wpAny_ready (rs := [6]) (by as_aux_lemma => kernel_rfl) (by simp) ?_
              refine AllReady.cons rfl (fun K hK => ?_) ?_
              · (go_simp; go_at_call 54; refine (HPt.out _).mono ?_; rintro e w5 ⟨rfl, hb⟩; have H5 : Hid (Below wr.heap.size wr w5) := HB0.out.trans (hb.mono HB0.out.size); obtain ⟨t0, t1, t2, _⟩ := HI.out.st.on H5.out; clear hb)
                try go_simp
                first
                  | (refine hK _ _ ?_; clear hK K)
                  | skip
                refine wpAny_take (i := 7) (v := ?_) rfl (by as_aux_lemma => kernel_rfl) (by as_aux_lemma => kernel_rfl) (by as_aux_lemma => kernel_rfl) (fun _ _ _ h => h) (Or.inl ⟨by as_aux_lemma => kernel_rfl, ?_⟩) ?_
                rotate_left
                focus (intro w; go_simp; (try (with_reducible rfl)); done)
                go_simp
                refine wpAny_ready (rs := [8]) (by as_aux_lemma => kernel_rfl) (by simp) ?_
                refine AllReady.cons rfl (fun K hK => ?_) ?_
                · (go_simp; go_at_call 31; refine (HBl.out _).mono ?_; rintro e w6 ⟨rfl, hb⟩; have H6 : Hid (Below wr.heap.size wr w6) := H5.out.trans (hb.mono H5.out.size); obtain ⟨v0, v1, v2, v3⟩ := HI.out.st.on H6.out; have v30 := v3 0; have v31 := v3 1; have v32 := v3 2; clear hb)
                  try go_simp
                  first
                    | (refine hK _ _ ?_; clear hK K)
                    | skip
                  refine wpAny_ready (rs := [9]) (by as_aux_lemma => kernel_rfl) (by simp) ?_
                  refine AllReady.cons rfl (fun K hK => ?_) ?_
                  · go_simp
                    try go_simp
                    first
                      | (refine hK _ _ ?_; clear hK K)
                      | skip
                    refine wpAny_done (by kernel_rfl) ?_ _
                    go_wp2
                    go_meet
                    case rel => exact HMt.out _ H6.out
                  exact AllReady.nil
                exact AllReady.nil
              exact AllReady.nil
            refine AllReady.cons rfl (fun K hK => ?_) ?_
            · (go_simp; go_at_call 54; refine (HPt.out _).mono ?_; rintro e w5 ⟨rfl, hb⟩; have H5 : Hid (Below wr.heap.size wr w5) := HB0.out.trans (hb.mono HB0.out.size); obtain ⟨t0, t1, t2, _⟩ := HI.out.st.on H5.out; clear hb)
              try go_simp
              first
                | (refine hK _ _ ?_; clear hK K)
                | skip
              refine wpAny_ready (rs := [3]) (by as_aux_lemma => kernel_rfl) (by simp) ?_
              refine AllReady.cons rfl (fun K hK => ?_) ?_
              · go_simp
                try go_simp
                first
                  | (refine hK _ _ ?_; clear hK K)
                  | skip
                refine wpAny_take (i := 4) (v := ?_) rfl (by as_aux_lemma => kernel_rfl) (by as_aux_lemma => kernel_rfl) (by as_aux_lemma => kernel_rfl) (fun _ _ _ h => h) (Or.inl ⟨by as_aux_lemma => kernel_rfl, ?_⟩) ?_
                rotate_left
                focus (intro w; go_simp; (try (with_reducible rfl)); done)
                go_simp
                refine wpAny_take (i := 7) (v := ?_) rfl (by as_aux_lemma => kernel_rfl) (by as_aux_lemma => kernel_rfl) (by as_aux_lemma => kernel_rfl) (fun _ _ _ h => h) (Or.inl ⟨by as_aux_lemma => kernel_rfl, ?_⟩) ?_
                rotate_left
                focus (intro w; go_simp; (try (with_reducible rfl)); done)
                go_simp
                refine wpAny_ready (rs := [8]) (by as_aux_lemma => kernel_rfl) (by simp) ?_
                refine AllReady.cons rfl (fun K hK => ?_) ?_
                · (go_simp; go_at_call 31; refine (HBl.out _).mono ?_; rintro e w6 ⟨rfl, hb⟩; have H6 : Hid (Below wr.heap.size wr w6) := H5.out.trans (hb.mono H5.out.size); obtain ⟨v0, v1, v2, v3⟩ := HI.out.st.on H6.out; have v30 := v3 0; have v31 := v3 1; have v32 := v3 2; clear hb)
                  try go_simp
                  first
                    | (refine hK _ _ ?_; clear hK K)
                    | skip
                  refine wpAny_ready (rs := [9]) (by as_aux_lemma => kernel_rfl) (by simp) ?_
                  refine AllReady.cons rfl (fun K hK => ?_) ?_
                  · go_simp
                    try go_simp
                    first
                      | (refine hK _ _ ?_; clear hK K)
                      | skip
                    refine wpAny_done (by kernel_rfl) ?_ _
                    go_wp2
                    go_meet
                    case rel => exact HMt.out _ H6.out
                  exact AllReady.nil
                exact AllReady.nil
              exact AllReady.nil
            exact AllReady.nil
          exact AllReady.nil
        refine AllReady.cons rfl (fun K hK => ?_) ?_
        · go_simp
          try go_simp
          first
            | (refine hK _ _ ?_; clear hK K)
            | skip
          refine wpAny_take (i := 4) (v := ?_) rfl (by as_aux_lemma => kernel_rfl) (by as_aux_lemma => kernel_rfl) (by as_aux_lemma => kernel_rfl) (fun _ _ _ h => h) (Or.inl ⟨by as_aux_lemma => kernel_rfl, ?_⟩) ?_
          rotate_left
          focus (intro w; go_simp; (try (with_reducible rfl)); done)
          go_simp
          refine wpAny_ready (rs := [0, 5]) (by as_aux_lemma => kernel_rfl) (by simp) ?_
          refine AllReady.cons rfl (fun K hK => ?_) ?_
          · go_simp
            try go_simp
            first
              | (refine hK _ _ ?_; clear hK K)
              | skip
            refine wpAny_ready (rs := [5]) (by as_aux_lemma => kernel_rfl) (by simp) ?_
            refine AllReady.cons rfl (fun K hK => ?_) ?_
            · go_simp
              try go_simp
              first
                | (refine hK _ _ ?_; clear hK K)
                | skip
              refine wpAny_ready (rs := [6]) (by as_aux_lemma => kernel_rfl) (by simp) ?_
              refine AllReady.cons rfl (fun K hK => ?_) ?_
              · (go_simp; go_at_call 54; refine (HPt.out _).mono ?_; rintro e w5 ⟨rfl, hb⟩; have H5 : Hid (Below wr.heap.size wr w5) := HB0.out.trans (hb.mono HB0.out.size); obtain ⟨t0, t1, t2, _⟩ := HI.out.st.on H5.out; clear hb)
                try go_simp
                first
                  | (refine hK _ _ ?_; clear hK K)
                  | skip
                refine wpAny_take (i := 7) (v := ?_) rfl (by as_aux_lemma => kernel_rfl) (by as_aux_lemma => kernel_rfl) (by as_aux_lemma => kernel_rfl) (fun _ _ _ h => h) (Or.inl ⟨by as_aux_lemma => kernel_rfl, ?_⟩) ?_
                rotate_left
                focus (intro w; go_simp; (try (with_reducible rfl)); done)
                go_simp
                refine wpAny_ready (rs := [8]) (by as_aux_lemma => kernel_rfl) (by simp) ?_
                refine AllReady.cons rfl (fun K hK => ?_) ?_
                · (go_simp; go_at_call 31; refine (HBl.out _).mono ?_; rintro e w6 ⟨rfl, hb⟩; have H6 : Hid (Below wr.heap.size wr w6) := H5.out.trans (hb.mono H5.out.size); obtain ⟨v0, v1, v2, v3⟩ := HI.out.st.on H6.out; have v30 := v3 0; have v31 := v3 1; have v32 := v3 2; clear hb)
                  try go_simp
                  first
                    | (refine hK _ _ ?_; clear hK K)
                    | skip
                  refine wpAny_ready (rs := [9]) (by as_aux_lemma => kernel_rfl) (by simp) ?_
                  refine AllReady.cons rfl (fun K hK => ?_) ?_
                  · go_simp
                    try go_simp
                    first
                      | (refine hK _ _ ?_; clear hK K)
                      | skip
                    refine wpAny_done (by kernel_rfl) ?_ _
                    go_wp2
                    go_meet
                    case rel => exact HMt.out _ H6.out
                  exact AllReady.nil
                exact AllReady.nil
              exact AllReady.nil
            exact AllReady.nil
          refine AllReady.cons rfl (fun K hK => ?_) ?_
          · go_simp
            try go_simp
            first
              | (refine hK _ _ ?_; clear hK K)
              | skip
            refine wpAny_ready (rs := [0, 6]) (by as_aux_lemma => kernel_rfl) (by simp) ?_
            refine AllReady.cons rfl (fun K hK => ?_) ?_
            · go_simp
              try go_simp
              first
                | (refine hK _ _ ?_; clear hK K)
                | skip
              refine wpAny_ready (rs := [6]) (by as_aux_lemma => kernel_rfl) (by simp) ?_
              refine AllReady.cons rfl (fun K hK => ?_) ?_
              · (go_simp; go_at_call 54; refine (HPt.out _).mono ?_; rintro e w5 ⟨rfl, hb⟩; have H5 : Hid (Below wr.heap.size wr w5) := HB0.out.trans (hb.mono HB0.out.size); obtain ⟨t0, t1, t2, _⟩ := HI.out.st.on H5.out; clear hb)
                try go_simp
                first
                  | (refine hK _ _ ?_; clear hK K)
                  | skip
                refine wpAny_take (i := 7) (v := ?_) rfl (by as_aux_lemma => kernel_rfl) (by as_aux_lemma => kernel_rfl) (by as_aux_lemma => kernel_rfl) (fun _ _ _ h => h) (Or.inl ⟨by as_aux_lemma => kernel_rfl, ?_⟩) ?_
                rotate_left
                focus (intro w; go_simp; (try (with_reducible rfl)); done)
                go_simp
                refine wpAny_ready (rs := [8]) (by as_aux_lemma => kernel_rfl) (by simp) ?_
                refine AllReady.cons rfl (fun K hK => ?_) ?_
                · (go_simp; go_at_call 31; refine (HBl.out _).mono ?_; rintro e w6 ⟨rfl, hb⟩; have H6 : Hid (Below wr.heap.size wr w6) := H5.out.trans (hb.mono H5.out.size); obtain ⟨v0, v1, v2, v3⟩ := HI.out.st.on H6.out; have v30 := v3 0; have v31 := v3 1; have v32 := v3 2; clear hb)
                  try go_simp
                  first
                    | (refine hK _ _ ?_; clear hK K)
                    | skip
                  refine wpAny_ready (rs := [9]) (by as_aux_lemma => kernel_rfl) (by simp) ?_
                  refine AllReady.cons rfl (fun K hK => ?_) ?_
                  · go_simp
                    try go_simp
                    first
                      | (refine hK _ _ ?_; clear hK K)
                      | skip
                    refine wpAny_done (by kernel_rfl) ?_ _
                    go_wp2
                    go_meet
                    case rel => exact HMt.out _ H6.out
                  exact AllReady.nil
                exact AllReady.nil
              exact AllReady.nil
            refine AllReady.cons rfl (fun K hK => ?_) ?_
            · (go_simp; go_at_call 54; refine (HPt.out _).mono ?_; rintro e w5 ⟨rfl, hb⟩; have H5 : Hid (Below wr.heap.size wr w5) := HB0.out.trans (hb.mono HB0.out.size); obtain ⟨t0, t1, t2, _⟩ := HI.out.st.on H5.out; clear hb)
              try go_simp
              first
                | (refine hK _ _ ?_; clear hK K)
                | skip
              refine wpAny_take (i := 7) (v := ?_) rfl (by as_aux_lemma => kernel_rfl) (by as_aux_lemma => kernel_rfl) (by as_aux_lemma => kernel_rfl) (fun _ _ _ h => h) (Or.inl ⟨by as_aux_lemma => kernel_rfl, ?_⟩) ?_
              rotate_left
              focus (intro w; go_simp; (try (with_reducible rfl)); done)
              go_simp
              refine wpAny_ready (rs := [0]) (by as_aux_lemma => kernel_rfl) (by simp) ?_
              refine AllReady.cons rfl (fun K hK => ?_) ?_
              · go_simp
                try go_simp
                first
                  | (refine hK _ _ ?_; clear hK K)
                  | skip
                refine wpAny_ready (rs := [8]) (by as_aux_lemma => kernel_rfl) (by simp) ?_
                refine AllReady.cons rfl (fun K hK => ?_) ?_
                · (go_simp; go_at_call 31; refine (HBl.out _).mono ?_; rintro e w6 ⟨rfl, hb⟩; have H6 : Hid (Below wr.heap.size wr w6) := H5.out.trans (hb.mono H5.out.size); obtain ⟨v0, v1, v2, v3⟩ := HI.out.st.on H6.out; have v30 := v3 0; have v31 := v3 1; have v32 := v3 2; clear hb)
                  try go_simp
                  first
                    | (refine hK _ _ ?_; clear hK K)
                    | skip
                  refine wpAny_ready (rs := [9]) (by as_aux_lemma => kernel_rfl) (by simp) ?_
                  refine AllReady.cons rfl (fun K hK => ?_) ?_
                  · go_simp
                    try go_simp
                    first
                      | (refine hK _ _ ?_; clear hK K)
                      | skip
                    refine wpAny_done (by kernel_rfl) ?_ _
                    go_wp2
                    go_meet
                    case rel => exact HMt.out _ H6.out
                  exact AllReady.nil
                exact AllReady.nil
              exact AllReady.nil
            exact AllReady.nil
          exact AllReady.nil
        refine AllReady.cons rfl (fun K hK => ?_) ?_
        · go_simp
          try go_simp
          first
            | (refine hK _ _ ?_; clear hK K)
            | skip
          refine wpAny_ready (rs := [0, 3, 6]) (by as_aux_lemma => kernel_rfl) (by simp) ?_
          refine AllReady.cons rfl (fun K hK => ?_) ?_
          · go_simp
            try go_simp
            first
              | (refine hK _ _ ?_; clear hK K)
              | skip
            refine wpAny_ready (rs := [3, 6]) (by as_aux_lemma => kernel_rfl) (by simp) ?_
            refine AllReady.cons rfl (fun K hK => ?_) ?_
            · go_simp
              try go_simp
              first
                | (refine hK _ _ ?_; clear hK K)
                | skip
              refine wpAny_take (i := 4) (v := ?_) rfl (by as_aux_lemma => kernel_rfl) (by as_aux_lemma => kernel_rfl) (by as_aux_lemma => kernel_rfl) (fun _ _ _ h => h) (Or.inl ⟨by as_aux_lemma => kernel_rfl, ?_⟩) ?_
              rotate_left
              focus (intro w; go_simp; (try (with_reducible rfl)); done)
              go_simp
              refine wpAny_ready (rs := [6]) (by as_aux_lemma => kernel_rfl) (by simp) ?_
              refine AllReady.cons rfl (fun K hK => ?_) ?_
              · (go_simp; go_at_call 54; refine (HPt.out _).mono ?_; rintro e w5 ⟨rfl, hb⟩; have H5 : Hid (Below wr.heap.size wr w5) := HB0.out.trans (hb.mono HB0.out.size); obtain ⟨t0, t1, t2, _⟩ := HI.out.st.on H5.out; clear hb)
                try go_simp
                first
                  | (refine hK _ _ ?_; clear hK K)
                  | skip
                refine wpAny_take (i := 7) (v := ?_) rfl (by as_aux_lemma => kernel_rfl) (by as_aux_lemma => kernel_rfl) (by as_aux_lemma => kernel_rfl) (fun _ _ _ h => h) (Or.inl ⟨by as_aux_lemma => kernel_rfl, ?_⟩) ?_
                rotate_left
                focus (intro w; go_simp; (try (with_reducible rfl)); done)
                go_simp
                refine wpAny_ready (rs := [8]) (by as_aux_lemma => kernel_rfl) (by simp) ?_
                refine AllReady.cons rfl (fun K hK => ?_) ?_
                · (go_simp; go_at_call 31; refine (HBl.out _).mono ?_; rintro e w6 ⟨rfl, hb⟩; have H6 : Hid (Below wr.heap.size wr w6) := H5.out.trans (hb.mono H5.out.size); obtain ⟨v0, v1, v2, v3⟩ := HI.out.st.on H6.out; have v30 := v3 0; have v31 := v3 1; have v32 := v3 2; clear hb)
                  try go_simp
                  first
                    | (refine hK _ _ ?_; clear hK K)
                    | skip
                  refine wpAny_ready (rs := [9]) (by as_aux_lemma => kernel_rfl) (by simp) ?_
                  refine AllReady.cons rfl (fun K hK => ?_) ?_
                  · go_simp
                    try go_simp
                    first
                      | (refine hK _ _ ?_; clear hK K)
                      | skip
                    refine wpAny_done (by kernel_rfl) ?_ _
                    go_wp2
                    go_meet
                    case rel => exact HMt.out _ H6.out
                  exact AllReady.nil
                exact AllReady.nil
              exact AllReady.nil
            refine AllReady.cons rfl (fun K hK => ?_) ?_
            · (go_simp; go_at_call 54; refine (HPt.out _).mono ?_; rintro e w5 ⟨rfl, hb⟩; have H5 : Hid (Below wr.heap.size wr w5) := HB0.out.trans (hb.mono HB0.out.size); obtain ⟨t0, t1, t2, _⟩ := HI.out.st.on H5.out; clear hb)
              try go_simp
              first
                | (refine hK _ _ ?_; clear hK K)
                | skip
              refine wpAny_ready (rs := [3]) (by as_aux_lemma => kernel_rfl) (by simp) ?_
              refine AllReady.cons rfl (fun K hK => ?_) ?_
              · go_simp
                try go_simp
                first
                  | (refine hK _ _ ?_; clear hK K)
                  | skip
                refine wpAny_take (i := 4) (v := ?_) rfl (by as_aux_lemma => kernel_rfl) (by as_aux_lemma => kernel_rfl) (by as_aux_lemma => kernel_rfl) (fun _ _ _ h => h) (Or.inl ⟨by as_aux_lemma => kernel_rfl, ?_⟩) ?_
                rotate_left
                focus (intro w; go_simp; (try (with_reducible rfl)); done)
                go_simp
                refine wpAny_take (i := 7) (v := ?_) rfl (by as_aux_lemma => kernel_rfl) (by as_aux_lemma => kernel_rfl) (by as_aux_lemma => kernel_rfl) (fun _ _ _ h => h) (Or.inl ⟨by as_aux_lemma => kernel_rfl, ?_⟩) ?_
                rotate_left
                focus (intro w; go_simp; (try (with_reducible rfl)); done)
                go_simp
                refine wpAny_ready (rs := [8]) (by as_aux_lemma => kernel_rfl) (by simp) ?_
                refine AllReady.cons rfl (fun K hK => ?_) ?_
                · (go_simp; go_at_call 31; refine (HBl.out _).mono ?_; rintro e w6 ⟨rfl, hb⟩; have H6 : Hid (Below wr.heap.size wr w6) := H5.out.trans (hb.mono H5.out.size); obtain ⟨v0, v1, v2, v3⟩ := HI.out.st.on H6.out; have v30 := v3 0; have v31 := v3 1; have v32 := v3 2; clear hb)
                  try go_simp
                  first
                    | (refine hK _ _ ?_; clear hK K)
                    | skip
                  refine wpAny_ready (rs := [9]) (by as_aux_lemma => kernel_rfl) (by simp) ?_
                  refine AllReady.cons rfl (fun K hK => ?_) ?_
                  · go_simp
                    try go_simp
                    first
                      | (refine hK _ _ ?_; clear hK K)
                      | skip
                    refine wpAny_done (by kernel_rfl) ?_ _
                    go_wp2
                    go_meet
                    case rel => exact HMt.out _ H6.out
                  exact AllReady.nil
                exact AllReady.nil
              exact AllReady.nil
            exact AllReady.nil
          refine AllReady.cons rfl (fun K hK => ?_) ?_
          · go_simp
            try go_simp
            first
              | (refine hK _ _ ?_; clear hK K)
              | skip
            refine wpAny_take (i := 4) (v := ?_) rfl (by as_aux_lemma => kernel_rfl) (by as_aux_lemma => kernel_rfl) (by as_aux_lemma => kernel_rfl) (fun _ _ _ h => h) (Or.inl ⟨by as_aux_lemma => kernel_rfl, ?_⟩) ?_
            rotate_left
            focus (intro w; go_simp; (try (with_reducible rfl)); done)
            go_simp
            refine wpAny_ready (rs := [0, 6]) (by as_aux_lemma => kernel_rfl) (by simp) ?_
            refine AllReady.cons rfl (fun K hK => ?_) ?_
            · go_simp
              try go_simp
              first
                | (refine hK _ _ ?_; clear hK K)
                | skip
              refine wpAny_ready (rs := [6]) (by as_aux_lemma => kernel_rfl) (by simp) ?_
              refine AllReady.cons rfl (fun K hK => ?_) ?_
              · (go_simp; go_at_call 54; refine (HPt.out _).mono ?_; rintro e w5 ⟨rfl, hb⟩; have H5 : Hid (Below wr.heap.size wr w5) := HB0.out.trans (hb.mono HB0.out.size); obtain ⟨t0, t1, t2, _⟩ := HI.out.st.on H5.out; clear hb)
                try go_simp
                first
                  | (refine hK _ _ ?_; clear hK K)
                  | skip
                refine wpAny_take (i := 7) (v := ?_) rfl (by as_aux_lemma => kernel_rfl) (by as_aux_lemma => kernel_rfl) (by as_aux_lemma => kernel_rfl) (fun _ _ _ h => h) (Or.inl ⟨by as_aux_lemma => kernel_rfl, ?_⟩) ?_
                rotate_left
                focus (intro w; go_simp; (try (with_reducible rfl)); done)
                go_simp
                refine wpAny_ready (rs := [8]) (by as_aux_lemma => kernel_rfl) (by simp) ?_
                refine AllReady.cons rfl (fun K hK => ?_) ?_
                · (go_simp; go_at_call 31; refine (HBl.out _).mono ?_; rintro e w6 ⟨rfl, hb⟩; have H6 : Hid (Below wr.heap.size wr w6) := H5.out.trans (hb.mono H5.out.size); obtain ⟨v0, v1, v2, v3⟩ := HI.out.st.on H6.out; have v30 := v3 0; have v31 := v3 1; have v32 := v3 2; clear hb)
                  try go_simp
                  first
                    | (refine hK _ _ ?_; clear hK K)
                    | skip
                  refine wpAny_ready (rs := [9]) (by as_aux_lemma => kernel_rfl) (by simp) ?_
                  refine AllReady.cons rfl (fun K hK => ?_) ?_
                  · go_simp
                    try go_simp
                    first
                      | (refine hK _ _ ?_; clear hK K)
                      | skip
                    refine wpAny_done (by kernel_rfl) ?_ _
                    go_wp2
                    go_meet
                    case rel => exact HMt.out _ H6.out
                  exact AllReady.nil
                exact AllReady.nil
              exact AllReady.nil
            refine AllReady.cons rfl (fun K hK => ?_) ?_
            · (go_simp; go_at_call 54; refine (HPt.out _).mono ?_; rintro e w5 ⟨rfl, hb⟩; have H5 : Hid (Below wr.heap.size wr w5) := HB0.out.trans (hb.mono HB0.out.size); obtain ⟨t0, t1, t2, _⟩ := HI.out.st.on H5.out; clear hb)
              try go_simp
              first
                | (refine hK _ _ ?_; clear hK K)
                | skip
              refine wpAny_take (i := 7) (v := ?_) rfl (by as_aux_lemma => kernel_rfl) (by as_aux_lemma => kernel_rfl) (by as_aux_lemma => kernel_rfl) (fun _ _ _ h => h) (Or.inl ⟨by as_aux_lemma => kernel_rfl, ?_⟩) ?_
              rotate_left
              focus (intro w; go_simp; (try (with_reducible rfl)); done)
              go_simp
              refine wpAny_ready (rs := [0]) (by as_aux_lemma => kernel_rfl) (by simp) ?_
              refine AllReady.cons rfl (fun K hK => ?_) ?_
              · go_simp
                try go_simp
                first
                  | (refine hK _ _ ?_; clear hK K)
                  | skip
                refine wpAny_ready (rs := [8]) (by as_aux_lemma => kernel_rfl) (by simp) ?_
                refine AllReady.cons rfl (fun K hK => ?_) ?_
                · (go_simp; go_at_call 31; refine (HBl.out _).mono ?_; rintro e w6 ⟨rfl, hb⟩; have H6 : Hid (Below wr.heap.size wr w6) := H5.out.trans (hb.mono H5.out.size); obtain ⟨v0, v1, v2, v3⟩ := HI.out.st.on H6.out; have v30 := v3 0; have v31 := v3 1; have v32 := v3 2; clear hb)
                  try go_simp
                  first
                    | (refine hK _ _ ?_; clear hK K)
                    | skip
                  refine wpAny_ready (rs := [9]) (by as_aux_lemma => kernel_rfl) (by simp) ?_
                  refine AllReady.cons rfl (fun K hK => ?_) ?_
                  · go_simp
                    try go_simp
                    first
                      | (refine hK _ _ ?_; clear hK K)
                      | skip
                    refine wpAny_done (by kernel_rfl) ?_ _
                    go_wp2
                    go_meet
                    case rel => exact HMt.out _ H6.out
                  exact AllReady.nil
                exact AllReady.nil
              exact AllReady.nil
            exact AllReady.nil
          refine AllReady.cons rfl (fun K hK => ?_) ?_
          · (go_simp; go_at_call 54; refine (HPt.out _).mono ?_; rintro e w5 ⟨rfl, hb⟩; have H5 : Hid (Below wr.heap.size wr w5) := HB0.out.trans (hb.mono HB0.out.size); obtain ⟨t0, t1, t2, _⟩ := HI.out.st.on H5.out; clear hb)
            try go_simp
            first
              | (refine hK _ _ ?_; clear hK K)
              | skip
            refine wpAny_ready (rs := [0, 3]) (by as_aux_lemma => kernel_rfl) (by simp) ?_
            refine AllReady.cons rfl (fun K hK => ?_) ?_
            · go_simp
              try go_simp
              first
                | (refine hK _ _ ?_; clear hK K)
                | skip
              refine wpAny_ready (rs := [3]) (by as_aux_lemma => kernel_rfl) (by simp) ?_
              refine AllReady.cons rfl (fun K hK => ?_) ?_
              · go_simp
                try go_simp
                first
                  | (refine hK _ _ ?_; clear hK K)
                  | skip
                refine wpAny_take (i := 4) (v := ?_) rfl (by as_aux_lemma => kernel_rfl) (by as_aux_lemma => kernel_rfl) (by as_aux_lemma => kernel_rfl) (fun _ _ _ h => h) (Or.inl ⟨by as_aux_lemma => kernel_rfl, ?_⟩) ?_
                rotate_left
                focus (intro w; go_simp; (try (with_reducible rfl)); done)
                go_simp
                refine wpAny_take (i := 7) (v := ?_) rfl (by as_aux_lemma => kernel_rfl) (by as_aux_lemma => kernel_rfl) (by as_aux_lemma => kernel_rfl) (fun _ _ _ h => h) (Or.inl ⟨by as_aux_lemma => kernel_rfl, ?_⟩) ?_
                rotate_left
                focus (intro w; go_simp; (try (with_reducible rfl)); done)
                go_simp
                refine wpAny_ready (rs := [8]) (by as_aux_lemma => kernel_rfl) (by simp) ?_
                refine AllReady.cons rfl (fun K hK => ?_) ?_
                · (go_simp; go_at_call 31; refine (HBl.out _).mono ?_; rintro e w6 ⟨rfl, hb⟩; have H6 : Hid (Below wr.heap.size wr w6) := H5.out.trans (hb.mono H5.out.size); obtain ⟨v0, v1, v2, v3⟩ := HI.out.st.on H6.out; have v30 := v3 0; have v31 := v3 1; have v32 := v3 2; clear hb)
                  try go_simp
                  first
                    | (refine hK _ _ ?_; clear hK K)
                    | skip
                  refine wpAny_ready (rs := [9]) (by as_aux_lemma => kernel_rfl) (by simp) ?_
                  refine AllReady.cons rfl (fun K hK => ?_) ?_
                  · go_simp
                    try go_simp
                    first
                      | (refine hK _ _ ?_; clear hK K)
                      | skip
                    refine wpAny_done (by kernel_rfl) ?_ _
                    go_wp2
                    go_meet
                    case rel => exact HMt.out _ H6.out
                  exact AllReady.nil
                exact AllReady.nil
              exact AllReady.nil
            refine AllReady.cons rfl (fun K hK => ?_) ?_
            · go_simp
              try go_simp
              first
                | (refine hK _ _ ?_; clear hK K)
                | skip
              refine wpAny_take (i := 4) (v := ?_) rfl (by as_aux_lemma => kernel_rfl) (by as_aux_lemma => kernel_rfl) (by as_aux_lemma => kernel_rfl) (fun _ _ _ h => h) (Or.inl ⟨by as_aux_lemma => kernel_rfl, ?_⟩) ?_
              rotate_left
              focus (intro w; go_simp; (try (with_reducible rfl)); done)
              go_simp
              refine wpAny_take (i := 7) (v := ?_) rfl (by as_aux_lemma => kernel_rfl) (by as_aux_lemma => kernel_rfl) (by as_aux_lemma => kernel_rfl) (fun _ _ _ h => h) (Or.inl ⟨by as_aux_lemma => kernel_rfl, ?_⟩) ?_
              rotate_left
              focus (intro w; go_simp; (try (with_reducible rfl)); done)
              go_simp
              refine wpAny_ready (rs := [0]) (by as_aux_lemma => kernel_rfl) (by simp) ?_
              refine AllReady.cons rfl (fun K hK => ?_) ?_
              · go_simp
                try go_simp
                first
                  | (refine hK _ _ ?_; clear hK K)
                  | skip
                refine wpAny_ready (rs := [8]) (by as_aux_lemma => kernel_rfl) (by simp) ?_
                refine AllReady.cons rfl (fun K hK => ?_) ?_
                · (go_simp; go_at_call 31; refine (HBl.out _).mono ?_; rintro e w6 ⟨rfl, hb⟩; have H6 : Hid (Below wr.heap.size wr w6) := H5.out.trans (hb.mono H5.out.size); obtain ⟨v0, v1, v2, v3⟩ := HI.out.st.on H6.out; have v30 := v3 0; have v31 := v3 1; have v32 := v3 2; clear hb)
                  try go_simp
                  first
                    | (refine hK _ _ ?_; clear hK K)
                    | skip
                  refine wpAny_ready (rs := [9]) (by as_aux_lemma => kernel_rfl) (by simp) ?_
                  refine AllReady.cons rfl (fun K hK => ?_) ?_
                  · go_simp
                    try go_simp
                    first
                      | (refine hK _ _ ?_; clear hK K)
                      | skip
                    refine wpAny_done (by kernel_rfl) ?_ _
                    go_wp2
                    go_meet
                    case rel => exact HMt.out _ H6.out
                  exact AllReady.nil
                exact AllReady.nil
              exact AllReady.nil
            exact AllReady.nil
          exact AllReady.nil
        exact AllReady.nil
      case rest =>
      have HC : Hid (WyN w wr wc u4 P k j d F q) := hcut
      obtain ⟨p0, p1, p2, _⟩ := hcut.st
      clear hcut
      go_wp2_with (at_builtin; refine wp_step (wx := wc) rfl (.tmp 21) (.tmp 23) rfl u4 (j + 1) _ rfl rfl (d : Int) (F : Int) (q : Int) HC.out.row (by have := HJ.out; omega) ?_; intro b2 cap2 w10 hR hF hor; have H10 : Hid (WyI w w10 (.slice (some ⟨b2, 0, none⟩) (j + 1 + 1) cap2) P k (j + 1) d F q) := HC.out.app hR hF hor; clear hR hF hor)
      go_roundw
      case rel => exact ⟨j + 1, d, F, q, H10.out⟩
      case measure => obtain ⟨a9, c9, hv9, _⟩ := owns_slice HI.out.row; have := HJ.out; rw [hv9]; simp [lenV]; omega
    · rw [decide_eq_false h1] at HT
      have hj := (hlast h1).2.1
      clear hlast hnx
      obtain ⟨a9, c9, hv9, _, hor9, hcl9⟩ := owns_slice HI.out.row
      obtain ⟨g, rfl⟩ := hor9.resolve_left (by omega)
      subst hv9
      rw [hj] at *
      go_wp2_with (go_at_call 28; refine HT.out.mono ?_; rintro e w3 ⟨rfl, hb⟩; have H3 : Hid (Below wr.heap.size wr w3) := hb; clear hb HT)
      go_ret
      have hgl : g < wr.heap.size := by
        rcases HI.out.row.2 with ⟨e, _⟩ | ⟨g', cap', cur, e, _, hg', _⟩
        · simp at e
        · have e2 : g = g' := by simp at e; exact e.1
          rw [e2]; exact heap_lt hg'
      refine ⟨g, c9, rfl, (HI.out.far g rfl).1, Nat.lt_of_lt_of_le hgl H3.out.size, fun i a' f' s' hi => ?_, HI.out.bel.trans (H3.out.mono HI.out.bel.size)⟩
      obtain ⟨_, hc, _⟩ := hcl9 g 0 rfl
      rw [List.take_length] at hc
      obtain ⟨q0, q1, q2⟩ := stC_at _ i a' f' s' hi
      exact ⟨(H3.out.cell (p := ⟨g, i * 3, none⟩) hgl).trans (hc _ _ q0), (H3.out.cell (p := ⟨g, i * 3 + 1, none⟩) hgl).trans (hc _ _ q1), (H3.out.cell (p := ⟨g, i * 3 + 2, none⟩) hgl).trans (hc _ _ q2)⟩
end Go.Proofs.YtgmccpimpbnnpaaDoor
