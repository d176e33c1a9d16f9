import Derived.Test.YtaaeahpmnfifiaaDoorSnX
namespace Go.Proofs.YtaaeahpmnfifiaaDoor
open Go.RowKit Rec Sc
/-- the book as it is read -/
structure BoI (w : World) (kb N B : Nat) (S : Nat → Prop) (R C F M : Value) (rs cs fs ms : List Value) : Prop where
  box : w.heap[kb]? = some (.cells #[R, C, F, M] 58 (0, 0))
  r : w.ownsRow 0 36 1 R N rs
  c : w.ownsRow 0 36 1 C N cs
  f : w.ownsRow 0 36 1 F N fs
  m : w.ownsRow 0 36 1 M N ms
  en : ∀ k, k < N → ∃ a b c d, rs[k]? = some a ∧ cs[k]? = some b ∧ fs[k]? = some c ∧ ms[k]? = some d ∧ EnI w B S k a b c d
theorem BoI.on {w w' : World} {kb N B : Nat} {S : Nat → Prop} {R C F M : Value} {rs cs fs ms : List Value} (h : BoI w kb N B S R C F M rs cs fs ms) (hb : Below w.heap.size w w') : BoI w' kb N B S R C F M rs cs fs ms := by
  have t : ∀ {v : Value} {l : List Value}, w.ownsRow 0 36 1 v N l → w'.ownsRow 0 36 1 v N l := fun h => owns_fr h (below_fr hb (fun _ => False)) (fun _ _ e => e)
  refine ⟨(hb.block _ (heap_lt h.box)).trans h.box, t h.r, t h.c, t h.f, t h.m, fun k hk => ?_⟩
  obtain ⟨a, b, c, d, h1, h2, h3, h4, h5⟩ := h.en k hk
  exact ⟨a, b, c, d, h1, h2, h3, h4, h5.on hb⟩
/-- a row's k-th list -/
theorem row_at {w : World} {v : Value} {N : Nat} {l : List Value} (h : w.ownsRow 0 36 1 v N l) {k : Nat} {u : Value} (hk : l[k]? = some u) : ∃ g cap, v = .slice (some ⟨g, 0, none⟩) N cap ∧ w.cell? ⟨g, k, none⟩ = some u := by
  have hl := h.1
  have hkl := (List.getElem?_eq_some_iff.1 hk).1
  rcases h.2 with ⟨_, e⟩ | ⟨g, cap, cur, rfl, _, h1, h2, h3, h4, h5⟩
  · omega
  · refine ⟨g, cap, rfl, (cell_of_row _ _ _ _ _ _ h1).trans ?_⟩
    rw [← h5, List.getElem?_take_of_lt (by omega), Array.getElem?_toList] at hk
    exact hk
theorem row_len {w : World} {v : Value} {N : Nat} {l : List Value} (h : w.ownsRow 0 36 1 v N l) : ∃ a cap, v = .slice a N cap := by
  rcases h.2 with ⟨e, e2⟩ | ⟨g, cap, cur, rfl, _⟩
  · exact ⟨none, 0, by rw [e, e2]⟩
  · exact ⟨_, cap, rfl⟩
set_option maxRecDepth 100000 in
set_option maxHeartbeats 8000000 in
theorem whole_any (w : World) (kb N B : Nat) (S : Nat → Prop) (R C F M : Value) (rs cs fs ms : List Value) (H : BoI w kb N B S R C F M rs cs fs ms) (hN : N ≤ 3000000000000) :
    Calls Tryd.prog 22 #[.pointer (some ⟨kb, 0, none⟩)] w fun e w' => e = .returned (.bool true) ∧ Below w.heap.size w w' := by
  obtain ⟨ra, rcap, rfl⟩ := row_len H.r
  obtain ⟨ca, ccap, rfl⟩ := row_len H.c
  obtain ⟨fa, fcap, rfl⟩ := row_len H.f
  obtain ⟨ma, mcap, rfl⟩ := row_len H.m
  have HH : Hid (BoI w kb N B S (.slice ra N rcap) (.slice ca N ccap) (.slice fa N fcap) (.slice ma N mcap) rs cs fs ms) := H
  clear H
  have HC : Hid (∀ wx, Below w.heap.size w wx → wx.cell? ⟨kb, 0, none⟩ = some (.slice ra N rcap) ∧ wx.cell? ⟨kb, 1, none⟩ = some (.slice ca N ccap) ∧ wx.cell? ⟨kb, 2, none⟩ = some (.slice fa N fcap) ∧ wx.cell? ⟨kb, 3, none⟩ = some (.slice ma N mcap)) := fun wx hb => by
    have h := (HH.out.on hb).box
    exact ⟨cell_of_row _ _ 0 _ _ _ h, cell_of_row _ _ 1 _ _ _ h, cell_of_row _ _ 2 _ _ _ h, cell_of_row _ _ 3 _ _ _ h⟩
  go_enter Tryd.func22, Tryd.ntmps22
  go_wp2
  go_loopw [3] (fun s3 wr => ∃ k : Nat, k ≤ N ∧ s3 = .int .i64 (k : Int) ∧ Below w.heap.size w wr) (fun s3 _ => N - (intOf s3).toNat)
  case atStart => exact ⟨0, Nat.zero_le _, rfl, Below.refl _ _⟩
  case round =>
    obtain ⟨k, hk, rfl, hI⟩ := hrel
    have HI : Hid (Below w.heap.size w wr) := hI
    clear hI
    obtain ⟨c0, c1, c2, c3⟩ := HC.out _ HI.out
    by_cases hlt : k < N
    · have hlt' : (k : Int) < (N : Int) := by omega
      have HW := HH.out.on HI.out
      obtain ⟨rv, cv, fv, mv, hr, hc, hf, hm, hE⟩ := HW.en k hlt
      obtain ⟨T, hT16, ⟨a1, n1, rfl, t1, _⟩, ⟨a2, n2, rfl, t2, _⟩, ⟨a3, n3, rfl, t3, _⟩, ⟨a4, n4, rfl, t4, _⟩⟩ := hE.at_
      obtain ⟨g1, _, e1, x1⟩ := row_at HW.r hr
      obtain ⟨g2, _, e2, x2⟩ := row_at HW.c hc
      obtain ⟨g3, _, e3, x3⟩ := row_at HW.f hf
      obtain ⟨g4, _, e4, x4⟩ := row_at HW.m hm
      cases e1; cases e2; cases e3; cases e4
      clear HW hr hc hf hm hE
      have CS : Hid (∀ n, Calls Tryd.prog 15 #[.slice a1 T.length n1, .slice a2 T.length n2] (wr.drewN n) fun e w' => e = .returned (.bool true) ∧ ∃ m, w' = (wr.drewN n).drewN m) := fun n => by
        refine (sameE_any (wr.drewN n) a1 a2 T.length n1 T.length n2 T T (t1.on (drewN_below wr n)) (t2.on (drewN_below wr n)) rfl rfl (by omega)).mono ?_
        rintro e w' ⟨rfl, q, rfl⟩
        exact ⟨by simp, q, rfl⟩
      have H3 : Hid (EntAt wr a3 (List.replicate T.length (mkE k)) ∧ EntAt wr a4 (List.replicate (T.length + 1) (mkE k))) := ⟨t3, t4⟩
      clear t1 t2 t3 t4
      simp only [List.length_replicate] at x3 x4
      go_upto_region 4 with fail
      go_quiet (first | (go_at_call 15; exact Calls.quiet_of (CS.out _)))
      clear CS x1 x2 c0 c1
      have HQ : Hid (Below w.heap.size w (wr.drewN nq) ∧ EntAt (wr.drewN nq) a3 (List.replicate T.length (mkE k)) ∧ EntAt (wr.drewN nq) a4 (List.replicate (T.length + 1) (mkE k))) := ⟨HI.out.trans ((drewN_below wr nq).mono HI.out.size), H3.out.1.on (drewN_below wr nq), H3.out.2.on (drewN_below wr nq)⟩
      replace c2 : (wr.drewN nq).cell? ⟨kb, 2, none⟩ = some (.slice (some ⟨g3, 0, none⟩) N fcap) := c2
      replace c3 : (wr.drewN nq).cell? ⟨kb, 3, none⟩ = some (.slice (some ⟨g4, 0, none⟩) N mcap) := c3
      replace x3 : (wr.drewN nq).cell? ⟨g3, k, none⟩ = some (.slice a3 T.length n3) := x3
      replace x4 : (wr.drewN nq).cell? ⟨g4, k, none⟩ = some (.slice a4 (T.length + 1) n4) := x4
      clear H3 HI
      generalize wr.drewN nq = wq at *
      go_upto_region 7 with fail
      obtain ⟨X, hX⟩ : ∃ X, wq.heap.size = X := ⟨_, rfl⟩
      obtain ⟨wm, hwm⟩ : ∃ wm, wq.alloc (.cells #[.int .i64 (-2 - (k : Int)), .string ⟨#[109, 97, 114, 107]⟩, .int .i64 0] 27) = wm := ⟨_, rfl⟩
      have hal : Below wq.heap.size wq wm := by rw [← hwm]; exact (Below.refl _ _).alloc (Nat.le_refl _) _
      have hXm : wm.heap[X]? = some (.cells #[.int .i64 (-2 - (k : Int)), .string ⟨#[109, 97, 114, 107]⟩, .int .i64 0] 27 (0, 0)) := by rw [← hwm, ← hX]; exact heap_alloc_new _ _
      have HM : Hid (Below w.heap.size w wm ∧ EntAt wm a3 (List.replicate T.length (mkE k)) ∧ EntAt wm a4 (List.replicate (T.length + 1) (mkE k))) := ⟨HQ.out.1.trans (hal.mono HQ.out.1.size), HQ.out.2.1.on hal, HQ.out.2.2.on hal⟩
      replace c2 : wm.cell? ⟨kb, 2, none⟩ = some (.slice (some ⟨g3, 0, none⟩) N fcap) := (hal.cell (block_lt_of_cell c2)).trans c2
      replace c3 : wm.cell? ⟨kb, 3, none⟩ = some (.slice (some ⟨g4, 0, none⟩) N mcap) := (hal.cell (block_lt_of_cell c3)).trans c3
      replace x3 : wm.cell? ⟨g3, k, none⟩ = some (.slice a3 T.length n3) := (hal.cell (block_lt_of_cell x3)).trans x3
      replace x4 : wm.cell? ⟨g4, k, none⟩ = some (.slice a4 (T.length + 1) n4) := (hal.cell (block_lt_of_cell x4)).trans x4
      have y0 : wm.cell? ⟨X, 0, none⟩ = some (.int .i64 (-2 - (k : Int))) := cell_of_row _ _ 0 _ _ _ hXm
      have y1 : wm.cell? ⟨X, 1, none⟩ = some (.string ⟨#[109, 97, 114, 107]⟩) := cell_of_row _ _ 1 _ _ _ hXm
      have y2 : wm.cell? ⟨X, 2, none⟩ = some (.int .i64 0) := cell_of_row _ _ 2 _ _ _ hXm
      rw [hwm, hX]
      clear hwm hX hal hXm HQ
      go_wp2
      go_loopw [5] (fun s5 wr2 => ∃ j d : Nat, j ≤ T.length + 1 ∧ s5 = .int .i64 (j : Int) ∧ wr2 = wm.drewN d) (fun s5 _ => T.length + 1 - (intOf s5).toNat)
      case atStart => exact ⟨0, 0, Nat.zero_le _, rfl, rfl⟩
      case round =>
        obtain ⟨j, d, hj, rfl, rfl⟩ := hrel
        by_cases hjl : j < T.length + 1
        · have hjl' : (j : Int) < (T.length : Int) + 1 := by omega
          have hj16 : (j : Int) < 17 := by omega
          obtain ⟨b4, q4, rfl, hq4, z0, z1, z2⟩ := HM.out.2.2.at (k := j) (by simp; omega)
          have hq4' : q4 = mkE k := by
            have := List.mem_of_getElem? hq4
            exact (List.mem_replicate.1 this).2
          subst hq4'
          clear hq4
          replace z0 : wm.cell? ⟨b4, j * 3, none⟩ = some (.int .i64 (-2 - (k : Int))) := z0
          replace z1 : wm.cell? ⟨b4, j * 3 + 1, none⟩ = some (.string ⟨#[109, 97, 114, 107]⟩) := z1
          replace z2 : wm.cell? ⟨b4, j * 3 + 2, none⟩ = some (.int .i64 0) := z2
          by_cases hjt : j < T.length
          · have hjt' : (j : Int) < (T.length : Int) := by omega
            obtain ⟨b3, q3, rfl, hq3, v0, v1, v2⟩ := HM.out.2.1.at (k := j) (by simp; omega)
            have hq3' : q3 = mkE k := by
              have := List.mem_of_getElem? hq3
              exact (List.mem_replicate.1 this).2
            subst hq3'
            clear hq3
            replace v0 : wm.cell? ⟨b3, j * 3, none⟩ = some (.int .i64 (-2 - (k : Int))) := v0
            replace v1 : wm.cell? ⟨b3, j * 3 + 1, none⟩ = some (.string ⟨#[109, 97, 114, 107]⟩) := v1
            replace v2 : wm.cell? ⟨b3, j * 3 + 2, none⟩ = some (.int .i64 0) := v2
            go_upto_region 10 with fail
            go_quiet (fail)
            go_wp2
            exact ⟨⟨j + 1, _, by omega, rfl, rfl⟩, by simp [intOf]; omega⟩
          · have hjt' : ¬ (j : Int) < (T.length : Int) := by omega
            have hjd : decide ((j : Int) < (T.length : Int)) = false := decide_eq_false hjt'
            go_upto_region 10 with fail
            go_quiet (fail)
            go_wp2
            exact ⟨⟨j + 1, _, by omega, rfl, rfl⟩, by simp [intOf]; omega⟩
        · have hjl' : ¬ (j : Int) < (T.length : Int) + 1 := by omega
          go_wp2
          exact ⟨⟨k + 1, by omega, rfl, HM.out.1.trans ((drewN_below wm d).mono HM.out.1.size)⟩, by simp [intOf]; omega⟩
    · have hlt' : ¬ (k : Int) < (N : Int) := by omega
      go_wp2
      go_ret
      exact ⟨rfl, HI.out⟩
end Go.Proofs.YtaaeahpmnfifiaaDoor
