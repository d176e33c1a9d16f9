import Derived.Test.YtgmccpimpbnnpaaDoorKImC
import Derived.Test.YtgmccpimpbnnpaaDoorKSpP
import Derived.BigQuiet
import Derived.ChangeKeysEq
import Derived.Test.YtgmccpimpbnnpaaDoorKBpI
namespace Go.Proofs.YtgmccpimpbnnpaaDoor
open Go.RowKit Go.Maps Rec
structure OpQ (w0 w : World) (D : Dk) (T : Tx) (n : Nat) : Prop where
  spc : Spc w0 w D T n
  c : T.c = fun _ => none
  us : T.us = []
theorem opq_of {w0 w : World} {D : Dk} {T : Tx} {n : Nat} {l : List Int} (hs : Ses w0 w D T) (hF : Fresh D.abs n l) (hc : T.c = fun _ => none) (hu : T.us = []) (hn : T.nb = n) (h0 : 128 ≤ n) (h1 : n ≤ 16384) (hlen : l.length = 512 * n) (hwf : ∀ j, 0 ≤ nth l j ∧ nth l j < 256) : OpQ w0 w D T n ∧ (ImB l n (fBase n) → ∀ b, fd (nD n) n (bmp D T) b = decide (nD n ≤ b ∧ b < n)) := by
  have hN := nM_bd h0 h1
  have hfull : D.full = l := by
    rw [abs_full, AD.full, hF.pen, hF.las]
    rfl
  have htv : ∀ i, tv D T i = bck l i := fun i => by rw [tv, hc, hfull]
  have hnth : ∀ i, i < n → ∀ j, j < 512 → nth (bck l i) j = nth l (512 * i + j) := fun i hi j hj => nth_blk hlen hi j hj
  have hbl : ∀ i, i < n → (bck l i).length = 512 := fun i hi => blk_length hlen hi
  refine ⟨⟨⟨hs, hF.down, hn, h0, h1, fun i hi => ?_⟩, hc, hu⟩, fun hI b => ?_⟩
  · rw [htv]
    refine ⟨hbl i hi, fun j => ?_⟩
    by_cases hj : j < 512
    · rw [hnth i hi j hj]; exact hwf _
    · rw [nth_out _ _ (by rw [hbl i hi]; omega)]; omega
  · unfold fd
    by_cases e : nD n ≤ b ∧ b < n
    · rw [decide_eq_true e, Bool.true_and]
      have hi : b < 4096 * nM n := by omega
      have hb : bn (bck l (98 + b / 4096)) (b % 4096) = bn l (401408 + b) := by
        rw [bn, bn, hnth _ (by omega) _ (by omega), show 512 * (98 + b / 4096) + b % 4096 / 8 = (401408 + b) / 8 by omega, show b % 4096 % 8 = (401408 + b) % 8 by omega]
      rw [isT, bmp, htv, bt, hb, hI.bit b hi, fBase, decide_eq_false (by omega), decide_eq_false (by omega)]
      rfl
    · rw [decide_eq_false e, Bool.false_and]
theorem opq_box {w w3 w7 w8 : World} {D : Dk} {T : Tx} {n k : Nat} (h : OpQ w3 w7 D T n) (hb : Below w.heap.size w w3) (hf : Fr (fun j => j = k) w7 w8) (h0 : w.heap.size ≤ k) (h1 : k < w3.heap.size) (hD : ∀ k, D.all k → w3.heap.size ≤ k) : OpQ w w8 D T n := by
  have hs : Ses w w7 D T := ⟨h.spc.ses.dk.far' hb, h.spc.ses.tx, h.spc.ses.d, h.spc.ses.nb, h.spc.ses.ap1, h.spc.ses.ap2, fun k hk => Nat.le_trans hb.size (h.spc.ses.far k hk)⟩
  refine ⟨⟨hs.fr hf (fun j hj => by have hj : j = k := hj; omega) (fun j hj e => ?_) (fun j hj e => ?_), h.spc.dn, h.spc.nb, h.spc.lo, h.spc.hi, h.spc.ok⟩, h.c, h.us⟩
  · have e : j = k := e
    have := h.spc.ses.far j hj
    omega
  · have e : j = k := e
    have := hD j hj
    omega
theorem res4 {fn : Func} {a b p c : Tmp} {ty : TypeId} (h : fn.results = #[.tmp a, .tmp b, .cell p ty, .tmp c]) (tmps : Array Value) (w : World) (g : Nat) (cs : Array Value)
    (hp : tmps.getD p undef = .pointer (some ⟨g, 0, none⟩)) (hl : (loadVar ty ⟨g, 0, none⟩).run Tryd.prog w = .ok (.agg cs) w) :
    (results fn tmps).run Tryd.prog w = .ok (.tuple #[tmps.getD a undef, tmps.getD b undef, .agg cs, tmps.getD c undef]) w := by
  have e : (results fn tmps).run Tryd.prog w = ((asAddr (tmps.getD p undef)).run Tryd.prog w).andThen fun x w₁ => ((loadVar ty x).run Tryd.prog w₁).andThen fun r w₂ => .ok (.tuple #[tmps.getD a undef, tmps.getD b undef, r, tmps.getD c undef]) w₂ := by
    simp only [results, h]
    simp [Sem.run_bind, Result.andThen]
  rw [e, hp]
  simp [asAddr, hl]
set_option maxRecDepth 100000 in
theorem numQ (w : World) (e : Int) (he : -1000 ≤ e ∧ e ≤ 1000) : Calls Tryd.prog 8 #[.int .i64 e] w fun e' w' => e' = .returned (.int .i64 e) ∧ w = w' := by
  have e2 : IntKind.i64.wrap e = e := by rw [IntKind.wrap_i64]; omega
  go_enter Tryd.func8, Tryd.ntmps8
  go_wp2
  go_ret
  exact ⟨rfl, rfl⟩
set_option maxRecDepth 100000 in
set_option maxHeartbeats 16000000 in
theorem beginQ (w : World) (M : Int) (ta : Option Addr) (tl tc : Nat) (ra : Option Addr) (rl rc : Nat) (ts : List Int) (ht : Ints w ta ts) (htl : ts.length = tl) (rs : List (Int × Option Addr × Nat × Nat × List Int)) (hr : RawAt w ra rl rs) (hrl : rl ≤ 1000000000000000) :
    Calls Tryd.prog 4 #[stuV M ta tl tc ra rl rc] w fun e w' => ∃ (rt : Nat) (D : Dk) (T : Tx), e = .returned (.tuple #[.pointer (some ⟨T.t, 0, none⟩), .pointer (some ⟨rt, 0, none⟩), geoV (nBq M : Nat), .bool true]) ∧ OpQ w w' D T (nBq M) ∧ (tl = 0 → rl = 0 → ∀ b, fd (nD (nBq M)) (nBq M) (bmp D T) b = decide (nD (nBq M) ≤ b ∧ b < nBq M)) := by
  have hnb := nBq_bd M
  have HIm : Hid (∀ wx, Below w.heap.size w wx → Calls Tryd.prog 12 #[stuV M ta tl tc ra rl rc] wx fun e w' => ∃ g l, e = .returned (.tuple #[.slice (some ⟨g, 0, none⟩) (512 * nBq M) (512 * nBq M), geoV (nBq M : Nat)]) ∧ wx.heap.size ≤ g ∧ Below wx.heap.size wx w' ∧ OwnB w' g (512 * nBq M) l ∧ l.length = 512 * nBq M ∧ (tl = 0 → rl = 0 → ImB l (nBq M) (fBase (nBq M)))) := fun wx hb => imageQ wx M ta tl tc ra rl rc ts (ht.on hb) htl rs (hr.on hb) hrl
  obtain ⟨n, hn⟩ : ∃ n, nBq M = n := ⟨_, rfl⟩
  rw [hn] at HIm hnb
  rw [hn]
  clear hn ht htl hr hrl
  obtain ⟨K, hK⟩ : ∃ K, 512 * n = K := ⟨_, rfl⟩
  have HOp : Hid (∀ wx p l, Bytes wx (some p) l → l.length = K → Calls Tryd.prog 13 #[.slice (some p) K K] wx fun e w' => ∃ d0, e = .returned (.tuple #[.pointer (some ⟨d0, 0, none⟩), .int .i64 0]) ∧ ∃ D, D.d = d0 ∧ Mine wx w' D ∧ Fresh D.abs n l) := fun wx p l h1 h2 => by
    have h9 := open_fresh wx p K n l h1 (by rw [h2, hK]) (by omega) (by omega)
    rw [hK] at h9
    refine h9.mono ?_
    rintro e w' ⟨D, rfl, h3, h4⟩
    exact ⟨D.d, rfl, D, rfl, h3, h4⟩
  have HOf : Hid (∀ wx p l, Bytes wx (some p) l → l.length = K → Calls Tryd.prog 14 #[.slice (some p) K K] wx fun e w' => ∃ r, e = .returned (.tuple #[.pointer (some ⟨r, 0, none⟩), .int .i64 0]) ∧ Below wx.heap.size wx w') := fun wx p l h1 h2 => by
    have := r3of_any wx p n K l h1 (by rw [h2, hK]) (by omega) (by omega)
    rw [hK] at this
    exact this
  rw [hK] at HIm
  have HK : Hid (512 * n = K) := hK
  clear hK
  have HNu : Hid (∀ wx, Calls Tryd.prog 8 #[.int .i64 0] wx fun e' w' => e' = .returned (.int .i64 0) ∧ wx = w') := fun wx => numQ wx 0 (by omega)
  unfold stuV at HIm
  unfold stuV
  unfold geoV at HIm
  obtain ⟨P, hP⟩ : ∃ P, w.heap.size = P := ⟨_, rfl⟩
  obtain ⟨wz, hwz⟩ : ∃ wz, (w.alloc (.cells #[.int .i64 M, .slice ta tl tc, .slice ra rl rc] 25)).alloc (.cells #[.int .i64 0, .int .i64 0, .int .i64 0, .int .i64 0, .int .i64 0] 29) = wz := ⟨_, rfl⟩
  have HZ : Hid (Below w.heap.size w wz ∧ StuAt wz P M ta tl tc ra rl rc ∧ wz.heap[P + 1]? = some (.cells #[.int .i64 0, .int .i64 0, .int .i64 0, .int .i64 0, .int .i64 0] 29 (0, 0)) ∧ wz.heap.size = P + 2 ∧ w.heap.size = P) := by
    rw [← hwz, ← hP]
    refine ⟨(below_new _).alloc (by simp) _, (Below.heap_alloc _ _ _ (by simp)).trans (heap_alloc_new _ _), ?_, by simp, rfl⟩
    have := heap_alloc_new (w.alloc (.cells #[.int .i64 M, .slice ta tl tc, .slice ra rl rc] 25)) (.cells #[.int .i64 0, .int .i64 0, .int .i64 0, .int .i64 0, .int .i64 0] 29)
    rw [World.size_alloc] at this
    exact this
  obtain ⟨z0, z1, z2⟩ := HZ.out.2.1.cells
  go_enter Tryd.func4, Tryd.ntmps4
  go_upto_region 2 with (go_at_call 12; refine (HIm.out _ HZ.out.1).mono ?_; rintro e w1 ⟨g, l, rfl, h1, h2, h3, h4, h5⟩; have H1 : Hid (wz.heap.size ≤ g ∧ Below wz.heap.size wz w1 ∧ OwnB w1 g K l ∧ l.length = K ∧ (tl = 0 → rl = 0 → ImB l n (fBase n))) := ⟨h1, h2, h3, h4, h5⟩; clear h1 h2 h3 h4 h5 HIm)
  obtain ⟨R, hR⟩ : ∃ R, w1.heap.size = R := ⟨_, rfl⟩
  obtain ⟨w2, hw2⟩ : ∃ w2, w1.alloc (.cells #[.int .i64 (n : Int), .int .i64 98, .int .i64 (gI n), .int .i64 (gD n), .int .i64 (gC n)] 29) = w2 := ⟨_, rfl⟩
  have H2 : Hid (Below w.heap.size w w2 ∧ GeoAt w2 R n ∧ w2.heap[P + 1]? = some (.cells #[.int .i64 0, .int .i64 0, .int .i64 0, .int .i64 0, .int .i64 0] 29 (0, 0)) ∧ OwnB w2 g K l ∧ P + 1 < R ∧ w2.heap.size = R + 1) := by
    have hb : Below w1.heap.size w1 w2 := by rw [← hw2]; exact below_new _
    have hbw : Below w.heap.size w w1 := HZ.out.1.trans (H1.out.2.1.mono HZ.out.1.size)
    have hs := HZ.out.2.2.2.1
    have hs1 := H1.out.2.1.size
    refine ⟨hbw.trans (hb.mono hbw.size), by rw [← hw2, ← hR]; exact heap_alloc_new _ _, (hb.block _ (by omega)).trans ((H1.out.2.1.block _ (by omega)).trans HZ.out.2.2.1), H1.out.2.2.1.on hb, by omega, by rw [← hw2]; simp [hR]⟩
  rw [hw2, hR]
  clear hw2 hR hwz z0 z1 z2
  go_upto_region 4 with (first
    | (go_at_call 13; refine (HOp.out _ _ l H2.out.2.2.2.1.bytes H1.out.2.2.2.1).mono ?_; rintro e w3 ⟨d0, rfl, D, hd, h1, h2⟩; have H3 : Hid (D.d = d0 ∧ Mine w2 w3 D ∧ Fresh D.abs n l) := ⟨hd, h1, h2⟩; clear hd h1 h2 HOp)
    | (go_at_call 14; refine (HOf.out _ _ l (H2.out.2.2.2.1.on H3.out.2.1.bel).bytes H1.out.2.2.2.1).mono ?_; rintro e w4 ⟨r0, rfl, h1⟩; have H4 : Hid (Below w3.heap.size w3 w4) := h1; clear h1 HOf))
  go_upto_region 6 with (go_at_call 8; refine (HNu.out _).mono ?_; rintro e wn ⟨rfl, rfl⟩)
  have HMi : Hid (Mine w2 w4 D) := H3.out.2.1.on H4.out
  go_upto_region 7 with (go_at_call 15; refine (begin_ses w2 w4 D HMi.out d0 H3.out.1).mono ?_; rintro e w5 ⟨T, rfl, h1, h2, h3, h4⟩; have H5 : Hid (Ses w2 w5 D T ∧ T.c = (fun _ => none) ∧ T.us = [] ∧ Below w4.heap.size w4 w5) := ⟨h1, h2, h3, h4⟩; clear h1 h2 h3 h4)
  have hb25 : Below w2.heap.size w2 w5 := (H3.out.2.1.bel.trans (H4.out.mono H3.out.2.1.bel.size)).trans (H5.out.2.2.2.mono (Nat.le_trans H3.out.2.1.bel.size H4.out.size))
  have HB5 : Hid (Below w2.heap.size w2 w5) := hb25
  have HX : Hid (∀ wx, Below w5.heap.size w5 wx → GeoAt wx R n ∧ wx.heap[P + 1]? = some (.cells #[.int .i64 0, .int .i64 0, .int .i64 0, .int .i64 0, .int .i64 0] 29 (0, 0))) := fun wx hb => by
    have h9 := HB5.out.trans (hb.mono HB5.out.size)
    exact ⟨H2.out.2.1.on h9, (h9.block _ (heap_lt H2.out.2.2.1)).trans H2.out.2.2.1⟩
  have HRb : Hid (∀ wx, Calls Tryd.prog 16 #[.pointer (some ⟨r0, 0, none⟩)] wx fun e w' => ∃ t, e = .returned (.pointer (some ⟨t, 0, none⟩)) ∧ Below wx.heap.size wx w') := fun wx => r6begin_any wx r0
  obtain ⟨tt, htt⟩ : ∃ tt, T.t = tt := ⟨_, rfl⟩
  have HTt : Hid (T.t = tt) := htt
  rw [htt]
  clear hb25 htt
  have hx0 := (HX.out _ (Below.refl _ _)).2
  obtain ⟨f0, f1, f2, f3, f4⟩ := (HX.out _ (Below.refl _ _)).1.cells
  have g0 : w5.cell? ⟨P + 1, 0, none⟩ = some (.int .i64 0) := cell_of_row _ _ 0 _ _ _ hx0
  have k0 : w5.frozen? ⟨P + 1, 0, none⟩ = false := frozen_of_row _ _ _ _ _ hx0
  have g1 : w5.cell? ⟨P + 1, 1, none⟩ = some (.int .i64 0) := cell_of_row _ _ 1 _ _ _ hx0
  have k1 : w5.frozen? ⟨P + 1, 1, none⟩ = false := frozen_of_row _ _ _ _ _ hx0
  have g2 : w5.cell? ⟨P + 1, 2, none⟩ = some (.int .i64 0) := cell_of_row _ _ 2 _ _ _ hx0
  have k2 : w5.frozen? ⟨P + 1, 2, none⟩ = false := frozen_of_row _ _ _ _ _ hx0
  have g3 : w5.cell? ⟨P + 1, 3, none⟩ = some (.int .i64 0) := cell_of_row _ _ 3 _ _ _ hx0
  have k3 : w5.frozen? ⟨P + 1, 3, none⟩ = false := frozen_of_row _ _ _ _ _ hx0
  have g4 : w5.cell? ⟨P + 1, 4, none⟩ = some (.int .i64 0) := cell_of_row _ _ 4 _ _ _ hx0
  have k4 : w5.frozen? ⟨P + 1, 4, none⟩ = false := frozen_of_row _ _ _ _ _ hx0
  clear hx0
  have HD : Hid (Below w5.heap.size w5 w5.drew) := (Below.refl _ _).drew
  have neR : ¬ R = P + 1 := by have := H2.out.2.2.2.2.1; omega
  have neR2 : ¬ P + 1 = R := by omega
  go_region_law (go_simp; first
    | (go_at_call 16; refine (HRb.out _).mono ?_; rintro e w6 ⟨rt, rfl, hb⟩; have H6 : Hid (Below w5.heap.size w5 w6) := HD.out.trans (hb.mono HD.out.size); have hx6 := (HX.out _ H6.out).2; obtain ⟨F0, F1, F2, F3, F4⟩ := (HX.out _ H6.out).1.cells; have G0 : w6.cell? ⟨P + 1, 0, none⟩ = some (.int .i64 0) := cell_of_row _ _ 0 _ _ _ hx6; have K0 : w6.frozen? ⟨P + 1, 0, none⟩ = false := frozen_of_row _ _ _ _ _ hx6; have G1 : w6.cell? ⟨P + 1, 1, none⟩ = some (.int .i64 0) := cell_of_row _ _ 1 _ _ _ hx6; have K1 : w6.frozen? ⟨P + 1, 1, none⟩ = false := frozen_of_row _ _ _ _ _ hx6; have G2 : w6.cell? ⟨P + 1, 2, none⟩ = some (.int .i64 0) := cell_of_row _ _ 2 _ _ _ hx6; have K2 : w6.frozen? ⟨P + 1, 2, none⟩ = false := frozen_of_row _ _ _ _ _ hx6; have G3 : w6.cell? ⟨P + 1, 3, none⟩ = some (.int .i64 0) := cell_of_row _ _ 3 _ _ _ hx6; have K3 : w6.frozen? ⟨P + 1, 3, none⟩ = false := frozen_of_row _ _ _ _ _ hx6; have G4 : w6.cell? ⟨P + 1, 4, none⟩ = some (.int .i64 0) := cell_of_row _ _ 4 _ _ _ hx6; have K4 : w6.frozen? ⟨P + 1, 4, none⟩ = false := frozen_of_row _ _ _ _ _ hx6; clear hb hx6))
  all_goals go_wp2
  all_goals (
    have hG1 : (((((w6.setCell ⟨P + 1, 0, none⟩ (.int .i64 (n : Int))).setCell ⟨P + 1, 1, none⟩ (.int .i64 98)).setCell ⟨P + 1, 2, none⟩ (.int .i64 (gI n))).setCell ⟨P + 1, 3, none⟩ (.int .i64 (gD n))).setCell ⟨P + 1, 4, none⟩ (.int .i64 (gC n))).heap[P + 1]? = some (.cells #[.int .i64 (n : Int), .int .i64 98, .int .i64 (gI n), .int .i64 (gD n), .int .i64 (gC n)] 29 (0, 0)) := by
      have a1 := heap_setCell_same _ _ 0 _ _ (.int .i64 (n : Int)) (HX.out _ H6.out).2
      have a2 := heap_setCell_same _ _ 1 _ _ (.int .i64 98) a1
      have a3 := heap_setCell_same _ _ 2 _ _ (.int .i64 (gI n)) a2
      have a4 := heap_setCell_same _ _ 3 _ _ (.int .i64 (gD n)) a3
      exact heap_setCell_same _ _ 4 _ _ (.int .i64 (gC n)) a4
    have hfr : Fr (fun k => k = P + 1) w6 (((((w6.setCell ⟨P + 1, 0, none⟩ (.int .i64 (n : Int))).setCell ⟨P + 1, 1, none⟩ (.int .i64 98)).setCell ⟨P + 1, 2, none⟩ (.int .i64 (gI n))).setCell ⟨P + 1, 3, none⟩ (.int .i64 (gD n))).setCell ⟨P + 1, 4, none⟩ (.int .i64 (gC n))) := ((((Fr.set (g := P + 1)).trans (Fr.set (g := P + 1)) (fun _ h => .inl h)).trans (Fr.set (g := P + 1)) (fun _ h => .inl h)).trans (Fr.set (g := P + 1)) (fun _ h => .inl h)).trans (Fr.set (g := P + 1)) (fun _ h => .inl h)
    obtain ⟨wl, hwl⟩ : ∃ wl, ((((w6.setCell ⟨P + 1, 0, none⟩ (.int .i64 (n : Int))).setCell ⟨P + 1, 1, none⟩ (.int .i64 98)).setCell ⟨P + 1, 2, none⟩ (.int .i64 (gI n))).setCell ⟨P + 1, 3, none⟩ (.int .i64 (gD n))).setCell ⟨P + 1, 4, none⟩ (.int .i64 (gC n)) = wl := ⟨_, rfl⟩
    rw [hwl] at hG1 hfr ⊢
    have hGd : GeoAt wl (P + 1) n := hG1
    obtain ⟨u0, u1, u2, u3, u4⟩ := hGd.cells
    have hop := opq_of H5.out.1 H3.out.2.2 H5.out.2.1 H5.out.2.2.1 (H5.out.1.nb.symm.trans H3.out.2.2.size) hnb.1 (by omega) (by rw [H1.out.2.2.2.1]; exact HK.out.symm) H2.out.2.2.2.1.wf
    have hfin : OpQ w wl D T n := opq_box (⟨hop.1.spc.on H6.out, hop.1.c, hop.1.us⟩ : OpQ w2 w6 D T n) H2.out.1 hfr (by have := HZ.out.2.2.2.2; omega) (by have := H2.out.2.2.2.2; omega) H3.out.2.1.far
    refine bodyPost_ret (v := .tuple #[.pointer (some ⟨tt, 0, none⟩), .pointer (some ⟨rt, 0, none⟩), geoV n, .bool true]) (res4 (fn := Tryd.f4) (a := 2) (b := 3) (p := 4) (c := 5) (ty := 29) rfl _ _ (P + 1) #[.int .i64 (n : Int), .int .i64 98, .int .i64 (gI n), .int .i64 (gD n), .int .i64 (gC n)] rfl ?_) rfl ?_
    · simp [go_sem, u0, u1, u2, u3, u4]
    · exact ⟨rt, D, T, by rw [HTt.out], hfin, fun e1 e2 => hop.2 (H1.out.2.2.2.2 e1 e2)⟩)
end Go.Proofs.YtgmccpimpbnnpaaDoor

namespace Go.Proofs.YtgmccpimpbnnpaaDoor
open Go.RowKit Go.Maps Rec
def NumAt (w : World) (a : Option Addr) (n : Nat) (f : Nat → Int) : Prop := n = 0 ∨ ∃ g o, a = some ⟨g, o, none⟩ ∧ ∀ i, i < n → w.cell? ⟨g, o + i, none⟩ = some (.int .i64 (f i))
theorem NumAt.on {w w' : World} {a : Option Addr} {n : Nat} {f : Nat → Int} (h : NumAt w a n f) (hb : Below w.heap.size w w') : NumAt w' a n f := h.imp id (fun ⟨g, o, e, hc⟩ => ⟨g, o, e, fun i hi => (hb.cell (block_lt_of_cell (hc i hi))).trans (hc i hi)⟩)
set_option maxRecDepth 100000 in
set_option maxHeartbeats 4000000 in
theorem sameQ (w : World) (a b : Option Addr) (n c d : Nat) (f : Nat → Int) (ha : NumAt w a n f) (hb : NumAt w b n f) (hn : n ≤ 100000) :
    Calls Tryd.prog 11 #[.slice a n c, .slice b n d] w fun e w' => e = .returned (.bool true) ∧ Below w.heap.size w w' := by
  go_enter Tryd.func11, Tryd.ntmps11
  go_wp2
  go_loopw [13] (fun s13 wr => ∃ j : Nat, j ≤ n ∧ s13 = .int .i64 (j : Int) ∧ Below w.heap.size w wr) (fun s13 _ => n - (intOf s13).toNat)
  case atStart => exact ⟨0, by omega, rfl, Below.refl _ _⟩
  case round =>
    obtain ⟨j, hj, rfl, hbl⟩ := hrel
    have HB : Hid (Below w.heap.size w wr) := hbl
    by_cases hlt : j < n
    · have hlt' : (j : Int) < (n : Int) := by omega
      obtain ⟨g1, o1, rfl, h1⟩ : ∃ g o, a = some ⟨g, o, none⟩ ∧ wr.cell? ⟨g, o + j, none⟩ = some (.int .i64 (f j)) := by
        rcases ha.on hbl with e | ⟨g, o, e, hc⟩
        · omega
        · exact ⟨g, o, e, hc j hlt⟩
      obtain ⟨g2, o2, rfl, h2⟩ : ∃ g o, b = some ⟨g, o, none⟩ ∧ wr.cell? ⟨g, o + j, none⟩ = some (.int .i64 (f j)) := by
        rcases hb.on hbl with e | ⟨g, o, e, hc⟩
        · omega
        · exact ⟨g, o, e, hc j hlt⟩
      clear hbl
      go_upto_region 6 with (fail)
      go_quiet (fail)
      go_wp2
      go_roundw
      case rel => exact ⟨j + 1, by omega, by go_num, HB.out.trans ((drewN_below wr nq).mono HB.out.size)⟩
      case measure => simp [intOf]; omega
    · have hlt' : ¬ (j : Int) < (n : Int) := by omega
      clear hbl
      go_wp2
      go_ret
      exact ⟨rfl, HB.out⟩
theorem neq42Q (w : World) (a b c d : Int) : (binOp .neq 50 (.agg #[.int .i64 a, .int .i64 b]) (.agg #[.int .i64 c, .int .i64 d])).run Tryd.prog w = .ok (.bool (!(decide (a = c) && decide (b = d)))) w := by
  obtain ⟨i0, hi0, hz0, hz1, hz2⟩ := info_parts infoI10
  have hce : Tryd.prog.cellsOf 3 = 1 := by kernel_rfl
  have hi : ∀ (e : Nat) (x y : Int) (w : World), (Op.equalIn (e + 1) 3 (.int .i64 x) (.int .i64 y)).run Tryd.prog w = .ok (x == y) w := fun e x y w => by
    simp [Op.equalIn, run_underlying Tryd.underlying3]
  have hp : ∀ (x y : Int) (w : World), (part 3 #[.int .i64 x, .int .i64 y] 0).run Tryd.prog w = .ok (.int .i64 x) w ∧ (part 3 #[.int .i64 x, .int .i64 y] 1).run Tryd.prog w = .ok (.int .i64 y) w := fun x y w => by
    constructor <;> simp [part, typeInfo, sizeOf, hi0, hz1]
  have h : ∀ e : Nat, (Op.equalIn (e + 2) 50 (.agg #[.int .i64 a, .int .i64 b]) (.agg #[.int .i64 c, .int .i64 d])).run Tryd.prog w = .ok (decide (a = c) && decide (b = d)) w := fun e => by
    rw [run_equalIn_array w (e + 1) _ _ Tryd.underlying50 hi0, hce]
    show (Op.eqItems (e + 1) 3 1 _ _ [0, 1]).run Tryd.prog w = _
    by_cases h1 : a = c
    · by_cases h2 : b = d
      · simp [Op.eqItems, hp, hi, h1, h2]
      · simp [Op.eqItems, hp, hi, h1, h2]
    · simp [Op.eqItems, hp, hi, h1]
  simp only [binOp]
  simp [Op.equal, Op.maxDepth, h 9998]
def PrsAt (w : World) (a : Option Addr) (n : Nat) (f1 f2 : Nat → Int) : Prop := n = 0 ∨ ∃ g o, a = some ⟨g, o, none⟩ ∧ ∀ i, i < n → w.cell? ⟨g, o + i * 2, none⟩ = some (.int .i64 (f1 i)) ∧ w.cell? ⟨g, o + i * 2 + 1, none⟩ = some (.int .i64 (f2 i))
theorem PrsAt.on {w w' : World} {a : Option Addr} {n : Nat} {f1 f2 : Nat → Int} (h : PrsAt w a n f1 f2) (hb : Below w.heap.size w w') : PrsAt w' a n f1 f2 := h.imp id (fun ⟨g, o, e, hc⟩ => ⟨g, o, e, fun i hi => ⟨(hb.cell (block_lt_of_cell (hc i hi).1)).trans (hc i hi).1, (hb.cell (block_lt_of_cell (hc i hi).2)).trans (hc i hi).2⟩⟩)
set_option maxRecDepth 100000 in
set_option maxHeartbeats 4000000 in
theorem samePQ (w : World) (a b : Option Addr) (n c d : Nat) (f1 f2 : Nat → Int) (ha : PrsAt w a n f1 f2) (hb : PrsAt w b n f1 f2) (hn : n ≤ 100000) :
    Calls Tryd.prog 10 #[.slice a n c, .slice b n d] w fun e w' => e = .returned (.bool true) ∧ Below w.heap.size w w' := by
  go_enter Tryd.func10, Tryd.ntmps10
  go_wp2
  go_loopw [13] (fun s13 wr => ∃ j : Nat, j ≤ n ∧ s13 = .int .i64 (j : Int) ∧ Below w.heap.size w wr) (fun s13 _ => n - (intOf s13).toNat)
  case atStart => exact ⟨0, by omega, rfl, Below.refl _ _⟩
  case round =>
    obtain ⟨j, hj, rfl, hbl⟩ := hrel
    have HB : Hid (Below w.heap.size w wr) := hbl
    by_cases hlt : j < n
    · have hlt' : (j : Int) < (n : Int) := by omega
      obtain ⟨g1, o1, rfl, h1, h1b⟩ : ∃ g o, a = some ⟨g, o, none⟩ ∧ wr.cell? ⟨g, o + j * 2, none⟩ = some (.int .i64 (f1 j)) ∧ wr.cell? ⟨g, o + j * 2 + 1, none⟩ = some (.int .i64 (f2 j)) := by
        rcases ha.on hbl with e | ⟨g, o, e, hc⟩
        · omega
        · exact ⟨g, o, e, hc j hlt⟩
      obtain ⟨g2, o2, rfl, h2, h2b⟩ : ∃ g o, b = some ⟨g, o, none⟩ ∧ wr.cell? ⟨g, o + j * 2, none⟩ = some (.int .i64 (f1 j)) ∧ wr.cell? ⟨g, o + j * 2 + 1, none⟩ = some (.int .i64 (f2 j)) := by
        rcases hb.on hbl with e | ⟨g, o, e, hc⟩
        · omega
        · exact ⟨g, o, e, hc j hlt⟩
      have E42 : ∀ wx : World, (binOp .neq 50 (.agg #[.int .i64 (f1 j), .int .i64 (f2 j)]) (.agg #[.int .i64 (f1 j), .int .i64 (f2 j)])).run Tryd.prog wx = .ok (.bool false) wx := fun wx => by rw [neq42Q]; simp
      clear hbl
      go_upto_region 6 with (fail)
      go_quiet (fail)
      go_wp2
      go_roundw
      case rel => exact ⟨j + 1, by omega, by go_num, HB.out.trans ((drewN_below wr nq).mono HB.out.size)⟩
      case measure => simp [intOf]; omega
    · have hlt' : ¬ (j : Int) < (n : Int) := by omega
      clear hbl
      go_wp2
      go_ret
      exact ⟨rfl, HB.out⟩
end Go.Proofs.YtgmccpimpbnnpaaDoor

namespace Go.Proofs.YtgmccpimpbnnpaaDoor
open Go.RowKit Go.Maps Rec
theorem Tks.inv0 {ν0 ν : Nat → Nat} {F0 F : Nat → Bool} {M : List Nat} (h : Tks ν0 F0 M ν F) (e : M = []) : ν = ν0 ∧ F = F0 := by
  cases h with
  | nil => exact ⟨rfl, rfl⟩
  | keep _ _ => simp at e
  | take _ _ _ => simp at e
theorem Tks.inv {ν0 ν : Nat → Nat} {F0 F : Nat → Bool} {M L : List Nat} {p : Nat} (h : Tks ν0 F0 M ν F) (e : M = L ++ [p]) : (ν p ≠ 0 ∧ Tks ν0 F0 L ν F) ∨ ∃ ν1 F1 i, Tks ν0 F0 L ν1 F1 ∧ ν1 p = 0 ∧ IsLo F1 i ∧ ν = upN ν1 p i ∧ F = upN F1 i false := by
  cases h with
  | nil => simp at e
  | keep h1 h2 =>
    obtain ⟨e1, e2⟩ := List.append_inj' e rfl
    injection e2 with e2
    subst e1 e2
    exact .inl ⟨h2, h1⟩
  | take h1 h2 h3 =>
    obtain ⟨e1, e2⟩ := List.append_inj' e rfl
    injection e2 with e2
    subst e1 e2
    exact .inr ⟨_, _, _, h1, h2, h3, rfl, rfl⟩
theorem lo_F {F : Nat → Bool} {i c : Nat} (hF : ∀ b, F b = decide (c ≤ b ∧ b < 128)) (hc : c < 128) (h : IsLo F i) : i = c := h.eq ⟨by rw [hF]; exact decide_eq_true ⟨Nat.le_refl _, hc⟩, fun j hj => by rw [hF]; exact decide_eq_false (by omega)⟩
theorem up_F {F : Nat → Bool} {c : Nat} (hF : ∀ b, F b = decide (c ≤ b ∧ b < 128)) : ∀ b, upN F c false b = decide (c + 1 ≤ b ∧ b < 128) := fun b => by
  by_cases e : b = c
  · subst e; rw [upN_same, decide_eq_false (by omega)]
  · rw [upN_other _ _ e, hF]
    by_cases e2 : c ≤ b ∧ b < 128
    · rw [decide_eq_true e2, decide_eq_true (by omega)]
    · rw [decide_eq_false e2, decide_eq_false (by omega)]
def ν1k : Nat → Nat := upN (fun _ => 0) 0 101
def ν2k : Nat → Nat := upN (upN ν1k 10 102) 12 103
theorem tks1 {F0 F : Nat → Bool} {ν : Nat → Nat} (hF : ∀ b, F0 b = decide (101 ≤ b ∧ b < 128)) (h : Tks (fun _ => 0) F0 (wayP 0) ν F) : ν = ν1k ∧ ∀ b, F b = decide (102 ≤ b ∧ b < 128) := by
  rcases h.inv (L := []) (p := 0) rfl with ⟨e, h1⟩ | ⟨ν1, F1, i, h1, _, hlo, rfl, rfl⟩
  · obtain ⟨rfl, _⟩ := h1.inv0 rfl
    exact absurd rfl e
  · obtain ⟨rfl, rfl⟩ := h1.inv0 rfl
    have := lo_F hF (by omega) hlo
    subst this
    exact ⟨rfl, up_F hF⟩
theorem tks2 {F0 F : Nat → Bool} {ν : Nat → Nat} (hF : ∀ b, F0 b = decide (102 ≤ b ∧ b < 128)) (h : Tks ν1k F0 (wayP 10) ν F) : ν = ν2k ∧ ∀ b, F b = decide (104 ≤ b ∧ b < 128) := by
  rcases h.inv (L := [10]) (p := 12) rfl with ⟨e, h1⟩ | ⟨ν1, F1, i, h1, _, hlo, rfl, rfl⟩
  · rcases h1.inv (L := []) (p := 10) rfl with ⟨e2, h2⟩ | ⟨ν2, F2, j, h2, _, hlo2, rfl, rfl⟩
    · obtain ⟨rfl, _⟩ := h2.inv0 rfl
      exact absurd rfl e2
    · obtain ⟨rfl, rfl⟩ := h2.inv0 rfl
      exact absurd rfl e
  · rcases h1.inv (L := []) (p := 10) rfl with ⟨e2, h2⟩ | ⟨ν2, F2, j, h2, _, hlo2, rfl, rfl⟩
    · obtain ⟨rfl, _⟩ := h2.inv0 rfl
      exact absurd rfl e2
    · obtain ⟨rfl, rfl⟩ := h2.inv0 rfl
      have := lo_F hF (by omega) hlo2
      subst this
      have hF2 := up_F hF
      have := lo_F hF2 (by omega) hlo
      subst this
      exact ⟨rfl, up_F hF2⟩
theorem allB2 : allB ν2k = [(0, 101), (10, 103)] := by decide +kernel
theorem allT2 : allT ν2k = [102] := by decide +kernel
theorem pre_len {L : List Nat} {p k : Nat} (h : L ++ [p] <+: wayP k) : L.length ≤ 2 := by
  have := h.length_le
  have := (wayP_len k).2
  rw [List.length_append] at *
  simp at *
  omega
theorem adz_no {T : Tx} {n k : Nat} {ν0 : Nat → Nat} {F0 : Nat → Bool} {z : Nat} (h : AdZ T n k ν0 F0 z) (hl : (lst T.c n).length + 9 ≤ 96) (hc : 3 ≤ ct F0 n) (hF : ∀ b, F0 b = true → b < n) : False := by
  rcases h with ⟨_, h⟩ | ⟨_, L, p, ν, F, h1, h2, h3, h4⟩
  · omega
  · have := (h2.count (n := n) hF).2
    have := pre_len h1
    omega
theorem ctF (c : Nat) (hc : c ≤ 128) (F : Nat → Bool) (hF : ∀ b, F b = decide (c ≤ b ∧ b < 128)) : ct F 128 = 128 - c := by
  have h : ∀ m, m ≤ 128 → ct F m = m - c := fun m => by
    induction m with
    | zero => intro _; rw [ct]; omega
    | succ m ih =>
      intro hm
      rw [ct, ih (by omega), hF]
      by_cases e : c ≤ m
      · rw [decide_eq_true ⟨e, by omega⟩, if_pos rfl]; omega
      · rw [decide_eq_false (by omega)]; simp; omega
  exact h 128 (Nat.le_refl _)
theorem cv0 (p : Nat) : cvP ν2k 0 p = 0 := by
  have hz : ∀ p, ν2k p ≠ 0 → p = 0 ∨ p = 10 ∨ p = 12 := fun p h => by
    unfold ν2k ν1k upN at h
    by_cases e0 : p = 0
    · exact .inl e0
    · by_cases e1 : p = 10
      · exact .inr (.inl e1)
      · by_cases e2 : p = 12
        · exact .inr (.inr e2)
        · simp [e0, e1, e2] at h
  by_cases h : ν2k p = 0
  · unfold cvP; rw [h]; split <;> rfl
  · have hg : gone ν2k 0 p = true := by
      rcases hz p h with rfl | rfl | rfl <;> decide +kernel
    unfold cvP
    rw [hg]
    rfl
end Go.Proofs.YtgmccpimpbnnpaaDoor

namespace Go.Proofs.YtgmccpimpbnnpaaDoor
open Go.RowKit Go.Maps Rec
set_option maxRecDepth 100000 in
set_option maxHeartbeats 4000000 in
theorem find_any (w0 w : World) (D : Dk) (T : Tx) (n : Nat) (h : Spc w0 w D T n) (hT : TabAt w) (x : Nat → Int) (k : Nat) (hk : k < 16522) :
    Calls Tryd.prog 17 #[.pointer (some ⟨T.t, 0, none⟩), geoV n, inV x, .int .i64 (k : Int)] w fun e w' => e = .returned (.tuple #[.int .i64 (fol (tv D T) (nD n) n (inN x) (wayL k)).1, .int .i64 (fol (tv D T) (nD n) n (inN x) (wayL k)).2]) ∧ Below w.heap.size w w' := by
  have hk1 : ¬ (k : Int) < 0 := by omega
  have hk2 : ¬ (16522 : Int) ≤ (k : Int) := by omega
  have HOr : Hid (∀ wx, Calls Tryd.prog 20 #[inV x] wx fun e w' => ∃ g cap, e = .returned (.agg #[.int .i64 0, .slice (some ⟨g, 0, none⟩) 12 cap]) ∧ wx.heap.size ≤ g ∧ OwnI w' g cap (inN x) ∧ Below wx.heap.size wx w') := fun wx => ownRow_any wx x
  obtain ⟨R1, hR1⟩ : ∃ R1, (fol (tv D T) (nD n) n (inN x) (wayL k)).1 = R1 := ⟨_, rfl⟩
  obtain ⟨R2, hR2⟩ : ∃ R2, (fol (tv D T) (nD n) n (inN x) (wayL k)).2 = R2 := ⟨_, rfl⟩
  have HFo : Hid (∀ wx g cap, Below w.heap.size w wx → OwnI wx g cap (inN x) → Calls Tryd.prog 23 #[.pointer (some ⟨T.t, 0, none⟩), geoV n, .agg #[.int .i64 0, .slice (some ⟨g, 0, none⟩) 12 cap], .int .i64 (k : Int), .func (.func 39) #[] #[]] wx fun e w' => e = .returned (.tuple #[.int .i64 R1, .int .i64 R2]) ∧ Below wx.heap.size wx w') := fun wx g cap hb ho => by
    rw [← hR1, ← hR2]; exact follow_find w0 wx D T n (h.on hb) (hT.on hb) k hk g cap (inN x) ho (inN_length x)
  rw [hR1, hR2]
  clear hR1 hR2 h hT
  unfold geoV at HFo ⊢
  unfold inV at HOr ⊢
  obtain ⟨tt, htt⟩ : ∃ tt, T.t = tt := ⟨_, rfl⟩
  rw [htt] at HFo ⊢
  clear htt
  obtain ⟨wa, hwa⟩ : ∃ wa, (w.alloc (.cells #[.int .i64 (n : Int), .int .i64 98, .int .i64 (gI n), .int .i64 (gD n), .int .i64 (gC n)] 29)).alloc (.cells #[.int .i64 (x 0), .int .i64 (x 1), .int .i64 (x 2), .int .i64 (x 3), .int .i64 (x 4), .int .i64 (x 5), .int .i64 (x 6), .int .i64 (x 7), .int .i64 (x 8), .int .i64 (x 9), .int .i64 (x 10), .int .i64 (x 11), .int .i64 (x 12), .int .i64 (x 13), .int .i64 (x 14)] 35) = wa := ⟨_, rfl⟩
  have HA : Hid (Below w.heap.size w wa ∧ ∀ wx, Below wa.heap.size wa wx → wx.cell? ⟨w.heap.size, 0, none⟩ = some (.int .i64 (n : Int)) ∧ wx.cell? ⟨w.heap.size, 1, none⟩ = some (.int .i64 98) ∧ wx.cell? ⟨w.heap.size, 2, none⟩ = some (.int .i64 (gI n)) ∧ wx.cell? ⟨w.heap.size, 3, none⟩ = some (.int .i64 (gD n)) ∧ wx.cell? ⟨w.heap.size, 4, none⟩ = some (.int .i64 (gC n)) ∧ wx.cell? ⟨w.heap.size + 1, 0, none⟩ = some (.int .i64 (x 0)) ∧ wx.cell? ⟨w.heap.size + 1, 1, none⟩ = some (.int .i64 (x 1)) ∧ wx.cell? ⟨w.heap.size + 1, 2, none⟩ = some (.int .i64 (x 2)) ∧ wx.cell? ⟨w.heap.size + 1, 3, none⟩ = some (.int .i64 (x 3)) ∧ wx.cell? ⟨w.heap.size + 1, 4, none⟩ = some (.int .i64 (x 4)) ∧ wx.cell? ⟨w.heap.size + 1, 5, none⟩ = some (.int .i64 (x 5)) ∧ wx.cell? ⟨w.heap.size + 1, 6, none⟩ = some (.int .i64 (x 6)) ∧ wx.cell? ⟨w.heap.size + 1, 7, none⟩ = some (.int .i64 (x 7)) ∧ wx.cell? ⟨w.heap.size + 1, 8, none⟩ = some (.int .i64 (x 8)) ∧ wx.cell? ⟨w.heap.size + 1, 9, none⟩ = some (.int .i64 (x 9)) ∧ wx.cell? ⟨w.heap.size + 1, 10, none⟩ = some (.int .i64 (x 10)) ∧ wx.cell? ⟨w.heap.size + 1, 11, none⟩ = some (.int .i64 (x 11)) ∧ wx.cell? ⟨w.heap.size + 1, 12, none⟩ = some (.int .i64 (x 12)) ∧ wx.cell? ⟨w.heap.size + 1, 13, none⟩ = some (.int .i64 (x 13)) ∧ wx.cell? ⟨w.heap.size + 1, 14, none⟩ = some (.int .i64 (x 14))) := by
    rw [← hwa]
    refine ⟨(below_new _).alloc (by simp) _, fun wx hb => ?_⟩
    have h1 : wx.heap[w.heap.size]? = some (.cells #[.int .i64 (n : Int), .int .i64 98, .int .i64 (gI n), .int .i64 (gD n), .int .i64 (gC n)] 29 (0, 0)) := (hb.block _ (by simp; omega)).trans ((Below.heap_alloc _ _ _ (by simp)).trans (heap_alloc_new _ _))
    have h2 : wx.heap[w.heap.size + 1]? = some (.cells #[.int .i64 (x 0), .int .i64 (x 1), .int .i64 (x 2), .int .i64 (x 3), .int .i64 (x 4), .int .i64 (x 5), .int .i64 (x 6), .int .i64 (x 7), .int .i64 (x 8), .int .i64 (x 9), .int .i64 (x 10), .int .i64 (x 11), .int .i64 (x 12), .int .i64 (x 13), .int .i64 (x 14)] 35 (0, 0)) := by
      have := heap_alloc_new (w.alloc (.cells #[.int .i64 (n : Int), .int .i64 98, .int .i64 (gI n), .int .i64 (gD n), .int .i64 (gC n)] 29)) (.cells #[.int .i64 (x 0), .int .i64 (x 1), .int .i64 (x 2), .int .i64 (x 3), .int .i64 (x 4), .int .i64 (x 5), .int .i64 (x 6), .int .i64 (x 7), .int .i64 (x 8), .int .i64 (x 9), .int .i64 (x 10), .int .i64 (x 11), .int .i64 (x 12), .int .i64 (x 13), .int .i64 (x 14)] 35)
      rw [World.size_alloc] at this
      exact (hb.block _ (by simp)).trans this
    refine ⟨?_, ?_, ?_, ?_, ?_, ?_, ?_, ?_, ?_, ?_, ?_, ?_, ?_, ?_, ?_, ?_, ?_, ?_, ?_, ?_⟩
    iterate 5 (rw [cell_of_row _ _ _ _ _ _ h1]; rfl)
    iterate 15 (rw [cell_of_row _ _ _ _ _ _ h2]; rfl)
  obtain ⟨c0, c1, c2, c3, c4, c5, c6, c7, c8, c9, c10, c11, c12, c13, c14, c15, c16, c17, c18, c19⟩ := HA.out.2 _ (Below.refl _ _)
  go_enter Tryd.func17, Tryd.ntmps17
  go_upto_region 3 with (fail)
  have HD : Hid (Below wa.heap.size wa wa.drew) := (Below.refl _ _).drew
  go_region_held3 (fun w' => w'.cell? ⟨w.heap.size, 0, none⟩ = some (.int .i64 (n : Int)) ∧ w'.cell? ⟨w.heap.size, 1, none⟩ = some (.int .i64 98) ∧ w'.cell? ⟨w.heap.size, 2, none⟩ = some (.int .i64 (gI n)) ∧ w'.cell? ⟨w.heap.size, 3, none⟩ = some (.int .i64 (gD n)) ∧ w'.cell? ⟨w.heap.size, 4, none⟩ = some (.int .i64 (gC n)) ∧ w'.cell? ⟨w.heap.size + 1, 0, none⟩ = some (.int .i64 (x 0)) ∧ w'.cell? ⟨w.heap.size + 1, 1, none⟩ = some (.int .i64 (x 1)) ∧ w'.cell? ⟨w.heap.size + 1, 2, none⟩ = some (.int .i64 (x 2)) ∧ w'.cell? ⟨w.heap.size + 1, 3, none⟩ = some (.int .i64 (x 3)) ∧ w'.cell? ⟨w.heap.size + 1, 4, none⟩ = some (.int .i64 (x 4)) ∧ w'.cell? ⟨w.heap.size + 1, 5, none⟩ = some (.int .i64 (x 5)) ∧ w'.cell? ⟨w.heap.size + 1, 6, none⟩ = some (.int .i64 (x 6)) ∧ w'.cell? ⟨w.heap.size + 1, 7, none⟩ = some (.int .i64 (x 7)) ∧ w'.cell? ⟨w.heap.size + 1, 8, none⟩ = some (.int .i64 (x 8)) ∧ w'.cell? ⟨w.heap.size + 1, 9, none⟩ = some (.int .i64 (x 9)) ∧ w'.cell? ⟨w.heap.size + 1, 10, none⟩ = some (.int .i64 (x 10)) ∧ w'.cell? ⟨w.heap.size + 1, 11, none⟩ = some (.int .i64 (x 11)) ∧ w'.cell? ⟨w.heap.size + 1, 12, none⟩ = some (.int .i64 (x 12)) ∧ w'.cell? ⟨w.heap.size + 1, 13, none⟩ = some (.int .i64 (x 13)) ∧ w'.cell? ⟨w.heap.size + 1, 14, none⟩ = some (.int .i64 (x 14))) (go_keep)
    (first
      | (go_at_call 20; refine (HOr.out _).mono ?_; rintro e w1 ⟨g, cap, rfl, h1, h2, h3⟩; have H1 : Hid (OwnI w1 g cap (inN x) ∧ Below wa.heap.size wa w1) := ⟨h2, HD.out.trans (h3.mono HD.out.size)⟩; obtain ⟨d0, d1, d2, d3, d4, d5, d6, d7, d8, d9, d10, d11, d12, d13, d14, d15, d16, d17, d18, d19⟩ := HA.out.2 _ H1.out.2; clear h1 h2 h3 HOr)
      | (go_at_call 23; refine (HFo.out w1 g cap (HA.out.1.trans (H1.out.2.mono HA.out.1.size)) H1.out.1).mono ?_; rintro e w2 ⟨rfl, hb⟩; have H2 : Hid (Below wa.heap.size wa w2) := H1.out.2.trans (hb.mono H1.out.2.size); obtain ⟨e0, e1, e2, e3, e4, e5, e6, e7, e8, e9, e10, e11, e12, e13, e14, e15, e16, e17, e18, e19⟩ := HA.out.2 _ H2.out; clear hb))
  all_goals go_wp2
  go_ret2
  exact ⟨rfl, HA.out.1.trans (H2.out.mono HA.out.1.size)⟩
end Go.Proofs.YtgmccpimpbnnpaaDoor

namespace Go.Proofs.YtgmccpimpbnnpaaDoor
open Go.RowKit Go.Maps Rec
def y1k : Nat → Int := withN (fun _ => 0) ν1k
def y2k : Nat → Int := withN y1k ν2k
structure Kq (D : Dk) (T : Tx) (n c : Nat) (y : Nat → Int) (ν : Nat → Nat) : Prop where
  wd : Wd D T n y ν
  fr : ∀ b, fd (nD n) n (bmp D T) b = decide (c ≤ b ∧ b < 128)
  cnt : (lst T.c n).length ≤ 20 * (c - 101)
  us : T.us.length ≤ 20 * (c - 101)
  inn : ∀ q, ν q ≠ 0 → (T.c (ν q)).isSome = true ∧ (T.c (98 + ν q / 4096)).isSome = true
theorem kn_add1 (w0 w : World) (D : Dk) (T : Tx) (n : Nat) (hn : n = 128) (h : OpQ w0 w D T n) (hT : TabAt w0) (hF : ∀ b, fd (nD n) n (bmp D T) b = decide (101 ≤ b ∧ b < 128)) :
    Calls Tryd.prog 6 #[.pointer (some ⟨T.t, 0, none⟩), geoV n, inV (fun _ => 0), .int .i64 0] w fun e w' => ∃ T', e = .returned (.tuple #[inV y1k, .int .i64 101, .int .i64 0]) ∧ Gon w0 w w' D T T' n (fun _ => False) ∧ Kq D T' n 102 y1k ν1k := by
  subst hn
  have hl : (lst T.c 128).length = 0 := by rw [h.c]; rw [lst_none]; rfl
  have hu : T.us.length = 0 := by rw [h.us]; rfl
  refine (add_any w0 w D T 128 h.spc hT (fun _ => 0) (fun _ => 0) ⟨Tre.none (fun _ _ => rfl), Own1.none⟩ 0 (by omega) (by omega)).mono ?_
  rintro e w' ⟨N, z, y, T', rfl, ⟨rfl, ν', rfl, hp, hg⟩ | ⟨_, _, _, hz, _⟩⟩
  · obtain ⟨e1, e2⟩ := tks1 hF hp.tks
    subst e1
    have hN : N = 101 := by rw [← hp.nE]; rfl
    subst hN
    obtain ⟨m, hm, hm9⟩ := hp.ext
    refine ⟨T', rfl, hg, hp.wd, e2, by have := hp.cnt; omega, by rw [hm.us]; omega, fun q hq => hp.inn q hq⟩
  · exact (adz_no hz (by omega) (by rw [ctF 101 (by omega) _ hF]; omega) (fun b hb => by rw [hF] at hb; simp at hb; omega)).elim
theorem kn_add2 (w0 w : World) (D : Dk) (T : Tx) (n : Nat) (hn : n = 128) (h : Spc w0 w D T n) (hT : TabAt w0) (hk : Kq D T n 102 y1k ν1k) :
    Calls Tryd.prog 6 #[.pointer (some ⟨T.t, 0, none⟩), geoV n, inV y1k, .int .i64 10] w fun e w' => ∃ T', e = .returned (.tuple #[inV y2k, .int .i64 103, .int .i64 0]) ∧ Gon w0 w w' D T T' n (fun _ => False) ∧ Kq D T' n 104 y2k ν2k := by
  subst hn
  have hc := hk.cnt
  have hu := hk.us
  refine (add_any w0 w D T 128 h hT y1k ν1k hk.wd 10 (by omega) (by omega)).mono ?_
  rintro e w' ⟨N, z, y, T', rfl, ⟨rfl, ν', rfl, hp, hg⟩ | ⟨_, _, _, hz, _⟩⟩
  · obtain ⟨e1, e2⟩ := tks2 hk.fr hp.tks
    subst e1
    have hN : N = 103 := by rw [← hp.nE]; rfl
    subst hN
    obtain ⟨m, hm, hm9⟩ := hp.ext
    refine ⟨T', rfl, hg, hp.wd, e2, by have := hp.cnt; omega, by rw [hm.us]; omega, fun q hq => ?_⟩
    by_cases e : ν2k q = ν1k q
    · have := hk.inn q (by rw [← e]; exact hq)
      rw [e]
      exact ⟨hg.dom _ this.1, hg.dom _ this.2⟩
    · exact hp.inn q e
  · exact (adz_no hz (by omega) (by rw [ctF 102 (by omega) _ hk.fr]; omega) (fun b hb => by rw [hk.fr] at hb; simp at hb; omega)).elim
theorem kn_find (w0 w : World) (D : Dk) (T : Tx) (n : Nat) (hn : n = 128) (h : Spc w0 w D T n) (hT : TabAt w0) (hk : Kq D T n 104 y2k ν2k) :
    Calls Tryd.prog 17 #[.pointer (some ⟨T.t, 0, none⟩), geoV n, inV y2k, .int .i64 10] w fun e w' => e = .returned (.tuple #[.int .i64 103, .int .i64 0]) ∧ Below w.heap.size w w' := by
  subst hn
  have hf := find_any w0 w D T 128 h (hT.on h.ses.bel) y2k 10 (by omega)
  have e1 : nth (inN y2k) 10 = 102 := by rw [nth_inN _ _ (by omega)]; rfl
  have e2 : nm (tv D T 102) 0 = 103 := hk.wd.tre.tab 12 (by omega) (by omega) (by decide)
  have e3 : fol (tv D T) (nD 128) 128 (inN y2k) (wayL 10) = (103, 0) := by
    have hw : wayL 10 = [(10, 10, 128), (0, 10, 1)] := rfl
    have hd : nD 128 = 101 := rfl
    rw [hw, hd, fol, e1, if_neg (by decide), if_neg (by decide), if_pos (by decide), fol]
    have e4 : nth (nms (tv D T (102 : Int).toNat)) 0 = 103 := by rw [nth_nms _ _ (by omega)]; exact e2
    rw [e4, if_neg (by decide), if_neg (by decide), if_neg (by decide)]
  rw [e3] at hf
  exact hf
theorem kn_cut (w0 w : World) (D : Dk) (T : Tx) (n : Nat) (hn : n = 128) (h : Spc w0 w D T n) (hT : TabAt w0) (hk : Kq D T n 104 y2k ν2k) :
    Calls Tryd.prog 18 #[.pointer (some ⟨T.t, 0, none⟩), geoV n, inV y2k, .int .i64 0] w fun e w' => ∃ T', e = .returned (.tuple #[inV (fun _ => 0), .int .i64 0]) ∧ Gon w0 w w' D T T' n (fun _ => False) ∧ ∀ b, fd (nD n) n (bmp D T') b = decide (101 ≤ b ∧ b < 128) := by
  subst hn
  have hu := hk.us
  refine (cut_any w0 w D T 128 h y2k ν2k 0 (by omega) ⟨hk.wd, h.lo, h.hi, hT, by omega, by omega⟩).mono ?_
  rintro e w' ⟨z, y, T', rfl, ⟨rfl, rfl, hp, hg, _⟩ | ⟨_, _, hno, _⟩⟩
  · refine ⟨T', ?_, hg, fun b => ?_⟩
    · have : withN y2k (cvP ν2k 0) = fun _ => 0 := by
        funext i
        unfold withN
        split
        · rw [cv0]; rfl
        · rename_i hi
          unfold y2k withN
          rw [if_neg hi]
          unfold y1k withN
          rw [if_neg hi]
      rw [this]
      rfl
    · have hz : ∀ p, ν2k p ≠ 0 → p = 0 ∨ p = 10 ∨ p = 12 := fun p h => by
        unfold ν2k ν1k upN at h
        by_cases e0 : p = 0
        · exact .inl e0
        · by_cases e1 : p = 10
          · exact .inr (.inl e1)
          · by_cases e2 : p = 12
            · exact .inr (.inr e2)
            · simp [e0, e1, e2] at h
      have key := hp.fdT b
      rw [hk.fr] at key
      by_cases e : 101 ≤ b ∧ b < 128
      · rw [decide_eq_true e]
        refine key.2 ?_
        by_cases e2 : 104 ≤ b
        · exact .inl (decide_eq_true ⟨e2, e.2⟩)
        · have e3 : b = 101 ∨ b = 102 ∨ b = 103 := by omega
          rcases e3 with rfl | rfl | rfl
          · exact .inr ⟨0, by decide +kernel, rfl⟩
          · exact .inr ⟨10, by decide +kernel, rfl⟩
          · exact .inr ⟨12, by decide +kernel, rfl⟩
      · rw [decide_eq_false e]
        cases e2 : fd (nD 128) 128 (bmp D T') b
        · rfl
        · rcases key.1 e2 with e3 | ⟨p, e3, rfl⟩
          · simp at e3; omega
          · rcases hz p (gone_nz e3) with rfl | rfl | rfl
            · exact absurd ⟨by decide, by decide⟩ e
            · exact absurd ⟨by decide, by decide⟩ e
            · exact absurd ⟨by decide, by decide⟩ e
  · exfalso
    obtain ⟨p, hp, e⟩ := hno
    obtain ⟨h1, h2⟩ := hk.inn p hp
    rcases e with e | e
    · rw [e] at h2; cases h2
    · rw [e] at h1; cases h1
theorem kn_free (w0 w : World) (D : Dk) (T : Tx) (n : Nat) (hn : n = 128) (h : Spc w0 w D T n) (hF : ∀ b, fd (nD n) n (bmp D T) b = decide (101 ≤ b ∧ b < 128)) :
    Calls Tryd.prog 19 #[.pointer (some ⟨T.t, 0, none⟩), geoV n] w fun e w' => e = .returned (.tuple #[.int .i64 27, .int .i64 0]) ∧ Below w.heap.size w w' := by
  subst hn
  have := free_any w0 w D T 128 h
  rw [ctF 101 (by omega) _ hF] at this
  exact this
end Go.Proofs.YtgmccpimpbnnpaaDoor
