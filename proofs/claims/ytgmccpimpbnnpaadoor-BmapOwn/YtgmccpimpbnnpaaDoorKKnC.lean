import Derived.Test.YtgmccpimpbnnpaaDoorKBgA
namespace Go.Proofs.YtgmccpimpbnnpaaDoor
open Go.RowKit Go.Maps Rec
structure Bq (w0 w : World) (D : Dk) (T : Tx) (p : Nat) (o : Obj) : Prop where
  row : w.heap[p]? = some o
  out : Out w0 w D T p
theorem Bq.gon {w0 w w' : World} {D : Dk} {T T' : Tx} {n p : Nat} {o : Obj} (h : Bq w0 w D T p o) (g : Gon w0 w w' D T T' n (fun _ => False)) : Bq w0 w' D T' p o := ⟨g.mv.fr.heap h.row (fun e => e.elim (fun e => h.out.no e) (fun e => e)), h.out.mv g.mv⟩
theorem Bq.on {w0 w w' : World} {D : Dk} {T : Tx} {p : Nat} {o : Obj} (h : Bq w0 w D T p o) (hb : Below w.heap.size w w') : Bq w0 w' D T p o := ⟨(hb.block _ h.out.lt).trans h.row, h.out.mv (SMv.on hb (S := fun _ => False))⟩
theorem Bq.new {w0 w : World} {D : Dk} {T : Tx} {n : Nat} (h : Spc w0 w D T n) (cs : Array Value) (t : TypeId) : Bq w0 (w.alloc (.cells cs t)) D T w.heap.size (.cells cs t (0, 0)) := ⟨heap_alloc_new _ _, Out.of h (Nat.le_refl _) (by simp)⟩
theorem Bq.c5 {w0 w : World} {D : Dk} {T : Tx} {p n : Nat} (h : Bq w0 w D T p (.cells #[.int .i64 (n : Int), .int .i64 98, .int .i64 (gI n), .int .i64 (gD n), .int .i64 (gC n)] 29 (0, 0))) : GeoAt w p n := h.row
theorem Bq.c15 {w0 w : World} {D : Dk} {T : Tx} {p : Nat} {y : Nat → Int} (h : Bq w0 w D T p (.cells #[.int .i64 (y 0), .int .i64 (y 1), .int .i64 (y 2), .int .i64 (y 3), .int .i64 (y 4), .int .i64 (y 5), .int .i64 (y 6), .int .i64 (y 7), .int .i64 (y 8), .int .i64 (y 9), .int .i64 (y 10), .int .i64 (y 11), .int .i64 (y 12), .int .i64 (y 13), .int .i64 (y 14)] 35 (0, 0))) : w.cell? ⟨p, 0, none⟩ = some (.int .i64 (y 0)) ∧ w.cell? ⟨p, 1, none⟩ = some (.int .i64 (y 1)) ∧ w.cell? ⟨p, 2, none⟩ = some (.int .i64 (y 2)) ∧ w.cell? ⟨p, 3, none⟩ = some (.int .i64 (y 3)) ∧ w.cell? ⟨p, 4, none⟩ = some (.int .i64 (y 4)) ∧ w.cell? ⟨p, 5, none⟩ = some (.int .i64 (y 5)) ∧ w.cell? ⟨p, 6, none⟩ = some (.int .i64 (y 6)) ∧ w.cell? ⟨p, 7, none⟩ = some (.int .i64 (y 7)) ∧ w.cell? ⟨p, 8, none⟩ = some (.int .i64 (y 8)) ∧ w.cell? ⟨p, 9, none⟩ = some (.int .i64 (y 9)) ∧ w.cell? ⟨p, 10, none⟩ = some (.int .i64 (y 10)) ∧ w.cell? ⟨p, 11, none⟩ = some (.int .i64 (y 11)) ∧ w.cell? ⟨p, 12, none⟩ = some (.int .i64 (y 12)) ∧ w.cell? ⟨p, 13, none⟩ = some (.int .i64 (y 13)) ∧ w.cell? ⟨p, 14, none⟩ = some (.int .i64 (y 14)) := by
  have hc := fun j => cell_of_row _ _ j _ _ _ h.row
  exact ⟨hc 0, hc 1, hc 2, hc 3, hc 4, hc 5, hc 6, hc 7, hc 8, hc 9, hc 10, hc 11, hc 12, hc 13, hc 14⟩
theorem Kq.at {D : Dk} {T : Tx} {n c : Nat} {y y' : Nat → Int} {ν : Nat → Nat} (h : Kq D T n c y' ν) (e : y = y') : Kq D T n c y ν := e ▸ h
theorem own_prs (w : World) (v : Value) (h : w.ownsRow 0 50 2 v 2 (prV [(0, 101), (10, 103)])) : ∃ g c, v = .slice (some ⟨g, 0, none⟩) 2 c ∧ PrsAt w (some ⟨g, 0, none⟩) 2 (fun i => if i = 0 then 0 else 10) (fun i => if i = 0 then 101 else 103) := by
  rcases h.2 with ⟨_, e⟩ | ⟨g, cap, cur, e, _⟩
  · omega
  · refine ⟨g, cap, e, .inr ⟨g, 0, rfl, fun i hi => ?_⟩⟩
    have hc := fun j u hj => World.ownsRow.cells h (g := g) (by rw [e]; rfl) j u hj
    rcases (show i = 0 ∨ i = 1 by omega) with rfl | rfl
    · exact ⟨hc 0 _ rfl, hc 1 _ rfl⟩
    · exact ⟨hc 2 _ rfl, hc 3 _ rfl⟩
theorem own_num (w : World) (v : Value) (h : w.ownsRow 0 3 1 v 1 (natV [102])) : ∃ g c, v = .slice (some ⟨g, 0, none⟩) 1 c ∧ NumAt w (some ⟨g, 0, none⟩) 1 (fun _ => 102) := by
  rcases h.2 with ⟨_, e⟩ | ⟨g, cap, cur, e, _⟩
  · omega
  · refine ⟨g, cap, e, .inr ⟨g, 0, rfl, fun i hi => ?_⟩⟩
    have hc := fun j u hj => World.ownsRow.cells h (g := g) (by rw [e]; rfl) j u hj
    rcases (show i = 0 by omega) with rfl
    exact hc 0 _ rfl
theorem PrsAt.gon {w0 w w' : World} {D : Dk} {T T' : Tx} {n k m : Nat} {f1 f2 : Nat → Int} (h : PrsAt w (some ⟨k, 0, none⟩) m f1 f2) (g : Gon w0 w w' D T T' n (fun _ => False)) (ho : Out w0 w D T k) : PrsAt w' (some ⟨k, 0, none⟩) m f1 f2 := h.imp id (fun ⟨q, o, e, hc⟩ => ⟨q, o, e, fun i hi => by
  injection e with e; injection e with e1 e2; subst e1
  have hn : ¬ (T.has k ∨ False) := fun e => e.elim ho.no id
  exact ⟨g.mv.fr.cell (hc i hi).1 hn, g.mv.fr.cell (hc i hi).2 hn⟩⟩)
theorem NumAt.gon {w0 w w' : World} {D : Dk} {T T' : Tx} {n k m : Nat} {f1 : Nat → Int} (h : NumAt w (some ⟨k, 0, none⟩) m f1) (g : Gon w0 w w' D T T' n (fun _ => False)) (ho : Out w0 w D T k) : NumAt w' (some ⟨k, 0, none⟩) m f1 := h.imp id (fun ⟨q, o, e, hc⟩ => ⟨q, o, e, fun i hi => by
  injection e with e; injection e with e1 e2; subst e1
  exact g.mv.fr.cell (hc i hi) (fun e => e.elim ho.no id)⟩)
theorem PrsAt.lt {w : World} {k m : Nat} {f1 f2 : Nat → Int} (h : PrsAt w (some ⟨k, 0, none⟩) (m + 1) f1 f2) : k < w.heap.size := by
  rcases h with e | ⟨q, o, e, hc⟩
  · omega
  · injection e with e; injection e with e1 e2; subst e1
    exact block_lt_of_cell (hc 0 (by omega)).1
theorem NumAt.lt {w : World} {k m : Nat} {f1 : Nat → Int} (h : NumAt w (some ⟨k, 0, none⟩) (m + 1) f1) : k < w.heap.size := by
  rcases h with e | ⟨q, o, e, hc⟩
  · omega
  · injection e with e; injection e with e1 e2; subst e1
    exact block_lt_of_cell (hc 0 (by omega))
theorem kn_all (w0 w : World) (D : Dk) (T : Tx) (n : Nat) (h : Spc w0 w D T n) (hT : TabAt w0) (hk : Kq D T n 104 y2k ν2k) :
    Calls Tryd.prog 9 #[.pointer (some ⟨T.t, 0, none⟩), geoV n, inV y2k] w fun e w' => ∃ g c g' c', e = .returned (.tuple #[.slice (some ⟨g, 0, none⟩) 2 c, .slice (some ⟨g', 0, none⟩) 1 c', .int .i64 0]) ∧ PrsAt w' (some ⟨g, 0, none⟩) 2 (fun i => if i = 0 then 0 else 10) (fun i => if i = 0 then 101 else 103) ∧ NumAt w' (some ⟨g', 0, none⟩) 1 (fun _ => 102) ∧ w.heap.size ≤ g ∧ w.heap.size ≤ g' ∧ Below w.heap.size w w' := by
  refine (all_any w0 w D T n h hT y2k ν2k hk.wd).mono ?_
  rintro e w' ⟨vb, vt, rfl, h1, h2, h3, h4, hb⟩
  rw [allB2] at h1
  rw [allT2] at h2
  obtain ⟨g, c, rfl, hp⟩ := own_prs w' vb h1
  obtain ⟨g', c', rfl, hq⟩ := own_num w' vt h2
  exact ⟨g, c, g', c', rfl, hp, hq, h3 g rfl, h4 g' rfl, hb⟩
set_option maxRecDepth 100000 in
set_option maxHeartbeats 16000000 in
theorem known_any (w : World) (hT : TabAt w) : Calls Tryd.prog 5 #[] w fun e w' => e = .returned (.bool true) ∧ Below w.heap.size w w' := by
  have HB0 := beginQ w 0 none 0 0 none 0 0 [] ⟨by simp, .inl rfl⟩ rfl [] ⟨rfl, .inl rfl⟩ (by omega)
  obtain ⟨n, hn⟩ : ∃ n, nBq 0 = n := ⟨_, rfl⟩
  have HN : Hid (n = 128) := by rw [← hn]; exact (rfl : nBq 0 = 128)
  rw [hn] at HB0
  clear hn
  unfold stuV geoV at HB0
  have HBg : Hid (Calls Tryd.prog 4 #[.agg #[.int .i64 0, .slice none 0 0, .slice none 0 0]] w fun e w' => ∃ (rt : Nat) (D : Dk) (T : Tx), e = .returned (.tuple #[.pointer (some ⟨T.t, 0, none⟩), .pointer (some ⟨rt, 0, none⟩), .agg #[.int .i64 (n : Int), .int .i64 98, .int .i64 (gI n), .int .i64 (gD n), .int .i64 (gC n)], .bool true]) ∧ OpQ w w' D T n ∧ ∀ b, fd (nD n) n (bmp D T) b = decide (101 ≤ b ∧ b < 128)) := by
    refine HB0.mono ?_
    rintro e w' ⟨rt, D, T, rfl, h1, h2⟩
    refine ⟨rt, D, T, rfl, h1, fun b => ?_⟩
    have h3 := h2 rfl rfl b
    rw [h3, HN.out]
    rfl
  have HT : Hid (TabAt w) := hT
  have HNu : Hid (∀ wx, Calls Tryd.prog 8 #[.int .i64 0] wx fun e' w' => e' = .returned (.int .i64 0) ∧ wx = w') := fun wx => numQ wx 0 (by omega)
  clear HB0 hT
  go_enter Tryd.func5, Tryd.ntmps5
  go_upto_region 4 with (go_at_call 4; refine HBg.out.mono ?_; rintro e w1 ⟨rt, D, T, rfl, h1, h2⟩; have H1 : Hid (OpQ w w1 D T n ∧ ∀ b, fd (nD n) n (bmp D T) b = decide (101 ≤ b ∧ b < 128)) := ⟨h1, h2⟩; clear h1 h2 HBg)
  obtain ⟨tt, htt⟩ : ∃ tt, T.t = tt := ⟨_, rfl⟩
  have HTt : Hid (T.t = tt) := htt
  obtain ⟨G, hG⟩ : ∃ G, w1.heap.size = G := ⟨_, rfl⟩
  obtain ⟨w2, hw2⟩ : ∃ w2, w1.alloc (.cells #[.int .i64 (n : Int), .int .i64 98, .int .i64 (gI n), .int .i64 (gD n), .int .i64 (gC n)] 29) = w2 := ⟨_, rfl⟩
  have H2 : Hid (OpQ w w2 D T n ∧ Bq w w2 D T G (.cells #[.int .i64 (n : Int), .int .i64 98, .int .i64 (gI n), .int .i64 (gD n), .int .i64 (gC n)] 29 (0, 0))) := by
    have hb := Bq.new H1.out.1.spc #[.int .i64 (n : Int), .int .i64 98, .int .i64 (gI n), .int .i64 (gD n), .int .i64 (gC n)] 29
    rw [hw2, hG] at hb
    exact ⟨⟨H1.out.1.spc.on (by rw [← hw2]; exact below_new _), H1.out.1.c, H1.out.1.us⟩, hb⟩
  rw [htt, hw2, hG]
  clear htt hw2 hG
  obtain ⟨z0, z1, z2, z3, z4⟩ := (show GeoAt w2 G n from H2.out.2.row).cells
  obtain ⟨y, hy⟩ : ∃ y, y1k = y := ⟨_, rfl⟩
  have HAd : Hid (Calls Tryd.prog 6 #[.pointer (some ⟨tt, 0, none⟩), .agg #[.int .i64 (n : Int), .int .i64 98, .int .i64 (gI n), .int .i64 (gD n), .int .i64 (gC n)], .agg #[.int .i64 0, .int .i64 0, .int .i64 0, .int .i64 0, .int .i64 0, .int .i64 0, .int .i64 0, .int .i64 0, .int .i64 0, .int .i64 0, .int .i64 0, .int .i64 0, .int .i64 0, .int .i64 0, .int .i64 0], .int .i64 0] w2 fun e w' => ∃ T', e = .returned (.tuple #[.agg #[.int .i64 (y 0), .int .i64 (y 1), .int .i64 (y 2), .int .i64 (y 3), .int .i64 (y 4), .int .i64 (y 5), .int .i64 (y 6), .int .i64 (y 7), .int .i64 (y 8), .int .i64 (y 9), .int .i64 (y 10), .int .i64 (y 11), .int .i64 (y 12), .int .i64 (y 13), .int .i64 (y 14)], .int .i64 101, .int .i64 0]) ∧ Gon w w2 w' D T T' n (fun _ => False) ∧ Kq D T' n 102 y ν1k) := by
    have h9 := kn_add1 w w2 D T n HN.out H2.out.1 HT.out H1.out.2
    rw [HTt.out, hy] at h9
    exact h9
  have HY : Hid (y1k = y) := hy
  clear hy
  go_upto_region 5 with (go_at_call 6; refine HAd.out.mono ?_; rintro e w3 ⟨T1, rfl, h1, h2⟩; have H3 : Hid (Gon w w2 w3 D T T1 n (fun _ => False) ∧ Kq D T1 n 102 y ν1k) := ⟨h1, h2⟩; clear h1 h2 HAd)
  obtain ⟨X, hX⟩ : ∃ X, w3.heap.size = X := ⟨_, rfl⟩
  obtain ⟨w4, hw4⟩ : ∃ w4, w3.alloc (.cells #[.int .i64 (y 0), .int .i64 (y 1), .int .i64 (y 2), .int .i64 (y 3), .int .i64 (y 4), .int .i64 (y 5), .int .i64 (y 6), .int .i64 (y 7), .int .i64 (y 8), .int .i64 (y 9), .int .i64 (y 10), .int .i64 (y 11), .int .i64 (y 12), .int .i64 (y 13), .int .i64 (y 14)] 35) = w4 := ⟨_, rfl⟩
  have H4 : Hid (Spc w w4 D T1 n ∧ Kq D T1 n 102 y ν1k ∧ Bq w w4 D T1 G (.cells #[.int .i64 (n : Int), .int .i64 98, .int .i64 (gI n), .int .i64 (gD n), .int .i64 (gC n)] 29 (0, 0)) ∧ Bq w w4 D T1 X (.cells #[.int .i64 (y 0), .int .i64 (y 1), .int .i64 (y 2), .int .i64 (y 3), .int .i64 (y 4), .int .i64 (y 5), .int .i64 (y 6), .int .i64 (y 7), .int .i64 (y 8), .int .i64 (y 9), .int .i64 (y 10), .int .i64 (y 11), .int .i64 (y 12), .int .i64 (y 13), .int .i64 (y 14)] 35 (0, 0)) ∧ T1.t = tt) := by
    obtain ⟨g1, k1⟩ := H3.out
    have hb : Below w3.heap.size w3 w4 := by rw [← hw4]; exact below_new _
    have hx := Bq.new g1.spc #[.int .i64 (y 0), .int .i64 (y 1), .int .i64 (y 2), .int .i64 (y 3), .int .i64 (y 4), .int .i64 (y 5), .int .i64 (y 6), .int .i64 (y 7), .int .i64 (y 8), .int .i64 (y 9), .int .i64 (y 10), .int .i64 (y 11), .int .i64 (y 12), .int .i64 (y 13), .int .i64 (y 14)] 35
    rw [hw4, hX] at hx
    exact ⟨g1.spc.on hb, k1, (H2.out.2.gon g1).on hb, hx, g1.mv.t.trans HTt.out⟩
  rw [hw4, hX]
  clear hw4 hX z0 z1 z2 z3 z4 H1 H2 H3 HTt
  obtain ⟨z0, z1, z2, z3, z4⟩ := H4.out.2.2.1.c5.cells
  obtain ⟨x0, x1, x2, x3, x4, x5, x6, x7, x8, x9, x10, x11, x12, x13, x14⟩ := H4.out.2.2.2.1.c15
  obtain ⟨y', hy'⟩ : ∃ y', y2k = y' := ⟨_, rfl⟩
  have HAd : Hid (Calls Tryd.prog 6 #[.pointer (some ⟨tt, 0, none⟩), .agg #[.int .i64 (n : Int), .int .i64 98, .int .i64 (gI n), .int .i64 (gD n), .int .i64 (gC n)], .agg #[.int .i64 (y 0), .int .i64 (y 1), .int .i64 (y 2), .int .i64 (y 3), .int .i64 (y 4), .int .i64 (y 5), .int .i64 (y 6), .int .i64 (y 7), .int .i64 (y 8), .int .i64 (y 9), .int .i64 (y 10), .int .i64 (y 11), .int .i64 (y 12), .int .i64 (y 13), .int .i64 (y 14)], .int .i64 10] w4 fun e w' => ∃ T', e = .returned (.tuple #[.agg #[.int .i64 (y' 0), .int .i64 (y' 1), .int .i64 (y' 2), .int .i64 (y' 3), .int .i64 (y' 4), .int .i64 (y' 5), .int .i64 (y' 6), .int .i64 (y' 7), .int .i64 (y' 8), .int .i64 (y' 9), .int .i64 (y' 10), .int .i64 (y' 11), .int .i64 (y' 12), .int .i64 (y' 13), .int .i64 (y' 14)], .int .i64 103, .int .i64 0]) ∧ Gon w w4 w' D T1 T' n (fun _ => False) ∧ Kq D T' n 104 y' ν2k) := by
    have h9 := kn_add2 w w4 D T1 n HN.out H4.out.1 HT.out (H4.out.2.1.at HY.out)
    rw [H4.out.2.2.2.2, HY.out, hy'] at h9
    exact h9
  have HY2 : Hid (y2k = y') := hy'
  clear hy'
  go_upto_region 6 with (go_at_call 6; refine HAd.out.mono ?_; rintro e w5 ⟨T2, rfl, h1, h2⟩; have H5 : Hid (Gon w w4 w5 D T1 T2 n (fun _ => False) ∧ Kq D T2 n 104 y' ν2k) := ⟨h1, h2⟩; clear h1 h2 HAd)
  obtain ⟨Yb, hYb⟩ : ∃ Yb, w5.heap.size = Yb := ⟨_, rfl⟩
  obtain ⟨w6, hw6⟩ : ∃ w6, w5.alloc (.cells #[.int .i64 (y' 0), .int .i64 (y' 1), .int .i64 (y' 2), .int .i64 (y' 3), .int .i64 (y' 4), .int .i64 (y' 5), .int .i64 (y' 6), .int .i64 (y' 7), .int .i64 (y' 8), .int .i64 (y' 9), .int .i64 (y' 10), .int .i64 (y' 11), .int .i64 (y' 12), .int .i64 (y' 13), .int .i64 (y' 14)] 35) = w6 := ⟨_, rfl⟩
  have H6 : Hid (Spc w w6 D T2 n ∧ Kq D T2 n 104 y2k ν2k ∧ Bq w w6 D T2 G (.cells #[.int .i64 (n : Int), .int .i64 98, .int .i64 (gI n), .int .i64 (gD n), .int .i64 (gC n)] 29 (0, 0)) ∧ Bq w w6 D T2 Yb (.cells #[.int .i64 (y' 0), .int .i64 (y' 1), .int .i64 (y' 2), .int .i64 (y' 3), .int .i64 (y' 4), .int .i64 (y' 5), .int .i64 (y' 6), .int .i64 (y' 7), .int .i64 (y' 8), .int .i64 (y' 9), .int .i64 (y' 10), .int .i64 (y' 11), .int .i64 (y' 12), .int .i64 (y' 13), .int .i64 (y' 14)] 35 (0, 0)) ∧ T2.t = tt) := by
    obtain ⟨g1, k1⟩ := H5.out
    have hb : Below w5.heap.size w5 w6 := by rw [← hw6]; exact below_new _
    have hx := Bq.new g1.spc #[.int .i64 (y' 0), .int .i64 (y' 1), .int .i64 (y' 2), .int .i64 (y' 3), .int .i64 (y' 4), .int .i64 (y' 5), .int .i64 (y' 6), .int .i64 (y' 7), .int .i64 (y' 8), .int .i64 (y' 9), .int .i64 (y' 10), .int .i64 (y' 11), .int .i64 (y' 12), .int .i64 (y' 13), .int .i64 (y' 14)] 35
    rw [hw6, hYb] at hx
    exact ⟨g1.spc.on hb, k1.at HY2.out, (H4.out.2.2.1.gon g1).on hb, hx, g1.mv.t.trans H4.out.2.2.2.2⟩
  rw [hw6, hYb]
  clear hw6 hYb z0 z1 z2 z3 z4 x0 x1 x2 x3 x4 x5 x6 x7 x8 x9 x10 x11 x12 x13 x14 H4 H5
  obtain ⟨z0, z1, z2, z3, z4⟩ := H6.out.2.2.1.c5.cells
  obtain ⟨x0, x1, x2, x3, x4, x5, x6, x7, x8, x9, x10, x11, x12, x13, x14⟩ := H6.out.2.2.2.1.c15
  have HFi : Hid (Calls Tryd.prog 17 #[.pointer (some ⟨tt, 0, none⟩), .agg #[.int .i64 (n : Int), .int .i64 98, .int .i64 (gI n), .int .i64 (gD n), .int .i64 (gC n)], .agg #[.int .i64 (y' 0), .int .i64 (y' 1), .int .i64 (y' 2), .int .i64 (y' 3), .int .i64 (y' 4), .int .i64 (y' 5), .int .i64 (y' 6), .int .i64 (y' 7), .int .i64 (y' 8), .int .i64 (y' 9), .int .i64 (y' 10), .int .i64 (y' 11), .int .i64 (y' 12), .int .i64 (y' 13), .int .i64 (y' 14)], .int .i64 10] w6 fun e w' => e = .returned (.tuple #[.int .i64 103, .int .i64 0]) ∧ Below w6.heap.size w6 w') := by
    have h9 := kn_find w w6 D T2 n HN.out H6.out.1 HT.out H6.out.2.1
    rw [H6.out.2.2.2.2, HY2.out] at h9
    exact h9
  go_upto_region 7 with (go_at_call 17; refine HFi.out.mono ?_; rintro e w7 ⟨rfl, h1⟩; have H7 : Hid (Below w6.heap.size w6 w7) := h1; clear h1 HFi)
  have H8 : Hid (Spc w w7 D T2 n ∧ Kq D T2 n 104 y2k ν2k ∧ Bq w w7 D T2 G (.cells #[.int .i64 (n : Int), .int .i64 98, .int .i64 (gI n), .int .i64 (gD n), .int .i64 (gC n)] 29 (0, 0)) ∧ Bq w w7 D T2 Yb (.cells #[.int .i64 (y' 0), .int .i64 (y' 1), .int .i64 (y' 2), .int .i64 (y' 3), .int .i64 (y' 4), .int .i64 (y' 5), .int .i64 (y' 6), .int .i64 (y' 7), .int .i64 (y' 8), .int .i64 (y' 9), .int .i64 (y' 10), .int .i64 (y' 11), .int .i64 (y' 12), .int .i64 (y' 13), .int .i64 (y' 14)] 35 (0, 0)) ∧ T2.t = tt) := ⟨H6.out.1.on H7.out, H6.out.2.1, H6.out.2.2.1.on H7.out, H6.out.2.2.2.1.on H7.out, H6.out.2.2.2.2⟩
  clear z0 z1 z2 z3 z4 x0 x1 x2 x3 x4 x5 x6 x7 x8 x9 x10 x11 x12 x13 x14 H6 H7
  obtain ⟨z0, z1, z2, z3, z4⟩ := H8.out.2.2.1.c5.cells
  obtain ⟨x0, x1, x2, x3, x4, x5, x6, x7, x8, x9, x10, x11, x12, x13, x14⟩ := H8.out.2.2.2.1.c15
  have HAl : Hid (Calls Tryd.prog 9 #[.pointer (some ⟨tt, 0, none⟩), .agg #[.int .i64 (n : Int), .int .i64 98, .int .i64 (gI n), .int .i64 (gD n), .int .i64 (gC n)], .agg #[.int .i64 (y' 0), .int .i64 (y' 1), .int .i64 (y' 2), .int .i64 (y' 3), .int .i64 (y' 4), .int .i64 (y' 5), .int .i64 (y' 6), .int .i64 (y' 7), .int .i64 (y' 8), .int .i64 (y' 9), .int .i64 (y' 10), .int .i64 (y' 11), .int .i64 (y' 12), .int .i64 (y' 13), .int .i64 (y' 14)]] w7 fun e w' => ∃ g c g' c', e = .returned (.tuple #[.slice (some ⟨g, 0, none⟩) 2 c, .slice (some ⟨g', 0, none⟩) 1 c', .int .i64 0]) ∧ PrsAt w' (some ⟨g, 0, none⟩) 2 (fun i => if i = 0 then 0 else 10) (fun i => if i = 0 then 101 else 103) ∧ NumAt w' (some ⟨g', 0, none⟩) 1 (fun _ => 102) ∧ w7.heap.size ≤ g ∧ w7.heap.size ≤ g' ∧ Below w7.heap.size w7 w') := by
    have h9 := kn_all w w7 D T2 n H8.out.1 HT.out H8.out.2.1
    rw [H8.out.2.2.2.2, HY2.out] at h9
    exact h9
  go_upto_region 8 with (go_at_call 9; refine HAl.out.mono ?_; rintro e w8 ⟨g, c, g', c', rfl, h1⟩; have H9 : Hid (PrsAt w8 (some ⟨g, 0, none⟩) 2 (fun i => if i = 0 then 0 else 10) (fun i => if i = 0 then 101 else 103) ∧ NumAt w8 (some ⟨g', 0, none⟩) 1 (fun _ => 102) ∧ w7.heap.size ≤ g ∧ w7.heap.size ≤ g' ∧ Below w7.heap.size w7 w8) := h1; clear h1 HAl)
  have H10 : Hid (Spc w w8 D T2 n ∧ Kq D T2 n 104 y2k ν2k ∧ Bq w w8 D T2 G (.cells #[.int .i64 (n : Int), .int .i64 98, .int .i64 (gI n), .int .i64 (gD n), .int .i64 (gC n)] 29 (0, 0)) ∧ Bq w w8 D T2 Yb (.cells #[.int .i64 (y' 0), .int .i64 (y' 1), .int .i64 (y' 2), .int .i64 (y' 3), .int .i64 (y' 4), .int .i64 (y' 5), .int .i64 (y' 6), .int .i64 (y' 7), .int .i64 (y' 8), .int .i64 (y' 9), .int .i64 (y' 10), .int .i64 (y' 11), .int .i64 (y' 12), .int .i64 (y' 13), .int .i64 (y' 14)] 35 (0, 0)) ∧ T2.t = tt ∧ (PrsAt w8 (some ⟨g, 0, none⟩) 2 (fun i => if i = 0 then 0 else 10) (fun i => if i = 0 then 101 else 103) ∧ Out w w8 D T2 g) ∧ (NumAt w8 (some ⟨g', 0, none⟩) 1 (fun _ => 102) ∧ Out w w8 D T2 g')) := by
    obtain ⟨p1, p2, p3, p4, p5⟩ := H9.out
    exact ⟨H8.out.1.on p5, H8.out.2.1, H8.out.2.2.1.on p5, H8.out.2.2.2.1.on p5, H8.out.2.2.2.2, ⟨p1, Out.of H8.out.1 p3 p1.lt⟩, ⟨p2, Out.of H8.out.1 p4 p2.lt⟩⟩
  clear z0 z1 z2 z3 z4 x0 x1 x2 x3 x4 x5 x6 x7 x8 x9 x10 x11 x12 x13 x14 H8 H9
  obtain ⟨z0, z1, z2, z3, z4⟩ := H10.out.2.2.1.c5.cells
  obtain ⟨x0, x1, x2, x3, x4, x5, x6, x7, x8, x9, x10, x11, x12, x13, x14⟩ := H10.out.2.2.2.1.c15
  have HCu : Hid (Calls Tryd.prog 18 #[.pointer (some ⟨tt, 0, none⟩), .agg #[.int .i64 (n : Int), .int .i64 98, .int .i64 (gI n), .int .i64 (gD n), .int .i64 (gC n)], .agg #[.int .i64 (y' 0), .int .i64 (y' 1), .int .i64 (y' 2), .int .i64 (y' 3), .int .i64 (y' 4), .int .i64 (y' 5), .int .i64 (y' 6), .int .i64 (y' 7), .int .i64 (y' 8), .int .i64 (y' 9), .int .i64 (y' 10), .int .i64 (y' 11), .int .i64 (y' 12), .int .i64 (y' 13), .int .i64 (y' 14)], .int .i64 0] w8 fun e w' => ∃ T', e = .returned (.tuple #[.agg #[.int .i64 0, .int .i64 0, .int .i64 0, .int .i64 0, .int .i64 0, .int .i64 0, .int .i64 0, .int .i64 0, .int .i64 0, .int .i64 0, .int .i64 0, .int .i64 0, .int .i64 0, .int .i64 0, .int .i64 0], .int .i64 0]) ∧ Gon w w8 w' D T2 T' n (fun _ => False) ∧ ∀ b, fd (nD n) n (bmp D T') b = decide (101 ≤ b ∧ b < 128)) := by
    have h9 := kn_cut w w8 D T2 n HN.out H10.out.1 HT.out H10.out.2.1
    rw [H10.out.2.2.2.2.1, HY2.out] at h9
    exact h9
  go_upto_region 9 with (go_at_call 18; refine HCu.out.mono ?_; rintro e w9 ⟨T3, rfl, h1⟩; have H11 : Hid (Gon w w8 w9 D T2 T3 n (fun _ => False) ∧ ∀ b, fd (nD n) n (bmp D T3) b = decide (101 ≤ b ∧ b < 128)) := h1; clear h1 HCu)
  obtain ⟨Zb, hZb⟩ : ∃ Zb, w9.heap.size = Zb := ⟨_, rfl⟩
  obtain ⟨w10, hw10⟩ : ∃ w10, w9.alloc (.cells #[.int .i64 0, .int .i64 0, .int .i64 0, .int .i64 0, .int .i64 0, .int .i64 0, .int .i64 0, .int .i64 0, .int .i64 0, .int .i64 0, .int .i64 0, .int .i64 0, .int .i64 0, .int .i64 0, .int .i64 0] 35) = w10 := ⟨_, rfl⟩
  rw [hw10, hZb]
  have H12 : Hid (Spc w w10 D T3 n ∧ (∀ b, fd (nD n) n (bmp D T3) b = decide (101 ≤ b ∧ b < 128)) ∧ Bq w w10 D T3 G (.cells #[.int .i64 (n : Int), .int .i64 98, .int .i64 (gI n), .int .i64 (gD n), .int .i64 (gC n)] 29 (0, 0)) ∧ Bq w w10 D T3 Yb (.cells #[.int .i64 (y' 0), .int .i64 (y' 1), .int .i64 (y' 2), .int .i64 (y' 3), .int .i64 (y' 4), .int .i64 (y' 5), .int .i64 (y' 6), .int .i64 (y' 7), .int .i64 (y' 8), .int .i64 (y' 9), .int .i64 (y' 10), .int .i64 (y' 11), .int .i64 (y' 12), .int .i64 (y' 13), .int .i64 (y' 14)] 35 (0, 0)) ∧ Bq w w10 D T3 Zb (.cells #[.int .i64 0, .int .i64 0, .int .i64 0, .int .i64 0, .int .i64 0, .int .i64 0, .int .i64 0, .int .i64 0, .int .i64 0, .int .i64 0, .int .i64 0, .int .i64 0, .int .i64 0, .int .i64 0, .int .i64 0] 35 (0, 0)) ∧ T3.t = tt ∧ PrsAt w10 (some ⟨g, 0, none⟩) 2 (fun i => if i = 0 then 0 else 10) (fun i => if i = 0 then 101 else 103) ∧ NumAt w10 (some ⟨g', 0, none⟩) 1 (fun _ => 102)) := by
    obtain ⟨g1, k1⟩ := H11.out
    have hb : Below w9.heap.size w9 w10 := by rw [← hw10]; exact below_new _
    have hx := Bq.new g1.spc #[.int .i64 0, .int .i64 0, .int .i64 0, .int .i64 0, .int .i64 0, .int .i64 0, .int .i64 0, .int .i64 0, .int .i64 0, .int .i64 0, .int .i64 0, .int .i64 0, .int .i64 0, .int .i64 0, .int .i64 0] 35
    rw [hw10, hZb] at hx
    obtain ⟨q1, q2, q3, q4, q5, ⟨q6, q7⟩, ⟨q8, q9⟩⟩ := H10.out
    exact ⟨g1.spc.on hb, k1, (q3.gon g1).on hb, (q4.gon g1).on hb, hx, g1.mv.t.trans q5, (q6.gon g1 q7).on hb, (q8.gon g1 q9).on hb⟩
  clear hw10 hZb z0 z1 z2 z3 z4 x0 x1 x2 x3 x4 x5 x6 x7 x8 x9 x10 x11 x12 x13 x14 H10 H11
  obtain ⟨z0, z1, z2, z3, z4⟩ := H12.out.2.2.1.c5.cells
  have HFr : Hid (Calls Tryd.prog 19 #[.pointer (some ⟨tt, 0, none⟩), .agg #[.int .i64 (n : Int), .int .i64 98, .int .i64 (gI n), .int .i64 (gD n), .int .i64 (gC n)]] w10 fun e w' => e = .returned (.tuple #[.int .i64 27, .int .i64 0]) ∧ Below w10.heap.size w10 w') := by
    have h9 := kn_free w w10 D T3 n HN.out H12.out.1 H12.out.2.1
    rw [H12.out.2.2.2.2.2.1] at h9
    exact h9
  go_upto_region 10 with (go_at_call 19; refine HFr.out.mono ?_; rintro e w11 ⟨rfl, h1⟩; have H13 : Hid (Below w10.heap.size w10 w11) := h1; clear h1 HFr)
  have H14 : Hid (Below w.heap.size w w11 ∧ Bq w w11 D T3 Zb (.cells #[.int .i64 0, .int .i64 0, .int .i64 0, .int .i64 0, .int .i64 0, .int .i64 0, .int .i64 0, .int .i64 0, .int .i64 0, .int .i64 0, .int .i64 0, .int .i64 0, .int .i64 0, .int .i64 0, .int .i64 0] 35 (0, 0)) ∧ PrsAt w11 (some ⟨g, 0, none⟩) 2 (fun i => if i = 0 then 0 else 10) (fun i => if i = 0 then 101 else 103) ∧ NumAt w11 (some ⟨g', 0, none⟩) 1 (fun _ => 102)) :=
    ⟨H12.out.1.ses.bel.trans (H13.out.mono H12.out.1.ses.bel.size), H12.out.2.2.2.2.1.on H13.out, H12.out.2.2.2.2.2.2.1.on H13.out, H12.out.2.2.2.2.2.2.2.on H13.out⟩
  have X3 : w11.cell? ⟨Yb, 3, none⟩ = some (.int .i64 101) := by
    obtain ⟨x0, x1, x2, x3, x4, x5, x6, x7, x8, x9, x10, x11, x12, x13, x14⟩ := (H12.out.2.2.2.1.on H13.out).c15
    rw [x3, ← HY2.out]; rfl
  have X13 : w11.cell? ⟨Yb, 13, none⟩ = some (.int .i64 102) := by
    obtain ⟨x0, x1, x2, x3, x4, x5, x6, x7, x8, x9, x10, x11, x12, x13, x14⟩ := (H12.out.2.2.2.1.on H13.out).c15
    rw [x13, ← HY2.out]; rfl
  clear z0 z1 z2 z3 z4 H12 H13
  go_upto_region 12 with (go_at_call 8; refine (HNu.out _).mono ?_; rintro e wq ⟨rfl, rfl⟩)
  have HE : ∀ wx, (binOp .eql 35 (.agg #[.int .i64 0, .int .i64 0, .int .i64 0, .int .i64 0, .int .i64 0, .int .i64 0, .int .i64 0, .int .i64 0, .int .i64 0, .int .i64 0, .int .i64 0, .int .i64 0, .int .i64 0, .int .i64 0, .int .i64 0]) (.agg #[.int .i64 0, .int .i64 0, .int .i64 0, .int .i64 0, .int .i64 0, .int .i64 0, .int .i64 0, .int .i64 0, .int .i64 0, .int .i64 0, .int .i64 0, .int .i64 0, .int .i64 0, .int .i64 0, .int .i64 0])).run Tryd.prog wx = .ok (.bool true) wx := fun wx => (eqlI wx (fun _ => 0) (fun _ => 0)).trans (by rw [smB_iff.2 (fun _ _ => rfl)])
  have HSp : Hid (Calls Tryd.prog 10 #[.slice (some ⟨g, 0, none⟩) 2 c, .slice (some ⟨w11.heap.size, 0, none⟩) 2 2] (w11.alloc (.cells #[.int .i64 0, .int .i64 101, .int .i64 10, .int .i64 103] 50)) fun e w' => e = .returned (.bool true) ∧ Below w11.heap.size w11 w') := by
    have hb : Below w11.heap.size w11 (w11.alloc (.cells #[.int .i64 0, .int .i64 101, .int .i64 10, .int .i64 103] 50)) := below_new _
    refine (samePQ _ _ _ 2 c 2 (fun i => if i = 0 then 0 else 10) (fun i => if i = 0 then 101 else 103) (H14.out.2.2.1.on hb) (.inr ⟨_, 0, rfl, fun i hi => ?_⟩) (by omega)).mono ?_
    · have hc := fun j => cell_of_row _ _ j _ _ _ (heap_alloc_new w11 (.cells #[.int .i64 0, .int .i64 101, .int .i64 10, .int .i64 103] 50))
      rcases (show i = 0 ∨ i = 1 by omega) with rfl | rfl
      · exact ⟨hc 0, hc 1⟩
      · exact ⟨hc 2, hc 3⟩
    · rintro e w' ⟨rfl, h1⟩
      exact ⟨rfl, hb.trans (h1.mono hb.size)⟩
  have HSn : Hid (∀ w12, Below w11.heap.size w11 w12 → Calls Tryd.prog 11 #[.slice (some ⟨g', 0, none⟩) 1 c', .slice (some ⟨w12.heap.size, 0, none⟩) 1 1] (w12.alloc (.cells #[.int .i64 102] 3)) fun e w' => e = .returned (.bool true) ∧ Below w11.heap.size w11 w') := by
    intro w12 h12
    have hb : Below w12.heap.size w12 (w12.alloc (.cells #[.int .i64 102] 3)) := below_new _
    refine (sameQ _ _ _ 1 c' 1 (fun _ => 102) ((H14.out.2.2.2.on h12).on hb) (.inr ⟨_, 0, rfl, fun i hi => ?_⟩) (by omega)).mono ?_
    · rcases (show i = 0 by omega) with rfl
      exact cell_of_row _ _ 0 _ _ _ (heap_alloc_new w12 (.cells #[.int .i64 102] 3))
    · rintro e w' ⟨rfl, h1⟩
      exact ⟨rfl, h12.trans ((hb.trans (h1.mono hb.size)).mono h12.size)⟩
  go_wp2_with (first
    | (go_at_call 10; refine HSp.out.mono ?_; rintro e w12 ⟨rfl, h1⟩; have H15 : Hid (Below w11.heap.size w11 w12) := h1; clear h1)
    | (go_at_call 11; refine (HSn.out _ H15.out).mono ?_; rintro e w13 ⟨rfl, h1⟩; have H16 : Hid (Below w11.heap.size w11 w13) := h1; clear h1; obtain ⟨x0, x1, x2, x3, x4, x5, x6, x7, x8, x9, x10, x11, x12, x13, x14⟩ := (H14.out.2.1.on H16.out).c15 (y := fun _ => 0)))
  go_ret
  exact ⟨rfl, H14.out.1.trans (H16.out.mono H14.out.1.size)⟩
end Go.Proofs.YtgmccpimpbnnpaaDoor

namespace Go.Proofs.YtgmccpimpbnnpaaDoor
open Go.RowKit Go.Maps Rec
structure FuI (D : Dk) (T : Tx) (n s k0 r : Nat) (x : Nat → Int) (ν : Nat → Nat) : Prop where
  wd : Wd D T n x ν
  us : T.us.length ≤ 9 * r
  inn : ∀ q, ν q ≠ 0 → (T.c (ν q)).isSome = true
  giv : ∀ j, j < r → ν (ixP ((k0 + j * s) % 16522)) ≠ 0
theorem FuI.step {w0 w w' : World} {D : Dk} {T T' : Tx} {n s k0 r N : Nat} {x : Nat → Int} {ν ν' : Nat → Nat} (h : FuI D T n s k0 r x ν) (a : AdP D T T' n ((k0 + r * s) % 16522) x ν ν' N) (g : Gon w0 w w' D T T' n (fun _ => False)) : FuI D T' n s k0 (r + 1) (withN x ν') ν' := by
  obtain ⟨m, hm, hm9⟩ := a.ext
  have hu := h.us
  refine ⟨a.wd, by rw [hm.us]; omega, fun q hq => ?_, fun j hj => ?_⟩
  · by_cases e : ν' q = ν q
    · rw [e]; exact g.dom _ (h.inn q (by rw [← e]; exact hq))
    · exact (a.inn q e).1
  · by_cases e : j = r
    · subst e; rw [a.nE]; exact a.N0
    · have h1 := h.giv j (by omega)
      rcases a.tks.fresh (ixP ((k0 + j * s) % 16522)) with e2 | e2
      · rw [e2]; exact h1
      · exact absurd e2.1 h1
theorem adz_few {T : Tx} {n k : Nat} {ν0 : Nat → Nat} {F0 : Nat → Bool} {z : Nat} (h : AdZ T n k ν0 F0 z) (hF : ∀ b, F0 b = true → b < n) : (z = 60 ∨ z = 90) ∧ (z = 90 → ct F0 n < 4) := by
  rcases h with ⟨e, _⟩ | ⟨e, L, p, ν, F, h1, h2, h3, h4⟩
  · exact ⟨.inl e, fun e2 => by omega⟩
  · have := (h2.count (n := n) hF).2
    have := pre_len h1
    exact ⟨.inr e, fun _ => by omega⟩
end Go.Proofs.YtgmccpimpbnnpaaDoor

namespace Go.Proofs.YtgmccpimpbnnpaaDoor
open Go.RowKit Go.Maps Rec
def ixQ (v : Int) : Nat := (v % 18446744073709551616 % 16522).toNat
theorem ixQ_bd (v : Int) : ixQ v < 16522 := by unfold ixQ; omega
theorem indexQ (w : World) (M : Int) : Calls Tryd.prog 7 #[.int .i64 M] w fun e w' => e = .returned (.int .i64 (ixQ M : Nat)) ∧ w = w' := by
  obtain ⟨U, hU⟩ : ∃ U, M % 18446744073709551616 = U := ⟨_, rfl⟩
  have e0 : IntKind.u64.wrap M = U := by rw [← hU]; simp [IntKind.wrap, IntKind.bits, IntKind.signed]
  have hU0 : 0 ≤ U := by omega
  obtain ⟨n, hn⟩ : ∃ n, ixQ M = n := ⟨_, rfl⟩
  have e3 : U % 16522 = (n : Int) := by rw [← hn, ixQ, hU]; omega
  have hb : n < 16522 := by rw [← hn]; exact ixQ_bd M
  have e1 : IntKind.u64.wrap (n : Int) = (n : Int) := by simp [IntKind.wrap, IntKind.bits, IntKind.signed]; omega
  have e2 : IntKind.i64.wrap (n : Int) = (n : Int) := by rw [IntKind.wrap_i64]; omega
  have e4 : U.tmod 16522 = (n : Int) := by rw [Int.tmod_eq_emod_of_nonneg hU0]; exact e3
  rw [hn]
  go_enter Tryd.func7, Tryd.ntmps7
  go_wp2
  go_ret
  exact ⟨rfl, rfl⟩
def NuO (w0 w : World) (D : Dk) (T : Tx) (a : Option Addr) (m : Nat) (f : Nat → Int) : Prop := m = 0 ∨ ∃ g, a = some ⟨g, 0, none⟩ ∧ (∀ i, i < m → w.cell? ⟨g, 0 + i, none⟩ = some (.int .i64 (f i))) ∧ Out w0 w D T g
def PrO (w0 w : World) (D : Dk) (T : Tx) (a : Option Addr) (m : Nat) (f1 f2 : Nat → Int) : Prop := m = 0 ∨ ∃ g, a = some ⟨g, 0, none⟩ ∧ (∀ i, i < m → w.cell? ⟨g, 0 + i * 2, none⟩ = some (.int .i64 (f1 i)) ∧ w.cell? ⟨g, 0 + i * 2 + 1, none⟩ = some (.int .i64 (f2 i))) ∧ Out w0 w D T g
theorem NuO.num {w0 w : World} {D : Dk} {T : Tx} {a : Option Addr} {m : Nat} {f : Nat → Int} (h : NuO w0 w D T a m f) : NumAt w a m f := h.imp id (fun ⟨g, e, hc, _⟩ => ⟨g, 0, e, hc⟩)
theorem NuO.mv {w0 w w' : World} {D : Dk} {T T' : Tx} {a : Option Addr} {m : Nat} {f : Nat → Int} (h : NuO w0 w D T a m f) (x : SMv (fun _ => False) w T w' T') : NuO w0 w' D T' a m f := h.imp id (fun ⟨g, e, hc, ho⟩ => ⟨g, e, fun i hi => x.fr.cell (hc i hi) (fun e => e.elim ho.no id), ho.mv x⟩)
theorem PrO.mv {w0 w w' : World} {D : Dk} {T T' : Tx} {a : Option Addr} {m : Nat} {f1 f2 : Nat → Int} (h : PrO w0 w D T a m f1 f2) (x : SMv (fun _ => False) w T w' T') : PrO w0 w' D T' a m f1 f2 := h.imp id (fun ⟨g, e, hc, ho⟩ => ⟨g, e, fun i hi => ⟨x.fr.cell (hc i hi).1 (fun e => e.elim ho.no id), x.fr.cell (hc i hi).2 (fun e => e.elim ho.no id)⟩, ho.mv x⟩)
theorem Bq.mv {w0 w w' : World} {D : Dk} {T T' : Tx} {p : Nat} {o : Obj} (h : Bq w0 w D T p o) (x : SMv (fun _ => False) w T w' T') : Bq w0 w' D T' p o := ⟨x.fr.heap h.row (fun e => e.elim h.out.no id), h.out.mv x⟩
theorem prV_at : ∀ (l : List (Nat × Nat)) (i : Nat), i < l.length → (prV l)[i * 2]? = some (.int .i64 ((l.getD i (0, 0)).1 : Int)) ∧ (prV l)[i * 2 + 1]? = some (.int .i64 ((l.getD i (0, 0)).2 : Int))
  | [], i, h => absurd h (by simp)
  | q :: l, 0, _ => ⟨rfl, rfl⟩
  | q :: l, i + 1, h => by
    have := prV_at l i (by simp at h; omega)
    have e : prV (q :: l) = .int .i64 (q.1 : Int) :: .int .i64 (q.2 : Int) :: prV l := rfl
    have e1 : (i + 1) * 2 = i * 2 + 1 + 1 := by omega
    rw [e, e1]
    exact this
end Go.Proofs.YtgmccpimpbnnpaaDoor
