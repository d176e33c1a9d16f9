import Derived.Test.YtgmccpimpbnnpaaDoorKBpH
import Derived.Deep.LoopGhost
import Derived.Test.YtgmccpimpbnnpaaDoorBpD
namespace Go.Proofs.YtgmccpimpbnnpaaDoor
open Go.RowKit Go.Maps Rec
def fol (B : Nat → List Int) (lo hi : Nat) : List Int → List (Nat × Nat × Nat) → Int × Int
  | _, [] => (0, 0)
  | ns, (a, _, s) :: L => if nth ns a = 0 then (0, 0) else if ¬ ((lo : Int) ≤ nth ns a ∧ nth ns a < (hi : Int)) then (0, 100) else if 1 < s then fol B lo hi (nms (B (nth ns a).toNat)) L else (nth ns a, 0)
structure FoI (w0 w wr : World) (D : Dk) (T : Tx) (n : Nat) (k P6 P7 gw : Nat) (ns0 : List Int) (j : Nat) (t : Int) (g len cap : Nat) (ns : List Int) : Prop where
  bel : Below w.heap.size w wr
  geo : GeoAt wr P6 n
  box : wr.heap[P7]? = some (.cells #[.int .i64 t, .slice (some ⟨g, 0, none⟩) len cap] 69 (0, 0))
  row : OwnI wr g cap ns
  nl : ns.length = len
  big : (0 < j → len = 128) ∧ (j = 0 → len = 12)
  way : ∀ j (a f s : Nat), (wayL k)[j]? = some (a, f, s) → wr.cell? ⟨gw, j * 3, none⟩ = some (.int .i64 (a : Int)) ∧ wr.cell? ⟨gw, j * 3 + 1, none⟩ = some (.int .i64 (f : Int)) ∧ wr.cell? ⟨gw, j * 3 + 2, none⟩ = some (.int .i64 (s : Int))
  P0 : w.heap.size ≤ P7 ∧ gw ≠ P7 ∧ P6 ≠ P7
  eq : fol (tv D T) (nD n) n ns0 (wayL k) = fol (tv D T) (nD n) n ns ((wayL k).drop j)
theorem drop_cons3 {L : List (Nat × Nat × Nat)} {j : Nat} {q : Nat × Nat × Nat} (h : L[j]? = some q) : L.drop j = q :: L.drop (j + 1) := by
  obtain ⟨hj, e⟩ := List.getElem?_eq_some_iff.1 h
  rw [List.drop_eq_getElem_cons hj, e]
theorem FoI.next {w0 w wr w5 : World} {D : Dk} {T : Tx} {n k P6 P7 gw j g len cap a f s mm g2 : Nat} {ns0 ns : List Int} {t : Int} (h : FoI w0 w wr D T n k P6 P7 gw ns0 j t g len cap ns) (hq : (wayL k)[j]? = some (a, f, s)) (hm : nth ns a = (mm : Int)) (h0 : nD n ≤ mm) (h1 : mm < n) (hp : 0 < nD n) (hs : 1 < s) (hb : Below wr.heap.size wr w5) (hg : wr.heap.size ≤ g2) (ho : OwnI w5 g2 128 (nms (tv D T mm))) :
    FoI w0 w ((w5.setCell ⟨P7, 0, none⟩ (.int .i64 (mm : Int))).setCell ⟨P7, 1, none⟩ (.slice (some ⟨g2, 0, none⟩) 128 128)) D T n k P6 P7 gw ns0 (j + 1) (mm : Int) g2 128 128 (nms (tv D T mm)) := by
  have hP := heap_lt h.box
  have hf : Fr (fun i => i = P7) w5 ((w5.setCell ⟨P7, 0, none⟩ (.int .i64 (mm : Int))).setCell ⟨P7, 1, none⟩ (.slice (some ⟨g2, 0, none⟩) 128 128)) := (Fr.set (g := P7)).trans (Fr.set (g := P7)) (fun _ h => .inl h)
  have hbw := h.bel.trans (hb.mono h.bel.size)
  have hbox := (hb.block _ hP).trans h.box
  refine ⟨hbw.trans (hf.below _ (fun k hk => by have hk : k = P7 := hk; have := h.P0; omega) hbw.size), hf.heap (h.geo.on hb) (fun e => h.P0.2.2 e), ?_, ho.fr hf (fun e => by have e : g2 = P7 := e; omega), nms_length _, ⟨fun _ => rfl, fun e => by omega⟩, fun j a f s hj => ?_, h.P0, ?_⟩
  · have e1 : (w5.setCell ⟨P7, 0, none⟩ (.int .i64 (mm : Int))).heap[P7]? = some (.cells #[.int .i64 (mm : Int), .slice (some ⟨g, 0, none⟩) len cap] 69 (0, 0)) := heap_setCell_same _ _ _ _ _ _ hbox
    exact heap_setCell_same _ _ _ _ _ _ e1
  · obtain ⟨x0, x1, x2⟩ := h.way j a f s hj
    have hgw := block_lt_of_cell x0
    have ne : ¬ gw = P7 := h.P0.2.1
    exact ⟨hf.cell ((hb.cell (p := ⟨gw, j * 3, none⟩) hgw).trans x0) ne, hf.cell ((hb.cell (p := ⟨gw, j * 3 + 1, none⟩) hgw).trans x1) ne, hf.cell ((hb.cell (p := ⟨gw, j * 3 + 2, none⟩) hgw).trans x2) ne⟩
  · rw [h.eq, drop_cons3 hq, fol, hm, if_neg (by omega), if_neg (by omega), if_pos hs]
    rfl
set_option maxRecDepth 100000 in
theorem find1_any (w : World) (a b : Value) (i : Int) : Calls Tryd.prog 39 #[.agg #[a, b], .int .i64 i] w fun e w' => e = .returned (.tuple #[.int .i64 0, .int .i64 0]) ∧ Below w.heap.size w w' := by
  go_enter Tryd.func39, Tryd.ntmps39
  go_wp2
  go_ret2
  exact ⟨rfl, below_new _⟩
set_option maxRecDepth 100000 in
set_option maxHeartbeats 8000000 in
theorem follow_find (w0 w : World) (D : Dk) (T : Tx) (n : Nat) (h : Spc w0 w D T n) (hT : TabAt w) (k : Nat) (hk : k < 16522) (g cap : Nat) (ns : List Int) (ho : OwnI w g cap ns) (hl : ns.length = 12) :
    Calls Tryd.prog 23 #[.pointer (some ⟨T.t, 0, none⟩), geoV n, .agg #[.int .i64 0, .slice (some ⟨g, 0, none⟩) 12 cap], .int .i64 (k : Int), .func (.func 39) #[] #[]] w fun e w' => e = .returned (.tuple #[.int .i64 (fol (tv D T) (nD n) n ns (wayL k)).1, .int .i64 (fol (tv D T) (nD n) n ns (wayL k)).2]) ∧ Below w.heap.size w w' := by
  unfold geoV
  have HWy : Hid (∀ wx, Calls Tryd.prog 48 #[.int .i64 (k : Int)] wx fun e w' => ∃ g cap, e = .returned (.slice (some ⟨g, 0, none⟩) (wayL k).length cap) ∧ wx.heap.size ≤ g ∧ g < w'.heap.size ∧ (∀ j (a f s : Nat), (wayL k)[j]? = some (a, f, s) → w'.cell? ⟨g, j * 3, none⟩ = some (.int .i64 (a : Int)) ∧ w'.cell? ⟨g, j * 3 + 1, none⟩ = some (.int .i64 (f : Int)) ∧ w'.cell? ⟨g, j * 3 + 2, none⟩ = some (.int .i64 (s : Int))) ∧ Below wx.heap.size wx w') := fun wx => way_any wx k hk
  go_enter Tryd.func23, Tryd.ntmps23
  obtain ⟨wa, hwa⟩ : ∃ wa, (w.alloc (.cells #[.int .i64 (n : Int), .int .i64 98, .int .i64 (gI n), .int .i64 (gD n), .int .i64 (gC n)] 29)).alloc (.cells #[.int .i64 0, .slice (some ⟨g, 0, none⟩) 12 cap] 69) = wa := ⟨_, rfl⟩
  have HA : Hid (Below w.heap.size w wa ∧ GeoAt wa w.heap.size n ∧ wa.heap[w.heap.size + 1]? = some (.cells #[.int .i64 0, .slice (some ⟨g, 0, none⟩) 12 cap] 69 (0, 0))) := by
    rw [← hwa]
    refine ⟨(below_new _).alloc (by simp) _, (Below.heap_alloc _ _ _ (by simp)).trans (heap_alloc_new _ _), ?_⟩
    have := heap_alloc_new (w.alloc (.cells #[.int .i64 (n : Int), .int .i64 98, .int .i64 (gI n), .int .i64 (gD n), .int .i64 (gC n)] 29)) (.cells #[.int .i64 0, .slice (some ⟨g, 0, none⟩) 12 cap] 69)
    rw [World.size_alloc] at this
    exact this
  have HS : Hid (Spc w0 w D T n ∧ TabAt w) := ⟨h, hT⟩
  have HO : Hid (OwnI w g cap ns ∧ ns.length = 12) := ⟨ho, hl⟩
  obtain ⟨tt, htt⟩ : ∃ tt, T.t = tt := ⟨_, rfl⟩
  have HTt : Hid (T.t = tt) := htt
  rw [htt]
  clear h hT ho hl htt
  obtain ⟨L, hL⟩ : ∃ L, (wayL k).length = L := ⟨_, rfl⟩
  have HL : Hid ((wayL k).length = L ∧ 0 < L ∧ L ≤ 3 ∧ k < 16522) := ⟨hL, by rw [← hL]; exact (wayL_len k).1, by rw [← hL]; exact (wayL_len k).2, hk⟩
  rw [hL] at HWy
  clear hL
  obtain ⟨R1, hR1⟩ : ∃ R1, (fol (tv D T) (nD n) n ns (wayL k)).1 = R1 := ⟨_, rfl⟩
  obtain ⟨R2, hR2⟩ : ∃ R2, (fol (tv D T) (nD n) n ns (wayL k)).2 = R2 := ⟨_, rfl⟩
  have HR : Hid (fol (tv D T) (nD n) n ns (wayL k) = (R1, R2)) := (by rw [← hR1, ← hR2] : fol (tv D T) (nD n) n ns (wayL k) = (R1, R2))
  rw [hR1, hR2]
  clear hR1 hR2
  go_wp2
  go_step3
  go_wp2
  go_step3
  go_wp2_with (go_at_call 48; refine (HWy.out _).mono ?_; rintro e w1 ⟨gw, cw, rfl, h1, h2, h3, h4⟩; have H1 : Hid (FoI w0 w w1 D T n k w.heap.size (w.heap.size + 1) gw ns 0 0 g 12 cap ns) := ⟨HA.out.1.trans (h4.mono HA.out.1.size), HA.out.2.1.on h4, (h4.block _ (heap_lt HA.out.2.2)).trans HA.out.2.2, (HO.out.1.on HA.out.1).on h4, HO.out.2, ⟨fun e => by omega, fun _ => rfl⟩, h3, ⟨by omega, by have := heap_lt HA.out.2.2; omega, by omega⟩, rfl⟩; clear h1 h2 h3 h4)
  have hLp := HL.out.2.1
  go_loopw [12, 13, 19] (fun s12 s13 s19 wr => ∃ (j : Nat), j ≤ L ∧ s19 = .int .i64 (j : Int) ∧ ((j < L ∧ s13 = .int .i64 0 ∧ ∃ t g len cap ns', FoI w0 w wr D T n k w.heap.size (w.heap.size + 1) gw ns j t g len cap ns') ∨ (j = L ∧ s12 = .int .i64 R1 ∧ s13 = .int .i64 R2 ∧ Below w.heap.size w wr))) (fun _ _ s19 _ => L - (intOf s19).toNat)
  case atStart => exact ⟨0, by omega, rfl, .inl ⟨hLp, rfl, 0, g, 12, cap, ns, H1.out⟩⟩
  case round =>
    clear H1
    obtain ⟨j, hj, rfl, hd⟩ := hrel
    rcases hd with ⟨hjL, rfl, t, g', len, cap', ns', hI⟩ | ⟨hjL, rfl, rfl, hB⟩
    · have hjL' : (j : Int) < (L : Int) := by omega
      have hj3 : j < 3 := by have := HL.out; omega
      obtain ⟨q, hq⟩ : ∃ q, (wayL k)[j]? = some q := ⟨_, List.getElem?_eq_getElem (by rw [HL.out.1]; exact hjL)⟩
      obtain ⟨a, f, s⟩ := q
      obtain ⟨hfk, hs1, hks, ha0, ha1, hnx, hlast⟩ := wayL_at HL.out.2.2.2 hq
      obtain ⟨q0, q1, q2⟩ := hI.way j a f s hq
      have hal : a < len := by
        by_cases e : j = 0
        · rw [hI.big.2 e]; exact ha0 e
        · rw [hI.big.1 (by omega)]; exact ha1 (by omega)
      have hal' : (a : Int) < (len : Int) := by omega
      obtain ⟨m, hm⟩ : ∃ m, nth ns' a = m := ⟨_, rfl⟩
      have hcm : wr.cell? ⟨g', a, none⟩ = some (.int .i64 m) := by rw [← hm]; exact hI.row.cell a (by rw [hI.nl]; exact hal)
      have b0 : wr.cell? ⟨w.heap.size + 1, 0, none⟩ = some (.int .i64 t) := by rw [cell_of_row _ _ _ _ _ _ hI.box]; rfl
      have b1 : wr.cell? ⟨w.heap.size + 1, 1, none⟩ = some (.slice (some ⟨g', 0, none⟩) len cap') := by rw [cell_of_row _ _ _ _ _ _ hI.box]; rfl
      obtain ⟨z0, z1, z2, z3, z4⟩ := hI.geo.cells
      have HI : Hid (FoI w0 w wr D T n k w.heap.size (w.heap.size + 1) gw ns j t g' len cap' ns' ∧ (wayL k)[j]? = some (a, f, s) ∧ nth ns' a = m) := ⟨hI, hq, hm⟩
      have HNx : Hid ((1 < s → j + 1 < L) ∧ (¬ 1 < s → j + 1 = L)) := by
        refine ⟨fun e => ?_, fun e => ?_⟩
        · have := (List.getElem?_eq_some_iff.1 (hnx e).2.2).1
          rw [HL.out.1] at this
          exact this
        · have := (hlast e).2.1
          rw [HL.out.1] at this
          exact this
      have HF : Hid (fol (tv D T) (nD n) n ns' ((a, f, s) :: (wayL k).drop (j + 1)) = (R1, R2)) := by
        have e := hI.eq
        rw [HR.out, drop_cons3 hq] at e
        exact e.symm
      clear hI hq hm hfk hs1 hks ha0 ha1 hnx hlast
      obtain ⟨wb, hwb⟩ : ∃ wb, wr.alloc (.cells #[.int .i64 (a : Int), .int .i64 (f : Int), .int .i64 (s : Int)] 80) = wb := ⟨_, rfl⟩
      have HB : Hid (Below wr.heap.size wr wb ∧ StAt wb wr.heap.size a f s) := by rw [← hwb]; exact ⟨below_new _, heap_alloc_new _ _⟩
      have B0 := (HB.out.1.cell (p := ⟨w.heap.size + 1, 0, none⟩) (block_lt_of_cell b0)).trans b0
      have B1 := (HB.out.1.cell (p := ⟨w.heap.size + 1, 1, none⟩) (block_lt_of_cell b1)).trans b1
      have M1 := (HB.out.1.cell (p := ⟨g', a, none⟩) (block_lt_of_cell hcm)).trans hcm
      obtain ⟨Z0, Z1, Z2, Z3, Z4⟩ := (HI.out.1.geo.on HB.out.1).cells
      obtain ⟨y0, y1, y2⟩ := HB.out.2.cells
      clear b0 b1 hcm z0 z1 z2 z3 z4
      by_cases hm0 : m = 0
      · subst hm0
        have hRR : R1 = 0 ∧ R2 = 0 := by
          have e := HF.out
          rw [fol, HI.out.2.2, if_pos rfl] at e
          injection e with e1 e2
          exact ⟨e1.symm, e2.symm⟩
        obtain ⟨rfl, rfl⟩ := hRR
        have HFd : Hid (∀ wx a b i, Calls Tryd.prog 39 #[.agg #[a, b], .int .i64 i] wx fun e w' => e = .returned (.tuple #[.int .i64 0, .int .i64 0]) ∧ Below wx.heap.size wx w') := fun wx a b i => find1_any wx a b i
        go_wp2_with (go_at_call 39; refine (HFd.out _ _ _ _).mono ?_; rintro e w3 ⟨rfl, hb⟩; have H3 : Hid (Below w.heap.size w w3) := (HI.out.1.bel.trans (HB.out.1.mono HI.out.1.bel.size)).trans (hb.mono (Nat.le_trans HI.out.1.bel.size HB.out.1.size)); clear hb)
        try rw [Exit.noGoto_ret]
        go_ret2
        exact ⟨rfl, H3.out⟩
      · have hm0' : (m == 0) = false := by simpa using hm0
        have HIs : Hid (∀ wx, Calls Tryd.prog 49 #[.agg #[.int .i64 (n : Int), .int .i64 98, .int .i64 (gI n), .int .i64 (gD n), .int .i64 (gC n)], .int .i64 m] wx fun e w' => e = .returned (.bool (decide ((nD n : Int) ≤ m ∧ m < (n : Int)))) ∧ Below wx.heap.size wx w') := fun wx => misData_any wx n m
        have HBw : Hid (Below w.heap.size w wb) := HI.out.1.bel.trans (HB.out.1.mono HI.out.1.bel.size)
        by_cases hdt : (nD n : Int) ≤ m ∧ m < (n : Int)
        · rw [decide_eq_true hdt] at HIs
          obtain ⟨mm, rfl⟩ : ∃ mm : Nat, m = (mm : Int) := ⟨m.toNat, by omega⟩
          have HDt : Hid (nD n ≤ mm ∧ mm < n) := ⟨by omega, by omega⟩
          have HTb : Hid (∀ wx, Calls Tryd.prog 28 #[.agg #[.int .i64 (a : Int), .int .i64 (f : Int), .int .i64 (s : Int)]] wx fun e w' => e = .returned (.bool (decide (1 < s))) ∧ Below wx.heap.size wx w') := fun wx => isTable_any wx a f s
          have HX : Hid (∀ wx, Below wb.heap.size wb wx → (wx.cell? ⟨wr.heap.size, 0, none⟩ = some (.int .i64 (a : Int)) ∧ wx.cell? ⟨wr.heap.size, 1, none⟩ = some (.int .i64 (f : Int)) ∧ wx.cell? ⟨wr.heap.size, 2, none⟩ = some (.int .i64 (s : Int)))) := fun wx hb => (HB.out.2.on hb).cells
          clear hdt hm0
          by_cases h1 : 1 < s
          · rw [decide_eq_true h1] at HTb
            have HRt : Hid (∀ wx, Below w.heap.size w wx → Calls Tryd.prog 29 #[.pointer (some ⟨tt, 0, none⟩), .int .i64 (mm : Int)] wx fun e w' => ∃ g, e = .returned (.tuple #[.agg #[.int .i64 (mm : Int), .slice (some ⟨g, 0, none⟩) 128 128], .int .i64 0]) ∧ wx.heap.size ≤ g ∧ OwnI w' g 128 (nms (tv D T mm)) ∧ Below wx.heap.size wx w') := fun wx hb => by
              have h9 := rtable_any w0 wx D T n (HS.out.1.on hb) (HS.out.2.on hb) mm HDt.out.2
              rw [HTt.out] at h9
              exact h9
            have H1s : Hid (1 < s) := h1
            clear h1
            go_wp2_with (first
              | (go_at_call 49; refine (HIs.out _).mono ?_; rintro e w3 ⟨rfl, hb⟩; have H3 : Hid (Below wb.heap.size wb w3) := hb; obtain ⟨x0, x1, x2⟩ := HX.out _ hb; clear hb)
              | (go_at_call 28; refine (HTb.out _).mono ?_; rintro e w4 ⟨rfl, hb⟩; have H4 : Hid (Below wr.heap.size wr w4) := HB.out.1.trans ((H3.out.trans (hb.mono H3.out.size)).mono HB.out.1.size); clear hb)
              | (go_at_call 29; refine (HRt.out _ (HI.out.1.bel.trans (H4.out.mono HI.out.1.bel.size))).mono ?_; rintro e w5 ⟨g2, rfl, e1, e2, e3⟩; have H5 : Hid (wr.heap.size ≤ g2 ∧ OwnI w5 g2 128 (nms (tv D T mm)) ∧ Below wr.heap.size wr w5) := ⟨Nat.le_trans H4.out.size e1, e2, H4.out.trans (e3.mono H4.out.size)⟩; have hbx := (H5.out.2.2.block _ (heap_lt HI.out.1.box)).trans HI.out.1.box; have v0 : w5.cell? ⟨w.heap.size + 1, 0, none⟩ = some (.int .i64 t) := (by rw [cell_of_row _ _ _ _ _ _ hbx]; rfl); have v1 : w5.cell? ⟨w.heap.size + 1, 1, none⟩ = some (.slice (some ⟨g', 0, none⟩) len cap') := (by rw [cell_of_row _ _ _ _ _ _ hbx]; rfl); have v2 : w5.frozen? ⟨w.heap.size + 1, 0, none⟩ = false := frozen_of_row _ _ _ _ _ hbx; have v3 : w5.frozen? ⟨w.heap.size + 1, 1, none⟩ = false := frozen_of_row _ _ _ _ _ hbx; clear e1 e2 e3 hbx))
            go_roundw
            case rel => exact ⟨j + 1, by have := HNx.out.1 H1s.out; omega, by go_num, .inl ⟨HNx.out.1 H1s.out, rfl, _, _, _, _, _, HI.out.1.next HI.out.2.1 HI.out.2.2 HDt.out.1 HDt.out.2 (by unfold nD; omega) H1s.out H5.out.2.2 H5.out.1 H5.out.2.1⟩⟩
            case measure => simp [intOf]; omega
          · rw [decide_eq_false h1] at HTb
            have hRR : R1 = (mm : Int) ∧ R2 = 0 := by
              have e := HF.out
              have hd := HDt.out
              have hp : 0 < nD n := by unfold nD; omega
              rw [fol, HI.out.2.2, if_neg (by omega), if_neg (by omega), if_neg h1] at e
              injection e with e1 e2
              exact ⟨e1.symm, e2.symm⟩
            obtain ⟨rfl, rfl⟩ := hRR
            have HNl : Hid (j + 1 = L) := HNx.out.2 h1
            clear h1
            go_wp2_with (first
              | (go_at_call 49; refine (HIs.out _).mono ?_; rintro e w3 ⟨rfl, hb⟩; have H3 : Hid (Below wb.heap.size wb w3) := hb; obtain ⟨x0, x1, x2⟩ := HX.out _ hb; clear hb)
              | (go_at_call 28; refine (HTb.out _).mono ?_; rintro e w4 ⟨rfl, hb⟩; have H4 : Hid (Below wr.heap.size wr w4) := HB.out.1.trans ((H3.out.trans (hb.mono H3.out.size)).mono HB.out.1.size); clear hb))
            go_roundw
            case rel => exact ⟨j + 1, by have := HNl.out; omega, by go_num, .inr ⟨HNl.out, rfl, rfl, HI.out.1.bel.trans (H4.out.mono HI.out.1.bel.size)⟩⟩
            case measure => simp [intOf]; omega
        · rw [decide_eq_false hdt] at HIs
          have hRR : R1 = 0 ∧ R2 = 100 := by
            have e := HF.out
            rw [fol, HI.out.2.2, if_neg hm0, if_pos hdt] at e
            injection e with e1 e2
            exact ⟨e1.symm, e2.symm⟩
          obtain ⟨rfl, rfl⟩ := hRR
          clear hdt hm0
          go_wp2_with (go_at_call 49; refine (HIs.out _).mono ?_; rintro e w3 ⟨rfl, hb⟩; have H3 : Hid (Below w.heap.size w w3) := HBw.out.trans (hb.mono HBw.out.size); clear hb)
          try rw [Exit.noGoto_ret]
          go_ret2
          exact ⟨rfl, H3.out⟩
    · have hjL' : ¬ (j : Int) < (L : Int) := by omega
      have HB : Hid (Below w.heap.size w wr) := hB
      clear hB
      go_wp2
      try rw [Exit.noGoto_ret]
      go_ret2
      exact ⟨rfl, HB.out⟩
end Go.Proofs.YtgmccpimpbnnpaaDoor

namespace Go.Proofs.YtgmccpimpbnnpaaDoor
open Go.RowKit Go.Maps Rec
set_option maxRecDepth 200000 in
theorem wayL_P {k j a f s : Nat} (hk : k < 16522) (h : (wayL k)[j]? = some (a, f, s)) : ∃ p, (wayP k)[j]? = some p ∧ pla p = a := by
  unfold wayL at h
  unfold wayP
  by_cases h0 : k < 10
  · rw [if_pos h0] at h ⊢
    match j, h with
    | 0, h => cases h; exact ⟨_, rfl, by unfold pla; rw [if_pos (by omega)]⟩
  · rw [if_neg h0] at h ⊢
    by_cases h1 : k < 138
    · rw [if_pos h1] at h ⊢
      match j, h with
      | 0, h => cases h; exact ⟨_, rfl, rfl⟩
      | 1, h =>
        have h := Option.some.inj h
        simp only [Prod.mk.injEq] at h
        exact ⟨_, rfl, by unfold pla; rw [if_neg (by omega), if_pos (by omega)]; omega⟩
    · rw [if_neg h1] at h ⊢
      match j, h with
      | 0, h =>
        have h := Option.some.inj h
        simp only [Prod.mk.injEq] at h
        exact ⟨_, rfl, by rw [← h.1]; rfl⟩
      | 1, h =>
        have h := Option.some.inj h
        simp only [Prod.mk.injEq] at h
        refine ⟨_, rfl, ?_⟩
        rw [← h.1]
        unfold pla
        rw [if_neg (by omega), if_neg (by omega)]
        split <;> omega
      | 2, h =>
        have h := Option.some.inj h
        simp only [Prod.mk.injEq] at h
        refine ⟨_, rfl, ?_⟩
        rw [← h.1]
        unfold pla
        rw [if_neg (by omega), if_neg (by omega), if_neg (by omega)]
        omega
theorem wayP_len_eq (k : Nat) : (wayP k).length = (wayL k).length := by
  unfold wayP wayL
  split
  · rfl
  · split <;> rfl
theorem take_snocN {L : List Nat} {j p : Nat} (h : L[j]? = some p) : L.take (j + 1) = L.take j ++ [p] := by
  rw [List.take_add_one, h]; rfl
structure FaB (w0 w wr : World) (D : Dk) (T Tr : Tx) (n k P6 P7 gw g0 cap0 : Nat) (x0 : Nat → Int) (ν0 νr : Nat → Nat) (j : Nat) (bx : Array Value) : Prop where
  gon : Gon w0 w wr D T Tr n (fun i => i = g0)
  ext : ∃ m, Ext T Tr m ∧ m ≤ 3 * j
  cnt : (lst Tr.c n).length ≤ (lst T.c n).length + 3 * j
  geo : GeoAt wr P6 n
  box : wr.heap[P7]? = some (.cells bx 69 (0, 0))
  og : OwnI wr g0 cap0 (ownN νr)
  way : ∀ j (a f s : Nat), (wayL k)[j]? = some (a, f, s) → wr.cell? ⟨gw, j * 3, none⟩ = some (.int .i64 (a : Int)) ∧ wr.cell? ⟨gw, j * 3 + 1, none⟩ = some (.int .i64 (f : Int)) ∧ wr.cell? ⟨gw, j * 3 + 2, none⟩ = some (.int .i64 (s : Int))
  o6 : Out w0 wr D Tr P6
  o7 : Out w0 wr D Tr P7
  ow : Out w0 wr D Tr gw
  o0 : Out w0 wr D Tr g0
  P0 : w.heap.size ≤ P6 ∧ w.heap.size ≤ P7 ∧ w.heap.size ≤ gw ∧ g0 < w.heap.size ∧ P6 ≠ P7 ∧ gw ≠ P7
  tks : Tks ν0 (fd (nD n) n (bmp D T)) ((wayP k).take j) νr (fd (nD n) n (bmp D Tr))
  wd : Wd D Tr n (withN x0 νr) νr
  tvO : ∀ b, ¬ (98 ≤ b ∧ b < 98 + nM n) → (∀ q, νr q ≠ b) → tv D Tr b = tv D T b
  hu : T.us.length + 100 ≤ 1000000
  un : (∃ q, q ∈ (wayP k).take j ∧ ν0 q = 0) ∨ Tr = T
  inn : ∀ q, νr q ≠ ν0 q → (Tr.c (νr q)).isSome = true ∧ (Tr.c (98 + νr q / 4096)).isSome = true
structure FaI (w0 w wr : World) (D : Dk) (T Tr : Tx) (n k P6 P7 gw g0 cap0 : Nat) (x0 : Nat → Int) (ν0 νr : Nat → Nat) (j p t g len cap : Nat) (ns : List Int) : Prop where
  fb : FaB w0 w wr D T Tr n k P6 P7 gw g0 cap0 x0 ν0 νr j #[.int .i64 (t : Int), .slice (some ⟨g, 0, none⟩) len cap]
  row : OwnI wr g cap ns
  og : Out w0 wr D Tr g
  gg : (p < 12 ∧ g = g0 ∧ cap = cap0) ∨ (12 ≤ p ∧ w.heap.size ≤ g ∧ g ≠ P6 ∧ g ≠ P7 ∧ g ≠ gw)
  pos : (wayP k)[j]? = some p
  lt : p < 16652
  ro : RowOf D Tr νr p t len (pla p) ns
theorem FaB.on {w0 w wr wx : World} {D : Dk} {T Tr : Tx} {n k P6 P7 gw g0 cap0 j : Nat} {x0 : Nat → Int} {ν0 νr : Nat → Nat} {bx : Array Value} (h : FaB w0 w wr D T Tr n k P6 P7 gw g0 cap0 x0 ν0 νr j bx) (hb : Below wr.heap.size wr wx) : FaB w0 w wx D T Tr n k P6 P7 gw g0 cap0 x0 ν0 νr j bx := by
  have m : SMv (fun _ => False) wr Tr wx Tr := SMv.on hb
  refine ⟨h.gon.trans (Gon.on h.gon.spc hb (S := fun _ => False)) (fun _ e => e.elim), h.ext, h.cnt, h.geo.on hb, (hb.block _ h.o7.lt).trans h.box, h.og.on hb, fun j a f s hj => ?_, h.o6.mv m, h.o7.mv m, h.ow.mv m, h.o0.mv m, h.P0, h.tks, h.wd, h.tvO, h.hu, h.un, h.inn⟩
  obtain ⟨x0, x1, x2⟩ := h.way j a f s hj
  exact ⟨(hb.cell (p := ⟨gw, j * 3, none⟩) h.ow.lt).trans x0, (hb.cell (p := ⟨gw, j * 3 + 1, none⟩) h.ow.lt).trans x1, (hb.cell (p := ⟨gw, j * 3 + 2, none⟩) h.ow.lt).trans x2⟩
theorem FaI.num {w0 w wr : World} {D : Dk} {T Tr : Tx} {n k P6 P7 gw g0 cap0 j p t g len cap : Nat} {x0 : Nat → Int} {ν0 νr : Nat → Nat} {ns : List Int} (h : FaI w0 w wr D T Tr n k P6 P7 gw g0 cap0 x0 ν0 νr j p t g len cap ns) : nth ns (pla p) = (νr p : Int) ∧ ns.length = len ∧ pla p < len := h.ro.at_ h.fb.wd h.lt
theorem FaI.keep {w0 w wr : World} {D : Dk} {T Tr : Tx} {n k P6 P7 gw g0 cap0 j p t g len cap : Nat} {x0 : Nat → Int} {ν0 νr : Nat → Nat} {ns : List Int} (h : FaI w0 w wr D T Tr n k P6 P7 gw g0 cap0 x0 ν0 νr j p t g len cap ns) (hz : νr p ≠ 0) : FaB w0 w wr D T Tr n k P6 P7 gw g0 cap0 x0 ν0 νr (j + 1) #[.int .i64 (t : Int), .slice (some ⟨g, 0, none⟩) len cap] := by
  obtain ⟨m, hm, hm2⟩ := h.fb.ext
  refine ⟨h.fb.gon, ⟨m, hm, by omega⟩, by have := h.fb.cnt; omega, h.fb.geo, h.fb.box, h.fb.og, h.fb.way, h.fb.o6, h.fb.o7, h.fb.ow, h.fb.o0, h.fb.P0, ?_, h.fb.wd, h.fb.tvO, h.fb.hu, ?_, h.fb.inn⟩
  · rw [take_snocN h.pos]
    exact .keep h.fb.tks hz
  · rw [take_snocN h.pos]
    exact h.fb.un.imp (fun ⟨q, e1, e2⟩ => ⟨q, List.mem_append_left _ e1, e2⟩) id
theorem FaI.put {w0 w wr : World} {D : Dk} {T Tr : Tx} {n k P6 P7 gw g0 cap0 j p t g len cap : Nat} {x0 : Nat → Int} {ν0 νr : Nat → Nat} {ns : List Int} (h : FaI w0 w wr D T Tr n k P6 P7 gw g0 cap0 x0 ν0 νr j p t g len cap ns) : (t = 0 ∧ len = 12) ∨ (nD n ≤ t ∧ t < n ∧ fd (nD n) n (bmp D Tr) t = false ∧ len = 128 ∧ ∀ i, 0 ≤ nth ns i ∧ nth ns i < 4294967296) := by
  by_cases e : p < 12
  · exact .inl ⟨(h.ro.o e).1, (h.ro.o e).2.1⟩
  · obtain ⟨h1, h0, h2, h3⟩ := h.ro.t (by omega)
    have hg := h.fb.wd.own.good (par p) (by rw [← h1]; exact h0)
    rw [← h1] at hg
    exact .inr ⟨hg.1, hg.2.1, hg.2.2, h2, by rw [h3]; exact nms_bd h.fb.gon.spc t hg.2.1⟩
theorem FaI.took {w0 w wr wb w3 : World} {D : Dk} {T Tr T3 : Tx} {n k P6 P7 gw g0 cap0 j p t g len cap i m : Nat} {x0 : Nat → Int} {ν0 νr : Nat → Nat} {ns : List Int} (h : FaI w0 w wr D T Tr n k P6 P7 gw g0 cap0 x0 ν0 νr j p t g len cap ns) (hb : Below wr.heap.size wr wb) (hz : νr p = 0) (b : BtE w0 wb w3 D Tr T3 n t (pla p) g cap ns i 0 m) :
    FaB w0 w w3 D T T3 n k P6 P7 gw g0 cap0 x0 ν0 (upN νr p i) (j + 1) #[.int .i64 (t : Int), .slice (some ⟨g, 0, none⟩) len cap] ∧ upN νr p i p = i ∧ i ≠ 0 := by
  rcases b.or with ⟨_, bo, hrow⟩ | ⟨_, e⟩
  rotate_left
  · omega
  have hN := nM_bd h.fb.gon.spc.lo h.fb.gon.spc.hi
  have hi := fd_bd bo.lo.1
  have hB := h.fb.on hb
  have mb : SMv (fun _ => False) wr Tr wb Tr := SMv.on hb
  have ogb := h.og.mv mb
  have hP := h.fb.P0
  obtain ⟨m0, hm, hm2⟩ := h.fb.ext
  have hgS : ∀ q, q = P6 ∨ q = P7 ∨ q = gw → q ≠ g := fun q hq => by
    rcases h.gg with ⟨_, e, _⟩ | ⟨_, e1, e2, e3, e4⟩
    · rcases hq with rfl | rfl | rfl <;> omega
    · rcases hq with rfl | rfl | rfl
      · exact fun e => e2 e.symm
      · exact fun e => e3 e.symm
      · exact fun e => e4 e.symm
  have hk : ∀ q, Out w0 wb D Tr q → q ≠ g → ¬ (Tr.has q ∨ q = g) := fun q ho hq e => e.elim (fun e => ho.no e) hq
  have f := b.gon.mv.fr
  refine ⟨⟨hB.gon.trans b.gon (fun q hq => ?_), ⟨m0 + m, hm.trans b.ext, by have := b.m3; omega⟩, by have := b.cnt; have := h.fb.cnt; omega, f.heap hB.geo (hk _ hB.o6 (hgS _ (.inl rfl))), f.heap hB.box (hk _ hB.o7 (hgS _ (.inr (.inl rfl)))), ?_, fun j a f' s hj => ?_, hB.o6.mv b.gon.mv, hB.o7.mv b.gon.mv, hB.ow.mv b.gon.mv, hB.o0.mv b.gon.mv, h.fb.P0, ?_, ?_, fun c hc1 hc2 => ?_, h.fb.hu, .inl ⟨p, by rw [take_snocN h.pos]; simp, by rcases h.fb.tks.fresh p with e | e; rw [← e]; exact hz; exact e.1⟩, fun q hq => ?_⟩, upN_same _ _ _, by omega⟩
  · have hq : q = g := hq
    rcases h.gg with ⟨_, e, _⟩ | ⟨_, e, _⟩
    · exact .inl (hq.trans e)
    · exact .inr (by rw [hq]; exact e)
  · rcases h.gg with ⟨e0, e, e1⟩ | ⟨e0, e1, _⟩
    · have hp : pla p = p := by unfold pla; rw [if_pos e0]
      rw [(h.ro.o e0).2.2, hp, ownN_set _ _ _ e0, e, e1] at hrow
      exact hrow
    · have e2 : ownN (upN νr p i) = ownN νr := by
        refine ext_nth (by rw [ownN_length, ownN_length]) (fun q hq => ?_)
        rw [ownN_length] at hq
        rw [nth_ownN _ _ hq, nth_ownN _ _ hq, upN_other _ _ (by omega)]
      rw [e2]
      exact hB.og.fr f (hk _ hB.o0 (by omega))
  · obtain ⟨x0, x1, x2⟩ := hB.way j a f' s hj
    have hw := hk _ hB.ow (hgS _ (.inr (.inr rfl)))
    exact ⟨f.cell x0 hw, f.cell x1 hw, f.cell x2 hw⟩
  · rw [take_snocN h.pos, bo.fdE]
    exact .take h.fb.tks hz bo.lo
  · have := h.fb.wd.take hB.gon.spc h.ro h.lt hz bo
    have e : withN (withN x0 νr) (upN νr p i) = withN x0 (upN νr p i) := by
      funext q
      unfold withN
      split <;> rfl
    rw [e] at this
    exact this
  · have hct : c ≠ t := by
      by_cases e : p < 12
      · rw [(h.ro.o e).1]
        intro e0
        have := hc2 16652
        rw [upN_other _ _ (by have := h.lt; omega), h.fb.wd.tre.out _ (Nat.le_refl _)] at this
        exact this e0.symm
      · rw [(h.ro.t (by omega)).1]
        intro e0
        have hp2 : par p ≠ p := by have := (par_lt (by omega) h.lt).2.2.1; omega
        have := hc2 (par p)
        rw [upN_other _ _ hp2] at this
        exact this e0.symm
    have hci : c ≠ i := fun e => hc2 p (by rw [upN_same]; exact e.symm)
    rw [bo.tvE c hc1 hct, if_neg hci]
    refine h.fb.tvO c hc1 (fun q e => ?_)
    by_cases e1 : q = p
    · subst e1
      rw [hz] at e
      have := hc2 16652
      rw [upN_other _ _ (by have := h.lt; omega), h.fb.wd.tre.out _ (Nat.le_refl _)] at this
      exact this e
    · have := hc2 q
      rw [upN_other _ _ e1] at this
      exact this e
  · by_cases e1 : q = p
    · subst e1; rw [upN_same]; exact ⟨bo.di, bo.dB⟩
    · rw [upN_other _ _ e1] at hq ⊢
      exact ⟨b.gon.dom _ (h.fb.inn q hq).1, b.gon.dom _ (h.fb.inn q hq).2⟩
theorem FaB.next {w0 w wr w5 : World} {D : Dk} {T Tr : Tx} {n k P6 P7 gw g0 cap0 j p q N g2 : Nat} {x0 : Nat → Int} {ν0 νr : Nat → Nat} {bx : Array Value} (h : FaB w0 w wr D T Tr n k P6 P7 gw g0 cap0 x0 ν0 νr (j + 1) bx) (h2 : bx.size = 2) (hk : k < 16522) (hp : (wayP k)[j]? = some p) (hq : (wayP k)[j + 1]? = some q) (hN : νr p = N) (h0 : N ≠ 0) (hb : Below wr.heap.size wr w5) (hg : wr.heap.size ≤ g2) (ho : OwnI w5 g2 128 (nms (tv D Tr N))) :
    FaI w0 w ((w5.setCell ⟨P7, 0, none⟩ (.int .i64 (N : Int))).setCell ⟨P7, 1, none⟩ (.slice (some ⟨g2, 0, none⟩) 128 128)) D T Tr n k P6 P7 gw g0 cap0 x0 ν0 νr (j + 1) q N g2 128 128 (nms (tv D Tr N)) := by
  have hB := h.on hb
  have hP := h.P0
  have hgl := ho.lt
  have hs := h.gon.mv.fr.size
  obtain ⟨e1, e2, e3⟩ := wayP_next hk hp hq
  have hf : Fr (fun i => i = P7) w5 ((w5.setCell ⟨P7, 0, none⟩ (.int .i64 (N : Int))).setCell ⟨P7, 1, none⟩ (.slice (some ⟨g2, 0, none⟩) 128 128)) := (Fr.set (g := P7)).trans (Fr.set (g := P7)) (fun _ h => .inl h)
  have mf : SMv (fun i => i = P7) w5 Tr ((w5.setCell ⟨P7, 0, none⟩ (.int .i64 (N : Int))).setCell ⟨P7, 1, none⟩ (.slice (some ⟨g2, 0, none⟩) 128 128)) Tr := SMv.fr_ hf
  have hl6 := h.o6.lt
  have hl7 := h.o7.lt
  have hlw := h.ow.lt
  have og5 : Out w0 w5 D Tr g2 := Out.of h.gon.spc hg hgl
  have hsp : Spc w0 ((w5.setCell ⟨P7, 0, none⟩ (.int .i64 (N : Int))).setCell ⟨P7, 1, none⟩ (.slice (some ⟨g2, 0, none⟩) 128 128)) D Tr n := hB.gon.spc.frG hf (fun k hk => by have hk : k = P7 := hk; subst hk; exact .inr hB.o7)
  refine ⟨⟨⟨hB.gon.mv.trans mf (fun k hk => .inr (by have hk : k = P7 := hk; omega)), hsp, hB.gon.dom⟩, hB.ext, hB.cnt, hf.heap hB.geo hP.2.2.2.2.1, ?_, hB.og.fr hf (by show ¬ g0 = P7; omega), fun j a f s hj => ?_, hB.o6.mv mf, hB.o7.mv mf, hB.ow.mv mf, hB.o0.mv mf, h.P0, h.tks, h.wd, h.tvO, h.hu, h.un, h.inn⟩, ho.fr hf (by show ¬ g2 = P7; omega), og5.mv mf, .inr ⟨e2, by omega, by omega, by omega, by omega⟩, hq, e3, rfl, fun e => by omega, fun _ => ⟨by rw [e1, hN], h0, rfl, rfl⟩⟩
  · obtain ⟨l⟩ := bx
    match l, h2 with
    | [u, v], _ =>
      have e1 : (w5.setCell ⟨P7, 0, none⟩ (.int .i64 (N : Int))).heap[P7]? = some (.cells #[.int .i64 (N : Int), v] 69 (0, 0)) := heap_setCell_same _ _ _ _ _ _ hB.box
      exact heap_setCell_same _ _ _ _ _ _ e1
  · obtain ⟨x0, x1, x2⟩ := hB.way j a f s hj
    have ne : ¬ gw = P7 := hP.2.2.2.2.2
    exact ⟨hf.cell x0 ne, hf.cell x1 ne, hf.cell x2 ne⟩
end Go.Proofs.YtgmccpimpbnnpaaDoor
