import Derived.Test.YtgmccpimpbnnpaaDoorKBpI
namespace Go.Proofs.YtgmccpimpbnnpaaDoor
open Go.RowKit Go.Maps Rec
structure AdR (w0 w w' : World) (D : Dk) (T T' : Tx) (n k g0 cap0 : Nat) (x0 : Nat → Int) (ν0 ν' : Nat → Nat) (N : Nat) : Prop where
  gon : Gon w0 w w' D T T' n (fun i => i = g0)
  ext : ∃ m, Ext T T' m ∧ m ≤ 9
  cnt : (lst T'.c n).length ≤ (lst T.c n).length + 9
  og : OwnI w' g0 cap0 (ownN ν')
  tks : Tks ν0 (fd (nD n) n (bmp D T)) (wayP k) ν' (fd (nD n) n (bmp D T'))
  wd : Wd D T' n (withN x0 ν') ν'
  tvO : ∀ b, ¬ (98 ≤ b ∧ b < 98 + nM n) → (∀ q, ν' q ≠ b) → tv D T' b = tv D T b
  nE : ν' (ixP k) = N
  N0 : N ≠ 0
  un : (∃ q, q ∈ wayP k ∧ ν0 q = 0) ∨ T' = T
  inn : ∀ q, ν' q ≠ ν0 q → (T'.c (ν' q)).isSome = true ∧ (T'.c (98 + ν' q / 4096)).isSome = true
def AdZ (T : Tx) (n k : Nat) (ν0 : Nat → Nat) (F0 : Nat → Bool) (z : Nat) : Prop :=
  (z = 60 ∧ 96 < (lst T.c n).length + 9) ∨ (z = 90 ∧ ∃ L p ν F, L ++ [p] <+: wayP k ∧ Tks ν0 F0 L ν F ∧ ν p = 0 ∧ ct F n = 0)
structure AdX (w0 w w' : World) (D : Dk) (T T' : Tx) (n k g0 : Nat) (ν0 : Nat → Nat) (z : Nat) : Prop where
  gon : Gon w0 w w' D T T' n (fun i => i = g0)
  ext : ∃ m, Ext T T' m
  z : AdZ T n k ν0 (fd (nD n) n (bmp D T)) z
theorem snoc_pre {L : List Nat} {j p : Nat} (h : L[j]? = some p) : L.take j ++ [p] <+: L := by
  rw [← take_snocN h]; exact List.take_prefix _ _
theorem FaI.bad {w0 w wr wb w3 : World} {D : Dk} {T Tr T3 : Tx} {n k P6 P7 gw g0 cap0 j p t g len cap i z m : Nat} {x0 : Nat → Int} {ν0 νr : Nat → Nat} {ns : List Int} (h : FaI w0 w wr D T Tr n k P6 P7 gw g0 cap0 x0 ν0 νr j p t g len cap ns) (hj : j < 3) (hb : Below wr.heap.size wr wb) (hz : νr p = 0) (b : BtE w0 wb w3 D Tr T3 n t (pla p) g cap ns i z m) (hi : z = 60 ∧ 96 < (lst Tr.c n).length + 3 ∨ z = 90 ∧ ct (fd (nD n) n (bmp D Tr)) n = 0) : AdX w0 w w3 D T T3 n k g0 ν0 z := by
  have hB := h.fb.on hb
  obtain ⟨m0, hm, _⟩ := h.fb.ext
  refine ⟨hB.gon.trans b.gon (fun q hq => ?_), ⟨m0 + m, hm.trans b.ext⟩, ?_⟩
  · have hq : q = g := hq
    rcases h.gg with ⟨_, e, _⟩ | ⟨_, e, _⟩
    · exact .inl (hq.trans e)
    · exact .inr (by rw [hq]; exact e)
  · rcases hi with ⟨rfl, e⟩ | ⟨rfl, e⟩
    · exact .inl ⟨rfl, by have := h.fb.cnt; omega⟩
    · exact .inr ⟨rfl, _, p, νr, _, snoc_pre h.pos, h.fb.tks, hz, e⟩
theorem FaB.done {w0 w wr : World} {D : Dk} {T Tr : Tx} {n k P6 P7 gw g0 cap0 j p N : Nat} {x0 : Nat → Int} {ν0 νr : Nat → Nat} {bx : Array Value} (h : FaB w0 w wr D T Tr n k P6 P7 gw g0 cap0 x0 ν0 νr (j + 1) bx) (hj : j < 3) (hp : (wayP k)[j]? = some p) (hl : j + 1 = (wayP k).length) (hN : νr p = N) (h0 : N ≠ 0) : AdR w0 w wr D T Tr n k g0 cap0 x0 ν0 νr N := by
  obtain ⟨m, hm, hm2⟩ := h.ext
  refine ⟨h.gon, ⟨m, hm, by omega⟩, by have := h.cnt; omega, h.og, ?_, h.wd, h.tvO, by rw [← wayP_last hp hl, hN], h0, ?_, h.inn⟩
  · have := h.tks
    rw [hl, List.take_length] at this
    exact this
  · have := h.un
    rw [hl, List.take_length] at this
    exact this
set_option maxRecDepth 100000 in
set_option maxHeartbeats 16000000 in
theorem follow_add (w0 w : World) (D : Dk) (T : Tx) (n : Nat) (h : Spc w0 w D T n) (hT : TabAt w0) (k : Nat) (hk : k < 16522) (g0 cap0 : Nat) (x0 : Nat → Int) (ν0 : Nat → Nat) (ho : OwnI w g0 cap0 (ownN ν0)) (hO : Out w0 w D T g0) (hw : Wd D T n (withN x0 ν0) ν0) (hu : T.us.length + 100 ≤ 1000000) (Tb Gb : Nat) (ht : w.cell? ⟨Tb, 0, none⟩ = some (.pointer (some ⟨T.t, 0, none⟩))) (hg : GeoAt w Gb n) (hTb : Out w0 w D T Tb ∧ Tb ≠ g0) (hGb : Out w0 w D T Gb ∧ Gb ≠ g0) :
    Calls Tryd.prog 23 #[.pointer (some ⟨T.t, 0, none⟩), geoV n, .agg #[.int .i64 0, .slice (some ⟨g0, 0, none⟩) 12 cap0], .int .i64 (k : Int), .func (.func 24) #[] #[.pointer (some ⟨Tb, 0, none⟩), .pointer (some ⟨Gb, 0, none⟩)]] w fun e w' => ∃ (N z : Nat) (T' : Tx), e = .returned (.tuple #[.int .i64 (N : Int), .int .i64 (z : Int)]) ∧ ((z = 0 ∧ ∃ ν', AdR w0 w w' D T T' n k g0 cap0 x0 ν0 ν' N) ∨ (z ≠ 0 ∧ AdX w0 w w' D T T' n k g0 ν0 z)) := by
  unfold geoV
  have HWy : Hid (∀ wx, Calls Tryd.prog 48 #[.int .i64 (k : Int)] wx fun e w' => ∃ g cap, e = .returned (.slice (some ⟨g, 0, none⟩) (wayL k).length cap) ∧ wx.heap.size ≤ g ∧ g < w'.heap.size ∧ (∀ j (a f s : Nat), (wayL k)[j]? = some (a, f, s) → w'.cell? ⟨g, j * 3, none⟩ = some (.int .i64 (a : Int)) ∧ w'.cell? ⟨g, j * 3 + 1, none⟩ = some (.int .i64 (f : Int)) ∧ w'.cell? ⟨g, j * 3 + 2, none⟩ = some (.int .i64 (s : Int))) ∧ Below wx.heap.size wx w') := fun wx => way_any wx k hk
  go_enter Tryd.func23, Tryd.ntmps23
  obtain ⟨wa, hwa⟩ : ∃ wa, (w.alloc (.cells #[.int .i64 (n : Int), .int .i64 98, .int .i64 (gI n), .int .i64 (gD n), .int .i64 (gC n)] 29)).alloc (.cells #[.int .i64 0, .slice (some ⟨g0, 0, none⟩) 12 cap0] 69) = wa := ⟨_, rfl⟩
  have HA : Hid (Below w.heap.size w wa ∧ GeoAt wa w.heap.size n ∧ wa.heap[w.heap.size + 1]? = some (.cells #[.int .i64 0, .slice (some ⟨g0, 0, none⟩) 12 cap0] 69 (0, 0)) ∧ wa.heap.size = w.heap.size + 2) := by
    rw [← hwa]
    refine ⟨(below_new _).alloc (by simp) _, (Below.heap_alloc _ _ _ (by simp)).trans (heap_alloc_new _ _), ?_, by simp⟩
    have := heap_alloc_new (w.alloc (.cells #[.int .i64 (n : Int), .int .i64 98, .int .i64 (gI n), .int .i64 (gD n), .int .i64 (gC n)] 29)) (.cells #[.int .i64 0, .slice (some ⟨g0, 0, none⟩) 12 cap0] 69)
    rw [World.size_alloc] at this
    exact this
  obtain ⟨p0, hp0⟩ : ∃ p, (wayP k)[0]? = some p := ⟨_, List.getElem?_eq_getElem (wayP_len k).1⟩
  have HS : Hid (Spc w0 w D T n ∧ TabAt w0 ∧ k < 16522 ∧ (wayP k)[0]? = some p0) := ⟨h, hT, hk, hp0⟩
  have HO : Hid (OwnI w g0 cap0 (ownN ν0) ∧ Out w0 w D T g0 ∧ Wd D T n (withN x0 ν0) ν0 ∧ T.us.length + 100 ≤ 1000000) := ⟨ho, hO, hw, hu⟩
  have HX0 : Hid (w.cell? ⟨Tb, 0, none⟩ = some (.pointer (some ⟨T.t, 0, none⟩)) ∧ GeoAt w Gb n ∧ (Out w0 w D T Tb ∧ Tb ≠ g0) ∧ (Out w0 w D T Gb ∧ Gb ≠ g0)) := ⟨ht, hg, hTb, hGb⟩
  have HSt : Hid (∀ w1 gw, Below wa.heap.size wa w1 → wa.heap.size ≤ gw → gw < w1.heap.size → (∀ j (a f s : Nat), (wayL k)[j]? = some (a, f, s) → w1.cell? ⟨gw, j * 3, none⟩ = some (.int .i64 (a : Int)) ∧ w1.cell? ⟨gw, j * 3 + 1, none⟩ = some (.int .i64 (f : Int)) ∧ w1.cell? ⟨gw, j * 3 + 2, none⟩ = some (.int .i64 (s : Int))) → FaI w0 w w1 D T T n k w.heap.size (w.heap.size + 1) gw g0 cap0 x0 ν0 ν0 0 p0 0 g0 12 cap0 (ownN ν0)) := fun w1 gw hb h1 h2 h3 => by
    have hbw : Below w.heap.size w w1 := HA.out.1.trans (hb.mono HA.out.1.size)
    have hs := HA.out.2.2.2
    have hlt := hb.size
    have hg0 := hO.lt
    obtain ⟨hp12, hpa⟩ := wayP_0 hp0
    refine ⟨⟨Gon.on h hbw, ⟨0, Ext.refl _, by omega⟩, by omega, HA.out.2.1.on hb, (hb.block _ (heap_lt HA.out.2.2.1)).trans HA.out.2.2.1, ho.on hbw, h3, Out.of h (Nat.le_refl _) (by omega), Out.of h (by omega) (by omega), Out.of h (by omega) h2, hO.mv (SMv.on hbw (S := fun _ => False)), ⟨by omega, by omega, by omega, by omega, by omega, by omega⟩, .nil, hw, fun _ _ _ => rfl, hu, .inr rfl, fun _ e => absurd rfl e⟩, ho.on hbw, hO.mv (SMv.on hbw (S := fun _ => False)), .inl ⟨hp12, rfl, rfl⟩, hp0, by omega, rfl, fun _ => ⟨rfl, rfl, rfl⟩, fun e => by omega⟩
  obtain ⟨tt, htt⟩ : ∃ tt, T.t = tt := ⟨_, rfl⟩
  have HTt : Hid (T.t = tt) := htt
  rw [htt]
  clear h hT ho hO hw hu ht hg hTb hGb htt hp0
  obtain ⟨L, hL⟩ : ∃ L, (wayL k).length = L := ⟨_, rfl⟩
  have HL : Hid ((wayL k).length = L ∧ 0 < L ∧ L ≤ 3 ∧ k < 16522) := ⟨hL, by rw [← hL]; exact (wayL_len k).1, by rw [← hL]; exact (wayL_len k).2, hk⟩
  rw [hL] at HWy
  clear hL
  go_wp2
  go_step3
  go_wp2
  go_step3
  go_wp2_with (go_at_call 48; refine (HWy.out _).mono ?_; rintro e w1 ⟨gw, cw, rfl, h1, h2, h3, h4⟩; have H1 : Hid (FaI w0 w w1 D T T n k w.heap.size (w.heap.size + 1) gw g0 cap0 x0 ν0 ν0 0 p0 0 g0 12 cap0 (ownN ν0)) := HSt.out w1 gw h4 h1 h2 h3; clear h1 h2 h3 h4)
  have hLp := HL.out.2.1
  go_loopw [12, 13, 19] (fun s12 s13 s19 wr => ∃ (j : Nat), j ≤ L ∧ s19 = .int .i64 (j : Int) ∧ ((j < L ∧ s13 = .int .i64 0 ∧ ∃ Tr νr p t g len cap ns, FaI w0 w wr D T Tr n k w.heap.size (w.heap.size + 1) gw g0 cap0 x0 ν0 νr j p t g len cap ns) ∨ (j = L ∧ ∃ (N : Nat) (Tr : Tx) (ν' : Nat → Nat), s12 = .int .i64 (N : Int) ∧ s13 = .int .i64 0 ∧ AdR w0 w wr D T Tr n k g0 cap0 x0 ν0 ν' N))) (fun _ _ s19 _ => L - (intOf s19).toNat)
  case atStart => exact ⟨0, by omega, rfl, .inl ⟨hLp, rfl, T, ν0, p0, 0, g0, 12, cap0, _, H1.out⟩⟩
  case round =>
    clear H1
    obtain ⟨j, hj, rfl, hd⟩ := hrel
    rcases hd with ⟨hjL, rfl, Tr, νr, p, t, g', len, cap', ns', hI⟩ | ⟨hjL, N, Tr, ν', rfl, rfl, hR⟩
    · have hjL' : (j : Int) < (L : Int) := by omega
      have hj3 : j < 3 := by have := HL.out; omega
      obtain ⟨q, hq⟩ : ∃ q, (wayL k)[j]? = some q := ⟨_, List.getElem?_eq_getElem (by rw [HL.out.1]; exact hjL)⟩
      obtain ⟨a, f, s⟩ := q
      obtain ⟨hfk, hs1, hks, ha0, ha1, hnx, hlast⟩ := wayL_at HL.out.2.2.2 hq
      obtain ⟨q0, q1, q2⟩ := hI.fb.way j a f s hq
      have hpa : pla p = a := by
        obtain ⟨p', e1, e2⟩ := wayL_P HL.out.2.2.2 hq
        have := hI.pos
        rw [e1] at this
        injection this with this
        rw [← this]; exact e2
      obtain ⟨hnum, hnl, hal⟩ := hI.num
      rw [hpa] at hnum hal
      have hal' : (a : Int) < (len : Int) := by omega
      obtain ⟨m, hm⟩ : ∃ m, νr p = m := ⟨_, rfl⟩
      rw [hm] at hnum
      have hcm : wr.cell? ⟨g', a, none⟩ = some (.int .i64 (m : Int)) := by rw [← hnum]; exact hI.row.cell a (by rw [hnl]; exact hal)
      have b0 : wr.cell? ⟨w.heap.size + 1, 0, none⟩ = some (.int .i64 (t : Int)) := by rw [cell_of_row _ _ _ _ _ _ hI.fb.box]; rfl
      have b1 : wr.cell? ⟨w.heap.size + 1, 1, none⟩ = some (.slice (some ⟨g', 0, none⟩) len cap') := by rw [cell_of_row _ _ _ _ _ _ hI.fb.box]; rfl
      have HI : Hid (FaI w0 w wr D T Tr n k w.heap.size (w.heap.size + 1) gw g0 cap0 x0 ν0 νr j p t g' len cap' ns' ∧ νr p = m ∧ pla p = a ∧ j < 3) := ⟨hI, hm, hpa, hj3⟩
      have HNx : Hid ((1 < s → j + 1 < L) ∧ (¬ 1 < s → j + 1 = L)) := by
        refine ⟨fun e => ?_, fun e => ?_⟩
        · have := (List.getElem?_eq_some_iff.1 (hnx e).2.2).1
          rw [HL.out.1] at this
          exact this
        · have := (hlast e).2.1
          rw [HL.out.1] at this
          exact this
      clear hI hq hm hfk hs1 hks ha0 ha1 hnx hlast hpa hnum hnl hal
      obtain ⟨wb, hwb⟩ : ∃ wb, wr.alloc (.cells #[.int .i64 (a : Int), .int .i64 (f : Int), .int .i64 (s : Int)] 80) = wb := ⟨_, rfl⟩
      have HB : Hid (Below wr.heap.size wr wb ∧ StAt wb wr.heap.size a f s) := by rw [← hwb]; exact ⟨below_new _, heap_alloc_new _ _⟩
      have B0 := (HB.out.1.cell (p := ⟨w.heap.size + 1, 0, none⟩) (block_lt_of_cell b0)).trans b0
      have B1 := (HB.out.1.cell (p := ⟨w.heap.size + 1, 1, none⟩) (block_lt_of_cell b1)).trans b1
      have M1 := (HB.out.1.cell (p := ⟨g', a, none⟩) (block_lt_of_cell hcm)).trans hcm
      obtain ⟨Z0, Z1, Z2, Z3, Z4⟩ := (HI.out.1.fb.geo.on HB.out.1).cells
      obtain ⟨y0, y1, y2⟩ := HB.out.2.cells
      clear b0 b1 hcm
      have HTb : Hid (∀ wx, Calls Tryd.prog 28 #[.agg #[.int .i64 (a : Int), .int .i64 (f : Int), .int .i64 (s : Int)]] wx fun e w' => e = .returned (.bool (decide (1 < s))) ∧ Below wx.heap.size wx w') := fun wx => isTable_any wx a f s
      have HRt : Hid (∀ wx Tx νx N, FaB w0 w wx D T Tx n k w.heap.size (w.heap.size + 1) gw g0 cap0 x0 ν0 νx (j + 1) #[.int .i64 (t : Int), .slice (some ⟨g', 0, none⟩) len cap'] → νx p = N → N ≠ 0 → Calls Tryd.prog 29 #[.pointer (some ⟨tt, 0, none⟩), .int .i64 (N : Int)] wx fun e w' => ∃ g, e = .returned (.tuple #[.agg #[.int .i64 (N : Int), .slice (some ⟨g, 0, none⟩) 128 128], .int .i64 0]) ∧ wx.heap.size ≤ g ∧ OwnI w' g 128 (nms (tv D Tx N)) ∧ Below wx.heap.size wx w') := fun wx Tx νx N hF hN h0 => by
        have hgd := hF.wd.own.good p (by rw [hN]; exact h0)
        rw [hN] at hgd
        have h9 := rtable_any w0 wx D Tx n hF.gon.spc (HS.out.2.1.on hF.gon.spc.ses.bel) N hgd.2.1
        rw [hF.gon.mv.t, HTt.out] at h9
        exact h9
      by_cases hm0 : m = 0
      · subst hm0
        have HFl : Hid (Calls Tryd.prog 24 #[.agg #[.int .i64 (t : Int), .slice (some ⟨g', 0, none⟩) len cap'], .int .i64 (a : Int), .pointer (some ⟨Tb, 0, none⟩), .pointer (some ⟨Gb, 0, none⟩)] wb fun e w' => ∃ (i z m : Nat) (T' : Tx), e = .returned (.tuple #[.int .i64 (i : Int), .int .i64 (z : Int)]) ∧ ∃ wc, Below wb.heap.size wb wc ∧ BtE w0 wc w' D Tr T' n t a g' cap' ns' i z m) := by
          have hI := HI.out.1
          have hb := HB.out.1
          have hB := hI.fb.on hb
          obtain ⟨hnum, hnl, hal⟩ := hI.num
          rw [HI.out.2.2.1] at hal
          obtain ⟨m, hm, hm2⟩ := hI.fb.ext
          have hx := HX0.out
          have hnoT : ∀ q, Out w0 w D T q → q ≠ g0 → ¬ (T.has q ∨ q = g0) := fun q ho hq e => e.elim (fun e => ho.no e) hq
          have ht := hB.gon.mv.fr.cell hx.1 (hnoT _ hx.2.2.1.1 hx.2.2.1.2)
          rw [← hB.gon.mv.t] at ht
          exact filler_any w0 wb D Tr n hB.gon.spc HS.out.2.1 t len a g' cap' ns' (hI.row.on hb) (hI.og.mv (SMv.on hb (S := fun _ => False))) hnl hal hI.put (by rw [hm.us]; have := hI.fb.hu; have := HI.out.2.2.2; omega) Tb Gb ht (hB.gon.mv.fr.heap hx.2.1 (hnoT _ hx.2.2.2.1 hx.2.2.2.2))
        have HCe : Hid (∀ wx Tx νx, FaB w0 w wx D T Tx n k w.heap.size (w.heap.size + 1) gw g0 cap0 x0 ν0 νx (j + 1) #[.int .i64 (t : Int), .slice (some ⟨g', 0, none⟩) len cap'] → True) := fun _ _ _ _ => trivial
        clear HCe
        go_upto_region 8 with (go_at_call 24; refine HFl.out.mono ?_; rintro e w3 ⟨i, z, m, T3, rfl, wc, hbc, hbt⟩; have H3 : Hid (Below wr.heap.size wr wc ∧ BtE w0 wc w3 D Tr T3 n t a g' cap' ns' i z m) := ⟨HB.out.1.trans (hbc.mono HB.out.1.size), hbt⟩; have HSt3 : Hid (w3.heap[wr.heap.size]? = some (.cells #[.int .i64 (a : Int), .int .i64 (f : Int), .int .i64 (s : Int)] 80 (0, 0))) := hbt.gon.mv.fr.heap ((hbc.block _ (heap_lt HB.out.2)).trans HB.out.2) (fun e => e.elim (fun e => by have h7 := HI.out.1.fb.gon.spc.ses.tx.lt (.inl e); omega) (fun e => by have h7 := HI.out.1.row.lt; omega)); clear hbc hbt HFl)
        rcases H3.out.2.or with ⟨rfl, hbo, hrow⟩ | ⟨rfl, hz⟩
        · have htk := HI.out.1.took H3.out.1 HI.out.2.1 (by rw [HI.out.2.2.1]; exact H3.out.2)
          obtain ⟨hfb, hni, hi0⟩ := htk
          have HF : Hid (FaB w0 w w3 D T T3 n k w.heap.size (w.heap.size + 1) gw g0 cap0 x0 ν0 (upN νr p i) (j + 1) #[.int .i64 (t : Int), .slice (some ⟨g', 0, none⟩) len cap'] ∧ upN νr p i p = i ∧ i ≠ 0) := ⟨hfb, hni, hi0⟩
          have hi0' : ((i : Int) == 0) = false := by simp; omega
          obtain ⟨νx, hνx⟩ : ∃ νx, upN νr p i = νx := ⟨_, rfl⟩
          rw [hνx] at HF
          clear hbo hrow hfb hni hi0 hνx B0 B1 M1 Z0 Z1 Z2 Z3 Z4 y0 y1 y2
          obtain ⟨y0, y1, y2⟩ := (show StAt w3 wr.heap.size a f s from HSt3.out).cells
          by_cases h1 : 1 < s
          · rw [decide_eq_true h1] at HTb
            have H1s : Hid (1 < s) := h1
            clear h1
            go_wp2_with (first
              | (go_at_call 28; refine (HTb.out _).mono ?_; rintro e w4 ⟨rfl, hb⟩; have H4 : Hid (Below w3.heap.size w3 w4) := hb; clear hb)
              | (go_at_call 29; refine (HRt.out _ T3 νx i (HF.out.1.on H4.out) HF.out.2.1 HF.out.2.2).mono ?_; rintro e w5 ⟨g2, rfl, e1, e2, e3⟩; have H5 : Hid (w3.heap.size ≤ g2 ∧ OwnI w5 g2 128 (nms (tv D T3 i)) ∧ Below w3.heap.size w3 w5) := ⟨Nat.le_trans H4.out.size e1, e2, H4.out.trans (e3.mono H4.out.size)⟩; have hbx := (HF.out.1.on H5.out.2.2).box; have v0 : w5.cell? ⟨w.heap.size + 1, 0, none⟩ = some (.int .i64 (t : Int)) := (by rw [cell_of_row _ _ _ _ _ _ hbx]; rfl); have v1 : w5.cell? ⟨w.heap.size + 1, 1, none⟩ = some (.slice (some ⟨g', 0, none⟩) len cap') := (by rw [cell_of_row _ _ _ _ _ _ hbx]; rfl); have v2 : w5.frozen? ⟨w.heap.size + 1, 0, none⟩ = false := frozen_of_row _ _ _ _ _ hbx; have v3 : w5.frozen? ⟨w.heap.size + 1, 1, none⟩ = false := frozen_of_row _ _ _ _ _ hbx; clear e1 e2 e3 hbx))
            obtain ⟨pn, hpn⟩ : ∃ q, (wayP k)[j + 1]? = some q := ⟨_, List.getElem?_eq_getElem (by rw [wayP_len_eq, HL.out.1]; exact HNx.out.1 H1s.out)⟩
            have HNe : Hid (FaI w0 w ((w5.setCell ⟨w.heap.size + 1, 0, none⟩ (.int .i64 (i : Int))).setCell ⟨w.heap.size + 1, 1, none⟩ (.slice (some ⟨g2, 0, none⟩) 128 128)) D T T3 n k w.heap.size (w.heap.size + 1) gw g0 cap0 x0 ν0 νx (j + 1) pn i g2 128 128 (nms (tv D T3 i))) := HF.out.1.next rfl HL.out.2.2.2 HI.out.1.pos hpn HF.out.2.1 HF.out.2.2 H5.out.2.2 H5.out.1 H5.out.2.1
            go_roundw
            case rel => exact ⟨j + 1, by have := HNx.out.1 H1s.out; omega, by go_num, .inl ⟨HNx.out.1 H1s.out, rfl, T3, νx, pn, i, g2, 128, 128, _, HNe.out⟩⟩
            case measure => simp [intOf]; omega
          · rw [decide_eq_false h1] at HTb
            have HNl : Hid (j + 1 = L) := HNx.out.2 h1
            clear h1
            go_wp2_with (go_at_call 28; refine (HTb.out _).mono ?_; rintro e w4 ⟨rfl, hb⟩; have H4 : Hid (Below w3.heap.size w3 w4) := hb; clear hb)
            have HDn : Hid (AdR w0 w w4 D T T3 n k g0 cap0 x0 ν0 νx i) := (HF.out.1.on H4.out).done HI.out.2.2.2 HI.out.1.pos (by rw [wayP_len_eq, HL.out.1]; exact HNl.out) HF.out.2.1 HF.out.2.2
            go_roundw
            case rel => exact ⟨j + 1, by have := HNl.out; omega, by go_num, .inr ⟨HNl.out, i, T3, νx, rfl, rfl, HDn.out⟩⟩
            case measure => simp [intOf]; omega
        · have hbad := HI.out.1.bad HI.out.2.2.2 H3.out.1 HI.out.2.1 (by rw [HI.out.2.2.1]; exact H3.out.2) hz
          have HBd : Hid (AdX w0 w w3 D T T3 n k g0 ν0 z ∧ z ≠ 0) := ⟨hbad, by rcases hz with e | e <;> omega⟩
          clear hbad hz
          go_wp2
          try rw [Exit.noGoto_ret]
          go_ret2
          exact ⟨0, z, T3, rfl, .inr ⟨HBd.out.2, HBd.out.1⟩⟩
      · have hm0' : ((m : Int) == 0) = false := by simp; omega
        have hgd := HI.out.1.fb.wd.own.good p (by rw [HI.out.2.1]; exact hm0)
        rw [HI.out.2.1] at hgd
        have HIs : Hid (∀ wx, Calls Tryd.prog 49 #[.agg #[.int .i64 (n : Int), .int .i64 98, .int .i64 (gI n), .int .i64 (gD n), .int .i64 (gC n)], .int .i64 (m : Int)] wx fun e w' => e = .returned (.bool true) ∧ Below wx.heap.size wx w') := fun wx => by
          have := misData_any wx n (m : Int)
          rw [decide_eq_true ⟨by omega, by omega⟩] at this
          exact this
        have hkp := HI.out.1.keep (by rw [HI.out.2.1]; exact hm0)
        have HF0 : Hid (FaB w0 w wr D T Tr n k w.heap.size (w.heap.size + 1) gw g0 cap0 x0 ν0 νr (j + 1) #[.int .i64 (t : Int), .slice (some ⟨g', 0, none⟩) len cap'] ∧ νr p = m ∧ m ≠ 0) := ⟨hkp, HI.out.2.1, hm0⟩
        clear hgd hkp hm0
        go_upto_region 11 with (go_at_call 49; refine (HIs.out _).mono ?_; rintro e w3 ⟨rfl, hb⟩; have H3 : Hid (Below wb.heap.size wb w3) := hb; clear hb)
        have HF : Hid (FaB w0 w w3 D T Tr n k w.heap.size (w.heap.size + 1) gw g0 cap0 x0 ν0 νr (j + 1) #[.int .i64 (t : Int), .slice (some ⟨g', 0, none⟩) len cap'] ∧ νr p = m ∧ m ≠ 0) := ⟨(HF0.out.1.on HB.out.1).on H3.out, HF0.out.2⟩
        have HSt3 : Hid (StAt w3 wr.heap.size a f s) := HB.out.2.on H3.out
        clear B0 B1 M1 Z0 Z1 Z2 Z3 Z4 y0 y1 y2
        obtain ⟨y0, y1, y2⟩ := HSt3.out.cells
        by_cases h1 : 1 < s
        · rw [decide_eq_true h1] at HTb
          have H1s : Hid (1 < s) := h1
          clear h1
          go_wp2_with (first
            | (go_at_call 28; refine (HTb.out _).mono ?_; rintro e w4 ⟨rfl, hb⟩; have H4 : Hid (Below w3.heap.size w3 w4) := hb; clear hb)
            | (go_at_call 29; refine (HRt.out _ Tr νr m (HF.out.1.on H4.out) HF.out.2.1 HF.out.2.2).mono ?_; rintro e w5 ⟨g2, rfl, e1, e2, e3⟩; have H5 : Hid (w3.heap.size ≤ g2 ∧ OwnI w5 g2 128 (nms (tv D Tr m)) ∧ Below w3.heap.size w3 w5) := ⟨Nat.le_trans H4.out.size e1, e2, H4.out.trans (e3.mono H4.out.size)⟩; have hbx := (HF.out.1.on H5.out.2.2).box; have v0 : w5.cell? ⟨w.heap.size + 1, 0, none⟩ = some (.int .i64 (t : Int)) := (by rw [cell_of_row _ _ _ _ _ _ hbx]; rfl); have v1 : w5.cell? ⟨w.heap.size + 1, 1, none⟩ = some (.slice (some ⟨g', 0, none⟩) len cap') := (by rw [cell_of_row _ _ _ _ _ _ hbx]; rfl); have v2 : w5.frozen? ⟨w.heap.size + 1, 0, none⟩ = false := frozen_of_row _ _ _ _ _ hbx; have v3 : w5.frozen? ⟨w.heap.size + 1, 1, none⟩ = false := frozen_of_row _ _ _ _ _ hbx; clear e1 e2 e3 hbx))
          obtain ⟨pn, hpn⟩ : ∃ q, (wayP k)[j + 1]? = some q := ⟨_, List.getElem?_eq_getElem (by rw [wayP_len_eq, HL.out.1]; exact HNx.out.1 H1s.out)⟩
          have HNe : Hid (FaI w0 w ((w5.setCell ⟨w.heap.size + 1, 0, none⟩ (.int .i64 (m : Int))).setCell ⟨w.heap.size + 1, 1, none⟩ (.slice (some ⟨g2, 0, none⟩) 128 128)) D T Tr n k w.heap.size (w.heap.size + 1) gw g0 cap0 x0 ν0 νr (j + 1) pn m g2 128 128 (nms (tv D Tr m))) := HF.out.1.next rfl HL.out.2.2.2 HI.out.1.pos hpn HF.out.2.1 HF.out.2.2 H5.out.2.2 H5.out.1 H5.out.2.1
          go_roundw
          case rel => exact ⟨j + 1, by have := HNx.out.1 H1s.out; omega, by go_num, .inl ⟨HNx.out.1 H1s.out, rfl, Tr, νr, pn, m, g2, 128, 128, _, HNe.out⟩⟩
          case measure => simp [intOf]; omega
        · rw [decide_eq_false h1] at HTb
          have HNl : Hid (j + 1 = L) := HNx.out.2 h1
          clear h1
          go_wp2_with (go_at_call 28; refine (HTb.out _).mono ?_; rintro e w4 ⟨rfl, hb⟩; have H4 : Hid (Below w3.heap.size w3 w4) := hb; clear hb)
          have HDn : Hid (AdR w0 w w4 D T Tr n k g0 cap0 x0 ν0 νr m) := (HF.out.1.on H4.out).done HI.out.2.2.2 HI.out.1.pos (by rw [wayP_len_eq, HL.out.1]; exact HNl.out) HF.out.2.1 HF.out.2.2
          go_roundw
          case rel => exact ⟨j + 1, by have := HNl.out; omega, by go_num, .inr ⟨HNl.out, m, Tr, νr, rfl, rfl, HDn.out⟩⟩
          case measure => simp [intOf]; omega
    · have hjL' : ¬ (j : Int) < (L : Int) := by omega
      have HR : Hid (AdR w0 w wr D T Tr n k g0 cap0 x0 ν0 ν' N) := hR
      clear hR
      go_wp2
      try rw [Exit.noGoto_ret]
      go_ret2
      exact ⟨N, 0, Tr, rfl, .inl ⟨rfl, ν', HR.out⟩⟩
end Go.Proofs.YtgmccpimpbnnpaaDoor
