import Derived.Test.YtaaeahpmnfifiaaDoorSoP
namespace Go.Proofs.YtaaeahpmnfifiaaDoor
open Go.RowKit Rec Sc
theorem nth_tail (x t : List Int) (j : Nat) : nth (x ++ t) (x.length + j) = nth t j := by
  unfold nth
  rw [List.getD_eq_getElem?_getD, List.getD_eq_getElem?_getD, List.getElem?_append_right (by omega), Nat.add_sub_cancel_left]
theorem OwnB.frK {w w' : World} {g cap : Nat} {l : List Int} (h : OwnB w g cap l) {S : Nat → Prop} (hf : Fr S w w') (hS : ¬ S g) : OwnB w' g cap l := by
  obtain ⟨cur, hg, h2, h3⟩ := h.row
  exact ⟨⟨cur, hf.heap hg hS, h2, h3⟩, h.len, h.room, h.top, h.wf⟩
/-- one byte of both rows is written -/
theorem PlI.set {w wr : World} {g cap g2 cap2 kb N B k : Nat} {x : List Int} {v : Int} (h : PlI w wr g cap g2 cap2 kb N B x) (G : PlG w g g2 B) (hk : k < x.length) (hv : 0 ≤ v ∧ v < 256) : PlI w ((wr.setCell ⟨g, k, none⟩ (.int .u8 v)).setCell ⟨g2, k, none⟩ (.int .u8 v)) g cap g2 cap2 kb N B (x.set k v) := by
  obtain ⟨S, V, X, hk'⟩ := h.bk
  have h1 := h.a.set k v (by rw [List.length_append]; omega) hv
  rw [List.set_append_left _ _ hk] at h1
  have f1 : Fr (fun i => i = g) wr (wr.setCell ⟨g, k, none⟩ (.int .u8 v)) := Fr.set
  have f2 : Fr (fun i => i = g2) (wr.setCell ⟨g, k, none⟩ (.int .u8 v)) ((wr.setCell ⟨g, k, none⟩ (.int .u8 v)).setCell ⟨g2, k, none⟩ (.int .u8 v)) := Fr.set
  have h2 : OwnB (wr.setCell ⟨g, k, none⟩ (.int .u8 v)) g2 cap2 x := h.b.frK f1 (fun e => G.ne e.symm)
  have h3 := h2.set k v hk hv
  exact ⟨h1.frK f2 (fun e => G.ne e), h3, ⟨S, V, X, (hk'.off f1 (fun i e => by rw [e]; exact G.gB)).off f2 (fun i e => by rw [e]; exact G.g2B)⟩, (h.bel.setCell G.g1 _).setCell G.g2_ _⟩
theorem BoW.zero (w3 : World) : BoW (w3.alloc (.cells #[.slice none 0 0, .slice none 0 0, .slice none 0 0, .slice none 0 0] 58)) w3.heap.size 0 w3.heap.size (fun _ => True) (fun _ => .slice none 0 0) (fun _ => []) := by
  refine ⟨⟨heap_alloc_new w3 _, fun i _ => ⟨rfl, .inl ⟨rfl, rfl⟩⟩, fun i _ b e => ?_, fun i j _ _ _ b e => ?_, ⟨Nat.le_refl _, trivial⟩, fun _ _ => trivial, ?_⟩, fun _ _ => rfl, fun k hk => absurd hk (Nat.not_lt_zero _)⟩
  · cases e
  · cases e
  · simp
set_option maxRecDepth 100000 in
set_option maxHeartbeats 8000000 in
theorem splays_any (w : World) (a : Option Addr) (n c : Nat) (l : List Int) (hB : Bytes w a l) (hn : l.length = n) (hz : a = none → c = 0) (h47 : n ≤ 140737488351232) (hT : TabAt w)
    (sa : Option Addr) (sn sc : Nat) (L : List OT) (hL : OpsAt w sa L) (hLl : L.length = sn) (hsn : sn ≤ 3000000000000) :
    Calls Tryd.prog 7 #[.slice a n c, .slice sa sn sc] w fun e w' => e = .returned (.bool true) ∧ Below w.heap.size w w' := by
  have HB : Hid (Bytes w a l ∧ l.length = n ∧ (a = none → c = 0)) := ⟨hB, hn, hz⟩
  have HL : Hid (OpsAt w sa L ∧ L.length = sn) := ⟨hL, hLl⟩
  have HT : Hid (TabAt w) := hT
  have HF : Hid (Calls Tryd.prog 8 #[] w fun e w' => e = .returned (.bool true) ∧ Below w.heap.size w w') := sfixed_any w hT
  clear hB hn hz hL hLl hT
  go_enter Tryd.func7, Tryd.ntmps7
  go_upto_region 3 with (go_at_call 8; refine HF.out.mono ?_; rintro e wb ⟨rfl, hbb⟩; have HBb : Hid (Below w.heap.size w wb) := hbb; clear hbb)
  have HA : Hid (Below w.heap.size w (wb.alloc (.cells #[] 5)) ∧ OwnB (wb.alloc (.cells #[] 5)) wb.heap.size 0 []) := ⟨HBb.out.alloc HBb.out.size _, own_empty (heap_alloc_new _ _)⟩
  go_upto_region 4 with (first
    | (at_builtin; refine wp_app rfl (.tmp 23) (.tmp 24) rfl w.heap.size wb.heap.size 0 0 [] l rfl rfl HA.out.2 HBb.out.size HA.out.1.size a n c rfl HB.out.2.1 (HB.out.1.on HA.out.1) HB.out.2.2 (by omega) ?_; intro g0 cap0 w1 hg ho hgr; have H1 : Hid (w.heap.size ≤ g0 ∧ OwnB w1 g0 cap0 l ∧ Below w.heap.size w w1) := ⟨hg, ho, HA.out.1.trans (below_of hgr HBb.out.size HA.out.1.size)⟩; clear hg ho hgr)
    | (at_builtin; refine wp_app rfl (.tmp 25) (.tmp 26) rfl w.heap.size g0 n cap0 l [77, 78, 79] HB.out.2.1 rfl (H1.out.2.1.on ((Below.refl _ _).alloc (Nat.le_refl _) _)) H1.out.1 (Nat.le_trans H1.out.2.2.size (by simp)) (some ⟨w1.heap.size, 0, none⟩) 3 3 rfl rfl ⟨by simp, wf_list (by decide), .inr ⟨_, 0, rfl, fun i hi => by rw [cell_of_row _ _ _ _ _ _ (heap_alloc_new w1 _)]; match i, hi with | 0, _ => rfl | 1, _ => rfl | 2, _ => rfl⟩⟩ (fun e => by cases e) (by omega) ?_; intro g cap w2 hg ho hgr; have H2 : Hid (w.heap.size ≤ g ∧ OwnB w2 g cap (l ++ [77, 78, 79]) ∧ Below w.heap.size w w2) := ⟨hg, ho, (H1.out.2.2.alloc H1.out.2.2.size _).trans (below_of hgr H1.out.1 (Nat.le_trans H1.out.2.2.size (by simp)))⟩; clear hg ho hgr))
  have hcap : n + 3 ≤ cap := by
    have := H2.out.2.1.room
    rw [List.length_append, HB.out.2.1] at this
    exact this
  have hcap' : n ≤ cap := by omega
  clear HA H1
  have HA : Hid (Below w2.heap.size w2 (w2.alloc (.cells #[] 5)) ∧ OwnB (w2.alloc (.cells #[] 5)) w2.heap.size 0 []) := ⟨(Below.refl _ _).alloc (Nat.le_refl _) _, own_empty (heap_alloc_new _ _)⟩
  go_upto_region 6 with (at_builtin; refine wp_app rfl (.tmp 32) (.tmp 33) rfl w2.heap.size w2.heap.size 0 0 [] l rfl rfl HA.out.2 (Nat.le_refl _) HA.out.1.size a n c rfl HB.out.2.1 (HB.out.1.on (H2.out.2.2.trans (HA.out.1.mono H2.out.2.2.size))) HB.out.2.2 (by omega) ?_; intro g2 cap2 w3 hg ho hgr; have H3 : Hid (w2.heap.size ≤ g2 ∧ OwnB w3 g2 cap2 l ∧ Below w2.heap.size w2 w3) := ⟨hg, ho, HA.out.1.trans (below_of hgr (Nat.le_refl _) HA.out.1.size)⟩; clear hg ho hgr)
  clear HA
  have hcap2 : n ≤ cap2 := by
    have := H3.out.2.1.room
    rw [HB.out.2.1] at this
    exact this
  go_upto_region 7 with fail
  obtain ⟨kb, hkb⟩ : ∃ kb, w3.heap.size = kb := ⟨_, rfl⟩
  obtain ⟨wk, hwk⟩ : ∃ wk, w3.alloc (.cells #[.slice none 0 0, .slice none 0 0, .slice none 0 0, .slice none 0 0] 58) = wk := ⟨_, rfl⟩
  have hal : Below w3.heap.size w3 wk := by rw [← hwk]; exact (Below.refl _ _).alloc (Nat.le_refl _) _
  have HG : Hid (PlG w g g2 kb ∧ w.heap.size ≤ kb) := by
    have h1 := H2.out.2.1.lt
    have h2 := H3.out.1
    have h3 := H3.out.2.1.lt
    have h4 := H2.out.1
    have h5 := H2.out.2.2.size
    have h6 := H3.out.2.2.size
    exact ⟨⟨h4, by omega, by omega, by omega, by omega⟩, by omega⟩
  have HK : Hid (PlI w wk g cap g2 cap2 kb 0 kb l) := by
    refine ⟨(H2.out.2.1.on H3.out.2.2).on hal, H3.out.2.1.on hal, ?_, ?_⟩
    · rw [← hwk, ← hkb]; exact ⟨_, _, _, BoW.zero w3⟩
    · have hs := H2.out.2.2.size
      have hs3 := H3.out.2.2.size
      exact (H2.out.2.2.trans (H3.out.2.2.mono hs)).trans (hal.mono (Nat.le_trans hs hs3))
  rw [hkb, hwk]
  clear H2 H3 hkb hwk hal
  go_wp2
  go_loopw [9] (fun s wr => ∃ (j N : Nat) (x : List Int), s = .int .i64 (j : Int) ∧ j ≤ sn ∧ N ≤ j ∧ x.length = n ∧ PlI w wr g cap g2 cap2 kb N kb x) (fun s _ => sn - (intOf s).toNat)
  case atStart => exact ⟨0, 0, l, rfl, Nat.zero_le _, Nat.le_refl _, HB.out.2.1, HK.out⟩
  case round =>
    obtain ⟨j, N, x, rfl, hj, hNj, hxl, hI⟩ := hrel
    have HI : Hid (PlI w wr g cap g2 cap2 kb N kb x) := hI
    clear hI HK
    by_cases hlt : j < sn
    · have hlt' : (j : Int) < (sn : Int) := by omega
      obtain ⟨b, off, q, rfl, hq, y0, y1, y2, y3, y4, y5⟩ := HL.out.1.at (k := j) (by rw [HL.out.2]; exact hlt) HI.out.bel
      obtain ⟨kd, ⟨p, s, i⟩, at_, by_⟩ := q
      dsimp only at y0 y1 y2 y3 y4 y5
      have hs : s.size ≤ 9223372036854775807 := hq.1
      have hby : 0 ≤ by_ ∧ by_ < 256 := hq.2
      clear hq
      go_upto_region 11 with fail
      obtain ⟨P, hP⟩ : ∃ P, wr.heap.size = P := ⟨_, rfl⟩
      obtain ⟨wa, hwa⟩ : ∃ wa, wr.alloc (.cells #[.int .i64 kd, .int .i64 p, .string s, .int .i64 i, .int .i64 at_, .int .u8 by_] 60) = wa := ⟨_, rfl⟩
      have HZ : Hid (wa.heap[P]? = some (.cells #[.int .i64 kd, .int .i64 p, .string s, .int .i64 i, .int .i64 at_, .int .u8 by_] 60 (0, 0)) ∧ g < P ∧ g2 < P) := by
        have h1 := HI.out.a.lt
        have h2 := HI.out.b.lt
        rw [← hwa, ← hP]; exact ⟨heap_alloc_new _ _, h1, h2⟩
      have HW : Hid (PlI w wa g cap g2 cap2 kb N kb x) := HI.out.on (by rw [← hwa]; exact (Below.refl _ _).alloc (Nat.le_refl _) _)
      rw [hwa, hP]
      clear hwa hP y0 y1 y2 y3 y4 y5 HI
      have z0 : wa.cell? ⟨P, 0, none⟩ = some (.int .i64 kd) := cell_of_row _ _ 0 _ _ _ HZ.out.1
      have HS : Hid (∀ (wx : World) (M : Nat) (x' : List Int), PlI w wx g cap g2 cap2 kb M kb x' → x'.length = n → Calls Tryd.prog 16 #[.slice (some ⟨g, 0, none⟩) n cap, .slice (some ⟨g2, 0, none⟩) n cap2] wx fun e w' => e = .returned (.bool true) ∧ ∃ q, w' = wx.drewN q) := fun wx M x' h hx => by
        refine (sameB_any wx _ _ n cap n cap2 x' x' h.bytes.1 h.bytes.2 hx hx).mono ?_
        rintro e w' ⟨rfl, q, rfl⟩
        exact ⟨by simp, q, rfl⟩
      have HD : Hid (∀ (wx : World) (M m : Nat) (x' : List Int), PlI w wx g cap g2 cap2 kb M kb x' → PlI w (wx.drewN m) g cap g2 cap2 kb M kb x') := fun wx M m x' h => h.on (drewN_below _ _)
      by_cases k0 : kd = 0
      · subst k0
        have C1 : Hid (Calls Tryd.prog 17 #[.slice (some ⟨g2, 0, none⟩) n cap2] wa fun e w' => ∃ v, e = .returned (.tuple #[v, .int .i64 (erU x)]) ∧ RowE wa.heap.size w' v (tlU x) ∧ Below wa.heap.size wa w') := by
          have h := rreadR wa g2 cap2 x HW.out.bytes.2 (by omega)
          rw [hxl] at h
          exact h
        go_wp2_with (first
          | (go_at_call 17; refine C1.out.mono ?_; rintro e u1 ⟨v, rfl, hv, hb1⟩
             obtain ⟨S, V, X, aw, cw, rfl, he, hk, hS⟩ := HW.out.list hb1 hv
             have H1 : Hid (Below wa.heap.size wa u1 ∧ EntAt u1 aw (tlU x) ∧ BoW u1 kb N kb S V X ∧ ∀ p, aw = some p → ¬ S p.block) := ⟨hb1, he, hk, hS⟩
             have C2 : Hid (Calls Tryd.prog 19 #[.pointer (some ⟨kb, 0, none⟩), .slice (some ⟨g, 0, none⟩) n cap, .slice aw (tlU x).length cw, .int .i64 (erU x)] u1 fun e w' => e = .returned (.bool true) ∧ Below kb u1 w' ∧ ∃ S' V' X', BoW w' kb (N + 1) kb S' V' X') := (by
               have h := bread_any u1 kb N kb g cap S V X x aw cw H1.out.2.2.1 (by omega) (HW.out.on hb1).bytes.1 (by omega) (HT.out.on (HW.out.on hb1).bel) H1.out.2.1 H1.out.2.2.2 (tlU_len x)
               rw [hxl] at h
               exact h)
             clear hv hb1 he hk hS)
          | (go_at_call 19; refine C2.out.mono ?_; rintro e u2 ⟨rfl, hb2, hk2⟩
             have H2 : Hid (PlI w u2 g cap g2 cap2 kb (N + 1) kb x) := HW.out.read HG.out.1 HG.out.2 H1.out.1 hb2 hk2
             clear hb2 hk2 C2 H1)
          | (go_at_call 16; refine (HS.out u2 (N + 1) x H2.out hxl).mono ?_; rintro e w5 ⟨rfl, m5, rfl⟩))
        go_round
        case rel => exact ⟨j + 1, N + 1, x, by go_num, by omega, by omega, hxl, HD.out _ _ _ _ H2.out⟩
        case measure => simp [intOf]; omega
      by_cases k1 : kd = 1
      · subst k1
        have hpl : (plU x p s i).length = n := by rw [plU_len]; exact hxl
        have C1 : Hid (Calls Tryd.prog 20 #[.slice (some ⟨g2, 0, none⟩) n cap2, eV p s i] wa fun r w' => r = .returned (.int .i64 (peU x p s i)) ∧ OwnB w' g2 cap2 (plU x p s i) ∧ wa.grownBy w' (some g2)) := by
          have h := rputU wa g2 cap2 cap2 x p s i hs HW.out.b
          rw [hxl] at h
          exact h
        have HP : Hid (∀ u1, wa.grownBy u1 (some g2) → u1.heap[P]? = wa.heap[P]?) := fun u1 h => h.block P (heap_lt HZ.out.1) (by have := HZ.out.2.2; simp; omega)
        have z1 : wa.cell? ⟨P, 1, none⟩ = some (.int .i64 p) := cell_of_row _ _ 1 _ _ _ HZ.out.1
        have z2 : wa.cell? ⟨P, 2, none⟩ = some (.string s) := cell_of_row _ _ 2 _ _ _ HZ.out.1
        have z3 : wa.cell? ⟨P, 3, none⟩ = some (.int .i64 i) := cell_of_row _ _ 3 _ _ _ HZ.out.1
        go_wp2_with (first
          | (go_at_call 20; refine C1.out.mono ?_; rintro e u1 ⟨rfl, hO, hr⟩
             have hz : u1.heap[P]? = _ := (HP.out u1 hr).trans HZ.out.1
             have x1 : u1.cell? ⟨P, 1, none⟩ = some (.int .i64 p) := cell_of_row _ _ 1 _ _ _ hz
             have x2 : u1.cell? ⟨P, 2, none⟩ = some (.string s) := cell_of_row _ _ 2 _ _ _ hz
             have x3 : u1.cell? ⟨P, 3, none⟩ = some (.int .i64 i) := cell_of_row _ _ 3 _ _ _ hz
             have H1 : Hid (OwnB u1 g2 cap2 (plU x p s i) ∧ wa.grownBy u1 (some g2)) := ⟨hO, hr⟩
             have C2 : Hid (Calls Tryd.prog 10 #[.slice (some ⟨g, 0, none⟩) n cap, eV p s i] u1 fun r w' => r = .returned (.int .i64 (peU x p s i)) ∧ OwnB w' g cap (plU x p s i ++ [77, 78, 79]) ∧ u1.grownBy w' (some g)) := (by
               have hg2 := HG.out.1.g2_
               have ht := HT.out.size
               have hg1 := HG.out.1.g1
               have h := putU u1 g cap cap x [77, 78, 79] p s i hs (HW.out.mid HG.out.1 hr) (by omega) ((HT.out.on HW.out.bel).grown1 hr (by omega)) (by omega)
               rw [hxl] at h
               exact h)
             clear hO hr hz C1)
          | (go_at_call 10; refine C2.out.mono ?_; rintro e u2 ⟨rfl, hO2, hr2⟩
             have H2 : Hid (PlI w u2 g cap g2 cap2 kb N kb (plU x p s i)) := HW.out.mv HG.out.1 H1.out.1 H1.out.2 hO2 hr2
             clear hO2 hr2 C2 H1 x1 x2 x3)
          | (go_at_call 16; refine (HS.out u2 N _ H2.out hpl).mono ?_; rintro e w5 ⟨rfl, m5, rfl⟩))
        go_round
        case rel => exact ⟨j + 1, N, plU x p s i, by go_num, by omega, by omega, hpl, HD.out _ _ _ _ H2.out⟩
        case measure => simp [intOf]; omega
      by_cases k2 : kd = 2
      · subst k2
        have hpl : (clU x p).length = n := by rw [clU_len]; exact hxl
        have C1 : Hid (Calls Tryd.prog 21 #[.slice (some ⟨g2, 0, none⟩) n cap2, .int .i64 p] wa fun r w' => r = .returned (.int .i64 (ceU x p)) ∧ OwnB w' g2 cap2 (clU x p) ∧ wa.grownBy w' (some g2)) := by
          have h := rclrU wa g2 cap2 cap2 x p HW.out.b
          rw [hxl] at h
          exact h
        have HP : Hid (∀ u1, wa.grownBy u1 (some g2) → u1.heap[P]? = wa.heap[P]?) := fun u1 h => h.block P (heap_lt HZ.out.1) (by have := HZ.out.2.2; simp; omega)
        have z1 : wa.cell? ⟨P, 1, none⟩ = some (.int .i64 p) := cell_of_row _ _ 1 _ _ _ HZ.out.1
        have z2 : wa.cell? ⟨P, 2, none⟩ = some (.string s) := cell_of_row _ _ 2 _ _ _ HZ.out.1
        have z3 : wa.cell? ⟨P, 3, none⟩ = some (.int .i64 i) := cell_of_row _ _ 3 _ _ _ HZ.out.1
        go_wp2_with (first
          | (go_at_call 21; refine C1.out.mono ?_; rintro e u1 ⟨rfl, hO, hr⟩
             have hz : u1.heap[P]? = _ := (HP.out u1 hr).trans HZ.out.1
             have x1 : u1.cell? ⟨P, 1, none⟩ = some (.int .i64 p) := cell_of_row _ _ 1 _ _ _ hz
             have x2 : u1.cell? ⟨P, 2, none⟩ = some (.string s) := cell_of_row _ _ 2 _ _ _ hz
             have x3 : u1.cell? ⟨P, 3, none⟩ = some (.int .i64 i) := cell_of_row _ _ 3 _ _ _ hz
             have H1 : Hid (OwnB u1 g2 cap2 (clU x p) ∧ wa.grownBy u1 (some g2)) := ⟨hO, hr⟩
             have C2 : Hid (Calls Tryd.prog 12 #[.slice (some ⟨g, 0, none⟩) n cap, .int .i64 p] u1 fun r w' => r = .returned (.int .i64 (ceU x p)) ∧ OwnB w' g cap (clU x p ++ [77, 78, 79]) ∧ u1.grownBy w' (some g)) := (by
               have hg2 := HG.out.1.g2_
               have ht := HT.out.size
               have hg1 := HG.out.1.g1
               have h := clrU u1 g cap cap x [77, 78, 79] p (HW.out.mid HG.out.1 hr) (by omega)
               rw [hxl] at h
               exact h)
             clear hO hr hz C1)
          | (go_at_call 12; refine C2.out.mono ?_; rintro e u2 ⟨rfl, hO2, hr2⟩
             have H2 : Hid (PlI w u2 g cap g2 cap2 kb N kb (clU x p)) := HW.out.mv HG.out.1 H1.out.1 H1.out.2 hO2 hr2
             clear hO2 hr2 C2 H1 x1 x2 x3)
          | (go_at_call 16; refine (HS.out u2 N _ H2.out hpl).mono ?_; rintro e w5 ⟨rfl, m5, rfl⟩))
        go_round
        case rel => exact ⟨j + 1, N, clU x p, by go_num, by omega, by omega, hpl, HD.out _ _ _ _ H2.out⟩
        case measure => simp [intOf]; omega
      by_cases k3 : kd = 3
      · subst k3
        have C1 : Hid (Calls Tryd.prog 18 #[.slice (some ⟨g2, 0, none⟩) n cap2] wa fun e w' => e = .returned (.tuple #[.int .i64 (lwU x), .int .i64 (erU x)]) ∧ Below wa.heap.size wa w') := by
          have h := rlowU wa g2 cap2 x HW.out.bytes.2 (by omega)
          rw [hxl] at h
          exact h
        have C2 : Hid (∀ u1, Below wa.heap.size wa u1 → Calls Tryd.prog 14 #[.slice (some ⟨g, 0, none⟩) n cap] u1 fun e w' => e = .returned (.tuple #[.int .i64 (lwU x), .int .i64 (erU x)]) ∧ Below u1.heap.size u1 w') := fun u1 hb => by
          have h := lowU u1 g cap x (HW.out.on hb).bytes.1 (by omega) (HT.out.on (HW.out.on hb).bel)
          rw [hxl] at h
          exact h
        generalize lwU x = lw at *
        generalize erU x = er at *
        go_wp2_with (first
          | (go_at_call 18; refine C1.out.mono ?_; rintro e u1 ⟨rfl, hb1⟩
             have H1 : Hid (Below wa.heap.size wa u1) := hb1
             clear hb1)
          | (go_at_call 14; refine (C2.out u1 H1.out).mono ?_; rintro e u2 ⟨rfl, hb2⟩
             have H2 : Hid (PlI w u2 g cap g2 cap2 kb N kb x) := (HW.out.on H1.out).on hb2
             clear hb2)
          | (go_at_call 16; refine (HS.out u2 N x H2.out hxl).mono ?_; rintro e w5 ⟨rfl, m5, rfl⟩))
        go_round
        case rel => exact ⟨j + 1, N, x, by go_num, by omega, by omega, hxl, HD.out _ _ _ _ H2.out⟩
        case measure => simp [intOf]; omega
      by_cases k4 : kd = 4
      · subst k4
        have z4 : wa.cell? ⟨P, 4, none⟩ = some (.int .i64 at_) := cell_of_row _ _ 4 _ _ _ HZ.out.1
        have z5 : wa.cell? ⟨P, 5, none⟩ = some (.int .u8 by_) := cell_of_row _ _ 5 _ _ _ HZ.out.1
        by_cases h0 : 0 ≤ at_
        · by_cases h1 : at_ < (n : Int)
          · obtain ⟨k, rfl⟩ : ∃ k : Nat, at_ = (k : Int) := ⟨at_.toNat, by omega⟩
            have hkn : k < n := by omega
            have e0 := HW.out.a.cell k (by rw [List.length_append]; omega)
            have e1 := HW.out.a.frozen k
            have e2 := HW.out.b.cell k (by omega)
            have e3 := HW.out.b.frozen k
            obtain ⟨u1, hu1⟩ : ∃ u1, wa.setCell ⟨g, k, none⟩ (.int .u8 by_) = u1 := ⟨_, rfl⟩
            have hf : Fr (fun i => i = g) wa u1 := by rw [← hu1]; exact Fr.set
            have hz : u1.heap[P]? = _ := hf.heap HZ.out.1 (by have := HZ.out.2.1; intro e; omega)
            have x4 : u1.cell? ⟨P, 4, none⟩ = some (.int .i64 k) := cell_of_row _ _ 4 _ _ _ hz
            have x5 : u1.cell? ⟨P, 5, none⟩ = some (.int .u8 by_) := cell_of_row _ _ 5 _ _ _ hz
            have x6 := hf.cell e2 (fun e => HG.out.1.ne e.symm)
            have x7 : u1.frozen? ⟨g2, k, none⟩ = false := (World.frozen?_of_block (hf.block g2 HW.out.b.lt (fun e => HG.out.1.ne e.symm))).trans e3
            obtain ⟨u2, hu2⟩ : ∃ u2, u1.setCell ⟨g2, k, none⟩ (.int .u8 by_) = u2 := ⟨_, rfl⟩
            have H2 : Hid (PlI w u2 g cap g2 cap2 kb N kb (x.set k by_)) := by rw [← hu2, ← hu1]; exact HW.out.set HG.out.1 (by omega) hby
            have hxl2 : (x.set k by_).length = n := by rw [List.length_set]; exact hxl
            clear hf hz e2 e3
            go_wp2_with (first
              | (go_at_call 16; refine (HS.out u2 N _ H2.out hxl2).mono ?_; rintro e w5 ⟨rfl, m5, rfl⟩))
            go_round
            case rel => exact ⟨j + 1, N, x.set k by_, by go_num, by omega, by omega, hxl2, HD.out _ _ _ _ H2.out⟩
            case measure => simp [intOf]; omega
          · go_wp2_with (first
              | (go_at_call 16; refine (HS.out wa N x HW.out hxl).mono ?_; rintro e w5 ⟨rfl, m5, rfl⟩))
            go_round
            case rel => exact ⟨j + 1, N, x, by go_num, by omega, by omega, hxl, HD.out _ _ _ _ HW.out⟩
            case measure => simp [intOf]; omega
        · go_wp2_with (first
            | (go_at_call 16; refine (HS.out wa N x HW.out hxl).mono ?_; rintro e w5 ⟨rfl, m5, rfl⟩))
          go_round
          case rel => exact ⟨j + 1, N, x, by go_num, by omega, by omega, hxl, HD.out _ _ _ _ HW.out⟩
          case measure => simp [intOf]; omega
      go_wp2_with (first
        | (go_at_call 16; refine (HS.out wa N x HW.out hxl).mono ?_; rintro e w5 ⟨rfl, m5, rfl⟩))
      go_round
      case rel => exact ⟨j + 1, N, x, by go_num, by omega, by omega, hxl, HD.out _ _ _ _ HW.out⟩
      case measure => simp [intOf]; omega
    · have hlt' : ¬ ((j : Int) < (sn : Int)) := by omega
      go_wp2
      go_loopw [20] (fun s wy => ∃ (k : Nat) (y : List Int), s = .int .i64 (k : Int) ∧ k ≤ n ∧ y.length = n ∧ OwnB wy g cap (y ++ [77, 78, 79]) ∧ (∃ S V X, BoW wy kb N kb S V X) ∧ Below w.heap.size w wy) (fun s _ => n - (intOf s).toNat)
      case atStart => exact ⟨0, x, rfl, Nat.zero_le _, hxl, HI.out.a, HI.out.bk, HI.out.bel⟩
      case round =>
        obtain ⟨k, y, rfl, hk, hyl, hI2⟩ := hrel
        have HY : Hid (OwnB wr g cap (y ++ [77, 78, 79]) ∧ (∃ S V X, BoW wr kb N kb S V X) ∧ Below w.heap.size w wr) := hI2
        clear hI2 HI
        by_cases hkn : k < n
        · have hkn' : (k : Int) < (n : Int) := by omega
          have e0 := HY.out.1.cell k (by rw [List.length_append]; omega)
          have e1 := HY.out.1.frozen k
          go_wp2
          go_round
          case rel =>
            obtain ⟨S, V, X, hb⟩ := HY.out.2.1
            have h1 := HY.out.1.set k 7 (by rw [List.length_append]; omega) (by decide)
            rw [List.set_append_left _ _ (by omega)] at h1
            exact ⟨k + 1, y.set k 7, by go_num, by omega, by rw [List.length_set]; exact hyl, h1, ⟨S, V, X, hb.off Fr.set (fun i e => by rw [e]; exact HG.out.1.gB)⟩, HY.out.2.2.setCell HG.out.1.g1 _⟩
          case measure => simp [intOf]; omega
        · have hkn' : ¬ ((k : Int) < (n : Int)) := by omega
          obtain ⟨S, V, X, hb⟩ := HY.out.2.1
          have CW : Hid (Calls Tryd.prog 22 #[.pointer (some ⟨kb, 0, none⟩)] wr fun e w' => e = .returned (.bool true) ∧ Below wr.heap.size wr w') := whole_any wr kb N kb S _ _ _ _ _ _ _ _ hb.boi (by omega)
          clear hb
          have hln : (y ++ [77, 78, (79 : Int)]).length = n + 3 := by rw [List.length_append, hyl]; rfl
          go_wp2_with (go_at_call 22; refine CW.out.mono ?_; rintro e wz ⟨rfl, hbz⟩
                       have HZ : Hid (Below w.heap.size w wz) := HY.out.2.2.trans (hbz.mono HY.out.2.2.size)
                       have hO := HY.out.1.on hbz
                       have d0 : wz.cell? ⟨g, n, none⟩ = some (.int .u8 77) := (by rw [hO.cell n (by omega), ← hyl]; exact congrArg (fun v => some (Value.int .u8 v)) (nth_tail y _ 0))
                       have d1 : wz.cell? ⟨g, n + 1, none⟩ = some (.int .u8 78) := (by rw [hO.cell (n + 1) (by omega), ← hyl]; exact congrArg (fun v => some (Value.int .u8 v)) (nth_tail y _ 1))
                       have d2 : wz.cell? ⟨g, n + 2, none⟩ = some (.int .u8 79) := (by rw [hO.cell (n + 2) (by omega), ← hyl]; exact congrArg (fun v => some (Value.int .u8 v)) (nth_tail y _ 2))
                       clear hbz hO CW)
          go_ret
          exact ⟨rfl, HZ.out⟩
end Go.Proofs.YtaaeahpmnfifiaaDoor
