import Derived.Test.YtiblfmcnffhpdaaGreatDoorCtF
import Derived.Deep.CutBlock
import Derived.Deep.RegionHeld3
namespace Go.Proofs.YtiblfmcnffhpdaaGreatDoor
open Go.RowKit Go.Maps Rec
set_option maxRecDepth 100000 in
set_option maxHeartbeats 16000000 in
theorem cuts_any (w : World) (hT : TabAt w) (M : Int) (ta : Option Addr) (tl tc : Nat) (ra : Option Addr) (rl rc : Nat) (ts : List Int) (ht : Ints w ta ts) (htl : ts.length = tl) (rs : List (Int × Option Addr × Nat × Nat × List Int)) (hr : RawAt w ra rl rs) (hrl : rl ≤ 1000000000000000) (ia : Option Addr) (L ic : Nat) (is : List Int) (hi : Ints w ia is) (hl : is.length = L) (hcap : L ≤ ic) (c0 c1 : Int) :
    Calls Tryz.prog 6 #[stuV M ta tl tc ra rl rc, .slice ia L ic, .agg #[.int .i64 c0, .int .i64 c1]] w fun e w' => e = .returned (.bool true) ∧ Below w.heap.size w w' := by
  obtain ⟨n, hn⟩ : ∃ n, nBq M = n := ⟨_, rfl⟩
  have HN : Hid (128 ≤ n ∧ n ≤ 4427) := by rw [← hn]; exact nBq_bd M
  have HBg : Hid (∀ wx, Below w.heap.size w wx → Calls Tryz.prog 8 #[.agg #[.int .i64 M, .slice ta tl tc, .slice ra rl rc]] wx fun e w' => ∃ (rt : Nat) (D : Dk) (T : Tx), e = .returned (.tuple #[.pointer (some ⟨T.t, 0, none⟩), .pointer (some ⟨rt, 0, none⟩), .agg #[.int .i64 (n : Int), .int .i64 98, .int .i64 (gI n), .int .i64 (gD n), .int .i64 (gC n)], .bool true]) ∧ OpQ wx w' D T n) := by
    intro wx hb
    have h9 := beginQ wx M ta tl tc ra rl rc ts (ht.on hb) htl rs (hr.on hb) hrl
    rw [hn] at h9
    refine h9.mono ?_
    rintro e w' ⟨rt, D, T, rfl, h1, _⟩
    exact ⟨rt, D, T, rfl, h1⟩
  have HT : Hid (TabAt w) := hT
  have HI : Hid (Ints w ia is ∧ is.length = L ∧ L ≤ ic) := ⟨hi, hl, hcap⟩
  have HKn : Hid (∀ wx, Below w.heap.size w wx → Calls Tryz.prog 9 #[] wx fun e w' => e = .returned (.bool true) ∧ Below wx.heap.size wx w') := fun wx hb => known_any wx (HT.out.on hb)
  have HIx : Hid (∀ wx v, Calls Tryz.prog 10 #[.int .i64 v] wx fun e w' => e = .returned (.int .i64 (ixQ v : Int)) ∧ wx = w') := fun wx v => indexQ wx v
  have HNu : Hid (∀ wx, Calls Tryz.prog 13 #[.int .i64 0] wx fun e' w' => e' = .returned (.int .i64 0) ∧ wx = w') := fun wx => numQ wx 0 (by omega)
  have HN6 : Hid (∀ wx, Calls Tryz.prog 13 #[.int .i64 60] wx fun e' w' => e' = .returned (.int .i64 60) ∧ wx = w') := fun wx => numQ wx 60 (by omega)
  clear hT hi hl hn ht htl hr hrl
  have hmm := @run_makeMap Tryz.prog
  unfold stuV
  go_enter Tryz.func6, Tryz.ntmps6
  go_upto_region 1 with (fail)
  obtain ⟨P, hP⟩ : ∃ P, w.heap.size = P := ⟨_, rfl⟩
  obtain ⟨w1, hw1⟩ : ∃ w1, (w.alloc (.cells #[.int .i64 M, .slice ta tl tc, .slice ra rl rc] 25)).alloc (.cells #[.int .i64 c0, .int .i64 c1] 57) = w1 := ⟨_, rfl⟩
  have H1 : Hid (Below w.heap.size w w1 ∧ w1.heap[P + 1]? = some (.cells #[.int .i64 c0, .int .i64 c1] 57 (0, 0))) := by
    refine ⟨by rw [← hw1]; exact ((Below.refl _ _).alloc (Nat.le_refl _) _).alloc (by simp) _, ?_⟩
    have := heap_alloc_new (w.alloc (.cells #[.int .i64 M, .slice ta tl tc, .slice ra rl rc] 25)) (.cells #[.int .i64 c0, .int .i64 c1] 57)
    rw [World.size_alloc] at this
    rw [← hw1, ← hP]; exact this
  have hst : StuAt w1 P M ta tl tc ra rl rc := by rw [← hw1, ← hP]; exact (Below.heap_alloc _ _ _ (by simp)).trans (heap_alloc_new _ _)
  rw [hw1, hP]
  clear hw1 hP
  obtain ⟨b0, b1, b2⟩ := hst.cells
  clear hst
  go_upto_region 2 with (go_at_call 8; refine (HBg.out _ H1.out.1).mono ?_; rintro e w2 ⟨rt, D, T, rfl, h1⟩; have H2 : Hid (OpQ w1 w2 D T n) := h1; clear h1 HBg)
  clear b0 b1 b2
  obtain ⟨tt, htt⟩ : ∃ tt, T.t = tt := ⟨_, rfl⟩
  have HTt : Hid (T.t = tt) := htt
  obtain ⟨G, hG⟩ : ∃ G, w2.heap.size = G := ⟨_, rfl⟩
  obtain ⟨w3, hw3⟩ : ∃ w3, w2.alloc (.cells #[.int .i64 (n : Int), .int .i64 98, .int .i64 (gI n), .int .i64 (gD n), .int .i64 (gC n)] 29) = w3 := ⟨_, rfl⟩
  have H3 : Hid (OpQ w1 w3 D T n ∧ Bq w1 w3 D T G (.cells #[.int .i64 (n : Int), .int .i64 98, .int .i64 (gI n), .int .i64 (gD n), .int .i64 (gC n)] 29 (0, 0))) := by
    have hb := Bq.new H2.out.spc #[.int .i64 (n : Int), .int .i64 98, .int .i64 (gI n), .int .i64 (gD n), .int .i64 (gC n)] 29
    rw [hw3, hG] at hb
    exact ⟨⟨H2.out.spc.on (by rw [← hw3]; exact below_new _), H2.out.c, H2.out.us⟩, hb⟩
  have H4 : Hid (Below w.heap.size w w3) := H1.out.1.trans (H3.out.1.spc.ses.bel.mono H1.out.1.size)
  rw [htt, hw3, hG]
  clear htt hw3 hG H2
  go_upto_region 4 with (go_at_call 9; refine (HKn.out _ H4.out).mono ?_; rintro e w4 ⟨rfl, h1⟩; have H5 : Hid (Below w3.heap.size w3 w4) := h1; clear h1 HKn)
  go_upto_region 5 with (fail)
  obtain ⟨x0, hx0⟩ : ∃ x0 : Nat → Int, (fun _ => 0) = x0 := ⟨_, rfl⟩
  obtain ⟨X, hX⟩ : ∃ X, w4.heap.size = X := ⟨_, rfl⟩
  obtain ⟨w6, hw6⟩ : ∃ w6, w4.alloc (.cells #[.int .i64 0, .int .i64 0, .int .i64 0, .int .i64 0, .int .i64 0, .int .i64 0, .int .i64 0, .int .i64 0, .int .i64 0, .int .i64 0, .int .i64 0, .int .i64 0, .int .i64 0, .int .i64 0, .int .i64 0] 35) = w6 := ⟨_, rfl⟩
  have H7 : Hid (Spc w1 w6 D T n ∧ Bq w1 w6 D T G (.cells #[.int .i64 (n : Int), .int .i64 98, .int .i64 (gI n), .int .i64 (gD n), .int .i64 (gC n)] 29 (0, 0)) ∧ Bq w1 w6 D T X (.cells #[.int .i64 (x0 0), .int .i64 (x0 1), .int .i64 (x0 2), .int .i64 (x0 3), .int .i64 (x0 4), .int .i64 (x0 5), .int .i64 (x0 6), .int .i64 (x0 7), .int .i64 (x0 8), .int .i64 (x0 9), .int .i64 (x0 10), .int .i64 (x0 11), .int .i64 (x0 12), .int .i64 (x0 13), .int .i64 (x0 14)] 35 (0, 0)) ∧ G < X ∧ ∀ p, p < 12 → x0 (3 + p) = 0) := by
    have hb : Below w4.heap.size w4 w6 := by rw [← hw6]; exact below_new _
    have h3 := H3.out.1.spc.on H5.out
    have hx := Bq.new h3 #[.int .i64 0, .int .i64 0, .int .i64 0, .int .i64 0, .int .i64 0, .int .i64 0, .int .i64 0, .int .i64 0, .int .i64 0, .int .i64 0, .int .i64 0, .int .i64 0, .int .i64 0, .int .i64 0, .int .i64 0] 35
    rw [hw6, hX] at hx
    refine ⟨h3.on hb, (H3.out.2.on H5.out).on hb, ?_, by have := H3.out.2.out.lt; have := H5.out.size; omega, by rw [← hx0]; exact fun p _ => rfl⟩
    rw [← hx0]
    exact hx
  rw [hw6, hX]
  clear hw6 hX hx0 H4 H5
  go_upto_region 6 with (fail)
  obtain ⟨H, hH⟩ : ∃ H, w6.heap.size = H := ⟨_, rfl⟩
  obtain ⟨w7, hw7⟩ : ∃ w7, w6.alloc (.map #[] 0) = w7 := ⟨_, rfl⟩
  have H8 : Hid (CtS w1 w7 D T n 0 G X H tt x0 (fun _ => 0)) := by
    have hb : Below w6.heap.size w6 w7 := by rw [← hw7]; exact (Below.refl _ _).alloc (Nat.le_refl _) _
    have h6 := H7.out
    refine ⟨⟨h6.1.on hb, h6.2.1.on hb, h6.2.2.1.on hb, HasM.none ?_, Out.of h6.1 (by rw [hH]; exact Nat.le_refl _) (by rw [← hw7, ← hH]; simp), HTt.out, h6.2.2.2.1, ?_⟩, ⟨Tre.none h6.2.2.2.2, Own1.none⟩, Shp.none, by rw [H3.out.1.us]; simp, fun p hp => absurd rfl hp⟩
    · rw [← hw7, ← hH]; exact mpAt_made w6
    · have := h6.2.2.1.out.lt; omega
  rw [hw7, hH]
  clear hw7 hH H7 H3 HTt
  go_cut [62, 63, 64] (fun s62 s63 s64 wx => ∃ m : Nat, m ≤ 200 ∧ m ≤ L ∧ s62 = .slice ia m ic ∧ s63 = .int .i64 (m : Int) ∧ s64 = .int .i64 0 ∧ w7 = wx)
  case first =>
    by_cases h2 : 200 < L
    · obtain ⟨p, rfl⟩ : ∃ p, ia = some p := by
        cases ia with
        | some p => exact ⟨p, rfl⟩
        | none =>
          rcases HI.out.1.at_ with e | ⟨_, _, e, _⟩
          · have := HI.out.2.1; rw [e] at this; simp at this; omega
          · cases e
      have hc2 : 200 ≤ ic := by omega
      go_wp2
      go_meet
      case rel => exact ⟨200, Nat.le_refl _, by omega, congrArg (fun q => Value.slice (some p) q ic) (by omega), by congr 1; omega, rfl, rfl⟩
    · go_wp2
      go_meet
      case rel => exact ⟨L, by omega, Nat.le_refl _, congrArg (fun q => Value.slice ia q ic) (by omega), by congr 1; omega, rfl, rfl⟩
  case rest =>
  obtain ⟨m, hm2, hmL, rfl, rfl, rfl, rfl⟩ := hcut
  go_upto_block 0 with (fail)
  go_cut [] (fun wx => ∃ (r : Nat) (T : Tx) (x : Nat → Int) (ν : Nat → Nat), r ≤ 200 ∧ CtS w1 wx D T n r G X H tt x ν)
  case first => as_aux_lemma =>
    go_wp2_with (fail)
    go_loopw [64] (fun s64 wr => ∃ (r : Nat) (T : Tx) (x : Nat → Int) (ν : Nat → Nat), r ≤ m ∧ s64 = .int .i64 (r : Int) ∧ CtS w1 wr D T n r G X H tt x ν) (fun s64 _ => m - (intOf s64).toNat)
    case atStart => exact ⟨0, T, x0, _, by omega, rfl, H8.out⟩
    case round =>
      clear H8
      clear T
      obtain ⟨r, T, x, ν, hr2, rfl, hst⟩ := hrel
      obtain ⟨wA, hwA⟩ : ∃ wA, wr = wA := ⟨_, rfl⟩
      rw [hwA] at hst ⊢
      clear hwA wr
      have HR : Hid (CtS w1 wA D T n r G X H tt x ν) := hst
      clear hst
      by_cases hrm : r < m
      · have hlt : (r : Int) < (m : Int) := by omega
        obtain ⟨v, ib, io, rfl, hcv⟩ : ∃ (v : Int) (ib io : Nat), ia = some ⟨ib, io, none⟩ ∧ wA.cell? ⟨ib, io + r, none⟩ = some (.int .i64 v) := by
          have hb : Below w.heap.size w wA := H1.out.1.trans (HR.out.b.spc.ses.bel.mono H1.out.1.size)
          rcases (HI.out.1.on hb).at_ with e | ⟨b, off, e, hc⟩
          · have := HI.out.2.1; rw [e] at this; simp at this; omega
          · exact ⟨nth is r, b, off, e, hc r (by have := HI.out.2.1; omega)⟩
        obtain ⟨k, hk⟩ : ∃ k, ixQ v = k := ⟨_, rfl⟩
        have hkb : k < 16522 := by rw [← hk]; exact ixQ_bd v
        have HIv : Hid (∀ wx, Calls Tryz.prog 10 #[.int .i64 v] wx fun e w' => e = .returned (.int .i64 (k : Int)) ∧ wx = w') := fun wx => by have := HIx.out wx v; rw [hk] at this; exact this
        clear hk
        go_upto_region 9 with (fail)
        clear hcv
        go_cut [15, 16, 17] (fun s15 s16 s17 wx => ∃ (Yb N z : Nat) (y : Nat → Int) (T1 : Tx), s15 = .pointer (some ⟨Yb, 0, none⟩) ∧ s16 = .int .i64 (N : Int) ∧ s17 = .int .i64 (z : Int) ∧ AdQ w1 wx D T T1 n k r G X H tt Yb x ν y N z)
        case first => as_aux_lemma =>
          have HAd : Hid (∀ wx, CtS w1 wx D T n r G X H tt x ν → Calls Tryz.prog 12 #[.pointer (some ⟨tt, 0, none⟩), .agg #[.int .i64 (n : Int), .int .i64 98, .int .i64 (gI n), .int .i64 (gD n), .int .i64 (gC n)], .agg #[.int .i64 (x 0), .int .i64 (x 1), .int .i64 (x 2), .int .i64 (x 3), .int .i64 (x 4), .int .i64 (x 5), .int .i64 (x 6), .int .i64 (x 7), .int .i64 (x 8), .int .i64 (x 9), .int .i64 (x 10), .int .i64 (x 11), .int .i64 (x 12), .int .i64 (x 13), .int .i64 (x 14)], .int .i64 (k : Int)] wx fun e w' => ∃ (N z : Nat) (y : Nat → Int) (T' : Tx), e = .returned (.tuple #[.agg #[.int .i64 (y 0), .int .i64 (y 1), .int .i64 (y 2), .int .i64 (y 3), .int .i64 (y 4), .int .i64 (y 5), .int .i64 (y 6), .int .i64 (y 7), .int .i64 (y 8), .int .i64 (y 9), .int .i64 (y 10), .int .i64 (y 11), .int .i64 (y 12), .int .i64 (y 13), .int .i64 (y 14)], .int .i64 (N : Int), .int .i64 (z : Int)]) ∧ AdC w1 wx w' D T T' n k x ν y N z) := fun wx hx => by
            have h9 := add_any w1 wx D T n hx.b.spc (HT.out.on H1.out.1) x ν hx.wd k hkb (by have := hx.us; omega)
            rw [hx.b.t] at h9
            exact h9
          have HDr : Hid (CtS w1 wA.drew D T n r G X H tt x ν) := HR.out.on (Below.refl _ _).drew
          have HZ1 : Hid (CtS w1 (wA.alloc (.cells #[.int .i64 0, .int .i64 0, .int .i64 0, .int .i64 0, .int .i64 0, .int .i64 0, .int .i64 0, .int .i64 0, .int .i64 0, .int .i64 0, .int .i64 0, .int .i64 0, .int .i64 0, .int .i64 0, .int .i64 0] 35)).drew D T n r G X H tt x ν) := (HR.out.on (below_new _)).on (Below.refl _ _).drew
          have HZ2 : Hid (Bq w1 (wA.alloc (.cells #[.int .i64 0, .int .i64 0, .int .i64 0, .int .i64 0, .int .i64 0, .int .i64 0, .int .i64 0, .int .i64 0, .int .i64 0, .int .i64 0, .int .i64 0, .int .i64 0, .int .i64 0, .int .i64 0, .int .i64 0] 35)).drew D T wA.heap.size (.cells #[.int .i64 0, .int .i64 0, .int .i64 0, .int .i64 0, .int .i64 0, .int .i64 0, .int .i64 0, .int .i64 0, .int .i64 0, .int .i64 0, .int .i64 0, .int .i64 0, .int .i64 0, .int .i64 0, .int .i64 0] 35 (0, 0))) := (Bq.new HR.out.b.spc _ _).on (Below.refl _ _).drew
          have hS0 := HDr.out.b.s20
          have hS1 := HZ1.out.b.s20
          have HGX : Hid (G < wA.heap.size ∧ X < wA.heap.size ∧ H < wA.heap.size) := ⟨HR.out.b.g.out.lt, HR.out.b.x.out.lt, HR.out.b.ho.lt⟩
          refine wp_region_held_drew (S := S20 x n G X) (by as_aux_lemma => kernel_rfl) ?_ (fun hHeld => ?_)
          · (try dsimp only); first | (with_reducible exact hS0) | (with_reducible exact hS1) | (with_reducible exact hS5) | (with_reducible exact hS6) | (have hh := HZa.out; clear hh; with_reducible exact s20_row hS5 _ (by have := HGX.out; omega) (by have := HGX.out; omega)) | (with_reducible exact s20_row hS6 _ (by have := HGY.out; omega) (by have := HGY.out; omega))
          refine wpAnyH_take (i := 0) (v := ?_) rfl (by as_aux_lemma => kernel_rfl) (by as_aux_lemma => kernel_rfl) (by as_aux_lemma => kernel_rfl) (fun _ _ _ h => h) (Or.inl ⟨by rfl, ?_⟩) (by assumption) ?_
          rotate_left
          focus (intro w hSw; unfold S20 at hSw; obtain ⟨a0, a1, a2, a3, a4, x0, x1, x2, x3, x4, x5, x6, x7, x8, x9, x10, x11, x12, x13, x14⟩ := hSw; go_simp; (try (with_reducible rfl)); done)
          try go_simp
          refine wpAnyH_take (i := 1) (v := ?_) rfl (by as_aux_lemma => kernel_rfl) (by as_aux_lemma => kernel_rfl) (by as_aux_lemma => kernel_rfl) (fun _ _ _ h => h) (Or.inl ⟨by rfl, ?_⟩) (by assumption) ?_
          rotate_left
          focus (intro w hSw; unfold S20 at hSw; obtain ⟨a0, a1, a2, a3, a4, x0, x1, x2, x3, x4, x5, x6, x7, x8, x9, x10, x11, x12, x13, x14⟩ := hSw; go_simp; (try (with_reducible rfl)); done)
          try go_simp
          refine wpAnyH_take (i := 2) (v := ?_) rfl (by as_aux_lemma => kernel_rfl) (by as_aux_lemma => kernel_rfl) (by as_aux_lemma => kernel_rfl) (fun _ _ _ h => h) (Or.inl ⟨by rfl, ?_⟩) (by assumption) ?_
          rotate_left
          focus (intro w hSw; unfold S20 at hSw; obtain ⟨a0, a1, a2, a3, a4, x0, x1, x2, x3, x4, x5, x6, x7, x8, x9, x10, x11, x12, x13, x14⟩ := hSw; go_simp; (try (with_reducible rfl)); done)
          try go_simp
          refine wpAnyH_take (i := 3) (v := ?_) rfl (by as_aux_lemma => kernel_rfl) (by as_aux_lemma => kernel_rfl) (by as_aux_lemma => kernel_rfl) (fun _ _ _ h => h) (Or.inl ⟨by rfl, ?_⟩) (by assumption) ?_
          rotate_left
          focus (intro w hSw; unfold S20 at hSw; obtain ⟨a0, a1, a2, a3, a4, x0, x1, x2, x3, x4, x5, x6, x7, x8, x9, x10, x11, x12, x13, x14⟩ := hSw; go_simp; (try (with_reducible rfl)); done)
          try go_simp
          refine wpAnyH_ready (rs := [4, 10]) (by as_aux_lemma => kernel_rfl) (by simp) ?_
          refine AllReadyH.cons rfl (fun K hK => ?_) ?_
          · (go_simp; go_at_call 10; refine (HIv.out _).mono ?_; rintro e wq ⟨rfl, rfl⟩; go_simp)
            refine hK.out _ _ ?_ (fun hHeld => ?_)
            · (try dsimp only); first | (with_reducible exact hS0) | (with_reducible exact hS1) | (with_reducible exact hS5) | (with_reducible exact hS6) | (have hh := HZa.out; clear hh; with_reducible exact s20_row hS5 _ (by have := HGX.out; omega) (by have := HGX.out; omega)) | (with_reducible exact s20_row hS6 _ (by have := HGY.out; omega) (by have := HGY.out; omega))
            clear hK K
            refine wpAnyH_ready (rs := [5, 10]) (by as_aux_lemma => kernel_rfl) (by simp) ?_
            refine AllReadyH.cons rfl (fun K hK => ?_) ?_
            · (go_simp; go_at_call 12; first | ((with_reducible refine (HAd.out _ HZ1.out).mono ?_); rintro e wd ⟨N, z, y, T1, rfl, h1⟩; have H5 : Hid (AdC w1 (wA.alloc (.cells #[.int .i64 0, .int .i64 0, .int .i64 0, .int .i64 0, .int .i64 0, .int .i64 0, .int .i64 0, .int .i64 0, .int .i64 0, .int .i64 0, .int .i64 0, .int .i64 0, .int .i64 0, .int .i64 0, .int .i64 0] 35)).drew wd D T T1 n k x ν y N z) := h1; have hS5 := (AdC.csb HZ1.out.b h1).s20; have HRo := (AdC.bq HZ2.out h1).row; have HZa : Hid True := trivial; clear h1) | ((with_reducible refine (HAd.out _ HDr.out).mono ?_); rintro e wd ⟨N, z, y, T1, rfl, h1⟩; have H5 : Hid (AdC w1 wA.drew wd D T T1 n k x ν y N z) := h1; have hS5 := (AdC.csb HDr.out.b h1).s20; have hS6 := ((AdC.csb HDr.out.b h1).on (below_new (.cells #[.int .i64 0, .int .i64 0, .int .i64 0, .int .i64 0, .int .i64 0, .int .i64 0, .int .i64 0, .int .i64 0, .int .i64 0, .int .i64 0, .int .i64 0, .int .i64 0, .int .i64 0, .int .i64 0, .int .i64 0] 35))).s20; have HGY : Hid (G < wd.heap.size ∧ X < wd.heap.size ∧ H < wd.heap.size) := ⟨(AdC.csb HDr.out.b h1).g.out.lt, (AdC.csb HDr.out.b h1).x.out.lt, (AdC.csb HDr.out.b h1).ho.lt⟩; have HRo := heap_alloc_new wd (.cells #[.int .i64 0, .int .i64 0, .int .i64 0, .int .i64 0, .int .i64 0, .int .i64 0, .int .i64 0, .int .i64 0, .int .i64 0, .int .i64 0, .int .i64 0, .int .i64 0, .int .i64 0, .int .i64 0, .int .i64 0] 35); clear h1); go_simp)
              refine hK.out _ _ ?_ (fun hHeld => ?_)
              · (try dsimp only); first | (with_reducible exact hS0) | (with_reducible exact hS1) | (with_reducible exact hS5) | (with_reducible exact hS6) | (have hh := HZa.out; clear hh; with_reducible exact s20_row hS5 _ (by have := HGX.out; omega) (by have := HGX.out; omega)) | (with_reducible exact s20_row hS6 _ (by have := HGY.out; omega) (by have := HGY.out; omega))
              clear hK K
              refine wpAnyH_take (i := 6) (v := ?_) rfl (by as_aux_lemma => kernel_rfl) (by as_aux_lemma => kernel_rfl) (by as_aux_lemma => kernel_rfl) (fun _ _ _ h => h) (Or.inl ⟨by rfl, ?_⟩) (by assumption) ?_
              rotate_left
              focus (intro w hSw; unfold S20 at hSw; obtain ⟨a0, a1, a2, a3, a4, x0, x1, x2, x3, x4, x5, x6, x7, x8, x9, x10, x11, x12, x13, x14⟩ := hSw; go_simp; (try (with_reducible rfl)); done)
              try go_simp
              refine wpAnyH_take (i := 7) (v := ?_) rfl (by as_aux_lemma => kernel_rfl) (by as_aux_lemma => kernel_rfl) (by as_aux_lemma => kernel_rfl) (fun _ _ _ h => h) (Or.inl ⟨by rfl, ?_⟩) (by assumption) ?_
              rotate_left
              focus (intro w hSw; unfold S20 at hSw; obtain ⟨a0, a1, a2, a3, a4, x0, x1, x2, x3, x4, x5, x6, x7, x8, x9, x10, x11, x12, x13, x14⟩ := hSw; go_simp; (try (with_reducible rfl)); done)
              try go_simp
              refine wpAnyH_take (i := 8) (v := ?_) rfl (by as_aux_lemma => kernel_rfl) (by as_aux_lemma => kernel_rfl) (by as_aux_lemma => kernel_rfl) (fun _ _ _ h => h) (Or.inl ⟨by rfl, ?_⟩) (by assumption) ?_
              rotate_left
              focus (intro w hSw; unfold S20 at hSw; obtain ⟨a0, a1, a2, a3, a4, x0, x1, x2, x3, x4, x5, x6, x7, x8, x9, x10, x11, x12, x13, x14⟩ := hSw; go_simp; (try (with_reducible rfl)); done)
              try go_simp
              refine wpAnyH_take (i := 9) (v := ?_) rfl (by as_aux_lemma => kernel_rfl) (by as_aux_lemma => kernel_rfl) (by as_aux_lemma => kernel_rfl) (fun _ _ _ h => h) (Or.inl ⟨by rfl, ?_⟩) (by assumption) ?_
              rotate_left
              focus (intro w hSw; unfold S20 at hSw; obtain ⟨a0, a1, a2, a3, a4, x0, x1, x2, x3, x4, x5, x6, x7, x8, x9, x10, x11, x12, x13, x14⟩ := hSw; go_simp; (try (with_reducible rfl)); done)
              try go_simp
              refine wpAnyH_ready (rs := [10]) (by as_aux_lemma => kernel_rfl) (by simp) ?_
              refine AllReadyH.cons rfl (fun K hK => ?_) ?_
              · go_simp
                refine hK.out _ _ ?_ (fun hHeld => ?_)
                · (try dsimp only); first | (with_reducible exact hS0) | (with_reducible exact hS1) | (with_reducible exact hS5) | (with_reducible exact hS6) | (have hh := HZa.out; clear hh; with_reducible exact s20_row hS5 _ (by have := HGX.out; omega) (by have := HGX.out; omega)) | (with_reducible exact s20_row hS6 _ (by have := HGY.out; omega) (by have := HGY.out; omega))
                clear hK K
                refine wpAnyH_ready (rs := [11]) (by as_aux_lemma => kernel_rfl) (by simp) ?_
                refine AllReadyH.cons rfl (fun K hK => ?_) ?_
                · (first | (have hh := HZa.out; clear hh; refine wp_store_row 35 _ _ rfl wA.heap.size #[.int .i64 (y 0), .int .i64 (y 1), .int .i64 (y 2), .int .i64 (y 3), .int .i64 (y 4), .int .i64 (y 5), .int .i64 (y 6), .int .i64 (y 7), .int .i64 (y 8), .int .i64 (y 9), .int .i64 (y 10), .int .i64 (y 11), .int .i64 (y 12), .int .i64 (y 13), .int .i64 (y 14)] rfl rfl 35 #[.int .i64 0, .int .i64 0, .int .i64 0, .int .i64 0, .int .i64 0, .int .i64 0, .int .i64 0, .int .i64 0, .int .i64 0, .int .i64 0, .int .i64 0, .int .i64 0, .int .i64 0, .int .i64 0, .int .i64 0] HRo szI rfl (oneC y) ?_) | (refine wp_store_row 35 _ _ rfl wd.heap.size #[.int .i64 (y 0), .int .i64 (y 1), .int .i64 (y 2), .int .i64 (y 3), .int .i64 (y 4), .int .i64 (y 5), .int .i64 (y 6), .int .i64 (y 7), .int .i64 (y 8), .int .i64 (y 9), .int .i64 (y 10), .int .i64 (y 11), .int .i64 (y 12), .int .i64 (y 13), .int .i64 (y 14)] rfl rfl 35 #[.int .i64 0, .int .i64 0, .int .i64 0, .int .i64 0, .int .i64 0, .int .i64 0, .int .i64 0, .int .i64 0, .int .i64 0, .int .i64 0, .int .i64 0, .int .i64 0, .int .i64 0, .int .i64 0, .int .i64 0] HRo szI rfl (oneC y) ?_))
                  refine hK.out _ _ ?_ (fun hHeld => ?_)
                  · (try dsimp only); first | (with_reducible exact hS0) | (with_reducible exact hS1) | (with_reducible exact hS5) | (with_reducible exact hS6) | (have hh := HZa.out; clear hh; with_reducible exact s20_row hS5 _ (by have := HGX.out; omega) (by have := HGX.out; omega)) | (with_reducible exact s20_row hS6 _ (by have := HGY.out; omega) (by have := HGY.out; omega))
                  clear hK K
                  refine wpAnyH_take (i := 12) (v := ?_) rfl (by as_aux_lemma => kernel_rfl) (by as_aux_lemma => kernel_rfl) (by as_aux_lemma => kernel_rfl) (fun _ _ _ h => h) (Or.inl ⟨by rfl, ?_⟩) (by assumption) ?_
                  rotate_left
                  focus (intro w hSw; unfold S20 at hSw; obtain ⟨a0, a1, a2, a3, a4, x0, x1, x2, x3, x4, x5, x6, x7, x8, x9, x10, x11, x12, x13, x14⟩ := hSw; go_simp; (try (with_reducible rfl)); done)
                  try go_simp
                  refine wpAnyH_take (i := 13) (v := ?_) rfl (by as_aux_lemma => kernel_rfl) (by as_aux_lemma => kernel_rfl) (by as_aux_lemma => kernel_rfl) (fun _ _ _ h => h) (Or.inl ⟨by rfl, ?_⟩) (by assumption) ?_
                  rotate_left
                  focus (intro w hSw; unfold S20 at hSw; obtain ⟨a0, a1, a2, a3, a4, x0, x1, x2, x3, x4, x5, x6, x7, x8, x9, x10, x11, x12, x13, x14⟩ := hSw; go_simp; (try (with_reducible rfl)); done)
                  try go_simp
                  refine wpAnyH_done (by as_aux_lemma => kernel_rfl) ?_ _
                  go_wp2
                  go_meet
                  case rel => first | (have hh := HZa.out; clear hh; exact ⟨_, N, z, y, T1, rfl, rfl, rfl, H5.out.q HZ1.out (Below.refl _ _) (AdC.bq HZ2.out H5.out) (row_fr _ _ _) (setRow_heap _ _ _ _ _ _ HRo) (by have := HGX.out; omega) (by have := HGX.out; omega) (by have := HGX.out; omega)⟩) | exact ⟨_, N, z, y, T1, rfl, rfl, rfl, H5.out.q HDr.out (below_new _) (Bq.new (AdC.csb HDr.out.b H5.out).spc _ _) (row_fr _ _ _) (setRow_heap _ _ _ _ _ _ HRo) (by have := HGY.out; omega) (by have := HGY.out; omega) (by have := HGY.out; omega)⟩
                exact AllReadyH.nil
              exact AllReadyH.nil
            refine AllReadyH.cons rfl (fun K hK => ?_) ?_
            · go_simp
              refine hK.out _ _ ?_ (fun hHeld => ?_)
              · (try dsimp only); first | (with_reducible exact hS0) | (with_reducible exact hS1) | (with_reducible exact hS5) | (with_reducible exact hS6) | (have hh := HZa.out; clear hh; with_reducible exact s20_row hS5 _ (by have := HGX.out; omega) (by have := HGX.out; omega)) | (with_reducible exact s20_row hS6 _ (by have := HGY.out; omega) (by have := HGY.out; omega))
              clear hK K
              refine wpAnyH_ready (rs := [5]) (by as_aux_lemma => kernel_rfl) (by simp) ?_
              refine AllReadyH.cons rfl (fun K hK => ?_) ?_
              · (go_simp; go_at_call 12; first | ((with_reducible refine (HAd.out _ HZ1.out).mono ?_); rintro e wd ⟨N, z, y, T1, rfl, h1⟩; have H5 : Hid (AdC w1 (wA.alloc (.cells #[.int .i64 0, .int .i64 0, .int .i64 0, .int .i64 0, .int .i64 0, .int .i64 0, .int .i64 0, .int .i64 0, .int .i64 0, .int .i64 0, .int .i64 0, .int .i64 0, .int .i64 0, .int .i64 0, .int .i64 0] 35)).drew wd D T T1 n k x ν y N z) := h1; have hS5 := (AdC.csb HZ1.out.b h1).s20; have HRo := (AdC.bq HZ2.out h1).row; have HZa : Hid True := trivial; clear h1) | ((with_reducible refine (HAd.out _ HDr.out).mono ?_); rintro e wd ⟨N, z, y, T1, rfl, h1⟩; have H5 : Hid (AdC w1 wA.drew wd D T T1 n k x ν y N z) := h1; have hS5 := (AdC.csb HDr.out.b h1).s20; have hS6 := ((AdC.csb HDr.out.b h1).on (below_new (.cells #[.int .i64 0, .int .i64 0, .int .i64 0, .int .i64 0, .int .i64 0, .int .i64 0, .int .i64 0, .int .i64 0, .int .i64 0, .int .i64 0, .int .i64 0, .int .i64 0, .int .i64 0, .int .i64 0, .int .i64 0] 35))).s20; have HGY : Hid (G < wd.heap.size ∧ X < wd.heap.size ∧ H < wd.heap.size) := ⟨(AdC.csb HDr.out.b h1).g.out.lt, (AdC.csb HDr.out.b h1).x.out.lt, (AdC.csb HDr.out.b h1).ho.lt⟩; have HRo := heap_alloc_new wd (.cells #[.int .i64 0, .int .i64 0, .int .i64 0, .int .i64 0, .int .i64 0, .int .i64 0, .int .i64 0, .int .i64 0, .int .i64 0, .int .i64 0, .int .i64 0, .int .i64 0, .int .i64 0, .int .i64 0, .int .i64 0] 35); clear h1); go_simp)
                refine hK.out _ _ ?_ (fun hHeld => ?_)
                · (try dsimp only); first | (with_reducible exact hS0) | (with_reducible exact hS1) | (with_reducible exact hS5) | (with_reducible exact hS6) | (have hh := HZa.out; clear hh; with_reducible exact s20_row hS5 _ (by have := HGX.out; omega) (by have := HGX.out; omega)) | (with_reducible exact s20_row hS6 _ (by have := HGY.out; omega) (by have := HGY.out; omega))
                clear hK K
                refine wpAnyH_take (i := 6) (v := ?_) rfl (by as_aux_lemma => kernel_rfl) (by as_aux_lemma => kernel_rfl) (by as_aux_lemma => kernel_rfl) (fun _ _ _ h => h) (Or.inl ⟨by rfl, ?_⟩) (by assumption) ?_
                rotate_left
                focus (intro w hSw; unfold S20 at hSw; obtain ⟨a0, a1, a2, a3, a4, x0, x1, x2, x3, x4, x5, x6, x7, x8, x9, x10, x11, x12, x13, x14⟩ := hSw; go_simp; (try (with_reducible rfl)); done)
                try go_simp
                refine wpAnyH_take (i := 7) (v := ?_) rfl (by as_aux_lemma => kernel_rfl) (by as_aux_lemma => kernel_rfl) (by as_aux_lemma => kernel_rfl) (fun _ _ _ h => h) (Or.inl ⟨by rfl, ?_⟩) (by assumption) ?_
                rotate_left
                focus (intro w hSw; unfold S20 at hSw; obtain ⟨a0, a1, a2, a3, a4, x0, x1, x2, x3, x4, x5, x6, x7, x8, x9, x10, x11, x12, x13, x14⟩ := hSw; go_simp; (try (with_reducible rfl)); done)
                try go_simp
                refine wpAnyH_take (i := 8) (v := ?_) rfl (by as_aux_lemma => kernel_rfl) (by as_aux_lemma => kernel_rfl) (by as_aux_lemma => kernel_rfl) (fun _ _ _ h => h) (Or.inl ⟨by rfl, ?_⟩) (by assumption) ?_
                rotate_left
                focus (intro w hSw; unfold S20 at hSw; obtain ⟨a0, a1, a2, a3, a4, x0, x1, x2, x3, x4, x5, x6, x7, x8, x9, x10, x11, x12, x13, x14⟩ := hSw; go_simp; (try (with_reducible rfl)); done)
                try go_simp
                refine wpAnyH_take (i := 9) (v := ?_) rfl (by as_aux_lemma => kernel_rfl) (by as_aux_lemma => kernel_rfl) (by as_aux_lemma => kernel_rfl) (fun _ _ _ h => h) (Or.inl ⟨by rfl, ?_⟩) (by assumption) ?_
                rotate_left
                focus (intro w hSw; unfold S20 at hSw; obtain ⟨a0, a1, a2, a3, a4, x0, x1, x2, x3, x4, x5, x6, x7, x8, x9, x10, x11, x12, x13, x14⟩ := hSw; go_simp; (try (with_reducible rfl)); done)
                try go_simp
                refine wpAnyH_ready (rs := [11]) (by as_aux_lemma => kernel_rfl) (by simp) ?_
                refine AllReadyH.cons rfl (fun K hK => ?_) ?_
                · (first | (have hh := HZa.out; clear hh; refine wp_store_row 35 _ _ rfl wA.heap.size #[.int .i64 (y 0), .int .i64 (y 1), .int .i64 (y 2), .int .i64 (y 3), .int .i64 (y 4), .int .i64 (y 5), .int .i64 (y 6), .int .i64 (y 7), .int .i64 (y 8), .int .i64 (y 9), .int .i64 (y 10), .int .i64 (y 11), .int .i64 (y 12), .int .i64 (y 13), .int .i64 (y 14)] rfl rfl 35 #[.int .i64 0, .int .i64 0, .int .i64 0, .int .i64 0, .int .i64 0, .int .i64 0, .int .i64 0, .int .i64 0, .int .i64 0, .int .i64 0, .int .i64 0, .int .i64 0, .int .i64 0, .int .i64 0, .int .i64 0] HRo szI rfl (oneC y) ?_) | (refine wp_store_row 35 _ _ rfl wd.heap.size #[.int .i64 (y 0), .int .i64 (y 1), .int .i64 (y 2), .int .i64 (y 3), .int .i64 (y 4), .int .i64 (y 5), .int .i64 (y 6), .int .i64 (y 7), .int .i64 (y 8), .int .i64 (y 9), .int .i64 (y 10), .int .i64 (y 11), .int .i64 (y 12), .int .i64 (y 13), .int .i64 (y 14)] rfl rfl 35 #[.int .i64 0, .int .i64 0, .int .i64 0, .int .i64 0, .int .i64 0, .int .i64 0, .int .i64 0, .int .i64 0, .int .i64 0, .int .i64 0, .int .i64 0, .int .i64 0, .int .i64 0, .int .i64 0, .int .i64 0] HRo szI rfl (oneC y) ?_))
                  refine hK.out _ _ ?_ (fun hHeld => ?_)
                  · (try dsimp only); first | (with_reducible exact hS0) | (with_reducible exact hS1) | (with_reducible exact hS5) | (with_reducible exact hS6) | (have hh := HZa.out; clear hh; with_reducible exact s20_row hS5 _ (by have := HGX.out; omega) (by have := HGX.out; omega)) | (with_reducible exact s20_row hS6 _ (by have := HGY.out; omega) (by have := HGY.out; omega))
                  clear hK K
                  refine wpAnyH_take (i := 12) (v := ?_) rfl (by as_aux_lemma => kernel_rfl) (by as_aux_lemma => kernel_rfl) (by as_aux_lemma => kernel_rfl) (fun _ _ _ h => h) (Or.inl ⟨by rfl, ?_⟩) (by assumption) ?_
                  rotate_left
                  focus (intro w hSw; unfold S20 at hSw; obtain ⟨a0, a1, a2, a3, a4, x0, x1, x2, x3, x4, x5, x6, x7, x8, x9, x10, x11, x12, x13, x14⟩ := hSw; go_simp; (try (with_reducible rfl)); done)
                  try go_simp
                  refine wpAnyH_take (i := 13) (v := ?_) rfl (by as_aux_lemma => kernel_rfl) (by as_aux_lemma => kernel_rfl) (by as_aux_lemma => kernel_rfl) (fun _ _ _ h => h) (Or.inl ⟨by rfl, ?_⟩) (by assumption) ?_
                  rotate_left
                  focus (intro w hSw; unfold S20 at hSw; obtain ⟨a0, a1, a2, a3, a4, x0, x1, x2, x3, x4, x5, x6, x7, x8, x9, x10, x11, x12, x13, x14⟩ := hSw; go_simp; (try (with_reducible rfl)); done)
                  try go_simp
                  refine wpAnyH_done (by as_aux_lemma => kernel_rfl) ?_ _
                  go_wp2
                  go_meet
                  case rel => first | (have hh := HZa.out; clear hh; exact ⟨_, N, z, y, T1, rfl, rfl, rfl, H5.out.q HZ1.out (Below.refl _ _) (AdC.bq HZ2.out H5.out) (row_fr _ _ _) (setRow_heap _ _ _ _ _ _ HRo) (by have := HGX.out; omega) (by have := HGX.out; omega) (by have := HGX.out; omega)⟩) | exact ⟨_, N, z, y, T1, rfl, rfl, rfl, H5.out.q HDr.out (below_new _) (Bq.new (AdC.csb HDr.out.b H5.out).spc _ _) (row_fr _ _ _) (setRow_heap _ _ _ _ _ _ HRo) (by have := HGY.out; omega) (by have := HGY.out; omega) (by have := HGY.out; omega)⟩
                exact AllReadyH.nil
              exact AllReadyH.nil
            exact AllReadyH.nil
          refine AllReadyH.cons rfl (fun K hK => ?_) ?_
          · go_simp
            refine hK.out _ _ ?_ (fun hHeld => ?_)
            · (try dsimp only); first | (with_reducible exact hS0) | (with_reducible exact hS1) | (with_reducible exact hS5) | (with_reducible exact hS6) | (have hh := HZa.out; clear hh; with_reducible exact s20_row hS5 _ (by have := HGX.out; omega) (by have := HGX.out; omega)) | (with_reducible exact s20_row hS6 _ (by have := HGY.out; omega) (by have := HGY.out; omega))
            clear hK K
            refine wpAnyH_ready (rs := [4]) (by as_aux_lemma => kernel_rfl) (by simp) ?_
            refine AllReadyH.cons rfl (fun K hK => ?_) ?_
            · (go_simp; go_at_call 10; refine (HIv.out _).mono ?_; rintro e wq ⟨rfl, rfl⟩; go_simp)
              refine hK.out _ _ ?_ (fun hHeld => ?_)
              · (try dsimp only); first | (with_reducible exact hS0) | (with_reducible exact hS1) | (with_reducible exact hS5) | (with_reducible exact hS6) | (have hh := HZa.out; clear hh; with_reducible exact s20_row hS5 _ (by have := HGX.out; omega) (by have := HGX.out; omega)) | (with_reducible exact s20_row hS6 _ (by have := HGY.out; omega) (by have := HGY.out; omega))
              clear hK K
              refine wpAnyH_ready (rs := [5]) (by as_aux_lemma => kernel_rfl) (by simp) ?_
              refine AllReadyH.cons rfl (fun K hK => ?_) ?_
              · (go_simp; go_at_call 12; first | ((with_reducible refine (HAd.out _ HZ1.out).mono ?_); rintro e wd ⟨N, z, y, T1, rfl, h1⟩; have H5 : Hid (AdC w1 (wA.alloc (.cells #[.int .i64 0, .int .i64 0, .int .i64 0, .int .i64 0, .int .i64 0, .int .i64 0, .int .i64 0, .int .i64 0, .int .i64 0, .int .i64 0, .int .i64 0, .int .i64 0, .int .i64 0, .int .i64 0, .int .i64 0] 35)).drew wd D T T1 n k x ν y N z) := h1; have hS5 := (AdC.csb HZ1.out.b h1).s20; have HRo := (AdC.bq HZ2.out h1).row; have HZa : Hid True := trivial; clear h1) | ((with_reducible refine (HAd.out _ HDr.out).mono ?_); rintro e wd ⟨N, z, y, T1, rfl, h1⟩; have H5 : Hid (AdC w1 wA.drew wd D T T1 n k x ν y N z) := h1; have hS5 := (AdC.csb HDr.out.b h1).s20; have hS6 := ((AdC.csb HDr.out.b h1).on (below_new (.cells #[.int .i64 0, .int .i64 0, .int .i64 0, .int .i64 0, .int .i64 0, .int .i64 0, .int .i64 0, .int .i64 0, .int .i64 0, .int .i64 0, .int .i64 0, .int .i64 0, .int .i64 0, .int .i64 0, .int .i64 0] 35))).s20; have HGY : Hid (G < wd.heap.size ∧ X < wd.heap.size ∧ H < wd.heap.size) := ⟨(AdC.csb HDr.out.b h1).g.out.lt, (AdC.csb HDr.out.b h1).x.out.lt, (AdC.csb HDr.out.b h1).ho.lt⟩; have HRo := heap_alloc_new wd (.cells #[.int .i64 0, .int .i64 0, .int .i64 0, .int .i64 0, .int .i64 0, .int .i64 0, .int .i64 0, .int .i64 0, .int .i64 0, .int .i64 0, .int .i64 0, .int .i64 0, .int .i64 0, .int .i64 0, .int .i64 0] 35); clear h1); go_simp)
                refine hK.out _ _ ?_ (fun hHeld => ?_)
                · (try dsimp only); first | (with_reducible exact hS0) | (with_reducible exact hS1) | (with_reducible exact hS5) | (with_reducible exact hS6) | (have hh := HZa.out; clear hh; with_reducible exact s20_row hS5 _ (by have := HGX.out; omega) (by have := HGX.out; omega)) | (with_reducible exact s20_row hS6 _ (by have := HGY.out; omega) (by have := HGY.out; omega))
                clear hK K
                refine wpAnyH_take (i := 6) (v := ?_) rfl (by as_aux_lemma => kernel_rfl) (by as_aux_lemma => kernel_rfl) (by as_aux_lemma => kernel_rfl) (fun _ _ _ h => h) (Or.inl ⟨by rfl, ?_⟩) (by assumption) ?_
                rotate_left
                focus (intro w hSw; unfold S20 at hSw; obtain ⟨a0, a1, a2, a3, a4, x0, x1, x2, x3, x4, x5, x6, x7, x8, x9, x10, x11, x12, x13, x14⟩ := hSw; go_simp; (try (with_reducible rfl)); done)
                try go_simp
                refine wpAnyH_take (i := 7) (v := ?_) rfl (by as_aux_lemma => kernel_rfl) (by as_aux_lemma => kernel_rfl) (by as_aux_lemma => kernel_rfl) (fun _ _ _ h => h) (Or.inl ⟨by rfl, ?_⟩) (by assumption) ?_
                rotate_left
                focus (intro w hSw; unfold S20 at hSw; obtain ⟨a0, a1, a2, a3, a4, x0, x1, x2, x3, x4, x5, x6, x7, x8, x9, x10, x11, x12, x13, x14⟩ := hSw; go_simp; (try (with_reducible rfl)); done)
                try go_simp
                refine wpAnyH_take (i := 8) (v := ?_) rfl (by as_aux_lemma => kernel_rfl) (by as_aux_lemma => kernel_rfl) (by as_aux_lemma => kernel_rfl) (fun _ _ _ h => h) (Or.inl ⟨by rfl, ?_⟩) (by assumption) ?_
                rotate_left
                focus (intro w hSw; unfold S20 at hSw; obtain ⟨a0, a1, a2, a3, a4, x0, x1, x2, x3, x4, x5, x6, x7, x8, x9, x10, x11, x12, x13, x14⟩ := hSw; go_simp; (try (with_reducible rfl)); done)
                try go_simp
                refine wpAnyH_take (i := 9) (v := ?_) rfl (by as_aux_lemma => kernel_rfl) (by as_aux_lemma => kernel_rfl) (by as_aux_lemma => kernel_rfl) (fun _ _ _ h => h) (Or.inl ⟨by rfl, ?_⟩) (by assumption) ?_
                rotate_left
                focus (intro w hSw; unfold S20 at hSw; obtain ⟨a0, a1, a2, a3, a4, x0, x1, x2, x3, x4, x5, x6, x7, x8, x9, x10, x11, x12, x13, x14⟩ := hSw; go_simp; (try (with_reducible rfl)); done)
                try go_simp
                refine wpAnyH_ready (rs := [11]) (by as_aux_lemma => kernel_rfl) (by simp) ?_
                refine AllReadyH.cons rfl (fun K hK => ?_) ?_
                · (first | (have hh := HZa.out; clear hh; refine wp_store_row 35 _ _ rfl wA.heap.size #[.int .i64 (y 0), .int .i64 (y 1), .int .i64 (y 2), .int .i64 (y 3), .int .i64 (y 4), .int .i64 (y 5), .int .i64 (y 6), .int .i64 (y 7), .int .i64 (y 8), .int .i64 (y 9), .int .i64 (y 10), .int .i64 (y 11), .int .i64 (y 12), .int .i64 (y 13), .int .i64 (y 14)] rfl rfl 35 #[.int .i64 0, .int .i64 0, .int .i64 0, .int .i64 0, .int .i64 0, .int .i64 0, .int .i64 0, .int .i64 0, .int .i64 0, .int .i64 0, .int .i64 0, .int .i64 0, .int .i64 0, .int .i64 0, .int .i64 0] HRo szI rfl (oneC y) ?_) | (refine wp_store_row 35 _ _ rfl wd.heap.size #[.int .i64 (y 0), .int .i64 (y 1), .int .i64 (y 2), .int .i64 (y 3), .int .i64 (y 4), .int .i64 (y 5), .int .i64 (y 6), .int .i64 (y 7), .int .i64 (y 8), .int .i64 (y 9), .int .i64 (y 10), .int .i64 (y 11), .int .i64 (y 12), .int .i64 (y 13), .int .i64 (y 14)] rfl rfl 35 #[.int .i64 0, .int .i64 0, .int .i64 0, .int .i64 0, .int .i64 0, .int .i64 0, .int .i64 0, .int .i64 0, .int .i64 0, .int .i64 0, .int .i64 0, .int .i64 0, .int .i64 0, .int .i64 0, .int .i64 0] HRo szI rfl (oneC y) ?_))
                  refine hK.out _ _ ?_ (fun hHeld => ?_)
                  · (try dsimp only); first | (with_reducible exact hS0) | (with_reducible exact hS1) | (with_reducible exact hS5) | (with_reducible exact hS6) | (have hh := HZa.out; clear hh; with_reducible exact s20_row hS5 _ (by have := HGX.out; omega) (by have := HGX.out; omega)) | (with_reducible exact s20_row hS6 _ (by have := HGY.out; omega) (by have := HGY.out; omega))
                  clear hK K
                  refine wpAnyH_take (i := 12) (v := ?_) rfl (by as_aux_lemma => kernel_rfl) (by as_aux_lemma => kernel_rfl) (by as_aux_lemma => kernel_rfl) (fun _ _ _ h => h) (Or.inl ⟨by rfl, ?_⟩) (by assumption) ?_
                  rotate_left
                  focus (intro w hSw; unfold S20 at hSw; obtain ⟨a0, a1, a2, a3, a4, x0, x1, x2, x3, x4, x5, x6, x7, x8, x9, x10, x11, x12, x13, x14⟩ := hSw; go_simp; (try (with_reducible rfl)); done)
                  try go_simp
                  refine wpAnyH_take (i := 13) (v := ?_) rfl (by as_aux_lemma => kernel_rfl) (by as_aux_lemma => kernel_rfl) (by as_aux_lemma => kernel_rfl) (fun _ _ _ h => h) (Or.inl ⟨by rfl, ?_⟩) (by assumption) ?_
                  rotate_left
                  focus (intro w hSw; unfold S20 at hSw; obtain ⟨a0, a1, a2, a3, a4, x0, x1, x2, x3, x4, x5, x6, x7, x8, x9, x10, x11, x12, x13, x14⟩ := hSw; go_simp; (try (with_reducible rfl)); done)
                  try go_simp
                  refine wpAnyH_done (by as_aux_lemma => kernel_rfl) ?_ _
                  go_wp2
                  go_meet
                  case rel => first | (have hh := HZa.out; clear hh; exact ⟨_, N, z, y, T1, rfl, rfl, rfl, H5.out.q HZ1.out (Below.refl _ _) (AdC.bq HZ2.out H5.out) (row_fr _ _ _) (setRow_heap _ _ _ _ _ _ HRo) (by have := HGX.out; omega) (by have := HGX.out; omega) (by have := HGX.out; omega)⟩) | exact ⟨_, N, z, y, T1, rfl, rfl, rfl, H5.out.q HDr.out (below_new _) (Bq.new (AdC.csb HDr.out.b H5.out).spc _ _) (row_fr _ _ _) (setRow_heap _ _ _ _ _ _ HRo) (by have := HGY.out; omega) (by have := HGY.out; omega) (by have := HGY.out; omega)⟩
                exact AllReadyH.nil
              exact AllReadyH.nil
            exact AllReadyH.nil
          exact AllReadyH.nil
        case rest =>
        obtain ⟨Yb, N, z, y, T1, rfl, rfl, rfl, hq⟩ := hcut
        obtain ⟨we, hwe⟩ : ∃ we, wc = we := ⟨_, rfl⟩
        rw [hwe] at hq ⊢
        clear hwe
        rcases hq with ⟨rfl, hrow, hYH, hYX, ν', hy, hp, hB, hdm⟩ | ⟨hz, hst⟩
        · have HE : Hid (we.heap[Yb]? = some (.cells #[.int .i64 (y 0), .int .i64 (y 1), .int .i64 (y 2), .int .i64 (y 3), .int .i64 (y 4), .int .i64 (y 5), .int .i64 (y 6), .int .i64 (y 7), .int .i64 (y 8), .int .i64 (y 9), .int .i64 (y 10), .int .i64 (y 11), .int .i64 (y 12), .int .i64 (y 13), .int .i64 (y 14)] 35 (0, 0)) ∧ Yb ≠ H ∧ Yb ≠ X) := ⟨hrow, hYH, hYX⟩
          have HY : Hid (y = withN x ν' ∧ AdP D T T1 n k x ν ν' N ∧ CsB w1 we D T1 n G X H tt x ν) := ⟨hy, hp, hB⟩
          have HRu : Hid (T.us.length ≤ 9 * r ∧ Shp ν ∧ (∀ p, ν p ≠ 0 → (T.c (ν p)).isSome = true ∧ (T.c (98 + ν p / 4096)).isSome = true) ∧ Dom T T1) := ⟨HR.out.us, HR.out.shp, HR.out.inn, hdm⟩
          clear hrow hYH hYX hy hp hB HR hdm
          go_upto_region 11 with (go_at_call 13; refine (HNu.out _).mono ?_; rintro e wq ⟨rfl, rfl⟩)
          have HGR : Hid (we.heap[X]? = some (.cells #[.int .i64 (x 0), .int .i64 (x 1), .int .i64 (x 2), .int .i64 (x 3), .int .i64 (x 4), .int .i64 (x 5), .int .i64 (x 6), .int .i64 (x 7), .int .i64 (x 8), .int .i64 (x 9), .int .i64 (x 10), .int .i64 (x 11), .int .i64 (x 12), .int .i64 (x 13), .int .i64 (x 14)] 35 (0, 0)) ∧ Yb ≠ H ∧ X < H ∧ Yb < we.heap.size ∧ X < we.heap.size) := ⟨HY.out.2.2.x.row, HE.out.2.1, HY.out.2.2.gx.2, heap_lt HE.out.1, heap_lt HY.out.2.2.x.row⟩
          obtain ⟨v0, st, w8, hme, hg8, w9, hes, hm9, hg9⟩ := has_entry (w := we.drew) (HY.out.2.2.h.hp rfl) hkb HY.out.2.1 HN.out.2
          have hes2 : (Instr.entryStore 36 (.map (some H)) (.int .i64 (st : Int)) (.int .i64 (N : Int))).run Tryz.prog w8 = .ok () w9 := hes
          clear hes
          have hSa : S15 y Yb we.drew := s15_of (w := we.drew) HE.out.1
          have hSb : S15 y Yb w8 := s15_of ((hg8.block Yb HGR.out.2.2.2.1 (fun e => HGR.out.2.1 (Option.some.inj e))).trans HE.out.1)
          have hr9 : w9.heap[Yb]? = some (.cells #[.int .i64 (y 0), .int .i64 (y 1), .int .i64 (y 2), .int .i64 (y 3), .int .i64 (y 4), .int .i64 (y 5), .int .i64 (y 6), .int .i64 (y 7), .int .i64 (y 8), .int .i64 (y 9), .int .i64 (y 10), .int .i64 (y 11), .int .i64 (y 12), .int .i64 (y 13), .int .i64 (y 14)] 35 (0, 0)) := (hg9.block Yb HGR.out.2.2.2.1 (fun e => HGR.out.2.1 (Option.some.inj e))).trans HE.out.1
          have hSc : S15 y Yb w9 := s15_of hr9
          have HX9 : Hid (w9.heap[X]? = some (.cells #[.int .i64 (x 0), .int .i64 (x 1), .int .i64 (x 2), .int .i64 (x 3), .int .i64 (x 4), .int .i64 (x 5), .int .i64 (x 6), .int .i64 (x 7), .int .i64 (x 8), .int .i64 (x 9), .int .i64 (x 10), .int .i64 (x 11), .int .i64 (x 12), .int .i64 (x 13), .int .i64 (x 14)] 35 (0, 0))) := (hg9.block X HGR.out.2.2.2.2 (fun e => by have := Option.some.inj e; have := HGR.out.2.2.1; omega)).trans HGR.out.1
          have hSd : S15 y Yb (w9.setRow X #[.int .i64 (y 0), .int .i64 (y 1), .int .i64 (y 2), .int .i64 (y 3), .int .i64 (y 4), .int .i64 (y 5), .int .i64 (y 6), .int .i64 (y 7), .int .i64 (y 8), .int .i64 (y 9), .int .i64 (y 10), .int .i64 (y 11), .int .i64 (y 12), .int .i64 (y 13), .int .i64 (y 14)]) := s15_of ((setRow_other w9 X Yb _ HE.out.2.2).trans hr9)
          have H89 : Hid (HasM w9 H ν' ∧ we.drew.grownBy w9 (some H)) := ⟨hm9, hg9⟩
          clear hm9 hg8 hg9 hr9
          refine wp_region_held_drew (S := S15 y Yb) (by as_aux_lemma => kernel_rfl) ?_ (fun hHeld => ?_)
          · (try dsimp only); first | (with_reducible exact hSa) | (with_reducible exact hSb) | (with_reducible exact hSc) | (with_reducible exact hSd)
          refine wpAnyH_take (i := 0) (v := ?_) rfl (by as_aux_lemma => kernel_rfl) (by as_aux_lemma => kernel_rfl) (by as_aux_lemma => kernel_rfl) (fun _ _ _ h => h) (Or.inl ⟨by rfl, ?_⟩) (by assumption) ?_
          rotate_left
          focus (intro w hSw; unfold S15 at hSw; obtain ⟨x0, x1, x2, x3, x4, x5, x6, x7, x8, x9, x10, x11, x12, x13, x14⟩ := hSw; go_simp; (try (with_reducible rfl)); done)
          try go_simp
          refine wpAnyH_take (i := 1) (v := ?_) rfl (by as_aux_lemma => kernel_rfl) (by as_aux_lemma => kernel_rfl) (by as_aux_lemma => kernel_rfl) (fun _ _ _ h => h) (Or.inl ⟨by rfl, ?_⟩) (by assumption) ?_
          rotate_left
          focus (intro w hSw; unfold S15 at hSw; obtain ⟨x0, x1, x2, x3, x4, x5, x6, x7, x8, x9, x10, x11, x12, x13, x14⟩ := hSw; go_simp; (try (with_reducible rfl)); done)
          try go_simp
          refine wpAnyH_take (i := 3) (v := ?_) rfl (by as_aux_lemma => kernel_rfl) (by as_aux_lemma => kernel_rfl) (by as_aux_lemma => kernel_rfl) (fun _ _ _ h => h) (Or.inl ⟨by rfl, ?_⟩) (by assumption) ?_
          rotate_left
          focus (intro w hSw; unfold S15 at hSw; obtain ⟨x0, x1, x2, x3, x4, x5, x6, x7, x8, x9, x10, x11, x12, x13, x14⟩ := hSw; go_simp; (try (with_reducible rfl)); done)
          try go_simp
          refine wpAnyH_take (i := 4) (v := ?_) rfl (by as_aux_lemma => kernel_rfl) (by as_aux_lemma => kernel_rfl) (by as_aux_lemma => kernel_rfl) (fun _ _ _ h => h) (Or.inl ⟨by rfl, ?_⟩) (by assumption) ?_
          rotate_left
          focus (intro w hSw; unfold S15 at hSw; obtain ⟨x0, x1, x2, x3, x4, x5, x6, x7, x8, x9, x10, x11, x12, x13, x14⟩ := hSw; go_simp; (try (with_reducible rfl)); done)
          try go_simp
          refine wpAnyH_ready (rs := [2]) (by as_aux_lemma => kernel_rfl) (by simp) ?_
          refine AllReadyH.cons rfl (fun K hK => ?_) ?_
          · (go_simp; go_at_call 10; refine (HIv.out _).mono ?_; rintro e wq ⟨rfl, rfl⟩; go_simp)
            refine hK.out _ _ ?_ (fun hHeld => ?_)
            · (try dsimp only); first | (with_reducible exact hSa) | (with_reducible exact hSb) | (with_reducible exact hSc) | (with_reducible exact hSd)
            clear hK K
            refine wpAnyH_ready (rs := [5]) (by as_aux_lemma => kernel_rfl) (by simp) ?_
            refine AllReadyH.cons rfl (fun K hK => ?_) ?_
            · go_simp
              refine hK.out _ _ ?_ (fun hHeld => ?_)
              · (try dsimp only); first | (with_reducible exact hSa) | (with_reducible exact hSb) | (with_reducible exact hSc) | (with_reducible exact hSd)
              clear hK K
              refine wpAnyH_take (i := 6) (v := ?_) rfl (by as_aux_lemma => kernel_rfl) (by as_aux_lemma => kernel_rfl) (by as_aux_lemma => kernel_rfl) (fun _ _ _ h => h) (Or.inl ⟨by rfl, ?_⟩) (by assumption) ?_
              rotate_left
              focus (intro w hSw; unfold S15 at hSw; obtain ⟨x0, x1, x2, x3, x4, x5, x6, x7, x8, x9, x10, x11, x12, x13, x14⟩ := hSw; go_simp; (try (with_reducible rfl)); done)
              try go_simp
              refine wpAnyH_ready (rs := [7]) (by as_aux_lemma => kernel_rfl) (by simp) ?_
              refine AllReadyH.cons rfl (fun K hK => ?_) ?_
              · go_simp
                refine hK.out _ _ ?_ (fun hHeld => ?_)
                · (try dsimp only); first | (with_reducible exact hSa) | (with_reducible exact hSb) | (with_reducible exact hSc) | (with_reducible exact hSd)
                clear hK K
                refine wpAnyH_ready (rs := [8]) (by as_aux_lemma => kernel_rfl) (by simp) ?_
                refine AllReadyH.cons rfl (fun K hK => ?_) ?_
                · (refine wp_store_row 35 _ _ rfl X #[.int .i64 (y 0), .int .i64 (y 1), .int .i64 (y 2), .int .i64 (y 3), .int .i64 (y 4), .int .i64 (y 5), .int .i64 (y 6), .int .i64 (y 7), .int .i64 (y 8), .int .i64 (y 9), .int .i64 (y 10), .int .i64 (y 11), .int .i64 (y 12), .int .i64 (y 13), .int .i64 (y 14)] rfl rfl 35 #[.int .i64 (x 0), .int .i64 (x 1), .int .i64 (x 2), .int .i64 (x 3), .int .i64 (x 4), .int .i64 (x 5), .int .i64 (x 6), .int .i64 (x 7), .int .i64 (x 8), .int .i64 (x 9), .int .i64 (x 10), .int .i64 (x 11), .int .i64 (x 12), .int .i64 (x 13), .int .i64 (x 14)] HX9.out szI rfl (oneC y) ?_)
                  refine hK.out _ _ ?_ (fun hHeld => ?_)
                  · (try dsimp only); first | (with_reducible exact hSa) | (with_reducible exact hSb) | (with_reducible exact hSc) | (with_reducible exact hSd)
                  clear hK K
                  refine wpAnyH_done (by as_aux_lemma => kernel_rfl) ?_ _
                  go_wp2
                  go_roundw
                  case rel => exact ⟨r + 1, T1, y, ν', by omega, by go_num, CtS.step HRu.out.1 HRu.out.2.1 HRu.out.2.2.1 HRu.out.2.2.2 hkb HY.out.2.1 HY.out.2.2 H89.out.2 H89.out.1 (row_fr _ _ _) (setRow_heap _ _ _ _ _ _ HX9.out) HY.out.1⟩
                  case measure => simp [intOf]; omega
                exact AllReadyH.nil
              exact AllReadyH.nil
            exact AllReadyH.nil
          exact AllReadyH.nil
        · have HQ : Hid (CtS w1 we D T1 n r G X H tt x ν) := hst
          clear hst HR
          obtain ⟨ZZ, hZ⟩ : ∃ ZZ : Int, (z : Int) = ZZ := ⟨_, rfl⟩
          have hZb : ZZ = 60 ∨ ZZ = 90 := by rcases hz with e | e <;> omega
          rw [hZ]
          have HNz : Hid (∀ wx, Calls Tryz.prog 13 #[.int .i64 ZZ] wx fun e' w' => e' = .returned (.int .i64 ZZ) ∧ wx = w') := fun wx => numQ wx ZZ (by rcases hZb with e | e <;> omega)
          clear hZ hz
          rcases hZb with rfl | rfl
          · go_wp2_with (go_at_call 13; refine (HNz.out _).mono ?_; rintro e wq ⟨rfl, rfl⟩)
            go_meet
            case rel => exact ⟨r, T1, x, ν, by omega, HQ.out⟩
          · go_wp2_with (go_at_call 13; refine (HNz.out _).mono ?_; rintro e wq ⟨rfl, rfl⟩)
            go_meet
            case rel => exact ⟨r, T1, x, ν, by omega, HQ.out⟩
      · have hlt : ¬ (r : Int) < (m : Int) := by omega
        go_wp2
        go_meet
        case rel => exact ⟨r, T, x, ν, by omega, HR.out⟩
  case rest =>
  clear H8 T
  obtain ⟨r, T, x, ν, hr2, hst⟩ := hcut
  have HR : Hid (CtS w1 wc D T n 200 G X H tt x ν) := ⟨hst.b, hst.wd, hst.shp, by have := hst.us; omega, hst.inn⟩
  clear hst hr2
  obtain ⟨wl, hwl⟩ : ∃ wl, wc = wl := ⟨_, rfl⟩
  rw [hwl] at HR ⊢
  clear hwl wc
  have hc0 : wl.cell? ⟨P + 1, 0, none⟩ = some (.int .i64 c0) := by
    have h1 := cell_of_row _ _ 0 _ _ _ H1.out.2
    exact (HR.out.b.spc.ses.bel.cell (block_lt_of_cell h1)).trans h1
  have hc1 : wl.cell? ⟨P + 1, 1, none⟩ = some (.int .i64 c1) := by
    have h1 := cell_of_row _ _ 1 _ _ _ H1.out.2
    exact (HR.out.b.spc.ses.bel.cell (block_lt_of_cell h1)).trans h1
  obtain ⟨q0, hq0⟩ : ∃ q0, ixQ c0 = q0 := ⟨_, rfl⟩
  obtain ⟨q1, hq1⟩ : ∃ q1, ixQ c1 = q1 := ⟨_, rfl⟩
  have hb0 : q0 < 16522 := by rw [← hq0]; exact ixQ_bd c0
  have hb1 : q1 < 16522 := by rw [← hq1]; exact ixQ_bd c1
  have HI0 : Hid (∀ wx, Calls Tryz.prog 10 #[.int .i64 c0] wx fun e w' => e = .returned (.int .i64 (q0 : Int)) ∧ wx = w') := fun wx => by have := HIx.out wx c0; rw [hq0] at this; exact this
  have HI1 : Hid (∀ wx, Calls Tryz.prog 10 #[.int .i64 c1] wx fun e w' => e = .returned (.int .i64 (q1 : Int)) ∧ wx = w') := fun wx => by have := HIx.out wx c1; rw [hq1] at this; exact this
  clear hq0 hq1
  go_upto_region 13 with (fail)
  go_cut [18, 19] (fun s18 s19 wx => s18 = .int .i64 (q0 : Int) ∧ s19 = .int .i64 (q1 : Int) ∧ Below wl.heap.size wl wx)
  case first => as_aux_lemma =>
    go_region_held3 (fun w' => w'.cell? ⟨P + 1, 0, none⟩ = some (.int .i64 c0) ∧ w'.cell? ⟨P + 1, 1, none⟩ = some (.int .i64 c1)) (go_keep) (first
      | (go_at_call 10; refine (HI0.out _).mono ?_; rintro e wq ⟨rfl, rfl⟩)
      | (go_at_call 10; refine (HI1.out _).mono ?_; rintro e wq ⟨rfl, rfl⟩)
      | fail)
    all_goals go_wp2
    all_goals go_meet
    all_goals exact ⟨rfl, rfl, (Below.refl _ _).drew⟩
  case rest =>
  obtain ⟨rfl, rfl, hbd⟩ := hcut
  obtain ⟨wd, hwd⟩ : ∃ wd, wc = wd := ⟨_, rfl⟩
  rw [hwd] at hbd ⊢
  clear hwd hc0 hc1 wc
  have HR2 : Hid (CtS w1 wd D T n 200 G X H tt x ν) := HR.out.on hbd
  clear hbd HR
  go_upto_if 97 with (fail)
  go_cut [18, 19] (fun s18 s19 wx => ∃ lo hi : Nat, lo ≤ hi ∧ hi < 16522 ∧ s18 = .int .i64 (lo : Int) ∧ s19 = .int .i64 (hi : Int) ∧ wd = wx)
  case first => as_aux_lemma =>
    by_cases hq : q1 < q0
    · have hq' : (q1 : Int) < (q0 : Int) := by omega
      go_wp2
      go_meet
      case rel => exact ⟨q1, q0, by omega, by omega, rfl, rfl, rfl⟩
    · have hq' : ¬ (q1 : Int) < (q0 : Int) := by omega
      go_wp2
      go_meet
      case rel => exact ⟨q0, q1, by omega, by omega, rfl, rfl, rfl⟩
  case rest =>
  obtain ⟨lo, hi, hlh, hhb, rfl, rfl, rfl⟩ := hcut
  clear hb0 hb1 HI0 HI1
  clear q0 q1
  obtain ⟨mk, hmk⟩ : ∃ mk, T.us.length = mk := ⟨_, rfl⟩
  have HMk : Hid (Calls Tryz.prog 22 #[.pointer (some ⟨tt, 0, none⟩)] wd fun e w' => e = .returned (.tuple #[.int .i64 (mk : Int), .int .i64 0]) ∧ Below wd.heap.size wd w') := by
    have := mark_any wd T HR2.out.b.spc.ses.tx
    rw [HR2.out.b.t, hmk] at this
    exact this
  have HMm : Hid (T.us.length = mk) := hmk
  clear hmk
  go_upto_region 17 with (go_at_call 22; refine HMk.out.mono ?_; rintro e we ⟨rfl, h1⟩; have HB : Hid (Below wd.heap.size wd we) := h1; clear h1 HMk)
  have HR3 : Hid (CtS w1 we D T n 200 G X H tt x ν) := HR2.out.on HB.out
  clear HR2 HB
  go_upto_region 19 with (go_at_call 13; refine (HNu.out _).mono ?_; rintro e wq ⟨rfl, rfl⟩)
  obtain ⟨z0, z1, z2, z3, z4⟩ := HR3.out.b.g.c5.cells
  obtain ⟨x0, x1, x2, x3, x4, x5, x6, x7, x8, x9, x10, x11, x12, x13, x14⟩ := HR3.out.b.x.c15
  have HCu : Hid (Calls Tryz.prog 18 #[.pointer (some ⟨tt, 0, none⟩), .agg #[.int .i64 (n : Int), .int .i64 98, .int .i64 (gI n), .int .i64 (gD n), .int .i64 (gC n)], .agg #[.int .i64 (x 0), .int .i64 (x 1), .int .i64 (x 2), .int .i64 (x 3), .int .i64 (x 4), .int .i64 (x 5), .int .i64 (x 6), .int .i64 (x 7), .int .i64 (x 8), .int .i64 (x 9), .int .i64 (x 10), .int .i64 (x 11), .int .i64 (x 12), .int .i64 (x 13), .int .i64 (x 14)], .int .i64 (lo : Int)] we fun e w' => ∃ (z : Nat) (y : Nat → Int) (T' : Tx), e = .returned (.tuple #[.agg #[.int .i64 (y 0), .int .i64 (y 1), .int .i64 (y 2), .int .i64 (y 3), .int .i64 (y 4), .int .i64 (y 5), .int .i64 (y 6), .int .i64 (y 7), .int .i64 (y 8), .int .i64 (y 9), .int .i64 (y 10), .int .i64 (y 11), .int .i64 (y 12), .int .i64 (y 13), .int .i64 (y 14)], .int .i64 (z : Int)]) ∧ CuR w1 we w' D T T' n lo x ν y z) := cutC w1 we D T n HR3.out.b.spc (HT.out.on H1.out.1) HN.out x ν HR3.out.wd lo (by omega) (by have := HR3.out.us; omega) tt HR3.out.b.t
  go_upto_region 20 with (go_at_call 18; refine HCu.out.mono ?_; rintro e wf ⟨z, y, T1, rfl, h1⟩; have HD : Hid (CuR w1 we wf D T T1 n lo x ν y z) := h1; clear h1 HCu)
  clear z0 z1 z2 z3 z4 x0 x1 x2 x3 x4 x5 x6 x7 x8 x9 x10 x11 x12 x13 x14
  obtain ⟨ZZ, hZ⟩ : ∃ ZZ : Int, (z : Int) = ZZ := ⟨_, rfl⟩
  have HZ : Hid ((z : Int) = ZZ) := hZ
  rw [hZ]
  clear hZ
  obtain ⟨Ob, hOb⟩ : ∃ Ob, wf.heap.size = Ob := ⟨_, rfl⟩
  obtain ⟨wg, hwg⟩ : ∃ wg, wf.alloc (.cells #[.int .i64 (y 0), .int .i64 (y 1), .int .i64 (y 2), .int .i64 (y 3), .int .i64 (y 4), .int .i64 (y 5), .int .i64 (y 6), .int .i64 (y 7), .int .i64 (y 8), .int .i64 (y 9), .int .i64 (y 10), .int .i64 (y 11), .int .i64 (y 12), .int .i64 (y 13), .int .i64 (y 14)] 35) = wg := ⟨_, rfl⟩
  have HE : Hid (Below wf.heap.size wf wg ∧ wf.heap.size = Ob ∧ wf.alloc (.cells #[.int .i64 (y 0), .int .i64 (y 1), .int .i64 (y 2), .int .i64 (y 3), .int .i64 (y 4), .int .i64 (y 5), .int .i64 (y 6), .int .i64 (y 7), .int .i64 (y 8), .int .i64 (y 9), .int .i64 (y 10), .int .i64 (y 11), .int .i64 (y 12), .int .i64 (y 13), .int .i64 (y 14)] 35) = wg) := ⟨by rw [← hwg]; exact below_new _, hOb, hwg⟩
  rw [hwg, hOb]
  clear hwg hOb
  rcases HD.out with ⟨hz0, hy, hp, hg, hx⟩ | ⟨hz0, _, _, hbig⟩
  rotate_left
  · have hZ0 : ZZ = 60 := by have := HZ.out; omega
    subst hZ0
    have HQ : Hid (Below w1.heap.size w1 wg) := ((HR3.out.b.big hbig).on HE.out.1).spc.ses.bel
    clear hz0 hbig HD HR3
    go_wp2_with (go_at_call 13; refine (HN6.out _).mono ?_; rintro e wq ⟨rfl, rfl⟩)
    go_ret
    exact ⟨rfl, H1.out.1.trans (HQ.out.mono H1.out.1.size)⟩
  have hZ0 : ZZ = 0 := by have := HZ.out; omega
  subst hZ0
  have HO : Hid (y = withN x (cvP ν lo) ∧ CtP D T T1 n x ν lo ∧ (∃ m, Ext T T1 m)) := ⟨hy, hp, hx⟩
  have HTT : Hid (Wd D T n x ν ∧ Shp ν ∧ T.us.length ≤ 1800 ∧ (∀ p, ν p ≠ 0 → (T.c (ν p)).isSome = true ∧ (T.c (98 + ν p / 4096)).isSome = true) ∧ (lst T.c n).length ≤ 96 ∧ COk T.c n ∧ ∀ i, i < n → (tv D T i).length = 512 ∧ ∀ j, 0 ≤ nth (tv D T i) j ∧ nth (tv D T i) j < 256) := ⟨HR3.out.wd, HR3.out.shp, by have := HR3.out.us; omega, HR3.out.inn, by have := HR3.out.b.spc.ses.tx.cnt; rw [HR3.out.b.spc.nb] at this; exact this, by have := HR3.out.b.spc.ses.tx.ok; rw [HR3.out.b.spc.nb] at this; exact this, HR3.out.b.spc.ok⟩
  have HB1 : Hid (CsB w1 wg D T1 n G X H tt x ν ∧ Bq w1 wg D T1 Ob (.cells #[.int .i64 (y 0), .int .i64 (y 1), .int .i64 (y 2), .int .i64 (y 3), .int .i64 (y 4), .int .i64 (y 5), .int .i64 (y 6), .int .i64 (y 7), .int .i64 (y 8), .int .i64 (y 9), .int .i64 (y 10), .int .i64 (y 11), .int .i64 (y 12), .int .i64 (y 13), .int .i64 (y 14)] 35 (0, 0))) := by
    refine ⟨(HR3.out.b.gon hg).on HE.out.1, ?_⟩
    have := Bq.new hg.spc #[.int .i64 (y 0), .int .i64 (y 1), .int .i64 (y 2), .int .i64 (y 3), .int .i64 (y 4), .int .i64 (y 5), .int .i64 (y 6), .int .i64 (y 7), .int .i64 (y 8), .int .i64 (y 9), .int .i64 (y 10), .int .i64 (y 11), .int .i64 (y 12), .int .i64 (y 13), .int .i64 (y 14)] 35
    rw [HE.out.2.2, HE.out.2.1] at this
    exact this
  clear hz0 hy hp hg hx HD HR3 HE HZ
  go_upto_region 22 with (go_at_call 13; refine (HNu.out _).mono ?_; rintro e wq ⟨rfl, rfl⟩)
  as_aux_lemma =>
  obtain ⟨Lw, hLw⟩ : ∃ Lw, (lst T1.c n).length = Lw := ⟨_, rfl⟩
  have HWr : Hid (Calls Tryz.prog 16 #[.pointer (some ⟨tt, 0, none⟩)] wg fun e w' => ∃ a c, e = .returned (.slice a Lw c) ∧ NuO w1 w' D T1 a Lw (wrN T1.c n) ∧ Below wg.heap.size wg w') := by
    have h9 := writtenQ w1 wg D T1 n HB1.out.1.spc
    rw [HB1.out.1.t, hLw] at h9
    exact h9
  have HL : Hid ((lst T1.c n).length = Lw) := hLw
  have hLb : Lw ≤ 100000 := by have := lst_le T1.c n; have := HN.out; omega
  have HK1 : Hid (COk T1.c n) := by have := HB1.out.1.spc.ses.tx.ok; rw [HB1.out.1.spc.nb] at this; exact this
  clear hLw
  go_upto_region 23 with (go_at_call 16; refine HWr.out.mono ?_; rintro e wh ⟨aw, cw, rfl, h1, h2⟩; have HW : Hid (NuO w1 wh D T1 aw Lw (wrN T1.c n) ∧ Below wg.heap.size wg wh) := ⟨h1, h2⟩; clear h1 h2 HWr)
  have HB2 : Hid (CsB w1 wh D T1 n G X H tt x ν ∧ Bq w1 wh D T1 Ob (.cells #[.int .i64 (y 0), .int .i64 (y 1), .int .i64 (y 2), .int .i64 (y 3), .int .i64 (y 4), .int .i64 (y 5), .int .i64 (y 6), .int .i64 (y 7), .int .i64 (y 8), .int .i64 (y 9), .int .i64 (y 10), .int .i64 (y 11), .int .i64 (y 12), .int .i64 (y 13), .int .i64 (y 14)] 35 (0, 0)) ∧ NuO w1 wh D T1 aw Lw (wrN T1.c n)) := ⟨HB1.out.1.on HW.out.2, HB1.out.2.on HW.out.2, HW.out.1⟩
  clear HB1 HW
  obtain ⟨SS, hSS⟩ : ∃ SS : Nat → ByteArray, (fun i => strOfNums (tv D T1 (wrN T1.c n i).toNat)) = SS := ⟨_, rfl⟩
  have HSS : Hid (∀ i, strOfNums (tv D T1 (wrN T1.c n i).toNat) = SS i) := fun i => by rw [← hSS]
  clear hSS
  go_upto_region 24 with (fail)
  go_upto_block 2 with (fail)
  go_cut [25] (fun s25 wx => ∃ vb : Value, vb = s25 ∧ TxR wh wx vb Lw SS)
  case first => as_aux_lemma =>
    go_wp2_with (fail)
    go_loopw [25, 126] (fun s25 s126 wr => ∃ (j : Nat) (vb : Value), j ≤ Lw ∧ s126 = .int .i64 (j : Int) ∧ vb = s25 ∧ TxR wh wr vb j SS) (fun _ s _ => Lw - (intOf s).toNat)
    case atStart => exact ⟨0, _, Nat.zero_le _, rfl, rfl, TxR.nil wh SS⟩
    case round =>
      obtain ⟨j, vb, hj, rfl, rfl, hR⟩ := hrel
      obtain ⟨wA, hwA⟩ : ∃ wA, wr = wA := ⟨_, rfl⟩
      rw [hwA] at hR ⊢
      clear hwA wr
      by_cases hlt : j < Lw
      · have hlt' : (j : Int) < (Lw : Int) := by omega
        obtain ⟨i, hi98, hin, hiw⟩ := wr_at (by have := HB2.out.1.spc.ses.tx.ok; rw [HB2.out.1.spc.nb] at this; exact this) (show j < (lst T1.c n).length by rw [HL.out]; exact hlt)
        obtain ⟨g, rfl, hcell⟩ : ∃ g, aw = some ⟨g, 0, none⟩ ∧ wA.cell? ⟨g, j, none⟩ = some (.int .i64 (i : Int)) := by
          rcases HB2.out.2.2 with e | ⟨g, e, hc, ho⟩
          · omega
          · have h5 := hc j hlt
            rw [Nat.zero_add] at h5
            exact ⟨g, e, by rw [hR.bel.cell (p := ⟨g, j, none⟩) ho.lt, h5, hiw]⟩
        have HRd : Hid (Calls Tryz.prog 23 #[.pointer (some ⟨tt, 0, none⟩), .int .i64 (i : Int)] wA fun e w' => ∃ g cap, e = .returned (.tuple #[.slice (some ⟨g, 0, none⟩) 512 cap, .int .i64 0]) ∧ wA.heap.size ≤ g ∧ OwnB w' g cap (tv D T1 i) ∧ Below wA.heap.size wA w') := by
          have := (HB2.out.1.spc.on hR.bel).read i hin
          rw [HB2.out.1.t] at this
          exact this
        have HSi : Hid (strOfNums (tv D T1 i) = SS j ∧ (tv D T1 i).length = 512) := by
          have h1 := HSS.out j
          rw [hiw] at h1
          exact ⟨h1, (HB2.out.1.spc.ok i hin).1⟩
        have HRR : Hid (TxR wh wA vb j SS) := hR
        clear hR hi98 hin hiw
        go_upto_region 28 with (go_at_call 23; refine HRd.out.mono ?_; rintro e wB ⟨gb, cb, rfl, _, h2, h3⟩; have HBb : Hid (OwnB wB gb cb (tv D T1 i) ∧ Below wA.heap.size wA wB) := ⟨h2, h3⟩; clear h2 h3 HRd)
        clear hcell
        have hcv : (convert 63 9 (.slice (some ⟨gb, 0, none⟩) 512 cb)).run Tryz.prog wB = .ok (.string (SS j)) wB := by
          rw [← HSi.out.1]; exact str_opt HBb.out.1.bytes HSi.out.2
        have HRB : Hid (TxR wh wB vb j SS) := HRR.out.on HBb.out.2
        clear HRR HBb
        obtain ⟨a0, c0', hvb, _⟩ := HRB.out.cells
        subst hvb
        go_wp2_with (at_builtin; refine wp_strC rfl (.tmp 136) (.tmp 139) rfl _ j _ rfl rfl (SS j) HRB.out.row (by omega) ?_; intro b cap w' h1 h2 h3; have HRC : Hid (TxR wh w' (.slice (some ⟨b, 0, none⟩) (j + 1) cap) (j + 1) SS) := HRB.out.add h1 h2 h3; clear h1 h2 h3)
        go_roundw
        case rel => exact ⟨j + 1, _, by omega, (by go_num), rfl, HRC.out⟩
        case measure => simp [intOf]; omega
      · have hlt' : ¬ (j : Int) < (Lw : Int) := by omega
        have hjL : j = Lw := by omega
        subst hjL
        go_wp2
        go_meet
        case rel => exact ⟨vb, rfl, hR⟩
  case rest =>
  obtain ⟨vb, rfl, hTx⟩ := hcut
  obtain ⟨wi, hwi⟩ : ∃ wi, wc = wi := ⟨_, rfl⟩
  rw [hwi] at hTx ⊢
  clear hwi wc
  obtain ⟨ab, cb, rfl, hcb⟩ := hTx.cells
  have HB3 : Hid (CsX w1 wi D T1 n G X H tt x ν Ob y aw Lw (wrN T1.c n) ab SS) := ⟨HB2.out.1.on hTx.bel, HB2.out.2.1.on hTx.bel, HB2.out.2.2.mv (SMv.on hTx.bel), hcb.imp id (fun ⟨b, e1, e2, e3, e4⟩ => ⟨b, e1, e4, Out.of HB2.out.1.spc e2 e3⟩)⟩
  clear hTx hcb HB2
  as_aux_lemma =>
  have HWy : Hid (Wd D T1 n y (cvP ν lo)) := by rw [HO.out.1]; exact HO.out.2.1.wd
  obtain ⟨z0, z1, z2, z3, z4⟩ := HB3.out.b.g.c5.cells
  obtain ⟨yy0, yy1, yy2, yy3, yy4, yy5, yy6, yy7, yy8, yy9, yy10, yy11, yy12, yy13, yy14⟩ := HB3.out.o.c15
  have HCu : Hid (Calls Tryz.prog 18 #[.pointer (some ⟨tt, 0, none⟩), .agg #[.int .i64 (n : Int), .int .i64 98, .int .i64 (gI n), .int .i64 (gD n), .int .i64 (gC n)], .agg #[.int .i64 (y 0), .int .i64 (y 1), .int .i64 (y 2), .int .i64 (y 3), .int .i64 (y 4), .int .i64 (y 5), .int .i64 (y 6), .int .i64 (y 7), .int .i64 (y 8), .int .i64 (y 9), .int .i64 (y 10), .int .i64 (y 11), .int .i64 (y 12), .int .i64 (y 13), .int .i64 (y 14)], .int .i64 (lo : Int)] wi fun e w' => ∃ (z : Nat) (y2 : Nat → Int) (T' : Tx), e = .returned (.tuple #[.agg #[.int .i64 (y2 0), .int .i64 (y2 1), .int .i64 (y2 2), .int .i64 (y2 3), .int .i64 (y2 4), .int .i64 (y2 5), .int .i64 (y2 6), .int .i64 (y2 7), .int .i64 (y2 8), .int .i64 (y2 9), .int .i64 (y2 10), .int .i64 (y2 11), .int .i64 (y2 12), .int .i64 (y2 13), .int .i64 (y2 14)], .int .i64 (z : Int)]) ∧ CuR w1 wi w' D T1 T' n lo y (cvP ν lo) y2 z) := cutC w1 wi D T1 n HB3.out.b.spc (HT.out.on H1.out.1) HN.out y (cvP ν lo) HWy.out lo (by omega) (by have := HO.out.2.1.us; have := HTT.out.2.2.1; omega) tt HB3.out.b.t
  go_upto_region 31 with (go_at_call 18; refine HCu.out.mono ?_; rintro e wj ⟨z, y2, T2, rfl, h1⟩; have HD : Hid (CuR w1 wi wj D T1 T2 n lo y (cvP ν lo) y2 z) := h1; clear h1 HCu)
  clear z0 z1 z2 z3 z4 yy0 yy1 yy2 yy3 yy4 yy5 yy6 yy7 yy8 yy9 yy10 yy11 yy12 yy13 yy14
  obtain ⟨ZZ, hZ⟩ : ∃ ZZ : Int, (z : Int) = ZZ := ⟨_, rfl⟩
  have HG : Hid (z = 0 ∧ y2 = y ∧ CtP D T1 T2 n y (cvP ν lo) lo ∧ Gon w1 wi wj D T1 T2 n (fun _ => False) ∧ ∃ m, Ext T1 T2 m) := by
    rcases HD.out with ⟨h0, h1, h2, h3, h4⟩ | ⟨_, _, h3, _⟩
    · refine ⟨h0, ?_, h2, h3, h4⟩
      rw [h1, cv_cv (Nat.le_refl lo), HO.out.1, withN_two]
    · exact absurd h3 (not_notIn HTT.out.2.2.2.1 HO.out.2.1.dom)
  have hZ0 : ZZ = 0 := by have := HG.out.1; omega
  rw [hZ, hZ0]
  clear hZ hZ0 HD
  obtain ⟨Pb, hPb⟩ : ∃ Pb, wj.heap.size = Pb := ⟨_, rfl⟩
  obtain ⟨wk, hwk⟩ : ∃ wk, wj.alloc (.cells #[.int .i64 (y2 0), .int .i64 (y2 1), .int .i64 (y2 2), .int .i64 (y2 3), .int .i64 (y2 4), .int .i64 (y2 5), .int .i64 (y2 6), .int .i64 (y2 7), .int .i64 (y2 8), .int .i64 (y2 9), .int .i64 (y2 10), .int .i64 (y2 11), .int .i64 (y2 12), .int .i64 (y2 13), .int .i64 (y2 14)] 35) = wk := ⟨_, rfl⟩
  have HE : Hid (Below wj.heap.size wj wk ∧ wk.heap[Pb]? = some (.cells #[.int .i64 (y2 0), .int .i64 (y2 1), .int .i64 (y2 2), .int .i64 (y2 3), .int .i64 (y2 4), .int .i64 (y2 5), .int .i64 (y2 6), .int .i64 (y2 7), .int .i64 (y2 8), .int .i64 (y2 9), .int .i64 (y2 10), .int .i64 (y2 11), .int .i64 (y2 12), .int .i64 (y2 13), .int .i64 (y2 14)] 35 (0, 0))) := ⟨by rw [← hwk]; exact below_new _, by rw [← hwk, ← hPb]; exact heap_alloc_new _ _⟩
  rw [hwk, hPb]
  clear hwk hPb
  have HB4 : Hid (CsX w1 wk D T2 n G X H tt x ν Ob y aw Lw (wrN T1.c n) ab SS) := (HB3.out.gon HG.out.2.2.2.1).on HE.out.1
  have HEx : Hid (∃ m, Ext T T2 m) := by
    obtain ⟨m1, h1⟩ := HO.out.2.2
    obtain ⟨m2, h2⟩ := HG.out.2.2.2.2
    exact ⟨_, h1.trans h2⟩
  have EN : ∀ wx, (binOp .neq 35 (.agg #[.int .i64 (y2 0), .int .i64 (y2 1), .int .i64 (y2 2), .int .i64 (y2 3), .int .i64 (y2 4), .int .i64 (y2 5), .int .i64 (y2 6), .int .i64 (y2 7), .int .i64 (y2 8), .int .i64 (y2 9), .int .i64 (y2 10), .int .i64 (y2 11), .int .i64 (y2 12), .int .i64 (y2 13), .int .i64 (y2 14)]) (.agg #[.int .i64 (y 0), .int .i64 (y 1), .int .i64 (y 2), .int .i64 (y 3), .int .i64 (y 4), .int .i64 (y 5), .int .i64 (y 6), .int .i64 (y 7), .int .i64 (y 8), .int .i64 (y 9), .int .i64 (y 10), .int .i64 (y 11), .int .i64 (y 12), .int .i64 (y 13), .int .i64 (y 14)])).run Tryz.prog wx = .ok (.bool false) wx := fun wx => by
    have h9 := neqI wx y2 y
    rw [smB_iff.2 (fun i _ => by rw [HG.out.2.1])] at h9
    exact h9
  have HW2 : Hid (Calls Tryz.prog 16 #[.pointer (some ⟨tt, 0, none⟩)] wk fun e w' => ∃ a c, e = .returned (.slice a Lw c) ∧ NuO w1 w' D T2 a Lw (wrN T1.c n) ∧ Below wk.heap.size wk w') := by
    have h9 := writtenQ w1 wk D T2 n HB4.out.b.spc
    have ok1 := HB3.out.b.spc.ses.tx.ok
    have ok2 := HB4.out.b.spc.ses.tx.ok
    rw [HB3.out.b.spc.nb] at ok1
    rw [HB4.out.b.spc.nb] at ok2
    obtain ⟨e1, e2⟩ := wr_dom HG.out.2.2.1 (fun p => gone_again) ok1 ok2
    have e3 : (fun i => ((lst T2.c n).map Bk.n).getD i 0) = wrN T1.c n := e2
    rw [HB4.out.b.t, e3, e1, HL.out] at h9
    exact h9
  obtain ⟨yy0, yy1, yy2, yy3, yy4, yy5, yy6, yy7, yy8, yy9, yy10, yy11, yy12, yy13, yy14⟩ := HB4.out.o.c15
  have hyc := fun j => cell_of_row _ _ j _ _ _ HE.out.2
  have y0 := hyc 0
  have y1 := hyc 1
  have y2 := hyc 2
  have y3 := hyc 3
  have y4 := hyc 4
  have y5 := hyc 5
  have y6 := hyc 6
  have y7 := hyc 7
  have y8 := hyc 8
  have y9 := hyc 9
  have y10 := hyc 10
  have y11 := hyc 11
  have y12 := hyc 12
  have y13 := hyc 13
  have y14 := hyc 14
  clear hyc
  go_upto_region 33 with (first
    | (go_at_call 13; refine (HNu.out _).mono ?_; rintro e wq ⟨rfl, rfl⟩)
    | (go_at_call 16; refine HW2.out.mono ?_; rintro e wm ⟨a2, c2, rfl, h1, h2⟩; have HW3 : Hid (NuO w1 wm D T2 a2 Lw (wrN T1.c n) ∧ Below wk.heap.size wk wm) := ⟨h1, h2⟩; clear h1 h2 HW2)
    | (go_at_call 19; refine (sameQ wm a2 aw Lw c2 cw (wrN T1.c n) HW3.out.1.num ((HB4.out.nu.mv (SMv.on HW3.out.2)).num) hLb).mono ?_; rintro e wn ⟨rfl, h1⟩; have HS : Hid (Below wk.heap.size wk wn) := HW3.out.2.trans (h1.mono HW3.out.2.size); clear h1))
  clear yy0 yy1 yy2 yy3 yy4 yy5 yy6 yy7 yy8 yy9 yy10 yy11 yy12 yy13 yy14 y0 y1 y2 y3 y4 y5 y6 y7 y8 y9 y10 y11 y12 y13 y14 EN
  have HB5 : Hid (CsX w1 wn D T2 n G X H tt x ν Ob y aw Lw (wrN T1.c n) ab SS) := HB4.out.on HS.out
  clear HB4 HB3 HS HW3 HE HG HWy
  as_aux_lemma =>
  have HBk : Hid (Calls Tryz.prog 24 #[.pointer (some ⟨tt, 0, none⟩), .int .i64 (mk : Int)] wn fun e w' => e = .returned (.int .i64 0) ∧ ∃ T2', Spc w1 w' D T2' n ∧ SMv (fun _ => False) wn T2 w' T2' ∧ T2'.c = T.c ∧ T2'.us = T.us) := backC w1 wn D T T2 n HB5.out.b.spc HEx.out mk HMm.out HTT.out.2.2.2.2.1 HTT.out.2.2.2.2.2.2 tt HB5.out.b.t
  go_upto_region 34 with (go_at_call 24; refine HBk.out.mono ?_; rintro e wo ⟨rfl, T3, h1, h2, h3, h4⟩; have HK : Hid (Spc w1 wo D T3 n ∧ SMv (fun _ => False) wn T2 wo T3 ∧ T3.c = T.c ∧ T3.us = T.us) := ⟨h1, h2, h3, h4⟩; clear h1 h2 h3 h4 HBk)
  have HB6 : Hid (CsX w1 wo D T3 n G X H tt x ν Ob y aw Lw (wrN T1.c n) ab SS) := HB5.out.mv HK.out.1 HK.out.2.1
  have H3c : Hid (T3.c = T.c ∧ T3.us.length ≤ 1800) := ⟨HK.out.2.2.1, by rw [HK.out.2.2.2]; exact HTT.out.2.2.1⟩
  clear HB5 HK HEx
  obtain ⟨z0, z1, z2, z3, z4⟩ := HB6.out.b.g.c5.cells
  obtain ⟨x0, x1, x2, x3, x4, x5, x6, x7, x8, x9, x10, x11, x12, x13, x14⟩ := HB6.out.b.x.c15
  have HCu : Hid (Calls Tryz.prog 18 #[.pointer (some ⟨tt, 0, none⟩), .agg #[.int .i64 (n : Int), .int .i64 98, .int .i64 (gI n), .int .i64 (gD n), .int .i64 (gC n)], .agg #[.int .i64 (x 0), .int .i64 (x 1), .int .i64 (x 2), .int .i64 (x 3), .int .i64 (x 4), .int .i64 (x 5), .int .i64 (x 6), .int .i64 (x 7), .int .i64 (x 8), .int .i64 (x 9), .int .i64 (x 10), .int .i64 (x 11), .int .i64 (x 12), .int .i64 (x 13), .int .i64 (x 14)], .int .i64 (hi : Int)] wo fun e w' => ∃ (z : Nat) (y3 : Nat → Int) (T' : Tx), e = .returned (.tuple #[.agg #[.int .i64 (y3 0), .int .i64 (y3 1), .int .i64 (y3 2), .int .i64 (y3 3), .int .i64 (y3 4), .int .i64 (y3 5), .int .i64 (y3 6), .int .i64 (y3 7), .int .i64 (y3 8), .int .i64 (y3 9), .int .i64 (y3 10), .int .i64 (y3 11), .int .i64 (y3 12), .int .i64 (y3 13), .int .i64 (y3 14)], .int .i64 (z : Int)]) ∧ CuR w1 wo w' D T3 T' n hi x ν y3 z) := cutC w1 wo D T3 n HB6.out.b.spc (HT.out.on H1.out.1) HN.out x ν (wd_same H3c.out.1 HTT.out.1) hi hhb (by have := H3c.out.2; omega) tt HB6.out.b.t
  go_upto_region 35 with (go_at_call 18; refine HCu.out.mono ?_; rintro e wp ⟨zf, y3, T4, rfl, h1⟩; have HD3 : Hid (CuR w1 wo wp D T3 T4 n hi x ν y3 zf) := h1; clear h1 HCu)
  clear z0 z1 z2 z3 z4 x0 x1 x2 x3 x4 x5 x6 x7 x8 x9 x10 x11 x12 x13 x14
  obtain ⟨Z3, hZ3⟩ : ∃ Z3 : Int, (zf : Int) = Z3 := ⟨_, rfl⟩
  have HZ3 : Hid ((zf : Int) = Z3) := hZ3
  rw [hZ3]
  clear hZ3
  obtain ⟨Fb, hFb⟩ : ∃ Fb, wp.heap.size = Fb := ⟨_, rfl⟩
  obtain ⟨wq1, hwq⟩ : ∃ wq1, wp.alloc (.cells #[.int .i64 (y3 0), .int .i64 (y3 1), .int .i64 (y3 2), .int .i64 (y3 3), .int .i64 (y3 4), .int .i64 (y3 5), .int .i64 (y3 6), .int .i64 (y3 7), .int .i64 (y3 8), .int .i64 (y3 9), .int .i64 (y3 10), .int .i64 (y3 11), .int .i64 (y3 12), .int .i64 (y3 13), .int .i64 (y3 14)] 35) = wq1 := ⟨_, rfl⟩
  have HB7 : Hid (CsX w1 wq1 D T4 n G X H tt x ν Ob y aw Lw (wrN T1.c n) ab SS ∧ Bq w1 wq1 D T4 Fb (.cells #[.int .i64 (y3 0), .int .i64 (y3 1), .int .i64 (y3 2), .int .i64 (y3 3), .int .i64 (y3 4), .int .i64 (y3 5), .int .i64 (y3 6), .int .i64 (y3 7), .int .i64 (y3 8), .int .i64 (y3 9), .int .i64 (y3 10), .int .i64 (y3 11), .int .i64 (y3 12), .int .i64 (y3 13), .int .i64 (y3 14)] 35 (0, 0))) := by
    have hb : Below wp.heap.size wp wq1 := by rw [← hwq]; exact below_new _
    have h1 := HD3.out.sx HB6.out
    have h2 := Bq.new h1.b.spc #[.int .i64 (y3 0), .int .i64 (y3 1), .int .i64 (y3 2), .int .i64 (y3 3), .int .i64 (y3 4), .int .i64 (y3 5), .int .i64 (y3 6), .int .i64 (y3 7), .int .i64 (y3 8), .int .i64 (y3 9), .int .i64 (y3 10), .int .i64 (y3 11), .int .i64 (y3 12), .int .i64 (y3 13), .int .i64 (y3 14)] 35
    rw [hwq, hFb] at h2
    exact ⟨h1.on hb, h2⟩
  rw [hwq, hFb]
  clear hwq hFb
  obtain ⟨z0, z1, z2, z3, z4⟩ := HB7.out.1.b.g.c5.cells
  obtain ⟨x0, x1, x2, x3, x4, x5, x6, x7, x8, x9, x10, x11, x12, x13, x14⟩ := HB7.out.2.c15
  obtain ⟨ρ, hρ⟩ := HD3.out.wd
  have Hρ : Hid (Wd D T4 n y3 ρ ∧ (zf = 0 → ρ = cvP ν hi)) := hρ
  clear hρ
  have HCv : Hid (Calls Tryz.prog 18 #[.pointer (some ⟨tt, 0, none⟩), .agg #[.int .i64 (n : Int), .int .i64 98, .int .i64 (gI n), .int .i64 (gD n), .int .i64 (gC n)], .agg #[.int .i64 (y3 0), .int .i64 (y3 1), .int .i64 (y3 2), .int .i64 (y3 3), .int .i64 (y3 4), .int .i64 (y3 5), .int .i64 (y3 6), .int .i64 (y3 7), .int .i64 (y3 8), .int .i64 (y3 9), .int .i64 (y3 10), .int .i64 (y3 11), .int .i64 (y3 12), .int .i64 (y3 13), .int .i64 (y3 14)], .int .i64 (lo : Int)] wq1 fun e w' => ∃ (z : Nat) (y4 : Nat → Int) (T' : Tx), e = .returned (.tuple #[.agg #[.int .i64 (y4 0), .int .i64 (y4 1), .int .i64 (y4 2), .int .i64 (y4 3), .int .i64 (y4 4), .int .i64 (y4 5), .int .i64 (y4 6), .int .i64 (y4 7), .int .i64 (y4 8), .int .i64 (y4 9), .int .i64 (y4 10), .int .i64 (y4 11), .int .i64 (y4 12), .int .i64 (y4 13), .int .i64 (y4 14)], .int .i64 (z : Int)]) ∧ CuR w1 wq1 w' D T4 T' n lo y3 ρ y4 z) := cutC w1 wq1 D T4 n HB7.out.1.b.spc (HT.out.on H1.out.1) HN.out y3 ρ Hρ.out.1 lo (by omega) (by have := HD3.out.us; have := H3c.out.2; omega) tt HB7.out.1.b.t
  go_upto_region 36 with (go_at_call 18; refine HCv.out.mono ?_; rintro e wr1 ⟨zh, y4, T5, rfl, h1⟩; have HD4 : Hid (CuR w1 wq1 wr1 D T4 T5 n lo y3 ρ y4 zh) := h1; clear h1 HCv)
  clear z0 z1 z2 z3 z4 x0 x1 x2 x3 x4 x5 x6 x7 x8 x9 x10 x11 x12 x13 x14
  obtain ⟨Z4, hZ4⟩ : ∃ Z4 : Int, (zh : Int) = Z4 := ⟨_, rfl⟩
  have HZ4 : Hid ((zh : Int) = Z4) := hZ4
  rw [hZ4]
  clear hZ4
  obtain ⟨Tb, hTb⟩ : ∃ Tb, wr1.heap.size = Tb := ⟨_, rfl⟩
  obtain ⟨ws, hws⟩ : ∃ ws, wr1.alloc (.cells #[.int .i64 (y4 0), .int .i64 (y4 1), .int .i64 (y4 2), .int .i64 (y4 3), .int .i64 (y4 4), .int .i64 (y4 5), .int .i64 (y4 6), .int .i64 (y4 7), .int .i64 (y4 8), .int .i64 (y4 9), .int .i64 (y4 10), .int .i64 (y4 11), .int .i64 (y4 12), .int .i64 (y4 13), .int .i64 (y4 14)] 35) = ws := ⟨_, rfl⟩
  have HB8 : Hid (CsX w1 ws D T5 n G X H tt x ν Ob y aw Lw (wrN T1.c n) ab SS ∧ Bq w1 ws D T5 Tb (.cells #[.int .i64 (y4 0), .int .i64 (y4 1), .int .i64 (y4 2), .int .i64 (y4 3), .int .i64 (y4 4), .int .i64 (y4 5), .int .i64 (y4 6), .int .i64 (y4 7), .int .i64 (y4 8), .int .i64 (y4 9), .int .i64 (y4 10), .int .i64 (y4 11), .int .i64 (y4 12), .int .i64 (y4 13), .int .i64 (y4 14)] 35 (0, 0))) := by
    have hb : Below wr1.heap.size wr1 ws := by rw [← hws]; exact below_new _
    have h1 := HD4.out.sx HB7.out.1
    have h2 := Bq.new h1.b.spc #[.int .i64 (y4 0), .int .i64 (y4 1), .int .i64 (y4 2), .int .i64 (y4 3), .int .i64 (y4 4), .int .i64 (y4 5), .int .i64 (y4 6), .int .i64 (y4 7), .int .i64 (y4 8), .int .i64 (y4 9), .int .i64 (y4 10), .int .i64 (y4 11), .int .i64 (y4 12), .int .i64 (y4 13), .int .i64 (y4 14)] 35
    rw [hws, hTb] at h2
    exact ⟨h1.on hb, h2⟩
  rw [hws, hTb]
  clear hws hTb HB7
  have hZ34 : (Z3 = 0 ∧ Z4 = 0) ∨ (Z3 = 60 ∧ Z4 = 0) ∨ (Z3 = 0 ∧ Z4 = 60) ∨ (Z3 = 60 ∧ Z4 = 60) := by
    have e1 := HZ3.out
    have e2 := HZ4.out
    rcases HD3.out.z with e | e <;> rcases HD4.out.z with e' | e' <;> omega
  have HQ : Hid (Below w1.heap.size w1 ws) := HB8.out.1.b.spc.ses.bel
  rcases hZ34 with ⟨rfl, rfl⟩ | ⟨rfl, rfl⟩ | ⟨rfl, rfl⟩ | ⟨rfl, rfl⟩
  rotate_left
  · go_wp2_with (go_at_call 13; first | (refine (HNu.out _).mono ?_; rintro e wq ⟨rfl, rfl⟩) | (refine (HN6.out _).mono ?_; rintro e wq ⟨rfl, rfl⟩))
    go_ret
    exact ⟨rfl, H1.out.1.trans (HQ.out.mono H1.out.1.size)⟩
  · go_wp2_with (go_at_call 13; first | (refine (HNu.out _).mono ?_; rintro e wq ⟨rfl, rfl⟩) | (refine (HN6.out _).mono ?_; rintro e wq ⟨rfl, rfl⟩))
    go_ret
    exact ⟨rfl, H1.out.1.trans (HQ.out.mono H1.out.1.size)⟩
  · go_wp2_with (go_at_call 13; first | (refine (HNu.out _).mono ?_; rintro e wq ⟨rfl, rfl⟩) | (refine (HN6.out _).mono ?_; rintro e wq ⟨rfl, rfl⟩))
    go_ret
    exact ⟨rfl, H1.out.1.trans (HQ.out.mono H1.out.1.size)⟩
  have HC : Hid (CtP D T3 T4 n x ν hi ∧ CtP D T4 T5 n y3 (cvP ν hi) lo ∧ y4 = y ∧ Wd D T5 n y4 (cvP ν lo)) := by
    have e1 : zf = 0 := by have := HZ3.out; omega
    have e2 : zh = 0 := by have := HZ4.out; omega
    have e3 := Hρ.out.2 e1
    rcases HD3.out with ⟨_, h1, h2, _, _⟩ | ⟨h0, _⟩
    · rcases HD4.out with ⟨_, h3, h4, _, _⟩ | ⟨h0, _⟩
      · rw [e3] at h3 h4
        have h5 : y4 = withN y3 (cvP ν lo) := by rw [h3, cv_cv hlh]
        refine ⟨h2, h4, ?_, ?_⟩
        · rw [h5, h1, withN_two, HO.out.1]
        · have h6 := h4.wd
          rw [cv_cv hlh] at h6
          rw [h5]; exact h6
      · omega
    · omega
  clear HD3 HD4 Hρ HZ3 HZ4 HQ
  have EN : ∀ wx, (binOp .neq 35 (.agg #[.int .i64 (y4 0), .int .i64 (y4 1), .int .i64 (y4 2), .int .i64 (y4 3), .int .i64 (y4 4), .int .i64 (y4 5), .int .i64 (y4 6), .int .i64 (y4 7), .int .i64 (y4 8), .int .i64 (y4 9), .int .i64 (y4 10), .int .i64 (y4 11), .int .i64 (y4 12), .int .i64 (y4 13), .int .i64 (y4 14)]) (.agg #[.int .i64 (y 0), .int .i64 (y 1), .int .i64 (y 2), .int .i64 (y 3), .int .i64 (y 4), .int .i64 (y 5), .int .i64 (y 6), .int .i64 (y 7), .int .i64 (y 8), .int .i64 (y 9), .int .i64 (y 10), .int .i64 (y 11), .int .i64 (y 12), .int .i64 (y 13), .int .i64 (y 14)])).run Tryz.prog wx = .ok (.bool false) wx := fun wx => by
    have h9 := neqI wx y4 y
    rw [smB_iff.2 (fun i _ => by rw [HC.out.2.2.1])] at h9
    exact h9
  obtain ⟨yy0, yy1, yy2, yy3, yy4, yy5, yy6, yy7, yy8, yy9, yy10, yy11, yy12, yy13, yy14⟩ := HB8.out.1.o.c15
  obtain ⟨x0, x1, x2, x3, x4, x5, x6, x7, x8, x9, x10, x11, x12, x13, x14⟩ := HB8.out.2.c15
  go_upto_region 38 with (go_at_call 13; refine (HNu.out _).mono ?_; rintro e wq ⟨rfl, rfl⟩)
  clear yy0 yy1 yy2 yy3 yy4 yy5 yy6 yy7 yy8 yy9 yy10 yy11 yy12 yy13 yy14 x0 x1 x2 x3 x4 x5 x6 x7 x8 x9 x10 x11 x12 x13 x14 EN
  as_aux_lemma =>
  obtain ⟨Lb, hLb2⟩ : ∃ Lb, ws.heap.size = Lb := ⟨_, rfl⟩
  obtain ⟨wt, hwt⟩ : ∃ wt, ws.alloc (.map #[] 0) = wt := ⟨_, rfl⟩
  have HB9 : Hid (CsX w1 wt D T5 n G X H tt x ν Ob y aw Lw (wrN T1.c n) ab SS ∧ Bq w1 wt D T5 Tb (.cells #[.int .i64 (y4 0), .int .i64 (y4 1), .int .i64 (y4 2), .int .i64 (y4 3), .int .i64 (y4 4), .int .i64 (y4 5), .int .i64 (y4 6), .int .i64 (y4 7), .int .i64 (y4 8), .int .i64 (y4 9), .int .i64 (y4 10), .int .i64 (y4 11), .int .i64 (y4 12), .int .i64 (y4 13), .int .i64 (y4 14)] 35 (0, 0)) ∧ MpAt wt Lb [] ∧ Out w1 wt D T5 Lb ∧ (Lb ≠ G ∧ Lb ≠ X ∧ Lb ≠ H ∧ Lb ≠ Ob ∧ Lb ≠ Tb ∧ (0 < Lw → ∀ g, aw = some ⟨g, 0, none⟩ → Lb ≠ g) ∧ (0 < Lw → ∀ g, ab = some ⟨g, 0, none⟩ → Lb ≠ g)) ∧ H < Lb) := by
    have hb : Below ws.heap.size ws wt := by rw [← hwt]; exact (Below.refl _ _).alloc (Nat.le_refl _) _
    refine ⟨HB8.out.1.on hb, HB8.out.2.on hb, by rw [← hwt, ← hLb2]; exact mpAt_made ws, Out.of HB8.out.1.b.spc (by rw [hLb2]; exact Nat.le_refl _) (by rw [← hwt, ← hLb2]; simp), sx_new HB8.out.1 HB8.out.2 hLb2, by have := HB8.out.1.b.ho.lt; omega⟩
  go_upto_region 39 with (fail)
  clear hwt hLb2 HB8
  obtain ⟨ks, ⟨E, hE, hLm⟩, hks⟩ := HB9.out.1.b.h
  have HLk : Hid (MpL E ks ∧ ∀ z v, (z, v) ∈ ks ↔ ∃ k : Nat, k < 16522 ∧ ν (ixP k) ≠ 0 ∧ z = (k : Int) ∧ v = (ν (ixP k) : Int)) := ⟨hLm, hks⟩
  obtain ⟨kl, hkl⟩ : ∃ kl, ks.length = kl := ⟨_, rfl⟩
  rw [hkl] at hE
  clear hLm hks hkl
  go_upto_block 4 with (first
    | (at_range; refine wpList_range_own _ rfl _ 36 rfl 3 3 lawI Tryz.underlying36 _ H kl _ rfl hE ?_; intro w3 hrg0 hg0 hs0; go_frame)
    | go_in)
  obtain ⟨r9, hr9⟩ : ∃ r9, wt.heap.size = r9 := ⟨_, rfl⟩
  have H9 : Hid (Below wt.heap.size wt w3 ∧ wt.heap.size = r9) := ⟨⟨hg0.os, hg0.tape, hg0.output, hg0.size, fun k hk => hg0.block k hk (by simp)⟩, hr9⟩
  rw [hr9] at hrg0 ⊢
  clear hr9 hs0 hg0 hE
  go_cut [] (fun wx => CsX w1 wx D T5 n G X H tt x ν Ob y aw Lw (wrN T1.c n) ab SS ∧ Bq w1 wx D T5 Tb (.cells #[.int .i64 (y4 0), .int .i64 (y4 1), .int .i64 (y4 2), .int .i64 (y4 3), .int .i64 (y4 4), .int .i64 (y4 5), .int .i64 (y4 6), .int .i64 (y4 7), .int .i64 (y4 8), .int .i64 (y4 9), .int .i64 (y4 10), .int .i64 (y4 11), .int .i64 (y4 12), .int .i64 (y4 13), .int .i64 (y4 14)] 35 (0, 0)) ∧ HasM wx Lb (cvP ν lo))
  case first => as_aux_lemma =>
    go_wp2_with (fail)
    go_loopw [36] (fun _ wr => ∃ (left : Lit → Bool) (cnt : Nat) (ks' : List (Int × Int)), wr.ranges Tryz.prog 3 (plainElem Tryz.prog 3) H r9 kl E left cnt ∧ MpAt wr Lb ks' ∧ (∀ z, left (kI z) = true → z ∈ ks.map Prod.fst) ∧ LfI ks ks' left (lo : Int) ∧ Fr (fun k => k = Lb ∨ r9 ≤ k) wt wr)
      (fun _ wr => wr.rangeLeft H r9)
    case atStart =>
      refine ⟨_, _, [], hrg0, HB9.out.2.2.1.on H9.out.1, fun z hz => by rw [HLk.out.1.has] at hz; simpa using hz, fun z v => ?_, below_fr H9.out.1 _⟩
      constructor
      · intro e; simp at e
      · rintro ⟨h1, _, h3⟩
        rw [HLk.out.1.has] at h3
        exact absurd (show z ∈ ks.map Prod.fst from List.mem_map.2 ⟨_, h1, rfl⟩) (by simpa using h3)
    case round =>
      obtain ⟨left, cnt, ks', hrg, hmp, hlk, hlf, hfr⟩ := hrel
      obtain ⟨wB, hwB⟩ : ∃ wB, wr = wB := ⟨_, rfl⟩
      rw [hwB] at hrg hfr hmp ⊢
      clear hwB hrg0
      have hXs : Hid (CsX w1 wB D T5 n G X H tt x ν Ob y aw Lw (wrN T1.c n) ab SS ∧ Bq w1 wB D T5 Tb (.cells #[.int .i64 (y4 0), .int .i64 (y4 1), .int .i64 (y4 2), .int .i64 (y4 3), .int .i64 (y4 4), .int .i64 (y4 5), .int .i64 (y4 6), .int .i64 (y4 7), .int .i64 (y4 8), .int .i64 (y4 9), .int .i64 (y4 10), .int .i64 (y4 11), .int .i64 (y4 12), .int .i64 (y4 13), .int .i64 (y4 14)] 35 (0, 0)) ∧ Out w1 wB D T5 Lb) := sx_fr HB9.out.1 HB9.out.2.1 HB9.out.2.2.2.1 hfr HB9.out.2.2.2.2.1 (by rw [H9.out.2]; exact Nat.le_refl _)
      have HGr : Hid (MpAt wB Lb ks' ∧ LfI ks ks' left (lo : Int) ∧ Fr (fun k => k = Lb ∨ r9 ≤ k) wt wB ∧ (∀ z, left (kI z) = true → z ∈ ks.map Prod.fst) ∧ wB.rangeLeft H r9 = cnt) := ⟨hmp, hlf, hfr, hlk, hrg.left_eq⟩
      clear hmp hlf hfr hlk
      go_upto_region 41 with (first
        | (at_next; refine wpList_next_ranges_ii _ rfl _ rfl 3 3 .i64 .i64 lawI Tryz.underlying3 Tryz.underlying3 H r9 kl _ _ _ rfl hrg ?_ ?_)
        | go_in)
      · intro hc0 hl0
        have hHas : HasM wB Lb (cvP ν lo) := HasM.left HLk.out.2 HGr.out.1 HGr.out.2.1 hl0
        have HZ : Hid (CsX w1 wB D T5 n G X H tt x ν Ob y aw Lw (wrN T1.c n) ab SS ∧ Bq w1 wB D T5 Tb (.cells #[.int .i64 (y4 0), .int .i64 (y4 1), .int .i64 (y4 2), .int .i64 (y4 3), .int .i64 (y4 4), .int .i64 (y4 5), .int .i64 (y4 6), .int .i64 (y4 7), .int .i64 (y4 8), .int .i64 (y4 9), .int .i64 (y4 10), .int .i64 (y4 11), .int .i64 (y4 12), .int .i64 (y4 13), .int .i64 (y4 14)] 35 (0, 0)) ∧ HasM wB Lb (cvP ν lo)) := ⟨hXs.out.1, hXs.out.2.1, hHas⟩
        clear hrg hHas
        go_wp2
        go_meet
        case rel => exact HZ.out
      · intro z c' w4 cnt1 hwz hwc hlz hat hrg1 hlt9 hg1 hs1 hen
        obtain ⟨kk, hkb, hk0, rfl, hvv⟩ : ∃ kk : Nat, kk < 16522 ∧ ν (ixP kk) ≠ 0 ∧ z = (kk : Int) ∧ c' = (ν (ixP kk) : Int) := by
          obtain ⟨⟨z', v'⟩, h1, h2⟩ := List.mem_map.1 (HGr.out.2.2.2.1 z hlz)
          have h2 : z' = z := h2
          subst h2
          obtain ⟨k, k1, k2, k3, k4⟩ := (HLk.out.2 z' v').1 h1
          refine ⟨k, k1, k2, k3, ?_⟩
          have := HLk.out.1.at1 h1 (hat .nil)
          rw [this, k4]
        obtain ⟨Nk, hNk⟩ : ∃ Nk, ν (ixP kk) = Nk := ⟨_, rfl⟩
        rw [hNk] at hvv
        subst hvv
        have hX4 : Hid (Fr (fun k => k = Lb ∨ r9 ≤ k) wt w4 ∧ cnt1 < cnt ∧ MpAt w4 Lb ks') := by
          have hg : Fr (fun k => k = r9) wB w4 := ⟨hg1.os, hg1.tape, hg1.output, hg1.size, fun k hk hne => hg1.block k hk (fun e => hne (Option.some.inj e))⟩
          refine ⟨HGr.out.2.2.1.trans hg (fun k hk => .inl (.inr (by omega))), hlt9, HGr.out.1.hp (hg1.block Lb HGr.out.1.lt (fun e => ?_))⟩
          have h1 := Option.some.inj e
          have h2 := HB9.out.2.2.2.1.lt
          have h3 := H9.out.2
          omega
        have HS4 : Hid (CsX w1 w4 D T5 n G X H tt x ν Ob y aw Lw (wrN T1.c n) ab SS ∧ Bq w1 w4 D T5 Tb (.cells #[.int .i64 (y4 0), .int .i64 (y4 1), .int .i64 (y4 2), .int .i64 (y4 3), .int .i64 (y4 4), .int .i64 (y4 5), .int .i64 (y4 6), .int .i64 (y4 7), .int .i64 (y4 8), .int .i64 (y4 9), .int .i64 (y4 10), .int .i64 (y4 11), .int .i64 (y4 12), .int .i64 (y4 13), .int .i64 (y4 14)] 35 (0, 0)) ∧ Out w1 w4 D T5 Lb) := sx_fr HB9.out.1 HB9.out.2.1 HB9.out.2.2.2.1 hX4.out.1 HB9.out.2.2.2.2.1 (by rw [H9.out.2]; exact Nat.le_refl _)
        obtain ⟨bu, hbu⟩ : ∃ bu, isT (bmp D T5) Nk = bu := ⟨_, rfl⟩
        have HU : Hid (Calls Tryz.prog 25 #[.pointer (some ⟨tt, 0, none⟩), .agg #[.int .i64 (n : Int), .int .i64 98, .int .i64 (gI n), .int .i64 (gD n), .int .i64 (gC n)], .int .i64 (Nk : Int)] w4 fun e w' => e = .returned (.tuple #[.bool bu, .int .i64 0]) ∧ Below w4.heap.size w4 w') := by
          have h9 := used_any w1 w4 D T5 n HS4.out.1.b.spc Nk (by rw [← hNk]; exact (HTT.out.1.own.good _ hk0).2.1)
          rw [HS4.out.1.b.t, hbu] at h9
          exact h9
        have hbd0 : bu = decide (kk < lo) := by
          rw [← hbu, ← hNk]
          exact cut_used HTT.out.1 HO.out.2.1 H3c.out.1 HC.out.1 HC.out.2.1 hlh hkb hk0
        have hbd : Hid (bu = decide (kk < lo)) := hbd0
        clear hbd0
        have hNn : Nk < 4427 := by rw [← hNk]; have := (HTT.out.1.own.good _ hk0).2.1; have := HN.out; omega
        have HKv : Hid (∀ v, ((kk : Int), v) ∈ ks ↔ v = (Nk : Int)) := fun v => by
          rw [HLk.out.2]
          constructor
          · rintro ⟨k2, _, _, e1, e2⟩
            have : kk = k2 := by omega
            subst this
            rw [e2, hNk]
          · rintro rfl
            exact ⟨kk, hkb, hk0, rfl, by rw [hNk]⟩
        clear hrg hg1 hs1 hat hwc hlt9 hwz hbu hNk hlz
        obtain ⟨z0, z1, z2, z3, z4⟩ := HS4.out.1.b.g.c5.cells
        go_upto_region 43 with (go_at_call 25; refine HU.out.mono ?_; rintro e w5 ⟨rfl, h1⟩; have H5 : Hid (Below w4.heap.size w4 w5) := h1; clear h1 HU)
        clear z0 z1 z2 z3 z4
        have hrg2 := hrg1.kept (below_grown H5.out) (by simp) (by simp)
        clear hrg1
        have hm5 := hX4.out.2.2.on H5.out
        have hf5 : Hid (Fr (fun k => k = Lb ∨ r9 ≤ k) wt w5) := hX4.out.1.trans (below_fr H5.out (fun k => k = Lb ∨ r9 ≤ k)) (fun k hk => .inl hk)
        by_cases hkl : kk < lo
        · have hkl' : (kk : Int) < (lo : Int) := by omega
          rw [hbd.out, decide_eq_true hkl]
          have hlen : ks'.length < 100000000 := by
            obtain ⟨_, _, h2⟩ := hm5
            have h1 : (ks'.map Prod.fst).length ≤ ((List.range 16522).map fun k : Nat => (k : Int)).length := sub_len h2.nd (fun q hq => by
              obtain ⟨⟨q', v'⟩, q1, q2⟩ := List.mem_map.1 hq
              have q2 : q' = q := q2
              subst q2
              obtain ⟨k, k1, _, k3, _⟩ := (HLk.out.2 _ _).1 ((HGr.out.2.1 _ _).1 q1).1
              exact List.mem_map.2 ⟨k, List.mem_range.2 k1, k3.symm⟩)
            rw [List.length_map, List.length_map, List.length_range] at h1
            omega
          go_wp2_with (first
            | (go_at_call 13; refine (HNu.out _).mono ?_; rintro e wq ⟨rfl, rfl⟩)
            | (at_mapUpdate; refine up_any _ rfl _ _ _ rfl Lb ks' (kk : Int) (Nk : Int) rfl hm5 hlen (wf64 (by omega)) (wf64 (by omega)) rfl rfl ?_; intro w6 ks2 h1 h2 hx hl h3; clear hx hl; have H6 : Hid (MpAt w6 Lb ks2 ∧ (∀ t y, (t, y) ∈ ks2 ↔ (t = (kk : Int) ∧ y = (Nk : Int)) ∨ (t ≠ (kk : Int) ∧ (t, y) ∈ ks')) ∧ w5.grownBy w6 (some Lb)) := ⟨h1, h2, h3⟩; clear h1 h2 h3; go_frame))
          have hrg3 := hrg2.kept H6.out.2.2 (fun e => by have h1 := Option.some.inj e; have h2 := HB9.out.2.2.2.2.2; omega) (fun e => by have h1 := Option.some.inj e; have h2 := HB9.out.2.2.2.1.lt; have h3 := H9.out.2; omega)
          have HQQ : Hid ((∀ z, (fun q : Lit => left q && !q.sameKey (.int .i64 (kk : Int))) (kI z) = true → z ∈ ks.map Prod.fst) ∧ LfI ks ks2 (fun q => left q && !q.sameKey (kI (kk : Int))) (lo : Int) ∧ Fr (fun k => k = Lb ∨ r9 ≤ k) wt w6) :=
            ⟨fun y hy => HGr.out.2.2.2.1 y (by simp at hy; exact hy.1), HGr.out.2.1.put hkl' HKv.out H6.out.2.1, hf5.out.trans (grown_fr H6.out.2.2) (fun k hk => .inl (.inl (Option.some.inj hk).symm))⟩
          go_roundw
          case rel =>
            refine ⟨(fun q : Lit => left q && !q.sameKey (.int .i64 (kk : Int))), cnt1, ks2, ?_, ?_, ?_, ?_, ?_⟩
            · with_reducible exact hrg3
            · with_reducible exact H6.out.1
            · exact HQQ.out.1
            · exact HQQ.out.2.1
            · exact HQQ.out.2.2
          case measure => rw [hrg3.left_eq, HGr.out.2.2.2.2]; exact hX4.out.2.1
        · have hkl' : ¬ (kk : Int) < (lo : Int) := by omega
          rw [hbd.out, decide_eq_false hkl]
          go_wp2_with (go_at_call 13; refine (HNu.out _).mono ?_; rintro e wq ⟨rfl, rfl⟩)
          go_roundw
          case rel => exact ⟨_, cnt1, ks', hrg2, hm5, fun y hy => HGr.out.2.2.2.1 y (by simp at hy; exact hy.1), HGr.out.2.1.skip (by omega), hf5.out⟩
          case measure => rw [hrg2.left_eq, HGr.out.2.2.2.2]; exact hX4.out.2.1
  case rest =>
  clear hrg0
  obtain ⟨hcx, hct, hch⟩ := hcut
  obtain ⟨wu, hwu⟩ : ∃ wu, wc = wu := ⟨_, rfl⟩
  rw [hwu] at hcx hct hch ⊢
  clear hwu wc
  have HBA : Hid (CsX w1 wu D T5 n G X H tt x ν Ob y aw Lw (wrN T1.c n) ab SS ∧ Bq w1 wu D T5 Tb (.cells #[.int .i64 (y4 0), .int .i64 (y4 1), .int .i64 (y4 2), .int .i64 (y4 3), .int .i64 (y4 4), .int .i64 (y4 5), .int .i64 (y4 6), .int .i64 (y4 7), .int .i64 (y4 8), .int .i64 (y4 9), .int .i64 (y4 10), .int .i64 (y4 11), .int .i64 (y4 12), .int .i64 (y4 13), .int .i64 (y4 14)] 35 (0, 0)) ∧ HasM wu Lb (cvP ν lo)) := ⟨hcx, hct, hch⟩
  clear hcx hct hch HB9 HLk H9
  as_aux_lemma =>
  go_upto_region 47 with (fail)
  go_upto_block 6 with (fail)
  go_cut [] (fun wx => Below wu.heap.size wu wx)
  case first => as_aux_lemma =>
    go_wp2_with (fail)
    go_loopw [243] (fun s243 wr => ∃ j : Nat, j ≤ Lw ∧ s243 = .int .i64 (j : Int) ∧ Below wu.heap.size wu wr) (fun s _ => Lw - (intOf s).toNat)
    case atStart => exact ⟨0, Nat.zero_le _, rfl, Below.refl _ _⟩
    case round =>
      obtain ⟨j, hj, rfl, hR⟩ := hrel
      obtain ⟨wA, hwA⟩ : ∃ wA, wr = wA := ⟨_, rfl⟩
      rw [hwA] at hR ⊢
      clear hwA wr
      by_cases hlt : j < Lw
      · have hlt' : (j : Int) < (Lw : Int) := by omega
        obtain ⟨i, hi98, hin, hiw⟩ := wr_at HK1.out (show j < (lst T1.c n).length by rw [HL.out]; exact hlt)
        have hXA := HBA.out.1.on hR
        obtain ⟨g, rfl, hcell⟩ : ∃ g, aw = some ⟨g, 0, none⟩ ∧ wA.cell? ⟨g, j, none⟩ = some (.int .i64 (i : Int)) := by
          rcases hXA.nu with e | ⟨g, e, hc, ho⟩
          · omega
          · have h5 := hc j hlt
            rw [Nat.zero_add] at h5
            exact ⟨g, e, by rw [h5, hiw]⟩
        have HRd : Hid (Calls Tryz.prog 23 #[.pointer (some ⟨tt, 0, none⟩), .int .i64 (i : Int)] wA fun e w' => ∃ g cap, e = .returned (.tuple #[.slice (some ⟨g, 0, none⟩) 512 cap, .int .i64 0]) ∧ wA.heap.size ≤ g ∧ OwnB w' g cap (tv D T5 i) ∧ Below wA.heap.size wA w') := by
          have := hXA.b.spc.read i hin
          rw [hXA.b.t] at this
          exact this
        have HXA : Hid (CsX w1 wA D T5 n G X H tt x ν Ob y (some ⟨g, 0, none⟩) Lw (wrN T1.c n) ab SS) := hXA
        have HSi : Hid ((tv D T5 i).length = 512 ∧ ((i : Int) < gI n → strOfNums (tv D T5 i) = SS j)) := by
          refine ⟨(hXA.b.spc.ok i hin).1, fun h5 => ?_⟩
          have h6 := HSS.out j
          rw [hiw] at h6
          rw [← h6]
          have hm : i - 98 < nM n := by unfold gI at h5; unfold nM; omega
          have e := cut_bmp HO.out.2.1 H3c.out.1 HC.out.1 HC.out.2.1 hlh (i - 98) hm
          unfold bmp at e
          rw [show 98 + (i - 98) = i by omega] at e
          rw [e]
          rfl
        clear hXA hi98 hin hiw
        go_upto_region 51 with (go_at_call 23; refine HRd.out.mono ?_; rintro e wB ⟨gb, cb, rfl, _, h2, h3⟩; have HBb : Hid (OwnB wB gb cb (tv D T5 i) ∧ Below wA.heap.size wA wB) := ⟨h2, h3⟩; clear h2 h3 HRd)
        clear hcell
        have HRB : Hid (Below wu.heap.size wu wB ∧ CsX w1 wB D T5 n G X H tt x ν Ob y (some ⟨g, 0, none⟩) Lw (wrN T1.c n) ab SS) := ⟨hR.trans (HBb.out.2.mono hR.size), HXA.out.on HBb.out.2⟩
        clear HXA hR
        obtain ⟨z0, z1, z2, z3, z4⟩ := HRB.out.2.b.g.c5.cells
        clear z0 z1 z3 z4
        by_cases hig : (i : Int) < gI n
        · have hcv : ∀ q, (convert 63 9 (.slice (some ⟨gb, 0, none⟩) 512 cb)).run Tryz.prog (wB.drewN q) = .ok (.string (SS j)) (wB.drewN q) := fun q => by
            rw [← HSi.out.2 hig]; exact str_opt (HBb.out.1.bytes.on (belowNC _ _ _)) HSi.out.1
          have hcv1 : (convert 63 9 (.slice (some ⟨gb, 0, none⟩) 512 cb)).run Tryz.prog wB.drew = .ok (.string (SS j)) wB.drew := hcv 1
          obtain ⟨b, rfl, hcs⟩ : ∃ b, ab = some ⟨b, 0, none⟩ ∧ wB.cell? ⟨b, j, none⟩ = some (.string (SS j)) := by
            rcases HRB.out.2.tx with e | ⟨b, e, hc, _⟩
            · omega
            · have h5 := hc j hlt
              rw [Nat.zero_add] at h5
              exact ⟨b, e, h5⟩
          have hSa : wB.drew.cell? ⟨G, 2, none⟩ = some (.int .i64 (gI n)) ∧ wB.drew.cell? ⟨b, j, none⟩ = some (.string (SS j)) := ⟨z2, hcs⟩
          refine wp_region_held_drew (S := fun w' : World => w'.cell? ⟨G, 2, none⟩ = some (.int .i64 (gI n)) ∧ w'.cell? ⟨b, j, none⟩ = some (.string (SS j))) (by as_aux_lemma => kernel_rfl) ?_ (fun hHeld => ?_)
          · (try dsimp only); exact hSa
          refine wpAnyH_take (i := 0) (v := ?_) rfl (by as_aux_lemma => kernel_rfl) (by as_aux_lemma => kernel_rfl) (by as_aux_lemma => kernel_rfl) (fun _ _ _ h => h) (Or.inl ⟨by rfl, ?_⟩) (by assumption) ?_
          rotate_left
          focus (intro w hSw; (try dsimp only at hSw); obtain ⟨hSx, hSy⟩ := hSw; go_simp; (try (with_reducible rfl)); done)
          try go_simp
          refine wpAnyH_ready (rs := [1]) (by as_aux_lemma => kernel_rfl) (by simp) ?_
          refine AllReadyH.cons rfl (fun K hK => ?_) ?_
          · (go_simp; go_at_call 13; refine (HNu.out _).mono ?_; rintro e wq ⟨rfl, rfl⟩; go_simp)
            refine hK.out _ _ ?_ (fun hHeld => ?_)
            · (try dsimp only); exact hSa
            clear hK K
            refine wpAnyH_take (i := 2) (v := ?_) rfl (by as_aux_lemma => kernel_rfl) (by as_aux_lemma => kernel_rfl) (by as_aux_lemma => kernel_rfl) (fun _ _ _ h => h) (Or.inl ⟨by rfl, ?_⟩) (by assumption) ?_
            rotate_left
            focus (intro w hSw; (try dsimp only at hSw); obtain ⟨hSx, hSy⟩ := hSw; go_simp; (try (with_reducible rfl)); done)
            try go_simp
            refine wpAnyH_take (i := 3) (v := ?_) rfl (by as_aux_lemma => kernel_rfl) (by as_aux_lemma => kernel_rfl) (by as_aux_lemma => kernel_rfl) (fun _ _ _ h => h) (Or.inl ⟨by rfl, ?_⟩) (by assumption) ?_
            rotate_left
            focus (intro w hSw; (try dsimp only at hSw); obtain ⟨hSx, hSy⟩ := hSw; go_simp; (try (with_reducible rfl)); done)
            try go_simp
            refine wpAnyH_take (i := 4) (v := ?_) rfl (by as_aux_lemma => kernel_rfl) (by as_aux_lemma => kernel_rfl) (by as_aux_lemma => kernel_rfl) (fun _ _ _ h => h) (Or.inl ⟨by rfl, ?_⟩) (by assumption) ?_
            rotate_left
            focus (intro w hSw; (try dsimp only at hSw); obtain ⟨hSx, hSy⟩ := hSw; go_simp; (try (with_reducible rfl)); done)
            try go_simp
            refine wpAnyH_take (i := 5) (v := ?_) rfl (by as_aux_lemma => kernel_rfl) (by as_aux_lemma => kernel_rfl) (by as_aux_lemma => kernel_rfl) (fun _ _ _ h => h) (Or.inl ⟨by rfl, ?_⟩) (by assumption) ?_
            rotate_left
            focus (intro w hSw; (try dsimp only at hSw); obtain ⟨hSx, hSy⟩ := hSw; go_simp; (try (with_reducible rfl)); done)
            try go_simp
            refine wpAnyH_take (i := 6) (v := ?_) rfl (by as_aux_lemma => kernel_rfl) (by as_aux_lemma => kernel_rfl) (by as_aux_lemma => kernel_rfl) (fun _ _ _ h => h) (Or.inl ⟨by rfl, ?_⟩) (by assumption) ?_
            rotate_left
            focus (intro w hSw; (try dsimp only at hSw); obtain ⟨hSx, hSy⟩ := hSw; go_simp; (try (with_reducible rfl)); done)
            try go_simp
            refine wpAnyH_take (i := 7) (v := ?_) rfl (by as_aux_lemma => kernel_rfl) (by as_aux_lemma => kernel_rfl) (by as_aux_lemma => kernel_rfl) (fun _ _ _ h => h) (Or.inl ⟨by rfl, ?_⟩) (by assumption) ?_
            rotate_left
            focus (intro w hSw; (try dsimp only at hSw); obtain ⟨hSx, hSy⟩ := hSw; go_simp; (try (with_reducible rfl)); done)
            try go_simp
            refine wpAnyH_take (i := 8) (v := ?_) rfl (by as_aux_lemma => kernel_rfl) (by as_aux_lemma => kernel_rfl) (by as_aux_lemma => kernel_rfl) (fun _ _ _ h => h) (Or.inl ⟨by rfl, ?_⟩) (by assumption) ?_
            rotate_left
            focus (intro w hSw; (try dsimp only at hSw); obtain ⟨hSx, hSy⟩ := hSw; go_simp; (try (with_reducible rfl)); done)
            try go_simp
            refine wpAnyH_take (i := 9) (v := ?_) rfl (by as_aux_lemma => kernel_rfl) (by as_aux_lemma => kernel_rfl) (by as_aux_lemma => kernel_rfl) (fun _ _ _ h => h) (Or.inl ⟨by rfl, ?_⟩) (by assumption) ?_
            rotate_left
            focus (intro w hSw; (try dsimp only at hSw); obtain ⟨hSx, hSy⟩ := hSw; go_simp; (try (with_reducible rfl)); done)
            try go_simp
            refine wpAnyH_take (i := 11) (v := ?_) rfl (by as_aux_lemma => kernel_rfl) (by as_aux_lemma => kernel_rfl) (by as_aux_lemma => kernel_rfl) (fun _ _ _ h => h) (Or.inl ⟨by rfl, ?_⟩) (by assumption) ?_
            rotate_left
            focus (intro w hSw; (try dsimp only at hSw); obtain ⟨hSx, hSy⟩ := hSw; go_simp; (try (with_reducible rfl)); done)
            try go_simp
            refine wpAnyH_take (i := 12) (v := ?_) rfl (by as_aux_lemma => kernel_rfl) (by as_aux_lemma => kernel_rfl) (by as_aux_lemma => kernel_rfl) (fun _ _ _ h => h) (Or.inl ⟨by rfl, ?_⟩) (by assumption) ?_
            rotate_left
            focus (intro w hSw; (try dsimp only at hSw); obtain ⟨hSx, hSy⟩ := hSw; go_simp; (try (with_reducible rfl)); done)
            try go_simp
            refine wpAnyH_take (i := 13) (v := ?_) rfl (by as_aux_lemma => kernel_rfl) (by as_aux_lemma => kernel_rfl) (by as_aux_lemma => kernel_rfl) (fun _ _ _ h => h) (Or.inl ⟨by rfl, ?_⟩) (by assumption) ?_
            rotate_left
            focus (intro w hSw; (try dsimp only at hSw); obtain ⟨hSx, hSy⟩ := hSw; go_simp; (try (with_reducible rfl)); done)
            try go_simp
            refine wpAnyH_take (i := 14) (v := ?_) rfl (by as_aux_lemma => kernel_rfl) (by as_aux_lemma => kernel_rfl) (by as_aux_lemma => kernel_rfl) (fun _ _ _ h => h) (Or.inl ⟨by rfl, ?_⟩) (by assumption) ?_
            rotate_left
            focus (intro w hSw; (try dsimp only at hSw); obtain ⟨hSx, hSy⟩ := hSw; go_simp; (try (with_reducible rfl)); done)
            try go_simp
            refine wpAnyH_ready (rs := [10]) (by as_aux_lemma => kernel_rfl) (by simp) ?_
            refine AllReadyH.cons rfl (fun K hK => ?_) ?_
            · go_simp
              refine hK.out _ _ ?_ (fun hHeld => ?_)
              · (try dsimp only); exact hSa
              clear hK K
              refine wpAnyH_take (i := 15) (v := ?_) rfl (by as_aux_lemma => kernel_rfl) (by as_aux_lemma => kernel_rfl) (by as_aux_lemma => kernel_rfl) (fun _ _ _ h => h) (Or.inl ⟨by rfl, ?_⟩) (by assumption) ?_
              rotate_left
              focus (intro w hSw; (try dsimp only at hSw); obtain ⟨hSx, hSy⟩ := hSw; go_simp; (try (with_reducible rfl)); done)
              try go_simp
              refine wpAnyH_take (i := 16) (v := ?_) rfl (by as_aux_lemma => kernel_rfl) (by as_aux_lemma => kernel_rfl) (by as_aux_lemma => kernel_rfl) (fun _ _ _ h => h) (Or.inl ⟨by rfl, ?_⟩) (by assumption) ?_
              rotate_left
              focus (intro w hSw; (try dsimp only at hSw); obtain ⟨hSx, hSy⟩ := hSw; go_simp; (try (with_reducible rfl)); done)
              try go_simp
              refine wpAnyH_take (i := 17) (v := ?_) rfl (by as_aux_lemma => kernel_rfl) (by as_aux_lemma => kernel_rfl) (by as_aux_lemma => kernel_rfl) (fun _ _ _ h => h) (Or.inl ⟨by rfl, ?_⟩) (by assumption) ?_
              rotate_left
              focus (intro w hSw; (try dsimp only at hSw); obtain ⟨hSx, hSy⟩ := hSw; go_simp; (try (with_reducible rfl)); done)
              try go_simp
              refine wpAnyH_done (by as_aux_lemma => kernel_rfl) ?_ _
              go_wp2
              go_roundw
              case rel => exact ⟨j + 1, by omega, (by go_num), HRB.out.1.trans (belowNC _ _ 1)⟩
              case measure => simp [intOf]; omega
            exact AllReadyH.nil
          exact AllReadyH.nil
        · have hig' : ¬ (i : Int) < gI n := hig
          have hSa : wB.drew.cell? ⟨G, 2, none⟩ = some (.int .i64 (gI n)) := z2
          refine wp_region_held_drew (S := fun w' : World => w'.cell? ⟨G, 2, none⟩ = some (.int .i64 (gI n))) (by as_aux_lemma => kernel_rfl) ?_ (fun hHeld => ?_)
          · (try dsimp only); exact hSa
          refine wpAnyH_take (i := 0) (v := ?_) rfl (by as_aux_lemma => kernel_rfl) (by as_aux_lemma => kernel_rfl) (by as_aux_lemma => kernel_rfl) (fun _ _ _ h => h) (Or.inl ⟨by rfl, ?_⟩) (by assumption) ?_
          rotate_left
          focus (intro w hSw; (try dsimp only at hSw); go_simp; (try (with_reducible rfl)); done)
          try go_simp
          refine wpAnyH_ready (rs := [1]) (by as_aux_lemma => kernel_rfl) (by simp) ?_
          refine AllReadyH.cons rfl (fun K hK => ?_) ?_
          · (go_simp; go_at_call 13; refine (HNu.out _).mono ?_; rintro e wq ⟨rfl, rfl⟩; go_simp)
            refine hK.out _ _ ?_ (fun hHeld => ?_)
            · (try dsimp only); exact hSa
            clear hK K
            refine wpAnyH_take (i := 2) (v := ?_) rfl (by as_aux_lemma => kernel_rfl) (by as_aux_lemma => kernel_rfl) (by as_aux_lemma => kernel_rfl) (fun _ _ _ h => h) (Or.inl ⟨by rfl, ?_⟩) (by assumption) ?_
            rotate_left
            focus (intro w hSw; (try dsimp only at hSw); go_simp; (try (with_reducible rfl)); done)
            try go_simp
            refine wpAnyH_take (i := 3) (v := ?_) rfl (by as_aux_lemma => kernel_rfl) (by as_aux_lemma => kernel_rfl) (by as_aux_lemma => kernel_rfl) (fun _ _ _ h => h) (Or.inl ⟨by rfl, ?_⟩) (by assumption) ?_
            rotate_left
            focus (intro w hSw; (try dsimp only at hSw); go_simp; (try (with_reducible rfl)); done)
            try go_simp
            refine wpAnyH_take (i := 4) (v := ?_) rfl (by as_aux_lemma => kernel_rfl) (by as_aux_lemma => kernel_rfl) (by as_aux_lemma => kernel_rfl) (fun _ _ _ h => h) (Or.inl ⟨by rfl, ?_⟩) (by assumption) ?_
            rotate_left
            focus (intro w hSw; (try dsimp only at hSw); go_simp; (try (with_reducible rfl)); done)
            try go_simp
            refine wpAnyH_take (i := 5) (v := ?_) rfl (by as_aux_lemma => kernel_rfl) (by as_aux_lemma => kernel_rfl) (by as_aux_lemma => kernel_rfl) (fun _ _ _ h => h) (Or.inl ⟨by rfl, ?_⟩) (by assumption) ?_
            rotate_left
            focus (intro w hSw; (try dsimp only at hSw); go_simp; (try (with_reducible rfl)); done)
            try go_simp
            refine wpAnyH_take (i := 6) (v := ?_) rfl (by as_aux_lemma => kernel_rfl) (by as_aux_lemma => kernel_rfl) (by as_aux_lemma => kernel_rfl) (fun _ _ _ h => h) (Or.inl ⟨by rfl, ?_⟩) (by assumption) ?_
            rotate_left
            focus (intro w hSw; (try dsimp only at hSw); go_simp; (try (with_reducible rfl)); done)
            try go_simp
            refine wpAnyH_take (i := 7) (v := ?_) rfl (by as_aux_lemma => kernel_rfl) (by as_aux_lemma => kernel_rfl) (by as_aux_lemma => kernel_rfl) (fun _ _ _ h => h) (Or.inl ⟨by rfl, ?_⟩) (by assumption) ?_
            rotate_left
            focus (intro w hSw; (try dsimp only at hSw); go_simp; (try (with_reducible rfl)); done)
            try go_simp
            refine wpAnyH_take (i := 8) (v := ?_) rfl (by as_aux_lemma => kernel_rfl) (by as_aux_lemma => kernel_rfl) (by as_aux_lemma => kernel_rfl) (fun _ _ _ h => h) (Or.inl ⟨by rfl, ?_⟩) (by assumption) ?_
            rotate_left
            focus (intro w hSw; (try dsimp only at hSw); go_simp; (try (with_reducible rfl)); done)
            try go_simp
            refine wpAnyH_take (i := 9) (v := undef) rfl (by as_aux_lemma => kernel_rfl) (by as_aux_lemma => kernel_rfl) (by as_aux_lemma => kernel_rfl) (fun _ _ _ h => h) (Or.inr ⟨by rfl, rfl⟩) (by assumption) ?_
            try go_simp
            refine wpAnyH_take (i := 10) (v := undef) rfl (by as_aux_lemma => kernel_rfl) (by as_aux_lemma => kernel_rfl) (by as_aux_lemma => kernel_rfl) (fun _ _ _ h => h) (Or.inr ⟨by rfl, rfl⟩) (by assumption) ?_
            try go_simp
            refine wpAnyH_take (i := 11) (v := undef) rfl (by as_aux_lemma => kernel_rfl) (by as_aux_lemma => kernel_rfl) (by as_aux_lemma => kernel_rfl) (fun _ _ _ h => h) (Or.inr ⟨by rfl, rfl⟩) (by assumption) ?_
            try go_simp
            refine wpAnyH_take (i := 12) (v := undef) rfl (by as_aux_lemma => kernel_rfl) (by as_aux_lemma => kernel_rfl) (by as_aux_lemma => kernel_rfl) (fun _ _ _ h => h) (Or.inr ⟨by rfl, rfl⟩) (by assumption) ?_
            try go_simp
            refine wpAnyH_take (i := 13) (v := undef) rfl (by as_aux_lemma => kernel_rfl) (by as_aux_lemma => kernel_rfl) (by as_aux_lemma => kernel_rfl) (fun _ _ _ h => h) (Or.inr ⟨by rfl, rfl⟩) (by assumption) ?_
            try go_simp
            refine wpAnyH_take (i := 14) (v := undef) rfl (by as_aux_lemma => kernel_rfl) (by as_aux_lemma => kernel_rfl) (by as_aux_lemma => kernel_rfl) (fun _ _ _ h => h) (Or.inr ⟨by rfl, rfl⟩) (by assumption) ?_
            try go_simp
            refine wpAnyH_take (i := 15) (v := undef) rfl (by as_aux_lemma => kernel_rfl) (by as_aux_lemma => kernel_rfl) (by as_aux_lemma => kernel_rfl) (fun _ _ _ h => h) (Or.inr ⟨by rfl, rfl⟩) (by assumption) ?_
            try go_simp
            refine wpAnyH_take (i := 16) (v := ?_) rfl (by as_aux_lemma => kernel_rfl) (by as_aux_lemma => kernel_rfl) (by as_aux_lemma => kernel_rfl) (fun _ _ _ h => h) (Or.inl ⟨by rfl, ?_⟩) (by assumption) ?_
            rotate_left
            focus (intro w hSw; (try dsimp only at hSw); go_simp; (try (with_reducible rfl)); done)
            try go_simp
            refine wpAnyH_take (i := 17) (v := ?_) rfl (by as_aux_lemma => kernel_rfl) (by as_aux_lemma => kernel_rfl) (by as_aux_lemma => kernel_rfl) (fun _ _ _ h => h) (Or.inl ⟨by rfl, ?_⟩) (by assumption) ?_
            rotate_left
            focus (intro w hSw; (try dsimp only at hSw); go_simp; (try (with_reducible rfl)); done)
            try go_simp
            refine wpAnyH_done (by as_aux_lemma => kernel_rfl) ?_ _
            go_wp2
            go_roundw
            case rel => exact ⟨j + 1, by omega, (by go_num), HRB.out.1.trans (belowNC _ _ 1)⟩
            case measure => simp [intOf]; omega
          exact AllReadyH.nil
      · have hlt' : ¬ (j : Int) < (Lw : Int) := by omega
        go_wp2
        go_meet
        case rel => exact hR
  case rest =>
  obtain ⟨wv, hwv⟩ : ∃ wv, wc = wv := ⟨_, rfl⟩
  rw [hwv] at hcut ⊢
  clear hwv wc
  have HBV : Hid (CsX w1 wv D T5 n G X H tt x ν Ob y aw Lw (wrN T1.c n) ab SS ∧ Bq w1 wv D T5 Tb (.cells #[.int .i64 (y4 0), .int .i64 (y4 1), .int .i64 (y4 2), .int .i64 (y4 3), .int .i64 (y4 4), .int .i64 (y4 5), .int .i64 (y4 6), .int .i64 (y4 7), .int .i64 (y4 8), .int .i64 (y4 9), .int .i64 (y4 10), .int .i64 (y4 11), .int .i64 (y4 12), .int .i64 (y4 13), .int .i64 (y4 14)] 35 (0, 0)) ∧ HasM wv Lb (cvP ν lo)) := ⟨HBA.out.1.on hcut, HBA.out.2.1.on hcut, HBA.out.2.2.on hcut⟩
  clear hcut HBA
  have HTd : Hid (Calls Tryz.prog 15 #[.pointer (some ⟨tt, 0, none⟩), .agg #[.int .i64 (n : Int), .int .i64 98, .int .i64 (gI n), .int .i64 (gD n), .int .i64 (gC n)], .agg #[.int .i64 (y4 0), .int .i64 (y4 1), .int .i64 (y4 2), .int .i64 (y4 3), .int .i64 (y4 4), .int .i64 (y4 5), .int .i64 (y4 6), .int .i64 (y4 7), .int .i64 (y4 8), .int .i64 (y4 9), .int .i64 (y4 10), .int .i64 (y4 11), .int .i64 (y4 12), .int .i64 (y4 13), .int .i64 (y4 14)], .map (some Lb)] wv fun e w' => e = .returned (.bool true) ∧ Below wv.heap.size wv w') := by
    have h9 := told_any w1 wv D T5 n HBV.out.1.b.spc (HT.out.on H1.out.1) y4 (cvP ν lo) HC.out.2.2.2 (HTT.out.2.1.cut lo) Lb HBV.out.2.2
    rw [HBV.out.1.b.t] at h9
    exact h9
  obtain ⟨z0, z1, z2, z3, z4⟩ := HBV.out.1.b.g.c5.cells
  obtain ⟨x0, x1, x2, x3, x4, x5, x6, x7, x8, x9, x10, x11, x12, x13, x14⟩ := HBV.out.2.1.c15
  go_wp2_with (go_at_call 15; refine HTd.out.mono ?_; rintro e ww ⟨rfl, h1⟩; have HW9 : Hid (Below wv.heap.size wv ww) := h1; clear h1)
  go_ret
  exact ⟨rfl, H1.out.1.trans ((HBV.out.1.b.spc.ses.bel.trans (HW9.out.mono HBV.out.1.b.spc.ses.bel.size)).mono H1.out.1.size)⟩
end Go.Proofs.YtiblfmcnffhpdaaGreatDoor
