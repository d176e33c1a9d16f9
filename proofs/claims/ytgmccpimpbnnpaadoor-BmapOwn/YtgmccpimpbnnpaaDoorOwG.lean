import Derived.Test.YtgmccpimpbnnpaaDoorOwH
import Derived.Deep.CutBlock
import Derived.Deep.RegionHeld3
namespace Go.Proofs.YtgmccpimpbnnpaaDoor
open Go.RowKit Go.Maps Rec
set_option maxRecDepth 100000 in
set_option maxHeartbeats 16000000 in
theorem bown_any (w : World) (hT : TabAt w) (M : Int) (ta : Option Addr) (tl tc : Nat) (ra : Option Addr) (rl rc : Nat) (ts : List Int) (ht : Ints w ta ts) (htl : ts.length = tl) (rs : List (Int × Option Addr × Nat × Nat × List Int)) (hr : RawAt w ra rl rs) (hrl : rl ≤ 1000000000000000) (oa : Option Addr) (ol oc : Nat) (os : List Int) (ho : Ints w oa os) (hol : os.length = ol) (za : Option Addr) (zl zc : Nat) (zs : List Int) (hz : Ints w za zs) (hzl : zs.length = zl) :
    Calls Tryd.prog 3 #[stuV M ta tl tc ra rl rc, .slice oa ol oc, .slice za zl zc] w fun e w' => e = .returned (.bool true) ∧ Below w.heap.size w w' := by
  obtain ⟨n, hn⟩ : ∃ n, nBq M = n := ⟨_, rfl⟩
  have HN : Hid (128 ≤ n ∧ n ≤ 4427) := by rw [← hn]; exact nBq_bd M
  have HBg : Hid (∀ wx, Below w.heap.size w wx → Calls Tryd.prog 4 #[.agg #[.int .i64 M, .slice ta tl tc, .slice ra rl rc]] wx fun e w' => ∃ (rt : Nat) (D : Dk) (T : Tx), e = .returned (.tuple #[.pointer (some ⟨T.t, 0, none⟩), .pointer (some ⟨rt, 0, none⟩), .agg #[.int .i64 (n : Int), .int .i64 98, .int .i64 (gI n), .int .i64 (gD n), .int .i64 (gC n)], .bool true]) ∧ OpQ wx w' D T n) := by
    intro wx hb
    have h9 := beginQ wx M ta tl tc ra rl rc ts (ht.on hb) htl rs (hr.on hb) hrl
    rw [hn] at h9
    refine h9.mono ?_
    rintro e w' ⟨rt, D, T, rfl, h1, _⟩
    exact ⟨rt, D, T, rfl, h1⟩
  have HT : Hid (TabAt w) := hT
  have HI : Hid (Ints w oa os ∧ os.length = ol ∧ Ints w za zs ∧ zs.length = zl) := ⟨ho, hol, hz, hzl⟩
  have HKn : Hid (∀ wx, Below w.heap.size w wx → Calls Tryd.prog 5 #[] wx fun e w' => e = .returned (.bool true) ∧ Below wx.heap.size wx w') := fun wx hb => known_any wx (HT.out.on hb)
  have HIx : Hid (∀ wx v, Calls Tryd.prog 7 #[.int .i64 v] wx fun e w' => e = .returned (.int .i64 (ixQ v : Int)) ∧ wx = w') := fun wx v => indexQ wx v
  have HNu : Hid (∀ wx, Calls Tryd.prog 8 #[.int .i64 0] wx fun e' w' => e' = .returned (.int .i64 0) ∧ wx = w') := fun wx => numQ wx 0 (by omega)
  clear hT ho hol hz hzl hn ht htl hr hrl
  unfold stuV
  go_enter Tryd.func3, Tryd.ntmps3
  go_upto_region 1 with (fail)
  obtain ⟨P, hP⟩ : ∃ P, w.heap.size = P := ⟨_, rfl⟩
  obtain ⟨w1, hw1⟩ : ∃ w1, w.alloc (.cells #[.int .i64 M, .slice ta tl tc, .slice ra rl rc] 25) = w1 := ⟨_, rfl⟩
  have H1 : Hid (Below w.heap.size w w1) := by rw [← hw1]; exact below_new _
  have hst : StuAt w1 P M ta tl tc ra rl rc := by rw [← hw1, ← hP]; exact heap_alloc_new _ _
  rw [hw1, hP]
  clear hw1 hP
  obtain ⟨b0, b1, b2⟩ := hst.cells
  clear hst
  go_upto_region 2 with (go_at_call 4; refine (HBg.out _ H1.out).mono ?_; rintro e w2 ⟨rt, D, T, rfl, h1⟩; have H2 : Hid (OpQ w1 w2 D T n) := h1; clear h1 HBg)
  clear b0 b1 b2
  obtain ⟨tt, htt⟩ : ∃ tt, T.t = tt := ⟨_, rfl⟩
  have HTt : Hid (T.t = tt) := htt
  obtain ⟨G, hG⟩ : ∃ G, w2.heap.size = G := ⟨_, rfl⟩
  obtain ⟨w3, hw3⟩ : ∃ w3, w2.alloc (.cells #[.int .i64 (n : Int), .int .i64 98, .int .i64 (gI n), .int .i64 (gD n), .int .i64 (gC n)] 29) = w3 := ⟨_, rfl⟩
  have H3 : Hid (OpQ w1 w3 D T n ∧ Bq w1 w3 D T G (.cells #[.int .i64 (n : Int), .int .i64 98, .int .i64 (gI n), .int .i64 (gD n), .int .i64 (gC n)] 29 (0, 0))) := by
    have hb := Bq.new H2.out.spc #[.int .i64 (n : Int), .int .i64 98, .int .i64 (gI n), .int .i64 (gD n), .int .i64 (gC n)] 29
    rw [hw3, hG] at hb
    exact ⟨⟨H2.out.spc.on (by rw [← hw3]; exact below_new _), H2.out.c, H2.out.us⟩, hb⟩
  have H4 : Hid (Below w.heap.size w w3) := H1.out.trans (H3.out.1.spc.ses.bel.mono H1.out.size)
  rw [htt, hw3, hG]
  clear htt hw3 hG H2
  go_upto_region 4 with (go_at_call 5; refine (HKn.out _ H4.out).mono ?_; rintro e w4 ⟨rfl, h1⟩; have H5 : Hid (Below w3.heap.size w3 w4) := h1; clear h1 HKn)
  go_upto_region 5 with (fail)
  obtain ⟨X, hX⟩ : ∃ X, w4.heap.size = X := ⟨_, rfl⟩
  obtain ⟨w6, hw6⟩ : ∃ w6, w4.alloc (.cells #[.int .i64 0, .int .i64 0, .int .i64 0, .int .i64 0, .int .i64 0, .int .i64 0, .int .i64 0, .int .i64 0, .int .i64 0, .int .i64 0, .int .i64 0, .int .i64 0, .int .i64 0, .int .i64 0, .int .i64 0, .int .i64 0, .int .i64 0, .int .i64 0, .int .i64 0, .int .i64 0, .int .i64 0, .int .i64 0, .int .i64 0, .int .i64 0, .int .i64 0, .int .i64 0, .int .i64 0, .int .i64 0, .int .i64 0, .int .i64 0] 36) = w6 := ⟨_, rfl⟩
  have H7 : Hid (OwS w1 w6 D T n 0 G X tt (fun _ _ => 0) (fun _ _ => 0)) := by
    have hb : Below w4.heap.size w4 w6 := by rw [← hw6]; exact below_new _
    have h3 := H3.out.1.spc.on H5.out
    have hx := Bq.new h3 #[.int .i64 0, .int .i64 0, .int .i64 0, .int .i64 0, .int .i64 0, .int .i64 0, .int .i64 0, .int .i64 0, .int .i64 0, .int .i64 0, .int .i64 0, .int .i64 0, .int .i64 0, .int .i64 0, .int .i64 0, .int .i64 0, .int .i64 0, .int .i64 0, .int .i64 0, .int .i64 0, .int .i64 0, .int .i64 0, .int .i64 0, .int .i64 0, .int .i64 0, .int .i64 0, .int .i64 0, .int .i64 0, .int .i64 0, .int .i64 0] 36
    rw [hw6, hX] at hx
    exact ⟨⟨h3.on hb, (H3.out.2.on H5.out).on hb, hx, HTt.out, by have := H3.out.2.out.lt; have := H5.out.size; omega⟩, fun _ _ => ⟨Tre.none (fun _ _ => rfl), Own1.none⟩, fun _ _ h => absurd rfl h, by rw [H3.out.1.us]; simp⟩
  rw [hw6, hX]
  clear hw6 hX H4 H5 H3 HTt
  go_upto_block 0 with (fail)
  obtain ⟨Lb, hLb⟩ : ∃ Lb, w6.heap.size = Lb := ⟨_, rfl⟩
  obtain ⟨w7, hw7⟩ : ∃ w7, w6.alloc (.cells #[.slice oa ol oc, .slice za zl zc] 22) = w7 := ⟨_, rfl⟩
  have H8 : Hid (OwS w1 w7 D T n 0 G X tt (fun _ _ => 0) (fun _ _ => 0) ∧ Bq w1 w7 D T Lb (.cells #[.slice oa ol oc, .slice za zl zc] 22 (0, 0)) ∧ X < Lb) := by
    have hx := Bq.new H7.out.z.spc #[.slice oa ol oc, .slice za zl zc] 22
    rw [hw7, hLb] at hx
    exact ⟨H7.out.on (by rw [← hw7]; exact below_new _), hx, by rw [← hLb]; exact H7.out.z.x.out.lt⟩
  rw [hw7, hLb]
  clear hw7 hLb H7
  go_cut [] (fun wx => ∃ (r : Nat) (T : Tx) (xx : Nat → Nat → Int) (νν : Nat → Nat → Nat), r ≤ 40 ∧ OwS w1 wx D T n r G X tt xx νν)
  case first => as_aux_lemma =>
    go_wp2_with (fail)
    go_loopw [59] (fun s59 wr => ∃ (i r : Nat) (T : Tx) (xx : Nat → Nat → Int) (νν : Nat → Nat → Nat), i ≤ 2 ∧ r ≤ 20 * i ∧ s59 = .int .i64 (i : Int) ∧ OwS w1 wr D T n r G X tt xx νν ∧ Bq w1 wr D T Lb (.cells #[.slice oa ol oc, .slice za zl zc] 22 (0, 0))) (fun s59 _ => 2 - (intOf s59).toNat)
    case atStart => exact ⟨0, 0, T, _, _, by omega, by omega, rfl, H8.out.1, H8.out.2.1⟩
    case round =>
      have HXL : Hid (X < Lb) := H8.out.2.2
      clear H8
      clear T
      obtain ⟨i, r0, T0, xx0, νν0, hi2, hr2, rfl, hst⟩ := hrel
      obtain ⟨wA, hwA⟩ : ∃ wA, wr = wA := ⟨_, rfl⟩
      rw [hwA] at hst ⊢
      clear hwA wr
      have HR0 : Hid (OwS w1 wA D T0 n r0 G X tt xx0 νν0 ∧ Bq w1 wA D T0 Lb (.cells #[.slice oa ol oc, .slice za zl zc] 22 (0, 0))) := hst
      clear hst
      by_cases him : i < 2
      · have hlt : (i : Int) < 2 := by omega
        obtain ⟨la, ll, lc, ls, hcl, hls⟩ : ∃ (la : Option Addr) (ll lc : Nat) (ls : List Int), wA.cell? ⟨Lb, i, none⟩ = some (.slice la ll lc) ∧ Ints w la ls ∧ ls.length = ll := by
          rcases (show i = 0 ∨ i = 1 by omega) with rfl | rfl
          · exact ⟨oa, ol, oc, os, (cell_of_row _ _ _ _ _ _ HR0.out.2.row).trans rfl, HI.out.1, HI.out.2.1⟩
          · exact ⟨za, zl, zc, zs, (cell_of_row _ _ _ _ _ _ HR0.out.2.row).trans rfl, HI.out.2.2.1, HI.out.2.2.2⟩
        have HL : Hid (Ints w la ls ∧ ls.length = ll) := hls
        clear hls
        go_wp2_with (fail)
        clear hcl
        go_loopw [66] (fun s66 wr => ∃ (k r : Nat) (T : Tx) (xx : Nat → Nat → Int) (νν : Nat → Nat → Nat), k ≤ ll ∧ k ≤ 20 ∧ r ≤ 20 * i + k ∧ s66 = .int .i64 (k : Int) ∧ OwS w1 wr D T n r G X tt xx νν ∧ Bq w1 wr D T Lb (.cells #[.slice oa ol oc, .slice za zl zc] 22 (0, 0))) (fun s66 _ => ll - (intOf s66).toNat)
        case atStart => exact ⟨0, r0, T0, _, _, by omega, by omega, by omega, rfl, HR0.out⟩
        case round =>
          clear HR0
          clear T0 hr2
          obtain ⟨k, r, T, xx, νν, hkl, hk20, hr2, rfl, hst⟩ := hrel
          obtain ⟨wA1, hwA⟩ : ∃ wA1, wr = wA1 := ⟨_, rfl⟩
          rw [hwA] at hst ⊢
          clear hwA wr
          have HR : Hid (OwS w1 wA1 D T n r G X tt xx νν ∧ Bq w1 wA1 D T Lb (.cells #[.slice oa ol oc, .slice za zl zc] 22 (0, 0))) := hst
          clear hst
          by_cases hkm : k < ll
          · have hltk : (k : Int) < (ll : Int) := by omega
            obtain ⟨v, ib, io, rfl, hcv⟩ : ∃ (v : Int) (ib io : Nat), la = some ⟨ib, io, none⟩ ∧ wA1.cell? ⟨ib, io + k, none⟩ = some (.int .i64 v) := by
              have hb : Below w.heap.size w wA1 := H1.out.trans (HR.out.1.z.spc.ses.bel.mono H1.out.size)
              rcases (HL.out.1.on hb).at_ with e | ⟨b, off, e, hc⟩
              · have := HL.out.2; rw [e] at this; simp at this; omega
              · exact ⟨nth ls k, b, off, e, hc k (by have := HL.out.2; omega)⟩
            by_cases hk2 : k < 20
            · have hk3 : ¬ (20 : Int) ≤ (k : Int) := by omega
              obtain ⟨q, hq⟩ : ∃ q, ixQ v = q := ⟨_, rfl⟩
              have hqb : q < 16522 := by rw [← hq]; exact ixQ_bd v
              have HIv : Hid (∀ wx, Calls Tryd.prog 7 #[.int .i64 v] wx fun e w' => e = .returned (.int .i64 (q : Int)) ∧ wx = w') := fun wx => by have := HIx.out wx v; rw [hq] at this; exact this
              clear hq
              go_upto_region 12 with (fail)
              clear hcv
              go_cut [16, 17, 18] (fun s16 s17 s18 wx => ∃ (Yb N z : Nat) (y : Nat → Int) (T1 : Tx), s16 = .pointer (some ⟨Yb, 0, none⟩) ∧ s17 = .int .i64 (N : Int) ∧ s18 = .int .i64 (z : Int) ∧ AdW w1 wx D T T1 n q r G X tt i Yb xx νν y N z ∧ Bq w1 wx D T1 Lb (.cells #[.slice oa ol oc, .slice za zl zc] 22 (0, 0)))
              case first => as_aux_lemma =>
                have HAd : Hid (∀ wx, OwS w1 wx D T n r G X tt xx νν → Calls Tryd.prog 6 #[.pointer (some ⟨tt, 0, none⟩), .agg #[.int .i64 (n : Int), .int .i64 98, .int .i64 (gI n), .int .i64 (gD n), .int .i64 (gC n)], .agg #[.int .i64 (xx i 0), .int .i64 (xx i 1), .int .i64 (xx i 2), .int .i64 (xx i 3), .int .i64 (xx i 4), .int .i64 (xx i 5), .int .i64 (xx i 6), .int .i64 (xx i 7), .int .i64 (xx i 8), .int .i64 (xx i 9), .int .i64 (xx i 10), .int .i64 (xx i 11), .int .i64 (xx i 12), .int .i64 (xx i 13), .int .i64 (xx i 14)], .int .i64 (q : Int)] wx fun e w' => ∃ (N z : Nat) (y : Nat → Int) (T' : Tx), e = .returned (.tuple #[.agg #[.int .i64 (y 0), .int .i64 (y 1), .int .i64 (y 2), .int .i64 (y 3), .int .i64 (y 4), .int .i64 (y 5), .int .i64 (y 6), .int .i64 (y 7), .int .i64 (y 8), .int .i64 (y 9), .int .i64 (y 10), .int .i64 (y 11), .int .i64 (y 12), .int .i64 (y 13), .int .i64 (y 14)], .int .i64 (N : Int), .int .i64 (z : Int)]) ∧ AdO w1 wx w' D T T' n q (xx i) (νν i) y N z) := fun wx hx => by
                  have h9 := add_any w1 wx D T n hx.z.spc (HT.out.on H1.out) (xx i) (νν i) (hx.wd i him) q hqb (by have := hx.us; omega)
                  rw [hx.z.t] at h9
                  exact h9
                have HDr : Hid (OwS w1 wA1.drew D T n r G X tt xx νν ∧ Bq w1 wA1.drew D T Lb (.cells #[.slice oa ol oc, .slice za zl zc] 22 (0, 0))) := ⟨HR.out.1.on (Below.refl _ _).drew, HR.out.2.on (Below.refl _ _).drew⟩
                have HZ1 : Hid (OwS w1 (wA1.alloc (.cells #[.int .i64 0, .int .i64 0, .int .i64 0, .int .i64 0, .int .i64 0, .int .i64 0, .int .i64 0, .int .i64 0, .int .i64 0, .int .i64 0, .int .i64 0, .int .i64 0, .int .i64 0, .int .i64 0, .int .i64 0] 35)).drew D T n r G X tt xx νν ∧ Bq w1 (wA1.alloc (.cells #[.int .i64 0, .int .i64 0, .int .i64 0, .int .i64 0, .int .i64 0, .int .i64 0, .int .i64 0, .int .i64 0, .int .i64 0, .int .i64 0, .int .i64 0, .int .i64 0, .int .i64 0, .int .i64 0, .int .i64 0] 35)).drew D T Lb (.cells #[.slice oa ol oc, .slice za zl zc] 22 (0, 0))) := ⟨(HR.out.1.on (below_new _)).on (Below.refl _ _).drew, (HR.out.2.on (below_new _)).on (Below.refl _ _).drew⟩
                have HZ2 : Hid (Bq w1 (wA1.alloc (.cells #[.int .i64 0, .int .i64 0, .int .i64 0, .int .i64 0, .int .i64 0, .int .i64 0, .int .i64 0, .int .i64 0, .int .i64 0, .int .i64 0, .int .i64 0, .int .i64 0, .int .i64 0, .int .i64 0, .int .i64 0] 35)).drew D T wA1.heap.size (.cells #[.int .i64 0, .int .i64 0, .int .i64 0, .int .i64 0, .int .i64 0, .int .i64 0, .int .i64 0, .int .i64 0, .int .i64 0, .int .i64 0, .int .i64 0, .int .i64 0, .int .i64 0, .int .i64 0, .int .i64 0] 35 (0, 0))) := (Bq.new HR.out.1.z.spc _ _).on (Below.refl _ _).drew
                have hS0 := HDr.out.1.z.s20 him
                have hS1 := HZ1.out.1.z.s20 him
                have HGX : Hid (G < wA1.heap.size ∧ X < wA1.heap.size ∧ Lb < wA1.heap.size) := ⟨HR.out.1.z.g.out.lt, HR.out.1.z.x.out.lt, HR.out.2.out.lt⟩
                refine wp_region_held_drew (S := S20o (xx i) n G X (i * 15)) (by as_aux_lemma => kernel_rfl) ?_ (fun hHeld => ?_)
                · (try dsimp only); first | (with_reducible exact hS0) | (with_reducible exact hS1) | (with_reducible exact hS5) | (with_reducible exact hS6) | (have hh := HZa.out; clear hh; with_reducible exact s20o_row hS5 _ (by have := HGX.out; omega) (by have := HGX.out; omega)) | (with_reducible exact s20o_row hS6 _ (by have := HGY.out; omega) (by have := HGY.out; omega))
                refine wpAnyH_take (i := 0) (v := ?_) rfl (by as_aux_lemma => kernel_rfl) (by as_aux_lemma => kernel_rfl) (by as_aux_lemma => kernel_rfl) (fun _ _ _ h => h) (Or.inl ⟨by rfl, ?_⟩) (by assumption) ?_
                rotate_left
                focus (intro w hSw; unfold S20o at hSw; obtain ⟨a0, a1, a2, a3, a4, x0, x1, x2, x3, x4, x5, x6, x7, x8, x9, x10, x11, x12, x13, x14⟩ := hSw; go_simp; (try (with_reducible rfl)); done)
                try go_simp
                refine wpAnyH_take (i := 1) (v := ?_) rfl (by as_aux_lemma => kernel_rfl) (by as_aux_lemma => kernel_rfl) (by as_aux_lemma => kernel_rfl) (fun _ _ _ h => h) (Or.inl ⟨by rfl, ?_⟩) (by assumption) ?_
                rotate_left
                focus (intro w hSw; unfold S20o at hSw; obtain ⟨a0, a1, a2, a3, a4, x0, x1, x2, x3, x4, x5, x6, x7, x8, x9, x10, x11, x12, x13, x14⟩ := hSw; go_simp; (try (with_reducible rfl)); done)
                try go_simp
                refine wpAnyH_take (i := 2) (v := ?_) rfl (by as_aux_lemma => kernel_rfl) (by as_aux_lemma => kernel_rfl) (by as_aux_lemma => kernel_rfl) (fun _ _ _ h => h) (Or.inl ⟨by rfl, ?_⟩) (by assumption) ?_
                rotate_left
                focus (intro w hSw; unfold S20o at hSw; obtain ⟨a0, a1, a2, a3, a4, x0, x1, x2, x3, x4, x5, x6, x7, x8, x9, x10, x11, x12, x13, x14⟩ := hSw; go_simp; (try (with_reducible rfl)); done)
                try go_simp
                refine wpAnyH_take (i := 3) (v := ?_) rfl (by as_aux_lemma => kernel_rfl) (by as_aux_lemma => kernel_rfl) (by as_aux_lemma => kernel_rfl) (fun _ _ _ h => h) (Or.inl ⟨by rfl, ?_⟩) (by assumption) ?_
                rotate_left
                focus (intro w hSw; unfold S20o at hSw; obtain ⟨a0, a1, a2, a3, a4, x0, x1, x2, x3, x4, x5, x6, x7, x8, x9, x10, x11, x12, x13, x14⟩ := hSw; go_simp; (try (with_reducible rfl)); done)
                try go_simp
                refine wpAnyH_take (i := 4) (v := ?_) rfl (by as_aux_lemma => kernel_rfl) (by as_aux_lemma => kernel_rfl) (by as_aux_lemma => kernel_rfl) (fun _ _ _ h => h) (Or.inl ⟨by rfl, ?_⟩) (by assumption) ?_
                rotate_left
                focus (intro w hSw; unfold S20o at hSw; obtain ⟨a0, a1, a2, a3, a4, x0, x1, x2, x3, x4, x5, x6, x7, x8, x9, x10, x11, x12, x13, x14⟩ := hSw; go_simp; (try (with_reducible rfl)); done)
                try go_simp
                refine wpAnyH_take (i := 5) (v := ?_) rfl (by as_aux_lemma => kernel_rfl) (by as_aux_lemma => kernel_rfl) (by as_aux_lemma => kernel_rfl) (fun _ _ _ h => h) (Or.inl ⟨by rfl, ?_⟩) (by assumption) ?_
                rotate_left
                focus (intro w hSw; unfold S20o at hSw; obtain ⟨a0, a1, a2, a3, a4, x0, x1, x2, x3, x4, x5, x6, x7, x8, x9, x10, x11, x12, x13, x14⟩ := hSw; go_simp; (try (with_reducible rfl)); done)
                try go_simp
                refine wpAnyH_ready (rs := [6, 12]) (by as_aux_lemma => kernel_rfl) (by simp) ?_
                refine AllReadyH.cons rfl (fun K hK => ?_) ?_
                · (go_simp; go_at_call 7; refine (HIv.out _).mono ?_; rintro e wq ⟨rfl, rfl⟩; go_simp)
                  refine hK.out _ _ ?_ (fun hHeld => ?_)
                  · (try dsimp only); first | (with_reducible exact hS0) | (with_reducible exact hS1) | (with_reducible exact hS5) | (with_reducible exact hS6) | (have hh := HZa.out; clear hh; with_reducible exact s20o_row hS5 _ (by have := HGX.out; omega) (by have := HGX.out; omega)) | (with_reducible exact s20o_row hS6 _ (by have := HGY.out; omega) (by have := HGY.out; omega))
                  clear hK K
                  refine wpAnyH_ready (rs := [7, 12]) (by as_aux_lemma => kernel_rfl) (by simp) ?_
                  refine AllReadyH.cons rfl (fun K hK => ?_) ?_
                  · (go_simp; go_at_call 6; first | ((with_reducible refine (HAd.out _ HZ1.out.1).mono ?_); rintro e wd ⟨N, z, y, T1, rfl, h1⟩; have H5 : Hid (AdO w1 (wA1.alloc (.cells #[.int .i64 0, .int .i64 0, .int .i64 0, .int .i64 0, .int .i64 0, .int .i64 0, .int .i64 0, .int .i64 0, .int .i64 0, .int .i64 0, .int .i64 0, .int .i64 0, .int .i64 0, .int .i64 0, .int .i64 0] 35)).drew wd D T T1 n q (xx i) (νν i) y N z) := h1; have hS5 := HZ1.out.1.adz h1 him; have HRo := (HZ2.out.mv h1.mv.2).row; have HZa : Hid True := trivial; clear h1) | ((with_reducible refine (HAd.out _ HDr.out.1).mono ?_); rintro e wd ⟨N, z, y, T1, rfl, h1⟩; have H5 : Hid (AdO w1 wA1.drew wd D T T1 n q (xx i) (νν i) y N z) := h1; have hS5 := HDr.out.1.adz h1 him; have hS6 := ((HDr.out.1.z.mv h1.mv.1 h1.mv.2).on (below_new (.cells #[.int .i64 0, .int .i64 0, .int .i64 0, .int .i64 0, .int .i64 0, .int .i64 0, .int .i64 0, .int .i64 0, .int .i64 0, .int .i64 0, .int .i64 0, .int .i64 0, .int .i64 0, .int .i64 0, .int .i64 0] 35))).s20 him; have HGY : Hid (G < wd.heap.size ∧ X < wd.heap.size ∧ Lb < wd.heap.size) := ⟨(HDr.out.1.z.mv h1.mv.1 h1.mv.2).g.out.lt, (HDr.out.1.z.mv h1.mv.1 h1.mv.2).x.out.lt, (HDr.out.2.mv h1.mv.2).out.lt⟩; have HRo := heap_alloc_new wd (.cells #[.int .i64 0, .int .i64 0, .int .i64 0, .int .i64 0, .int .i64 0, .int .i64 0, .int .i64 0, .int .i64 0, .int .i64 0, .int .i64 0, .int .i64 0, .int .i64 0, .int .i64 0, .int .i64 0, .int .i64 0] 35); clear h1); go_simp)
                    refine hK.out _ _ ?_ (fun hHeld => ?_)
                    · (try dsimp only); first | (with_reducible exact hS0) | (with_reducible exact hS1) | (with_reducible exact hS5) | (with_reducible exact hS6) | (have hh := HZa.out; clear hh; with_reducible exact s20o_row hS5 _ (by have := HGX.out; omega) (by have := HGX.out; omega)) | (with_reducible exact s20o_row hS6 _ (by have := HGY.out; omega) (by have := HGY.out; omega))
                    clear hK K
                    refine wpAnyH_take (i := 8) (v := ?_) rfl (by as_aux_lemma => kernel_rfl) (by as_aux_lemma => kernel_rfl) (by as_aux_lemma => kernel_rfl) (fun _ _ _ h => h) (Or.inl ⟨by rfl, ?_⟩) (by assumption) ?_
                    rotate_left
                    focus (intro w hSw; unfold S20o at hSw; obtain ⟨a0, a1, a2, a3, a4, x0, x1, x2, x3, x4, x5, x6, x7, x8, x9, x10, x11, x12, x13, x14⟩ := hSw; go_simp; (try (with_reducible rfl)); done)
                    try go_simp
                    refine wpAnyH_take (i := 9) (v := ?_) rfl (by as_aux_lemma => kernel_rfl) (by as_aux_lemma => kernel_rfl) (by as_aux_lemma => kernel_rfl) (fun _ _ _ h => h) (Or.inl ⟨by rfl, ?_⟩) (by assumption) ?_
                    rotate_left
                    focus (intro w hSw; unfold S20o at hSw; obtain ⟨a0, a1, a2, a3, a4, x0, x1, x2, x3, x4, x5, x6, x7, x8, x9, x10, x11, x12, x13, x14⟩ := hSw; go_simp; (try (with_reducible rfl)); done)
                    try go_simp
                    refine wpAnyH_take (i := 10) (v := ?_) rfl (by as_aux_lemma => kernel_rfl) (by as_aux_lemma => kernel_rfl) (by as_aux_lemma => kernel_rfl) (fun _ _ _ h => h) (Or.inl ⟨by rfl, ?_⟩) (by assumption) ?_
                    rotate_left
                    focus (intro w hSw; unfold S20o at hSw; obtain ⟨a0, a1, a2, a3, a4, x0, x1, x2, x3, x4, x5, x6, x7, x8, x9, x10, x11, x12, x13, x14⟩ := hSw; go_simp; (try (with_reducible rfl)); done)
                    try go_simp
                    refine wpAnyH_take (i := 11) (v := ?_) rfl (by as_aux_lemma => kernel_rfl) (by as_aux_lemma => kernel_rfl) (by as_aux_lemma => kernel_rfl) (fun _ _ _ h => h) (Or.inl ⟨by rfl, ?_⟩) (by assumption) ?_
                    rotate_left
                    focus (intro w hSw; unfold S20o at hSw; obtain ⟨a0, a1, a2, a3, a4, x0, x1, x2, x3, x4, x5, x6, x7, x8, x9, x10, x11, x12, x13, x14⟩ := hSw; go_simp; (try (with_reducible rfl)); done)
                    try go_simp
                    refine wpAnyH_ready (rs := [12]) (by as_aux_lemma => kernel_rfl) (by simp) ?_
                    refine AllReadyH.cons rfl (fun K hK => ?_) ?_
                    · go_simp
                      refine hK.out _ _ ?_ (fun hHeld => ?_)
                      · (try dsimp only); first | (with_reducible exact hS0) | (with_reducible exact hS1) | (with_reducible exact hS5) | (with_reducible exact hS6) | (have hh := HZa.out; clear hh; with_reducible exact s20o_row hS5 _ (by have := HGX.out; omega) (by have := HGX.out; omega)) | (with_reducible exact s20o_row hS6 _ (by have := HGY.out; omega) (by have := HGY.out; omega))
                      clear hK K
                      refine wpAnyH_ready (rs := [13]) (by as_aux_lemma => kernel_rfl) (by simp) ?_
                      refine AllReadyH.cons rfl (fun K hK => ?_) ?_
                      · (first | (have hh := HZa.out; clear hh; refine wp_store_row 35 _ _ rfl wA1.heap.size #[.int .i64 (y 0), .int .i64 (y 1), .int .i64 (y 2), .int .i64 (y 3), .int .i64 (y 4), .int .i64 (y 5), .int .i64 (y 6), .int .i64 (y 7), .int .i64 (y 8), .int .i64 (y 9), .int .i64 (y 10), .int .i64 (y 11), .int .i64 (y 12), .int .i64 (y 13), .int .i64 (y 14)] rfl rfl 35 #[.int .i64 0, .int .i64 0, .int .i64 0, .int .i64 0, .int .i64 0, .int .i64 0, .int .i64 0, .int .i64 0, .int .i64 0, .int .i64 0, .int .i64 0, .int .i64 0, .int .i64 0, .int .i64 0, .int .i64 0] HRo szIo rfl (oneCo y) ?_) | (refine wp_store_row 35 _ _ rfl wd.heap.size #[.int .i64 (y 0), .int .i64 (y 1), .int .i64 (y 2), .int .i64 (y 3), .int .i64 (y 4), .int .i64 (y 5), .int .i64 (y 6), .int .i64 (y 7), .int .i64 (y 8), .int .i64 (y 9), .int .i64 (y 10), .int .i64 (y 11), .int .i64 (y 12), .int .i64 (y 13), .int .i64 (y 14)] rfl rfl 35 #[.int .i64 0, .int .i64 0, .int .i64 0, .int .i64 0, .int .i64 0, .int .i64 0, .int .i64 0, .int .i64 0, .int .i64 0, .int .i64 0, .int .i64 0, .int .i64 0, .int .i64 0, .int .i64 0, .int .i64 0] HRo szIo rfl (oneCo y) ?_))
                        refine hK.out _ _ ?_ (fun hHeld => ?_)
                        · (try dsimp only); first | (with_reducible exact hS0) | (with_reducible exact hS1) | (with_reducible exact hS5) | (with_reducible exact hS6) | (have hh := HZa.out; clear hh; with_reducible exact s20o_row hS5 _ (by have := HGX.out; omega) (by have := HGX.out; omega)) | (with_reducible exact s20o_row hS6 _ (by have := HGY.out; omega) (by have := HGY.out; omega))
                        clear hK K
                        refine wpAnyH_take (i := 14) (v := ?_) rfl (by as_aux_lemma => kernel_rfl) (by as_aux_lemma => kernel_rfl) (by as_aux_lemma => kernel_rfl) (fun _ _ _ h => h) (Or.inl ⟨by rfl, ?_⟩) (by assumption) ?_
                        rotate_left
                        focus (intro w hSw; unfold S20o at hSw; obtain ⟨a0, a1, a2, a3, a4, x0, x1, x2, x3, x4, x5, x6, x7, x8, x9, x10, x11, x12, x13, x14⟩ := hSw; go_simp; (try (with_reducible rfl)); done)
                        try go_simp
                        refine wpAnyH_take (i := 15) (v := ?_) rfl (by as_aux_lemma => kernel_rfl) (by as_aux_lemma => kernel_rfl) (by as_aux_lemma => kernel_rfl) (fun _ _ _ h => h) (Or.inl ⟨by rfl, ?_⟩) (by assumption) ?_
                        rotate_left
                        focus (intro w hSw; unfold S20o at hSw; obtain ⟨a0, a1, a2, a3, a4, x0, x1, x2, x3, x4, x5, x6, x7, x8, x9, x10, x11, x12, x13, x14⟩ := hSw; go_simp; (try (with_reducible rfl)); done)
                        try go_simp
                        refine wpAnyH_done (by as_aux_lemma => kernel_rfl) ?_ _
                        go_wp2
                        go_meet
                        case rel => first | (have hh := HZa.out; clear hh; exact ⟨_, N, z, y, T1, rfl, rfl, rfl, H5.out.w HZ1.out.1 (Below.refl _ _) (HZ2.out.mv H5.out.mv.2) (setRow_fr _ _ _) (setRow_heap _ _ _ _ _ _ HRo) (by have := HGX.out; omega) (by have := HGX.out; omega), H5.out.lit HZ1.out.2 (Below.refl _ _) (setRow_fr _ _ _) (by have := HGX.out; omega)⟩) | exact ⟨_, N, z, y, T1, rfl, rfl, rfl, H5.out.w HDr.out.1 (below_new _) (Bq.new H5.out.mv.1 _ _) (setRow_fr _ _ _) (setRow_heap _ _ _ _ _ _ HRo) (by have := HGY.out; omega) (by have := HGY.out; omega), H5.out.lit HDr.out.2 (below_new _) (setRow_fr _ _ _) (by have := HGY.out; omega)⟩
                      exact AllReadyH.nil
                    exact AllReadyH.nil
                  refine AllReadyH.cons rfl (fun K hK => ?_) ?_
                  · go_simp
                    refine hK.out _ _ ?_ (fun hHeld => ?_)
                    · (try dsimp only); first | (with_reducible exact hS0) | (with_reducible exact hS1) | (with_reducible exact hS5) | (with_reducible exact hS6) | (have hh := HZa.out; clear hh; with_reducible exact s20o_row hS5 _ (by have := HGX.out; omega) (by have := HGX.out; omega)) | (with_reducible exact s20o_row hS6 _ (by have := HGY.out; omega) (by have := HGY.out; omega))
                    clear hK K
                    refine wpAnyH_ready (rs := [7]) (by as_aux_lemma => kernel_rfl) (by simp) ?_
                    refine AllReadyH.cons rfl (fun K hK => ?_) ?_
                    · (go_simp; go_at_call 6; first | ((with_reducible refine (HAd.out _ HZ1.out.1).mono ?_); rintro e wd ⟨N, z, y, T1, rfl, h1⟩; have H5 : Hid (AdO w1 (wA1.alloc (.cells #[.int .i64 0, .int .i64 0, .int .i64 0, .int .i64 0, .int .i64 0, .int .i64 0, .int .i64 0, .int .i64 0, .int .i64 0, .int .i64 0, .int .i64 0, .int .i64 0, .int .i64 0, .int .i64 0, .int .i64 0] 35)).drew wd D T T1 n q (xx i) (νν i) y N z) := h1; have hS5 := HZ1.out.1.adz h1 him; have HRo := (HZ2.out.mv h1.mv.2).row; have HZa : Hid True := trivial; clear h1) | ((with_reducible refine (HAd.out _ HDr.out.1).mono ?_); rintro e wd ⟨N, z, y, T1, rfl, h1⟩; have H5 : Hid (AdO w1 wA1.drew wd D T T1 n q (xx i) (νν i) y N z) := h1; have hS5 := HDr.out.1.adz h1 him; have hS6 := ((HDr.out.1.z.mv h1.mv.1 h1.mv.2).on (below_new (.cells #[.int .i64 0, .int .i64 0, .int .i64 0, .int .i64 0, .int .i64 0, .int .i64 0, .int .i64 0, .int .i64 0, .int .i64 0, .int .i64 0, .int .i64 0, .int .i64 0, .int .i64 0, .int .i64 0, .int .i64 0] 35))).s20 him; have HGY : Hid (G < wd.heap.size ∧ X < wd.heap.size ∧ Lb < wd.heap.size) := ⟨(HDr.out.1.z.mv h1.mv.1 h1.mv.2).g.out.lt, (HDr.out.1.z.mv h1.mv.1 h1.mv.2).x.out.lt, (HDr.out.2.mv h1.mv.2).out.lt⟩; have HRo := heap_alloc_new wd (.cells #[.int .i64 0, .int .i64 0, .int .i64 0, .int .i64 0, .int .i64 0, .int .i64 0, .int .i64 0, .int .i64 0, .int .i64 0, .int .i64 0, .int .i64 0, .int .i64 0, .int .i64 0, .int .i64 0, .int .i64 0] 35); clear h1); go_simp)
                      refine hK.out _ _ ?_ (fun hHeld => ?_)
                      · (try dsimp only); first | (with_reducible exact hS0) | (with_reducible exact hS1) | (with_reducible exact hS5) | (with_reducible exact hS6) | (have hh := HZa.out; clear hh; with_reducible exact s20o_row hS5 _ (by have := HGX.out; omega) (by have := HGX.out; omega)) | (with_reducible exact s20o_row hS6 _ (by have := HGY.out; omega) (by have := HGY.out; omega))
                      clear hK K
                      refine wpAnyH_take (i := 8) (v := ?_) rfl (by as_aux_lemma => kernel_rfl) (by as_aux_lemma => kernel_rfl) (by as_aux_lemma => kernel_rfl) (fun _ _ _ h => h) (Or.inl ⟨by rfl, ?_⟩) (by assumption) ?_
                      rotate_left
                      focus (intro w hSw; unfold S20o at hSw; obtain ⟨a0, a1, a2, a3, a4, x0, x1, x2, x3, x4, x5, x6, x7, x8, x9, x10, x11, x12, x13, x14⟩ := hSw; go_simp; (try (with_reducible rfl)); done)
                      try go_simp
                      refine wpAnyH_take (i := 9) (v := ?_) rfl (by as_aux_lemma => kernel_rfl) (by as_aux_lemma => kernel_rfl) (by as_aux_lemma => kernel_rfl) (fun _ _ _ h => h) (Or.inl ⟨by rfl, ?_⟩) (by assumption) ?_
                      rotate_left
                      focus (intro w hSw; unfold S20o at hSw; obtain ⟨a0, a1, a2, a3, a4, x0, x1, x2, x3, x4, x5, x6, x7, x8, x9, x10, x11, x12, x13, x14⟩ := hSw; go_simp; (try (with_reducible rfl)); done)
                      try go_simp
                      refine wpAnyH_take (i := 10) (v := ?_) rfl (by as_aux_lemma => kernel_rfl) (by as_aux_lemma => kernel_rfl) (by as_aux_lemma => kernel_rfl) (fun _ _ _ h => h) (Or.inl ⟨by rfl, ?_⟩) (by assumption) ?_
                      rotate_left
                      focus (intro w hSw; unfold S20o at hSw; obtain ⟨a0, a1, a2, a3, a4, x0, x1, x2, x3, x4, x5, x6, x7, x8, x9, x10, x11, x12, x13, x14⟩ := hSw; go_simp; (try (with_reducible rfl)); done)
                      try go_simp
                      refine wpAnyH_take (i := 11) (v := ?_) rfl (by as_aux_lemma => kernel_rfl) (by as_aux_lemma => kernel_rfl) (by as_aux_lemma => kernel_rfl) (fun _ _ _ h => h) (Or.inl ⟨by rfl, ?_⟩) (by assumption) ?_
                      rotate_left
                      focus (intro w hSw; unfold S20o at hSw; obtain ⟨a0, a1, a2, a3, a4, x0, x1, x2, x3, x4, x5, x6, x7, x8, x9, x10, x11, x12, x13, x14⟩ := hSw; go_simp; (try (with_reducible rfl)); done)
                      try go_simp
                      refine wpAnyH_ready (rs := [13]) (by as_aux_lemma => kernel_rfl) (by simp) ?_
                      refine AllReadyH.cons rfl (fun K hK => ?_) ?_
                      · (first | (have hh := HZa.out; clear hh; refine wp_store_row 35 _ _ rfl wA1.heap.size #[.int .i64 (y 0), .int .i64 (y 1), .int .i64 (y 2), .int .i64 (y 3), .int .i64 (y 4), .int .i64 (y 5), .int .i64 (y 6), .int .i64 (y 7), .int .i64 (y 8), .int .i64 (y 9), .int .i64 (y 10), .int .i64 (y 11), .int .i64 (y 12), .int .i64 (y 13), .int .i64 (y 14)] rfl rfl 35 #[.int .i64 0, .int .i64 0, .int .i64 0, .int .i64 0, .int .i64 0, .int .i64 0, .int .i64 0, .int .i64 0, .int .i64 0, .int .i64 0, .int .i64 0, .int .i64 0, .int .i64 0, .int .i64 0, .int .i64 0] HRo szIo rfl (oneCo y) ?_) | (refine wp_store_row 35 _ _ rfl wd.heap.size #[.int .i64 (y 0), .int .i64 (y 1), .int .i64 (y 2), .int .i64 (y 3), .int .i64 (y 4), .int .i64 (y 5), .int .i64 (y 6), .int .i64 (y 7), .int .i64 (y 8), .int .i64 (y 9), .int .i64 (y 10), .int .i64 (y 11), .int .i64 (y 12), .int .i64 (y 13), .int .i64 (y 14)] rfl rfl 35 #[.int .i64 0, .int .i64 0, .int .i64 0, .int .i64 0, .int .i64 0, .int .i64 0, .int .i64 0, .int .i64 0, .int .i64 0, .int .i64 0, .int .i64 0, .int .i64 0, .int .i64 0, .int .i64 0, .int .i64 0] HRo szIo rfl (oneCo y) ?_))
                        refine hK.out _ _ ?_ (fun hHeld => ?_)
                        · (try dsimp only); first | (with_reducible exact hS0) | (with_reducible exact hS1) | (with_reducible exact hS5) | (with_reducible exact hS6) | (have hh := HZa.out; clear hh; with_reducible exact s20o_row hS5 _ (by have := HGX.out; omega) (by have := HGX.out; omega)) | (with_reducible exact s20o_row hS6 _ (by have := HGY.out; omega) (by have := HGY.out; omega))
                        clear hK K
                        refine wpAnyH_take (i := 14) (v := ?_) rfl (by as_aux_lemma => kernel_rfl) (by as_aux_lemma => kernel_rfl) (by as_aux_lemma => kernel_rfl) (fun _ _ _ h => h) (Or.inl ⟨by rfl, ?_⟩) (by assumption) ?_
                        rotate_left
                        focus (intro w hSw; unfold S20o at hSw; obtain ⟨a0, a1, a2, a3, a4, x0, x1, x2, x3, x4, x5, x6, x7, x8, x9, x10, x11, x12, x13, x14⟩ := hSw; go_simp; (try (with_reducible rfl)); done)
                        try go_simp
                        refine wpAnyH_take (i := 15) (v := ?_) rfl (by as_aux_lemma => kernel_rfl) (by as_aux_lemma => kernel_rfl) (by as_aux_lemma => kernel_rfl) (fun _ _ _ h => h) (Or.inl ⟨by rfl, ?_⟩) (by assumption) ?_
                        rotate_left
                        focus (intro w hSw; unfold S20o at hSw; obtain ⟨a0, a1, a2, a3, a4, x0, x1, x2, x3, x4, x5, x6, x7, x8, x9, x10, x11, x12, x13, x14⟩ := hSw; go_simp; (try (with_reducible rfl)); done)
                        try go_simp
                        refine wpAnyH_done (by as_aux_lemma => kernel_rfl) ?_ _
                        go_wp2
                        go_meet
                        case rel => first | (have hh := HZa.out; clear hh; exact ⟨_, N, z, y, T1, rfl, rfl, rfl, H5.out.w HZ1.out.1 (Below.refl _ _) (HZ2.out.mv H5.out.mv.2) (setRow_fr _ _ _) (setRow_heap _ _ _ _ _ _ HRo) (by have := HGX.out; omega) (by have := HGX.out; omega), H5.out.lit HZ1.out.2 (Below.refl _ _) (setRow_fr _ _ _) (by have := HGX.out; omega)⟩) | exact ⟨_, N, z, y, T1, rfl, rfl, rfl, H5.out.w HDr.out.1 (below_new _) (Bq.new H5.out.mv.1 _ _) (setRow_fr _ _ _) (setRow_heap _ _ _ _ _ _ HRo) (by have := HGY.out; omega) (by have := HGY.out; omega), H5.out.lit HDr.out.2 (below_new _) (setRow_fr _ _ _) (by have := HGY.out; omega)⟩
                      exact AllReadyH.nil
                    exact AllReadyH.nil
                  exact AllReadyH.nil
                refine AllReadyH.cons rfl (fun K hK => ?_) ?_
                · go_simp
                  refine hK.out _ _ ?_ (fun hHeld => ?_)
                  · (try dsimp only); first | (with_reducible exact hS0) | (with_reducible exact hS1) | (with_reducible exact hS5) | (with_reducible exact hS6) | (have hh := HZa.out; clear hh; with_reducible exact s20o_row hS5 _ (by have := HGX.out; omega) (by have := HGX.out; omega)) | (with_reducible exact s20o_row hS6 _ (by have := HGY.out; omega) (by have := HGY.out; omega))
                  clear hK K
                  refine wpAnyH_ready (rs := [6]) (by as_aux_lemma => kernel_rfl) (by simp) ?_
                  refine AllReadyH.cons rfl (fun K hK => ?_) ?_
                  · (go_simp; go_at_call 7; refine (HIv.out _).mono ?_; rintro e wq ⟨rfl, rfl⟩; go_simp)
                    refine hK.out _ _ ?_ (fun hHeld => ?_)
                    · (try dsimp only); first | (with_reducible exact hS0) | (with_reducible exact hS1) | (with_reducible exact hS5) | (with_reducible exact hS6) | (have hh := HZa.out; clear hh; with_reducible exact s20o_row hS5 _ (by have := HGX.out; omega) (by have := HGX.out; omega)) | (with_reducible exact s20o_row hS6 _ (by have := HGY.out; omega) (by have := HGY.out; omega))
                    clear hK K
                    refine wpAnyH_ready (rs := [7]) (by as_aux_lemma => kernel_rfl) (by simp) ?_
                    refine AllReadyH.cons rfl (fun K hK => ?_) ?_
                    · (go_simp; go_at_call 6; first | ((with_reducible refine (HAd.out _ HZ1.out.1).mono ?_); rintro e wd ⟨N, z, y, T1, rfl, h1⟩; have H5 : Hid (AdO w1 (wA1.alloc (.cells #[.int .i64 0, .int .i64 0, .int .i64 0, .int .i64 0, .int .i64 0, .int .i64 0, .int .i64 0, .int .i64 0, .int .i64 0, .int .i64 0, .int .i64 0, .int .i64 0, .int .i64 0, .int .i64 0, .int .i64 0] 35)).drew wd D T T1 n q (xx i) (νν i) y N z) := h1; have hS5 := HZ1.out.1.adz h1 him; have HRo := (HZ2.out.mv h1.mv.2).row; have HZa : Hid True := trivial; clear h1) | ((with_reducible refine (HAd.out _ HDr.out.1).mono ?_); rintro e wd ⟨N, z, y, T1, rfl, h1⟩; have H5 : Hid (AdO w1 wA1.drew wd D T T1 n q (xx i) (νν i) y N z) := h1; have hS5 := HDr.out.1.adz h1 him; have hS6 := ((HDr.out.1.z.mv h1.mv.1 h1.mv.2).on (below_new (.cells #[.int .i64 0, .int .i64 0, .int .i64 0, .int .i64 0, .int .i64 0, .int .i64 0, .int .i64 0, .int .i64 0, .int .i64 0, .int .i64 0, .int .i64 0, .int .i64 0, .int .i64 0, .int .i64 0, .int .i64 0] 35))).s20 him; have HGY : Hid (G < wd.heap.size ∧ X < wd.heap.size ∧ Lb < wd.heap.size) := ⟨(HDr.out.1.z.mv h1.mv.1 h1.mv.2).g.out.lt, (HDr.out.1.z.mv h1.mv.1 h1.mv.2).x.out.lt, (HDr.out.2.mv h1.mv.2).out.lt⟩; have HRo := heap_alloc_new wd (.cells #[.int .i64 0, .int .i64 0, .int .i64 0, .int .i64 0, .int .i64 0, .int .i64 0, .int .i64 0, .int .i64 0, .int .i64 0, .int .i64 0, .int .i64 0, .int .i64 0, .int .i64 0, .int .i64 0, .int .i64 0] 35); clear h1); go_simp)
                      refine hK.out _ _ ?_ (fun hHeld => ?_)
                      · (try dsimp only); first | (with_reducible exact hS0) | (with_reducible exact hS1) | (with_reducible exact hS5) | (with_reducible exact hS6) | (have hh := HZa.out; clear hh; with_reducible exact s20o_row hS5 _ (by have := HGX.out; omega) (by have := HGX.out; omega)) | (with_reducible exact s20o_row hS6 _ (by have := HGY.out; omega) (by have := HGY.out; omega))
                      clear hK K
                      refine wpAnyH_take (i := 8) (v := ?_) rfl (by as_aux_lemma => kernel_rfl) (by as_aux_lemma => kernel_rfl) (by as_aux_lemma => kernel_rfl) (fun _ _ _ h => h) (Or.inl ⟨by rfl, ?_⟩) (by assumption) ?_
                      rotate_left
                      focus (intro w hSw; unfold S20o at hSw; obtain ⟨a0, a1, a2, a3, a4, x0, x1, x2, x3, x4, x5, x6, x7, x8, x9, x10, x11, x12, x13, x14⟩ := hSw; go_simp; (try (with_reducible rfl)); done)
                      try go_simp
                      refine wpAnyH_take (i := 9) (v := ?_) rfl (by as_aux_lemma => kernel_rfl) (by as_aux_lemma => kernel_rfl) (by as_aux_lemma => kernel_rfl) (fun _ _ _ h => h) (Or.inl ⟨by rfl, ?_⟩) (by assumption) ?_
                      rotate_left
                      focus (intro w hSw; unfold S20o at hSw; obtain ⟨a0, a1, a2, a3, a4, x0, x1, x2, x3, x4, x5, x6, x7, x8, x9, x10, x11, x12, x13, x14⟩ := hSw; go_simp; (try (with_reducible rfl)); done)
                      try go_simp
                      refine wpAnyH_take (i := 10) (v := ?_) rfl (by as_aux_lemma => kernel_rfl) (by as_aux_lemma => kernel_rfl) (by as_aux_lemma => kernel_rfl) (fun _ _ _ h => h) (Or.inl ⟨by rfl, ?_⟩) (by assumption) ?_
                      rotate_left
                      focus (intro w hSw; unfold S20o at hSw; obtain ⟨a0, a1, a2, a3, a4, x0, x1, x2, x3, x4, x5, x6, x7, x8, x9, x10, x11, x12, x13, x14⟩ := hSw; go_simp; (try (with_reducible rfl)); done)
                      try go_simp
                      refine wpAnyH_take (i := 11) (v := ?_) rfl (by as_aux_lemma => kernel_rfl) (by as_aux_lemma => kernel_rfl) (by as_aux_lemma => kernel_rfl) (fun _ _ _ h => h) (Or.inl ⟨by rfl, ?_⟩) (by assumption) ?_
                      rotate_left
                      focus (intro w hSw; unfold S20o at hSw; obtain ⟨a0, a1, a2, a3, a4, x0, x1, x2, x3, x4, x5, x6, x7, x8, x9, x10, x11, x12, x13, x14⟩ := hSw; go_simp; (try (with_reducible rfl)); done)
                      try go_simp
                      refine wpAnyH_ready (rs := [13]) (by as_aux_lemma => kernel_rfl) (by simp) ?_
                      refine AllReadyH.cons rfl (fun K hK => ?_) ?_
                      · (first | (have hh := HZa.out; clear hh; refine wp_store_row 35 _ _ rfl wA1.heap.size #[.int .i64 (y 0), .int .i64 (y 1), .int .i64 (y 2), .int .i64 (y 3), .int .i64 (y 4), .int .i64 (y 5), .int .i64 (y 6), .int .i64 (y 7), .int .i64 (y 8), .int .i64 (y 9), .int .i64 (y 10), .int .i64 (y 11), .int .i64 (y 12), .int .i64 (y 13), .int .i64 (y 14)] rfl rfl 35 #[.int .i64 0, .int .i64 0, .int .i64 0, .int .i64 0, .int .i64 0, .int .i64 0, .int .i64 0, .int .i64 0, .int .i64 0, .int .i64 0, .int .i64 0, .int .i64 0, .int .i64 0, .int .i64 0, .int .i64 0] HRo szIo rfl (oneCo y) ?_) | (refine wp_store_row 35 _ _ rfl wd.heap.size #[.int .i64 (y 0), .int .i64 (y 1), .int .i64 (y 2), .int .i64 (y 3), .int .i64 (y 4), .int .i64 (y 5), .int .i64 (y 6), .int .i64 (y 7), .int .i64 (y 8), .int .i64 (y 9), .int .i64 (y 10), .int .i64 (y 11), .int .i64 (y 12), .int .i64 (y 13), .int .i64 (y 14)] rfl rfl 35 #[.int .i64 0, .int .i64 0, .int .i64 0, .int .i64 0, .int .i64 0, .int .i64 0, .int .i64 0, .int .i64 0, .int .i64 0, .int .i64 0, .int .i64 0, .int .i64 0, .int .i64 0, .int .i64 0, .int .i64 0] HRo szIo rfl (oneCo y) ?_))
                        refine hK.out _ _ ?_ (fun hHeld => ?_)
                        · (try dsimp only); first | (with_reducible exact hS0) | (with_reducible exact hS1) | (with_reducible exact hS5) | (with_reducible exact hS6) | (have hh := HZa.out; clear hh; with_reducible exact s20o_row hS5 _ (by have := HGX.out; omega) (by have := HGX.out; omega)) | (with_reducible exact s20o_row hS6 _ (by have := HGY.out; omega) (by have := HGY.out; omega))
                        clear hK K
                        refine wpAnyH_take (i := 14) (v := ?_) rfl (by as_aux_lemma => kernel_rfl) (by as_aux_lemma => kernel_rfl) (by as_aux_lemma => kernel_rfl) (fun _ _ _ h => h) (Or.inl ⟨by rfl, ?_⟩) (by assumption) ?_
                        rotate_left
                        focus (intro w hSw; unfold S20o at hSw; obtain ⟨a0, a1, a2, a3, a4, x0, x1, x2, x3, x4, x5, x6, x7, x8, x9, x10, x11, x12, x13, x14⟩ := hSw; go_simp; (try (with_reducible rfl)); done)
                        try go_simp
                        refine wpAnyH_take (i := 15) (v := ?_) rfl (by as_aux_lemma => kernel_rfl) (by as_aux_lemma => kernel_rfl) (by as_aux_lemma => kernel_rfl) (fun _ _ _ h => h) (Or.inl ⟨by rfl, ?_⟩) (by assumption) ?_
                        rotate_left
                        focus (intro w hSw; unfold S20o at hSw; obtain ⟨a0, a1, a2, a3, a4, x0, x1, x2, x3, x4, x5, x6, x7, x8, x9, x10, x11, x12, x13, x14⟩ := hSw; go_simp; (try (with_reducible rfl)); done)
                        try go_simp
                        refine wpAnyH_done (by as_aux_lemma => kernel_rfl) ?_ _
                        go_wp2
                        go_meet
                        case rel => first | (have hh := HZa.out; clear hh; exact ⟨_, N, z, y, T1, rfl, rfl, rfl, H5.out.w HZ1.out.1 (Below.refl _ _) (HZ2.out.mv H5.out.mv.2) (setRow_fr _ _ _) (setRow_heap _ _ _ _ _ _ HRo) (by have := HGX.out; omega) (by have := HGX.out; omega), H5.out.lit HZ1.out.2 (Below.refl _ _) (setRow_fr _ _ _) (by have := HGX.out; omega)⟩) | exact ⟨_, N, z, y, T1, rfl, rfl, rfl, H5.out.w HDr.out.1 (below_new _) (Bq.new H5.out.mv.1 _ _) (setRow_fr _ _ _) (setRow_heap _ _ _ _ _ _ HRo) (by have := HGY.out; omega) (by have := HGY.out; omega), H5.out.lit HDr.out.2 (below_new _) (setRow_fr _ _ _) (by have := HGY.out; omega)⟩
                      exact AllReadyH.nil
                    exact AllReadyH.nil
                  exact AllReadyH.nil
                exact AllReadyH.nil
              case rest =>
              obtain ⟨Yb, N, z, y, T1, rfl, rfl, rfl, hq⟩ := hcut
              obtain ⟨we, hwe⟩ : ∃ we, wc = we := ⟨_, rfl⟩
              rw [hwe] at hq ⊢
              clear hwe
              rcases hq with ⟨⟨rfl, hrow, hYX, ν', hy, hp, hB⟩ | ⟨hz, hst⟩, hlb⟩
              · have HE : Hid (we.heap[Yb]? = some (.cells (c15 y) 35 (0, 0))) := hrow
                have HY : Hid (y = withN (xx i) ν' ∧ AdP D T T1 n q (xx i) (νν i) ν' N ∧ OwZ w1 we D T1 n G X tt xx ∧ Bq w1 we D T1 Lb (.cells #[.slice oa ol oc, .slice za zl zc] 22 (0, 0))) := ⟨hy, hp, hB, hlb⟩
                clear hrow hy hp hB hlb
                go_upto_region 14 with (go_at_call 8; refine (HNu.out _).mono ?_; rintro e wq ⟨rfl, rfl⟩)
                obtain ⟨y0, y1, y2, y3, y4, y5, y6, y7, y8, y9, y10, y11, y12, y13, y14⟩ := s15o_of HE.out
                go_wp2_with (refine wpl_storeB rfl 35 (.tmp 90) (.tmp 89) rfl X (i * 15) #[.int .i64 (y 0), .int .i64 (y 1), .int .i64 (y 2), .int .i64 (y 3), .int .i64 (y 4), .int .i64 (y 5), .int .i64 (y 6), .int .i64 (y 7), .int .i64 (y 8), .int .i64 (y 9), .int .i64 (y 10), .int .i64 (y 11), .int .i64 (y 12), .int .i64 (y 13), .int .i64 (y 14)] rfl rfl 36 (x30 xx) HY.out.2.2.1.x.row szIo (by rw [x30_size]; show i * 15 + 15 ≤ 30; omega) (oneCo y) ?_
                             have HF : Hid (OwS w1 (we.setRow X ((x30 xx).toList.take (i * 15) ++ (c15 y).toList ++ (x30 xx).toList.drop (i * 15 + (c15 y).size)).toArray) D T1 n (r + 1) G X tt (upN xx i y) (upN νν i ν') ∧ Bq w1 (we.setRow X ((x30 xx).toList.take (i * 15) ++ (c15 y).toList ++ (x30 xx).toList.drop (i * 15 + (c15 y).size)).toArray) D T1 Lb (.cells #[.slice oa ol oc, .slice za zl zc] 22 (0, 0))) := (by
                               obtain ⟨e1, e2, e3, e4⟩ := HY.out
                               have hz := e3.put him y
                               have xf := setRow_fr we X ((x30 xx).toList.take (i * 15) ++ (c15 y).toList ++ (x30 xx).toList.drop (i * 15 + (c15 y).size)).toArray
                               refine ⟨?_, ⟨xf.heap e4.row (fun e => by have := HXL.out; omega), e4.out.mv (SMv.fr_ xf)⟩⟩
                               rw [e1] at hz ⊢
                               exact HR.out.1.add him e2 hz)
                             obtain ⟨wf, hwf⟩ : ∃ wf, we.setRow X ((x30 xx).toList.take (i * 15) ++ (c15 y).toList ++ (x30 xx).toList.drop (i * 15 + (c15 y).size)).toArray = wf := ⟨_, rfl⟩
                             rw [hwf] at HF
                             change wpList _ _ _ _ _ (we.setRow X ((x30 xx).toList.take (i * 15) ++ (c15 y).toList ++ (x30 xx).toList.drop (i * 15 + (c15 y).size)).toArray)
                             rw [hwf]
                             clear hwf y0 y1 y2 y3 y4 y5 y6 y7 y8 y9 y10 y11 y12 y13 y14)
                go_round
                case rel => exact ⟨k + 1, r + 1, T1, _, _, by omega, by omega, by omega, by go_num, HF.out⟩
                case measure => simp [intOf]; omega
              · have HQ : Hid (OwS w1 we D T1 n r G X tt xx νν ∧ Bq w1 we D T1 Lb (.cells #[.slice oa ol oc, .slice za zl zc] 22 (0, 0))) := ⟨hst, hlb⟩
                clear hst hlb HR
                obtain ⟨ZZ, hZ⟩ : ∃ ZZ : Int, (z : Int) = ZZ := ⟨_, rfl⟩
                have hZb : ZZ = 60 ∨ ZZ = 90 := by rcases hz with e | e <;> omega
                rw [hZ]
                have HNz : Hid (∀ wx, Calls Tryd.prog 8 #[.int .i64 ZZ] wx fun e' w' => e' = .returned (.int .i64 ZZ) ∧ wx = w') := fun wx => numQ wx ZZ (by rcases hZb with e | e <;> omega)
                clear hZ hz
                have hZ0 : ¬ ZZ = 0 := by rcases hZb with e | e <;> omega
                clear hZb
                go_wp2_with (go_at_call 8; refine (HNz.out _).mono ?_; rintro e wq ⟨rfl, rfl⟩)
                go_round
                case rel => exact ⟨k + 1, r, T1, xx, νν, by omega, by omega, by omega, by go_num, HQ.out⟩
                case measure => simp [intOf]; omega
            · have hk3 : (20 : Int) ≤ (k : Int) := by omega
              go_wp2
              clear hcv
              go_round
              case rel => exact ⟨i + 1, r, T, xx, νν, by omega, by omega, by go_num, HR.out⟩
              case measure => simp [intOf]; omega
          · have hltk : ¬ (k : Int) < (ll : Int) := by omega
            go_wp2
            go_round
            case rel => exact ⟨i + 1, r, T, xx, νν, by omega, by omega, by go_num, HR.out⟩
            case measure => simp [intOf]; omega
      · have hlt : ¬ (i : Int) < 2 := by omega
        go_wp2
        go_meet
        case rel => exact ⟨r0, T0, xx0, νν0, by omega, HR0.out.1⟩
  case rest =>
  clear H8 T
  obtain ⟨r, T, xx, νν, hr2, hst⟩ := hcut
  have HB : Hid (OwS w1 wc D T n r G X tt xx νν) := hst
  clear hst hr2 HI
  obtain ⟨wB, hwB⟩ : ∃ wB, wc = wB := ⟨_, rfl⟩
  rw [hwB] at HB ⊢
  clear hwB wc
  obtain ⟨q0, q1, q2, q3, q4, q5, q6, q7, q8, q9, q10, q11, q12, q13, q14, q15, q16, q17, q18, q19, q20, q21, q22, q23, q24, q25, q26, q27, q28, q29⟩ := HB.out.z.c30
  go_upto_block 4 with (fail)
  clear q0 q1 q2 q3 q4 q5 q6 q7 q8 q9 q10 q11 q12 q13 q14 q15 q16 q17 q18 q19 q20 q21 q22 q23 q24 q25 q26 q27 q28 q29
  obtain ⟨LB, hLB⟩ : ∃ LB, wB.heap.size = LB := ⟨_, rfl⟩
  obtain ⟨wL, hwL⟩ : ∃ wL, wB.alloc (.cells #[.int .i64 (xx 0 0), .int .i64 (xx 0 1), .int .i64 (xx 0 2), .int .i64 (xx 0 3), .int .i64 (xx 0 4), .int .i64 (xx 0 5), .int .i64 (xx 0 6), .int .i64 (xx 0 7), .int .i64 (xx 0 8), .int .i64 (xx 0 9), .int .i64 (xx 0 10), .int .i64 (xx 0 11), .int .i64 (xx 0 12), .int .i64 (xx 0 13), .int .i64 (xx 0 14), .int .i64 (xx 1 0), .int .i64 (xx 1 1), .int .i64 (xx 1 2), .int .i64 (xx 1 3), .int .i64 (xx 1 4), .int .i64 (xx 1 5), .int .i64 (xx 1 6), .int .i64 (xx 1 7), .int .i64 (xx 1 8), .int .i64 (xx 1 9), .int .i64 (xx 1 10), .int .i64 (xx 1 11), .int .i64 (xx 1 12), .int .i64 (xx 1 13), .int .i64 (xx 1 14), .int .i64 (xx 0 0), .int .i64 (xx 0 1), .int .i64 (xx 0 2), .int .i64 (xx 0 3), .int .i64 (xx 0 4), .int .i64 (xx 0 5), .int .i64 (xx 0 6), .int .i64 (xx 0 7), .int .i64 (xx 0 8), .int .i64 (xx 0 9), .int .i64 (xx 0 10), .int .i64 (xx 0 11), .int .i64 (xx 0 12), .int .i64 (xx 0 13), .int .i64 (xx 0 14)] 35) = wL := ⟨_, rfl⟩
  have HL : Hid (Below wB.heap.size wB wL ∧ wL.heap[LB]? = some (.cells (c45 xx) 35 (0, 0))) := by
    rw [← hwL, ← hLB]; exact ⟨below_new _, heap_alloc_new _ _⟩
  rw [hwL, hLB]
  clear hwL hLB
  go_cut [19, 20] (fun s19 s20 wx => ∃ (V W : Nat → Value) (lv tv : Value), lv = s19 ∧ tv = s20 ∧ PT νν wB wx lv tv 3 3 V W)
  case first => as_aux_lemma =>
    go_wp2_with (fail)
    go_loopw [19, 20, 101] (fun s19 s20 s101 wr => ∃ (j : Nat) (V W : Nat → Value) (lv tv : Value), lv = s19 ∧ tv = s20 ∧ s101 = .int .i64 (j : Int) ∧ j ≤ 3 ∧ PT νν wB wr lv tv j j V W ∧ wr.heap[LB]? = some (.cells (c45 xx) 35 (0, 0))) (fun _ _ s101 _ => 3 - (intOf s101).toNat)
    case atStart => exact ⟨0, fun _ => .slice none 0 0, fun _ => .slice none 0 0, _, _, rfl, rfl, rfl, by omega, ⟨LL.zero _ _ _ _, LL.zero _ _ _ _, HL.out.1⟩, HL.out.2⟩
    case round =>
      obtain ⟨j, V, W, lv, tv, rfl, rfl, rfl, hj, hI⟩ := hrel
      obtain ⟨wA, hwA⟩ : ∃ wA, wr = wA := ⟨_, rfl⟩
      rw [hwA] at hI ⊢
      clear hwA wr
      have HI3 : Hid (PT νν wB wA lv tv j j V W ∧ wA.heap[LB]? = some (.cells (c45 xx) 35 (0, 0))) := hI
      clear hI
      by_cases hlt : j < 3
      · have hlt' : (j : Int) < 3 := by omega
        have hcc := c45_cells HI3.out.2 hlt
        obtain ⟨xj, hxj⟩ : ∃ xj, xx (j % 2) = xj := ⟨_, rfl⟩
        rw [hxj] at hcc
        obtain ⟨s0, s1, s2, s3, s4, s5, s6, s7, s8, s9, s10, s11, s12, s13, s14⟩ := hcc
        go_upto_region 22 with (refine wpl_rowB rfl 35 (.tmp 22) (.tmp 104) rfl wA.heap.size #[.int .i64 (xj 0), .int .i64 (xj 1), .int .i64 (xj 2), .int .i64 (xj 3), .int .i64 (xj 4), .int .i64 (xj 5), .int .i64 (xj 6), .int .i64 (xj 7), .int .i64 (xj 8), .int .i64 (xj 9), .int .i64 (xj 10), .int .i64 (xj 11), .int .i64 (xj 12), .int .i64 (xj 13), .int .i64 (xj 14)] rfl rfl 35 #[.int .i64 0, .int .i64 0, .int .i64 0, .int .i64 0, .int .i64 0, .int .i64 0, .int .i64 0, .int .i64 0, .int .i64 0, .int .i64 0, .int .i64 0, .int .i64 0, .int .i64 0, .int .i64 0, .int .i64 0] (heap_alloc_new wA _) szIo rfl (oneCo xj) ?_)
        clear s0 s1 s2 s3 s4 s5 s6 s7 s8 s9 s10 s11 s12 s13 s14
        obtain ⟨wq, hwq⟩ : ∃ wq, (wA.alloc (.cells #[.int .i64 0, .int .i64 0, .int .i64 0, .int .i64 0, .int .i64 0, .int .i64 0, .int .i64 0, .int .i64 0, .int .i64 0, .int .i64 0, .int .i64 0, .int .i64 0, .int .i64 0, .int .i64 0, .int .i64 0] 35)).setRow wA.heap.size #[.int .i64 (xj 0), .int .i64 (xj 1), .int .i64 (xj 2), .int .i64 (xj 3), .int .i64 (xj 4), .int .i64 (xj 5), .int .i64 (xj 6), .int .i64 (xj 7), .int .i64 (xj 8), .int .i64 (xj 9), .int .i64 (xj 10), .int .i64 (xj 11), .int .i64 (xj 12), .int .i64 (xj 13), .int .i64 (xj 14)] = wq := ⟨_, rfl⟩
        have HQ : Hid (Below wA.heap.size wA wq ∧ wq.heap[wA.heap.size]? = some (.cells (c15 xj) 35 (0, 0))) := by
          rw [← hwq]
          exact ⟨(below_new _).trans ((setRow_fr _ _ _).below _ (fun k hk => by have hk : k = wA.heap.size := hk; omega) (by simp)), setRow_heap _ _ _ _ _ _ (heap_alloc_new wA _)⟩
        obtain ⟨Pq, hPq⟩ : ∃ Pq, wA.heap.size = Pq := ⟨_, rfl⟩
        rw [hwq, hPq]
        have HPq : Hid (wA.heap.size = Pq) := hPq
        rw [hPq] at HQ
        clear hwq hPq
        have HBq : Hid (Below wB.heap.size wB wq) := HI3.out.1.bel.trans ((by have := HQ.out.1; rw [← HPq.out] at this; exact this : Below wA.heap.size wA wq).mono HI3.out.1.bel.size)
        obtain ⟨z0, z1, z2, z3, z4⟩ := (HB.out.z.on HBq.out).g.c5.cells
        obtain ⟨s0, s1, s2, s3, s4, s5, s6, s7, s8, s9, s10, s11, s12, s13, s14⟩ := s15o_of HQ.out.2
        obtain ⟨mP, hmP⟩ : ∃ mP, MPf νν j = mP := ⟨_, rfl⟩
        obtain ⟨mT, hmT⟩ : ∃ mT, MTf νν j = mT := ⟨_, rfl⟩
        have HMb : Hid (MPf νν j = mP ∧ MTf νν j = mT ∧ mP ≤ 100000 ∧ mT ≤ 100000) := ⟨hmP, hmT, by rw [← hmP]; exact (M_bd νν j).1, by rw [← hmT]; exact (M_bd νν j).2⟩
        have HAl : Hid (Calls Tryd.prog 9 #[.pointer (some ⟨tt, 0, none⟩), .agg #[.int .i64 (n : Int), .int .i64 98, .int .i64 (gI n), .int .i64 (gD n), .int .i64 (gC n)], .agg #[.int .i64 (xj 0), .int .i64 (xj 1), .int .i64 (xj 2), .int .i64 (xj 3), .int .i64 (xj 4), .int .i64 (xj 5), .int .i64 (xj 6), .int .i64 (xj 7), .int .i64 (xj 8), .int .i64 (xj 9), .int .i64 (xj 10), .int .i64 (xj 11), .int .i64 (xj 12), .int .i64 (xj 13), .int .i64 (xj 14)]] wq fun e w' => ∃ a c a' c', e = .returned (.tuple #[.slice a mP c, .slice a' mT c', .int .i64 0]) ∧ w'.ownsRow wB.heap.size 50 2 (.slice a mP c) (MPf νν j) (ivs (MPf νν j * 2) (FPf νν j)) ∧ w'.ownsRow wB.heap.size 3 1 (.slice a' mT c') (MTf νν j) (ivs (MTf νν j * 1) (FTf νν j)) ∧ (∀ k, (Value.slice a mP c).ownBlock = some k → wq.heap.size ≤ k) ∧ (∀ k, (Value.slice a' mT c').ownBlock = some k → wq.heap.size ≤ k) ∧ Below wq.heap.size wq w') := by
          have h9 := allO w1 wq D T n wB.heap.size (HB.out.z.spc.on HBq.out) (HT.out.on H1.out) (xx (j % 2)) (νν (j % 2)) (HB.out.wd (j % 2) (by omega)) HBq.out.size tt HB.out.z.t
          rw [hxj] at h9
          unfold MPf at hmP ⊢
          unfold MTf at hmT ⊢
          rw [hmP, hmT] at h9
          rw [hmP, hmT]
          unfold FPf FTf
          exact h9
        clear hmP hmT
        go_upto_region 25 with (first
          | (go_at_call 9; refine HAl.out.mono ?_; rintro e u1 ⟨a1, c1, a2, c2, rfl, h1, h2, h3, h4, h5⟩
             have H1a : Hid (u1.ownsRow wB.heap.size 50 2 (.slice a1 mP c1) (MPf νν j) (ivs (MPf νν j * 2) (FPf νν j)) ∧ u1.ownsRow wB.heap.size 3 1 (.slice a2 mT c2) (MTf νν j) (ivs (MTf νν j * 1) (FTf νν j)) ∧ (∀ k, (Value.slice a1 mP c1).ownBlock = some k → wq.heap.size ≤ k) ∧ (∀ k, (Value.slice a2 mT c2).ownBlock = some k → wq.heap.size ≤ k) ∧ Below wq.heap.size wq u1) := ⟨h1, h2, h3, h4, h5⟩
             clear h1 h2 h3 h4 h5 HAl)
          | (go_at_call 8; refine (HNu.out _).mono ?_; rintro e wq' ⟨rfl, rfl⟩))
        clear z0 z1 z2 z3 z4 s0 s1 s2 s3 s4 s5 s6 s7 s8 s9 s10 s11 s12 s13 s14 hxj
        have HS : Hid (Below wA.heap.size wA u1 ∧ wA.heap.size ≤ wq.heap.size) := by
          have h9 := HQ.out.1
          rw [← HPq.out] at h9
          exact ⟨h9.trans (H1a.out.2.2.2.2.mono h9.size), h9.size⟩
        go_wp2_with (first
          | (at_builtin; refine wp_appB rfl (.tmp 116) (.tmp 118) 43 rfl 45 (.slice none 0 0) 1 24 Tryd.underlying43 infoLp rfl (by decide) (by decide) wB.heap.size (Nat.le_trans HI3.out.1.bel.size (Nat.le_trans HS.out.1.size (by simp))) lv j ((List.range j).map V) rfl (HI3.out.1.on (HS.out.1.alloc HS.out.1.size _)).p.row u1.heap.size rfl [.slice a1 mP c1] rfl (heap_alloc_new u1 _) (by intro u hu; simp at hu; rw [hu]; rfl) (by omega) ?_
             intro b4 cap4 u4 h1 h2 h3
             have H6 : Hid (PT νν wB u4 (.slice (some ⟨b4, 0, none⟩) (j + 1) cap4) tv (j + 1) j (upN V j (.slice a1 mP c1)) W ∧ u4.ownsRow wB.heap.size 3 1 (.slice a2 mT c2) (MTf νν j) (ivs (MTf νν j * 1) (FTf νν j)) ∧ u4.heap[LB]? = some (.cells (c45 xx) 35 (0, 0)) ∧ wB.heap.size ≤ u4.heap.size) := (by
               have ha : Below u1.heap.size u1 (u1.alloc (.cells #[.slice a1 mP c1] 45)) := below_new _
               have hu2 := owns_fr H1a.out.2.1 (below_fr ha (fun _ => False)) (fun _ _ e => e)
               have hr0 := (HI3.out.1.on (HS.out.1.alloc HS.out.1.size (.cells #[.slice a1 mP c1] 45))).p.row
               have hpt := HI3.out.1.addP (HS.out.1.alloc HS.out.1.size (.cells #[.slice a1 mP c1] 45)) (owns_fr H1a.out.1 (below_fr ha (fun _ => False)) (fun _ _ e => e)) (fun b e => Nat.le_trans HS.out.2 (H1a.out.2.2.1 b e)) h1 h2
               refine ⟨hpt, owns_fr hu2 h2 (fun b e1 e2 => own_two hr0 hu2 (by decide) e2 e1), ?_, hpt.bel.size⟩
               have hq := ((HS.out.1.alloc HS.out.1.size (.cells #[.slice a1 mP c1] 45)).block _ (heap_lt HI3.out.2)).trans HI3.out.2
               exact h2.heap hq (fun e => own_not hr0 hq (by decide) e))
             clear h1 h2 h3)
          | (at_builtin; refine wp_appB rfl (.tmp 120) (.tmp 122) 37 rfl 22 (.slice none 0 0) 1 24 Tryd.underlying37 infoLi rfl (by decide) (by decide) wB.heap.size (Nat.le_trans H6.out.2.2.2 (by simp)) tv j ((List.range j).map W) rfl (H6.out.1.on (below_new _)).t.row u4.heap.size rfl [.slice a2 mT c2] rfl (heap_alloc_new u4 _) (by intro u hu; simp at hu; rw [hu]; rfl) (by omega) ?_
             intro b5 cap5 u5 h1 h2 h3
             have H7 : Hid (PT νν wB u5 (.slice (some ⟨b4, 0, none⟩) (j + 1) cap4) (.slice (some ⟨b5, 0, none⟩) (j + 1) cap5) (j + 1) (j + 1) (upN V j (.slice a1 mP c1)) (upN W j (.slice a2 mT c2)) ∧ u5.heap[LB]? = some (.cells (c45 xx) 35 (0, 0))) := (by
               have ha : Below u4.heap.size u4 (u4.alloc (.cells #[.slice a2 mT c2] 22)) := below_new _
               have hp4 := H6.out.1.on ha
               have hq := (ha.block _ (heap_lt H6.out.2.2.1)).trans H6.out.2.2.1
               exact ⟨HI3.out.1.addT hp4 (owns_fr H6.out.2.1 (below_fr ha (fun _ => False)) (fun _ _ e => e)) (fun b e => Nat.le_trans HS.out.2 (H1a.out.2.2.2.1 b e)) h1 h2, h2.heap hq (fun e => own_not hp4.t.row hq (by decide) e)⟩)
             clear h1 h2 h3))
        go_round
        case rel => exact ⟨j + 1, _, _, _, _, rfl, rfl, by go_num, by omega, H7.out.1, H7.out.2⟩
        case measure => simp [intOf]; omega
      · have hlt' : ¬ (j : Int) < 3 := by omega
        obtain rfl : j = 3 := by omega
        go_wp2
        go_meet
        case rel => exact ⟨V, W, _, _, rfl, rfl, HI3.out.1⟩
  case rest =>
  obtain ⟨V, W, lv, tv, rfl, rfl, hpt⟩ := hcut
  obtain ⟨wP, hwP⟩ : ∃ wP, wc = wP := ⟨_, rfl⟩
  rw [hwP] at hpt ⊢
  clear hwP wc HL
  obtain ⟨gp, cp, rfl, _⟩ := hpt.p.cell (k := 0) (by omega)
  obtain ⟨gt, ct, rfl, _⟩ := hpt.t.cell (k := 0) (by omega)
  have HP : Hid (PT νν wB wP (.slice (some ⟨gp, 0, none⟩) 3 cp) (.slice (some ⟨gt, 0, none⟩) 3 ct) 3 3 V W) := hpt
  clear hpt
  obtain ⟨mP, hmP⟩ : ∃ mP, MPf νν 0 = mP := ⟨_, rfl⟩
  obtain ⟨mT, hmT⟩ : ∃ mT, MTf νν 0 = mT := ⟨_, rfl⟩
  have HMb : Hid (MPf νν 0 = mP ∧ MTf νν 0 = mT ∧ mP ≤ 100000 ∧ mT ≤ 100000) := ⟨hmP, hmT, by rw [← hmP]; exact (M_bd νν 0).1, by rw [← hmT]; exact (M_bd νν 0).2⟩
  obtain ⟨a0, c0, hv0⟩ := own_sl (HP.out.p.ls 0 (by omega))
  obtain ⟨a2, c2, hv2⟩ := own_sl (HP.out.p.ls 2 (by omega))
  obtain ⟨a1, c1, hw0⟩ := own_sl (HP.out.t.ls 0 (by omega))
  obtain ⟨a3, c3, hw2⟩ := own_sl (HP.out.t.ls 2 (by omega))
  rw [hmP] at hv0
  rw [show MPf νν 2 = MPf νν 0 from rfl, hmP] at hv2
  rw [hmT] at hw0
  rw [show MTf νν 2 = MTf νν 0 from rfl, hmT] at hw2
  have HV : Hid (V 0 = .slice a0 mP c0 ∧ V 2 = .slice a2 mP c2 ∧ W 0 = .slice a1 mT c1 ∧ W 2 = .slice a3 mT c3) := ⟨hv0, hv2, hw0, hw2⟩
  obtain ⟨_, _, e0, q0⟩ := (HP.out.on (below_new (.cells #[] 50))).p.cell (k := 0) (by omega)
  cases e0
  rw [hv0] at q0
  clear hmP hmT hv0 hv2 hw0 hw2
  go_upto_region 28 with (at_builtin; refine wp_cpyB rfl (.tmp 125) (.tmp 128) 45 rfl 50 (.agg #[.int .i64 0, .int .i64 0]) 2 16 Tryd.underlying45 infoPo rfl (by decide) (by decide) wB.heap.size wP.heap.size HP.out.bel.size rfl (heap_alloc_new wP _) (.slice a0 mP c0) mP (FPf νν 0) rfl (by have h9 := (HP.out.on (below_new (.cells #[] 50))).p.ls 0 (by omega); rw [HV.out.1, HMb.out.1] at h9; exact h9) (by have := HMb.out.2.2.1; omega) ?_
                          intro g1 k1 u1 h1 h2 h3
                          have HU1 : Hid (PT νν wB u1 (.slice (some ⟨gp, 0, none⟩) 3 cp) (.slice (some ⟨gt, 0, none⟩) 3 ct) 3 3 V W ∧ Cyo wB.heap.size 50 2 u1 (.slice (some ⟨g1, 0, none⟩) mP k1) mP (FPf νν 0) 3 V) := (by
                            have ha : Below wP.heap.size wP (wP.alloc (.cells #[] 50)) := below_new _
                            have hb := ha.trans (h2.below _ (fun k hk => by have hk : k = wP.heap.size := hk; omega) ha.size)
                            refine ⟨HP.out.on hb, h1, fun i hi b e e2 => ?_⟩
                            have e3 := own_atO e2
                            have := owns_block (HP.out.p.ls i hi) e
                            have := ha.size
                            rcases h3 with h3 | h3 <;> omega)
                          clear h1 h2 h3)
  clear q0
  obtain ⟨_, _, e0, q0⟩ := (HU1.out.1.on (below_new (.cells #[] 3))).t.cell (k := 0) (by omega)
  cases e0
  rw [HV.out.2.2.1] at q0
  clear HP
  go_upto_region 29 with (at_builtin; refine wp_cpyB rfl (.tmp 130) (.tmp 133) 22 rfl 3 (.int .i64 0) 1 8 Tryd.underlying22 infoIo rfl (by decide) (by decide) wB.heap.size u1.heap.size HU1.out.1.bel.size rfl (heap_alloc_new u1 _) (.slice a1 mT c1) mT (FTf νν 0) rfl (by have h9 := (HU1.out.1.on (below_new (.cells #[] 3))).t.ls 0 (by omega); rw [HV.out.2.2.1, HMb.out.2.1] at h9; exact h9) (by have := HMb.out.2.2.2; omega) ?_
                          intro g2 k2 u2 h1 h2 h3
                          have HM : Hid (MM wB u2 (.slice (some ⟨gp, 0, none⟩) 3 cp) V (.slice (some ⟨gt, 0, none⟩) 3 ct) W (.slice (some ⟨g1, 0, none⟩) mP k1) (.slice (some ⟨g2, 0, none⟩) mT k2) (MPf νν) (MTf νν) (FPf νν) (FTf νν) (FPf νν 0) (FTf νν 0)) := (by
                            have ha : Below u1.heap.size u1 (u1.alloc (.cells #[] 3)) := below_new _
                            have hb := ha.trans (h2.below _ (fun k hk => by have hk : k = u1.heap.size := hk; omega) ha.size)
                            have hp := HU1.out.1.on hb
                            refine ⟨hp.p, hp.t, by rw [HMb.out.1]; exact HU1.out.2.on hb, ⟨by rw [HMb.out.2.1]; exact h1, fun i hi b e e2 => ?_⟩, hp.bel⟩
                            have e3 := own_atO e2
                            have := owns_block (HU1.out.1.t.ls i hi) e
                            have := ha.size
                            rcases h3 with h3 | h3 <;> omega)
                          clear h1 h2 h3)
  clear q0 HU1
  obtain ⟨_, _, e0, q0⟩ := HM.out.p.cell (k := 2) (by omega)
  cases e0
  rw [HV.out.2.1] at q0
  have HC1 : Hid (∀ wx, Below u2.heap.size u2 wx → Calls Tryd.prog 10 #[.slice a2 mP c2, .slice (some ⟨g1, 0, none⟩) mP k1] wx fun e w' => e = .returned (.bool true) ∧ Below wx.heap.size wx w') := fun wx hb => by
    have h8 := (HM.out.on hb).p.ls 2 (by omega)
    have h9 := (HM.out.on hb).cw.row
    rw [show MPf νν 2 = MPf νν 0 from rfl, HMb.out.1, HV.out.2.1] at h8
    rw [HMb.out.1] at h9
    exact same_prs h8 h9 HMb.out.2.2.1
  have HC2 : Hid (∀ wx, Below u2.heap.size u2 wx → Calls Tryd.prog 11 #[.slice a3 mT c3, .slice (some ⟨g2, 0, none⟩) mT k2] wx fun e w' => e = .returned (.bool true) ∧ Below wx.heap.size wx w') := fun wx hb => by
    have h8 := (HM.out.on hb).t.ls 2 (by omega)
    have h9 := (HM.out.on hb).ca.row
    rw [show MTf νν 2 = MTf νν 0 from rfl, HMb.out.2.1, HV.out.2.2.2] at h8
    rw [HMb.out.2.1] at h9
    exact same_num h8 h9 HMb.out.2.2.2
  go_upto_block 6 with (first
    | (go_at_call 10; refine (HC1.out _ (Below.refl _ _)).mono ?_; rintro e u3 ⟨rfl, h1⟩
       have HU3 : Hid (Below u2.heap.size u2 u3) := h1
       clear h1 q0
       obtain ⟨_, _, e0, q1⟩ := (HM.out.on HU3.out).t.cell (k := 2) (by omega)
       cases e0
       rw [HV.out.2.2.2] at q1)
    | (go_at_call 11; refine (HC2.out _ HU3.out).mono ?_; rintro e u4 ⟨rfl, h1⟩
       have HU4 : Hid (Below u2.heap.size u2 u4) := HU3.out.trans (h1.mono HU3.out.size)
       clear h1 q1))
  have HM4 : Hid (MM wB u4 (.slice (some ⟨gp, 0, none⟩) 3 cp) V (.slice (some ⟨gt, 0, none⟩) 3 ct) W (.slice (some ⟨g1, 0, none⟩) mP k1) (.slice (some ⟨g2, 0, none⟩) mT k2) (MPf νν) (MTf νν) (FPf νν) (FTf νν) (FPf νν 0) (FTf νν 0)) := HM.out.on HU4.out
  clear HM HU3 HU4 HC1 HC2 HV
  go_cut [] (fun wx => MM wB wx (.slice (some ⟨gp, 0, none⟩) 3 cp) V (.slice (some ⟨gt, 0, none⟩) 3 ct) W (.slice (some ⟨g1, 0, none⟩) mP k1) (.slice (some ⟨g2, 0, none⟩) mT k2) (MPf νν) (MTf νν) mkP mkT (FPf νν 0) (FTf νν 0))
  case first => as_aux_lemma =>
    go_wp2_with (fail)
    go_loopw [151] (fun s151 wr => ∃ i : Nat, s151 = .int .i64 (i : Int) ∧ i ≤ 3 ∧ MM wB wr (.slice (some ⟨gp, 0, none⟩) 3 cp) V (.slice (some ⟨gt, 0, none⟩) 3 ct) W (.slice (some ⟨g1, 0, none⟩) mP k1) (.slice (some ⟨g2, 0, none⟩) mT k2) (MPf νν) (MTf νν) (FPm νν i) (FTm νν i) (FPf νν 0) (FTf νν 0)) (fun s151 _ => 3 - (intOf s151).toNat)
    case atStart => exact ⟨0, rfl, by omega, HM4.out.congr (fun a _ j _ => by rw [FPm, if_neg (by omega)]) (fun a _ j _ => by rw [FTm, if_neg (by omega)])⟩
    case round =>
      obtain ⟨i, rfl, hi3, hI⟩ := hrel
      obtain ⟨wA, hwA⟩ : ∃ wA, wr = wA := ⟨_, rfl⟩
      rw [hwA] at hI ⊢
      clear hwA wr HM4
      have HI5 : Hid (MM wB wA (.slice (some ⟨gp, 0, none⟩) 3 cp) V (.slice (some ⟨gt, 0, none⟩) 3 ct) W (.slice (some ⟨g1, 0, none⟩) mP k1) (.slice (some ⟨g2, 0, none⟩) mT k2) (MPf νν) (MTf νν) (FPm νν i) (FTm νν i) (FPf νν 0) (FTf νν 0)) := hI
      clear hI
      by_cases hlt : i < 3
      · have hlt' : (i : Int) < 3 := by omega
        obtain ⟨ai, ci, hvi⟩ := own_sl (HI5.out.p.ls i hlt)
        obtain ⟨bi, di, hwi⟩ := own_sl (HI5.out.t.ls i hlt)
        obtain ⟨mi, hmi⟩ : ∃ mi, MPf νν i = mi := ⟨_, rfl⟩
        obtain ⟨ni, hni⟩ : ∃ ni, MTf νν i = ni := ⟨_, rfl⟩
        have HBd : Hid (mi ≤ 100000 ∧ ni ≤ 100000) := ⟨by rw [← hmi]; exact (M_bd νν i).1, by rw [← hni]; exact (M_bd νν i).2⟩
        rw [hmi] at hvi
        rw [hni] at hwi
        have HVi : Hid (V i = .slice ai mi ci ∧ W i = .slice bi ni di ∧ MPf νν i = mi ∧ MTf νν i = ni) := ⟨hvi, hwi, hmi, hni⟩
        obtain ⟨_, _, e0, q0⟩ := HI5.out.p.cell hlt
        cases e0
        rw [hvi] at q0
        clear hvi hwi hmi hni
        go_wp2_with (fail)
        clear q0
        go_loopw [159] (fun s159 wr => ∃ k : Nat, s159 = .int .i64 (k : Int) ∧ k ≤ mi ∧ MM wB wr (.slice (some ⟨gp, 0, none⟩) 3 cp) V (.slice (some ⟨gt, 0, none⟩) 3 ct) W (.slice (some ⟨g1, 0, none⟩) mP k1) (.slice (some ⟨g2, 0, none⟩) mT k2) (MPf νν) (MTf νν) (FPk νν i k) (FTm νν i) (FPf νν 0) (FTf νν 0)) (fun s159 _ => mi - (intOf s159).toNat)
        case atStart => exact ⟨0, rfl, by omega, HI5.out.congr (fun a _ j _ => FPk_zero νν i a j) (fun _ _ _ _ => rfl)⟩
        case round =>
          obtain ⟨k, rfl, hk, hJ⟩ := hrel
          obtain ⟨wA1, hwA⟩ : ∃ wA1, wr = wA1 := ⟨_, rfl⟩
          rw [hwA] at hJ ⊢
          clear hwA wr HI5
          have HJ : Hid (MM wB wA1 (.slice (some ⟨gp, 0, none⟩) 3 cp) V (.slice (some ⟨gt, 0, none⟩) 3 ct) W (.slice (some ⟨g1, 0, none⟩) mP k1) (.slice (some ⟨g2, 0, none⟩) mT k2) (MPf νν) (MTf νν) (FPk νν i k) (FTm νν i) (FPf νν 0) (FTf νν 0)) := hJ
          clear hJ
          by_cases hkm : k < mi
          · have hkm' : (k : Int) < (mi : Int) := by omega
            have hbd := HBd.out
            have h9 := HJ.out.p.ls i hlt
            rw [HVi.out.1, HVi.out.2.2.1] at h9
            obtain ⟨gi, rfl⟩ : ∃ gi, ai = some ⟨gi, 0, none⟩ := by
              rcases own_cellB h9 with ⟨e, e2⟩ | ⟨g, cap, e, _⟩
              · omega
              · cases e; exact ⟨g, rfl⟩
            clear h9
            obtain ⟨_, _, e0, q0⟩ := HJ.out.p.cell hlt
            cases e0
            rw [HVi.out.1] at q0
            obtain ⟨cur, hg, hsz, hmm⟩ := HJ.out.markP hlt (by rw [HVi.out.2.2.1]; exact hkm) (by rw [HVi.out.1, HVi.out.2.2.1])
            have HK : Hid (wA1.heap[gi]? = some (.cells cur 50 (0, 0)) ∧ k * 2 + 2 ≤ cur.size ∧ MM wB (wA1.setRow gi (cur.toList.take (k * 2) ++ [Value.int .i64 (-1 - (i : Int)), Value.int .i64 (k : Int)] ++ cur.toList.drop (k * 2 + 2)).toArray) (.slice (some ⟨gp, 0, none⟩) 3 cp) V (.slice (some ⟨gt, 0, none⟩) 3 ct) W (.slice (some ⟨g1, 0, none⟩) mP k1) (.slice (some ⟨g2, 0, none⟩) mT k2) (MPf νν) (MTf νν) (FPk νν i (k + 1)) (FTm νν i) (FPf νν 0) (FTf νν 0)) := ⟨hg, hsz, hmm⟩
            clear hg hsz hmm
            have hwr : IntKind.i64.wrap (-1 - (i : Int)) = -1 - (i : Int) := by rw [IntKind.wrap_i64]; omega
            go_wp2_with (refine wpl_storeB rfl 50 (.tmp 171) (.tmp 170) rfl gi (k * 2) #[.int .i64 (-1 - (i : Int)), .int .i64 (k : Int)] rfl rfl 50 cur HK.out.1 szPo HK.out.2.1 (by simp [Value.oneCell']) ?_
                         obtain ⟨wf, hwf⟩ : ∃ wf, wA1.setRow gi (cur.toList.take (k * 2) ++ [Value.int .i64 (-1 - (i : Int)), Value.int .i64 (k : Int)] ++ cur.toList.drop (k * 2 + 2)).toArray = wf := ⟨_, rfl⟩
                         have HF : Hid (MM wB wf (.slice (some ⟨gp, 0, none⟩) 3 cp) V (.slice (some ⟨gt, 0, none⟩) 3 ct) W (.slice (some ⟨g1, 0, none⟩) mP k1) (.slice (some ⟨g2, 0, none⟩) mT k2) (MPf νν) (MTf νν) (FPk νν i (k + 1)) (FTm νν i) (FPf νν 0) (FTf νν 0)) := (by rw [← hwf]; exact HK.out.2.2)
                         change wpList _ _ _ _ _ (wA1.setRow gi (cur.toList.take (k * 2) ++ [Value.int .i64 (-1 - (i : Int)), Value.int .i64 (k : Int)] ++ cur.toList.drop (k * 2 + 2)).toArray)
                         rw [hwf]
                         clear hwf q0 HK)
            go_round
            case rel => exact ⟨k + 1, by go_num, by omega, HF.out⟩
            case measure => simp [intOf]; omega
          · have hkm' : ¬ (k : Int) < (mi : Int) := by omega
            obtain rfl : k = mi := by omega
            have HJ6 : Hid (MM wB wA1 (.slice (some ⟨gp, 0, none⟩) 3 cp) V (.slice (some ⟨gt, 0, none⟩) 3 ct) W (.slice (some ⟨g1, 0, none⟩) mP k1) (.slice (some ⟨g2, 0, none⟩) mT k2) (MPf νν) (MTf νν) (FPm νν (i + 1)) (FTm νν i) (FPf νν 0) (FTf νν 0)) := HJ.out.congr (fun a _ j hj => by rw [← HVi.out.2.2.1]; exact FPk_all νν i a j hj) (fun _ _ _ _ => rfl)
            clear HJ
            obtain ⟨_, _, e0, q0⟩ := HJ6.out.t.cell hlt
            cases e0
            rw [HVi.out.2.1] at q0
            go_wp2_with (fail)
            clear q0
            go_loopw [178] (fun s178 wr => ∃ q : Nat, s178 = .int .i64 (q : Int) ∧ q ≤ ni ∧ MM wB wr (.slice (some ⟨gp, 0, none⟩) 3 cp) V (.slice (some ⟨gt, 0, none⟩) 3 ct) W (.slice (some ⟨g1, 0, none⟩) mP k1) (.slice (some ⟨g2, 0, none⟩) mT k2) (MPf νν) (MTf νν) (FPm νν (i + 1)) (FTk νν i q) (FPf νν 0) (FTf νν 0)) (fun s178 _ => ni - (intOf s178).toNat)
            case atStart => exact ⟨0, rfl, by omega, HJ6.out.congr (fun _ _ _ _ => rfl) (fun a _ j _ => FTk_zero νν i a j)⟩
            case round =>
              obtain ⟨q, rfl, hq, hJ⟩ := hrel
              obtain ⟨wA2, hwA⟩ : ∃ wA2, wr = wA2 := ⟨_, rfl⟩
              rw [hwA] at hJ ⊢
              clear hwA wr HJ6
              have HJ : Hid (MM wB wA2 (.slice (some ⟨gp, 0, none⟩) 3 cp) V (.slice (some ⟨gt, 0, none⟩) 3 ct) W (.slice (some ⟨g1, 0, none⟩) mP k1) (.slice (some ⟨g2, 0, none⟩) mT k2) (MPf νν) (MTf νν) (FPm νν (i + 1)) (FTk νν i q) (FPf νν 0) (FTf νν 0)) := hJ
              clear hJ
              by_cases hqm : q < ni
              · have hqm' : (q : Int) < (ni : Int) := by omega
                have hbd := HBd.out
                have h9 := HJ.out.t.ls i hlt
                rw [HVi.out.2.1, HVi.out.2.2.2] at h9
                obtain ⟨gi, rfl, q2, q3⟩ : ∃ gi, bi = some ⟨gi, 0, none⟩ ∧ wA2.cell? ⟨gi, q, none⟩ = some (.int .i64 (FTk νν i q i q)) ∧ wA2.frozen? ⟨gi, q, none⟩ = false := by
                  rcases own_cellB h9 with ⟨e, e2⟩ | ⟨g, cap, e, _, _, _, _, hf, hc⟩
                  · omega
                  · cases e; exact ⟨g, rfl, hc q (by omega), hf q⟩
                clear h9
                obtain ⟨_, _, e0, q0⟩ := HJ.out.t.cell hlt
                cases e0
                rw [HVi.out.2.1] at q0
                have HK := Hid.intro_ (HJ.out.markT hlt (by rw [HVi.out.2.2.2]; exact hqm) (by rw [HVi.out.2.1, HVi.out.2.2.2]))
                have hwr : IntKind.i64.wrap (-100 - (i : Int)) = -100 - (i : Int) := by rw [IntKind.wrap_i64]; omega
                go_wp2
                go_round
                case rel => exact ⟨q + 1, by go_num, by omega, HK.out⟩
                case measure => simp [intOf]; omega
              · have hqm' : ¬ (q : Int) < (ni : Int) := by omega
                obtain rfl : q = ni := by omega
                go_wp2
                go_round
                case rel => exact ⟨i + 1, by go_num, by omega, HJ.out.congr (fun _ _ _ _ => rfl) (fun a _ j hj => by rw [← HVi.out.2.2.2]; exact FTk_all νν i a j hj)⟩
                case measure => simp [intOf]; omega
      · have hlt' : ¬ (i : Int) < 3 := by omega
        obtain rfl : i = 3 := by omega
        go_wp2
        go_meet
        case rel => exact HI5.out.congr (fun a ha j _ => by rw [FPm, if_pos ha]) (fun a ha j _ => by rw [FTm, if_pos ha])
  case rest =>
  obtain ⟨w4', hw4⟩ : ∃ w4', wc = w4' := ⟨_, rfl⟩
  rw [hw4] at hcut ⊢
  clear hw4 wc HM4
  have HM5 : Hid (MM wB w4' (.slice (some ⟨gp, 0, none⟩) 3 cp) V (.slice (some ⟨gt, 0, none⟩) 3 ct) W (.slice (some ⟨g1, 0, none⟩) mP k1) (.slice (some ⟨g2, 0, none⟩) mT k2) (MPf νν) (MTf νν) mkP mkT (FPf νν 0) (FTf νν 0)) := hcut
  clear hcut
  go_upto_block 12 with (fail)
  go_cut [31, 32] (fun s31 s32 wx => ∃ (Gv Hv : Nat → Value) (lv qv : Value), lv = s31 ∧ qv = s32 ∧ MG wB w4' wx (.slice (some ⟨gp, 0, none⟩) 3 cp) V (.slice (some ⟨gt, 0, none⟩) 3 ct) W (.slice (some ⟨g1, 0, none⟩) mP k1) (.slice (some ⟨g2, 0, none⟩) mT k2) (MPf νν) (MTf νν) (FPf νν 0) (FTf νν 0) lv Gv qv Hv 3 3)
  case first => as_aux_lemma =>
    go_wp2_with (fail)
    go_loopw [31, 32, 193] (fun s31 s32 s193 wr => ∃ (k : Nat) (Gv Hv : Nat → Value) (lv qv : Value), lv = s31 ∧ qv = s32 ∧ s193 = .int .i64 (k : Int) ∧ k ≤ 3 ∧ MG wB w4' wr (.slice (some ⟨gp, 0, none⟩) 3 cp) V (.slice (some ⟨gt, 0, none⟩) 3 ct) W (.slice (some ⟨g1, 0, none⟩) mP k1) (.slice (some ⟨g2, 0, none⟩) mT k2) (MPf νν) (MTf νν) (FPf νν 0) (FTf νν 0) lv Gv qv Hv k k) (fun _ _ s193 _ => 3 - (intOf s193).toNat)
    case atStart => exact ⟨0, _, _, _, _, rfl, rfl, rfl, by omega, MG.start HM5.out⟩
    case round =>
      obtain ⟨k, Gv, Hv, lv, qv, rfl, rfl, rfl, hk3, hI⟩ := hrel
      obtain ⟨wA, hwA⟩ : ∃ wA, wr = wA := ⟨_, rfl⟩
      rw [hwA] at hI ⊢
      clear hwA wr HM5
      have HI7 : Hid (MG wB w4' wA (.slice (some ⟨gp, 0, none⟩) 3 cp) V (.slice (some ⟨gt, 0, none⟩) 3 ct) W (.slice (some ⟨g1, 0, none⟩) mP k1) (.slice (some ⟨g2, 0, none⟩) mT k2) (MPf νν) (MTf νν) (FPf νν 0) (FTf νν 0) lv Gv qv Hv k k) := hI
      clear hI
      by_cases hlt : k < 3
      · have hlt' : (k : Int) < 3 := by omega
        obtain ⟨ak, ck, hvi⟩ := own_sl (HI7.out.p.l.ls k hlt)
        obtain ⟨bk, dk, hwi⟩ := own_sl (HI7.out.t.l.ls k hlt)
        obtain ⟨mk, hmi⟩ : ∃ mk, MPf νν k = mk := ⟨_, rfl⟩
        obtain ⟨nk, hni⟩ : ∃ nk, MTf νν k = nk := ⟨_, rfl⟩
        have HBd : Hid (mk ≤ 100000 ∧ nk ≤ 100000) := ⟨by rw [← hmi]; exact (M_bd νν k).1, by rw [← hni]; exact (M_bd νν k).2⟩
        rw [hmi] at hvi
        rw [hni] at hwi
        have HVk : Hid (V k = .slice ak mk ck ∧ W k = .slice bk nk dk ∧ MPf νν k = mk ∧ MTf νν k = nk) := ⟨hvi, hwi, hmi, hni⟩
        clear hvi hwi hmi hni
        have HM0 : Hid (MG wB w4' wA (.slice (some ⟨gp, 0, none⟩) 3 cp) V (.slice (some ⟨gt, 0, none⟩) 3 ct) W (.slice (some ⟨g1, 0, none⟩) mP k1) (.slice (some ⟨g2, 0, none⟩) mT k2) (MPf νν) (MTf νν) (FPf νν 0) (FTf νν 0) lv Gv qv Hv k k) := HI7.out
        clear HI7
        have hwr1 : IntKind.i64.wrap (-1 - (k : Int)) = -1 - (k : Int) := by rw [IntKind.wrap_i64]; omega
        have hwr2 : IntKind.i64.wrap (-100 - (k : Int)) = -100 - (k : Int) := by rw [IntKind.wrap_i64]; omega
        go_upto_region 50 with (fail)
        have hk := fun w (hb : Below wA.heap.size wA w) => MG.s2 HM0.out hb hlt HVk.out.1 HVk.out.2.1
        refine wp_region_held_drew (S := S2o gp gt k (.slice ak mk ck) (.slice bk nk dk)) (by as_aux_lemma => kernel_rfl) ?_ (fun hHeld => ?_)
        · (try dsimp only); with_reducible first | exact hk _ (Below.refl _ _) | exact hk _ (below_new _) | exact hk _ (below_two _ _ _) | exact hk _ (bd0 _) | exact hk _ (bd1 _ _) | exact hk _ (bd2 _ _ _)
        refine wpAnyH_take (i := 0) (v := ?_) rfl (by as_aux_lemma => kernel_rfl) (by as_aux_lemma => kernel_rfl) (by as_aux_lemma => kernel_rfl) (fun _ _ _ h => h) (Or.inl ⟨by rfl, ?_⟩) (by assumption) ?_
        rotate_left
        focus (intro w hSw; unfold S2o at hSw; obtain ⟨x0, x1⟩ := hSw; go_simp; (try (with_reducible rfl)); done)
        try go_simp
        refine wpAnyH_take (i := 1) (v := ?_) rfl (by as_aux_lemma => kernel_rfl) (by as_aux_lemma => kernel_rfl) (by as_aux_lemma => kernel_rfl) (fun _ _ _ h => h) (Or.inl ⟨by rfl, ?_⟩) (by assumption) ?_
        rotate_left
        focus (intro w hSw; unfold S2o at hSw; obtain ⟨x0, x1⟩ := hSw; go_simp; (try (with_reducible rfl)); done)
        try go_simp
        refine wpAnyH_take (i := 2) (v := ?_) rfl (by as_aux_lemma => kernel_rfl) (by as_aux_lemma => kernel_rfl) (by as_aux_lemma => kernel_rfl) (fun _ _ _ h => h) (Or.inl ⟨by rfl, ?_⟩) (by assumption) ?_
        rotate_left
        focus (intro w hSw; unfold S2o at hSw; obtain ⟨x0, x1⟩ := hSw; go_simp; (try (with_reducible rfl)); done)
        try go_simp
        refine wpAnyH_take (i := 3) (v := ?_) rfl (by as_aux_lemma => kernel_rfl) (by as_aux_lemma => kernel_rfl) (by as_aux_lemma => kernel_rfl) (fun _ _ _ h => h) (Or.inl ⟨by rfl, ?_⟩) (by assumption) ?_
        rotate_left
        focus (intro w hSw; unfold S2o at hSw; obtain ⟨x0, x1⟩ := hSw; go_simp; (try (with_reducible rfl)); done)
        try go_simp
        refine wpAnyH_take (i := 4) (v := ?_) rfl (by as_aux_lemma => kernel_rfl) (by as_aux_lemma => kernel_rfl) (by as_aux_lemma => kernel_rfl) (fun _ _ _ h => h) (Or.inl ⟨by rfl, ?_⟩) (by assumption) ?_
        rotate_left
        focus (intro w hSw; unfold S2o at hSw; obtain ⟨x0, x1⟩ := hSw; go_simp; (try (with_reducible rfl)); done)
        try go_simp
        refine wpAnyH_take (i := 5) (v := ?_) rfl (by as_aux_lemma => kernel_rfl) (by as_aux_lemma => kernel_rfl) (by as_aux_lemma => kernel_rfl) (fun _ _ _ h => h) (Or.inl ⟨by rfl, ?_⟩) (by assumption) ?_
        rotate_left
        focus (intro w hSw; unfold S2o at hSw; obtain ⟨x0, x1⟩ := hSw; go_simp; (try (with_reducible rfl)); done)
        try go_simp
        refine wpAnyH_take (i := 6) (v := ?_) rfl (by as_aux_lemma => kernel_rfl) (by as_aux_lemma => kernel_rfl) (by as_aux_lemma => kernel_rfl) (fun _ _ _ h => h) (Or.inl ⟨by rfl, ?_⟩) (by assumption) ?_
        rotate_left
        focus (intro w hSw; unfold S2o at hSw; obtain ⟨x0, x1⟩ := hSw; go_simp; (try (with_reducible rfl)); done)
        try go_simp
        refine wpAnyH_take (i := 7) (v := ?_) rfl (by as_aux_lemma => kernel_rfl) (by as_aux_lemma => kernel_rfl) (by as_aux_lemma => kernel_rfl) (fun _ _ _ h => h) (Or.inl ⟨by rfl, ?_⟩) (by assumption) ?_
        rotate_left
        focus (intro w hSw; unfold S2o at hSw; obtain ⟨x0, x1⟩ := hSw; go_simp; (try (with_reducible rfl)); done)
        try go_simp
        refine wpAnyH_take (i := 8) (v := ?_) rfl (by as_aux_lemma => kernel_rfl) (by as_aux_lemma => kernel_rfl) (by as_aux_lemma => kernel_rfl) (fun _ _ _ h => h) (Or.inl ⟨by rfl, ?_⟩) (by assumption) ?_
        rotate_left
        focus (intro w hSw; unfold S2o at hSw; obtain ⟨x0, x1⟩ := hSw; go_simp; (try (with_reducible rfl)); done)
        try go_simp
        refine wpAnyH_take (i := 9) (v := ?_) rfl (by as_aux_lemma => kernel_rfl) (by as_aux_lemma => kernel_rfl) (by as_aux_lemma => kernel_rfl) (fun _ _ _ h => h) (Or.inl ⟨by rfl, ?_⟩) (by assumption) ?_
        rotate_left
        focus (intro w hSw; unfold S2o at hSw; obtain ⟨x0, x1⟩ := hSw; go_simp; (try (with_reducible rfl)); done)
        try go_simp
        refine wpAnyH_take (i := 10) (v := ?_) rfl (by as_aux_lemma => kernel_rfl) (by as_aux_lemma => kernel_rfl) (by as_aux_lemma => kernel_rfl) (fun _ _ _ h => h) (Or.inl ⟨by rfl, ?_⟩) (by assumption) ?_
        rotate_left
        focus (intro w hSw; unfold S2o at hSw; obtain ⟨x0, x1⟩ := hSw; go_simp; (try (with_reducible rfl)); done)
        try go_simp
        refine wpAnyH_take (i := 11) (v := ?_) rfl (by as_aux_lemma => kernel_rfl) (by as_aux_lemma => kernel_rfl) (by as_aux_lemma => kernel_rfl) (fun _ _ _ h => h) (Or.inl ⟨by rfl, ?_⟩) (by assumption) ?_
        rotate_left
        focus (intro w hSw; unfold S2o at hSw; obtain ⟨x0, x1⟩ := hSw; go_simp; (try (with_reducible rfl)); done)
        try go_simp
        refine wpAnyH_take (i := 12) (v := ?_) rfl (by as_aux_lemma => kernel_rfl) (by as_aux_lemma => kernel_rfl) (by as_aux_lemma => kernel_rfl) (fun _ _ _ h => h) (Or.inl ⟨by rfl, ?_⟩) (by assumption) ?_
        rotate_left
        focus (intro w hSw; unfold S2o at hSw; obtain ⟨x0, x1⟩ := hSw; go_simp; (try (with_reducible rfl)); done)
        try go_simp
        refine wpAnyH_take (i := 17) (v := ?_) rfl (by as_aux_lemma => kernel_rfl) (by as_aux_lemma => kernel_rfl) (by as_aux_lemma => kernel_rfl) (fun _ _ _ h => h) (Or.inl ⟨by rfl, ?_⟩) (by assumption) ?_
        rotate_left
        focus (intro w hSw; unfold S2o at hSw; obtain ⟨x0, x1⟩ := hSw; go_simp; (try (with_reducible rfl)); done)
        try go_simp
        refine wpAnyH_take (i := 18) (v := ?_) rfl (by as_aux_lemma => kernel_rfl) (by as_aux_lemma => kernel_rfl) (by as_aux_lemma => kernel_rfl) (fun _ _ _ h => h) (Or.inl ⟨by rfl, ?_⟩) (by assumption) ?_
        rotate_left
        focus (intro w hSw; unfold S2o at hSw; obtain ⟨x0, x1⟩ := hSw; go_simp; (try (with_reducible rfl)); done)
        try go_simp
        refine wpAnyH_take (i := 19) (v := ?_) rfl (by as_aux_lemma => kernel_rfl) (by as_aux_lemma => kernel_rfl) (by as_aux_lemma => kernel_rfl) (fun _ _ _ h => h) (Or.inl ⟨by rfl, ?_⟩) (by assumption) ?_
        rotate_left
        focus (intro w hSw; unfold S2o at hSw; obtain ⟨x0, x1⟩ := hSw; go_simp; (try (with_reducible rfl)); done)
        try go_simp
        refine wpAnyH_take (i := 20) (v := ?_) rfl (by as_aux_lemma => kernel_rfl) (by as_aux_lemma => kernel_rfl) (by as_aux_lemma => kernel_rfl) (fun _ _ _ h => h) (Or.inl ⟨by rfl, ?_⟩) (by assumption) ?_
        rotate_left
        focus (intro w hSw; unfold S2o at hSw; obtain ⟨x0, x1⟩ := hSw; go_simp; (try (with_reducible rfl)); done)
        try go_simp
        refine wpAnyH_take (i := 21) (v := ?_) rfl (by as_aux_lemma => kernel_rfl) (by as_aux_lemma => kernel_rfl) (by as_aux_lemma => kernel_rfl) (fun _ _ _ h => h) (Or.inl ⟨by rfl, ?_⟩) (by assumption) ?_
        rotate_left
        focus (intro w hSw; unfold S2o at hSw; obtain ⟨x0, x1⟩ := hSw; go_simp; (try (with_reducible rfl)); done)
        try go_simp
        refine wpAnyH_take (i := 22) (v := ?_) rfl (by as_aux_lemma => kernel_rfl) (by as_aux_lemma => kernel_rfl) (by as_aux_lemma => kernel_rfl) (fun _ _ _ h => h) (Or.inl ⟨by rfl, ?_⟩) (by assumption) ?_
        rotate_left
        focus (intro w hSw; unfold S2o at hSw; obtain ⟨x0, x1⟩ := hSw; go_simp; (try (with_reducible rfl)); done)
        try go_simp
        refine wpAnyH_take (i := 23) (v := ?_) rfl (by as_aux_lemma => kernel_rfl) (by as_aux_lemma => kernel_rfl) (by as_aux_lemma => kernel_rfl) (fun _ _ _ h => h) (Or.inl ⟨by rfl, ?_⟩) (by assumption) ?_
        rotate_left
        focus (intro w hSw; unfold S2o at hSw; obtain ⟨x0, x1⟩ := hSw; go_simp; (try (with_reducible rfl)); done)
        try go_simp
        refine wpAnyH_ready (rs := [13, 24]) (by as_aux_lemma => kernel_rfl) (by simp) ?_
        refine AllReadyH.cons rfl (fun K hK => ?_) ?_
        · go_simp
          refine hK.out _ _ ?_ (fun hHeld => ?_)
          · (try dsimp only); with_reducible first | exact hk _ (Below.refl _ _) | exact hk _ (below_new _) | exact hk _ (below_two _ _ _) | exact hk _ (bd0 _) | exact hk _ (bd1 _ _) | exact hk _ (bd2 _ _ _)
          clear hK K
          refine wpAnyH_ready (rs := [14, 24]) (by as_aux_lemma => kernel_rfl) (by simp) ?_
          refine AllReadyH.cons rfl (fun K hK => ?_) ?_
          · (refine stepw_appB (.tmp 200) (.tmp 209) 45 rfl 50 (.agg #[.int .i64 0, .int .i64 0]) 2 16 Tryd.underlying45 infoPo rfl (by decide) (by decide) wB.heap.size (MG.sz HM0.out (by with_reducible first | exact bd1 _ _ | exact bd2 _ _ _)) (.slice ak mk ck) mk (ivs (mk * 2) (mkP k)) rfl (MG.ownP HM0.out (by with_reducible first | exact bd1 _ _ | exact bd2 _ _ _) hlt HVk.out.1 HVk.out.2.2.1) ?_ ?_ [.int .i64 (-1 - (k : Int)), .int .i64 (mk : Int)] rfl ?_ (by intro u hu; simp at hu; rcases hu with rfl | rfl <;> rfl) (by have := HBd.out.1; omega) ?_; rotate_left; rfl; (first | with_reducible exact lit_d1 _ _ _ | with_reducible exact lit_d2 _ _ _ _ | with_reducible exact lit_d3 _ _ _ _ | with_reducible exact lit_d4 _ _ _ _ | with_reducible exact heap_alloc_new _ _ | with_reducible exact lit_n2 _ _ _ _ | with_reducible exact lit_old (heap_alloc_new _ _) _); intro b1 cap1 u1 h0 h1 hst h2 h3; have HF1 := Hid.intro_ (And.intro h2 h0); have HA1 := Hid.intro_ (MG.stepP HM0.out (by with_reducible first | exact bd1 _ _ | exact bd2 _ _ _) hlt HVk.out.1 HVk.out.2.2.1 h1 hst h2 h3); clear h0 h1 hst h2 h3 hk; have hk := fun w (hb : Below u1.heap.size u1 w) => MG.s2 HA1.out.1 hb hlt HVk.out.1 HVk.out.2.1)
            refine hK.out _ _ ?_ (fun hHeld => ?_)
            · (try dsimp only); with_reducible first | exact hk _ (Below.refl _ _) | exact hk _ (below_new _) | exact hk _ (below_two _ _ _) | exact hk _ (bd0 _) | exact hk _ (bd1 _ _) | exact hk _ (bd2 _ _ _)
            clear hK K
            refine wpAnyH_ready (rs := [15, 24]) (by as_aux_lemma => kernel_rfl) (by simp) ?_
            refine AllReadyH.cons rfl (fun K hK => ?_) ?_
            · go_simp
              refine hK.out _ _ ?_ (fun hHeld => ?_)
              · (try dsimp only); with_reducible first | exact hk _ (Below.refl _ _) | exact hk _ (below_new _) | exact hk _ (below_two _ _ _) | exact hk _ (bd0 _) | exact hk _ (bd1 _ _) | exact hk _ (bd2 _ _ _)
              clear hK K
              refine wpAnyH_ready (rs := [16, 24]) (by as_aux_lemma => kernel_rfl) (by simp) ?_
              refine AllReadyH.cons rfl (fun K hK => ?_) ?_
              · (refine stepw_appB (.tmp 196) (.tmp 211) 43 rfl 45 (.slice none 0 0) 1 24 Tryd.underlying43 infoLp rfl (by decide) (by decide) wB.heap.size (MG.sz HA1.out.1 (by with_reducible first | exact below_new _ | exact below_two _ _ _)) lv k ((List.range k).map Gv) rfl (HA1.out.1.on (by with_reducible first | exact below_new _ | exact below_two _ _ _)).p.g.row ?_ ?_ [(.slice (some ⟨b1, 0, none⟩) (mk + 1) cap1)] rfl ?_ (by intro u hu; simp at hu; rw [hu]; rfl) (by omega) ?_; rotate_left; rfl; (first | with_reducible exact lit_d1 _ _ _ | with_reducible exact lit_d2 _ _ _ _ | with_reducible exact lit_d3 _ _ _ _ | with_reducible exact lit_d4 _ _ _ _ | with_reducible exact heap_alloc_new _ _ | with_reducible exact lit_n2 _ _ _ _ | with_reducible exact lit_old (heap_alloc_new _ _) _); intro b2 cap2 u2 h0 h1 hst h2 h3; have HF2 := Hid.intro_ (And.intro h2 h0); have HA2 := Hid.intro_ (MG.stepL HA1.out (by with_reducible first | exact below_new _ | exact below_two _ _ _) hlt h1 h2 h3); clear h0 h1 hst h2 h3 hk; have hk := fun w (hb : Below u2.heap.size u2 w) => MG.s2 HA2.out hb hlt HVk.out.1 HVk.out.2.1)
                refine hK.out _ _ ?_ (fun hHeld => ?_)
                · (try dsimp only); with_reducible first | exact hk _ (Below.refl _ _) | exact hk _ (below_new _) | exact hk _ (below_two _ _ _) | exact hk _ (bd0 _) | exact hk _ (bd1 _ _) | exact hk _ (bd2 _ _ _)
                clear hK K
                refine wpAnyH_ready (rs := [24]) (by as_aux_lemma => kernel_rfl) (by simp) ?_
                refine AllReadyH.cons rfl (fun K hK => ?_) ?_
                · go_simp
                  refine hK.out _ _ ?_ (fun hHeld => ?_)
                  · (try dsimp only); with_reducible first | exact hk _ (Below.refl _ _) | exact hk _ (below_new _) | exact hk _ (below_two _ _ _) | exact hk _ (bd0 _) | exact hk _ (bd1 _ _) | exact hk _ (bd2 _ _ _)
                  clear hK K
                  refine wpAnyH_ready (rs := [25]) (by as_aux_lemma => kernel_rfl) (by simp) ?_
                  refine AllReadyH.cons rfl (fun K hK => ?_) ?_
                  · (refine stepw_appB (.tmp 217) (.tmp 220) 22 rfl 3 (.int .i64 0) 1 8 Tryd.underlying22 infoIo rfl (by decide) (by decide) wB.heap.size (MG.sz HA2.out (by with_reducible first | exact Below.refl _ _ | exact below_new _)) (.slice bk nk dk) nk (ivs (nk * 1) (mkT k)) rfl (MG.ownT HA2.out (by with_reducible first | exact Below.refl _ _ | exact below_new _) hlt HVk.out.2.1 HVk.out.2.2.2) ?_ ?_ [.int .i64 (-100 - (k : Int))] rfl ?_ (by intro u hu; simp at hu; rw [hu]; rfl) (by have := HBd.out.2; omega) ?_; rotate_left; rfl; (first | with_reducible exact heap_alloc_new _ _ | with_reducible exact lit_n2 _ _ _ _ | with_reducible exact lit_keep (heap_alloc_new _ _) HF2.out.1 HF2.out.2 (by decide) | with_reducible exact lit_keep (lit_n2 _ _ _ _) HF2.out.1 HF2.out.2 (by decide) | with_reducible exact lit_keep (lit_old (heap_alloc_new _ _) _) HF2.out.1 HF2.out.2 (by decide) | with_reducible exact lit_keep (lit_old (lit_keep (lit_d4 _ _ _ _) HF1.out.1 HF1.out.2 (by decide)) _) HF2.out.1 HF2.out.2 (by decide) | with_reducible exact lit_keep (lit_old (lit_keep (lit_d2 _ _ _ _) HF1.out.1 HF1.out.2 (by decide)) _) HF2.out.1 HF2.out.2 (by decide) | with_reducible exact lit_keep (lit_old (lit_keep (lit_d3 _ _ _ _) HF1.out.1 HF1.out.2 (by decide)) _) HF2.out.1 HF2.out.2 (by decide)); intro b3 cap3 u3 h0 h1 hst h2 h3; have HA3 := Hid.intro_ (MG.stepT HA2.out (by with_reducible first | exact Below.refl _ _ | exact below_new _) hlt HVk.out.2.1 HVk.out.2.2.2 h1 hst h2 h3); clear h0 h1 hst h2 h3 hk; have hk := fun w (hb : Below u3.heap.size u3 w) => MG.s2 HA3.out.1 hb hlt HVk.out.1 HVk.out.2.1)
                    refine hK.out _ _ ?_ (fun hHeld => ?_)
                    · (try dsimp only); with_reducible first | exact hk _ (Below.refl _ _) | exact hk _ (below_new _) | exact hk _ (below_two _ _ _) | exact hk _ (bd0 _) | exact hk _ (bd1 _ _) | exact hk _ (bd2 _ _ _)
                    clear hK K
                    refine wpAnyH_ready (rs := [26]) (by as_aux_lemma => kernel_rfl) (by simp) ?_
                    refine AllReadyH.cons rfl (fun K hK => ?_) ?_
                    · go_simp
                      refine hK.out _ _ ?_ (fun hHeld => ?_)
                      · (try dsimp only); with_reducible first | exact hk _ (Below.refl _ _) | exact hk _ (below_new _) | exact hk _ (below_two _ _ _) | exact hk _ (bd0 _) | exact hk _ (bd1 _ _) | exact hk _ (bd2 _ _ _)
                      clear hK K
                      refine wpAnyH_ready (rs := [27]) (by as_aux_lemma => kernel_rfl) (by simp) ?_
                      refine AllReadyH.cons rfl (fun K hK => ?_) ?_
                      · (refine stepw_appB (.tmp 213) (.tmp 222) 37 rfl 22 (.slice none 0 0) 1 24 Tryd.underlying37 infoLi rfl (by decide) (by decide) wB.heap.size (MG.sz HA3.out.1 (below_new _)) qv k ((List.range k).map Hv) rfl (HA3.out.1.on (below_new _)).t.g.row ?_ ?_ [(.slice (some ⟨b3, 0, none⟩) (nk + 1) cap3)] rfl ?_ (by intro u hu; simp at hu; rw [hu]; rfl) (by omega) ?_; rotate_left; rfl; (first | with_reducible exact lit_d1 _ _ _ | with_reducible exact lit_d2 _ _ _ _ | with_reducible exact lit_d3 _ _ _ _ | with_reducible exact lit_d4 _ _ _ _ | with_reducible exact heap_alloc_new _ _ | with_reducible exact lit_n2 _ _ _ _ | with_reducible exact lit_old (heap_alloc_new _ _) _); intro b4 cap4 u4' h0 h1 hst h2 h3; have HA4 := Hid.intro_ (MG.stepQ HA3.out (below_new _) hlt h1 h2 h3); clear h0 h1 hst h2 h3 hk; have hk := fun w (hb : Below u4'.heap.size u4' w) => MG.s2 HA4.out hb hlt HVk.out.1 HVk.out.2.1)
                        refine hK.out _ _ ?_ (fun hHeld => ?_)
                        · (try dsimp only); with_reducible first | exact hk _ (Below.refl _ _) | exact hk _ (below_new _) | exact hk _ (below_two _ _ _) | exact hk _ (bd0 _) | exact hk _ (bd1 _ _) | exact hk _ (bd2 _ _ _)
                        clear hK K
                        refine wpAnyH_take (i := 28) (v := ?_) rfl (by as_aux_lemma => kernel_rfl) (by as_aux_lemma => kernel_rfl) (by as_aux_lemma => kernel_rfl) (fun _ _ _ h => h) (Or.inl ⟨by rfl, ?_⟩) (by assumption) ?_
                        rotate_left
                        focus (intro w hSw; unfold S2o at hSw; obtain ⟨x0, x1⟩ := hSw; go_simp; (try (with_reducible rfl)); done)
                        try go_simp
                        refine wpAnyH_take (i := 29) (v := ?_) rfl (by as_aux_lemma => kernel_rfl) (by as_aux_lemma => kernel_rfl) (by as_aux_lemma => kernel_rfl) (fun _ _ _ h => h) (Or.inl ⟨by rfl, ?_⟩) (by assumption) ?_
                        rotate_left
                        focus (intro w hSw; unfold S2o at hSw; obtain ⟨x0, x1⟩ := hSw; go_simp; (try (with_reducible rfl)); done)
                        try go_simp
                        refine wpAnyH_done (by as_aux_lemma => kernel_rfl) ?_ _
                        go_wp2
                        go_round
                        case rel => exact ⟨k + 1, _, _, _, _, rfl, rfl, by go_num, by omega, HA4.out⟩
                        case measure => simp [intOf]; omega
                      exact AllReadyH.nil
                    exact AllReadyH.nil
                  exact AllReadyH.nil
                exact AllReadyH.nil
              refine AllReadyH.cons rfl (fun K hK => ?_) ?_
              · go_simp
                refine hK.out _ _ ?_ (fun hHeld => ?_)
                · (try dsimp only); with_reducible first | exact hk _ (Below.refl _ _) | exact hk _ (below_new _) | exact hk _ (below_two _ _ _) | exact hk _ (bd0 _) | exact hk _ (bd1 _ _) | exact hk _ (bd2 _ _ _)
                clear hK K
                refine wpAnyH_ready (rs := [16]) (by as_aux_lemma => kernel_rfl) (by simp) ?_
                refine AllReadyH.cons rfl (fun K hK => ?_) ?_
                · (refine stepw_appB (.tmp 196) (.tmp 211) 43 rfl 45 (.slice none 0 0) 1 24 Tryd.underlying43 infoLp rfl (by decide) (by decide) wB.heap.size (MG.sz HA1.out.1 (by with_reducible first | exact below_new _ | exact below_two _ _ _)) lv k ((List.range k).map Gv) rfl (HA1.out.1.on (by with_reducible first | exact below_new _ | exact below_two _ _ _)).p.g.row ?_ ?_ [(.slice (some ⟨b1, 0, none⟩) (mk + 1) cap1)] rfl ?_ (by intro u hu; simp at hu; rw [hu]; rfl) (by omega) ?_; rotate_left; rfl; (first | with_reducible exact lit_d1 _ _ _ | with_reducible exact lit_d2 _ _ _ _ | with_reducible exact lit_d3 _ _ _ _ | with_reducible exact lit_d4 _ _ _ _ | with_reducible exact heap_alloc_new _ _ | with_reducible exact lit_n2 _ _ _ _ | with_reducible exact lit_old (heap_alloc_new _ _) _); intro b2 cap2 u2 h0 h1 hst h2 h3; have HF2 := Hid.intro_ (And.intro h2 h0); have HA2 := Hid.intro_ (MG.stepL HA1.out (by with_reducible first | exact below_new _ | exact below_two _ _ _) hlt h1 h2 h3); clear h0 h1 hst h2 h3 hk; have hk := fun w (hb : Below u2.heap.size u2 w) => MG.s2 HA2.out hb hlt HVk.out.1 HVk.out.2.1)
                  refine hK.out _ _ ?_ (fun hHeld => ?_)
                  · (try dsimp only); with_reducible first | exact hk _ (Below.refl _ _) | exact hk _ (below_new _) | exact hk _ (below_two _ _ _) | exact hk _ (bd0 _) | exact hk _ (bd1 _ _) | exact hk _ (bd2 _ _ _)
                  clear hK K
                  refine wpAnyH_ready (rs := [25]) (by as_aux_lemma => kernel_rfl) (by simp) ?_
                  refine AllReadyH.cons rfl (fun K hK => ?_) ?_
                  · (refine stepw_appB (.tmp 217) (.tmp 220) 22 rfl 3 (.int .i64 0) 1 8 Tryd.underlying22 infoIo rfl (by decide) (by decide) wB.heap.size (MG.sz HA2.out (by with_reducible first | exact Below.refl _ _ | exact below_new _)) (.slice bk nk dk) nk (ivs (nk * 1) (mkT k)) rfl (MG.ownT HA2.out (by with_reducible first | exact Below.refl _ _ | exact below_new _) hlt HVk.out.2.1 HVk.out.2.2.2) ?_ ?_ [.int .i64 (-100 - (k : Int))] rfl ?_ (by intro u hu; simp at hu; rw [hu]; rfl) (by have := HBd.out.2; omega) ?_; rotate_left; rfl; (first | with_reducible exact heap_alloc_new _ _ | with_reducible exact lit_n2 _ _ _ _ | with_reducible exact lit_keep (heap_alloc_new _ _) HF2.out.1 HF2.out.2 (by decide) | with_reducible exact lit_keep (lit_n2 _ _ _ _) HF2.out.1 HF2.out.2 (by decide) | with_reducible exact lit_keep (lit_old (heap_alloc_new _ _) _) HF2.out.1 HF2.out.2 (by decide) | with_reducible exact lit_keep (lit_old (lit_keep (lit_d4 _ _ _ _) HF1.out.1 HF1.out.2 (by decide)) _) HF2.out.1 HF2.out.2 (by decide) | with_reducible exact lit_keep (lit_old (lit_keep (lit_d2 _ _ _ _) HF1.out.1 HF1.out.2 (by decide)) _) HF2.out.1 HF2.out.2 (by decide) | with_reducible exact lit_keep (lit_old (lit_keep (lit_d3 _ _ _ _) HF1.out.1 HF1.out.2 (by decide)) _) HF2.out.1 HF2.out.2 (by decide)); intro b3 cap3 u3 h0 h1 hst h2 h3; have HA3 := Hid.intro_ (MG.stepT HA2.out (by with_reducible first | exact Below.refl _ _ | exact below_new _) hlt HVk.out.2.1 HVk.out.2.2.2 h1 hst h2 h3); clear h0 h1 hst h2 h3 hk; have hk := fun w (hb : Below u3.heap.size u3 w) => MG.s2 HA3.out.1 hb hlt HVk.out.1 HVk.out.2.1)
                    refine hK.out _ _ ?_ (fun hHeld => ?_)
                    · (try dsimp only); with_reducible first | exact hk _ (Below.refl _ _) | exact hk _ (below_new _) | exact hk _ (below_two _ _ _) | exact hk _ (bd0 _) | exact hk _ (bd1 _ _) | exact hk _ (bd2 _ _ _)
                    clear hK K
                    refine wpAnyH_ready (rs := [26]) (by as_aux_lemma => kernel_rfl) (by simp) ?_
                    refine AllReadyH.cons rfl (fun K hK => ?_) ?_
                    · go_simp
                      refine hK.out _ _ ?_ (fun hHeld => ?_)
                      · (try dsimp only); with_reducible first | exact hk _ (Below.refl _ _) | exact hk _ (below_new _) | exact hk _ (below_two _ _ _) | exact hk _ (bd0 _) | exact hk _ (bd1 _ _) | exact hk _ (bd2 _ _ _)
                      clear hK K
                      refine wpAnyH_ready (rs := [27]) (by as_aux_lemma => kernel_rfl) (by simp) ?_
                      refine AllReadyH.cons rfl (fun K hK => ?_) ?_
                      · (refine stepw_appB (.tmp 213) (.tmp 222) 37 rfl 22 (.slice none 0 0) 1 24 Tryd.underlying37 infoLi rfl (by decide) (by decide) wB.heap.size (MG.sz HA3.out.1 (below_new _)) qv k ((List.range k).map Hv) rfl (HA3.out.1.on (below_new _)).t.g.row ?_ ?_ [(.slice (some ⟨b3, 0, none⟩) (nk + 1) cap3)] rfl ?_ (by intro u hu; simp at hu; rw [hu]; rfl) (by omega) ?_; rotate_left; rfl; (first | with_reducible exact lit_d1 _ _ _ | with_reducible exact lit_d2 _ _ _ _ | with_reducible exact lit_d3 _ _ _ _ | with_reducible exact lit_d4 _ _ _ _ | with_reducible exact heap_alloc_new _ _ | with_reducible exact lit_n2 _ _ _ _ | with_reducible exact lit_old (heap_alloc_new _ _) _); intro b4 cap4 u4' h0 h1 hst h2 h3; have HA4 := Hid.intro_ (MG.stepQ HA3.out (below_new _) hlt h1 h2 h3); clear h0 h1 hst h2 h3 hk; have hk := fun w (hb : Below u4'.heap.size u4' w) => MG.s2 HA4.out hb hlt HVk.out.1 HVk.out.2.1)
                        refine hK.out _ _ ?_ (fun hHeld => ?_)
                        · (try dsimp only); with_reducible first | exact hk _ (Below.refl _ _) | exact hk _ (below_new _) | exact hk _ (below_two _ _ _) | exact hk _ (bd0 _) | exact hk _ (bd1 _ _) | exact hk _ (bd2 _ _ _)
                        clear hK K
                        refine wpAnyH_take (i := 28) (v := ?_) rfl (by as_aux_lemma => kernel_rfl) (by as_aux_lemma => kernel_rfl) (by as_aux_lemma => kernel_rfl) (fun _ _ _ h => h) (Or.inl ⟨by rfl, ?_⟩) (by assumption) ?_
                        rotate_left
                        focus (intro w hSw; unfold S2o at hSw; obtain ⟨x0, x1⟩ := hSw; go_simp; (try (with_reducible rfl)); done)
                        try go_simp
                        refine wpAnyH_take (i := 29) (v := ?_) rfl (by as_aux_lemma => kernel_rfl) (by as_aux_lemma => kernel_rfl) (by as_aux_lemma => kernel_rfl) (fun _ _ _ h => h) (Or.inl ⟨by rfl, ?_⟩) (by assumption) ?_
                        rotate_left
                        focus (intro w hSw; unfold S2o at hSw; obtain ⟨x0, x1⟩ := hSw; go_simp; (try (with_reducible rfl)); done)
                        try go_simp
                        refine wpAnyH_done (by as_aux_lemma => kernel_rfl) ?_ _
                        go_wp2
                        go_round
                        case rel => exact ⟨k + 1, _, _, _, _, rfl, rfl, by go_num, by omega, HA4.out⟩
                        case measure => simp [intOf]; omega
                      exact AllReadyH.nil
                    exact AllReadyH.nil
                  exact AllReadyH.nil
                exact AllReadyH.nil
              exact AllReadyH.nil
            refine AllReadyH.cons rfl (fun K hK => ?_) ?_
            · go_simp
              refine hK.out _ _ ?_ (fun hHeld => ?_)
              · (try dsimp only); with_reducible first | exact hk _ (Below.refl _ _) | exact hk _ (below_new _) | exact hk _ (below_two _ _ _) | exact hk _ (bd0 _) | exact hk _ (bd1 _ _) | exact hk _ (bd2 _ _ _)
              clear hK K
              refine wpAnyH_ready (rs := [15]) (by as_aux_lemma => kernel_rfl) (by simp) ?_
              refine AllReadyH.cons rfl (fun K hK => ?_) ?_
              · go_simp
                refine hK.out _ _ ?_ (fun hHeld => ?_)
                · (try dsimp only); with_reducible first | exact hk _ (Below.refl _ _) | exact hk _ (below_new _) | exact hk _ (below_two _ _ _) | exact hk _ (bd0 _) | exact hk _ (bd1 _ _) | exact hk _ (bd2 _ _ _)
                clear hK K
                refine wpAnyH_ready (rs := [16]) (by as_aux_lemma => kernel_rfl) (by simp) ?_
                refine AllReadyH.cons rfl (fun K hK => ?_) ?_
                · (refine stepw_appB (.tmp 196) (.tmp 211) 43 rfl 45 (.slice none 0 0) 1 24 Tryd.underlying43 infoLp rfl (by decide) (by decide) wB.heap.size (MG.sz HA1.out.1 (by with_reducible first | exact below_new _ | exact below_two _ _ _)) lv k ((List.range k).map Gv) rfl (HA1.out.1.on (by with_reducible first | exact below_new _ | exact below_two _ _ _)).p.g.row ?_ ?_ [(.slice (some ⟨b1, 0, none⟩) (mk + 1) cap1)] rfl ?_ (by intro u hu; simp at hu; rw [hu]; rfl) (by omega) ?_; rotate_left; rfl; (first | with_reducible exact lit_d1 _ _ _ | with_reducible exact lit_d2 _ _ _ _ | with_reducible exact lit_d3 _ _ _ _ | with_reducible exact lit_d4 _ _ _ _ | with_reducible exact heap_alloc_new _ _ | with_reducible exact lit_n2 _ _ _ _ | with_reducible exact lit_old (heap_alloc_new _ _) _); intro b2 cap2 u2 h0 h1 hst h2 h3; have HF2 := Hid.intro_ (And.intro h2 h0); have HA2 := Hid.intro_ (MG.stepL HA1.out (by with_reducible first | exact below_new _ | exact below_two _ _ _) hlt h1 h2 h3); clear h0 h1 hst h2 h3 hk; have hk := fun w (hb : Below u2.heap.size u2 w) => MG.s2 HA2.out hb hlt HVk.out.1 HVk.out.2.1)
                  refine hK.out _ _ ?_ (fun hHeld => ?_)
                  · (try dsimp only); with_reducible first | exact hk _ (Below.refl _ _) | exact hk _ (below_new _) | exact hk _ (below_two _ _ _) | exact hk _ (bd0 _) | exact hk _ (bd1 _ _) | exact hk _ (bd2 _ _ _)
                  clear hK K
                  refine wpAnyH_ready (rs := [25]) (by as_aux_lemma => kernel_rfl) (by simp) ?_
                  refine AllReadyH.cons rfl (fun K hK => ?_) ?_
                  · (refine stepw_appB (.tmp 217) (.tmp 220) 22 rfl 3 (.int .i64 0) 1 8 Tryd.underlying22 infoIo rfl (by decide) (by decide) wB.heap.size (MG.sz HA2.out (by with_reducible first | exact Below.refl _ _ | exact below_new _)) (.slice bk nk dk) nk (ivs (nk * 1) (mkT k)) rfl (MG.ownT HA2.out (by with_reducible first | exact Below.refl _ _ | exact below_new _) hlt HVk.out.2.1 HVk.out.2.2.2) ?_ ?_ [.int .i64 (-100 - (k : Int))] rfl ?_ (by intro u hu; simp at hu; rw [hu]; rfl) (by have := HBd.out.2; omega) ?_; rotate_left; rfl; (first | with_reducible exact heap_alloc_new _ _ | with_reducible exact lit_n2 _ _ _ _ | with_reducible exact lit_keep (heap_alloc_new _ _) HF2.out.1 HF2.out.2 (by decide) | with_reducible exact lit_keep (lit_n2 _ _ _ _) HF2.out.1 HF2.out.2 (by decide) | with_reducible exact lit_keep (lit_old (heap_alloc_new _ _) _) HF2.out.1 HF2.out.2 (by decide) | with_reducible exact lit_keep (lit_old (lit_keep (lit_d4 _ _ _ _) HF1.out.1 HF1.out.2 (by decide)) _) HF2.out.1 HF2.out.2 (by decide) | with_reducible exact lit_keep (lit_old (lit_keep (lit_d2 _ _ _ _) HF1.out.1 HF1.out.2 (by decide)) _) HF2.out.1 HF2.out.2 (by decide) | with_reducible exact lit_keep (lit_old (lit_keep (lit_d3 _ _ _ _) HF1.out.1 HF1.out.2 (by decide)) _) HF2.out.1 HF2.out.2 (by decide)); intro b3 cap3 u3 h0 h1 hst h2 h3; have HA3 := Hid.intro_ (MG.stepT HA2.out (by with_reducible first | exact Below.refl _ _ | exact below_new _) hlt HVk.out.2.1 HVk.out.2.2.2 h1 hst h2 h3); clear h0 h1 hst h2 h3 hk; have hk := fun w (hb : Below u3.heap.size u3 w) => MG.s2 HA3.out.1 hb hlt HVk.out.1 HVk.out.2.1)
                    refine hK.out _ _ ?_ (fun hHeld => ?_)
                    · (try dsimp only); with_reducible first | exact hk _ (Below.refl _ _) | exact hk _ (below_new _) | exact hk _ (below_two _ _ _) | exact hk _ (bd0 _) | exact hk _ (bd1 _ _) | exact hk _ (bd2 _ _ _)
                    clear hK K
                    refine wpAnyH_ready (rs := [26]) (by as_aux_lemma => kernel_rfl) (by simp) ?_
                    refine AllReadyH.cons rfl (fun K hK => ?_) ?_
                    · go_simp
                      refine hK.out _ _ ?_ (fun hHeld => ?_)
                      · (try dsimp only); with_reducible first | exact hk _ (Below.refl _ _) | exact hk _ (below_new _) | exact hk _ (below_two _ _ _) | exact hk _ (bd0 _) | exact hk _ (bd1 _ _) | exact hk _ (bd2 _ _ _)
                      clear hK K
                      refine wpAnyH_ready (rs := [27]) (by as_aux_lemma => kernel_rfl) (by simp) ?_
                      refine AllReadyH.cons rfl (fun K hK => ?_) ?_
                      · (refine stepw_appB (.tmp 213) (.tmp 222) 37 rfl 22 (.slice none 0 0) 1 24 Tryd.underlying37 infoLi rfl (by decide) (by decide) wB.heap.size (MG.sz HA3.out.1 (below_new _)) qv k ((List.range k).map Hv) rfl (HA3.out.1.on (below_new _)).t.g.row ?_ ?_ [(.slice (some ⟨b3, 0, none⟩) (nk + 1) cap3)] rfl ?_ (by intro u hu; simp at hu; rw [hu]; rfl) (by omega) ?_; rotate_left; rfl; (first | with_reducible exact lit_d1 _ _ _ | with_reducible exact lit_d2 _ _ _ _ | with_reducible exact lit_d3 _ _ _ _ | with_reducible exact lit_d4 _ _ _ _ | with_reducible exact heap_alloc_new _ _ | with_reducible exact lit_n2 _ _ _ _ | with_reducible exact lit_old (heap_alloc_new _ _) _); intro b4 cap4 u4' h0 h1 hst h2 h3; have HA4 := Hid.intro_ (MG.stepQ HA3.out (below_new _) hlt h1 h2 h3); clear h0 h1 hst h2 h3 hk; have hk := fun w (hb : Below u4'.heap.size u4' w) => MG.s2 HA4.out hb hlt HVk.out.1 HVk.out.2.1)
                        refine hK.out _ _ ?_ (fun hHeld => ?_)
                        · (try dsimp only); with_reducible first | exact hk _ (Below.refl _ _) | exact hk _ (below_new _) | exact hk _ (below_two _ _ _) | exact hk _ (bd0 _) | exact hk _ (bd1 _ _) | exact hk _ (bd2 _ _ _)
                        clear hK K
                        refine wpAnyH_take (i := 28) (v := ?_) rfl (by as_aux_lemma => kernel_rfl) (by as_aux_lemma => kernel_rfl) (by as_aux_lemma => kernel_rfl) (fun _ _ _ h => h) (Or.inl ⟨by rfl, ?_⟩) (by assumption) ?_
                        rotate_left
                        focus (intro w hSw; unfold S2o at hSw; obtain ⟨x0, x1⟩ := hSw; go_simp; (try (with_reducible rfl)); done)
                        try go_simp
                        refine wpAnyH_take (i := 29) (v := ?_) rfl (by as_aux_lemma => kernel_rfl) (by as_aux_lemma => kernel_rfl) (by as_aux_lemma => kernel_rfl) (fun _ _ _ h => h) (Or.inl ⟨by rfl, ?_⟩) (by assumption) ?_
                        rotate_left
                        focus (intro w hSw; unfold S2o at hSw; obtain ⟨x0, x1⟩ := hSw; go_simp; (try (with_reducible rfl)); done)
                        try go_simp
                        refine wpAnyH_done (by as_aux_lemma => kernel_rfl) ?_ _
                        go_wp2
                        go_round
                        case rel => exact ⟨k + 1, _, _, _, _, rfl, rfl, by go_num, by omega, HA4.out⟩
                        case measure => simp [intOf]; omega
                      exact AllReadyH.nil
                    exact AllReadyH.nil
                  exact AllReadyH.nil
                exact AllReadyH.nil
              exact AllReadyH.nil
            exact AllReadyH.nil
          refine AllReadyH.cons rfl (fun K hK => ?_) ?_
          · go_simp
            refine hK.out _ _ ?_ (fun hHeld => ?_)
            · (try dsimp only); with_reducible first | exact hk _ (Below.refl _ _) | exact hk _ (below_new _) | exact hk _ (below_two _ _ _) | exact hk _ (bd0 _) | exact hk _ (bd1 _ _) | exact hk _ (bd2 _ _ _)
            clear hK K
            refine wpAnyH_ready (rs := [14]) (by as_aux_lemma => kernel_rfl) (by simp) ?_
            refine AllReadyH.cons rfl (fun K hK => ?_) ?_
            · (refine stepw_appB (.tmp 200) (.tmp 209) 45 rfl 50 (.agg #[.int .i64 0, .int .i64 0]) 2 16 Tryd.underlying45 infoPo rfl (by decide) (by decide) wB.heap.size (MG.sz HM0.out (by with_reducible first | exact bd1 _ _ | exact bd2 _ _ _)) (.slice ak mk ck) mk (ivs (mk * 2) (mkP k)) rfl (MG.ownP HM0.out (by with_reducible first | exact bd1 _ _ | exact bd2 _ _ _) hlt HVk.out.1 HVk.out.2.2.1) ?_ ?_ [.int .i64 (-1 - (k : Int)), .int .i64 (mk : Int)] rfl ?_ (by intro u hu; simp at hu; rcases hu with rfl | rfl <;> rfl) (by have := HBd.out.1; omega) ?_; rotate_left; rfl; (first | with_reducible exact lit_d1 _ _ _ | with_reducible exact lit_d2 _ _ _ _ | with_reducible exact lit_d3 _ _ _ _ | with_reducible exact lit_d4 _ _ _ _ | with_reducible exact heap_alloc_new _ _ | with_reducible exact lit_n2 _ _ _ _ | with_reducible exact lit_old (heap_alloc_new _ _) _); intro b1 cap1 u1 h0 h1 hst h2 h3; have HF1 := Hid.intro_ (And.intro h2 h0); have HA1 := Hid.intro_ (MG.stepP HM0.out (by with_reducible first | exact bd1 _ _ | exact bd2 _ _ _) hlt HVk.out.1 HVk.out.2.2.1 h1 hst h2 h3); clear h0 h1 hst h2 h3 hk; have hk := fun w (hb : Below u1.heap.size u1 w) => MG.s2 HA1.out.1 hb hlt HVk.out.1 HVk.out.2.1)
              refine hK.out _ _ ?_ (fun hHeld => ?_)
              · (try dsimp only); with_reducible first | exact hk _ (Below.refl _ _) | exact hk _ (below_new _) | exact hk _ (below_two _ _ _) | exact hk _ (bd0 _) | exact hk _ (bd1 _ _) | exact hk _ (bd2 _ _ _)
              clear hK K
              refine wpAnyH_ready (rs := [15]) (by as_aux_lemma => kernel_rfl) (by simp) ?_
              refine AllReadyH.cons rfl (fun K hK => ?_) ?_
              · go_simp
                refine hK.out _ _ ?_ (fun hHeld => ?_)
                · (try dsimp only); with_reducible first | exact hk _ (Below.refl _ _) | exact hk _ (below_new _) | exact hk _ (below_two _ _ _) | exact hk _ (bd0 _) | exact hk _ (bd1 _ _) | exact hk _ (bd2 _ _ _)
                clear hK K
                refine wpAnyH_ready (rs := [16]) (by as_aux_lemma => kernel_rfl) (by simp) ?_
                refine AllReadyH.cons rfl (fun K hK => ?_) ?_
                · (refine stepw_appB (.tmp 196) (.tmp 211) 43 rfl 45 (.slice none 0 0) 1 24 Tryd.underlying43 infoLp rfl (by decide) (by decide) wB.heap.size (MG.sz HA1.out.1 (by with_reducible first | exact below_new _ | exact below_two _ _ _)) lv k ((List.range k).map Gv) rfl (HA1.out.1.on (by with_reducible first | exact below_new _ | exact below_two _ _ _)).p.g.row ?_ ?_ [(.slice (some ⟨b1, 0, none⟩) (mk + 1) cap1)] rfl ?_ (by intro u hu; simp at hu; rw [hu]; rfl) (by omega) ?_; rotate_left; rfl; (first | with_reducible exact lit_d1 _ _ _ | with_reducible exact lit_d2 _ _ _ _ | with_reducible exact lit_d3 _ _ _ _ | with_reducible exact lit_d4 _ _ _ _ | with_reducible exact heap_alloc_new _ _ | with_reducible exact lit_n2 _ _ _ _ | with_reducible exact lit_old (heap_alloc_new _ _) _); intro b2 cap2 u2 h0 h1 hst h2 h3; have HF2 := Hid.intro_ (And.intro h2 h0); have HA2 := Hid.intro_ (MG.stepL HA1.out (by with_reducible first | exact below_new _ | exact below_two _ _ _) hlt h1 h2 h3); clear h0 h1 hst h2 h3 hk; have hk := fun w (hb : Below u2.heap.size u2 w) => MG.s2 HA2.out hb hlt HVk.out.1 HVk.out.2.1)
                  refine hK.out _ _ ?_ (fun hHeld => ?_)
                  · (try dsimp only); with_reducible first | exact hk _ (Below.refl _ _) | exact hk _ (below_new _) | exact hk _ (below_two _ _ _) | exact hk _ (bd0 _) | exact hk _ (bd1 _ _) | exact hk _ (bd2 _ _ _)
                  clear hK K
                  refine wpAnyH_ready (rs := [25]) (by as_aux_lemma => kernel_rfl) (by simp) ?_
                  refine AllReadyH.cons rfl (fun K hK => ?_) ?_
                  · (refine stepw_appB (.tmp 217) (.tmp 220) 22 rfl 3 (.int .i64 0) 1 8 Tryd.underlying22 infoIo rfl (by decide) (by decide) wB.heap.size (MG.sz HA2.out (by with_reducible first | exact Below.refl _ _ | exact below_new _)) (.slice bk nk dk) nk (ivs (nk * 1) (mkT k)) rfl (MG.ownT HA2.out (by with_reducible first | exact Below.refl _ _ | exact below_new _) hlt HVk.out.2.1 HVk.out.2.2.2) ?_ ?_ [.int .i64 (-100 - (k : Int))] rfl ?_ (by intro u hu; simp at hu; rw [hu]; rfl) (by have := HBd.out.2; omega) ?_; rotate_left; rfl; (first | with_reducible exact heap_alloc_new _ _ | with_reducible exact lit_n2 _ _ _ _ | with_reducible exact lit_keep (heap_alloc_new _ _) HF2.out.1 HF2.out.2 (by decide) | with_reducible exact lit_keep (lit_n2 _ _ _ _) HF2.out.1 HF2.out.2 (by decide) | with_reducible exact lit_keep (lit_old (heap_alloc_new _ _) _) HF2.out.1 HF2.out.2 (by decide) | with_reducible exact lit_keep (lit_old (lit_keep (lit_d4 _ _ _ _) HF1.out.1 HF1.out.2 (by decide)) _) HF2.out.1 HF2.out.2 (by decide) | with_reducible exact lit_keep (lit_old (lit_keep (lit_d2 _ _ _ _) HF1.out.1 HF1.out.2 (by decide)) _) HF2.out.1 HF2.out.2 (by decide) | with_reducible exact lit_keep (lit_old (lit_keep (lit_d3 _ _ _ _) HF1.out.1 HF1.out.2 (by decide)) _) HF2.out.1 HF2.out.2 (by decide)); intro b3 cap3 u3 h0 h1 hst h2 h3; have HA3 := Hid.intro_ (MG.stepT HA2.out (by with_reducible first | exact Below.refl _ _ | exact below_new _) hlt HVk.out.2.1 HVk.out.2.2.2 h1 hst h2 h3); clear h0 h1 hst h2 h3 hk; have hk := fun w (hb : Below u3.heap.size u3 w) => MG.s2 HA3.out.1 hb hlt HVk.out.1 HVk.out.2.1)
                    refine hK.out _ _ ?_ (fun hHeld => ?_)
                    · (try dsimp only); with_reducible first | exact hk _ (Below.refl _ _) | exact hk _ (below_new _) | exact hk _ (below_two _ _ _) | exact hk _ (bd0 _) | exact hk _ (bd1 _ _) | exact hk _ (bd2 _ _ _)
                    clear hK K
                    refine wpAnyH_ready (rs := [26]) (by as_aux_lemma => kernel_rfl) (by simp) ?_
                    refine AllReadyH.cons rfl (fun K hK => ?_) ?_
                    · go_simp
                      refine hK.out _ _ ?_ (fun hHeld => ?_)
                      · (try dsimp only); with_reducible first | exact hk _ (Below.refl _ _) | exact hk _ (below_new _) | exact hk _ (below_two _ _ _) | exact hk _ (bd0 _) | exact hk _ (bd1 _ _) | exact hk _ (bd2 _ _ _)
                      clear hK K
                      refine wpAnyH_ready (rs := [27]) (by as_aux_lemma => kernel_rfl) (by simp) ?_
                      refine AllReadyH.cons rfl (fun K hK => ?_) ?_
                      · (refine stepw_appB (.tmp 213) (.tmp 222) 37 rfl 22 (.slice none 0 0) 1 24 Tryd.underlying37 infoLi rfl (by decide) (by decide) wB.heap.size (MG.sz HA3.out.1 (below_new _)) qv k ((List.range k).map Hv) rfl (HA3.out.1.on (below_new _)).t.g.row ?_ ?_ [(.slice (some ⟨b3, 0, none⟩) (nk + 1) cap3)] rfl ?_ (by intro u hu; simp at hu; rw [hu]; rfl) (by omega) ?_; rotate_left; rfl; (first | with_reducible exact lit_d1 _ _ _ | with_reducible exact lit_d2 _ _ _ _ | with_reducible exact lit_d3 _ _ _ _ | with_reducible exact lit_d4 _ _ _ _ | with_reducible exact heap_alloc_new _ _ | with_reducible exact lit_n2 _ _ _ _ | with_reducible exact lit_old (heap_alloc_new _ _) _); intro b4 cap4 u4' h0 h1 hst h2 h3; have HA4 := Hid.intro_ (MG.stepQ HA3.out (below_new _) hlt h1 h2 h3); clear h0 h1 hst h2 h3 hk; have hk := fun w (hb : Below u4'.heap.size u4' w) => MG.s2 HA4.out hb hlt HVk.out.1 HVk.out.2.1)
                        refine hK.out _ _ ?_ (fun hHeld => ?_)
                        · (try dsimp only); with_reducible first | exact hk _ (Below.refl _ _) | exact hk _ (below_new _) | exact hk _ (below_two _ _ _) | exact hk _ (bd0 _) | exact hk _ (bd1 _ _) | exact hk _ (bd2 _ _ _)
                        clear hK K
                        refine wpAnyH_take (i := 28) (v := ?_) rfl (by as_aux_lemma => kernel_rfl) (by as_aux_lemma => kernel_rfl) (by as_aux_lemma => kernel_rfl) (fun _ _ _ h => h) (Or.inl ⟨by rfl, ?_⟩) (by assumption) ?_
                        rotate_left
                        focus (intro w hSw; unfold S2o at hSw; obtain ⟨x0, x1⟩ := hSw; go_simp; (try (with_reducible rfl)); done)
                        try go_simp
                        refine wpAnyH_take (i := 29) (v := ?_) rfl (by as_aux_lemma => kernel_rfl) (by as_aux_lemma => kernel_rfl) (by as_aux_lemma => kernel_rfl) (fun _ _ _ h => h) (Or.inl ⟨by rfl, ?_⟩) (by assumption) ?_
                        rotate_left
                        focus (intro w hSw; unfold S2o at hSw; obtain ⟨x0, x1⟩ := hSw; go_simp; (try (with_reducible rfl)); done)
                        try go_simp
                        refine wpAnyH_done (by as_aux_lemma => kernel_rfl) ?_ _
                        go_wp2
                        go_round
                        case rel => exact ⟨k + 1, _, _, _, _, rfl, rfl, by go_num, by omega, HA4.out⟩
                        case measure => simp [intOf]; omega
                      exact AllReadyH.nil
                    exact AllReadyH.nil
                  exact AllReadyH.nil
                exact AllReadyH.nil
              exact AllReadyH.nil
            exact AllReadyH.nil
          exact AllReadyH.nil
        refine AllReadyH.cons rfl (fun K hK => ?_) ?_
        · go_simp
          refine hK.out _ _ ?_ (fun hHeld => ?_)
          · (try dsimp only); with_reducible first | exact hk _ (Below.refl _ _) | exact hk _ (below_new _) | exact hk _ (below_two _ _ _) | exact hk _ (bd0 _) | exact hk _ (bd1 _ _) | exact hk _ (bd2 _ _ _)
          clear hK K
          refine wpAnyH_ready (rs := [13]) (by as_aux_lemma => kernel_rfl) (by simp) ?_
          refine AllReadyH.cons rfl (fun K hK => ?_) ?_
          · go_simp
            refine hK.out _ _ ?_ (fun hHeld => ?_)
            · (try dsimp only); with_reducible first | exact hk _ (Below.refl _ _) | exact hk _ (below_new _) | exact hk _ (below_two _ _ _) | exact hk _ (bd0 _) | exact hk _ (bd1 _ _) | exact hk _ (bd2 _ _ _)
            clear hK K
            refine wpAnyH_ready (rs := [14]) (by as_aux_lemma => kernel_rfl) (by simp) ?_
            refine AllReadyH.cons rfl (fun K hK => ?_) ?_
            · (refine stepw_appB (.tmp 200) (.tmp 209) 45 rfl 50 (.agg #[.int .i64 0, .int .i64 0]) 2 16 Tryd.underlying45 infoPo rfl (by decide) (by decide) wB.heap.size (MG.sz HM0.out (by with_reducible first | exact bd1 _ _ | exact bd2 _ _ _)) (.slice ak mk ck) mk (ivs (mk * 2) (mkP k)) rfl (MG.ownP HM0.out (by with_reducible first | exact bd1 _ _ | exact bd2 _ _ _) hlt HVk.out.1 HVk.out.2.2.1) ?_ ?_ [.int .i64 (-1 - (k : Int)), .int .i64 (mk : Int)] rfl ?_ (by intro u hu; simp at hu; rcases hu with rfl | rfl <;> rfl) (by have := HBd.out.1; omega) ?_; rotate_left; rfl; (first | with_reducible exact lit_d1 _ _ _ | with_reducible exact lit_d2 _ _ _ _ | with_reducible exact lit_d3 _ _ _ _ | with_reducible exact lit_d4 _ _ _ _ | with_reducible exact heap_alloc_new _ _ | with_reducible exact lit_n2 _ _ _ _ | with_reducible exact lit_old (heap_alloc_new _ _) _); intro b1 cap1 u1 h0 h1 hst h2 h3; have HF1 := Hid.intro_ (And.intro h2 h0); have HA1 := Hid.intro_ (MG.stepP HM0.out (by with_reducible first | exact bd1 _ _ | exact bd2 _ _ _) hlt HVk.out.1 HVk.out.2.2.1 h1 hst h2 h3); clear h0 h1 hst h2 h3 hk; have hk := fun w (hb : Below u1.heap.size u1 w) => MG.s2 HA1.out.1 hb hlt HVk.out.1 HVk.out.2.1)
              refine hK.out _ _ ?_ (fun hHeld => ?_)
              · (try dsimp only); with_reducible first | exact hk _ (Below.refl _ _) | exact hk _ (below_new _) | exact hk _ (below_two _ _ _) | exact hk _ (bd0 _) | exact hk _ (bd1 _ _) | exact hk _ (bd2 _ _ _)
              clear hK K
              refine wpAnyH_ready (rs := [15]) (by as_aux_lemma => kernel_rfl) (by simp) ?_
              refine AllReadyH.cons rfl (fun K hK => ?_) ?_
              · go_simp
                refine hK.out _ _ ?_ (fun hHeld => ?_)
                · (try dsimp only); with_reducible first | exact hk _ (Below.refl _ _) | exact hk _ (below_new _) | exact hk _ (below_two _ _ _) | exact hk _ (bd0 _) | exact hk _ (bd1 _ _) | exact hk _ (bd2 _ _ _)
                clear hK K
                refine wpAnyH_ready (rs := [16]) (by as_aux_lemma => kernel_rfl) (by simp) ?_
                refine AllReadyH.cons rfl (fun K hK => ?_) ?_
                · (refine stepw_appB (.tmp 196) (.tmp 211) 43 rfl 45 (.slice none 0 0) 1 24 Tryd.underlying43 infoLp rfl (by decide) (by decide) wB.heap.size (MG.sz HA1.out.1 (by with_reducible first | exact below_new _ | exact below_two _ _ _)) lv k ((List.range k).map Gv) rfl (HA1.out.1.on (by with_reducible first | exact below_new _ | exact below_two _ _ _)).p.g.row ?_ ?_ [(.slice (some ⟨b1, 0, none⟩) (mk + 1) cap1)] rfl ?_ (by intro u hu; simp at hu; rw [hu]; rfl) (by omega) ?_; rotate_left; rfl; (first | with_reducible exact lit_d1 _ _ _ | with_reducible exact lit_d2 _ _ _ _ | with_reducible exact lit_d3 _ _ _ _ | with_reducible exact lit_d4 _ _ _ _ | with_reducible exact heap_alloc_new _ _ | with_reducible exact lit_n2 _ _ _ _ | with_reducible exact lit_old (heap_alloc_new _ _) _); intro b2 cap2 u2 h0 h1 hst h2 h3; have HF2 := Hid.intro_ (And.intro h2 h0); have HA2 := Hid.intro_ (MG.stepL HA1.out (by with_reducible first | exact below_new _ | exact below_two _ _ _) hlt h1 h2 h3); clear h0 h1 hst h2 h3 hk; have hk := fun w (hb : Below u2.heap.size u2 w) => MG.s2 HA2.out hb hlt HVk.out.1 HVk.out.2.1)
                  refine hK.out _ _ ?_ (fun hHeld => ?_)
                  · (try dsimp only); with_reducible first | exact hk _ (Below.refl _ _) | exact hk _ (below_new _) | exact hk _ (below_two _ _ _) | exact hk _ (bd0 _) | exact hk _ (bd1 _ _) | exact hk _ (bd2 _ _ _)
                  clear hK K
                  refine wpAnyH_ready (rs := [25]) (by as_aux_lemma => kernel_rfl) (by simp) ?_
                  refine AllReadyH.cons rfl (fun K hK => ?_) ?_
                  · (refine stepw_appB (.tmp 217) (.tmp 220) 22 rfl 3 (.int .i64 0) 1 8 Tryd.underlying22 infoIo rfl (by decide) (by decide) wB.heap.size (MG.sz HA2.out (by with_reducible first | exact Below.refl _ _ | exact below_new _)) (.slice bk nk dk) nk (ivs (nk * 1) (mkT k)) rfl (MG.ownT HA2.out (by with_reducible first | exact Below.refl _ _ | exact below_new _) hlt HVk.out.2.1 HVk.out.2.2.2) ?_ ?_ [.int .i64 (-100 - (k : Int))] rfl ?_ (by intro u hu; simp at hu; rw [hu]; rfl) (by have := HBd.out.2; omega) ?_; rotate_left; rfl; (first | with_reducible exact heap_alloc_new _ _ | with_reducible exact lit_n2 _ _ _ _ | with_reducible exact lit_keep (heap_alloc_new _ _) HF2.out.1 HF2.out.2 (by decide) | with_reducible exact lit_keep (lit_n2 _ _ _ _) HF2.out.1 HF2.out.2 (by decide) | with_reducible exact lit_keep (lit_old (heap_alloc_new _ _) _) HF2.out.1 HF2.out.2 (by decide) | with_reducible exact lit_keep (lit_old (lit_keep (lit_d4 _ _ _ _) HF1.out.1 HF1.out.2 (by decide)) _) HF2.out.1 HF2.out.2 (by decide) | with_reducible exact lit_keep (lit_old (lit_keep (lit_d2 _ _ _ _) HF1.out.1 HF1.out.2 (by decide)) _) HF2.out.1 HF2.out.2 (by decide) | with_reducible exact lit_keep (lit_old (lit_keep (lit_d3 _ _ _ _) HF1.out.1 HF1.out.2 (by decide)) _) HF2.out.1 HF2.out.2 (by decide)); intro b3 cap3 u3 h0 h1 hst h2 h3; have HA3 := Hid.intro_ (MG.stepT HA2.out (by with_reducible first | exact Below.refl _ _ | exact below_new _) hlt HVk.out.2.1 HVk.out.2.2.2 h1 hst h2 h3); clear h0 h1 hst h2 h3 hk; have hk := fun w (hb : Below u3.heap.size u3 w) => MG.s2 HA3.out.1 hb hlt HVk.out.1 HVk.out.2.1)
                    refine hK.out _ _ ?_ (fun hHeld => ?_)
                    · (try dsimp only); with_reducible first | exact hk _ (Below.refl _ _) | exact hk _ (below_new _) | exact hk _ (below_two _ _ _) | exact hk _ (bd0 _) | exact hk _ (bd1 _ _) | exact hk _ (bd2 _ _ _)
                    clear hK K
                    refine wpAnyH_ready (rs := [26]) (by as_aux_lemma => kernel_rfl) (by simp) ?_
                    refine AllReadyH.cons rfl (fun K hK => ?_) ?_
                    · go_simp
                      refine hK.out _ _ ?_ (fun hHeld => ?_)
                      · (try dsimp only); with_reducible first | exact hk _ (Below.refl _ _) | exact hk _ (below_new _) | exact hk _ (below_two _ _ _) | exact hk _ (bd0 _) | exact hk _ (bd1 _ _) | exact hk _ (bd2 _ _ _)
                      clear hK K
                      refine wpAnyH_ready (rs := [27]) (by as_aux_lemma => kernel_rfl) (by simp) ?_
                      refine AllReadyH.cons rfl (fun K hK => ?_) ?_
                      · (refine stepw_appB (.tmp 213) (.tmp 222) 37 rfl 22 (.slice none 0 0) 1 24 Tryd.underlying37 infoLi rfl (by decide) (by decide) wB.heap.size (MG.sz HA3.out.1 (below_new _)) qv k ((List.range k).map Hv) rfl (HA3.out.1.on (below_new _)).t.g.row ?_ ?_ [(.slice (some ⟨b3, 0, none⟩) (nk + 1) cap3)] rfl ?_ (by intro u hu; simp at hu; rw [hu]; rfl) (by omega) ?_; rotate_left; rfl; (first | with_reducible exact lit_d1 _ _ _ | with_reducible exact lit_d2 _ _ _ _ | with_reducible exact lit_d3 _ _ _ _ | with_reducible exact lit_d4 _ _ _ _ | with_reducible exact heap_alloc_new _ _ | with_reducible exact lit_n2 _ _ _ _ | with_reducible exact lit_old (heap_alloc_new _ _) _); intro b4 cap4 u4' h0 h1 hst h2 h3; have HA4 := Hid.intro_ (MG.stepQ HA3.out (below_new _) hlt h1 h2 h3); clear h0 h1 hst h2 h3 hk; have hk := fun w (hb : Below u4'.heap.size u4' w) => MG.s2 HA4.out hb hlt HVk.out.1 HVk.out.2.1)
                        refine hK.out _ _ ?_ (fun hHeld => ?_)
                        · (try dsimp only); with_reducible first | exact hk _ (Below.refl _ _) | exact hk _ (below_new _) | exact hk _ (below_two _ _ _) | exact hk _ (bd0 _) | exact hk _ (bd1 _ _) | exact hk _ (bd2 _ _ _)
                        clear hK K
                        refine wpAnyH_take (i := 28) (v := ?_) rfl (by as_aux_lemma => kernel_rfl) (by as_aux_lemma => kernel_rfl) (by as_aux_lemma => kernel_rfl) (fun _ _ _ h => h) (Or.inl ⟨by rfl, ?_⟩) (by assumption) ?_
                        rotate_left
                        focus (intro w hSw; unfold S2o at hSw; obtain ⟨x0, x1⟩ := hSw; go_simp; (try (with_reducible rfl)); done)
                        try go_simp
                        refine wpAnyH_take (i := 29) (v := ?_) rfl (by as_aux_lemma => kernel_rfl) (by as_aux_lemma => kernel_rfl) (by as_aux_lemma => kernel_rfl) (fun _ _ _ h => h) (Or.inl ⟨by rfl, ?_⟩) (by assumption) ?_
                        rotate_left
                        focus (intro w hSw; unfold S2o at hSw; obtain ⟨x0, x1⟩ := hSw; go_simp; (try (with_reducible rfl)); done)
                        try go_simp
                        refine wpAnyH_done (by as_aux_lemma => kernel_rfl) ?_ _
                        go_wp2
                        go_round
                        case rel => exact ⟨k + 1, _, _, _, _, rfl, rfl, by go_num, by omega, HA4.out⟩
                        case measure => simp [intOf]; omega
                      exact AllReadyH.nil
                    exact AllReadyH.nil
                  exact AllReadyH.nil
                exact AllReadyH.nil
              exact AllReadyH.nil
            exact AllReadyH.nil
          exact AllReadyH.nil
        exact AllReadyH.nil
      · have hlt' : ¬ (k : Int) < 3 := by omega
        obtain rfl : k = 3 := by omega
        go_wp2
        go_meet
        case rel => exact ⟨Gv, Hv, _, _, rfl, rfl, HI7.out⟩
  case rest =>
  obtain ⟨Gv, Hv, lv, qv, rfl, rfl, hmg⟩ := hcut
  obtain ⟨w8, hw8⟩ : ∃ w8, wc = w8 := ⟨_, rfl⟩
  rw [hw8] at hmg ⊢
  clear hw8 wc HM5
  obtain ⟨gl, cl, rfl, _⟩ := hmg.p.g.cell (k := 0) (by omega)
  obtain ⟨gq, cq, rfl, _⟩ := hmg.t.g.cell (k := 0) (by omega)
  have HG : Hid (MG wB w4' w8 (.slice (some ⟨gp, 0, none⟩) 3 cp) V (.slice (some ⟨gt, 0, none⟩) 3 ct) W (.slice (some ⟨g1, 0, none⟩) mP k1) (.slice (some ⟨g2, 0, none⟩) mT k2) (MPf νν) (MTf νν) (FPf νν 0) (FTf νν 0) (.slice (some ⟨gl, 0, none⟩) 3 cl) Gv (.slice (some ⟨gq, 0, none⟩) 3 cq) Hv 3 3) := hmg
  clear hmg
  go_upto_block 14 with (fail)
  go_cut [] (fun wx => Below w8.heap.size w8 wx)
  case first => as_aux_lemma =>
    go_wp2_with (fail)
    go_loopw [227] (fun s227 wr => ∃ i : Nat, s227 = .int .i64 (i : Int) ∧ i ≤ 3 ∧ Below w8.heap.size w8 wr) (fun s227 _ => 3 - (intOf s227).toNat)
    case atStart => exact ⟨0, rfl, by omega, Below.refl _ _⟩
    case round =>
      obtain ⟨i, rfl, hi3, hI⟩ := hrel
      obtain ⟨wA, hwA⟩ : ∃ wA, wr = wA := ⟨_, rfl⟩
      rw [hwA] at hI ⊢
      clear hwA wr
      have HA : Hid (Below w8.heap.size w8 wA) := hI
      clear hI
      by_cases hlt : i < 3
      · have hlt' : (i : Int) < 3 := by omega
        obtain ⟨mi, hmi⟩ : ∃ mi, MPf νν i = mi := ⟨_, rfl⟩
        obtain ⟨ni, hni⟩ : ∃ ni, MTf νν i = ni := ⟨_, rfl⟩
        have HBd : Hid (mi ≤ 100000 ∧ ni ≤ 100000) := ⟨by rw [← hmi]; exact (M_bd νν i).1, by rw [← hni]; exact (M_bd νν i).2⟩
        obtain ⟨gG, cG, hGi⟩ := own_ad (HG.out.longP (Below.refl _ _) hlt rfl hmi) (by omega)
        obtain ⟨gH, cH, hHi⟩ := own_ad (HG.out.longT (Below.refl _ _) hlt rfl hni) (by omega)
        obtain ⟨ai, ci, hvi⟩ := own_sl (HG.out.p.l.ls i hlt)
        obtain ⟨bi, di, hwi⟩ := own_sl (HG.out.t.l.ls i hlt)
        rw [hmi] at hvi
        rw [hni] at hwi
        have HS : Hid (Gv i = .slice (some ⟨gG, 0, none⟩) (mi + 1) cG ∧ Hv i = .slice (some ⟨gH, 0, none⟩) (ni + 1) cH ∧ V i = .slice ai mi ci ∧ W i = .slice bi ni di ∧ MPf νν i = mi ∧ MTf νν i = ni) := ⟨hGi, hHi, hvi, hwi, hmi, hni⟩
        obtain ⟨_, _, e0, q0⟩ := (HG.out.on HA.out).p.g.cell hlt
        cases e0
        rw [hGi] at q0
        clear hGi hHi hvi hwi hmi hni
        have hwr1 : IntKind.i64.wrap (-1 - (i : Int)) = -1 - (i : Int) := by rw [IntKind.wrap_i64]; omega
        have hwr2 : IntKind.i64.wrap (-100 - (i : Int)) = -100 - (i : Int) := by rw [IntKind.wrap_i64]; omega
        have hbd := HBd.out
        go_wp2_with (fail)
        clear q0
        go_loopw [235] (fun s235 wr => ∃ k : Nat, s235 = .int .i64 (k : Int) ∧ k ≤ mi + 1 ∧ Below w8.heap.size w8 wr) (fun s235 _ => mi + 1 - (intOf s235).toNat)
        case atStart => exact ⟨0, rfl, by omega, HA.out⟩
        case round =>
          obtain ⟨k, rfl, hk, hI⟩ := hrel
          obtain ⟨wA1, hwA⟩ : ∃ wA1, wr = wA1 := ⟨_, rfl⟩
          rw [hwA] at hI ⊢
          clear hwA wr HA
          have HA1 : Hid (Below w8.heap.size w8 wA1) := hI
          clear hI
          by_cases hkm : k < mi + 1
          · have hkm' : (k : Int) < (mi : Int) + 1 := by omega
            obtain ⟨y0, y1⟩ := own_mkP (HG.out.longP HA1.out hlt HS.out.1 HS.out.2.2.2.2.1) hkm
            go_upto_region 58 with (refine wpl_rowB rfl 50 (.tmp 36) (.tmp 239) rfl wA1.heap.size #[.int .i64 (-1 - (i : Int)), .int .i64 (k : Int)] rfl rfl 50 #[.int .i64 0, .int .i64 0] (heap_alloc_new wA1 _) szPo rfl (by simp [Value.oneCell']) ?_)
            clear y0 y1
            obtain ⟨wq, hwq⟩ : ∃ wq, (wA1.alloc (.cells #[.int .i64 0, .int .i64 0] 50)).setRow wA1.heap.size #[.int .i64 (-1 - (i : Int)), .int .i64 (k : Int)] = wq := ⟨_, rfl⟩
            have HQ : Hid (Below wA1.heap.size wA1 wq ∧ wq.heap[wA1.heap.size]? = some (.cells #[.int .i64 (-1 - (i : Int)), .int .i64 (k : Int)] 50 (0, 0))) := by
              rw [← hwq]
              exact ⟨(below_new _).trans ((setRow_fr _ _ _).below _ (fun k hk => by have hk : k = wA1.heap.size := hk; omega) (by simp)), setRow_heap _ _ _ _ _ _ (heap_alloc_new wA1 _)⟩
            have HBq : Hid (Below w8.heap.size w8 wq) := HA1.out.trans (HQ.out.1.mono HA1.out.size)
            obtain ⟨Pq, hPq⟩ : ∃ Pq, wA1.heap.size = Pq := ⟨_, rfl⟩
            rw [hPq] at HQ
            rw [hwq, hPq]
            clear hwq hPq HA1
            have hneq : ∀ w : World, (binOp .neq 50 (.agg #[.int .i64 (-1 - (i : Int)), .int .i64 (k : Int)]) (.agg #[.int .i64 (-1 - (i : Int)), .int .i64 (k : Int)])).run Tryd.prog w = .ok (.bool false) w := fun w => neq_same w _ _
            have s0 : wq.drew.cell? ⟨Pq, 0, none⟩ = some (.int .i64 (-1 - (i : Int))) := (cell_of_row _ _ _ _ _ _ HQ.out.2).trans rfl
            have s1 : wq.drew.cell? ⟨Pq, 1, none⟩ = some (.int .i64 (k : Int)) := (cell_of_row _ _ _ _ _ _ HQ.out.2).trans rfl
            obtain ⟨_, _, e0, s2⟩ := (HG.out.on HBq.out).p.l.cell hlt
            cases e0
            rw [HS.out.2.2.1] at s2
            by_cases hkk : k < mi
            · have hkk' : (k : Int) < (mi : Int) := by omega
              obtain ⟨gV, _, e1⟩ := own_ad (HG.out.ownP HBq.out hlt HS.out.2.2.1 HS.out.2.2.2.2.1) (by omega)
              cases e1
              obtain ⟨s3, s4⟩ := own_mkP (HG.out.ownP HBq.out hlt HS.out.2.2.1 HS.out.2.2.2.2.1) hkk
              have hSa : wq.drew.cell? ⟨Pq, 0, none⟩ = some (.int .i64 (-1 - (i : Int))) ∧ wq.drew.cell? ⟨Pq, 1, none⟩ = some (.int .i64 (k : Int)) ∧ wq.drew.cell? ⟨gp, i, none⟩ = some (.slice (some ⟨gV, 0, none⟩) mi ci) ∧ wq.drew.cell? ⟨gV, k * 2, none⟩ = some (.int .i64 (-1 - (i : Int))) ∧ wq.drew.cell? ⟨gV, k * 2 + 1, none⟩ = some (.int .i64 (k : Int)) := ⟨s0, s1, s2, s3, s4⟩
              clear s0 s1 s2 s3 s4
              refine wp_region_held_drew (S := fun w' : World => w'.cell? ⟨Pq, 0, none⟩ = some (.int .i64 (-1 - (i : Int))) ∧ w'.cell? ⟨Pq, 1, none⟩ = some (.int .i64 (k : Int)) ∧ w'.cell? ⟨gp, i, none⟩ = some (.slice (some ⟨gV, 0, none⟩) mi ci) ∧ w'.cell? ⟨gV, k * 2, none⟩ = some (.int .i64 (-1 - (i : Int))) ∧ w'.cell? ⟨gV, k * 2 + 1, none⟩ = some (.int .i64 (k : Int))) (by as_aux_lemma => kernel_rfl) ?_ (fun hHeld => ?_)
              · (try dsimp only); exact hSa
              refine wpAnyH_take (i := 0) (v := ?_) rfl (by as_aux_lemma => kernel_rfl) (by as_aux_lemma => kernel_rfl) (by as_aux_lemma => kernel_rfl) (fun _ _ _ h => h) (Or.inl ⟨by rfl, ?_⟩) (by assumption) ?_
              rotate_left
              focus (intro w hSw; (try dsimp only at hSw); obtain ⟨h50, h51, h52, h53, h54⟩ := hSw; go_simp; (try (with_reducible rfl)); done)
              try go_simp
              refine wpAnyH_take (i := 1) (v := ?_) rfl (by as_aux_lemma => kernel_rfl) (by as_aux_lemma => kernel_rfl) (by as_aux_lemma => kernel_rfl) (fun _ _ _ h => h) (Or.inl ⟨by rfl, ?_⟩) (by assumption) ?_
              rotate_left
              focus (intro w hSw; (try dsimp only at hSw); obtain ⟨h50, h51, h52, h53, h54⟩ := hSw; go_simp; (try (with_reducible rfl)); done)
              try go_simp
              refine wpAnyH_take (i := 2) (v := ?_) rfl (by as_aux_lemma => kernel_rfl) (by as_aux_lemma => kernel_rfl) (by as_aux_lemma => kernel_rfl) (fun _ _ _ h => h) (Or.inl ⟨by rfl, ?_⟩) (by assumption) ?_
              rotate_left
              focus (intro w hSw; (try dsimp only at hSw); obtain ⟨h50, h51, h52, h53, h54⟩ := hSw; go_simp; (try (with_reducible rfl)); done)
              try go_simp
              refine wpAnyH_take (i := 3) (v := ?_) rfl (by as_aux_lemma => kernel_rfl) (by as_aux_lemma => kernel_rfl) (by as_aux_lemma => kernel_rfl) (fun _ _ _ h => h) (Or.inl ⟨by rfl, ?_⟩) (by assumption) ?_
              rotate_left
              focus (intro w hSw; (try dsimp only at hSw); obtain ⟨h50, h51, h52, h53, h54⟩ := hSw; go_simp; (try (with_reducible rfl)); done)
              try go_simp
              refine wpAnyH_take (i := 4) (v := ?_) rfl (by as_aux_lemma => kernel_rfl) (by as_aux_lemma => kernel_rfl) (by as_aux_lemma => kernel_rfl) (fun _ _ _ h => h) (Or.inl ⟨by rfl, ?_⟩) (by assumption) ?_
              rotate_left
              focus (intro w hSw; (try dsimp only at hSw); obtain ⟨h50, h51, h52, h53, h54⟩ := hSw; go_simp; (try (with_reducible rfl)); done)
              try go_simp
              refine wpAnyH_take (i := 5) (v := ?_) rfl (by as_aux_lemma => kernel_rfl) (by as_aux_lemma => kernel_rfl) (by as_aux_lemma => kernel_rfl) (fun _ _ _ h => h) (Or.inl ⟨by rfl, ?_⟩) (by assumption) ?_
              rotate_left
              focus (intro w hSw; (try dsimp only at hSw); obtain ⟨h50, h51, h52, h53, h54⟩ := hSw; go_simp; (try (with_reducible rfl)); done)
              try go_simp
              refine wpAnyH_take (i := 6) (v := ?_) rfl (by as_aux_lemma => kernel_rfl) (by as_aux_lemma => kernel_rfl) (by as_aux_lemma => kernel_rfl) (fun _ _ _ h => h) (Or.inl ⟨by rfl, ?_⟩) (by assumption) ?_
              rotate_left
              focus (intro w hSw; (try dsimp only at hSw); obtain ⟨h50, h51, h52, h53, h54⟩ := hSw; go_simp; (try (with_reducible rfl)); done)
              try go_simp
              refine wpAnyH_take (i := 7) (v := ?_) rfl (by as_aux_lemma => kernel_rfl) (by as_aux_lemma => kernel_rfl) (by as_aux_lemma => kernel_rfl) (fun _ _ _ h => h) (Or.inl ⟨by rfl, ?_⟩) (by assumption) ?_
              rotate_left
              focus (intro w hSw; (try dsimp only at hSw); obtain ⟨h50, h51, h52, h53, h54⟩ := hSw; go_simp; (try (with_reducible rfl)); done)
              try go_simp
              refine wpAnyH_take (i := 8) (v := ?_) rfl (by as_aux_lemma => kernel_rfl) (by as_aux_lemma => kernel_rfl) (by as_aux_lemma => kernel_rfl) (fun _ _ _ h => h) (Or.inl ⟨by rfl, ?_⟩) (by assumption) ?_
              rotate_left
              focus (intro w hSw; (try dsimp only at hSw); obtain ⟨h50, h51, h52, h53, h54⟩ := hSw; go_simp; (try (with_reducible rfl)); done)
              try go_simp
              refine wpAnyH_take (i := 9) (v := ?_) rfl (by as_aux_lemma => kernel_rfl) (by as_aux_lemma => kernel_rfl) (by as_aux_lemma => kernel_rfl) (fun _ _ _ h => h) (Or.inl ⟨by rfl, ?_⟩) (by assumption) ?_
              rotate_left
              focus (intro w hSw; (try dsimp only at hSw); obtain ⟨h50, h51, h52, h53, h54⟩ := hSw; go_simp; (try (with_reducible rfl)); done)
              try go_simp
              refine wpAnyH_take (i := 10) (v := ?_) rfl (by as_aux_lemma => kernel_rfl) (by as_aux_lemma => kernel_rfl) (by as_aux_lemma => kernel_rfl) (fun _ _ _ h => h) (Or.inl ⟨by rfl, ?_⟩) (by assumption) ?_
              rotate_left
              focus (intro w hSw; (try dsimp only at hSw); obtain ⟨h50, h51, h52, h53, h54⟩ := hSw; go_simp; (try (with_reducible rfl)); done)
              try go_simp
              refine wpAnyH_take (i := 11) (v := ?_) rfl (by as_aux_lemma => kernel_rfl) (by as_aux_lemma => kernel_rfl) (by as_aux_lemma => kernel_rfl) (fun _ _ _ h => h) (Or.inl ⟨by rfl, ?_⟩) (by assumption) ?_
              rotate_left
              focus (intro w hSw; (try dsimp only at hSw); obtain ⟨h50, h51, h52, h53, h54⟩ := hSw; go_simp; (try (with_reducible rfl)); done)
              try go_simp
              refine wpAnyH_take (i := 12) (v := ?_) rfl (by as_aux_lemma => kernel_rfl) (by as_aux_lemma => kernel_rfl) (by as_aux_lemma => kernel_rfl) (fun _ _ _ h => h) (Or.inl ⟨by rfl, ?_⟩) (by assumption) ?_
              rotate_left
              focus (intro w hSw; (try dsimp only at hSw); obtain ⟨h50, h51, h52, h53, h54⟩ := hSw; go_simp; (try (with_reducible rfl)); done)
              try go_simp
              refine wpAnyH_take (i := 13) (v := ?_) rfl (by as_aux_lemma => kernel_rfl) (by as_aux_lemma => kernel_rfl) (by as_aux_lemma => kernel_rfl) (fun _ _ _ h => h) (Or.inl ⟨by rfl, ?_⟩) (by assumption) ?_
              rotate_left
              focus (intro w hSw; (try dsimp only at hSw); obtain ⟨h50, h51, h52, h53, h54⟩ := hSw; go_simp; (try (with_reducible rfl)); done)
              try go_simp
              refine wpAnyH_take (i := 14) (v := ?_) rfl (by as_aux_lemma => kernel_rfl) (by as_aux_lemma => kernel_rfl) (by as_aux_lemma => kernel_rfl) (fun _ _ _ h => h) (Or.inl ⟨by rfl, ?_⟩) (by assumption) ?_
              rotate_left
              focus (intro w hSw; (try dsimp only at hSw); obtain ⟨h50, h51, h52, h53, h54⟩ := hSw; go_simp; (try (with_reducible rfl)); done)
              try go_simp
              refine wpAnyH_take (i := 15) (v := ?_) rfl (by as_aux_lemma => kernel_rfl) (by as_aux_lemma => kernel_rfl) (by as_aux_lemma => kernel_rfl) (fun _ _ _ h => h) (Or.inl ⟨by rfl, ?_⟩) (by assumption) ?_
              rotate_left
              focus (intro w hSw; (try dsimp only at hSw); obtain ⟨h50, h51, h52, h53, h54⟩ := hSw; go_simp; (try (with_reducible rfl)); done)
              try go_simp
              refine wpAnyH_take (i := 16) (v := ?_) rfl (by as_aux_lemma => kernel_rfl) (by as_aux_lemma => kernel_rfl) (by as_aux_lemma => kernel_rfl) (fun _ _ _ h => h) (Or.inl ⟨by rfl, ?_⟩) (by assumption) ?_
              rotate_left
              focus (intro w hSw; (try dsimp only at hSw); obtain ⟨h50, h51, h52, h53, h54⟩ := hSw; go_simp; (try (with_reducible rfl)); done)
              try go_simp
              refine wpAnyH_take (i := 17) (v := ?_) rfl (by as_aux_lemma => kernel_rfl) (by as_aux_lemma => kernel_rfl) (by as_aux_lemma => kernel_rfl) (fun _ _ _ h => h) (Or.inl ⟨by rfl, ?_⟩) (by assumption) ?_
              rotate_left
              focus (intro w hSw; (try dsimp only at hSw); obtain ⟨h50, h51, h52, h53, h54⟩ := hSw; go_simp; (try (with_reducible rfl)); done)
              try go_simp
              refine wpAnyH_take (i := 18) (v := ?_) rfl (by as_aux_lemma => kernel_rfl) (by as_aux_lemma => kernel_rfl) (by as_aux_lemma => kernel_rfl) (fun _ _ _ h => h) (Or.inl ⟨by rfl, ?_⟩) (by assumption) ?_
              rotate_left
              focus (intro w hSw; (try dsimp only at hSw); obtain ⟨h50, h51, h52, h53, h54⟩ := hSw; go_simp; (try (with_reducible rfl)); done)
              try go_simp
              refine wpAnyH_take (i := 19) (v := ?_) rfl (by as_aux_lemma => kernel_rfl) (by as_aux_lemma => kernel_rfl) (by as_aux_lemma => kernel_rfl) (fun _ _ _ h => h) (Or.inl ⟨by rfl, ?_⟩) (by assumption) ?_
              rotate_left
              focus (intro w hSw; (try dsimp only at hSw); obtain ⟨h50, h51, h52, h53, h54⟩ := hSw; go_simp; (try (with_reducible rfl)); done)
              try go_simp
              refine wpAnyH_take (i := 20) (v := ?_) rfl (by as_aux_lemma => kernel_rfl) (by as_aux_lemma => kernel_rfl) (by as_aux_lemma => kernel_rfl) (fun _ _ _ h => h) (Or.inl ⟨by rfl, ?_⟩) (by assumption) ?_
              rotate_left
              focus (intro w hSw; (try dsimp only at hSw); obtain ⟨h50, h51, h52, h53, h54⟩ := hSw; go_simp; (try (with_reducible rfl)); done)
              try go_simp
              refine wpAnyH_take (i := 21) (v := ?_) rfl (by as_aux_lemma => kernel_rfl) (by as_aux_lemma => kernel_rfl) (by as_aux_lemma => kernel_rfl) (fun _ _ _ h => h) (Or.inl ⟨by rfl, ?_⟩) (by assumption) ?_
              rotate_left
              focus (intro w hSw; (try dsimp only at hSw); obtain ⟨h50, h51, h52, h53, h54⟩ := hSw; go_simp; (try (with_reducible rfl)); done)
              try go_simp
              refine wpAnyH_take (i := 22) (v := ?_) rfl (by as_aux_lemma => kernel_rfl) (by as_aux_lemma => kernel_rfl) (by as_aux_lemma => kernel_rfl) (fun _ _ _ h => h) (Or.inl ⟨by rfl, ?_⟩) (by assumption) ?_
              rotate_left
              focus (intro w hSw; (try dsimp only at hSw); obtain ⟨h50, h51, h52, h53, h54⟩ := hSw; go_simp; (try (with_reducible rfl)); done)
              try go_simp
              refine wpAnyH_take (i := 23) (v := ?_) rfl (by as_aux_lemma => kernel_rfl) (by as_aux_lemma => kernel_rfl) (by as_aux_lemma => kernel_rfl) (fun _ _ _ h => h) (Or.inl ⟨by rfl, ?_⟩) (by assumption) ?_
              rotate_left
              focus (intro w hSw; (try dsimp only at hSw); obtain ⟨h50, h51, h52, h53, h54⟩ := hSw; go_simp; (try (with_reducible rfl)); done)
              try go_simp
              refine wpAnyH_take (i := 24) (v := ?_) rfl (by as_aux_lemma => kernel_rfl) (by as_aux_lemma => kernel_rfl) (by as_aux_lemma => kernel_rfl) (fun _ _ _ h => h) (Or.inl ⟨by rfl, ?_⟩) (by assumption) ?_
              rotate_left
              focus (intro w hSw; (try dsimp only at hSw); obtain ⟨h50, h51, h52, h53, h54⟩ := hSw; go_simp; (try (with_reducible rfl)); done)
              try go_simp
              refine wpAnyH_take (i := 25) (v := ?_) rfl (by as_aux_lemma => kernel_rfl) (by as_aux_lemma => kernel_rfl) (by as_aux_lemma => kernel_rfl) (fun _ _ _ h => h) (Or.inl ⟨by rfl, ?_⟩) (by assumption) ?_
              rotate_left
              focus (intro w hSw; (try dsimp only at hSw); obtain ⟨h50, h51, h52, h53, h54⟩ := hSw; go_simp; (try (with_reducible rfl)); done)
              try go_simp
              refine wpAnyH_done (by as_aux_lemma => kernel_rfl) ?_ _
              go_wp2
              go_round
              case rel => exact ⟨k + 1, by go_num, by omega, HBq.out.trans (((Below.refl _ _).drew).mono HBq.out.size)⟩
              case measure => simp [intOf]; omega
            · have hkk' : ¬ (k : Int) < (mi : Int) := by omega
              have hSa : wq.drew.cell? ⟨Pq, 0, none⟩ = some (.int .i64 (-1 - (i : Int))) ∧ wq.drew.cell? ⟨Pq, 1, none⟩ = some (.int .i64 (k : Int)) ∧ wq.drew.cell? ⟨gp, i, none⟩ = some (.slice ai mi ci) := ⟨s0, s1, s2⟩
              clear s0 s1 s2
              refine wp_region_held_drew (S := fun w' : World => w'.cell? ⟨Pq, 0, none⟩ = some (.int .i64 (-1 - (i : Int))) ∧ w'.cell? ⟨Pq, 1, none⟩ = some (.int .i64 (k : Int)) ∧ w'.cell? ⟨gp, i, none⟩ = some (.slice ai mi ci)) (by as_aux_lemma => kernel_rfl) ?_ (fun hHeld => ?_)
              · (try dsimp only); exact hSa
              refine wpAnyH_take (i := 0) (v := ?_) rfl (by as_aux_lemma => kernel_rfl) (by as_aux_lemma => kernel_rfl) (by as_aux_lemma => kernel_rfl) (fun _ _ _ h => h) (Or.inl ⟨by rfl, ?_⟩) (by assumption) ?_
              rotate_left
              focus (intro w hSw; (try dsimp only at hSw); obtain ⟨h50, h51, h52⟩ := hSw; go_simp; (try (with_reducible rfl)); done)
              try go_simp
              refine wpAnyH_take (i := 1) (v := ?_) rfl (by as_aux_lemma => kernel_rfl) (by as_aux_lemma => kernel_rfl) (by as_aux_lemma => kernel_rfl) (fun _ _ _ h => h) (Or.inl ⟨by rfl, ?_⟩) (by assumption) ?_
              rotate_left
              focus (intro w hSw; (try dsimp only at hSw); obtain ⟨h50, h51, h52⟩ := hSw; go_simp; (try (with_reducible rfl)); done)
              try go_simp
              refine wpAnyH_take (i := 2) (v := ?_) rfl (by as_aux_lemma => kernel_rfl) (by as_aux_lemma => kernel_rfl) (by as_aux_lemma => kernel_rfl) (fun _ _ _ h => h) (Or.inl ⟨by rfl, ?_⟩) (by assumption) ?_
              rotate_left
              focus (intro w hSw; (try dsimp only at hSw); obtain ⟨h50, h51, h52⟩ := hSw; go_simp; (try (with_reducible rfl)); done)
              try go_simp
              refine wpAnyH_take (i := 3) (v := ?_) rfl (by as_aux_lemma => kernel_rfl) (by as_aux_lemma => kernel_rfl) (by as_aux_lemma => kernel_rfl) (fun _ _ _ h => h) (Or.inl ⟨by rfl, ?_⟩) (by assumption) ?_
              rotate_left
              focus (intro w hSw; (try dsimp only at hSw); obtain ⟨h50, h51, h52⟩ := hSw; go_simp; (try (with_reducible rfl)); done)
              try go_simp
              refine wpAnyH_take (i := 4) (v := ?_) rfl (by as_aux_lemma => kernel_rfl) (by as_aux_lemma => kernel_rfl) (by as_aux_lemma => kernel_rfl) (fun _ _ _ h => h) (Or.inl ⟨by rfl, ?_⟩) (by assumption) ?_
              rotate_left
              focus (intro w hSw; (try dsimp only at hSw); obtain ⟨h50, h51, h52⟩ := hSw; go_simp; (try (with_reducible rfl)); done)
              try go_simp
              refine wpAnyH_take (i := 5) (v := ?_) rfl (by as_aux_lemma => kernel_rfl) (by as_aux_lemma => kernel_rfl) (by as_aux_lemma => kernel_rfl) (fun _ _ _ h => h) (Or.inl ⟨by rfl, ?_⟩) (by assumption) ?_
              rotate_left
              focus (intro w hSw; (try dsimp only at hSw); obtain ⟨h50, h51, h52⟩ := hSw; go_simp; (try (with_reducible rfl)); done)
              try go_simp
              refine wpAnyH_take (i := 6) (v := ?_) rfl (by as_aux_lemma => kernel_rfl) (by as_aux_lemma => kernel_rfl) (by as_aux_lemma => kernel_rfl) (fun _ _ _ h => h) (Or.inl ⟨by rfl, ?_⟩) (by assumption) ?_
              rotate_left
              focus (intro w hSw; (try dsimp only at hSw); obtain ⟨h50, h51, h52⟩ := hSw; go_simp; (try (with_reducible rfl)); done)
              try go_simp
              refine wpAnyH_take (i := 7) (v := ?_) rfl (by as_aux_lemma => kernel_rfl) (by as_aux_lemma => kernel_rfl) (by as_aux_lemma => kernel_rfl) (fun _ _ _ h => h) (Or.inl ⟨by rfl, ?_⟩) (by assumption) ?_
              rotate_left
              focus (intro w hSw; (try dsimp only at hSw); obtain ⟨h50, h51, h52⟩ := hSw; go_simp; (try (with_reducible rfl)); done)
              try go_simp
              refine wpAnyH_take (i := 8) (v := ?_) rfl (by as_aux_lemma => kernel_rfl) (by as_aux_lemma => kernel_rfl) (by as_aux_lemma => kernel_rfl) (fun _ _ _ h => h) (Or.inl ⟨by rfl, ?_⟩) (by assumption) ?_
              rotate_left
              focus (intro w hSw; (try dsimp only at hSw); obtain ⟨h50, h51, h52⟩ := hSw; go_simp; (try (with_reducible rfl)); done)
              try go_simp
              refine wpAnyH_take (i := 9) (v := ?_) rfl (by as_aux_lemma => kernel_rfl) (by as_aux_lemma => kernel_rfl) (by as_aux_lemma => kernel_rfl) (fun _ _ _ h => h) (Or.inl ⟨by rfl, ?_⟩) (by assumption) ?_
              rotate_left
              focus (intro w hSw; (try dsimp only at hSw); obtain ⟨h50, h51, h52⟩ := hSw; go_simp; (try (with_reducible rfl)); done)
              try go_simp
              refine wpAnyH_take (i := 10) (v := ?_) rfl (by as_aux_lemma => kernel_rfl) (by as_aux_lemma => kernel_rfl) (by as_aux_lemma => kernel_rfl) (fun _ _ _ h => h) (Or.inl ⟨by rfl, ?_⟩) (by assumption) ?_
              rotate_left
              focus (intro w hSw; (try dsimp only at hSw); obtain ⟨h50, h51, h52⟩ := hSw; go_simp; (try (with_reducible rfl)); done)
              try go_simp
              refine wpAnyH_take (i := 11) (v := ?_) rfl (by as_aux_lemma => kernel_rfl) (by as_aux_lemma => kernel_rfl) (by as_aux_lemma => kernel_rfl) (fun _ _ _ h => h) (Or.inl ⟨by rfl, ?_⟩) (by assumption) ?_
              rotate_left
              focus (intro w hSw; (try dsimp only at hSw); obtain ⟨h50, h51, h52⟩ := hSw; go_simp; (try (with_reducible rfl)); done)
              try go_simp
              refine wpAnyH_take (i := 12) (v := ?_) rfl (by as_aux_lemma => kernel_rfl) (by as_aux_lemma => kernel_rfl) (by as_aux_lemma => kernel_rfl) (fun _ _ _ h => h) (Or.inl ⟨by rfl, ?_⟩) (by assumption) ?_
              rotate_left
              focus (intro w hSw; (try dsimp only at hSw); obtain ⟨h50, h51, h52⟩ := hSw; go_simp; (try (with_reducible rfl)); done)
              try go_simp
              refine wpAnyH_take (i := 13) (v := ?_) rfl (by as_aux_lemma => kernel_rfl) (by as_aux_lemma => kernel_rfl) (by as_aux_lemma => kernel_rfl) (fun _ _ _ h => h) (Or.inl ⟨by rfl, ?_⟩) (by assumption) ?_
              rotate_left
              focus (intro w hSw; (try dsimp only at hSw); obtain ⟨h50, h51, h52⟩ := hSw; go_simp; (try (with_reducible rfl)); done)
              try go_simp
              refine wpAnyH_take (i := 14) (v := ?_) rfl (by as_aux_lemma => kernel_rfl) (by as_aux_lemma => kernel_rfl) (by as_aux_lemma => kernel_rfl) (fun _ _ _ h => h) (Or.inl ⟨by rfl, ?_⟩) (by assumption) ?_
              rotate_left
              focus (intro w hSw; (try dsimp only at hSw); obtain ⟨h50, h51, h52⟩ := hSw; go_simp; (try (with_reducible rfl)); done)
              try go_simp
              refine wpAnyH_take (i := 15) (v := undef) rfl (by as_aux_lemma => kernel_rfl) (by as_aux_lemma => kernel_rfl) (by as_aux_lemma => kernel_rfl) (fun _ _ _ h => h) (Or.inr ⟨by rfl, rfl⟩) (by assumption) ?_
              try go_simp
              refine wpAnyH_take (i := 16) (v := undef) rfl (by as_aux_lemma => kernel_rfl) (by as_aux_lemma => kernel_rfl) (by as_aux_lemma => kernel_rfl) (fun _ _ _ h => h) (Or.inr ⟨by rfl, rfl⟩) (by assumption) ?_
              try go_simp
              refine wpAnyH_take (i := 17) (v := undef) rfl (by as_aux_lemma => kernel_rfl) (by as_aux_lemma => kernel_rfl) (by as_aux_lemma => kernel_rfl) (fun _ _ _ h => h) (Or.inr ⟨by rfl, rfl⟩) (by assumption) ?_
              try go_simp
              refine wpAnyH_take (i := 18) (v := undef) rfl (by as_aux_lemma => kernel_rfl) (by as_aux_lemma => kernel_rfl) (by as_aux_lemma => kernel_rfl) (fun _ _ _ h => h) (Or.inr ⟨by rfl, rfl⟩) (by assumption) ?_
              try go_simp
              refine wpAnyH_take (i := 19) (v := undef) rfl (by as_aux_lemma => kernel_rfl) (by as_aux_lemma => kernel_rfl) (by as_aux_lemma => kernel_rfl) (fun _ _ _ h => h) (Or.inr ⟨by rfl, rfl⟩) (by assumption) ?_
              try go_simp
              refine wpAnyH_take (i := 20) (v := undef) rfl (by as_aux_lemma => kernel_rfl) (by as_aux_lemma => kernel_rfl) (by as_aux_lemma => kernel_rfl) (fun _ _ _ h => h) (Or.inr ⟨by rfl, rfl⟩) (by assumption) ?_
              try go_simp
              refine wpAnyH_take (i := 21) (v := undef) rfl (by as_aux_lemma => kernel_rfl) (by as_aux_lemma => kernel_rfl) (by as_aux_lemma => kernel_rfl) (fun _ _ _ h => h) (Or.inr ⟨by rfl, rfl⟩) (by assumption) ?_
              try go_simp
              refine wpAnyH_take (i := 22) (v := undef) rfl (by as_aux_lemma => kernel_rfl) (by as_aux_lemma => kernel_rfl) (by as_aux_lemma => kernel_rfl) (fun _ _ _ h => h) (Or.inr ⟨by rfl, rfl⟩) (by assumption) ?_
              try go_simp
              refine wpAnyH_take (i := 23) (v := undef) rfl (by as_aux_lemma => kernel_rfl) (by as_aux_lemma => kernel_rfl) (by as_aux_lemma => kernel_rfl) (fun _ _ _ h => h) (Or.inr ⟨by rfl, rfl⟩) (by assumption) ?_
              try go_simp
              refine wpAnyH_take (i := 24) (v := ?_) rfl (by as_aux_lemma => kernel_rfl) (by as_aux_lemma => kernel_rfl) (by as_aux_lemma => kernel_rfl) (fun _ _ _ h => h) (Or.inl ⟨by rfl, ?_⟩) (by assumption) ?_
              rotate_left
              focus (intro w hSw; (try dsimp only at hSw); obtain ⟨h50, h51, h52⟩ := hSw; go_simp; (try (with_reducible rfl)); done)
              try go_simp
              refine wpAnyH_take (i := 25) (v := ?_) rfl (by as_aux_lemma => kernel_rfl) (by as_aux_lemma => kernel_rfl) (by as_aux_lemma => kernel_rfl) (fun _ _ _ h => h) (Or.inl ⟨by rfl, ?_⟩) (by assumption) ?_
              rotate_left
              focus (intro w hSw; (try dsimp only at hSw); obtain ⟨h50, h51, h52⟩ := hSw; go_simp; (try (with_reducible rfl)); done)
              try go_simp
              refine wpAnyH_done (by as_aux_lemma => kernel_rfl) ?_ _
              go_wp2
              go_round
              case rel => exact ⟨k + 1, by go_num, by omega, HBq.out.trans (((Below.refl _ _).drew).mono HBq.out.size)⟩
              case measure => simp [intOf]; omega
          · have hkm' : ¬ (k : Int) < (mi : Int) + 1 := by omega
            obtain ⟨_, _, e0, q0⟩ := (HG.out.on HA1.out).t.g.cell hlt
            cases e0
            rw [HS.out.2.1] at q0
            go_wp2_with (fail)
            clear q0
            go_loopw [272] (fun s272 wr => ∃ q : Nat, s272 = .int .i64 (q : Int) ∧ q ≤ ni + 1 ∧ Below w8.heap.size w8 wr) (fun s272 _ => ni + 1 - (intOf s272).toNat)
            case atStart => exact ⟨0, rfl, by omega, HA1.out⟩
            case round =>
              obtain ⟨q, rfl, hq, hI⟩ := hrel
              obtain ⟨wA2, hwA⟩ : ∃ wA2, wr = wA2 := ⟨_, rfl⟩
              rw [hwA] at hI ⊢
              clear hwA wr HA1
              have HA2 : Hid (Below w8.heap.size w8 wA2) := hI
              clear hI
              by_cases hqm : q < ni + 1
              · have hqm' : (q : Int) < (ni : Int) + 1 := by omega
                have y0 := own_mkT (HG.out.longT HA2.out hlt HS.out.2.1 HS.out.2.2.2.2.2) hqm
                obtain ⟨_, _, e0, y1⟩ := (HG.out.on HA2.out).t.l.cell hlt
                cases e0
                rw [HS.out.2.2.2.1] at y1
                by_cases hqq : q < ni
                · have hqq' : (q : Int) < (ni : Int) := by omega
                  obtain ⟨gW, _, e1⟩ := own_ad (HG.out.ownT HA2.out hlt HS.out.2.2.2.1 HS.out.2.2.2.2.2) (by omega)
                  cases e1
                  have y2 := own_mkT (HG.out.ownT HA2.out hlt HS.out.2.2.2.1 HS.out.2.2.2.2.2) hqq
                  go_wp2
                  go_round
                  case rel => exact ⟨q + 1, by go_num, by omega, HA2.out⟩
                  case measure => simp [intOf]; omega
                · have hqq' : ¬ (q : Int) < (ni : Int) := by omega
                  go_wp2
                  go_round
                  case rel => exact ⟨q + 1, by go_num, by omega, HA2.out⟩
                  case measure => simp [intOf]; omega
              · have hqm' : ¬ (q : Int) < (ni : Int) + 1 := by omega
                go_wp2
                go_round
                case rel => exact ⟨i + 1, by go_num, by omega, HA2.out⟩
                case measure => simp [intOf]; omega
      · have hlt' : ¬ (i : Int) < 3 := by omega
        go_wp2
        go_meet
        case rel => exact HA.out
  case rest =>
  obtain ⟨w9, hw9⟩ : ∃ w9, wc = w9 := ⟨_, rfl⟩
  rw [hw9] at hcut ⊢
  clear hw9 wc
  have HG9 : Hid (MG wB w4' w9 (.slice (some ⟨gp, 0, none⟩) 3 cp) V (.slice (some ⟨gt, 0, none⟩) 3 ct) W (.slice (some ⟨g1, 0, none⟩) mP k1) (.slice (some ⟨g2, 0, none⟩) mT k2) (MPf νν) (MTf νν) (FPf νν 0) (FTf νν 0) (.slice (some ⟨gl, 0, none⟩) 3 cl) Gv (.slice (some ⟨gq, 0, none⟩) 3 cq) Hv 3 3) := HG.out.on hcut
  clear hcut HG
  obtain ⟨q0, q1, q2, q3, q4, q5, q6, q7, q8, q9, q10, q11, q12, q13, q14, q15, q16, q17, q18, q19, q20, q21, q22, q23, q24, q25, q26, q27, q28, q29⟩ := (HB.out.z.on HG9.out.bel).c30
  obtain ⟨z0, z1, z2, z3, z4⟩ := (HB.out.z.on HG9.out.bel).g.c5.cells
  have HAl : Hid (Calls Tryd.prog 9 #[.pointer (some ⟨tt, 0, none⟩), .agg #[.int .i64 (n : Int), .int .i64 98, .int .i64 (gI n), .int .i64 (gD n), .int .i64 (gC n)], .agg #[.int .i64 (xx 0 0), .int .i64 (xx 0 1), .int .i64 (xx 0 2), .int .i64 (xx 0 3), .int .i64 (xx 0 4), .int .i64 (xx 0 5), .int .i64 (xx 0 6), .int .i64 (xx 0 7), .int .i64 (xx 0 8), .int .i64 (xx 0 9), .int .i64 (xx 0 10), .int .i64 (xx 0 11), .int .i64 (xx 0 12), .int .i64 (xx 0 13), .int .i64 (xx 0 14)]] w9 fun e w' => ∃ a c a' c', e = .returned (.tuple #[.slice a mP c, .slice a' mT c', .int .i64 0]) ∧ w'.ownsRow 0 50 2 (.slice a mP c) mP (ivs (mP * 2) (FPf νν 0)) ∧ w'.ownsRow 0 3 1 (.slice a' mT c') mT (ivs (mT * 1) (FTf νν 0)) ∧ Below w9.heap.size w9 w') := by
    have h9 := allO w1 w9 D T n 0 (HB.out.z.spc.on HG9.out.bel) (HT.out.on H1.out) (xx 0) (νν 0) (HB.out.wd 0 (by omega)) (Nat.zero_le _) tt HB.out.z.t
    have e1 := HMb.out.1
    have e2 := HMb.out.2.1
    unfold MPf at e1
    unfold MTf at e2
    rw [show 0 % 2 = 0 from rfl] at e1 e2
    rw [e1, e2] at h9
    refine h9.mono ?_
    rintro e w' ⟨a, c, a', c', rfl, h1, h2, _, _, h5⟩
    exact ⟨a, c, a', c', rfl, h1, h2, h5⟩
  go_wp2_with (first
    | (go_at_call 9; refine HAl.out.mono ?_; rintro e u7 ⟨a7, c7, a8, c8, rfl, h1, h2, h5⟩
       have HU7 : Hid (u7.ownsRow 0 50 2 (.slice a7 mP c7) mP (ivs (mP * 2) (FPf νν 0)) ∧ u7.ownsRow 0 3 1 (.slice a8 mT c8) mT (ivs (mT * 1) (FTf νν 0)) ∧ Below w9.heap.size w9 u7) := ⟨h1, h2, h5⟩
       clear h1 h2 h5 HAl)
    | (go_at_call 8; refine (HNu.out _).mono ?_; rintro e wq' ⟨rfl, rfl⟩)
    | (go_at_call 10; refine (same_prs HU7.out.1 (by have h9 := (HG9.out.on HU7.out.2.2).cw.row; rw [HMb.out.1] at h9; exact h9) HMb.out.2.2.1).mono ?_; rintro e u8 ⟨rfl, h1⟩
       have HU8 : Hid (Below u7.heap.size u7 u8) := h1
       clear h1)
    | (go_at_call 11; refine (same_num (owns_fr HU7.out.2.1 (below_fr HU8.out (fun _ => False)) (fun _ _ e => e)) (by have h9 := ((HG9.out.on HU7.out.2.2).on HU8.out).ca.row; rw [HMb.out.2.1] at h9; exact h9) HMb.out.2.2.2).mono ?_; rintro e u9 ⟨rfl, h1⟩
       have HU9 : Hid (Below u8.heap.size u8 u9) := h1
       clear h1))
  go_ret
  refine ⟨rfl, ?_⟩
  have b1 := HG9.out.bel.trans (HU7.out.2.2.mono HG9.out.bel.size)
  have b2 := b1.trans (HU8.out.mono b1.size)
  have b3 := b2.trans (HU9.out.mono b2.size)
  have b4 := HB.out.z.spc.ses.bel
  exact H1.out.trans ((b4.trans (b3.mono b4.size)).mono H1.out.size)
end Go.Proofs.YtgmccpimpbnnpaaDoor
