import Derived.Test.YtccocjipgbeaeaaDoorFit
namespace Go.Proofs.YtccocjipgbeaeaaDoor
open Go.RowKit Rec

set_option maxRecDepth 100000 in
set_option maxHeartbeats 8000000 in
theorem back_core (w : World) (sa : Option Addr) (sn sc : Nat) (ba : Option Addr) (bn bc : Nat) (ns : List Int) (ds : List (List Int)) (K : Nat) (n : Int) (hF : Fit ns ds K) (hT : TabAt w)
    (hM : ∀ wx, Below w.heap.size w wx → Calls Tryd.prog 13 #[.agg #[.slice sa sn sc, .slice ba bn bc]] wx fun e w' => ∃ g cap dg dcap, e = .returned (.tuple #[.slice (some ⟨g, 0, none⟩) K cap, .slice (some ⟨dg, 0, none⟩) K dcap]) ∧ OwnI w' g cap ns ∧ Data w' (some ⟨dg, 0, none⟩) ds ∧ K ≤ dcap ∧ Below wx.heap.size wx w') :
    Calls Tryd.prog 4 #[.agg #[.slice sa sn sc, .slice ba bn bc], .int .i64 n] w fun e w' => e = .returned (.bool true) ∧ Below w.heap.size w w' := by
  obtain ⟨w0, hw0⟩ : ∃ w0, w0 = w.alloc (.cells #[.slice sa sn sc, .slice ba bn bc] 34) := ⟨_, rfl⟩
  have hA : Below w.heap.size w w0 := by rw [hw0]; exact (Below.refl _ _).alloc (Nat.le_refl _) _
  have hrow : w0.heap[w.heap.size]? = some (.cells #[.slice sa sn sc, .slice ba bn bc] 34 (0, 0)) := by rw [hw0]; exact heap_alloc_new _ _
  have HC : Hid (∀ wr, Below w0.heap.size w0 wr → wr.cell? ⟨w.heap.size, 0, none⟩ = some (.slice sa sn sc) ∧ wr.cell? ⟨w.heap.size, 1, none⟩ = some (.slice ba bn bc)) := fun wr hb => by
    have hr : wr.heap[w.heap.size]? = _ := (hb.block _ (heap_lt hrow)).trans hrow
    exact ⟨by rw [cell_of_row _ _ _ _ _ _ hr]; rfl, by rw [cell_of_row _ _ _ _ _ _ hr]; rfl⟩
  have HA : Hid (Below w.heap.size w w0) := hA
  have HT : Hid (∀ wx, Below w.heap.size w wx → TabAt wx) := fun wx hx => hT.on hx
  have HK : Hid (Calls Tryd.prog 8 #[] w0 fun e w' => e = .returned (.bool true) ∧ Below w0.heap.size w0 w') := known_any w0 (hT.on hA)
  have HM : Hid (∀ wx, Below w.heap.size w wx → Calls Tryd.prog 13 #[.agg #[.slice sa sn sc, .slice ba bn bc]] wx fun e w' => ∃ g cap dg dcap, e = .returned (.tuple #[.slice (some ⟨g, 0, none⟩) K cap, .slice (some ⟨dg, 0, none⟩) K dcap]) ∧ OwnI w' g cap ns ∧ Data w' (some ⟨dg, 0, none⟩) ds ∧ K ≤ dcap ∧ Below wx.heap.size wx w') := hM
  have HF : Hid (Fit ns ds K) := hF
  have hk1 := hF.k1
  have hk96 := hF.k96
  clear hA hrow hT hM hF
  go_enter Tryd.func4, Tryd.ntmps4
  go_wp2_with fail
  rw [← hw0]
  clear hw0
  refine HK.out.mono ?_
  rintro e w1 ⟨rfl, hb⟩
  obtain ⟨c1, c2⟩ := HC.out _ hb
  have B1 : Hid (Below w.heap.size w w1) := HA.out.trans (hb.mono HA.out.size)
  clear hb
  go_upto_region 7 with (first
    | (go_at_call 13; refine (HM.out _ B1.out).mono ?_; rintro e w2 ⟨g, cap, dg, dcap, rfl, hI, hD, hdc, hb⟩; have H2 : Hid (OwnI w2 g cap ns ∧ Data w2 (some ⟨dg, 0, none⟩) ds ∧ Below w.heap.size w w2) := ⟨hI, hD, B1.out.trans (hb.mono B1.out.size)⟩; clear hI hD hb)
    | (go_at_call 12; refine (HF.out.make _ g cap dg 0 dcap H2.out.1 H2.out.2.1 (HT.out _ H2.out.2.2)).mono ?_; rintro e w3 ⟨h, rfl, ho, hg, hb⟩; have H3 : Hid (OwnB w3 h 512 (made ns ds) ∧ OwnI w3 g cap ns ∧ Data w3 (some ⟨dg, 0, none⟩) ds ∧ Below w.heap.size w w3) := ⟨ho, H2.out.1.on hb, H2.out.2.1.on hb, H2.out.2.2.trans (hb.mono H2.out.2.2.size)⟩; clear ho hg hb)
    | (go_at_call 10; refine (num_any _ _).mono ?_; rintro e w' ⟨rfl, rfl⟩))
  clear c1 c2
  obtain ⟨k, hk⟩ : ∃ k : Nat, (K : Int) - 1 = (k : Int) := ⟨K - 1, by omega⟩
  have hkK : k < K := by omega
  obtain ⟨L, hL⟩ : ∃ L, nth ns (K - 1) = L := ⟨_, rfl⟩
  have HL : Hid (nth ns (K - 1) = L) := hL
  have c3 : w3.cell? ⟨g, k, none⟩ = some (.int .i64 L) := by
    have := H3.out.2.1.cell k (by rw [HF.out.nl]; exact hkK)
    rw [show k = K - 1 by omega] at this ⊢
    rw [HL.out] at this
    exact this
  clear hL
  by_cases hn : n ≤ L
  · have HN : Hid (Calls Tryd.prog 9 #[.slice (some ⟨h, 0, none⟩) 512 512, .int .i64 n] w3 fun e w' => ∃ a' c', e = .returned (.tuple #[.slice a' 0 c', .int .i64 41]) ∧ Below w3.heap.size w3 w') := by
      refine (nums_any w3 _ 512 512 _ n (made_length _ _) H3.out.1.bytes (by omega) (HT.out _ H3.out.2.2.2)).mono ?_
      rintro e w' ⟨v, rfl, h2, h3⟩
      unfold NumsAt at h2
      rw [HF.out.numsL, HL.out, if_neg (by omega)] at h2
      rw [HF.out.numsE, HL.out, if_neg (by omega)]
      rcases h2 with ⟨_, rfl⟩ | ⟨g', cap', rfl, _, _⟩
      · exact ⟨_, _, rfl, h3⟩
      · exact ⟨_, _, rfl, h3⟩
    have HG : Hid (∀ wx, Below w3.heap.size w3 wx → Calls Tryd.prog 11 #[.slice (some ⟨h, 0, none⟩) 512 512, .int .i64 n, .slice (some ⟨dg, 0, none⟩) K dcap] wx fun e w' => e = .returned (.bool false) ∧ Below wx.heap.size wx w') := fun wx hx => by
      have := good_any wx _ _ 512 512 K dcap _ ds n (made_length ns ds) HF.out.dl (H3.out.1.on hx).bytes (by omega) (H3.out.2.2.1.on hx) (HT.out _ (H3.out.2.2.2.trans (hx.mono H3.out.2.2.2.size)))
      rw [HF.out.goodE, HL.out, decide_eq_false (by omega), Bool.false_and, Bool.false_and] at this
      exact this
    go_wp2_with (first
      | (go_at_call 9; refine HN.out.mono ?_; rintro e w4 ⟨a4, c4, rfl, hb⟩; have H4 : Hid (Below w3.heap.size w3 w4) := hb; clear hb)
      | (go_at_call 10; refine (num_any _ _).mono ?_; rintro e w' ⟨rfl, rfl⟩)
      | (go_at_call 11; refine (HG.out _ H4.out).mono ?_; rintro e w5 ⟨rfl, hb⟩; have H5 : Hid (Below w.heap.size w w5) := (H3.out.2.2.2.trans (H4.out.mono H3.out.2.2.2.size)).trans (hb.mono (Nat.le_trans H3.out.2.2.2.size H4.out.size)); clear hb))
    go_ret
    exact ⟨rfl, H5.out⟩
  · have hn' : L < n := by omega
    have HN : Hid (Calls Tryd.prog 9 #[.slice (some ⟨h, 0, none⟩) 512 512, .int .i64 n] w3 fun e w' => ∃ g' c', e = .returned (.tuple #[.slice (some ⟨g', 0, none⟩) K c', .int .i64 0]) ∧ OwnI w' g' c' ns ∧ Below w3.heap.size w3 w') := by
      refine (nums_any w3 _ 512 512 _ n (made_length _ _) H3.out.1.bytes (by omega) (HT.out _ H3.out.2.2.2)).mono ?_
      rintro e w' ⟨v, rfl, h2, h3⟩
      unfold NumsAt at h2
      rw [HF.out.numsL, HL.out, if_pos hn', HF.out.nl] at h2
      rw [HF.out.numsE, HL.out, if_pos hn']
      rcases h2 with ⟨e, _⟩ | ⟨g', cap', rfl, ho, _⟩
      · have := HF.out.nl
        rw [e] at this
        simp at this
        omega
      · exact ⟨_, _, rfl, ho, h3⟩
    have HG : Hid (∀ wx a m c es, Below w3.heap.size w3 wx → Data wx a es → es.length = m → Calls Tryd.prog 11 #[.slice (some ⟨h, 0, none⟩) 512 512, .int .i64 n, .slice a m c] wx fun e w' => e = .returned (.bool (blk es K && decide (made ns ds = made ns es))) ∧ Below wx.heap.size wx w') := fun wx a m c es hx hD hm => by
      have := good_any wx _ a 512 512 m c _ es n (made_length ns ds) hm (H3.out.1.on hx).bytes (by omega) hD (HT.out _ (H3.out.2.2.2.trans (hx.mono H3.out.2.2.2.size)))
      rw [HF.out.goodE, HL.out, decide_eq_true hn', Bool.true_and] at this
      exact this
    have HG1 : Hid (∀ wx, Below w3.heap.size w3 wx → Calls Tryd.prog 11 #[.slice (some ⟨h, 0, none⟩) 512 512, .int .i64 n, .slice (some ⟨dg, 0, none⟩) K dcap] wx fun e w' => e = .returned (.bool true) ∧ Below wx.heap.size wx w') := fun wx hx => by
      have := HG.out wx (some ⟨dg, 0, none⟩) K dcap ds hx (H3.out.2.2.1.on hx) HF.out.dl
      rw [HF.out.blk, decide_eq_true rfl] at this
      exact this
    have HG2 : Hid (∀ wx, Below w3.heap.size w3 wx → Calls Tryd.prog 11 #[.slice (some ⟨h, 0, none⟩) 512 512, .int .i64 n, .slice (if dcap = 1 then some ⟨dg, 0, none⟩ else some ⟨dg, 1, none⟩) (K - 1) (dcap - 1)] wx fun e w' => e = .returned (.bool false) ∧ Below wx.heap.size wx w') := fun wx hx => by
      have hD : Data wx (if dcap = 1 then some ⟨dg, 0, none⟩ else some ⟨dg, 1, none⟩) (ds.drop 1) := by
        by_cases hB : dcap = 1
        · have : ds.drop 1 = [] := List.drop_eq_nil_of_le (by rw [HF.out.dl]; omega)
          rw [this]; exact ⟨by simp, .inl rfl⟩
        · rw [if_neg hB]
          have := (H3.out.2.2.1.on hx).tail
          exact this
      have := HG.out wx _ (K - 1) (dcap - 1) (ds.drop 1) hx hD (by rw [List.length_drop, HF.out.dl])
      have e : blk (ds.drop 1) K = false := by
        unfold blk
        rw [decide_eq_false (by rw [List.length_drop, HF.out.dl]; omega)]; rfl
      rw [e] at this
      exact this
    have HSm : Hid (∀ wx g' c', OwnI wx g' c' ns → OwnI wx g cap ns → Calls Tryd.prog 14 #[.slice (some ⟨g', 0, none⟩) K c', .slice (some ⟨g, 0, none⟩) K cap] wx fun e w' => e = .returned (.bool true) ∧ Below wx.heap.size wx w') := fun wx g' c' h1 h2 => by
      have := same_any wx _ _ K c' K cap ns ns HF.out.nl HF.out.nl h1.ints h2.ints
      rw [decide_eq_true rfl] at this
      exact this
    obtain ⟨Ad, hAd⟩ : ∃ A : Option Addr, (if dcap = 1 then some ⟨dg, 0, none⟩ else some ⟨dg, 1, none⟩ : Option Addr) = A := ⟨_, rfl⟩
    rw [hAd] at HG2
    go_upto_region 13 with (first
      | (go_at_call 9; refine HN.out.mono ?_; rintro e w4 ⟨g4, c4, rfl, ho, hb⟩; have H4 : Hid (OwnI w4 g4 c4 ns ∧ OwnI w4 g cap ns ∧ Below w3.heap.size w3 w4) := ⟨ho, H3.out.2.1.on hb, hb⟩; clear ho hb)
      | (go_at_call 10; refine (num_any _ _).mono ?_; rintro e w' ⟨rfl, rfl⟩)
      | (go_at_call 14; refine (HSm.out _ g4 c4 H4.out.1 H4.out.2.1).mono ?_; rintro e w5 ⟨rfl, hb⟩; have H5 : Hid (Below w3.heap.size w3 w5) := H4.out.2.2.trans (hb.mono H4.out.2.2.size); clear hb)
      | (go_at_call 11; refine (HG1.out _ H5.out).mono ?_; rintro e w6 ⟨rfl, hb⟩; have H6 : Hid (Below w3.heap.size w3 w6) := H5.out.trans (hb.mono H5.out.size); clear hb))
    have HD6 : Hid (Data w6 (some ⟨dg, 0, none⟩) ds) := H3.out.2.2.1.on H6.out
    obtain ⟨vs, hv1, hv2⟩ := vals_of HD6.out HF.out.dl (fun i hi => by rw [HF.out.rows i hi]; decide)
    have HV : Hid (SlAt w6 vs ds ∧ ∀ j u, vs[j]? = some u → w6.cell? ((⟨dg, 0, none⟩ : Addr).add j) = some u) := ⟨hv1, hv2⟩
    have hvl : vs.length = K := hv1.len.trans HF.out.dl
    have HVl : Hid (vs.length = K) := hvl
    clear hv1 hv2 hvl
    have HAl : Hid (∀ (w : World) (o : Obj), Below w.heap.size w (w.alloc o)) := fun w o => (Below.refl _ _).alloc (Nat.le_refl _) _
    have HVc : Hid (∀ wx, Below w6.heap.size w6 wx → ∀ j u, vs[j]? = some u → wx.cell? ((⟨dg, 0, none⟩ : Addr).add j) = some u) := fun wx hx j u hj => (hx.cell (block_lt_of_cell (HV.out.2 j u hj))).trans (HV.out.2 j u hj)
    have HS0 : Hid (w3.heap.size ≤ w6.heap.size) := H6.out.size
    have HB63 : Hid (∀ wx, Below w6.heap.size w6 wx → Below w3.heap.size w3 wx) := fun wx hx => H6.out.trans (hx.mono H6.out.size)
    go_cut [97] (fun s97 wx => s97 = .bool false ∧ Below w6.heap.size w6 wx)
    case first =>
      go_wp2_with (first
        | (go_at_call 11; have hh := H10.out.1; clear hh; refine (HG.out _ _ (K + 1) _ _ (HB63.out _ H10.out.2) H10.out.1 (by rw [List.length_append, HF.out.dl]; rfl)).mono ?_; rintro e w11 ⟨rfl, hb⟩; rw [show blk (ds ++ [one 0]) K = false by unfold blk; rw [decide_eq_false (by rw [List.length_append, HF.out.dl]; simp)]; rfl, Bool.false_and]; have H11 : Hid (Below w6.heap.size w6 w11) := H10.out.2.trans (hb.mono H10.out.2.size); clear hb)
        | (go_at_call 11; refine (HG2.out _ H6.out).mono ?_; rintro e w7 ⟨rfl, hb⟩; have H7 : Hid (Below w6.heap.size w6 w7) := hb; clear hb)
        | (at_builtin; have hh := H9.out.1; clear hh; go_loud (refine wp_more (w6 := w6) (w9 := w9) (by rfl) (.tmp 92) (.tmp 94) rfl g8 K cap8 g9 vs ds (one 0) rfl rfl H9.out.2.1 H9.out.1 (one_length 0) HV.out.1 H9.out.2.2.1 H9.out.2.2.2 HF.out.dl (by omega) ?_; intro g10 cap10 w10 hd hb; have H10 : Hid (Data w10 (some ⟨g10, 0, none⟩) (ds ++ [one 0]) ∧ Below w6.heap.size w6 w10) := ⟨hd, hb⟩; clear hd hb))
        | (at_builtin; refine wp_scopyG (w7 := w7) (by rfl) (.tmp 90) (.tmp 91) rfl rfl ⟨dg, 0, none⟩ K dcap vs rfl (by omega) HVl.out (HVc.out _ H7.out) HV.out.1.one' (by omega) ?_; intro g8 cap8 w8 ho hb hg; have H8 : Hid (w8.ownsRow 0 22 1 (.slice (some ⟨g8, 0, none⟩) K cap8) K vs ∧ Below w6.heap.size w6 w8 ∧ w6.heap.size ≤ g8) := ⟨ho, H7.out.trans (hb.mono H7.out.size), Nat.le_trans H7.out.size hg⟩; clear ho hb hg)
        | (go_at_call 15; refine (block_any _ 0 (by omega)).mono ?_; rintro e w9 ⟨g9, rfl, ho, hg, hb⟩; have H9 : Hid (OwnB w9 g9 512 (one 0) ∧ w9.ownsRow 0 22 1 (.slice (some ⟨g8, 0, none⟩) K cap8) K vs ∧ Below w6.heap.size w6 w9 ∧ w6.heap.size ≤ g8) := ⟨ho, owns_on H8.out.1 hb, H8.out.2.1.trans (hb.mono H8.out.2.1.size), H8.out.2.2⟩; clear ho hg hb))
      all_goals
        go_meet
        case rel => exact ⟨rfl, H11.out⟩
    case rest =>
    obtain ⟨rfl, hb12⟩ := hcut
    have H12 : Hid (Below w6.heap.size w6 wc) := hb12
    clear hb12
    obtain ⟨b0, o0, e0, hv0, hy0⟩ := HV.out.1.at_ 0 (by rw [HF.out.dl]; omega)
    obtain ⟨bk, ok, ek, hvk, hyk⟩ := HV.out.1.at_ k (by rw [HF.out.dl]; omega)
    rw [HF.out.rows 0 (by omega)] at hv0
    rw [HF.out.rows k hkK] at hvk
    have HV0 : Hid (vs[0]? = some (.slice (some ⟨b0, o0, none⟩) 512 e0) ∧ vs[k]? = some (.slice (some ⟨bk, ok, none⟩) 512 ek)) := ⟨hv0, hvk⟩
    clear hv0 hvk hy0 hyk
    clear c3 hAd
    go_upto_region 16 with (at_builtin; refine wp_scopyG (w7 := wc) (by rfl) (.tmp 98) (.tmp 99) rfl rfl ⟨dg, 0, none⟩ K dcap vs rfl (by omega) HVl.out (HVc.out _ H12.out) HV.out.1.one' (by omega) ?_; intro gt ct w13 ho hb hg; have H13 : Hid (w13.ownsRow 0 22 1 (.slice (some ⟨gt, 0, none⟩) K ct) K vs ∧ Below w6.heap.size w6 w13 ∧ w6.heap.size ≤ gt) := ⟨ho, H12.out.trans (hb.mono H12.out.size), Nat.le_trans H12.out.size hg⟩; clear ho hb hg)
    have t1 : w13.cell? ⟨gt, 0, none⟩ = some (.slice (some ⟨b0, o0, none⟩) 512 e0) := by
      have := H13.out.1.cells (g := gt) rfl 0 _ HV0.out.1
      rw [Addr.add_lit, Nat.add_zero] at this
      exact this
    have t2 : w13.cell? ⟨gt, k, none⟩ = some (.slice (some ⟨bk, ok, none⟩) 512 ek) := by
      have := H13.out.1.cells (g := gt) rfl k _ HV0.out.2
      rw [Addr.add_lit, Nat.zero_add] at this
      exact this
    have t3 : ∀ i, w13.frozen? ⟨gt, i, none⟩ = false := by
      obtain ⟨cur, hg⟩ := own_type H13.out.1 (k := gt) rfl
      exact fun i => frozen_of_row _ _ _ _ _ hg
    obtain ⟨t4, t5⟩ := setCell_again H13.out.1 HV0.out.1 HV0.out.2
    go_wp2
    go_region
    have HO : Hid ((((w13.setCell ⟨gt, 0, none⟩ (.slice (some ⟨bk, ok, none⟩) 512 ek)).setCell ⟨gt, k, none⟩ (.slice (some ⟨b0, o0, none⟩) 512 e0)).drew).ownsRow 0 22 1 (.slice (some ⟨gt, 0, none⟩) K ct) K (swp undef vs)) := swapped H13.out.1 HV0.out.1 HV0.out.2 (by omega) HVl.out
    have HOb : Hid (Below w6.heap.size w6 ((w13.setCell ⟨gt, 0, none⟩ (.slice (some ⟨bk, ok, none⟩) 512 ek)).setCell ⟨gt, k, none⟩ (.slice (some ⟨b0, o0, none⟩) 512 e0)).drew) := swapped_below H13.out.2.1 H13.out.2.2
    clear t1 t2 t3 t4 t5
    generalize ((w13.setCell ⟨gt, 0, none⟩ (.slice (some ⟨bk, ok, none⟩) 512 ek)).setCell ⟨gt, k, none⟩ (.slice (some ⟨b0, o0, none⟩) 512 e0)).drew = w14 at HO HOb ⊢
    obtain ⟨td, htd⟩ : ∃ td, td = swp [] ds := ⟨_, rfl⟩
    have HF2 : Hid (Fit ns td K) := by
      have hbl := blk_swp ds K HF.out.blk
      rw [← htd] at hbl
      simp only [blk, Bool.and_eq_true, decide_eq_true_eq] at hbl
      exact ⟨HF.out.nl, hbl.1, HF.out.k1, HF.out.k96, HF.out.may, fun i hi => (mem_row td).1 hbl.2 i (by rw [hbl.1]; exact hi)⟩
    have HD14 : Hid (Data w14 (some ⟨gt, 0, none⟩) td) := by
      have := ((HV.out.1.on HOb.out).swp (by rw [HF.out.dl]; omega)).data HO.out (by rw [← htd, HF2.out.dl]; omega)
      rw [← htd] at this
      exact this
    clear htd HO H13 HV0 HV HVl HVc HSm HG2 HG1 HN
    have B14 : Hid (Below w3.heap.size w3 w14) := HB63.out _ HOb.out
    have HBw : Hid (∀ wx, Below w3.heap.size w3 wx → Below w.heap.size w wx) := fun wx hx => H3.out.2.2.2.trans (hx.mono H3.out.2.2.2.size)
    go_upto_region 18 with (go_at_call 12; refine (HF2.out.make _ g cap gt 0 ct (H3.out.2.1.on B14.out) HD14.out (HT.out _ (HBw.out _ B14.out))).mono ?_; rintro e w15 ⟨h2, rfl, ho, hg, hb⟩; have H15 : Hid (OwnB w15 h2 512 (made ns td) ∧ OwnB w15 h 512 (made ns ds) ∧ Data w15 (some ⟨gt, 0, none⟩) td ∧ Below w3.heap.size w3 w15) := ⟨ho, (H3.out.1.on B14.out).on hb, HD14.out.on hb, B14.out.trans (hb.mono B14.out.size)⟩; clear ho hg hb)
    have HGa : Hid (∀ wx, Below w15.heap.size w15 wx → Calls Tryd.prog 11 #[.slice (some ⟨h2, 0, none⟩) 512 512, .int .i64 n, .slice (some ⟨gt, 0, none⟩) K ct] wx fun e w' => e = .returned (.bool true) ∧ Below wx.heap.size wx w') := fun wx hx => by
      have := good_any wx _ _ 512 512 K ct _ td n (made_length ns td) HF2.out.dl (H15.out.1.on hx).bytes (by omega) (H15.out.2.2.1.on hx) (HT.out _ (HBw.out _ (H15.out.2.2.2.trans (hx.mono H15.out.2.2.2.size))))
      rw [HF2.out.goodE, HL.out, decide_eq_true hn', HF2.out.blk, decide_eq_true rfl] at this
      exact this
    obtain ⟨q, hq⟩ : ∃ q : Bool, q = decide (made ns ds = made ns td) := ⟨_, rfl⟩
    have HQ : Hid (q = decide (made ns ds = made ns td)) := hq
    clear hq
    have HGb : Hid (∀ wx, Below w15.heap.size w15 wx → Calls Tryd.prog 11 #[.slice (some ⟨h, 0, none⟩) 512 512, .int .i64 n, .slice (some ⟨gt, 0, none⟩) K ct] wx fun e w' => e = .returned (.bool q) ∧ Below wx.heap.size wx w') := fun wx hx => by
      have := HG.out wx (some ⟨gt, 0, none⟩) K ct td (H15.out.2.2.2.trans (hx.mono H15.out.2.2.2.size)) (H15.out.2.2.1.on hx) HF2.out.dl
      rw [HF2.out.blk, Bool.true_and, ← HQ.out] at this
      exact this
    have HC1 : Hid (∀ wx, Below w15.heap.size w15 wx → (convert 22 9 (.slice (some ⟨h2, 0, none⟩) 512 512)).run Tryd.prog wx = .ok (.string (strOfNums (made ns td))) wx) := fun wx hx => str_opt (H15.out.1.on hx).bytes (made_length _ _)
    have HC2 : Hid (∀ wx, Below w15.heap.size w15 wx → (convert 22 9 (.slice (some ⟨h, 0, none⟩) 512 512)).run Tryd.prog wx = .ok (.string (strOfNums (made ns ds))) wx) := fun wx hx => str_opt (H15.out.2.1.on hx).bytes (made_length _ _)
    obtain ⟨S1, hS1⟩ : ∃ S, S = strOfNums (made ns td) := ⟨_, rfl⟩
    obtain ⟨S2, hS2⟩ : ∃ S, S = strOfNums (made ns ds) := ⟨_, rfl⟩
    have HSS : Hid ((S1.toList == S2.toList) = q) := by
      show _ = _
      rw [HQ.out, hS1, hS2]
      by_cases he : made ns ds = made ns td
      · rw [decide_eq_true he, he]; simp
      · rw [decide_eq_false he]
        have := str_ne (made_bd ns td) (made_bd ns ds) (fun e => he e.symm)
        simpa using this
    rw [← hS1] at HC1
    rw [← hS2] at HC2
    have hSS := HSS.out
    have HD15 : Hid (Below w15.heap.size w15 w15.drew) := (Below.refl _ w15).drew
    clear hS1 hS2 HQ HG HF HF2 HD14 B14 HB63 HOb H12 HD6 H6 HS0 HC HM HK HL hn hn' hk hkK hk1 hk96
    have HBf : Hid (∀ wx, Below w15.heap.size w15 wx → Below w.heap.size w wx) := fun wx hx => HBw.out _ (H15.out.2.2.2.trans (hx.mono H15.out.2.2.2.size))
    go_cut [4] (fun s4 wx => s4 = .bool true ∧ Below w.heap.size w wx)
    case first =>
      refine wp_region_any (by kernel_rfl) ?_
      try (change wpAny _ _ _ _ _ _ _ (World.drew _))
      refine wpAny_take (i := 0) (v := ?_) rfl (by kernel_rfl) (by kernel_rfl) (by kernel_rfl) (fun _ _ _ h => h) (Or.inl ⟨by kernel_rfl, ?_⟩) ?_
      rotate_left
      focus (intro w; go_simp; (try (with_reducible rfl)); done)
      go_simp
      refine wpAny_ready (rs := [1]) (by kernel_rfl) (by simp) ?_
      refine AllReady.cons rfl (fun K hK => ?_) ?_
      · (go_simp; go_at_call 10; refine (num_any _ _).mono ?_; rintro e w' ⟨rfl, rfl⟩)
        try go_simp
        first
          | (refine hK _ _ ?_; clear hK K)
          | skip
        refine wpAny_take (i := 2) (v := ?_) rfl (by kernel_rfl) (by kernel_rfl) (by kernel_rfl) (fun _ _ _ h => h) (Or.inl ⟨by kernel_rfl, ?_⟩) ?_
        rotate_left
        focus (intro w; go_simp; (try (with_reducible rfl)); done)
        go_simp
        refine wpAny_take (i := 3) (v := ?_) rfl (by kernel_rfl) (by kernel_rfl) (by kernel_rfl) (fun _ _ _ h => h) (Or.inl ⟨by kernel_rfl, ?_⟩) ?_
        rotate_left
        focus (intro w; go_simp; (try (with_reducible rfl)); done)
        go_simp
        refine wpAny_take (i := 4) (v := ?_) rfl (by kernel_rfl) (by kernel_rfl) (by kernel_rfl) (fun _ _ _ h => h) (Or.inl ⟨by kernel_rfl, ?_⟩) ?_
        rotate_left
        focus (intro w; go_simp; (try (with_reducible rfl)); done)
        go_simp
        refine wpAny_take (i := 5) (v := ?_) rfl (by kernel_rfl) (by kernel_rfl) (by kernel_rfl) (fun _ _ _ h => h) (Or.inl ⟨by kernel_rfl, ?_⟩) ?_
        rotate_left
        focus (intro w; go_simp; (try (with_reducible rfl)); done)
        go_simp
        refine wpAny_take (i := 6) (v := ?_) rfl (by kernel_rfl) (by kernel_rfl) (by kernel_rfl) (fun _ _ _ h => h) (Or.inl ⟨by kernel_rfl, ?_⟩) ?_
        rotate_left
        focus (intro w; go_simp; (try (with_reducible rfl)); done)
        go_simp
        refine wpAny_ready (rs := [7]) (by kernel_rfl) (by simp) ?_
        refine AllReady.cons rfl (fun K hK => ?_) ?_
        · (go_simp; go_at_call 11; refine (HGa.out _ HD15.out).mono ?_; rintro e w16 ⟨rfl, hb⟩; have H16 : Hid (Below w15.heap.size w15 w16) := HD15.out.trans hb; have e1 := HC1.out _ H16.out; have e2 := HC2.out _ H16.out; clear hb)
          try go_simp
          first
            | (refine hK _ _ ?_; clear hK K)
            | skip
          refine wpAny_take (i := 8) (v := ?_) rfl (by kernel_rfl) (by kernel_rfl) (by kernel_rfl) (fun _ _ _ h => h) (Or.inl ⟨by kernel_rfl, ?_⟩) ?_
          rotate_left
          focus (intro w; go_simp; (try (with_reducible rfl)); done)
          go_simp
          refine wpAny_take (i := 9) (v := ?_) rfl (by kernel_rfl) (by kernel_rfl) (by kernel_rfl) (fun _ _ _ h => h) (Or.inl ⟨by kernel_rfl, ?_⟩) ?_
          rotate_left
          focus (intro w; go_simp; (try (with_reducible rfl)); done)
          go_simp
          refine wpAny_take (i := 10) (v := ?_) rfl (by kernel_rfl) (by kernel_rfl) (by kernel_rfl) (fun _ _ _ h => h) (Or.inl ⟨by kernel_rfl, ?_⟩) ?_
          rotate_left
          focus (intro w; go_simp; (try (with_reducible rfl)); done)
          go_simp
          refine wpAny_take (i := 11) (v := ?_) rfl (by kernel_rfl) (by kernel_rfl) (by kernel_rfl) (fun _ _ _ h => h) (Or.inl ⟨by kernel_rfl, ?_⟩) ?_
          rotate_left
          focus (intro w; go_simp; (try (with_reducible rfl)); done)
          go_simp
          refine wpAny_take (i := 12) (v := ?_) rfl (by kernel_rfl) (by kernel_rfl) (by kernel_rfl) (fun _ _ _ h => h) (Or.inl ⟨by kernel_rfl, ?_⟩) ?_
          rotate_left
          focus (intro w; go_simp; (try (with_reducible rfl)); done)
          go_simp
          refine wpAny_take (i := 14) (v := ?_) rfl (by kernel_rfl) (by kernel_rfl) (by kernel_rfl) (fun _ _ _ h => h) (Or.inl ⟨by kernel_rfl, ?_⟩) ?_
          rotate_left
          focus (intro w; go_simp; (try (with_reducible rfl)); done)
          go_simp
          refine wpAny_take (i := 16) (v := ?_) rfl (by kernel_rfl) (by kernel_rfl) (by kernel_rfl) (fun _ _ _ h => h) (Or.inl ⟨by kernel_rfl, ?_⟩) ?_
          rotate_left
          focus (intro w; go_simp; (try (with_reducible rfl)); done)
          go_simp
          refine wpAny_ready (rs := [13, 15, 17]) (by kernel_rfl) (by simp) ?_
          refine AllReady.cons rfl (fun K hK => ?_) ?_
          · (go_simp; go_at_call 11; refine (HGb.out _ H16.out).mono ?_; rintro e w17 ⟨rfl, hb⟩; have H17 : Hid (Below w15.heap.size w15 w17) := H16.out.trans (hb.mono H16.out.size); have e3 := HC1.out _ H17.out; have e4 := HC2.out _ H17.out; clear hb)
            try go_simp
            first
              | (refine hK _ _ ?_; clear hK K)
              | skip
            refine wpAny_ready (rs := [15, 17]) (by kernel_rfl) (by simp) ?_
            refine AllReady.cons rfl (fun K hK => ?_) ?_
            · go_simp
              try go_simp
              first
                | (refine hK _ _ ?_; clear hK K)
                | skip
              refine wpAny_ready (rs := [17]) (by kernel_rfl) (by simp) ?_
              refine AllReady.cons rfl (fun K hK => ?_) ?_
              · go_simp
                try go_simp
                first
                  | (refine hK _ _ ?_; clear hK K)
                  | skip
                refine wpAny_take (i := 18) (v := ?_) rfl (by kernel_rfl) (by kernel_rfl) (by kernel_rfl) (fun _ _ _ h => h) (Or.inl ⟨by kernel_rfl, ?_⟩) ?_
                rotate_left
                focus (intro w; go_simp; (try (with_reducible rfl)); done)
                go_simp
                refine wpAny_take (i := 19) (v := ?_) rfl (by kernel_rfl) (by kernel_rfl) (by kernel_rfl) (fun _ _ _ h => h) (Or.inl ⟨by kernel_rfl, ?_⟩) ?_
                rotate_left
                focus (intro w; go_simp; (try (with_reducible rfl)); done)
                go_simp
                refine wpAny_take (i := 20) (v := ?_) rfl (by kernel_rfl) (by kernel_rfl) (by kernel_rfl) (fun _ _ _ h => h) (Or.inl ⟨by kernel_rfl, ?_⟩) ?_
                rotate_left
                focus (intro w; go_simp; (try (with_reducible rfl)); done)
                go_simp
                refine wpAny_take (i := 21) (v := ?_) rfl (by kernel_rfl) (by kernel_rfl) (by kernel_rfl) (fun _ _ _ h => h) (Or.inl ⟨by kernel_rfl, ?_⟩) ?_
                rotate_left
                focus (intro w; go_simp; (try (with_reducible rfl)); done)
                go_simp
                refine wpAny_done (by kernel_rfl) ?_ _
                go_wp2
                go_meet
                case rel => exact ⟨by simp, HBf.out _ H17.out⟩
              exact AllReady.nil
            refine AllReady.cons rfl (fun K hK => ?_) ?_
            · go_simp
              try go_simp
              first
                | (refine hK _ _ ?_; clear hK K)
                | skip
              refine wpAny_ready (rs := [15]) (by kernel_rfl) (by simp) ?_
              refine AllReady.cons rfl (fun K hK => ?_) ?_
              · go_simp
                try go_simp
                first
                  | (refine hK _ _ ?_; clear hK K)
                  | skip
                refine wpAny_take (i := 18) (v := ?_) rfl (by kernel_rfl) (by kernel_rfl) (by kernel_rfl) (fun _ _ _ h => h) (Or.inl ⟨by kernel_rfl, ?_⟩) ?_
                rotate_left
                focus (intro w; go_simp; (try (with_reducible rfl)); done)
                go_simp
                refine wpAny_take (i := 19) (v := ?_) rfl (by kernel_rfl) (by kernel_rfl) (by kernel_rfl) (fun _ _ _ h => h) (Or.inl ⟨by kernel_rfl, ?_⟩) ?_
                rotate_left
                focus (intro w; go_simp; (try (with_reducible rfl)); done)
                go_simp
                refine wpAny_take (i := 20) (v := ?_) rfl (by kernel_rfl) (by kernel_rfl) (by kernel_rfl) (fun _ _ _ h => h) (Or.inl ⟨by kernel_rfl, ?_⟩) ?_
                rotate_left
                focus (intro w; go_simp; (try (with_reducible rfl)); done)
                go_simp
                refine wpAny_take (i := 21) (v := ?_) rfl (by kernel_rfl) (by kernel_rfl) (by kernel_rfl) (fun _ _ _ h => h) (Or.inl ⟨by kernel_rfl, ?_⟩) ?_
                rotate_left
                focus (intro w; go_simp; (try (with_reducible rfl)); done)
                go_simp
                refine wpAny_done (by kernel_rfl) ?_ _
                go_wp2
                go_meet
                case rel => exact ⟨by simp, HBf.out _ H17.out⟩
              exact AllReady.nil
            exact AllReady.nil
          refine AllReady.cons rfl (fun K hK => ?_) ?_
          · go_simp
            try go_simp
            first
              | (refine hK _ _ ?_; clear hK K)
              | skip
            refine wpAny_ready (rs := [13, 17]) (by kernel_rfl) (by simp) ?_
            refine AllReady.cons rfl (fun K hK => ?_) ?_
            · (go_simp; go_at_call 11; refine (HGb.out _ H16.out).mono ?_; rintro e w17 ⟨rfl, hb⟩; have H17 : Hid (Below w15.heap.size w15 w17) := H16.out.trans (hb.mono H16.out.size); have e3 := HC1.out _ H17.out; have e4 := HC2.out _ H17.out; clear hb)
              try go_simp
              first
                | (refine hK _ _ ?_; clear hK K)
                | skip
              refine wpAny_ready (rs := [17]) (by kernel_rfl) (by simp) ?_
              refine AllReady.cons rfl (fun K hK => ?_) ?_
              · go_simp
                try go_simp
                first
                  | (refine hK _ _ ?_; clear hK K)
                  | skip
                refine wpAny_take (i := 18) (v := ?_) rfl (by kernel_rfl) (by kernel_rfl) (by kernel_rfl) (fun _ _ _ h => h) (Or.inl ⟨by kernel_rfl, ?_⟩) ?_
                rotate_left
                focus (intro w; go_simp; (try (with_reducible rfl)); done)
                go_simp
                refine wpAny_take (i := 19) (v := ?_) rfl (by kernel_rfl) (by kernel_rfl) (by kernel_rfl) (fun _ _ _ h => h) (Or.inl ⟨by kernel_rfl, ?_⟩) ?_
                rotate_left
                focus (intro w; go_simp; (try (with_reducible rfl)); done)
                go_simp
                refine wpAny_take (i := 20) (v := ?_) rfl (by kernel_rfl) (by kernel_rfl) (by kernel_rfl) (fun _ _ _ h => h) (Or.inl ⟨by kernel_rfl, ?_⟩) ?_
                rotate_left
                focus (intro w; go_simp; (try (with_reducible rfl)); done)
                go_simp
                refine wpAny_take (i := 21) (v := ?_) rfl (by kernel_rfl) (by kernel_rfl) (by kernel_rfl) (fun _ _ _ h => h) (Or.inl ⟨by kernel_rfl, ?_⟩) ?_
                rotate_left
                focus (intro w; go_simp; (try (with_reducible rfl)); done)
                go_simp
                refine wpAny_done (by kernel_rfl) ?_ _
                go_wp2
                go_meet
                case rel => exact ⟨by simp, HBf.out _ H17.out⟩
              exact AllReady.nil
            refine AllReady.cons rfl (fun K hK => ?_) ?_
            · go_simp
              try go_simp
              first
                | (refine hK _ _ ?_; clear hK K)
                | skip
              refine wpAny_take (i := 18) (v := ?_) rfl (by kernel_rfl) (by kernel_rfl) (by kernel_rfl) (fun _ _ _ h => h) (Or.inl ⟨by kernel_rfl, ?_⟩) ?_
              rotate_left
              focus (intro w; go_simp; (try (with_reducible rfl)); done)
              go_simp
              refine wpAny_ready (rs := [13]) (by kernel_rfl) (by simp) ?_
              refine AllReady.cons rfl (fun K hK => ?_) ?_
              · (go_simp; go_at_call 11; refine (HGb.out _ H16.out).mono ?_; rintro e w17 ⟨rfl, hb⟩; have H17 : Hid (Below w15.heap.size w15 w17) := H16.out.trans (hb.mono H16.out.size); have e3 := HC1.out _ H17.out; have e4 := HC2.out _ H17.out; clear hb)
                try go_simp
                first
                  | (refine hK _ _ ?_; clear hK K)
                  | skip
                refine wpAny_take (i := 19) (v := ?_) rfl (by kernel_rfl) (by kernel_rfl) (by kernel_rfl) (fun _ _ _ h => h) (Or.inl ⟨by kernel_rfl, ?_⟩) ?_
                rotate_left
                focus (intro w; go_simp; (try (with_reducible rfl)); done)
                go_simp
                refine wpAny_take (i := 20) (v := ?_) rfl (by kernel_rfl) (by kernel_rfl) (by kernel_rfl) (fun _ _ _ h => h) (Or.inl ⟨by kernel_rfl, ?_⟩) ?_
                rotate_left
                focus (intro w; go_simp; (try (with_reducible rfl)); done)
                go_simp
                refine wpAny_take (i := 21) (v := ?_) rfl (by kernel_rfl) (by kernel_rfl) (by kernel_rfl) (fun _ _ _ h => h) (Or.inl ⟨by kernel_rfl, ?_⟩) ?_
                rotate_left
                focus (intro w; go_simp; (try (with_reducible rfl)); done)
                go_simp
                refine wpAny_done (by kernel_rfl) ?_ _
                go_wp2
                go_meet
                case rel => exact ⟨by simp, HBf.out _ H17.out⟩
              exact AllReady.nil
            exact AllReady.nil
          refine AllReady.cons rfl (fun K hK => ?_) ?_
          · go_simp
            try go_simp
            first
              | (refine hK _ _ ?_; clear hK K)
              | skip
            refine wpAny_ready (rs := [13, 15]) (by kernel_rfl) (by simp) ?_
            refine AllReady.cons rfl (fun K hK => ?_) ?_
            · (go_simp; go_at_call 11; refine (HGb.out _ H16.out).mono ?_; rintro e w17 ⟨rfl, hb⟩; have H17 : Hid (Below w15.heap.size w15 w17) := H16.out.trans (hb.mono H16.out.size); have e3 := HC1.out _ H17.out; have e4 := HC2.out _ H17.out; clear hb)
              try go_simp
              first
                | (refine hK _ _ ?_; clear hK K)
                | skip
              refine wpAny_ready (rs := [15]) (by kernel_rfl) (by simp) ?_
              refine AllReady.cons rfl (fun K hK => ?_) ?_
              · go_simp
                try go_simp
                first
                  | (refine hK _ _ ?_; clear hK K)
                  | skip
                refine wpAny_take (i := 18) (v := ?_) rfl (by kernel_rfl) (by kernel_rfl) (by kernel_rfl) (fun _ _ _ h => h) (Or.inl ⟨by kernel_rfl, ?_⟩) ?_
                rotate_left
                focus (intro w; go_simp; (try (with_reducible rfl)); done)
                go_simp
                refine wpAny_take (i := 19) (v := ?_) rfl (by kernel_rfl) (by kernel_rfl) (by kernel_rfl) (fun _ _ _ h => h) (Or.inl ⟨by kernel_rfl, ?_⟩) ?_
                rotate_left
                focus (intro w; go_simp; (try (with_reducible rfl)); done)
                go_simp
                refine wpAny_take (i := 20) (v := ?_) rfl (by kernel_rfl) (by kernel_rfl) (by kernel_rfl) (fun _ _ _ h => h) (Or.inl ⟨by kernel_rfl, ?_⟩) ?_
                rotate_left
                focus (intro w; go_simp; (try (with_reducible rfl)); done)
                go_simp
                refine wpAny_take (i := 21) (v := ?_) rfl (by kernel_rfl) (by kernel_rfl) (by kernel_rfl) (fun _ _ _ h => h) (Or.inl ⟨by kernel_rfl, ?_⟩) ?_
                rotate_left
                focus (intro w; go_simp; (try (with_reducible rfl)); done)
                go_simp
                refine wpAny_done (by kernel_rfl) ?_ _
                go_wp2
                go_meet
                case rel => exact ⟨by simp, HBf.out _ H17.out⟩
              exact AllReady.nil
            refine AllReady.cons rfl (fun K hK => ?_) ?_
            · go_simp
              try go_simp
              first
                | (refine hK _ _ ?_; clear hK K)
                | skip
              refine wpAny_take (i := 18) (v := ?_) rfl (by kernel_rfl) (by kernel_rfl) (by kernel_rfl) (fun _ _ _ h => h) (Or.inl ⟨by kernel_rfl, ?_⟩) ?_
              rotate_left
              focus (intro w; go_simp; (try (with_reducible rfl)); done)
              go_simp
              refine wpAny_ready (rs := [13]) (by kernel_rfl) (by simp) ?_
              refine AllReady.cons rfl (fun K hK => ?_) ?_
              · (go_simp; go_at_call 11; refine (HGb.out _ H16.out).mono ?_; rintro e w17 ⟨rfl, hb⟩; have H17 : Hid (Below w15.heap.size w15 w17) := H16.out.trans (hb.mono H16.out.size); have e3 := HC1.out _ H17.out; have e4 := HC2.out _ H17.out; clear hb)
                try go_simp
                first
                  | (refine hK _ _ ?_; clear hK K)
                  | skip
                refine wpAny_take (i := 19) (v := ?_) rfl (by kernel_rfl) (by kernel_rfl) (by kernel_rfl) (fun _ _ _ h => h) (Or.inl ⟨by kernel_rfl, ?_⟩) ?_
                rotate_left
                focus (intro w; go_simp; (try (with_reducible rfl)); done)
                go_simp
                refine wpAny_take (i := 20) (v := ?_) rfl (by kernel_rfl) (by kernel_rfl) (by kernel_rfl) (fun _ _ _ h => h) (Or.inl ⟨by kernel_rfl, ?_⟩) ?_
                rotate_left
                focus (intro w; go_simp; (try (with_reducible rfl)); done)
                go_simp
                refine wpAny_take (i := 21) (v := ?_) rfl (by kernel_rfl) (by kernel_rfl) (by kernel_rfl) (fun _ _ _ h => h) (Or.inl ⟨by kernel_rfl, ?_⟩) ?_
                rotate_left
                focus (intro w; go_simp; (try (with_reducible rfl)); done)
                go_simp
                refine wpAny_done (by kernel_rfl) ?_ _
                go_wp2
                go_meet
                case rel => exact ⟨by simp, HBf.out _ H17.out⟩
              exact AllReady.nil
            exact AllReady.nil
          exact AllReady.nil
        exact AllReady.nil
      exact AllReady.nil
    case rest =>
    obtain ⟨rfl, hbf⟩ := hcut
    go_wp2
    go_ret
    exact ⟨rfl, hbf⟩
/-- HeadBack -/
theorem back_any (w : World) (sa : Option Addr) (sn sc : Nat) (ba : Option Addr) (bn bc : Nat) (st sd : List Int) (n : Int) (hp : PlanAt w sa sn ba bn st sd) (hT : TabAt w) :
    Calls Tryd.prog 4 #[.agg #[.slice sa sn sc, .slice ba bn bc], .int .i64 n] w fun e w' => e = .returned (.bool true) ∧ Below w.heap.size w w' :=
  back_core w sa sn sc ba bn bc (planN st) (planD st sd) (planN st).length n (plan_fit st sd) hT (fun wx hx => made_fit wx sa sn sc ba bn bc st sd (hp.on hx))
end Go.Proofs.YtccocjipgbeaeaaDoor
