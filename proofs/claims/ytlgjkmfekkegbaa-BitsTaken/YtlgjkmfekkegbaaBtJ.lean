import Derived.Test.YtlgjkmfekkegbaaBtI
namespace Go.Proofs.Ytlgjkmfekkegbaa
open Go.RowKit Rec

set_option maxRecDepth 100000 in
set_option maxHeartbeats 8000000 in
theorem taken_any (w : World) (n c : Nat) (a : Option Addr) (l : List Int) (hb : Bytes w a l) (hn : l.length = n) (hz : a = none → c = 0) (h47 : n ≤ 140737488355000) (hnc : n ≤ c)
    (m1 c1 : Nat) (a1 : Option Addr) (G : List Int) (hG : Ints w a1 G) (hGl : G.length = m1) (hm1 : m1 ≤ 17592186043904) :
    Calls Try.prog 4 #[.slice a n c, .slice a1 m1 c1] w fun e w' => e = .returned (.bool true) ∧ Below w.heap.size w w' := by
  have HB : Hid (Bytes w a l ∧ l.length = n ∧ (a = none → c = 0)) := ⟨hb, hn, hz⟩
  have HG : Hid (Ints w a1 G ∧ G.length = m1) := ⟨hG, hGl⟩
  clear hb hn hz hG hGl
  go_enter Try.func4, Try.ntmps4
  go_upto_if 23 with (go_at_call 8; refine (fixed_any _).mono ?_; rintro e wb ⟨rfl, hbb⟩; have HBb : Hid (Below w.heap.size w wb) := hbb; clear hbb)
  go_cut [0] (fun s wx => ∃ k : Nat, k ≤ 200 ∧ s = .slice a k c ∧ (l.take k).length = k ∧ Below w.heap.size w wx)
  case first =>
    by_cases h2 : 200 < n
    · obtain ⟨p, rfl⟩ : ∃ p, a = some p := by
        cases a with
        | some p => exact ⟨p, rfl⟩
        | none => have h1 := HB.out.1.nil; have h2 := HB.out.2.1; rw [h1] at h2; simp at h2; omega
      have hc2 : 200 ≤ c := by omega
      go_wp2
      go_meet
      case rel => exact ⟨200, Nat.le_refl _, rfl, by rw [List.length_take, HB.out.2.1]; omega, HBb.out⟩
    · go_wp2
      go_meet
      case rel => exact ⟨n, by omega, rfl, by rw [List.length_take, HB.out.2.1]; omega, HBb.out⟩
  case rest =>
  obtain ⟨k, hk, rfl, hlk, hbx⟩ := hcut
  have HX : Hid (Bytes w a (l.take k) ∧ (l.take k).length = k ∧ Below w.heap.size w wc) := ⟨HB.out.1.take k, hlk, hbx⟩
  clear hlk hbx HBb h47 hnc
  have HA : Hid (Below w.heap.size w (wc.alloc (.cells #[] 5)) ∧ OwnB (wc.alloc (.cells #[] 5)) wc.heap.size 0 []) := ⟨HX.out.2.2.alloc HX.out.2.2.size _, own_empty (heap_alloc_new _ _)⟩
  go_upto_region 6 with (at_builtin; refine wp_app rfl (.tmp 26) (.tmp 27) rfl w.heap.size wc.heap.size 0 0 [] (l.take k) rfl rfl HA.out.2 HX.out.2.2.size HA.out.1.size a k c rfl HX.out.2.1 (HX.out.1.on HA.out.1) HB.out.2.2 (by omega) ?_; intro g cap w1 hg ho hgr; have H1 : Hid (w.heap.size ≤ g ∧ OwnB w1 g cap (l.take k) ∧ Below w.heap.size w w1) := ⟨hg, ho, HA.out.1.trans (below_of hgr HX.out.2.2.size HA.out.1.size)⟩; clear hg ho hgr)
  clear HA
  go_wp2
  go_loopw [6, 7] (fun s6 s7 wr => ∃ (i : Nat) (z : Int) (x : List Int), s7 = .int .i64 (i : Int) ∧ s6 = .int .i64 z ∧ -1 ≤ z ∧ z < 8 * (k : Int) ∧ (i : Int) ≤ z + 1 ∧ x.length = k ∧ OwnB wr g cap x ∧ (∀ j : Nat, (j : Int) ≤ z → bn x j = 1) ∧ Below w.heap.size w wr) (fun _ s _ => 8 * k + 1 - (intOf s).toNat)
  case atStart => exact ⟨0, -1, l.take k, rfl, rfl, by omega, by omega, by omega, HX.out.2.1, H1.out.2.1, fun j hj => by omega, H1.out.2.2⟩
  case round =>
    obtain ⟨i, z, x, rfl, rfl, hz1, hz2, hiz, hxl, hown, hon, hbw⟩ := hrel
    have HR : Hid (x.length = k ∧ OwnB wr g cap x ∧ (∀ j : Nat, (j : Int) ≤ z → bn x j = 1) ∧ Below w.heap.size w wr) := ⟨hxl, hown, hon, hbw⟩
    clear hxl hown hon hbw
    have hik : (i : Int) ≤ 8 * (k : Int) := by omega
    have cL := low_any wr (some ⟨g, 0, none⟩) k cap 0 x HR.out.2.1.bytes HR.out.1 (by decide)
    simp only [Int.toNat_zero] at cL
    rcases low_is x 0 with ⟨hlo, hall⟩ | ⟨j, hlo, _, hj, hjo, hbel⟩
    · have HAll : Hid (∀ i, 0 ≤ i → i < 8 * x.length → bn x i = 1) := hall
      rw [hlo] at cL
      have HC : Hid (∀ m, Calls Try.prog 10 #[.slice (some ⟨g, 0, none⟩) k cap, .int .i64 0, .int .i64 (8 * (k : Int))] (wr.drewN m) fun e w' => e = .returned (.tuple #[.int .i64 (8 * (k : Int)), .int .i64 0]) ∧ ∃ q, w' = (wr.drewN m).drewN q) := fun m => by
        have h1 := count_yes (wr.drewN m) (some ⟨g, 0, none⟩) k cap 0 (8 * k) x (HR.out.2.1.drewN m).bytes HR.out.1 (by omega)
        rw [cn_ones (fun j hj => HAll.out _ (Nat.zero_le _) (by rw [HR.out.1]; omega)), Nat.zero_add, Int.natCast_mul] at h1
        exact h1
      have cL2 := fun m => low_any (wr.drewN m) (some ⟨g, 0, none⟩) k cap 0 x (HR.out.2.1.drewN m).bytes HR.out.1 (by decide)
      simp only [Int.toNat_zero, hlo] at cL2
      by_cases hk0 : k = 0
      · subst hk0
        go_wp2_with (first
          | (go_at_call 12; have hh := cL; clear hh; refine cL.mono ?_; rintro e w' ⟨rfl, m, rfl⟩; clear cL)
          | (go_at_call 12; refine (cL2 _).mono ?_; rintro e w' ⟨rfl, m2, rfl⟩)
          | (go_at_call 10; refine (HC.out _).mono ?_; rintro e w' ⟨rfl, mq, rfl⟩))
        go_ret
        exact ⟨rfl, HR.out.2.2.2.trans (belowN_drewN _ _ _)⟩
      · have hkne : ((k : Int) == 0) = false := beq_eq_false_iff_ne.2 (by omega)
        have hk0' : 0 < k := by omega
        go_upto_region 18 with (first
          | (go_at_call 12; have hh := cL; clear hh; refine cL.mono ?_; rintro e w' ⟨rfl, m, rfl⟩; clear cL)
          | (go_at_call 12; refine (cL2 _).mono ?_; rintro e w' ⟨rfl, m2, rfl⟩)
          | (go_at_call 10; refine (HC.out _).mono ?_; rintro e w' ⟨rfl, mq, rfl⟩))
        go_wp2
        have HG0 : Hid (Gone x G (8 * k) 0) := fun j hj => by
          rw [HAll.out j (Nat.zero_le _) (by rw [HR.out.1]; exact hj)]; rfl
        clear HC cL2 HAll
        go_loopw [11, 12] (fun s11 s12 w2 => ∃ (t : Nat) (y : List Int) (u : Nat), u = lstG G (8 * k) t ∧ s12 = .int .i64 (t : Int) ∧ s11 = .int .i64 (u : Int) ∧ t ≤ m1 ∧ t ≤ 300 ∧ y.length = k ∧ OwnB w2 g cap y ∧ Gone y G (8 * k) t ∧ Below w.heap.size w w2) (fun _ s _ => 300 - (intOf s).toNat)
        case atStart => exact ⟨0, x, 8 * k, rfl, rfl, by go_num, by omega, by omega, HR.out.1, HR.out.2.1.drewN _, HG0.out, HR.out.2.2.2.trans (belowN_drewN _ _ _)⟩
        case round =>
          obtain ⟨t, y, u0, hu0, rfl, rfl, ht1, ht2, hyl, hown, hgon, hbw⟩ := hrel
          have HY : Hid (y.length = k ∧ OwnB wr g cap y ∧ Gone y G (8 * k) t ∧ Below w.heap.size w wr) := ⟨hyl, hown, hgon, hbw⟩
          have hu0l : u0 ≤ 8 * k := by rw [hu0]; exact (lst_gn G (8 * k) (by omega) t).1
          have HU0 : Hid (u0 = lstG G (8 * k) t) := hu0
          clear hyl hown hgon hbw hu0
          by_cases hgo : t < m1 ∧ t < 300
          · obtain ⟨hg1, hg2⟩ := hgo
            obtain ⟨b1, o1, rfl, hc⟩ : ∃ b1 o1, a1 = some ⟨b1, o1, none⟩ ∧ wr.cell? ⟨b1, o1 + t, none⟩ = some (.int .i64 (nth G t)) := by
              rcases (HG.out.1.on HY.out.2.2.2).at_ with e | ⟨b1, o1, e, hc⟩
              · have h2 := HG.out.2; rw [e] at h2; simp at h2; omega
              · exact ⟨b1, o1, e, hc t (by rw [HG.out.2]; exact hg1)⟩
            obtain ⟨v, hv⟩ : ∃ v, nth G t = v := ⟨_, rfl⟩
            have h0 := Int.emod_nonneg v (b := ((8 * k : Nat) : Int)) (by omega)
            have h1 := Int.emod_lt_of_pos v (b := ((8 * k : Nat) : Int)) (by omega)
            obtain ⟨q, hq⟩ : ∃ q : Nat, v % ((8 * k : Nat) : Int) = (q : Int) := ⟨(v % ((8 * k : Nat) : Int)).toNat, by omega⟩
            rw [hq] at h0 h1
            have hqk : q < 8 * k := by omega
            rw [hv] at hc
            have cM : ∀ W, Calls Try.prog 14 #[.int .i64 v, .int .i64 (8 * (k : Int))] W fun e w' => e = .returned (.int .i64 (q : Int)) ∧ W = w' := fun W => by
              have h1 := mod8_any W v (8 * k) (by omega) (by omega)
              rw [hq, Int.natCast_mul] at h1
              exact h1
            have cP := put_own wr g k cap cap q y false HY.out.2.1 HY.out.1 hqk
            obtain ⟨u, hu⟩ : ∃ u, lstG G (8 * k) (t + 1) = u := ⟨_, rfl⟩
            have HU : Hid (lstG G (8 * k) (t + 1) = u) := hu
            have huq : u = min u0 q := by rw [← hu, lstG, ← HU0.out, hv, hq]; rfl
            have HY' : Hid ((bput y q false).length = k ∧ Gone (bput y q false) G (8 * k) (t + 1) ∧ low (bput y q false) 0 = (u : Int) ∧ low (bput y q false) u = (u : Int)) := by
              have h1 : Gone (bput y q false) G (8 * k) (t + 1) := HY.out.2.2.1.put HY.out.2.1.wf (by rw [HY.out.1]) q (by rw [hv]; exact hq) hqk
              have h2 : 8 * (bput y q false).length = 8 * k := by rw [bput_length, HY.out.1]
              have h3 := h1.low (by omega) h2
              rw [hu] at h3
              exact ⟨by rw [bput_length, HY.out.1], h1, h3.1, h3.2⟩
            clear hu hv hq h0 h1
            have hg1' : (t : Int) < (m1 : Int) := by omega
            have hg2' : (t : Int) < 300 := by omega
            by_cases hmin : u0 ≤ q
            · obtain rfl : u = u0 := by omega
              have hmin' : (u : Int) ≤ (q : Int) := by omega
              clear huq
              go_wp2_with (first
                | (go_at_call 14; refine (cM _).mono ?_; rintro e w' ⟨rfl, rfl⟩)
                | (go_at_call 13; refine cP.mono ?_; rintro e w3 ⟨rfl, hown, hfr⟩; have HP : Hid (OwnB w3 g cap (bput y q false) ∧ Fr (fun k => k = g) wr w3) := ⟨hown, hfr⟩; clear hown hfr; have cL1 := (low_any w3 (some ⟨g, 0, none⟩) k cap 0 _ HP.out.1.bytes HY'.out.1 (by decide)); have cL2 := (fun m => low_any (w3.drewN m) (some ⟨g, 0, none⟩) k cap (u : Int) _ (HP.out.1.drewN m).bytes HY'.out.1 (by omega)); simp only [Int.toNat_zero, Int.toNat_natCast, HY'.out.2.2.1, HY'.out.2.2.2] at cL1 cL2)
                | (go_at_call 12; have hh := cL1; clear hh; refine cL1.mono ?_; rintro e w' ⟨rfl, m4, rfl⟩; clear cL1)
                | (go_at_call 12; refine (cL2 _).mono ?_; rintro e w' ⟨rfl, m5, rfl⟩))
              go_round
              case rel => exact ⟨t + 1, bput y q false, u, HU.out.symm, by go_num, rfl, by omega, by omega, HY'.out.1, HP.out.1.drewN _, HY'.out.2.1, (HY.out.2.2.2.trans (HP.out.2.below _ (fun k e => by have e : k = g := e; have := H1.out.1; omega) HY.out.2.2.2.size)).trans (belowN_drewN _ _ _)⟩
              case measure => simp [intOf]; omega
            · obtain rfl : u = q := by omega
              have hmin' : (u : Int) < (u0 : Int) := by omega
              clear huq
              go_wp2_with (first
                | (go_at_call 14; refine (cM _).mono ?_; rintro e w' ⟨rfl, rfl⟩)
                | (go_at_call 13; refine cP.mono ?_; rintro e w3 ⟨rfl, hown, hfr⟩; have HP : Hid (OwnB w3 g cap (bput y u false) ∧ Fr (fun k => k = g) wr w3) := ⟨hown, hfr⟩; clear hown hfr; have cL1 := (low_any w3 (some ⟨g, 0, none⟩) k cap 0 _ HP.out.1.bytes HY'.out.1 (by decide)); have cL2 := (fun m => low_any (w3.drewN m) (some ⟨g, 0, none⟩) k cap (u : Int) _ (HP.out.1.drewN m).bytes HY'.out.1 (by omega)); simp only [Int.toNat_zero, Int.toNat_natCast, HY'.out.2.2.1, HY'.out.2.2.2] at cL1 cL2)
                | (go_at_call 12; have hh := cL1; clear hh; refine cL1.mono ?_; rintro e w' ⟨rfl, m4, rfl⟩; clear cL1)
                | (go_at_call 12; refine (cL2 _).mono ?_; rintro e w' ⟨rfl, m5, rfl⟩))
              go_round
              case rel => exact ⟨t + 1, bput y u false, u, HU.out.symm, by go_num, rfl, by omega, by omega, HY'.out.1, HP.out.1.drewN _, HY'.out.2.1, (HY.out.2.2.2.trans (HP.out.2.below _ (fun k e => by have e : k = g := e; have := H1.out.1; omega) HY.out.2.2.2.size)).trans (belowN_drewN _ _ _)⟩
              case measure => simp [intOf]; omega
          · have hstop : t = m1 ∨ t = 300 := by omega
            by_cases hg1 : t < m1
            · have hg1' : (t : Int) < (m1 : Int) := by omega
              have hg2' : ¬ ((t : Int) < 300) := by omega
              go_wp2
              obtain ⟨WR, hWR⟩ : ∃ WR, wr = WR := ⟨_, rfl⟩
              have HY' : Hid (OwnB WR g cap y ∧ Below w.heap.size w WR) := by rw [← hWR]; exact ⟨HY.out.2.1, HY.out.2.2.2⟩
              rw [hWR]
              clear hWR
              go_loopw [14] (fun s14 w4 => ∃ (v : Nat), s14 = .int .i64 (v : Int) ∧ v ≤ 8 * k ∧ ∃ m, w4 = WR.drewN m) (fun s _ => 8 * k - (intOf s).toNat)
              case atStart => exact ⟨0, rfl, by omega, 0, rfl⟩
              case round =>
                obtain ⟨v, rfl, hv, m6, hw4⟩ := hrel
                by_cases hvk : v < 8 * k
                · have hvk' : (v : Int) < 8 * (k : Int) := by omega
                  have cG := fun m => get_yes (WR.drewN m) ⟨g, 0, none⟩ k cap v y (HY'.out.1.drewN m).bytes HY.out.1 hvk
                  subst hw4
                  go_wp2_with (go_at_call 11; refine (cG _).mono ?_; rintro e w' ⟨rfl, m7, rfl⟩)
                  go_loopw [17, 18] (fun s17 s18 w5 => ∃ (r : Nat) (bb : Bool), s18 = .int .i64 (r : Int) ∧ s17 = .bool bb ∧ bb = gn G (8 * k) r v ∧ r ≤ t ∧ ∃ m, w5 = WR.drewN m) (fun _ s _ => t - (intOf s).toNat)
                  case atStart => exact ⟨0, false, rfl, rfl, rfl, Nat.zero_le _, _, rfl⟩
                  case round =>
                    obtain ⟨r, bb, rfl, rfl, hbb, hr, m8, rfl⟩ := hrel
                    have HBB : Hid (bb = gn G (8 * k) r v) := hbb
                    clear hbb
                    by_cases hrt : r < t
                    · have hr1 : (r : Int) < (m1 : Int) := by omega
                      have hr2 : (r : Int) < 300 := by omega
                      cases bb with
                      | true =>
                        go_wp2
                        go_round
                        case rel => exact ⟨r + 1, true, by go_num, rfl, by rw [gn, ← HBB.out]; rfl, by omega, _, rfl⟩
                        case measure => simp [intOf]; omega
                      | false =>
                        obtain ⟨b1, o1, rfl, hc⟩ : ∃ b1 o1, a1 = some ⟨b1, o1, none⟩ ∧ WR.cell? ⟨b1, o1 + r, none⟩ = some (.int .i64 (nth G r)) := by
                          rcases (HG.out.1.on HY'.out.2).at_ with e | ⟨b1, o1, e, hc⟩
                          · have h2 := HG.out.2; rw [e] at h2; simp at h2; omega
                          · exact ⟨b1, o1, e, hc r (by rw [HG.out.2]; omega)⟩
                        obtain ⟨vv, hvv⟩ : ∃ vv, nth G r = vv := ⟨_, rfl⟩
                        have h0 := Int.emod_nonneg vv (b := ((8 * k : Nat) : Int)) (by omega)
                        have h1 := Int.emod_lt_of_pos vv (b := ((8 * k : Nat) : Int)) (by omega)
                        obtain ⟨q, hq⟩ : ∃ q : Nat, vv % ((8 * k : Nat) : Int) = (q : Int) := ⟨(vv % ((8 * k : Nat) : Int)).toNat, by omega⟩
                        rw [hvv] at hc
                        have cM : ∀ W, Calls Try.prog 14 #[.int .i64 vv, .int .i64 (8 * (k : Int))] W fun e w' => e = .returned (.int .i64 (q : Int)) ∧ W = w' := fun W => by
                          have h1 := mod8_any W vv (8 * k) (by omega) (by omega)
                          rw [hq, Int.natCast_mul] at h1
                          exact h1
                        have HGN : Hid (gn G (8 * k) (r + 1) v = decide ((q : Int) = (v : Int))) := by
                          show _ = _
                          rw [gn, ← HBB.out, hvv, hq, Bool.false_or]
                        clear h0 h1 hq hvv
                        go_wp2_with (go_at_call 14; refine (cM _).mono ?_; rintro e w' ⟨rfl, rfl⟩)
                        go_round
                        case rel => exact ⟨r + 1, _, by go_num, rfl, by rw [HGN.out]; first | rfl | (by_cases h : q = v <;> simp [h]) , by omega, _, rfl⟩
                        case measure => simp [intOf]; omega
                    · obtain rfl : r = t := by omega
                      have hs1 : (r : Int) < (m1 : Int) := by omega
                      have hs2 : ¬ ((r : Int) < 300) := by omega
                      have hgo := HY.out.2.2.1 v hvk
                      rw [← HBB.out] at hgo
                      cases bb with
                      | true =>
                        have hbit : bt y v = false := (bt_not y v).2 (by rw [hgo]; rfl)
                        rw [hbit]
                        go_wp2
                        go_round
                        case rel => exact ⟨v + 1, by go_num, by omega, _, rfl⟩
                        case measure => simp [intOf]; omega
                      | false =>
                        have hbit : bt y v = true := (bt_iff y v).2 (by rw [hgo]; rfl)
                        rw [hbit]
                        go_wp2
                        go_round
                        case rel => exact ⟨v + 1, by go_num, by omega, _, rfl⟩
                        case measure => simp [intOf]; omega
                · have hvk' : ¬ ((v : Int) < 8 * (k : Int)) := by omega
                  subst hw4
                  go_wp2
                  go_ret
                  exact ⟨rfl, HY'.out.2.trans (belowN_drewN _ _ _)⟩
            · have hg1' : ¬ ((t : Int) < (m1 : Int)) := by omega
              go_wp2
              obtain ⟨WR, hWR⟩ : ∃ WR, wr = WR := ⟨_, rfl⟩
              have HY' : Hid (OwnB WR g cap y ∧ Below w.heap.size w WR) := by rw [← hWR]; exact ⟨HY.out.2.1, HY.out.2.2.2⟩
              rw [hWR]
              clear hWR
              go_loopw [14] (fun s14 w4 => ∃ (v : Nat), s14 = .int .i64 (v : Int) ∧ v ≤ 8 * k ∧ ∃ m, w4 = WR.drewN m) (fun s _ => 8 * k - (intOf s).toNat)
              case atStart => exact ⟨0, rfl, by omega, 0, rfl⟩
              case round =>
                obtain ⟨v, rfl, hv, m6, hw4⟩ := hrel
                by_cases hvk : v < 8 * k
                · have hvk' : (v : Int) < 8 * (k : Int) := by omega
                  have cG := fun m => get_yes (WR.drewN m) ⟨g, 0, none⟩ k cap v y (HY'.out.1.drewN m).bytes HY.out.1 hvk
                  subst hw4
                  go_wp2_with (go_at_call 11; refine (cG _).mono ?_; rintro e w' ⟨rfl, m7, rfl⟩)
                  go_loopw [17, 18] (fun s17 s18 w5 => ∃ (r : Nat) (bb : Bool), s18 = .int .i64 (r : Int) ∧ s17 = .bool bb ∧ bb = gn G (8 * k) r v ∧ r ≤ t ∧ ∃ m, w5 = WR.drewN m) (fun _ s _ => t - (intOf s).toNat)
                  case atStart => exact ⟨0, false, rfl, rfl, rfl, Nat.zero_le _, _, rfl⟩
                  case round =>
                    obtain ⟨r, bb, rfl, rfl, hbb, hr, m8, rfl⟩ := hrel
                    have HBB : Hid (bb = gn G (8 * k) r v) := hbb
                    clear hbb
                    by_cases hrt : r < t
                    · have hr1 : (r : Int) < (m1 : Int) := by omega
                      have hr2 : (r : Int) < 300 := by omega
                      cases bb with
                      | true =>
                        go_wp2
                        go_round
                        case rel => exact ⟨r + 1, true, by go_num, rfl, by rw [gn, ← HBB.out]; rfl, by omega, _, rfl⟩
                        case measure => simp [intOf]; omega
                      | false =>
                        obtain ⟨b1, o1, rfl, hc⟩ : ∃ b1 o1, a1 = some ⟨b1, o1, none⟩ ∧ WR.cell? ⟨b1, o1 + r, none⟩ = some (.int .i64 (nth G r)) := by
                          rcases (HG.out.1.on HY'.out.2).at_ with e | ⟨b1, o1, e, hc⟩
                          · have h2 := HG.out.2; rw [e] at h2; simp at h2; omega
                          · exact ⟨b1, o1, e, hc r (by rw [HG.out.2]; omega)⟩
                        obtain ⟨vv, hvv⟩ : ∃ vv, nth G r = vv := ⟨_, rfl⟩
                        have h0 := Int.emod_nonneg vv (b := ((8 * k : Nat) : Int)) (by omega)
                        have h1 := Int.emod_lt_of_pos vv (b := ((8 * k : Nat) : Int)) (by omega)
                        obtain ⟨q, hq⟩ : ∃ q : Nat, vv % ((8 * k : Nat) : Int) = (q : Int) := ⟨(vv % ((8 * k : Nat) : Int)).toNat, by omega⟩
                        rw [hvv] at hc
                        have cM : ∀ W, Calls Try.prog 14 #[.int .i64 vv, .int .i64 (8 * (k : Int))] W fun e w' => e = .returned (.int .i64 (q : Int)) ∧ W = w' := fun W => by
                          have h1 := mod8_any W vv (8 * k) (by omega) (by omega)
                          rw [hq, Int.natCast_mul] at h1
                          exact h1
                        have HGN : Hid (gn G (8 * k) (r + 1) v = decide ((q : Int) = (v : Int))) := by
                          show _ = _
                          rw [gn, ← HBB.out, hvv, hq, Bool.false_or]
                        clear h0 h1 hq hvv
                        go_wp2_with (go_at_call 14; refine (cM _).mono ?_; rintro e w' ⟨rfl, rfl⟩)
                        go_round
                        case rel => exact ⟨r + 1, _, by go_num, rfl, by rw [HGN.out]; first | rfl | (by_cases h : q = v <;> simp [h]) , by omega, _, rfl⟩
                        case measure => simp [intOf]; omega
                    · obtain rfl : r = t := by omega
                      have hs1 : ¬ ((r : Int) < (m1 : Int)) := by omega
                      have hgo := HY.out.2.2.1 v hvk
                      rw [← HBB.out] at hgo
                      cases bb with
                      | true =>
                        have hbit : bt y v = false := (bt_not y v).2 (by rw [hgo]; rfl)
                        rw [hbit]
                        go_wp2
                        go_round
                        case rel => exact ⟨v + 1, by go_num, by omega, _, rfl⟩
                        case measure => simp [intOf]; omega
                      | false =>
                        have hbit : bt y v = true := (bt_iff y v).2 (by rw [hgo]; rfl)
                        rw [hbit]
                        go_wp2
                        go_round
                        case rel => exact ⟨v + 1, by go_num, by omega, _, rfl⟩
                        case measure => simp [intOf]; omega
                · have hvk' : ¬ ((v : Int) < 8 * (k : Int)) := by omega
                  subst hw4
                  go_wp2
                  go_ret
                  exact ⟨rfl, HY'.out.2.trans (belowN_drewN _ _ _)⟩
    · rw [hlo] at cL
      have hjk : j < 8 * k := by rw [← HR.out.1]; exact hj
      have hzj : z < (j : Int) := by
        by_cases h : (j : Int) ≤ z
        · have := HR.out.2.2.1 j h; omega
        · omega
      have hne : ¬ (j : Int) = -1 := by omega
      have hle : ¬ ((j : Int) ≤ z) := by omega
      have cP := fun m => put_own (wr.drewN m) g k cap cap j x true (HR.out.2.1.drewN m) HR.out.1 hjk
      go_wp2_with (first
        | (go_at_call 12; refine cL.mono ?_; rintro e w' ⟨rfl, m, rfl⟩)
        | (go_at_call 13; refine (cP _).mono ?_; rintro e w' ⟨rfl, hown, hfr⟩; have HP : Hid (OwnB w' g cap (bput x j true) ∧ Fr (fun k => k = g) wr w') := ⟨hown, (frN _ _ _).trans hfr (fun _ h => .inl h)⟩; clear hown hfr))
      go_round
      case rel =>
        refine ⟨i + 1, (j : Int), bput x j true, by go_num, rfl, by omega, by omega, by omega, by rw [bput_length]; exact HR.out.1, HP.out.1, fun q hq => ?_, HR.out.2.2.2.trans (HP.out.2.below _ (fun k e => by have e : k = g := e; have := H1.out.1; omega) HR.out.2.2.2.size)⟩
        rw [bn_bput x j q true HR.out.2.1.wf (by have := HR.out.1; omega)]
        by_cases e : q = j
        · rw [if_pos e]; rfl
        · rw [if_neg e]
          exact hbel q (Nat.zero_le _) (by omega)
      case measure => simp [intOf]; omega
end Go.Proofs.Ytlgjkmfekkegbaa
