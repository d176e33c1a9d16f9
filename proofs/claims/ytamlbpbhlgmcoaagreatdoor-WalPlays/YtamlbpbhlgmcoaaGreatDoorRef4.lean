import Derived.Test.YtamlbpbhlgmcoaaGreatDoorKRef2
namespace Go.Proofs.YtamlbpbhlgmcoaaGreatDoor
open Go.RowKit Rec
open Crc (W)

theorem zs_iff (h : List Int) (hn : h.length = 512) : h = zs ↔ zr h 0 512 = true := by
  constructor
  · intro e; rw [e]; exact zr_zs
  · intro e
    have e := of_decide_eq_true e
    exact ext_nth (by rw [hn, zs_length]) fun i hi => by
      rw [nth_zs]
      have := e i (by omega)
      rwa [Nat.zero_add] at this
/-- some of the numbers -/
def nsK (h : List Int) (j : Nat) : List Int := (List.range j).map fun i => num h (16 + 4 * i) 4
theorem nsK_length (h : List Int) (j : Nat) : (nsK h j).length = j := by simp [nsK]
theorem nsK_succ (h : List Int) (j : Nat) : nsK h (j + 1) = nsK h j ++ [num h (16 + 4 * j) 4] := by
  unfold nsK; rw [List.range_succ, List.map_append]; rfl
theorem nsK_bd (h : List Int) (hw : ∀ i, 0 ≤ nth h i ∧ nth h i < 256) (j i : Nat) (hi : i < j) : 0 ≤ nth (nsK h j) i ∧ nth (nsK h j) i < 4294967296 := by
  rw [nsK, nth_map _ _ _ hi]; exact num_bd h _ 4 hw
theorem isH_ref (h : List Int) (n : Int) (hn : h.length = 512) (hw : ∀ i, 0 ≤ nth h i ∧ nth h i < 256) : isH h n = true ↔ cnt h ≤ 96 ∧ rmay (nsK h (cnt h)) n = true ∧ hd (nsK h (cnt h)) (num h 12 4) = h := by
  constructor
  · intro e
    have hf := e
    simp only [isH, form, Bool.and_eq_true, decide_eq_true_eq] at hf
    refine ⟨hf.1.1.2.2, ?_, (one_form h n hn hw e).symm⟩
    rw [rmay_split, nsK_length]
    exact ⟨hf.1.1.2, hf.1.2⟩
  · rintro ⟨h1, h2, h3⟩
    have h2 := (rmay_split _ _).1 h2
    rw [nsK_length] at h2
    have := isH_hd (nsK h (cnt h)) (num h 12 4) n (by rw [nsK_length]; exact h2.1.1) (by rw [nsK_length]; exact h1) (fun i hi => by rw [nsK_length] at hi; exact nsK_bd h hw _ i hi)
    rw [h3] at this
    rw [this]; exact h2.2
set_option maxRecDepth 100000 in
set_option maxHeartbeats 1600000 in
theorem rnums_size (w : World) (a : Option Addr) (k c : Nat) (n : Int) (hk : k ≠ 512) :
    Calls Tryz.prog 94 #[.slice a k c, .int .i64 n] w fun e w' => e = .returned (.tuple #[.slice none 0 0, .int .i64 32]) ∧ w = w' := by
  have h' : ¬ (k : Int) = 512 := by omega
  go_enter Tryz.func94, Tryz.ntmps94
  go_wp2
  go_ret2
  exact ⟨rfl, rfl⟩
set_option maxRecDepth 100000 in
set_option maxHeartbeats 16000000 in
theorem rnums_in (w : World) (b off c : Nat) (h : List Int) (n : Int) (hn : h.length = 512) (hO : Bytes w (some ⟨b, off, none⟩) h) :
    Calls Tryz.prog 94 #[.slice (some ⟨b, off, none⟩) 512 c, .int .i64 n] w fun e w' => ∃ v, e = .returned (.tuple #[v, .int .i64 (numsE h n)]) ∧ NumsAt w w' v (numsL h n) ∧ Below w.heap.size w w' := by
  have HE0 : Hid (zr h 0 512 = true → numsE h n = 0 ∧ numsL h n = []) := fun hz => ⟨by unfold numsE; rw [if_pos hn, hz]; rfl, by unfold numsL; rw [if_neg (by rw [hz]; simp)]⟩
  have HE1 : Hid (zr h 0 512 = false → isH h n = true → numsE h n = 0 ∧ numsL h n = nsOf h) := fun hz e => ⟨by unfold numsE; rw [if_pos hn, hz, e]; rfl, by unfold numsL; rw [if_pos ⟨hn, hz, e⟩]⟩
  have HE2 : Hid (zr h 0 512 = false → isH h n = false → numsE h n = 41 ∧ numsL h n = []) := fun hz e => ⟨by unfold numsE; rw [if_pos hn, hz, e]; rfl, by unfold numsL; rw [if_neg (by rw [e]; simp)]⟩
  have HI : Hid (isH h n = true ↔ cnt h ≤ 96 ∧ rmay (nsK h (cnt h)) n = true ∧ hd (nsK h (cnt h)) (num h 12 4) = h) := isH_ref h n hn hO.wf
  have HS : Hid (∀ wx, Below w.heap.size w wx → (convert 37 9 (.slice (some ⟨b, off, none⟩) 512 c)).run Tryz.prog wx = .ok (.string (strOfNums h)) wx) := fun wx hx => str_opt (hO.on hx) hn
  have HNm : Hid (∀ wx A, Below w.heap.size w wx → A + 4 ≤ 512 → Calls Tryz.prog 113 #[.slice (some ⟨b, off, none⟩) 512 c, .int .i64 (A : Nat)] wx fun e w' => e = .returned (.int .i64 (num h A 4)) ∧ Below wx.heap.size wx w') := fun wx A hx hA => number_any wx b off c A h hn (hO.on hx) hA
  have HC : Hid (∀ wx, Below w.heap.size w wx → wx.cell? ⟨b, off + 8, none⟩ = some (.int .u8 (nth h 8)) ∧ wx.cell? ⟨b, off + 9, none⟩ = some (.int .u8 (nth h 9))) := fun wx hx => ⟨(hO.on hx).cell (by omega), (hO.on hx).cell (by omega)⟩
  have HW : Hid (∀ i, 0 ≤ nth h i ∧ nth h i < 256) := hO.wf
  have HD0 : Hid (Below w.heap.size w w.drew) := (Below.refl _ w).drew
  have es0 := HS.out _ HD0.out
  have HZ : Hid (zr h 0 512 = true ↔ h = zs) := (zs_iff h hn).symm
  obtain ⟨S1, hS1⟩ : ∃ S, S = strOfNums h := ⟨_, rfl⟩
  obtain ⟨S0, hS0⟩ : ∃ S, S = strOfNums zs := ⟨_, rfl⟩
  have HSS : Hid ((S1.toList == S0.toList) = zr h 0 512) := by
    show _ = _
    rw [hS1, hS0]
    by_cases e : h = zs
    · rw [HZ.out.2 e, e]; simp
    · have : zr h 0 512 = false := by simpa using fun c => e (HZ.out.1 c)
      rw [this]
      simpa using str_ne HW.out zs_bd e
  rw [← hS1] at HS es0
  have HS0 : Hid (S0 = strOfNums zs) := hS0
  clear hn hO hS0
  have HS1 : Hid (S1 = strOfNums h) := hS1
  clear hS1
  go_enter Tryz.func94, Tryz.ntmps94
  go_upto_region 3 with fail
  go_cut [16] (fun s16 wx => s16 = .bool (zr h 0 512) ∧ Below w.heap.size w wx)
  case first =>
    go_region_law (go_simp; go_at_call 96; refine (rempty_any _).mono ?_; rintro e w1 ⟨g1, c1, rfl, ho, hg, hb⟩; have H1 : Hid (Below w.heap.size w w1) := HD0.out.trans (hb.mono HD0.out.size); have es1 := HS.out _ H1.out; have es2 : (convert 37 9 (.slice (some ⟨g1, 0, none⟩) 512 c1)).run Tryz.prog w1 = .ok (.string S0) w1 := (by rw [HS0.out]; exact str_opt ho.bytes zs_length); clear ho hg hb)
    all_goals
      go_wp2
      go_meet
      case rel => exact ⟨by rw [HSS.out], H1.out⟩
  case rest =>
  obtain ⟨rfl, hbc⟩ := hcut
  have H1 : Hid (Below w.heap.size w wc) := hbc
  clear hbc es0
  cases hz : zr h 0 512 with
  | true =>
    obtain ⟨e1, e2⟩ := HE0.out hz
    have HX : Hid (numsE h n = 0 ∧ numsL h n = []) := ⟨e1, e2⟩
    clear e1 e2 hz
    go_wp2
    go_ret2
    exact ⟨_, by rw [HX.out.1]; rfl, .inl ⟨HX.out.2, rfl⟩, H1.out⟩
  | false =>
    have HZf : Hid (zr h 0 512 = false) := hz
    clear hz HSS
    obtain ⟨c8, c9⟩ := HC.out _ H1.out
    have b8 := HW.out 8
    have b9 := HW.out 9
    obtain ⟨x8, h8⟩ : ∃ x, nth h 8 = x := ⟨_, rfl⟩
    obtain ⟨x9, h9⟩ : ∃ x, nth h 9 = x := ⟨_, rfl⟩
    have HCn : Hid (((cnt h : Nat) : Int) = x8 + x9 * 256) := by
      show _ = _
      unfold cnt
      simp only [num, Nat.add_zero, Int.pow_zero, Int.mul_one, Int.zero_add]
      rw [h8, show nth h (8 + 1) = x9 from h9]
      rw [h8] at b8
      rw [h9] at b9
      have : (256 : Int) ^ 1 = 256 := rfl
      rw [this]; omega
    rw [h8] at c8 b8
    rw [h9] at c9 b9
    obtain ⟨K, hK⟩ : ∃ K, cnt h = K := ⟨_, rfl⟩
    rw [hK] at HCn
    have hKe : x8 + x9 * 256 = (K : Int) := HCn.out.symm
    have HKc : Hid (cnt h = K) := hK
    clear h8 h9 hK
    go_upto_region 5 with fail
    go_quiet (fail)
    clear c8 c9
    have HB2 : Hid (Below w.heap.size w (wc.drewN nq)) := below_drewN H1.out _
    generalize wc.drewN nq = w2 at *
    by_cases hK96 : K ≤ 96
    · have hK96' : ¬ (96 : Int) < (K : Int) := by omega
      go_wp2
      go_loopw [7, 8] (fun s7 s8 wr => ∃ j : Nat, j ≤ K ∧ s8 = .int .i64 j ∧ wr.ownsRow 0 3 1 s7 j ((nsK h j).map (Value.int .i64)) ∧ (∀ k, s7.ownBlock = some k → w.heap.size ≤ k) ∧ Below w.heap.size w wr) (fun _ s8 _ => K - (intOf s8).toNat)
      case atStart => exact ⟨0, Nat.zero_le _, rfl, ⟨rfl, .inl ⟨rfl, rfl⟩⟩, (fun k e => by cases e), HB2.out⟩
      case round =>
        obtain ⟨j, hj, rfl, ho, hg, hb⟩ := hrel
        have H3 : Hid (wr.ownsRow 0 3 1 u7 j ((nsK h j).map (Value.int .i64)) ∧ (∀ k, u7.ownBlock = some k → w.heap.size ≤ k) ∧ Below w.heap.size w wr) := ⟨ho, hg, hb⟩
        clear ho hg hb
        by_cases hlt : j < K
        · obtain ⟨v, hv⟩ : ∃ v, num h (16 + 4 * j) 4 = v := ⟨_, rfl⟩
          have HV : Hid (nsK h (j + 1) = nsK h j ++ [v]) := by show _ = _; rw [nsK_succ, hv]
          have HNv : Hid (Calls Tryz.prog 113 #[.slice (some ⟨b, off, none⟩) 512 c, .int .i64 ((16 + 4 * j : Nat) : Int)] wr fun e w' => e = .returned (.int .i64 v) ∧ Below wr.heap.size wr w') := by
            have := HNm.out wr (16 + 4 * j) H3.out.2.2 (by omega)
            rw [hv] at this
            exact this
          clear hv
          have HAl : Hid (∀ (w : World) (o : Obj), Below w.heap.size w (w.alloc o)) := fun w o => (Below.refl _ _).alloc (Nat.le_refl _) _
          have HN2 : Hid (∀ wx : World, ∀ m, m < [v].length → (wx.alloc (.cells #[.int .i64 v] 3)).cell? ((⟨wx.heap.size, 0, none⟩ : Addr).add m) = some (.int .i64 (nth [v] m))) := fun wx m hm => by
            have : m = 0 := by simpa using hm
            subst this
            rw [Addr.add_lit, cell_of_row _ _ _ _ _ _ (heap_alloc_new _ _)]; rfl
          go_wp2_with (first
            | (go_at_call 113; refine HNv.out.mono ?_; rintro e w4 ⟨rfl, hb⟩; have H4 : Hid (w4.ownsRow 0 3 1 u7 j ((nsK h j).map (Value.int .i64)) ∧ Below w.heap.size w w4) := ⟨owns_on H3.out.1 hb, H3.out.2.2.trans (hb.mono H3.out.2.2.size)⟩; clear hb)
            | (at_builtin; refine wp_iown rfl (.tmp 34) (.tmp 40) rfl u7 j (nsK h j) rfl (owns_on H4.out.1 (HAl.out w4 _)) ⟨w4.heap.size, 0, none⟩ 1 1 [v] rfl (by omega) rfl (HN2.out w4) (by omega) ?_; intro g5 cap5 w5 ho hf hg; have H5 : Hid (w5.ownsRow 0 3 1 (.slice (some ⟨g5, 0, none⟩) (j + 1) cap5) (j + 1) ((nsK h (j + 1)).map (Value.int .i64)) ∧ w.heap.size ≤ g5 ∧ Below w.heap.size w w5) := ⟨by rw [HV.out]; exact ho, hg.elim (fun e => H3.out.2.1 _ e) (fun e => Nat.le_trans (Nat.le_trans H4.out.2.size (HAl.out w4 _).size) e), (H4.out.2.trans ((HAl.out w4 _).mono H4.out.2.size)).trans (hf.below _ H3.out.2.1 (Nat.le_trans H4.out.2.size (HAl.out w4 _).size))⟩; clear ho hf hg))
          go_round
          case rel => exact ⟨j + 1, by omega, by go_num, H5.out.1, (fun k hk => by cases hk; exact H5.out.2.1), H5.out.2.2⟩
          case measure => simp [intOf]; omega
        · obtain rfl : j = K := by omega
          obtain ⟨a7, c7, rfl⟩ := own_form H3.out.1
          have HIn : Hid (∀ wx, Below wr.heap.size wr wx → Ints wx a7 (nsK h j)) := fun wx hx => by
            rcases H3.out.1.2 with ⟨e, e0⟩ | ⟨g, cap, cur, e, _⟩
            · subst e0; exact ⟨by simp [nsK], .inl rfl⟩
            · cases e
              exact (OwnI.of (owns_on H3.out.1 hx) (nsK_length h j) (by omega)).ints
          cases hy : rmay (nsK h j) n with
          | false =>
            have HX : Hid (numsE h n = 41 ∧ numsL h n = []) := HE2.out HZf.out (Bool.eq_false_iff.2 fun e => by
              have := (HI.out.1 e).2.1
              rw [HKc.out, hy] at this
              cases this)
            have HMy : Hid (∀ wx, Below wr.heap.size wr wx → Calls Tryz.prog 109 #[.slice a7 j c7, .int .i64 n] wx fun e w' => e = .returned (.bool false) ∧ w' = wx) := fun wx hx => by
              have := rmay_any wx a7 j c7 (nsK h j) n (nsK_length h j) (HIn.out wx hx)
              rw [hy] at this
              exact this.mono fun e w' ⟨h1, h2⟩ => ⟨h1, h2.symm⟩
            clear hy
            go_upto_region 13 with fail
            go_quiet (first | (go_at_call 109; refine Calls.quiet_of_same (HMy.out _ (below_drewN (Below.refl _ _) _))))
            have HB7 : Hid (Below w.heap.size w (wr.drewN nq)) := below_drewN H3.out.2.2 _
            generalize wr.drewN nq = w7 at *
            go_wp2
            go_ret2
            exact ⟨_, by rw [HX.out.1]; rfl, .inl ⟨HX.out.2, rfl⟩, HB7.out⟩
          | true =>
            have hys := (rmay_split _ _).1 hy
            rw [nsK_length] at hys
            obtain ⟨g7, n7, e7⟩ := own_some H3.out.1 (by omega)
            cases e7
            have HMy : Hid (∀ wx, Below wr.heap.size wr wx → Calls Tryz.prog 109 #[.slice (some ⟨g7, 0, none⟩) j c7, .int .i64 n] wx fun e w' => e = .returned (.bool true) ∧ wx = w') := fun wx hx => by
              have := rmay_any wx _ j c7 (nsK h j) n (nsK_length h j) (HIn.out wx hx)
              rw [hy] at this
              exact this
            have HBw : Hid (∀ wx, Below wr.heap.size wr wx → Below w.heap.size w wx) := fun wx hx => H3.out.2.2.trans (hx.mono H3.out.2.2.size)
            have sb : 0 ≤ num h 12 4 ∧ num h 12 4 < 4294967296 := num_bd h 12 4 HW.out
            have HN12 : Hid (∀ wx, Below wr.heap.size wr wx → Calls Tryz.prog 113 #[.slice (some ⟨b, off, none⟩) 512 c, .int .i64 (12 : Nat)] wx fun e w' => e = .returned (.int .i64 (num h 12 4)) ∧ Below wx.heap.size wx w') := fun wx hx => HNm.out wx 12 (HBw.out wx hx) (by omega)
            have HLd : Hid (∀ wx, Below wr.heap.size wr wx → Calls Tryz.prog 111 #[.slice (some ⟨g7, 0, none⟩) j c7, .int .u32 (num h 12 4)] wx fun e w' => ∃ g cap, e = .returned (.slice (some ⟨g, 0, none⟩) 512 cap) ∧ OwnB w' g cap (hd (nsK h j) (num h 12 4)) ∧ wx.heap.size ≤ g ∧ Below wx.heap.size wx w') := fun wx hx => laid_ok wx g7 0 j c7 (nsK h j) _ (nsK_length h j) (HIn.out wx hx) hys.1.2 (fun i hi => nsK_bd h HW.out j i hi) sb
            obtain ⟨SL, hSL⟩ : ∃ S, S = strOfNums (hd (nsK h j) (num h 12 4)) := ⟨_, rfl⟩
            have HSL : Hid (SL = strOfNums (hd (nsK h j) (num h 12 4))) := hSL
            clear hSL
            obtain ⟨q, hq⟩ : ∃ q, (SL.toList == S1.toList) = q := ⟨_, rfl⟩
            have HQ : Hid (q = isH h n) := by
              show _ = _
              rw [← hq, HSL.out, HS1.out]
              by_cases e : hd (nsK h j) (num h 12 4) = h
              · have : isH h n = true := HI.out.2 (by rw [HKc.out]; exact ⟨by omega, hy, e⟩)
                rw [e, this]; simp
              · have : isH h n = false := Bool.eq_false_iff.2 fun c => e (by have := (HI.out.1 c).2.2; rwa [HKc.out] at this)
                rw [this]
                simpa using str_ne (hd_bd _ _) HW.out e
            obtain ⟨sv, hsv⟩ : ∃ sv, num h 12 4 = sv := ⟨_, rfl⟩
            rw [hsv] at HN12 HLd sb HSL
            clear hsv hy hys
            have hwr : IntKind.u32.wrap sv = sv := Int.emod_eq_of_lt sb.1 sb.2
            have HDr : Hid (Below wr.heap.size wr wr.drew) := (Below.refl _ _).drew
            have es3 := HS.out _ (HBw.out _ HDr.out)
            go_upto_region 13 with fail
            go_cut [56] (fun s56 wx => s56 = .bool (!q) ∧ Below w.heap.size w wx ∧ Below wr.heap.size wr wx)
            case first =>
                refine wp_region_any (by kernel_rfl) ?_
                try (change wpAny _ _ _ _ _ _ _ (World.drew _))
                refine wpAny_take (i := 0) (v := ?_) rfl (by kernel_rfl) (by kernel_rfl) (by kernel_rfl) (fun _ _ _ h => h) (Or.inl ⟨by kernel_rfl, ?_⟩) ?_
                rotate_left
                focus (intro w; go_simp; (try (with_reducible rfl)); done)
                go_simp
                refine wpAny_take (i := 1) (v := ?_) rfl (by kernel_rfl) (by kernel_rfl) (by kernel_rfl) (fun _ _ _ h => h) (Or.inl ⟨by kernel_rfl, ?_⟩) ?_
                rotate_left
                focus (intro w; go_simp; (try (with_reducible rfl)); done)
                go_simp
                refine wpAny_ready (rs := [2]) (by kernel_rfl) (by simp) ?_
                refine AllReady.cons rfl (fun K hK => ?_) ?_
                · (go_simp; go_at_call 109; refine (HMy.out _ HDr.out).mono ?_; rintro e w' ⟨rfl, rfl⟩)
                  try go_simp
                  first
                    | (refine hK _ _ ?_; clear hK K)
                    | skip
                  refine wpAny_take (i := 3) (v := ?_) rfl (by kernel_rfl) (by kernel_rfl) (by kernel_rfl) (fun _ _ _ h => h) (Or.inl ⟨by kernel_rfl, ?_⟩) ?_
                  rotate_left
                  focus (intro w; go_simp; (try (with_reducible rfl)); done)
                  go_simp
                  refine wpAny_take (i := 4) (v := ?_) rfl (by kernel_rfl) (by kernel_rfl) (by kernel_rfl) (fun _ _ _ h => h) (Or.inl ⟨by kernel_rfl, ?_⟩) ?_
                  rotate_left
                  focus (intro w; go_simp; (try (with_reducible rfl)); done)
                  go_simp
                  refine wpAny_take (i := 5) (v := ?_) rfl (by kernel_rfl) (by kernel_rfl) (by kernel_rfl) (fun _ _ _ h => h) (Or.inl ⟨by kernel_rfl, ?_⟩) ?_
                  rotate_left
                  focus (intro w; go_simp; (try (with_reducible rfl)); done)
                  go_simp
                  refine wpAny_take (i := 6) (v := ?_) rfl (by kernel_rfl) (by kernel_rfl) (by kernel_rfl) (fun _ _ _ h => h) (Or.inl ⟨by kernel_rfl, ?_⟩) ?_
                  rotate_left
                  focus (intro w; go_simp; (try (with_reducible rfl)); done)
                  go_simp
                  refine wpAny_take (i := 11) (v := ?_) rfl (by kernel_rfl) (by kernel_rfl) (by kernel_rfl) (fun _ _ _ h => h) (Or.inl ⟨by kernel_rfl, ?_⟩) ?_
                  rotate_left
                  focus (intro w; go_simp; (try (with_reducible rfl)); done)
                  go_simp
                  refine wpAny_ready (rs := [7, 12]) (by kernel_rfl) (by simp) ?_
                  refine AllReady.cons rfl (fun K hK => ?_) ?_
                  · (go_simp; go_at_call 113; refine (HN12.out _ HDr.out).mono ?_; rintro e w4 ⟨rfl, hb⟩; have H4 : Hid (Below wr.heap.size wr w4) := HDr.out.trans hb; have es4 := HS.out _ (HBw.out _ H4.out); clear hb)
                    try go_simp
                    first
                      | (refine hK _ _ ?_; clear hK K)
                      | skip
                    refine wpAny_take (i := 8) (v := ?_) rfl (by kernel_rfl) (by kernel_rfl) (by kernel_rfl) (fun _ _ _ h => h) (Or.inl ⟨by kernel_rfl, ?_⟩) ?_
                    rotate_left
                    focus (intro w; go_simp; (try (with_reducible rfl)); done)
                    go_simp
                    refine wpAny_ready (rs := [9, 12]) (by kernel_rfl) (by simp) ?_
                    refine AllReady.cons rfl (fun K hK => ?_) ?_
                    · (go_simp; go_at_call 111; refine (HLd.out _ H4.out).mono ?_; rintro e w5 ⟨g5, c5, rfl, ho, hg, hb⟩; have H5 : Hid (Below wr.heap.size wr w5) := H4.out.trans (hb.mono H4.out.size); have es5 := HS.out _ (HBw.out _ H5.out); have es6 : (convert 37 9 (.slice (some ⟨g5, 0, none⟩) 512 c5)).run Tryz.prog w5 = .ok (.string SL) w5 := (by rw [HSL.out]; exact str_opt ho.bytes (hd_length _ _)); clear ho hg hb)
                      try go_simp
                      first
                        | (refine hK _ _ ?_; clear hK K)
                        | skip
                      refine wpAny_ready (rs := [10, 12]) (by kernel_rfl) (by simp) ?_
                      refine AllReady.cons rfl (fun K hK => ?_) ?_
                      · go_simp
                        try go_simp
                        first
                          | (refine hK _ _ ?_; clear hK K)
                          | skip
                        refine wpAny_ready (rs := [12]) (by kernel_rfl) (by simp) ?_
                        refine AllReady.cons rfl (fun K hK => ?_) ?_
                        · go_simp
                          try go_simp
                          first
                            | (refine hK _ _ ?_; clear hK K)
                            | skip
                          refine wpAny_take (i := 13) (v := ?_) rfl (by kernel_rfl) (by kernel_rfl) (by kernel_rfl) (fun _ _ _ h => h) (Or.inl ⟨by kernel_rfl, ?_⟩) ?_
                          rotate_left
                          focus (intro w; go_simp; (try (with_reducible rfl)); done)
                          go_simp
                          refine wpAny_take (i := 14) (v := ?_) rfl (by kernel_rfl) (by kernel_rfl) (by kernel_rfl) (fun _ _ _ h => h) (Or.inl ⟨by kernel_rfl, ?_⟩) ?_
                          rotate_left
                          focus (intro w; go_simp; (try (with_reducible rfl)); done)
                          go_simp
                          refine wpAny_done (by kernel_rfl) ?_ _
                          go_wp2
                          go_meet
                          case rel => exact ⟨rfl, HBw.out _ H5.out, H5.out⟩
                        exact AllReady.nil
                      refine AllReady.cons rfl (fun K hK => ?_) ?_
                      · go_simp
                        try go_simp
                        first
                          | (refine hK _ _ ?_; clear hK K)
                          | skip
                        refine wpAny_ready (rs := [10]) (by kernel_rfl) (by simp) ?_
                        refine AllReady.cons rfl (fun K hK => ?_) ?_
                        · go_simp
                          try go_simp
                          first
                            | (refine hK _ _ ?_; clear hK K)
                            | skip
                          refine wpAny_take (i := 13) (v := ?_) rfl (by kernel_rfl) (by kernel_rfl) (by kernel_rfl) (fun _ _ _ h => h) (Or.inl ⟨by kernel_rfl, ?_⟩) ?_
                          rotate_left
                          focus (intro w; go_simp; (try (with_reducible rfl)); done)
                          go_simp
                          refine wpAny_take (i := 14) (v := ?_) rfl (by kernel_rfl) (by kernel_rfl) (by kernel_rfl) (fun _ _ _ h => h) (Or.inl ⟨by kernel_rfl, ?_⟩) ?_
                          rotate_left
                          focus (intro w; go_simp; (try (with_reducible rfl)); done)
                          go_simp
                          refine wpAny_done (by kernel_rfl) ?_ _
                          go_wp2
                          go_meet
                          case rel => exact ⟨rfl, HBw.out _ H5.out, H5.out⟩
                        exact AllReady.nil
                      exact AllReady.nil
                    refine AllReady.cons rfl (fun K hK => ?_) ?_
                    · go_simp
                      try go_simp
                      first
                        | (refine hK _ _ ?_; clear hK K)
                        | skip
                      refine wpAny_ready (rs := [9]) (by kernel_rfl) (by simp) ?_
                      refine AllReady.cons rfl (fun K hK => ?_) ?_
                      · (go_simp; go_at_call 111; refine (HLd.out _ H4.out).mono ?_; rintro e w5 ⟨g5, c5, rfl, ho, hg, hb⟩; have H5 : Hid (Below wr.heap.size wr w5) := H4.out.trans (hb.mono H4.out.size); have es5 := HS.out _ (HBw.out _ H5.out); have es6 : (convert 37 9 (.slice (some ⟨g5, 0, none⟩) 512 c5)).run Tryz.prog w5 = .ok (.string SL) w5 := (by rw [HSL.out]; exact str_opt ho.bytes (hd_length _ _)); clear ho hg hb)
                        try go_simp
                        first
                          | (refine hK _ _ ?_; clear hK K)
                          | skip
                        refine wpAny_ready (rs := [10]) (by kernel_rfl) (by simp) ?_
                        refine AllReady.cons rfl (fun K hK => ?_) ?_
                        · go_simp
                          try go_simp
                          first
                            | (refine hK _ _ ?_; clear hK K)
                            | skip
                          refine wpAny_take (i := 13) (v := ?_) rfl (by kernel_rfl) (by kernel_rfl) (by kernel_rfl) (fun _ _ _ h => h) (Or.inl ⟨by kernel_rfl, ?_⟩) ?_
                          rotate_left
                          focus (intro w; go_simp; (try (with_reducible rfl)); done)
                          go_simp
                          refine wpAny_take (i := 14) (v := ?_) rfl (by kernel_rfl) (by kernel_rfl) (by kernel_rfl) (fun _ _ _ h => h) (Or.inl ⟨by kernel_rfl, ?_⟩) ?_
                          rotate_left
                          focus (intro w; go_simp; (try (with_reducible rfl)); done)
                          go_simp
                          refine wpAny_done (by kernel_rfl) ?_ _
                          go_wp2
                          go_meet
                          case rel => exact ⟨rfl, HBw.out _ H5.out, H5.out⟩
                        exact AllReady.nil
                      exact AllReady.nil
                    exact AllReady.nil
                  refine AllReady.cons rfl (fun K hK => ?_) ?_
                  · go_simp
                    try go_simp
                    first
                      | (refine hK _ _ ?_; clear hK K)
                      | skip
                    refine wpAny_ready (rs := [7]) (by kernel_rfl) (by simp) ?_
                    refine AllReady.cons rfl (fun K hK => ?_) ?_
                    · (go_simp; go_at_call 113; refine (HN12.out _ HDr.out).mono ?_; rintro e w4 ⟨rfl, hb⟩; have H4 : Hid (Below wr.heap.size wr w4) := HDr.out.trans hb; have es4 := HS.out _ (HBw.out _ H4.out); clear hb)
                      try go_simp
                      first
                        | (refine hK _ _ ?_; clear hK K)
                        | skip
                      refine wpAny_take (i := 8) (v := ?_) rfl (by kernel_rfl) (by kernel_rfl) (by kernel_rfl) (fun _ _ _ h => h) (Or.inl ⟨by kernel_rfl, ?_⟩) ?_
                      rotate_left
                      focus (intro w; go_simp; (try (with_reducible rfl)); done)
                      go_simp
                      refine wpAny_ready (rs := [9]) (by kernel_rfl) (by simp) ?_
                      refine AllReady.cons rfl (fun K hK => ?_) ?_
                      · (go_simp; go_at_call 111; refine (HLd.out _ H4.out).mono ?_; rintro e w5 ⟨g5, c5, rfl, ho, hg, hb⟩; have H5 : Hid (Below wr.heap.size wr w5) := H4.out.trans (hb.mono H4.out.size); have es5 := HS.out _ (HBw.out _ H5.out); have es6 : (convert 37 9 (.slice (some ⟨g5, 0, none⟩) 512 c5)).run Tryz.prog w5 = .ok (.string SL) w5 := (by rw [HSL.out]; exact str_opt ho.bytes (hd_length _ _)); clear ho hg hb)
                        try go_simp
                        first
                          | (refine hK _ _ ?_; clear hK K)
                          | skip
                        refine wpAny_ready (rs := [10]) (by kernel_rfl) (by simp) ?_
                        refine AllReady.cons rfl (fun K hK => ?_) ?_
                        · go_simp
                          try go_simp
                          first
                            | (refine hK _ _ ?_; clear hK K)
                            | skip
                          refine wpAny_take (i := 13) (v := ?_) rfl (by kernel_rfl) (by kernel_rfl) (by kernel_rfl) (fun _ _ _ h => h) (Or.inl ⟨by kernel_rfl, ?_⟩) ?_
                          rotate_left
                          focus (intro w; go_simp; (try (with_reducible rfl)); done)
                          go_simp
                          refine wpAny_take (i := 14) (v := ?_) rfl (by kernel_rfl) (by kernel_rfl) (by kernel_rfl) (fun _ _ _ h => h) (Or.inl ⟨by kernel_rfl, ?_⟩) ?_
                          rotate_left
                          focus (intro w; go_simp; (try (with_reducible rfl)); done)
                          go_simp
                          refine wpAny_done (by kernel_rfl) ?_ _
                          go_wp2
                          go_meet
                          case rel => exact ⟨rfl, HBw.out _ H5.out, H5.out⟩
                        exact AllReady.nil
                      exact AllReady.nil
                    exact AllReady.nil
                  exact AllReady.nil
                exact AllReady.nil
            case rest =>
            obtain ⟨rfl, hb8, hb9⟩ := hcut
            have HB8 : Hid (Below w.heap.size w wc ∧ Below wr.heap.size wr wc) := ⟨hb8, hb9⟩
            clear hb8 hb9 hq
            cases q with
            | true =>
              have HX : Hid (numsE h n = 0 ∧ numsL h n = nsK h j) := by
                obtain ⟨e1, e2⟩ := HE1.out HZf.out HQ.out.symm
                exact ⟨e1, by rw [e2]; unfold nsOf nsK; rw [HKc.out]⟩
              go_wp2
              go_ret2
              exact ⟨_, by rw [HX.out.1]; rfl, .inr ⟨g7, c7, by rw [HX.out.2, nsK_length]; rfl, by rw [HX.out.2]; exact OwnI.of (owns_on H3.out.1 HB8.out.2) (nsK_length h j) (by omega), H3.out.2.1 _ rfl⟩, HB8.out.1⟩
            | false =>
              have HX : Hid (numsE h n = 41 ∧ numsL h n = []) := HE2.out HZf.out HQ.out.symm
              go_wp2
              go_ret2
              exact ⟨_, by rw [HX.out.1]; rfl, .inl ⟨HX.out.2, rfl⟩, HB8.out.1⟩
    · have hK96' : (96 : Int) < (K : Int) := by omega
      have HX : Hid (numsE h n = 41 ∧ numsL h n = []) := HE2.out HZf.out (by
        have := HI.out
        rw [HKc.out] at this
        simpa using fun e => hK96 (this.1 e).1)
      go_wp2
      go_ret2
      exact ⟨_, by rw [HX.out.1]; rfl, .inl ⟨HX.out.2, rfl⟩, HB2.out⟩
/-- the reference's Nums -/
theorem rnums_any (w : World) (a : Option Addr) (k c : Nat) (h : List Int) (n : Int) (hn : h.length = k) (hO : Bytes w a h) :
    Calls Tryz.prog 94 #[.slice a k c, .int .i64 n] w fun e w' => ∃ v, e = .returned (.tuple #[v, .int .i64 (numsE h n)]) ∧ NumsAt w w' v (numsL h n) ∧ Below w.heap.size w w' := by
  by_cases hk : k = 512
  · subst hk
    obtain ⟨b, off, rfl⟩ := hO.some (by omega)
    exact rnums_in w b off c h n hn hO
  · have e1 : numsE h n = 32 := by unfold numsE; rw [if_neg (by omega)]
    have e2 : numsL h n = [] := by unfold numsL; rw [if_neg (by omega)]
    refine (rnums_size w a k c n hk).mono ?_
    rintro e w' ⟨rfl, rfl⟩
    exact ⟨_, by rw [e1], .inl ⟨e2, rfl⟩, Below.refl _ _⟩
end Go.Proofs.YtamlbpbhlgmcoaaGreatDoor
