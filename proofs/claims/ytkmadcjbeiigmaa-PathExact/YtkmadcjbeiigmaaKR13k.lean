import Derived.Test.YtkmadcjbeiigmaaKR13h
namespace Go.Proofs.Ytkmadcjbeiigmaa
open Go.RowKit Go.Shelf Pa
set_option maxRecDepth 100000 in
set_option maxHeartbeats 8000000 in
theorem rjoin_any (w : World) (a : Option Addr) (n c : Nat) (xs : List ByteArray) (hxs : StrsAt w a xs) (hn : xs.length = n) (hn2 : n ≤ 1000000000) (hx : ∀ x, x ∈ xs → x.size ≤ 100000000) : Calls Try.prog 24 #[.slice a n c] w fun e w' => JoinR w (xs.map tx) e w' := by
  have HX : Hid (xs.length = n ∧ ∀ x, x ∈ xs → x.size ≤ 100000000) := ⟨hn, hx⟩
  have H0 : Hid (Jn (xs.map tx) 0 (decide ((32 : Int) < (n : Int)))) := ⟨by
    rw [List.length_map, hn, List.take_zero, List.any_nil, Bool.or_false, decide_eq_decide]; omega, rfl⟩
  clear hx hn
  go_enter Try.func24, Try.ntmps24
  go_wp2
  go_loopw [4, 15] (fun s4 s15 wr => ∃ (k : Nat) (lg : Bool), k ≤ n ∧ s15 = .int .i64 (k : Int) ∧ s4 = .bool lg ∧ Jn (xs.map tx) k lg ∧ Below w.heap.size w wr) (fun _ s15 _ => n - (intOf s15).toNat)
  case atStart => exact ⟨0, _, Nat.zero_le _, rfl, rfl, H0.out, Below.refl _ _⟩
  case round =>
    obtain ⟨k, lg, hk, rfl, rfl, hj, hbr⟩ := hrel
    have HJ : Hid (Jn (xs.map tx) k lg ∧ Below w.heap.size w wr) := ⟨hj, hbr⟩
    by_cases hlt : k < n
    · have hlt' : (k : Int) < (n : Int) := ilt hlt
      obtain ⟨b, off, x, rfl, hxk, hc⟩ := (hxs.on hbr).at (k := k) (by rw [HX.out.1]; exact hlt)
      have HM : Hid (n - (intOf (.int .i64 ((k : Int) + 1))).toNat < n - (intOf (.int .i64 (k : Int))).toNat) := meas0 hlt
      have hxs2 : x.size ≤ 100000000 := HX.out.2 x (List.mem_of_getElem? hxk)
      have HB : Hid (noPart (tx x) = true → jE (xs.map tx) = 1) := jE_at hxk
      have HG : Hid (noPart (tx x) = false → Jn (xs.map tx) (k + 1) (lg || long (tx x))) := hj.go hxk
      have HN : Hid (noPart (tx x) = (tx x == [46] || hasZ (tx x) || !decide (pcs (tx x) = [tx x]))) := noPart_ref (tx x)
      have HK : Hid (k + 1 ≤ n) := hlt
      have CZ : Hid (∀ wx, Calls Try.prog 36 #[.string x] wx fun e w' => e = .returned (.bool (hasZ (tx x))) ∧ wx = w') := fun wx => rzero_any wx x (by omega)
      clear hj hxk hbr hlt hk
      cases h1 : (tx x == [46]) with
      | true =>
        have h1' : (x.toList == [46]) = true := by rw [toList_tx]; exact h1
        have E : Hid (jE (xs.map tx) = 1) := HB.out (by rw [HN.out, h1]; rfl)
        go_wp2
        go_ret2
        exact JoinR.bad E.out (by decide) HJ.out.2
      | false =>
        have h1' : (x.toList == [46]) = false := by rw [toList_tx]; exact h1
        cases h2 : hasZ (tx x) with
        | true =>
          have E : Hid (jE (xs.map tx) = 1) := HB.out (by rw [HN.out, h1, h2]; rfl)
          go_wp2_with (go_at_call 36; refine (CZ.out _).mono ?_; rintro e w' ⟨rfl, rfl⟩; rw [h2])
          go_ret2
          exact JoinR.bad E.out (by decide) HJ.out.2
        | false =>
          by_cases h5 : (pcs (tx x)).length = 1
          · obtain ⟨q, hq⟩ := List.length_eq_one_iff.1 h5
            have CP : Hid (∀ wx, Calls Try.prog 38 #[.string x] wx fun e w' => ∃ b off c, e = .returned (.slice (some ⟨b, off, none⟩) 1 c) ∧ w'.cell? ⟨b, off, none⟩ = some (.string (st q)) ∧ Below wx.heap.size wx w') := fun wx => rpieces_1 wx x hxs2 q hq
            cases h6 : (q == tx x) with
            | false =>
              have h6' : (q == x.toList) = false := by rw [toList_tx]; exact h6
              have h6n : ¬ q = x.toList := by simpa using h6'
              have E : Hid (jE (xs.map tx) = 1) := HB.out (by
                rw [HN.out, h1, h2, hq]
                have : ¬ [q] = [tx x] := fun e => by cases e; simp at h6
                rw [decide_eq_false this]; rfl)
              clear hq h5
              go_wp2_with (first | (go_at_call 36; refine (CZ.out _).mono ?_; rintro e w' ⟨rfl, rfl⟩; rw [h2]) | (go_at_call 38; refine (CP.out _).mono ?_; rintro e w' ⟨b, off, c, rfl, hc, hb⟩))
              rename_i hb1
              go_ret2
              exact JoinR.bad E.out (by decide) (below_t HJ.out.2 (below_t hb1 hb))
            | true =>
              have h6' : (q == x.toList) = true := by rw [toList_tx]; exact h6
              have h6n : q = x.toList := by simpa using h6'
              have E : Hid (Jn (xs.map tx) (k + 1) (lg || long (tx x))) := HG.out (by
                have e : q = tx x := by simpa using h6
                rw [HN.out, h1, h2, hq, e]
                simp)
              have EL : Hid (long (tx x) = decide ((27 : Int) < (x.size : Int))) := by
                show long (tx x) = _
                unfold long
                rw [int_size, decide_eq_decide]; omega
              clear hq h5
              cases lg with
              | true =>
                go_wp2_with (first | (go_at_call 36; refine (CZ.out _).mono ?_; rintro e w' ⟨rfl, rfl⟩; rw [h2]) | (go_at_call 38; refine (CP.out _).mono ?_; rintro e w' ⟨b, off, c, rfl, hc, hb⟩))
                rename_i hb1
                go_roundw
                case rel => exact ⟨k + 1, _, HK.out, rfl, rfl, (by have := E.out; rw [Bool.true_or] at this; exact this), below_t HJ.out.2 (below_t hb1 hb)⟩
                case measure => exact HM.out
              | false =>
                go_wp2_with (first | (go_at_call 36; refine (CZ.out _).mono ?_; rintro e w' ⟨rfl, rfl⟩; rw [h2]) | (go_at_call 38; refine (CP.out _).mono ?_; rintro e w' ⟨b, off, c, rfl, hc, hb⟩))
                rename_i hb1
                go_roundw
                case rel => exact ⟨k + 1, _, HK.out, rfl, rfl, (by have := E.out; rw [Bool.false_or, EL.out] at this; exact this), below_t HJ.out.2 (below_t hb1 hb)⟩
                case measure => exact HM.out
          · obtain ⟨m, hm⟩ : ∃ m, (pcs (tx x)).length = m := ⟨_, rfl⟩
            have hm1 : ¬ (m : Int) = 1 := by rw [hm] at h5; omega
            have hm2 : ((m : Int) == 1) = false := by simpa using hm1
            have hm3 : ((m : Int) != 1) = true := by simpa using hm1
            have CP : Hid (∀ wx, Calls Try.prog 38 #[.string x] wx fun e w' => ∃ a c ys, e = .returned (.slice a m c) ∧ StrsAt w' a ys ∧ ys.map tx = pcs (tx x) ∧ ys.length = m ∧ Below wx.heap.size wx w') := fun wx => rpieces_at wx x hxs2 m hm
            have E : Hid (jE (xs.map tx) = 1) := HB.out (by
              have : ¬ pcs (tx x) = [tx x] := fun h => h5 (by rw [h]; rfl)
              rw [HN.out, h1, h2, decide_eq_false this]; rfl)
            clear hm h5
            go_wp2_with (first | (go_at_call 36; refine (CZ.out _).mono ?_; rintro e w' ⟨rfl, rfl⟩; rw [h2]) | (go_at_call 38; refine (CP.out _).mono ?_; rintro e w' ⟨a, c, ys, rfl, _, _, _, hb⟩))
            go_ret2
            exact JoinR.bad E.out (by decide) (below_t HJ.out.2 hb)
    · have hlt' : ¬ (k : Int) < (n : Int) := inlt hlt
      have ek : k = n := by omega
      subst ek
      have hfin := hj.fin (by rw [List.length_map, HX.out.1]; exact Nat.le_refl _)
      cases lg with
      | true =>
        have E : Hid (jE (xs.map tx) = 130) := hfin
        clear hfin hj
        go_wp2
        go_ret2
        exact JoinR.bad E.out (by decide) hbr
      | false =>
        have E : Hid (jE (xs.map tx) = 0) := hfin
        have hat := hxs.on hbr
        clear hfin hj
        go_wp2
        go_loopw [7, 49] (fun s7 s49 wq => ∃ (i : Nat) (t : ByteArray), i ≤ k ∧ s49 = .int .i64 (i : Int) ∧ s7 = .string t ∧ tx t = fl ((xs.map tx).take i) ∧ wq = wr) (fun _ s49 _ => k - (intOf s49).toNat)
        case atStart => exact ⟨0, ⟨#[]⟩, Nat.zero_le _, rfl, rfl, rfl, rfl⟩
        case round =>
          obtain ⟨i, t, hi, rfl, rfl, ht, rfl⟩ := hrel
          have hts : t.size ≤ 1000 := by rw [size_tx, ht]; exact fl_small ((jE_iff _).1 E.out) i
          by_cases hil : i < k
          · have hil' : (i : Int) < (k : Int) := ilt hil
            obtain ⟨b, off, x, rfl, hxk, hc⟩ := hat.at (k := i) (by rw [HX.out.1]; exact hil)
            have hxz : x.size ≤ 100000000 := HX.out.2 x (List.mem_of_getElem? hxk)
            have HM : Hid (k - (intOf (.int .i64 ((i : Int) + 1))).toNat < k - (intOf (.int .i64 (i : Int))).toNat) := meas0 hil
            have HF : Hid (tx (t ++ ⟨#[47]⟩ ++ x) = fl ((xs.map tx).take (i + 1)) ∧ i + 1 ≤ k) := ⟨by
              rw [fl_take hxk, ← ht, tx_app, tx_app, List.append_assoc]; rfl, hil⟩
            have g1 : ¬ 9223372036854775807 < t.size + 1 := by omega
            have g2 : ¬ 9223372036854775807 < t.size + 1 + x.size := by omega
            clear ht hxk hil hi
            go_wp2
            go_roundw
            case rel => exact ⟨i + 1, _, HF.out.2, rfl, rfl, HF.out.1, trivial⟩
            case measure => exact HM.out
          · have hil' : ¬ (i : Int) < (k : Int) := inlt hil
            have ei : i = k := by omega
            subst ei
            rw [List.take_of_length_le (by rw [List.length_map, HX.out.1]; exact Nat.le_refl _)] at ht
            by_cases h0 : tx t = []
            · have h0' : t.toList = [] := by rw [toList_tx]; exact h0
              have HF : Hid (fl (xs.map tx) = []) := by rw [← ht]; exact h0
              clear ht h0
              go_wp2
              go_ret2
              exact JoinR.root E.out HF.out hbr
            · have h0' : t.toList.isEmpty = false := by rw [toList_tx]; simpa using h0
              have HF : Hid (tx t = fl (xs.map tx) ∧ fl (xs.map tx) ≠ []) := ⟨ht, by rw [← ht]; exact h0⟩
              clear ht h0
              go_wp2
              go_ret2
              exact JoinR.fin E.out HF.out.1 HF.out.2 hbr
end Go.Proofs.Ytkmadcjbeiigmaa

namespace Go.Proofs.Ytkmadcjbeiigmaa
open Go.RowKit Go.Shelf Pa
theorem small_row {row : List ByteArray} {ps : List Tx} (h : row.map tx = ps) (hf : Fine ps) : ∀ x, x ∈ row → x.size ≤ 100000000 := fun x hx => by
  have := (hf.1 (tx x) (by rw [← h]; exact List.mem_map_of_mem hx)).2
  rw [size_tx]; omega
set_option maxRecDepth 100000 in
set_option maxHeartbeats 8000000 in
theorem rclean_any (w : World) (s : ByteArray) (hs : s.size ≤ 100000000) : Calls Try.prog 22 #[.string s] w fun e w' => CleanR w (tx s) e w' := by
  by_cases hp : pE (tx s) = 0
  · obtain ⟨hfine, _, _, _⟩ := pE_fine hp
    obtain ⟨n, hn⟩ : ∃ n, (cps (tx s)).length = n := ⟨_, rfl⟩
    have CC : Hid (∀ wx, Calls Try.prog 19 #[.string s] wx fun e w' => ∃ a c xs, e = .returned (.tuple #[.slice a n c, .int .i64 0]) ∧ StrsAt w' a xs ∧ xs.map tx = cps (tx s) ∧ xs.length = n ∧ Below wx.heap.size wx w') := fun wx => rparse_ok wx s hs n hp hn
    have HP : Hid (pE (tx s) = 0 ∧ Fine (cps (tx s)) ∧ n ≤ 32) := ⟨hp, hfine, by rw [← hn]; exact hfine.2⟩
    clear hp hfine hn
    go_enter Try.func22, Try.ntmps22
    go_wp2_with (go_at_call 19; refine (CC.out _).mono ?_; rintro e w2 ⟨a, c, xs, rfl, hat2, hx, hn, hb1⟩)
    have hn32 : n ≤ 32 := HP.out.2.2
    have HX : Hid (xs.map tx = cps (tx s) ∧ xs.length = n ∧ Below w.heap.size w w2) := ⟨hx, hn, hb1⟩
    clear hx hn hb1
    go_loopw [6, 19] (fun s6 s19 wr => ∃ (k : Nat) (row : List ByteArray), k ≤ n ∧ s19 = .int .i64 (k : Int) ∧ Ow wr w2.heap.size s6 row ∧ row.map tx = ((xs.map tx).take k).foldl stp [] ∧ row.length ≤ k ∧ Below w2.heap.size w2 wr) (fun _ s19 _ => n - (intOf s19).toNat)
    case atStart => exact ⟨0, [], Nat.zero_le _, rfl, Ow.nil _ _, rfl, Nat.le_refl _, Below.refl _ _⟩
    case round =>
      obtain ⟨k, row, hk, rfl, how, hrow, hrk, hbr⟩ := hrel
      by_cases hlt : k < n
      · have hlt' : (k : Int) < (n : Int) := by omega
        obtain ⟨b, off, x, rfl, hxk, hc⟩ := (hat2.on hbr).at (k := k) (by rw [HX.out.2.1]; exact hlt)
        have HR : Hid (row.map tx = ((xs.map tx).take k).foldl stp [] ∧ xs[k]? = some x) := ⟨hrow, hxk⟩
        clear hrow hxk
        by_cases hup : tx x = [46, 46]
        · have hu' : (x.toList != [46, 46]) = false := by rw [toList_tx, hup]; rfl
          have hu2 : x.toList = [46, 46] := by rw [toList_tx]; exact hup
          have HU : Hid (∀ row' : List ByteArray, row'.map tx = (row.take (row.length - 1)).map tx → row'.map tx = ((xs.map tx).take (k + 1)).foldl stp []) := by
            intro row' h
            rw [h, foldl_take HR.out.2, ← HR.out.1, stp_up _ _ hup]
          clear hup
          rcases how.cases with ⟨rfl, rfl⟩ | ⟨g, cap, rfl, hg1, hg2, hg3⟩
          · go_wp2
            go_roundw
            case rel => exact ⟨k + 1, [], by omega, by go_num, Ow.nil _ _, HU.out _ rfl, by simp, hbr⟩
            case measure => simp [intOf]; omega
          · obtain ⟨m, hm⟩ : ∃ m, row.length = m := ⟨_, rfl⟩
            rw [hm] at hg2
            cases m with
            | zero =>
              rw [hm] at how ⊢
              have hro : row = [] := List.eq_nil_of_length_eq_zero hm
              go_wp2
              go_roundw
              case rel => exact ⟨k + 1, [], by omega, by go_num, (by subst hro; exact how), HU.out _ (by rw [hro]; rfl), by simp, hbr⟩
              case measure => simp [intOf]; omega
            | succ j =>
              have hcut := how.cut j (by omega)
              rw [hm]
              have c1 : wrap64 ((j : Int) + 1 - 1) = (j : Int) := by unfold wrap64; omega
              have c2 : (j : Int) ≤ (cap : Int) := by omega
              have c3 : (0 : Int) ≤ (j : Int) := by omega
              have c4 : (0 : Int) < ((j + 1 : Nat) : Int) := by omega
              go_wp2
              go_roundw
              case rel => exact ⟨k + 1, row.take j, by omega, by go_num, hcut, HU.out _ (by rw [hm]; rfl), by rw [List.length_take]; omega, hbr⟩
              case measure => simp [intOf]; omega
        · have hu' : (x.toList != [46, 46]) = true := by rw [toList_tx]; simpa using hup
          have hu2 : ¬ x.toList = [46, 46] := by rw [toList_tx]; exact hup
          have hu3 : (x.toList == [46, 46]) = false := by simpa using hu2
          have HU : Hid ((row ++ [x]).map tx = ((xs.map tx).take (k + 1)).foldl stp []) := by
            show _ = _
            rw [foldl_take HR.out.2, ← HR.out.1, stp_no _ _ hup]
          obtain ⟨g', cap', w', hrun, how', hbw⟩ := how.append x (by omega) hbr.size
          have HC : Hid (Ow w' w2.heap.size (.slice (some ⟨g', 0, none⟩) (row.length + 1) cap') (row ++ [x]) ∧ Below w2.heap.size w2 w' ∧ row.length ≤ k) := ⟨how', hbw w2 hbr, hrk⟩
          clear how' hbw hrk HR hup
          rcases how.cases with ⟨rfl, rfl⟩ | ⟨g, cap, rfl, hg1, hg2, hg3⟩
          · clear how hbr
            go_wp2_with (at_builtin; refine wp_hrun rfl _ _ 22 rfl hrun ?_; clear hrun)
            go_roundw
            case rel => exact ⟨k + 1, _, by omega, by go_num, HC.out.1, HU.out, by simp, HC.out.2.1⟩
            case measure => simp [intOf]; omega
          · clear how hbr hg1 hg2 hg3
            obtain ⟨m, hm⟩ : ∃ m, row.length = m := ⟨_, rfl⟩
            have HL : Hid (row.length = m) := hm
            rw [hm] at hrun HC ⊢
            clear hm
            go_wp2_with (at_builtin; refine wp_hrun rfl _ _ 22 rfl hrun ?_; clear hrun)
            go_roundw
            case rel => exact ⟨k + 1, _, by omega, by go_num, HC.out.1, HU.out, by have := HC.out.2.2; have := HL.out; simp; omega, HC.out.2.1⟩
            case measure => simp [intOf]; omega
      · have hlt' : ¬ (k : Int) < (n : Int) := by omega
        have ek : k = n := by omega
        subst ek
        rw [List.take_of_length_le (by rw [List.length_map, HX.out.2.1]; omega), HX.out.1] at hrow
        obtain ⟨a6, c6, rfl, hs6, hl6⟩ := how.strs
        have CJ := rjoin_any wr a6 row.length c6 row hs6 rfl (by omega) (small_row hrow (cl_fine HP.out.2.1))
        rw [hrow] at CJ
        go_wp2_with (go_at_call 24; refine CJ.mono ?_; rintro e w3 ⟨⟨t, rfl, ht⟩, hb3⟩)
        go_ret2
        refine ⟨⟨t, ?_, ?_⟩, (HX.out.2.2.trans (hbr.mono HX.out.2.2.size)).trans (hb3.mono (Nat.le_trans HX.out.2.2.size hbr.size))⟩
        · have : jE (List.foldl stp [] (cps (tx s))) = 0 := (jE_iff _).2 (cl_fine HP.out.2.1)
          rw [cE, HP.out.1, ← this]; rfl
        · rw [cS, if_pos HP.out.1]; exact ht
  · obtain ⟨n, hn⟩ : ∃ n, pE (tx s) = n := ⟨_, rfl⟩
    have hn0 : ¬ n = 0 := by rw [← hn]; exact hp
    have CC : Hid (∀ wx, Calls Try.prog 19 #[.string s] wx fun e w' => (∃ a c, e = .returned (.tuple #[.slice a 0 c, .int .i64 n])) ∧ Below wx.heap.size wx w') := fun wx => rparse_bad wx s hs n hn hn0
    have HP : Hid (pE (tx s) = n ∧ n ≠ 0) := ⟨hn, hn0⟩
    clear hn hp
    go_enter Try.func22, Try.ntmps22
    go_wp2_with (go_at_call 19; refine (CC.out _).mono ?_; rintro e w' ⟨⟨a, c, rfl⟩, hb⟩)
    go_ret2
    exact ⟨⟨_, by rw [cE, HP.out.1]; rfl, by rw [cS, HP.out.1, if_neg HP.out.2]; rfl⟩, hb⟩
end Go.Proofs.Ytkmadcjbeiigmaa
