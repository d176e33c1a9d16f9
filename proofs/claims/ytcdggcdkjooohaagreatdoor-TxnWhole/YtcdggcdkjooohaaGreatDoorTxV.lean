import Derived.Test.YtcdggcdkjooohaaGreatDoorKTxU
namespace Go.Proofs.YtcdggcdkjooohaaGreatDoor
open Go.RowKit Go.Maps Rec

theorem wrap_sm {x : Int} {k : Nat} (h : x = (k : Int)) (hk : k ≤ 1000000000) : IntKind.i64.wrap x = (k : Int) := by
  rw [h]; simp [IntKind.wrap, IntKind.bits, IntKind.signed]; omega
set_option maxRecDepth 100000 in
set_option maxHeartbeats 32000000 in
theorem whole_any (w : World) (a ka la : Option Addr) (n c kn kc ln lc : Nat) (P : List (Int × Int)) (keep left : List Bool) (x1 x3 : Int) (hP : PtsAt w a P) (hl : P.length = n) (hK : Bo w ka kn kc keep) (hL : Bo w la ln lc left) (hT : TabAt w) :
    Calls Tryz.prog 4 #[.slice a n c, .int .i64 x1, .slice ka kn kc, .int .i64 x3, .slice la ln lc] w fun e w' => e = .returned (.bool true) ∧ Below w.heap.size w w' := by
  have HF : Hid (Calls Tryz.prog 7 #[.int .i64 118] w fun e w' => ∃ D d0, e = .returned (.pointer (some ⟨d0, 0, none⟩)) ∧ D.d = d0 ∧ Mine w w' D ∧ Fresh D.abs 118 (fr6 118)) := by
    refine (fresh6 w 118 (by omega) (by omega)).mono ?_
    rintro e w' ⟨D, rfl, h1, h2⟩
    exact ⟨D, _, rfl, rfl, h1, h2⟩
  have HTb : Hid (∀ wx, Below w.heap.size w wx → TabAt wx) := fun wx hb => hT.on hb
  have HP : Hid (PtsAt w a P ∧ P.length = n ∧ Bo w ka kn kc keep ∧ Bo w la ln lc left) := ⟨hP, hl, hK, hL⟩
  have hptr := ptr_nil
  have hptT := ptr_nilT
  clear hT hP hl hK hL
  go_enter Tryz.func4, Tryz.ntmps4
  go_upto_region 5 with (first
    | (go_at_call 7; refine HF.out.mono ?_; rintro e w1 ⟨D, d0, rfl, hd0, hm, hf⟩; have H1 : Hid (Mine w w1 D ∧ Fresh D.abs 118 (fr6 118) ∧ D.d = d0) := ⟨hm, hf, hd0⟩; clear hm hf hd0)
    | (go_at_call 8; refine (known_any w1 (HTb.out _ H1.out.1.bel)).mono ?_; rintro e w2 ⟨rfl, hb⟩; have H2 : Hid (Mine w w2 D) := H1.out.1.on hb; clear hb)
    | (go_at_call 9; refine (begin_ses w w2 D H2.out d0 H1.out.2.2).mono ?_; rintro e w3 ⟨T, rfl, hs, hc, hu, hb⟩; have H3 : Hid (Ses w w3 D T ∧ T.c = (fun _ => none) ∧ T.us = []) := ⟨hs, hc, hu⟩; clear hs hc hu hb))
  clear HF H2
  obtain ⟨t0, ht0⟩ : ∃ t0, T.t = t0 := ⟨_, rfl⟩
  have HFl : Hid (Calls Tryz.prog 10 #[.pointer (some ⟨t0, 0, none⟩), .slice a n c] w3 fun e w' => ∃ T1 now is, e = .returned (.tuple #[.agg (rowU now), .agg (rowB is), .bool true]) ∧ Ses w w' D T1 ∧ Cnt (fun _ => none) T1.c now is ∧ T1.t = t0) := by
    have hn : T.nb = 118 := by rw [← H3.out.1.nb]; exact H1.out.2.1.size
    have := fill_any w w3 D T H3.out.1 hn a n c P HP.out.1 HP.out.2.1 (by rw [H3.out.2.2]; simp)
    rw [ht0, H3.out.2.1] at this
    refine this.mono ?_
    rintro e w' ⟨T1, now, is, rfl, s1, s2, _, s4⟩
    exact ⟨T1, now, is, rfl, s1, s4, by rw [s2.t]; exact ht0⟩
  rw [ht0]
  clear ht0 H3
  go_upto_region 8 with (first
    | (go_at_call 10; refine HFl.out.mono ?_; rintro e w4 ⟨T1, now, is, rfl, hs, hc, ht⟩; have H4 : Hid (Ses w w4 D T1 ∧ Cnt (fun _ => none) T1.c now is ∧ T1.t = t0) := ⟨hs, hc, ht⟩; clear hs hc ht)
    | (have hh := H4.out; clear hh; refine wp_storeU rfl (.tmp 13) (.tmp 47) rfl w4.heap.size now rfl rfl (there_u w4) ?_; intro w4a h4a f4a; have H4a : Hid (w4a.rangeAt w4.heap.size 0 (rowU now).toList ∧ Fr (fun k => k = w4.heap.size) ((w4.alloc (.cells Tryz.zeroCells28 28)).alloc (.cells Tryz.zeroCells29 29)) w4a) := ⟨h4a, f4a⟩; clear h4a f4a)
    | (have hh := H4a.out; clear hh; refine wp_storeB rfl (.tmp 14) (.tmp 48) rfl (w4.heap.size + 1) is rfl rfl (there_b H4a.out.2) ?_; intro w5 h5 f5; have H5 : Hid (Pre6 w w5 D T1 w4.heap.size (w4.heap.size + 1) now is) := pre6_of H4.out.1 H4.out.2.1 H4a.out.1 H4a.out.2 h5 f5; clear h5 f5))
  have HT1 : Hid (T1.t = t0) := H4.out.2.2
  clear HFl H4a H4
  obtain ⟨A, hA⟩ : ∃ A, w4.heap.size = A := ⟨_, rfl⟩
  rw [hA] at H5
  obtain ⟨B, hB⟩ : ∃ B, A + 1 = B := ⟨_, rfl⟩
  rw [hB] at H5
  rw [hA, hB]
  clear hA hB
  have HFr : Hid (Fresh D.abs 118 (fr6 118) ∧ D.d = d0 ∧ T1.nb = 118) := ⟨H1.out.2.1, H1.out.2.2, by rw [← H5.out.ses.nb]; exact H1.out.2.1.size⟩
  clear H1
  obtain ⟨m, hm⟩ : ∃ m, (lst T1.c 118).length = m := ⟨_, rfl⟩
  have HM : Hid ((lst T1.c 118).length = m) := hm
  have hm20 : m ≤ 20 := by rw [← hm]; exact lst_few (by have := H5.out.ses.tx.ok; rw [HFr.out.2.2] at this; exact this)
  clear hm
  have HWt : Hid (Calls Tryz.prog 15 #[.pointer (some ⟨t0, 0, none⟩)] w5 fun e w' => ∃ va vc, e = .returned (.slice va m vc) ∧ Below w5.heap.size w5 w') := by
    have := written_any w5 T1 H5.out.ses.tx
    rw [HT1.out, HFr.out.2.2] at this
    refine this.mono ?_
    rintro e w' ⟨v, rfl, hr, _, hb⟩
    obtain ⟨va, vc, rfl, _⟩ := ints_of hr (by simp)
    refine ⟨va, vc, ?_, hb⟩
    rw [List.length_map, HM.out]
  go_upto_region 11 with (go_at_call 15; refine HWt.out.mono ?_; rintro e w6 ⟨va, vc, rfl, hb⟩; have H6 : Hid (Pre6 w w6 D T1 A B now is) := H5.out.on hb; clear hb)
  clear HWt H5
  obtain ⟨t, ht⟩ : ∃ t : Nat, x1 % (2 * (m : Int) + 8) = (t : Int) := ⟨(x1 % (2 * (m : Int) + 8)).toNat, by have := Int.emod_nonneg x1 (show 2 * (m : Int) + 8 ≠ 0 by omega); omega⟩
  have htm : t < 2 * m + 8 := by have := Int.emod_lt_of_pos x1 (show 0 < 2 * (m : Int) + 8 by omega); omega
  have HMo : Hid (∀ wx, Calls Tryz.prog 21 #[.int .i64 x1, .int .i64 (2 * (m : Int) + 8)] wx fun e w' => e = .returned (.int .i64 (t : Int)) ∧ wx = w') := fun wx => by
    have := mod_any wx x1 (2 * m + 8) (by omega) (by omega)
    rw [show ((2 * m + 8 : Nat) : Int) = 2 * (m : Int) + 8 by omega, ht] at this
    exact this
  clear ht
  have q0 : wrap64 (2 * (m : Int)) = 2 * (m : Int) := by rw [wrap64]; omega
  have q1 : wrap64 (2 * (m : Int) + 8) = 2 * (m : Int) + 8 := by rw [wrap64]; omega
  have q2 : wrap64 (2 * (m : Int) + 6) = 2 * (m : Int) + 6 := by rw [wrap64]; omega
  have HAr : Hid (Calls Tryz.prog 22 #[.pointer (some ⟨d0, 0, none⟩), .agg #[.int .i64 (t : Int), .slice ka kn kc]] w6 fun e w' => e = .returned (.int .i64 0) ∧ ∃ X, Pre6 w w' X T1 A B now is ∧ X.abs = D.abs.arm t keep ∧ X.d = d0) := by
    have hk := HP.out.2.2.1.on H6.out.ses.bel
    have := arm_yes w6 D H6.out.ses.dk.disk t ka kc keep (by rw [hk.len]; exact hk.bools) hk.nil (by have := hk.top; have := hk.len; omega) (by omega) HFr.out.1.down
    rw [HFr.out.2.1, hk.len] at this
    refine this.mono ?_
    rintro e w' ⟨rfl, X, h1, h2, h3, h4⟩
    exact ⟨rfl, X, H6.out.arm h1 h2 h3, h4, h2.d.trans HFr.out.2.1⟩
  go_upto_region 12 with (go_at_call 21; refine (HMo.out _).mono ?_; rintro e w' ⟨rfl, rfl⟩)
  clear HMo
  go_upto_region 14 with (go_at_call 22; refine HAr.out.mono ?_; rintro e w7 ⟨rfl, X, hx, hab, hd⟩; have H7 : Hid (Pre6 w w7 X T1 A B now is ∧ X.abs = D.abs.arm t keep ∧ X.d = d0) := ⟨hx, hab, hd⟩; clear hx hab hd)
  clear HAr
  obtain ⟨fb, hfb⟩ : ∃ fb, fallsB m (t : Int) = fb := ⟨_, rfl⟩
  obtain ⟨bk, hbk⟩ : ∃ bk, backB m (t : Int) keep = bk := ⟨_, rfl⟩
  obtain ⟨W, hW⟩ : ∃ W, wantA m (t : Int) keep (fr6 118) (overC T1.c (fr6 118) 118) = W := ⟨_, rfl⟩
  obtain ⟨er, her⟩ : ∃ er : Int, (if fb then (30 : Int) else 0) = er := ⟨_, rfl⟩
  have HWn : Hid (Wn W now is bk fb) := by rw [← hfb, ← hbk, ← hW]; exact wn_of H6.out HFr.out.2.2 m t keep
  have HEr : Hid ((fb = false ∧ er = 0) ∨ (fb = true ∧ er = 30)) := by
    cases fb with
    | true => exact .inr ⟨rfl, her.symm⟩
    | false => exact .inl ⟨rfl, her.symm⟩
  have HFb : Hid (fb = true ↔ (0 < m ∧ 1 ≤ t ∧ t ≤ 2 * m + 6)) := by
    rw [← hfb]
    unfold fallsB
    simp only [Bool.and_eq_true, decide_eq_true_eq]
    show _ ↔ _
    omega
  have HCm : Hid (Calls Tryz.prog 18 #[.pointer (some ⟨t0, 0, none⟩)] w7 fun e w' => e = .returned (.int .i64 er) ∧ ∃ E, Af w w' E t0 d0 A B now is fb W) := by
    have hk := HP.out.2.2.1
    have hF := HFr.out.1
    have hR := hF.rest (by rw [bck_fr6 _ _ (by omega)]; rfl)
    have := whole_commit w w7 D.abs X T1 118 (fr6 118) t keep m HM.out H7.out.1.ses H7.out.2.1 hR (HTb.out _ H7.out.1.ses.bel) (by omega) (by rw [hF.wr]; omega) (by rw [hF.fl]; omega) (by rw [hF.tape]; simp) (by have := hk.top; have := hk.len; omega)
    rw [HT1.out, hfb, hW, her] at this
    refine this.mono ?_
    rintro e w' ⟨rfl, E, h1, h2, h3, h4, h5, h6, h7⟩
    have p := H7.out.1
    refine ⟨rfl, E, h1, h2.trans H7.out.2.2, h3, h4, h5, h6, p.rw.fr h7 (fun e => ?_) (fun e => ?_)⟩
    · exact e.elim (fun e => p.nA.2.1 (.inl e)) (fun e => p.nA.1 (.inl (.inl (e.trans HT1.out.symm))))
    · exact e.elim (fun e => p.nB.2.1 (.inl e)) (fun e => p.nB.1 (.inl (.inl (e.trans HT1.out.symm))))
  clear hfb hbk hW her
  go_upto_region 15 with (go_at_call 18; refine HCm.out.mono ?_; rintro e w8 ⟨rfl, E, hE⟩; have H8 : Hid (Af w w8 E t0 d0 A B now is fb W) := hE; clear hE)
  have HCt : Hid (Cnt (fun _ => none) T1.c now is) := H6.out.cnt
  clear HCm H7 H6 HM
  obtain ⟨dn, hdn⟩ : ∃ dn : Bool, (!fb) = dn := ⟨_, rfl⟩
  have HDn : Hid ((!fb) = dn) := hdn
  clear hdn
  have HDw : Hid (Calls Tryz.prog 23 #[.pointer (some ⟨d0, 0, none⟩)] w8 fun e w' => e = .returned (.bool fb) ∧ w8 = w') := by
    have := down_any w8 E H8.out.dk.disk
    rw [H8.out.d, H8.out.down] at this
    exact this
  have HOv : Hid (Calls Tryz.prog 24 #[.pointer (some ⟨t0, 0, none⟩)] w8 fun e w' => e = .returned (.bool true) ∧ w8 = w') := over_yes w8 t0 H8.out.over
  go_cut [18] (fun s wx => s = .bool dn ∧ w8 = wx)
  case first => as_aux_lemma =>
    rcases HEr.out with ⟨e1, e2⟩ | ⟨e1, e2⟩
    · have e3 := HDn.out
      subst e1 e2
      subst e3
      go_wp2
      go_meet
      case rel => exact ⟨rfl, rfl⟩
    · have e3 := HDn.out
      subst e1 e2
      subst e3
      go_wp2
      go_meet
      case rel => exact ⟨rfl, rfl⟩
  case rest =>
  obtain ⟨rfl, rfl⟩ := hcut
  go_upto_region 16 with fail
  go_cut [80] (fun s wx => s = .bool false ∧ w8 = wx)
  case first => as_aux_lemma =>
    rcases HEr.out with ⟨e1, e2⟩ | ⟨e1, e2⟩
    · have e3 := HDn.out
      subst e1 e2
      subst e3
      go_wp2
      go_meet
      case rel => exact ⟨rfl, rfl⟩
    · have e3 := HDn.out
      subst e1 e2
      subst e3
      go_wp2_with (go_at_call 23; refine HDw.out.mono ?_; rintro e w' ⟨rfl, rfl⟩)
      go_meet
      case rel => exact ⟨rfl, rfl⟩
  case rest =>
  obtain ⟨rfl, rfl⟩ := hcut
  clear HDw HEr
  obtain ⟨st, hst⟩ : ∃ st : Nat, (if m = 0 then 0 else 2 * m + 6) = st := ⟨_, rfl⟩
  have HSt : Hid ((if m = 0 then 0 else 2 * m + 6) = st) := hst
  clear hst
  go_upto_if 85 with fail
  go_cut [19] (fun s wx => s = .int .i64 (st : Int) ∧ w8 = wx)
  case first => as_aux_lemma =>
    by_cases hm0 : m = 0
    · have e := HSt.out
      rw [if_pos hm0] at e
      subst e hm0
      go_wp2
      go_meet
      case rel => exact ⟨rfl, rfl⟩
    · have e := HSt.out
      rw [if_neg hm0] at e
      have hmz : ((m : Int) == 0) = false := by simp; omega
      have hm1 : 0 < m := by omega
      subst e
      go_wp2
      go_meet
      case rel => exact ⟨by first | rfl | (congr 1; omega), rfl⟩
  case rest =>
  obtain ⟨rfl, rfl⟩ := hcut
  go_upto_region 21 with fail
  go_cut [99] (fun s wx => s = .bool false ∧ w8 = wx)
  case first => as_aux_lemma =>
    have e3 := HDn.out
    have e4 := HFb.out
    have e5 := HSt.out
    cases fb with
    | true =>
      obtain ⟨f1, f2, f3⟩ := e4.1 rfl
      rw [if_neg (by omega)] at e5
      subst e3
      have g1 : ((t : Int) == 0) = false := by simp; omega
      have g2 : 0 < t := by omega
      have g3 : t ≤ st := by omega
      clear e4 e5
      go_wp2_with (go_at_call 24; refine HOv.out.mono ?_; rintro e w' ⟨rfl, rfl⟩)
      go_meet
      case rel => exact ⟨by first | (simp; done) | (simp; omega), rfl⟩
    | false =>
      have f0 : t = 0 ∨ (0 < t ∧ st < t) := by
        rcases Nat.eq_zero_or_pos t with e | e
        · exact .inl e
        · refine .inr ⟨e, ?_⟩
          rw [← e5]
          by_cases hm0 : m = 0
          · rw [if_pos hm0]; exact e
          · rw [if_neg hm0]
            by_cases h6 : t ≤ 2 * m + 6
            · have := e4.2 ⟨by omega, e, h6⟩
              cases this
            · omega
      subst e3
      clear e4 e5
      rcases f0 with f0 | ⟨f0, f1⟩
      · subst f0
        go_wp2_with (go_at_call 24; refine HOv.out.mono ?_; rintro e w' ⟨rfl, rfl⟩)
        go_meet
        case rel => exact ⟨by first | (simp; done) | (simp; omega), rfl⟩
      · have g1 : ((t : Int) == 0) = false := by simp; omega
        go_wp2_with (go_at_call 24; refine HOv.out.mono ?_; rintro e w' ⟨rfl, rfl⟩)
        go_meet
        case rel => exact ⟨by first | (simp; done) | (simp; omega), rfl⟩
  case rest =>
  obtain ⟨rfl, rfl⟩ := hcut
  clear HOv HSt q0 q1 q2
  have HIm : Hid (Calls Tryz.prog 25 #[.pointer (some ⟨d0, 0, none⟩)] w8 fun e w' => ∃ g cap, e = .returned (.slice (some ⟨g, 0, none⟩) 60416 cap) ∧ OwnB w' g cap E.las ∧ Below w8.heap.size w8 w') := by
    have := image_any w8 E H8.out.dk.disk
    rw [H8.out.d, H8.out.nb] at this
    refine this.mono ?_
    rintro e w' ⟨g, cap, rfl, hg, ho, hb⟩
    exact ⟨g, cap, rfl, ho, hb⟩
  go_upto_region 24 with (go_at_call 25; refine HIm.out.mono ?_; rintro e w9 ⟨g9, c9, rfl, ho, hb⟩; have H9 : Hid (OwnB w9 g9 c9 E.las ∧ Rw w9 A B now is ∧ Below w.heap.size w w9) := ⟨ho, H8.out.rw.on hb, H8.out.dk.bel.trans (hb.mono H8.out.dk.bel.size)⟩; clear ho hb)
  clear HIm
  have HOp : Hid (Calls Tryz.prog 26 #[.slice (some ⟨g9, 0, none⟩) 60416 c9] w9 fun e w' => ∃ Y y0, e = .returned (.tuple #[.pointer (some ⟨y0, 0, none⟩), .int .i64 0]) ∧ Y.d = y0 ∧ Dr w w' Y A B now is ∧ Fresh Y.abs 118 E.las) := by
    refine (open_fresh w9 ⟨g9, 0, none⟩ c9 118 E.las H9.out.1.bytes (by have := H8.out.dk.disk.lasl; rw [H8.out.nb] at this; exact this) (by omega) (by omega)).mono ?_
    rintro e w' ⟨Y, rfl, h1, h2⟩
    exact ⟨Y, _, rfl, rfl, dr_new H9.out.2.2 H9.out.2.1 h1, h2⟩
  go_upto_region 27 with (go_at_call 26; refine HOp.out.mono ?_; rintro e w10 ⟨Y, y0, rfl, hy, hd, hf⟩; have H10 : Hid (Dr w w10 Y A B now is ∧ Fresh Y.abs 118 E.las ∧ Y.d = y0) := ⟨hd, hf, hy⟩; clear hy hd hf)
  clear HOp H9
  obtain ⟨t2, ht2⟩ : ∃ t : Nat, x3 % ((m : Int) + 4) = (t : Int) := ⟨(x3 % ((m : Int) + 4)).toNat, by have := Int.emod_nonneg x3 (show (m : Int) + 4 ≠ 0 by omega); omega⟩
  have ht2m : t2 < m + 4 := by have := Int.emod_lt_of_pos x3 (show 0 < (m : Int) + 4 by omega); omega
  have HMo : Hid (∀ wx, Calls Tryz.prog 21 #[.int .i64 x3, .int .i64 ((m : Int) + 4)] wx fun e w' => e = .returned (.int .i64 (t2 : Int)) ∧ wx = w') := fun wx => by
    have := mod_any wx x3 (m + 4) (by omega) (by omega)
    rw [show ((m + 4 : Nat) : Int) = (m : Int) + 4 by omega, ht2] at this
    exact this
  clear ht2
  have q3 : wrap64 ((m : Int) + 4) = (m : Int) + 4 := by rw [wrap64]; omega
  have HAr : Hid (Calls Tryz.prog 22 #[.pointer (some ⟨y0, 0, none⟩), .agg #[.int .i64 (t2 : Int), .slice la ln lc]] w10 fun e w' => e = .returned (.int .i64 0) ∧ ∃ Z, Dr w w' Z A B now is ∧ Z.abs = Y.abs.arm t2 left ∧ Z.d = y0) := by
    have hk := HP.out.2.2.2.on H10.out.1.dk.bel
    have := arm_yes w10 Y H10.out.1.dk.disk t2 la lc left (by rw [hk.len]; exact hk.bools) hk.nil (by have := hk.top; have := hk.len; omega) (by omega) H10.out.2.1.down
    rw [H10.out.2.2, hk.len] at this
    refine this.mono ?_
    rintro e w' ⟨rfl, Z, h1, h2, h3, h4⟩
    exact ⟨rfl, Z, H10.out.1.mv (H10.out.1.dk.step h1 h2 h3) h2, h4, h2.d.trans H10.out.2.2⟩
  go_upto_region 29 with (first
    | (go_at_call 21; refine (HMo.out _).mono ?_; rintro e w' ⟨rfl, rfl⟩)
    | (go_at_call 22; refine HAr.out.mono ?_; rintro e w11 ⟨rfl, Z, hx, hab, hd⟩; have H11 : Hid (Dr w w11 Z A B now is ∧ Z.abs = Y.abs.arm t2 left ∧ Z.d = y0) := ⟨hx, hab, hd⟩; clear hx hab hd))
  clear HMo HAr q3
  have HRc : Hid (Calls Tryz.prog 27 #[.pointer (some ⟨y0, 0, none⟩)] w11 fun e w' => ∃ k r : Int, e = .returned (.tuple #[.int .i64 k, .int .i64 r]) ∧ ∃ E2, Dr w w' E2 A B now is ∧ E2.d = y0 ∧ E2.nb = 118 ∧ Well 118 W E2.las ∧ ((r = 0 ∧ E2.down = false) ∨ (r = 30 ∧ E2.down = true))) := by
    obtain ⟨d1, d2, d3⟩ := H11.out
    have hF := H10.out.2.1
    have hk := HP.out.2.2.2
    have hlas : Z.las = E.las := (show Z.abs.las = E.las from by rw [d2]; exact hF.las)
    have := recover_armed 118 (by omega) w w11 Z W d1.dk (by rw [hlas]; exact H8.out.well) (show Z.abs.nb = 118 from by rw [d2]; exact hF.size) (by rw [d2]; exact hF.pen) (show Z.abs.down = false from by rw [d2]; exact hF.down) (by rw [d2]; show Y.abs.wr ≤ _; rw [hF.wr]; omega) (by rw [d2]; show Y.abs.fl ≤ _; rw [hF.fl]; omega) (by rw [d2]; show Y.abs.T.length ≤ _; rw [hF.tape]; simp) (by rw [d2]; show left.length ≤ _; have := hk.top; have := hk.len; omega) (HTb.out _ d1.dk.bel)
    rw [d3] at this
    refine this.mono ?_
    rintro e w' ⟨k, r, rfl, E2, h1, h2, h3, h4, h5⟩
    exact ⟨k, r, rfl, E2, d1.mv h1 h3, h2, h3.nb.trans (show Z.abs.nb = 118 from by rw [d2]; exact hF.size), h4, h5⟩
  go_upto_region 30 with (go_at_call 27; refine HRc.out.mono ?_; rintro e w12 ⟨kk, rr, rfl, E2, h1, h2, h3, h4, h5⟩; have H12 : Hid (Dr w w12 E2 A B now is ∧ E2.d = y0 ∧ E2.nb = 118 ∧ Well 118 W E2.las) := ⟨h1, h2, h3, h4⟩; have HRr : Hid ((rr = 0 ∧ E2.down = false) ∨ (rr = 30 ∧ E2.down = true)) := h5; clear h1 h2 h3 h4 h5)
  clear HRc H11 H10 H8
  go_cut [137] (fun s wx => s = .bool false ∧ w12 = wx)
  case first => as_aux_lemma =>
    rcases HRr.out with ⟨e1, e2⟩ | ⟨e1, e2⟩
    · subst e1
      go_wp2
      go_meet
      case rel => exact ⟨rfl, rfl⟩
    · have HDw : Hid (Calls Tryz.prog 23 #[.pointer (some ⟨y0, 0, none⟩)] w12 fun e w' => e = .returned (.bool true) ∧ w12 = w') := by
        have := down_any w12 E2 H12.out.1.dk.disk
        rw [H12.out.2.1, e2] at this
        exact this
      clear e2
      subst e1
      go_wp2_with (go_at_call 23; refine HDw.out.mono ?_; rintro e w' ⟨rfl, rfl⟩)
      go_meet
      case rel => exact ⟨rfl, rfl⟩
  case rest =>
  obtain ⟨rfl, rfl⟩ := hcut
  clear HRr
  have HIm : Hid (Calls Tryz.prog 25 #[.pointer (some ⟨y0, 0, none⟩)] w12 fun e w' => ∃ g cap, e = .returned (.slice (some ⟨g, 0, none⟩) 60416 cap) ∧ OwnB w' g cap E2.las ∧ Below w12.heap.size w12 w') := by
    have := image_any w12 E2 H12.out.1.dk.disk
    rw [H12.out.2.1, H12.out.2.2.1] at this
    refine this.mono ?_
    rintro e w' ⟨g, cap, rfl, hg, ho, hb⟩
    exact ⟨g, cap, rfl, ho, hb⟩
  have HOp : Hid (∀ wx g cap, Below w12.heap.size w12 wx → OwnB wx g cap E2.las → Calls Tryz.prog 26 #[.slice (some ⟨g, 0, none⟩) 60416 cap] wx fun e w' => ∃ Q q0, e = .returned (.tuple #[.pointer (some ⟨q0, 0, none⟩), .int .i64 0]) ∧ Q.d = q0 ∧ Dr w w' Q A B now is ∧ Fresh Q.abs 118 E2.las) := fun wx g cap hb ho => by
    have dx := H12.out.1.on hb
    refine (open_fresh wx ⟨g, 0, none⟩ cap 118 E2.las ho.bytes (by have := H12.out.1.dk.disk.lasl; rw [H12.out.2.2.1] at this; exact this) (by omega) (by omega)).mono ?_
    rintro e w' ⟨Q, rfl, h1, h2⟩
    exact ⟨Q, _, rfl, rfl, dr_new dx.dk.bel dx.rw h1, h2⟩
  go_upto_region 33 with (first
    | (go_at_call 25; refine HIm.out.mono ?_; rintro e w13 ⟨g13, c13, rfl, ho, hb⟩; have H13 : Hid (OwnB w13 g13 c13 E2.las ∧ Below w12.heap.size w12 w13) := ⟨ho, hb⟩; clear ho hb)
    | (go_at_call 26; refine (HOp.out _ _ _ H13.out.2 H13.out.1).mono ?_; rintro e w14 ⟨Q, q0, rfl, hy, hd, hf⟩; have H14 : Hid (Dr w w14 Q A B now is ∧ Fresh Q.abs 118 E2.las ∧ Q.d = q0) := ⟨hd, hf, hy⟩; clear hy hd hf))
  clear HIm HOp H13
  have HRe : Hid (Calls Tryz.prog 27 #[.pointer (some ⟨q0, 0, none⟩)] w14 fun e w' => ∃ k : Int, e = .returned (.tuple #[.int .i64 k, .int .i64 0]) ∧ ∃ E3, Dr w w' E3 A B now is ∧ E3.d = q0 ∧ Rest E3.abs 118 E3.las ∧ Like 118 E3.las W) := by
    obtain ⟨d1, d2, d3⟩ := H14.out
    have := recover_ends 118 (by omega) w w14 Q W E2.las d1.dk d2 H12.out.2.2.2 (HTb.out _ d1.dk.bel)
    rw [d3] at this
    refine this.mono ?_
    rintro e w' ⟨k, rfl, E3, h1, h2, h3⟩
    exact ⟨k, rfl, E3, d1.mv h1.mine h3, h2, h1.rest, h1.like⟩
  go_upto_region 36 with (go_at_call 27; refine HRe.out.mono ?_; rintro e w15 ⟨kk2, rfl, E3, h1, h2, h3, h4⟩; have H15 : Hid (Dr w w15 E3 A B now is ∧ E3.d = q0 ∧ Rest E3.abs 118 E3.las ∧ Like 118 E3.las W) := ⟨h1, h2, h3, h4⟩; clear h1 h2 h3 h4)
  clear HRe H14 H12
  have HIm : Hid (Calls Tryz.prog 25 #[.pointer (some ⟨q0, 0, none⟩)] w15 fun e w' => ∃ g cap, e = .returned (.slice (some ⟨g, 0, none⟩) 60416 cap) ∧ OwnB w' g cap E3.las ∧ Below w15.heap.size w15 w') := by
    have hn : E3.nb = 118 := H15.out.2.2.1.size
    have := image_any w15 E3 H15.out.1.dk.disk
    rw [H15.out.2.1, hn] at this
    refine this.mono ?_
    rintro e w' ⟨g, cap, rfl, hg, ho, hb⟩
    exact ⟨g, cap, rfl, ho, hb⟩
  go_upto_region 39 with (go_at_call 25; refine HIm.out.mono ?_; rintro e w17 ⟨gl, cl, rfl, ho, hb⟩; have H17 : Hid (OwnB w17 gl cl E3.las ∧ Rw w17 A B now is ∧ Below w.heap.size w w17) := ⟨ho, H15.out.1.rw.on hb, H15.out.1.dk.bel.trans (hb.mono H15.out.1.dk.bel.size)⟩; clear ho hb)
  clear HIm
  obtain ⟨L, hL⟩ : ∃ L, E3.las = L := ⟨_, rfl⟩
  have HL : Hid (L.length = 60416 ∧ bck L 0 = one 0 ∧ bck L 1 = one 0 ∧ ∀ i, 98 ≤ i → i < 118 → bck L i = bck W i) := by
    rw [← hL]
    have hr := H15.out.2.2.1
    have hk := H15.out.2.2.2
    refine ⟨hr.len, ?_, hr.log, fun i h0 h1 => hk i h1 (.inr h0)⟩
    rw [hk 0 (by omega) (.inl (by omega))]
    exact HWn.out.zero
  have HO : Hid (OwnB w17 gl cl L ∧ Rw w17 A B now is ∧ Below w.heap.size w w17) := by rw [← hL]; exact H17.out
  clear hL H17 H15
  have hcl : 60416 ≤ cl := by have := HO.out.1.room; rw [HL.out.1] at this; exact this
  have hcl2 : cl ≤ 9223372036854775807 := HO.out.1.top
  have HSub : Hid (∀ wx, Below w17.heap.size w17 wx → ∀ (i : Nat), i < 118 → Bytes wx (some ⟨gl, 512 * i, none⟩) (bck L i)) := fun wx hb i hi => by
    have := (bytes_drop (HO.out.1.bytes.on hb) (512 * i)).take 512
    rw [Nat.zero_add] at this
    exact this
  have HC0 : Hid (∀ wx, Below w17.heap.size w17 wx → ∀ c, (convert 40 9 (.slice (some ⟨gl, 0, none⟩) 512 c)).run Tryz.prog wx = .ok (.string (strOfNums (one 0))) wx) := fun wx hb c => by
    have := HSub.out wx hb 0 (by omega)
    rw [HL.out.2.1] at this
    exact str_opt this (one_length _)
  have HC1 : Hid (∀ wx, Below w17.heap.size w17 wx → ∀ c, (convert 40 9 (.slice (some ⟨gl, 512, none⟩) 512 c)).run Tryz.prog wx = .ok (.string (strOfNums (one 0))) wx) := fun wx hb c => by
    have := HSub.out wx hb 1 (by omega)
    rw [HL.out.2.2.1] at this
    exact str_opt this (one_length _)
  have HD : Hid (Below w17.heap.size w17 w17.drew) := (Below.refl _ w17).drew
  have e0 := HC0.out _ HD.out
  have z1 : (512 : Int) ≤ (cl : Int) := by omega
  have z2 : (1024 : Int) ≤ (cl : Int) := by omega
  have z3 : ¬ cl = 512 := by omega
  have z4 : ¬ cl = 0 := by omega
  go_cut [177] (fun s wx => s = .bool false ∧ Below w17.heap.size w17 wx)
  case first => as_aux_lemma =>
    refine wp_region_any (by as_aux_lemma => kernel_rfl) ?_
    try (change wpAny _ _ _ _ _ _ _ (World.drew _))
    refine wpAny_take (i := 0) (v := ?_) rfl (by as_aux_lemma => kernel_rfl) (by as_aux_lemma => kernel_rfl) (by as_aux_lemma => kernel_rfl) (fun _ _ _ h => h) (Or.inl ⟨by as_aux_lemma => kernel_rfl, ?_⟩) ?_
    rotate_left
    focus (intro w; go_simp; (try (with_reducible rfl)); done)
    go_simp
    refine wpAny_take (i := 1) (v := ?_) rfl (by as_aux_lemma => kernel_rfl) (by as_aux_lemma => kernel_rfl) (by as_aux_lemma => kernel_rfl) (fun _ _ _ h => h) (Or.inl ⟨by as_aux_lemma => kernel_rfl, ?_⟩) ?_
    rotate_left
    focus (intro w; go_simp; (try (with_reducible rfl)); done)
    go_simp
    refine wpAny_take (i := 2) (v := ?_) rfl (by as_aux_lemma => kernel_rfl) (by as_aux_lemma => kernel_rfl) (by as_aux_lemma => kernel_rfl) (fun _ _ _ h => h) (Or.inl ⟨by as_aux_lemma => kernel_rfl, ?_⟩) ?_
    rotate_left
    focus (intro w; go_simp; (try (with_reducible rfl)); done)
    go_simp
    refine wpAny_take (i := 3) (v := ?_) rfl (by as_aux_lemma => kernel_rfl) (by as_aux_lemma => kernel_rfl) (by as_aux_lemma => kernel_rfl) (fun _ _ _ h => h) (Or.inl ⟨by as_aux_lemma => kernel_rfl, ?_⟩) ?_
    rotate_left
    focus (intro w; go_simp; (try (with_reducible rfl)); done)
    go_simp
    refine wpAny_take (i := 4) (v := ?_) rfl (by as_aux_lemma => kernel_rfl) (by as_aux_lemma => kernel_rfl) (by as_aux_lemma => kernel_rfl) (fun _ _ _ h => h) (Or.inl ⟨by as_aux_lemma => kernel_rfl, ?_⟩) ?_
    rotate_left
    focus (intro w; go_simp; (try (with_reducible rfl)); done)
    go_simp
    refine wpAny_take (i := 5) (v := ?_) rfl (by as_aux_lemma => kernel_rfl) (by as_aux_lemma => kernel_rfl) (by as_aux_lemma => kernel_rfl) (fun _ _ _ h => h) (Or.inl ⟨by as_aux_lemma => kernel_rfl, ?_⟩) ?_
    rotate_left
    focus (intro w; go_simp; (try (with_reducible rfl)); done)
    go_simp
    refine wpAny_ready (rs := [6, 7]) (by as_aux_lemma => kernel_rfl) (by simp) ?_
    refine AllReady.cons rfl (fun K hK => ?_) ?_
    · go_simp
      try go_simp
      first
        | (refine hK _ _ ?_; clear hK K)
        | skip
      refine wpAny_ready (rs := [7]) (by as_aux_lemma => kernel_rfl) (by simp) ?_
      refine AllReady.cons rfl (fun K hK => ?_) ?_
      · (go_simp; go_at_call 17; refine (lblock_any _ 0 (by omega)).mono ?_; rintro e wA ⟨rfl, ho, hb⟩; have HA1 : Hid (Below w17.heap.size w17 wA) := HD.out.trans (hb.mono HD.out.size); have e1 := HC0.out _ HA1.out; have f1 := HC1.out _ HA1.out; have e2 : (convert 40 9 (.slice (some ⟨w17.heap.size, 0, none⟩) 512 512)).run Tryz.prog wA = .ok (.string (strOfNums (one 0))) wA := str_opt ho.bytes (one_length _); clear ho hb)
        try go_simp
        first
          | (refine hK _ _ ?_; clear hK K)
          | skip
        refine wpAny_ready (rs := [8]) (by as_aux_lemma => kernel_rfl) (by simp) ?_
        refine AllReady.cons rfl (fun K hK => ?_) ?_
        · go_simp
          try go_simp
          first
            | (refine hK _ _ ?_; clear hK K)
            | skip
          refine wpAny_take (i := 9) (v := ?_) rfl (by as_aux_lemma => kernel_rfl) (by as_aux_lemma => kernel_rfl) (by as_aux_lemma => kernel_rfl) (fun _ _ _ h => h) (Or.inl ⟨by as_aux_lemma => kernel_rfl, ?_⟩) ?_
          rotate_left
          focus (intro w; go_simp; (try (with_reducible rfl)); done)
          go_simp
          refine wpAny_take (i := 10) (v := ?_) rfl (by as_aux_lemma => kernel_rfl) (by as_aux_lemma => kernel_rfl) (by as_aux_lemma => kernel_rfl) (fun _ _ _ h => h) (Or.inl ⟨by as_aux_lemma => kernel_rfl, ?_⟩) ?_
          rotate_left
          focus (intro w; go_simp; (try (with_reducible rfl)); done)
          go_simp
          refine wpAny_take (i := 11) (v := ?_) rfl (by as_aux_lemma => kernel_rfl) (by as_aux_lemma => kernel_rfl) (by as_aux_lemma => kernel_rfl) (fun _ _ _ h => h) (Or.inl ⟨by as_aux_lemma => kernel_rfl, ?_⟩) ?_
          rotate_left
          focus (intro w; go_simp; (try (with_reducible rfl)); done)
          go_simp
          refine wpAny_take (i := 12) (v := ?_) rfl (by as_aux_lemma => kernel_rfl) (by as_aux_lemma => kernel_rfl) (by as_aux_lemma => kernel_rfl) (fun _ _ _ h => h) (Or.inl ⟨by as_aux_lemma => kernel_rfl, ?_⟩) ?_
          rotate_left
          focus (intro w; go_simp; (try (with_reducible rfl)); done)
          go_simp
          refine wpAny_take (i := 13) (v := ?_) rfl (by as_aux_lemma => kernel_rfl) (by as_aux_lemma => kernel_rfl) (by as_aux_lemma => kernel_rfl) (fun _ _ _ h => h) (Or.inl ⟨by as_aux_lemma => kernel_rfl, ?_⟩) ?_
          rotate_left
          focus (intro w; go_simp; (try (with_reducible rfl)); done)
          go_simp
          refine wpAny_ready (rs := [14, 15]) (by as_aux_lemma => kernel_rfl) (by simp) ?_
          refine AllReady.cons rfl (fun K hK => ?_) ?_
          · go_simp
            try go_simp
            first
              | (refine hK _ _ ?_; clear hK K)
              | skip
            refine wpAny_ready (rs := [15]) (by as_aux_lemma => kernel_rfl) (by simp) ?_
            refine AllReady.cons rfl (fun K hK => ?_) ?_
            · (go_simp; go_at_call 17; refine (lblock_any _ 0 (by omega)).mono ?_; rintro e wB ⟨rfl, ho, hb⟩; have HB1 : Hid (Below w17.heap.size w17 wB) := HA1.out.trans (hb.mono HA1.out.size); have f2 := HC1.out _ HB1.out; have f3 : (convert 40 9 (.slice (some ⟨wA.heap.size, 0, none⟩) 512 512)).run Tryz.prog wB = .ok (.string (strOfNums (one 0))) wB := str_opt ho.bytes (one_length _); clear ho hb)
              try go_simp
              first
                | (refine hK _ _ ?_; clear hK K)
                | skip
              refine wpAny_ready (rs := [16]) (by as_aux_lemma => kernel_rfl) (by simp) ?_
              refine AllReady.cons rfl (fun K hK => ?_) ?_
              · go_simp
                try go_simp
                first
                  | (refine hK _ _ ?_; clear hK K)
                  | skip
                refine wpAny_take (i := 17) (v := ?_) rfl (by as_aux_lemma => kernel_rfl) (by as_aux_lemma => kernel_rfl) (by as_aux_lemma => kernel_rfl) (fun _ _ _ h => h) (Or.inl ⟨by as_aux_lemma => kernel_rfl, ?_⟩) ?_
                rotate_left
                focus (intro w; go_simp; (try (with_reducible rfl)); done)
                go_simp
                refine wpAny_take (i := 18) (v := ?_) rfl (by as_aux_lemma => kernel_rfl) (by as_aux_lemma => kernel_rfl) (by as_aux_lemma => kernel_rfl) (fun _ _ _ h => h) (Or.inl ⟨by as_aux_lemma => kernel_rfl, ?_⟩) ?_
                rotate_left
                focus (intro w; go_simp; (try (with_reducible rfl)); done)
                go_simp
                refine wpAny_done (by kernel_rfl) ?_ _
                go_wp2
                go_meet
                case rel => exact ⟨by simp, HB1.out⟩
              exact AllReady.nil
            exact AllReady.nil
          refine AllReady.cons rfl (fun K hK => ?_) ?_
          · (go_simp; go_at_call 17; refine (lblock_any _ 0 (by omega)).mono ?_; rintro e wB ⟨rfl, ho, hb⟩; have HB1 : Hid (Below w17.heap.size w17 wB) := HA1.out.trans (hb.mono HA1.out.size); have f2 := HC1.out _ HB1.out; have f3 : (convert 40 9 (.slice (some ⟨wA.heap.size, 0, none⟩) 512 512)).run Tryz.prog wB = .ok (.string (strOfNums (one 0))) wB := str_opt ho.bytes (one_length _); clear ho hb)
            try go_simp
            first
              | (refine hK _ _ ?_; clear hK K)
              | skip
            refine wpAny_ready (rs := [14, 16]) (by as_aux_lemma => kernel_rfl) (by simp) ?_
            refine AllReady.cons rfl (fun K hK => ?_) ?_
            · go_simp
              try go_simp
              first
                | (refine hK _ _ ?_; clear hK K)
                | skip
              refine wpAny_ready (rs := [16]) (by as_aux_lemma => kernel_rfl) (by simp) ?_
              refine AllReady.cons rfl (fun K hK => ?_) ?_
              · go_simp
                try go_simp
                first
                  | (refine hK _ _ ?_; clear hK K)
                  | skip
                refine wpAny_take (i := 17) (v := ?_) rfl (by as_aux_lemma => kernel_rfl) (by as_aux_lemma => kernel_rfl) (by as_aux_lemma => kernel_rfl) (fun _ _ _ h => h) (Or.inl ⟨by as_aux_lemma => kernel_rfl, ?_⟩) ?_
                rotate_left
                focus (intro w; go_simp; (try (with_reducible rfl)); done)
                go_simp
                refine wpAny_take (i := 18) (v := ?_) rfl (by as_aux_lemma => kernel_rfl) (by as_aux_lemma => kernel_rfl) (by as_aux_lemma => kernel_rfl) (fun _ _ _ h => h) (Or.inl ⟨by as_aux_lemma => kernel_rfl, ?_⟩) ?_
                rotate_left
                focus (intro w; go_simp; (try (with_reducible rfl)); done)
                go_simp
                refine wpAny_done (by kernel_rfl) ?_ _
                go_wp2
                go_meet
                case rel => exact ⟨by simp, HB1.out⟩
              exact AllReady.nil
            refine AllReady.cons rfl (fun K hK => ?_) ?_
            · go_simp
              try go_simp
              first
                | (refine hK _ _ ?_; clear hK K)
                | skip
              refine wpAny_ready (rs := [14]) (by as_aux_lemma => kernel_rfl) (by simp) ?_
              refine AllReady.cons rfl (fun K hK => ?_) ?_
              · go_simp
                try go_simp
                first
                  | (refine hK _ _ ?_; clear hK K)
                  | skip
                refine wpAny_take (i := 17) (v := ?_) rfl (by as_aux_lemma => kernel_rfl) (by as_aux_lemma => kernel_rfl) (by as_aux_lemma => kernel_rfl) (fun _ _ _ h => h) (Or.inl ⟨by as_aux_lemma => kernel_rfl, ?_⟩) ?_
                rotate_left
                focus (intro w; go_simp; (try (with_reducible rfl)); done)
                go_simp
                refine wpAny_take (i := 18) (v := ?_) rfl (by as_aux_lemma => kernel_rfl) (by as_aux_lemma => kernel_rfl) (by as_aux_lemma => kernel_rfl) (fun _ _ _ h => h) (Or.inl ⟨by as_aux_lemma => kernel_rfl, ?_⟩) ?_
                rotate_left
                focus (intro w; go_simp; (try (with_reducible rfl)); done)
                go_simp
                refine wpAny_done (by kernel_rfl) ?_ _
                go_wp2
                go_meet
                case rel => exact ⟨by simp, HB1.out⟩
              exact AllReady.nil
            exact AllReady.nil
          exact AllReady.nil
        exact AllReady.nil
      exact AllReady.nil
    refine AllReady.cons rfl (fun K hK => ?_) ?_
    · (go_simp; go_at_call 17; refine (lblock_any _ 0 (by omega)).mono ?_; rintro e wA ⟨rfl, ho, hb⟩; have HA1 : Hid (Below w17.heap.size w17 wA) := HD.out.trans (hb.mono HD.out.size); have e1 := HC0.out _ HA1.out; have f1 := HC1.out _ HA1.out; have e2 : (convert 40 9 (.slice (some ⟨w17.heap.size, 0, none⟩) 512 512)).run Tryz.prog wA = .ok (.string (strOfNums (one 0))) wA := str_opt ho.bytes (one_length _); clear ho hb)
      try go_simp
      first
        | (refine hK _ _ ?_; clear hK K)
        | skip
      refine wpAny_ready (rs := [6, 8]) (by as_aux_lemma => kernel_rfl) (by simp) ?_
      refine AllReady.cons rfl (fun K hK => ?_) ?_
      · go_simp
        try go_simp
        first
          | (refine hK _ _ ?_; clear hK K)
          | skip
        refine wpAny_ready (rs := [8]) (by as_aux_lemma => kernel_rfl) (by simp) ?_
        refine AllReady.cons rfl (fun K hK => ?_) ?_
        · go_simp
          try go_simp
          first
            | (refine hK _ _ ?_; clear hK K)
            | skip
          refine wpAny_take (i := 9) (v := ?_) rfl (by as_aux_lemma => kernel_rfl) (by as_aux_lemma => kernel_rfl) (by as_aux_lemma => kernel_rfl) (fun _ _ _ h => h) (Or.inl ⟨by as_aux_lemma => kernel_rfl, ?_⟩) ?_
          rotate_left
          focus (intro w; go_simp; (try (with_reducible rfl)); done)
          go_simp
          refine wpAny_take (i := 10) (v := ?_) rfl (by as_aux_lemma => kernel_rfl) (by as_aux_lemma => kernel_rfl) (by as_aux_lemma => kernel_rfl) (fun _ _ _ h => h) (Or.inl ⟨by as_aux_lemma => kernel_rfl, ?_⟩) ?_
          rotate_left
          focus (intro w; go_simp; (try (with_reducible rfl)); done)
          go_simp
          refine wpAny_take (i := 11) (v := ?_) rfl (by as_aux_lemma => kernel_rfl) (by as_aux_lemma => kernel_rfl) (by as_aux_lemma => kernel_rfl) (fun _ _ _ h => h) (Or.inl ⟨by as_aux_lemma => kernel_rfl, ?_⟩) ?_
          rotate_left
          focus (intro w; go_simp; (try (with_reducible rfl)); done)
          go_simp
          refine wpAny_take (i := 12) (v := ?_) rfl (by as_aux_lemma => kernel_rfl) (by as_aux_lemma => kernel_rfl) (by as_aux_lemma => kernel_rfl) (fun _ _ _ h => h) (Or.inl ⟨by as_aux_lemma => kernel_rfl, ?_⟩) ?_
          rotate_left
          focus (intro w; go_simp; (try (with_reducible rfl)); done)
          go_simp
          refine wpAny_take (i := 13) (v := ?_) rfl (by as_aux_lemma => kernel_rfl) (by as_aux_lemma => kernel_rfl) (by as_aux_lemma => kernel_rfl) (fun _ _ _ h => h) (Or.inl ⟨by as_aux_lemma => kernel_rfl, ?_⟩) ?_
          rotate_left
          focus (intro w; go_simp; (try (with_reducible rfl)); done)
          go_simp
          refine wpAny_ready (rs := [14, 15]) (by as_aux_lemma => kernel_rfl) (by simp) ?_
          refine AllReady.cons rfl (fun K hK => ?_) ?_
          · go_simp
            try go_simp
            first
              | (refine hK _ _ ?_; clear hK K)
              | skip
            refine wpAny_ready (rs := [15]) (by as_aux_lemma => kernel_rfl) (by simp) ?_
            refine AllReady.cons rfl (fun K hK => ?_) ?_
            · (go_simp; go_at_call 17; refine (lblock_any _ 0 (by omega)).mono ?_; rintro e wB ⟨rfl, ho, hb⟩; have HB1 : Hid (Below w17.heap.size w17 wB) := HA1.out.trans (hb.mono HA1.out.size); have f2 := HC1.out _ HB1.out; have f3 : (convert 40 9 (.slice (some ⟨wA.heap.size, 0, none⟩) 512 512)).run Tryz.prog wB = .ok (.string (strOfNums (one 0))) wB := str_opt ho.bytes (one_length _); clear ho hb)
              try go_simp
              first
                | (refine hK _ _ ?_; clear hK K)
                | skip
              refine wpAny_ready (rs := [16]) (by as_aux_lemma => kernel_rfl) (by simp) ?_
              refine AllReady.cons rfl (fun K hK => ?_) ?_
              · go_simp
                try go_simp
                first
                  | (refine hK _ _ ?_; clear hK K)
                  | skip
                refine wpAny_take (i := 17) (v := ?_) rfl (by as_aux_lemma => kernel_rfl) (by as_aux_lemma => kernel_rfl) (by as_aux_lemma => kernel_rfl) (fun _ _ _ h => h) (Or.inl ⟨by as_aux_lemma => kernel_rfl, ?_⟩) ?_
                rotate_left
                focus (intro w; go_simp; (try (with_reducible rfl)); done)
                go_simp
                refine wpAny_take (i := 18) (v := ?_) rfl (by as_aux_lemma => kernel_rfl) (by as_aux_lemma => kernel_rfl) (by as_aux_lemma => kernel_rfl) (fun _ _ _ h => h) (Or.inl ⟨by as_aux_lemma => kernel_rfl, ?_⟩) ?_
                rotate_left
                focus (intro w; go_simp; (try (with_reducible rfl)); done)
                go_simp
                refine wpAny_done (by kernel_rfl) ?_ _
                go_wp2
                go_meet
                case rel => exact ⟨by simp, HB1.out⟩
              exact AllReady.nil
            exact AllReady.nil
          refine AllReady.cons rfl (fun K hK => ?_) ?_
          · (go_simp; go_at_call 17; refine (lblock_any _ 0 (by omega)).mono ?_; rintro e wB ⟨rfl, ho, hb⟩; have HB1 : Hid (Below w17.heap.size w17 wB) := HA1.out.trans (hb.mono HA1.out.size); have f2 := HC1.out _ HB1.out; have f3 : (convert 40 9 (.slice (some ⟨wA.heap.size, 0, none⟩) 512 512)).run Tryz.prog wB = .ok (.string (strOfNums (one 0))) wB := str_opt ho.bytes (one_length _); clear ho hb)
            try go_simp
            first
              | (refine hK _ _ ?_; clear hK K)
              | skip
            refine wpAny_ready (rs := [14, 16]) (by as_aux_lemma => kernel_rfl) (by simp) ?_
            refine AllReady.cons rfl (fun K hK => ?_) ?_
            · go_simp
              try go_simp
              first
                | (refine hK _ _ ?_; clear hK K)
                | skip
              refine wpAny_ready (rs := [16]) (by as_aux_lemma => kernel_rfl) (by simp) ?_
              refine AllReady.cons rfl (fun K hK => ?_) ?_
              · go_simp
                try go_simp
                first
                  | (refine hK _ _ ?_; clear hK K)
                  | skip
                refine wpAny_take (i := 17) (v := ?_) rfl (by as_aux_lemma => kernel_rfl) (by as_aux_lemma => kernel_rfl) (by as_aux_lemma => kernel_rfl) (fun _ _ _ h => h) (Or.inl ⟨by as_aux_lemma => kernel_rfl, ?_⟩) ?_
                rotate_left
                focus (intro w; go_simp; (try (with_reducible rfl)); done)
                go_simp
                refine wpAny_take (i := 18) (v := ?_) rfl (by as_aux_lemma => kernel_rfl) (by as_aux_lemma => kernel_rfl) (by as_aux_lemma => kernel_rfl) (fun _ _ _ h => h) (Or.inl ⟨by as_aux_lemma => kernel_rfl, ?_⟩) ?_
                rotate_left
                focus (intro w; go_simp; (try (with_reducible rfl)); done)
                go_simp
                refine wpAny_done (by kernel_rfl) ?_ _
                go_wp2
                go_meet
                case rel => exact ⟨by simp, HB1.out⟩
              exact AllReady.nil
            refine AllReady.cons rfl (fun K hK => ?_) ?_
            · go_simp
              try go_simp
              first
                | (refine hK _ _ ?_; clear hK K)
                | skip
              refine wpAny_ready (rs := [14]) (by as_aux_lemma => kernel_rfl) (by simp) ?_
              refine AllReady.cons rfl (fun K hK => ?_) ?_
              · go_simp
                try go_simp
                first
                  | (refine hK _ _ ?_; clear hK K)
                  | skip
                refine wpAny_take (i := 17) (v := ?_) rfl (by as_aux_lemma => kernel_rfl) (by as_aux_lemma => kernel_rfl) (by as_aux_lemma => kernel_rfl) (fun _ _ _ h => h) (Or.inl ⟨by as_aux_lemma => kernel_rfl, ?_⟩) ?_
                rotate_left
                focus (intro w; go_simp; (try (with_reducible rfl)); done)
                go_simp
                refine wpAny_take (i := 18) (v := ?_) rfl (by as_aux_lemma => kernel_rfl) (by as_aux_lemma => kernel_rfl) (by as_aux_lemma => kernel_rfl) (fun _ _ _ h => h) (Or.inl ⟨by as_aux_lemma => kernel_rfl, ?_⟩) ?_
                rotate_left
                focus (intro w; go_simp; (try (with_reducible rfl)); done)
                go_simp
                refine wpAny_done (by kernel_rfl) ?_ _
                go_wp2
                go_meet
                case rel => exact ⟨by simp, HB1.out⟩
              exact AllReady.nil
            exact AllReady.nil
          exact AllReady.nil
        exact AllReady.nil
      refine AllReady.cons rfl (fun K hK => ?_) ?_
      · go_simp
        try go_simp
        first
          | (refine hK _ _ ?_; clear hK K)
          | skip
        refine wpAny_ready (rs := [6]) (by as_aux_lemma => kernel_rfl) (by simp) ?_
        refine AllReady.cons rfl (fun K hK => ?_) ?_
        · go_simp
          try go_simp
          first
            | (refine hK _ _ ?_; clear hK K)
            | skip
          refine wpAny_take (i := 9) (v := ?_) rfl (by as_aux_lemma => kernel_rfl) (by as_aux_lemma => kernel_rfl) (by as_aux_lemma => kernel_rfl) (fun _ _ _ h => h) (Or.inl ⟨by as_aux_lemma => kernel_rfl, ?_⟩) ?_
          rotate_left
          focus (intro w; go_simp; (try (with_reducible rfl)); done)
          go_simp
          refine wpAny_take (i := 10) (v := ?_) rfl (by as_aux_lemma => kernel_rfl) (by as_aux_lemma => kernel_rfl) (by as_aux_lemma => kernel_rfl) (fun _ _ _ h => h) (Or.inl ⟨by as_aux_lemma => kernel_rfl, ?_⟩) ?_
          rotate_left
          focus (intro w; go_simp; (try (with_reducible rfl)); done)
          go_simp
          refine wpAny_take (i := 11) (v := ?_) rfl (by as_aux_lemma => kernel_rfl) (by as_aux_lemma => kernel_rfl) (by as_aux_lemma => kernel_rfl) (fun _ _ _ h => h) (Or.inl ⟨by as_aux_lemma => kernel_rfl, ?_⟩) ?_
          rotate_left
          focus (intro w; go_simp; (try (with_reducible rfl)); done)
          go_simp
          refine wpAny_take (i := 12) (v := ?_) rfl (by as_aux_lemma => kernel_rfl) (by as_aux_lemma => kernel_rfl) (by as_aux_lemma => kernel_rfl) (fun _ _ _ h => h) (Or.inl ⟨by as_aux_lemma => kernel_rfl, ?_⟩) ?_
          rotate_left
          focus (intro w; go_simp; (try (with_reducible rfl)); done)
          go_simp
          refine wpAny_take (i := 13) (v := ?_) rfl (by as_aux_lemma => kernel_rfl) (by as_aux_lemma => kernel_rfl) (by as_aux_lemma => kernel_rfl) (fun _ _ _ h => h) (Or.inl ⟨by as_aux_lemma => kernel_rfl, ?_⟩) ?_
          rotate_left
          focus (intro w; go_simp; (try (with_reducible rfl)); done)
          go_simp
          refine wpAny_ready (rs := [14, 15]) (by as_aux_lemma => kernel_rfl) (by simp) ?_
          refine AllReady.cons rfl (fun K hK => ?_) ?_
          · go_simp
            try go_simp
            first
              | (refine hK _ _ ?_; clear hK K)
              | skip
            refine wpAny_ready (rs := [15]) (by as_aux_lemma => kernel_rfl) (by simp) ?_
            refine AllReady.cons rfl (fun K hK => ?_) ?_
            · (go_simp; go_at_call 17; refine (lblock_any _ 0 (by omega)).mono ?_; rintro e wB ⟨rfl, ho, hb⟩; have HB1 : Hid (Below w17.heap.size w17 wB) := HA1.out.trans (hb.mono HA1.out.size); have f2 := HC1.out _ HB1.out; have f3 : (convert 40 9 (.slice (some ⟨wA.heap.size, 0, none⟩) 512 512)).run Tryz.prog wB = .ok (.string (strOfNums (one 0))) wB := str_opt ho.bytes (one_length _); clear ho hb)
              try go_simp
              first
                | (refine hK _ _ ?_; clear hK K)
                | skip
              refine wpAny_ready (rs := [16]) (by as_aux_lemma => kernel_rfl) (by simp) ?_
              refine AllReady.cons rfl (fun K hK => ?_) ?_
              · go_simp
                try go_simp
                first
                  | (refine hK _ _ ?_; clear hK K)
                  | skip
                refine wpAny_take (i := 17) (v := ?_) rfl (by as_aux_lemma => kernel_rfl) (by as_aux_lemma => kernel_rfl) (by as_aux_lemma => kernel_rfl) (fun _ _ _ h => h) (Or.inl ⟨by as_aux_lemma => kernel_rfl, ?_⟩) ?_
                rotate_left
                focus (intro w; go_simp; (try (with_reducible rfl)); done)
                go_simp
                refine wpAny_take (i := 18) (v := ?_) rfl (by as_aux_lemma => kernel_rfl) (by as_aux_lemma => kernel_rfl) (by as_aux_lemma => kernel_rfl) (fun _ _ _ h => h) (Or.inl ⟨by as_aux_lemma => kernel_rfl, ?_⟩) ?_
                rotate_left
                focus (intro w; go_simp; (try (with_reducible rfl)); done)
                go_simp
                refine wpAny_done (by kernel_rfl) ?_ _
                go_wp2
                go_meet
                case rel => exact ⟨by simp, HB1.out⟩
              exact AllReady.nil
            exact AllReady.nil
          refine AllReady.cons rfl (fun K hK => ?_) ?_
          · (go_simp; go_at_call 17; refine (lblock_any _ 0 (by omega)).mono ?_; rintro e wB ⟨rfl, ho, hb⟩; have HB1 : Hid (Below w17.heap.size w17 wB) := HA1.out.trans (hb.mono HA1.out.size); have f2 := HC1.out _ HB1.out; have f3 : (convert 40 9 (.slice (some ⟨wA.heap.size, 0, none⟩) 512 512)).run Tryz.prog wB = .ok (.string (strOfNums (one 0))) wB := str_opt ho.bytes (one_length _); clear ho hb)
            try go_simp
            first
              | (refine hK _ _ ?_; clear hK K)
              | skip
            refine wpAny_ready (rs := [14, 16]) (by as_aux_lemma => kernel_rfl) (by simp) ?_
            refine AllReady.cons rfl (fun K hK => ?_) ?_
            · go_simp
              try go_simp
              first
                | (refine hK _ _ ?_; clear hK K)
                | skip
              refine wpAny_ready (rs := [16]) (by as_aux_lemma => kernel_rfl) (by simp) ?_
              refine AllReady.cons rfl (fun K hK => ?_) ?_
              · go_simp
                try go_simp
                first
                  | (refine hK _ _ ?_; clear hK K)
                  | skip
                refine wpAny_take (i := 17) (v := ?_) rfl (by as_aux_lemma => kernel_rfl) (by as_aux_lemma => kernel_rfl) (by as_aux_lemma => kernel_rfl) (fun _ _ _ h => h) (Or.inl ⟨by as_aux_lemma => kernel_rfl, ?_⟩) ?_
                rotate_left
                focus (intro w; go_simp; (try (with_reducible rfl)); done)
                go_simp
                refine wpAny_take (i := 18) (v := ?_) rfl (by as_aux_lemma => kernel_rfl) (by as_aux_lemma => kernel_rfl) (by as_aux_lemma => kernel_rfl) (fun _ _ _ h => h) (Or.inl ⟨by as_aux_lemma => kernel_rfl, ?_⟩) ?_
                rotate_left
                focus (intro w; go_simp; (try (with_reducible rfl)); done)
                go_simp
                refine wpAny_done (by kernel_rfl) ?_ _
                go_wp2
                go_meet
                case rel => exact ⟨by simp, HB1.out⟩
              exact AllReady.nil
            refine AllReady.cons rfl (fun K hK => ?_) ?_
            · go_simp
              try go_simp
              first
                | (refine hK _ _ ?_; clear hK K)
                | skip
              refine wpAny_ready (rs := [14]) (by as_aux_lemma => kernel_rfl) (by simp) ?_
              refine AllReady.cons rfl (fun K hK => ?_) ?_
              · go_simp
                try go_simp
                first
                  | (refine hK _ _ ?_; clear hK K)
                  | skip
                refine wpAny_take (i := 17) (v := ?_) rfl (by as_aux_lemma => kernel_rfl) (by as_aux_lemma => kernel_rfl) (by as_aux_lemma => kernel_rfl) (fun _ _ _ h => h) (Or.inl ⟨by as_aux_lemma => kernel_rfl, ?_⟩) ?_
                rotate_left
                focus (intro w; go_simp; (try (with_reducible rfl)); done)
                go_simp
                refine wpAny_take (i := 18) (v := ?_) rfl (by as_aux_lemma => kernel_rfl) (by as_aux_lemma => kernel_rfl) (by as_aux_lemma => kernel_rfl) (fun _ _ _ h => h) (Or.inl ⟨by as_aux_lemma => kernel_rfl, ?_⟩) ?_
                rotate_left
                focus (intro w; go_simp; (try (with_reducible rfl)); done)
                go_simp
                refine wpAny_done (by kernel_rfl) ?_ _
                go_wp2
                go_meet
                case rel => exact ⟨by simp, HB1.out⟩
              exact AllReady.nil
            exact AllReady.nil
          exact AllReady.nil
        exact AllReady.nil
      exact AllReady.nil
    exact AllReady.nil
  case rest =>
  obtain ⟨rfl, hb17⟩ := hcut
  have HB18 : Hid (Below w17.heap.size w17 wc) := hb17
  clear hb17 e0 HC0 HC1 HD z1 z2 z3 z4
  go_upto_region 44 with fail
  go_loopw [28, 29, 30] (fun s28 s29 s30 wr => ∃ (k : Nat) (al no : Bool), 98 ≤ k ∧ k ≤ 118 ∧ s28 = .bool al ∧ s29 = .bool no ∧ s30 = .int .i64 k ∧ (bk = false → al = true) ∧ (bk = true → no = true) ∧ Below w17.heap.size w17 wr) (fun _ _ s _ => 118 - (intOf s).toNat)
  case atStart => exact ⟨98, true, true, by omega, by omega, rfl, rfl, rfl, fun _ => rfl, fun _ => rfl, HB18.out⟩
  case round =>
    obtain ⟨k, al, no, hk0, hk1, rfl, rfl, rfl, ha, hn, hb⟩ := hrel
    have HR : Hid ((bk = false → al = true) ∧ (bk = true → no = true) ∧ Below w17.heap.size w17 wr) := ⟨ha, hn, hb⟩
    clear ha hn hb
    by_cases hlt : k < 118
    · obtain ⟨nk, hnk⟩ : ∃ nk, now k = nk := ⟨_, rfl⟩
      obtain ⟨ik, hik⟩ : ∃ ik, is k = ik := ⟨_, rfl⟩
      obtain ⟨sb, hsb⟩ : ∃ sb, strOfNums (bck L k) = sb := ⟨_, rfl⟩
      obtain ⟨sn, hsn⟩ : ∃ sn, strOfNums (one nk) = sn := ⟨_, rfl⟩
      obtain ⟨sk, hsk⟩ : ∃ sk, strOfNums (one (k : Int)) = sk := ⟨_, rfl⟩
      obtain ⟨Ad, hAd⟩ : ∃ Ad, Ad = 512 * k := ⟨_, rfl⟩
      have HNk : Hid (0 ≤ nk ∧ nk < 256) := by
        rw [← hnk]
        exact (HCt.out k hk0 hlt).1
      have HEq : Hid ((bk = false → sb = sn) ∧ (bk = true → sb = sk) ∧ (ik = false → sb = sk)) := by
        rw [← hsb, ← hsn, ← hsk, ← hnk, ← hik, HL.out.2.2.2 k hk0 hlt]
        exact ⟨fun e => by rw [HWn.out.all e k hk0 hlt], fun e => by rw [(HWn.out.none_ e).2 k hk0 hlt], fun e => by rw [HWn.out.off k hk0 hlt e]⟩
      have e1 : ∀ c, (convert 40 9 (.slice (some ⟨gl, Ad, none⟩) 512 c)).run Tryz.prog wr = .ok (.string sb) wr := fun c => by
        have := HSub.out wr HR.out.2.2 k hlt
        rw [← hAd] at this
        rw [← hsb]
        exact str_opt this (bck_length _ _ 118 HL.out.1 hlt)
      have HCl : Hid (∀ wx, Below w17.heap.size w17 wx → wx.cell? ⟨A, k, none⟩ = some (.int .u8 nk) ∧ wx.cell? ⟨B, k, none⟩ = some (.bool ik)) := fun wx hb => by
        rw [← hnk, ← hik]
        exact ⟨(HO.out.2.1.on hb).cu k hlt, (HO.out.2.1.on hb).cb k hlt⟩
      have b0 := (HCl.out _ HR.out.2.2).2
      have a0 := (HCl.out _ HR.out.2.2).1
      have p0 : IntKind.i64.wrap ((k : Int) * 512) = (Ad : Int) := wrap_sm (by omega) (by omega)
      have p1 : IntKind.i64.wrap ((Ad : Int) + 512) = (Ad : Int) + 512 := by rw [wrap_sm (k := Ad + 512) (by omega) (by omega)]; rfl
      have p2 : 0 ≤ (Ad : Int) + 512 := by omega
      have p3 : (Ad : Int) + 512 ≤ (cl : Int) := by omega
      have p4 : (Ad : Int) ≤ max ((Ad : Int) + 512) 0 := by omega
      have p5 : ((Ad : Int) + 512).toNat = Ad + 512 := by omega
      have p6 : ¬ cl = Ad := by omega
      have hu8 : IntKind.u8.wrap (k : Int) = (k : Int) := by simp [IntKind.wrap, IntKind.bits, IntKind.signed]; omega
      have hki : (k : Int) < 118 := by omega
      have HBl : Hid (∀ wx y, 0 ≤ y ∧ y < 256 → Calls Tryz.prog 17 #[.int .u8 y] wx fun e w' => ∃ h : World, e = .returned (.slice (some ⟨wx.heap.size, 0, none⟩) 512 512) ∧ (convert 40 9 (.slice (some ⟨wx.heap.size, 0, none⟩) 512 512)).run Tryz.prog w' = .ok (.string (strOfNums (one y))) w' ∧ Below wx.heap.size wx w') := fun wx y hy => by
        refine (lblock_any wx y hy).mono ?_
        rintro e w' ⟨rfl, ho, hb⟩
        exact ⟨w', rfl, str_opt ho.bytes (one_length _), hb⟩
      have HSn : Hid (strOfNums (one nk) = sn ∧ strOfNums (one (k : Int)) = sk) := ⟨hsn, hsk⟩
      clear hnk hik hsb hsn hsk hAd
      go_upto_region 47 with fail
      cases ik with
      | false =>
        have hs := HEq.out.2.2 rfl
        go_wp2_with (go_at_call 17; refine (HBl.out _ (k : Int) (by omega)).mono ?_; rintro e w20 ⟨_, rfl, e5, hb⟩; rw [HSn.out.2, ← hs] at e5; have H20 : Hid (Below wr.heap.size wr w20) := hb; clear hb)
        exact ⟨⟨k + 1, al, no, by omega, by omega, rfl, rfl, rfl, HR.out.1, HR.out.2.1, HR.out.2.2.trans (H20.out.mono HR.out.2.2.size)⟩, by simp [intOf]; omega⟩
      | true =>
        go_upto_region 50 with fail
        go_cut [28] (fun s wx => ∃ al' : Bool, s = .bool al' ∧ (bk = false → al' = true) ∧ Below wr.heap.size wr wx)
        case first => as_aux_lemma =>
          cases al with
          | false =>
            go_wp2
            go_meet
            case rel => exact ⟨false, rfl, fun e => HR.out.1 e, Below.refl _ _⟩
          | true =>
            go_wp2_with (go_at_call 17; refine (HBl.out _ nk HNk.out).mono ?_; rintro e w20 ⟨_, rfl, e5, hb⟩; rw [HSn.out.1] at e5; have H20 : Hid (Below wr.heap.size wr w20) := hb; clear hb)
            go_meet
            case rel => exact ⟨_, rfl, fun e => by simp [HEq.out.1 e], H20.out⟩
        case rest =>
        obtain ⟨al', rfl, ha, hb⟩ := hcut
        have HR2 : Hid ((bk = false → al' = true) ∧ Below w17.heap.size w17 wc) := ⟨ha, HR.out.2.2.trans (hb.mono HR.out.2.2.size)⟩
        clear ha hb e1 a0 b0
        go_upto_region 51 with fail
        cases no with
        | false =>
          have hn : bk = true → false = true := fun e => HR.out.2.1 e
          have HR3 : Hid (bk = true → false = true) := hn
          clear hn
          go_wp2
          exact ⟨⟨k + 1, al', false, by omega, by omega, rfl, rfl, rfl, HR2.out.1, HR3.out, HR2.out.2⟩, by simp [intOf]; omega⟩
        | true =>
          go_wp2_with (go_at_call 17; refine (HBl.out _ (k : Int) (by omega)).mono ?_; rintro e w21 ⟨_, rfl, e5, hb⟩; rw [HSn.out.2] at e5; have H21 : Hid (Below w17.heap.size w17 w21) := HR2.out.2.trans (hb.mono HR2.out.2.size); clear hb)
          exact ⟨⟨k + 1, al', _, by omega, by omega, rfl, rfl, rfl, HR2.out.1, fun e => by simp [HEq.out.2.1 e], H21.out⟩, by simp [intOf]; omega⟩
    · have hge : 118 ≤ k := by omega
      have HEnd : Hid (Below w.heap.size w wr) := HO.out.2.2.trans (HR.out.2.2.mono HO.out.2.2.size)
      have e3 := HDn.out
      cases al with
      | true =>
        clear e3
        go_wp2
        go_ret
        exact ⟨by simp, HEnd.out⟩
      | false =>
        have hbk : bk = true := by
          cases bk with
          | true => rfl
          | false => have := HR.out.1 rfl; cases this
        have hno := HR.out.2.1 hbk
        have hfb := (HWn.out.none_ hbk).1
        subst hno
        subst hfb
        subst e3
        clear hbk
        go_wp2
        go_ret
        exact ⟨by simp, HEnd.out⟩
end Go.Proofs.YtcdggcdkjooohaaGreatDoor
