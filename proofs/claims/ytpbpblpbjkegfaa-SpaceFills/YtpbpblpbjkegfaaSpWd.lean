import Derived.Test.YtpbpblpbjkegfaaKSpU
namespace Go.Proofs.Ytpbpblpbjkegfaa
open Go.RowKit Go.Maps Rec

theorem nBl_60 (N : Int) (h : 0 ≤ N ∧ N < 60) : 128 ≤ nBl N ∧ nBl N ≤ 187 := by unfold nBl; rw [if_pos (by omega)]; omega
set_option maxRecDepth 100000 in
set_option maxHeartbeats 32000000 in
theorem fills_any (w : World) (N order : Int) (_ : -9223372036854775808 ≤ N ∧ N ≤ 9223372036854775807) (_ : -9223372036854775808 ≤ order ∧ order ≤ 9223372036854775807) (ba : Option Addr) (bl bc : Nat) (rest : Int) (hr : 0 ≤ rest ∧ rest < 256) (sa : Option Addr) (sl sc : Nat) (bs : List Int) (hb : Bytes w ba bs) (hl : bs.length = bl) :
    Calls Try.prog 4 #[csV N (.slice ba bl bc) rest (.slice sa sl sc), .int .i64 order] w fun e w' => e = .returned (.bool true) ∧ Below w.heap.size w w' := by
  have HM : Hid (∀ wx, Calls Try.prog 15 #[.int .i64 N, .int .i64 60] wx fun e w' => e = .returned (.int .i64 (N % 60)) ∧ wx = w') := fun wx => mod_any wx N 60 (by omega) (by omega)
  obtain ⟨N2, hN2⟩ : ∃ N2, N % 60 = N2 := ⟨_, rfl⟩
  have hb2 : 0 ≤ N2 ∧ N2 < 60 := by omega
  have hnb := nBl_60 N2 hb2
  have HOp : Hid (∀ wx, Below w.heap.size w wx → Calls Try.prog 5 #[csV N2 (.slice ba bl bc) rest (.slice sa sl sc)] wx fun e w' => ∃ t0, e = .returned (.tuple #[.pointer (some ⟨t0, 0, none⟩), geoV (nBl N2 : Nat)]) ∧ ∃ T D, T.t = t0 ∧ OpE wx w' D T (nBl N2) (fB (nBl N2) bs rest)) := fun wx hbx => by
    refine (opened9 wx N2 (by omega) ba bl bc rest hr sa sl sc bs (hb.on hbx) hl).mono ?_
    rintro e w' ⟨T, rfl, D, h⟩
    exact ⟨T.t, rfl, T, D, rfl, h⟩
  obtain ⟨n, hn⟩ : ∃ n, nBl N2 = n := ⟨_, rfl⟩
  rw [hN2] at HM
  rw [hn] at HOp hnb
  clear hN2 hn hb hl hr
  have hNm := nM_bd hnb.1 (by omega)
  unfold csV geoV at HOp
  unfold csV
  have hpt := ptr_nilT
  go_enter Try.func4, Try.ntmps4
  have HB1 : Hid (∀ o, Below w.heap.size w (w.alloc o)) := fun o => (Below.refl _ _).alloc (Nat.le_refl _) o
  go_upto_region 5 with (first
    | (go_at_call 15; refine (HM.out _).mono ?_; rintro e w' ⟨rfl, rfl⟩; clear HM)
    | (go_at_call 5; refine (HOp.out _ (HB1.out _)).mono ?_; rintro e w2 ⟨t0, rfl, T, D, h1, h2⟩; obtain ⟨wk, hwk, hBk⟩ : ∃ wk, OpE wk w2 D T n (fB n bs rest) ∧ Below w.heap.size w wk := ⟨_, h2, HB1.out _⟩; have H2 : Hid (T.t = t0 ∧ OpE wk w2 D T n (fB n bs rest) ∧ Below w.heap.size w wk) := ⟨h1, hwk, hBk⟩; clear h1 h2 hwk hBk HOp))
  clear HB1
  obtain ⟨P, hP⟩ : ∃ P, w2.heap.size = P := ⟨_, rfl⟩
  obtain ⟨w3, hw3⟩ : ∃ w3, w2.alloc (.cells #[.int .i64 (n : Int), .int .i64 98, .int .i64 (gI n), .int .i64 (gD n), .int .i64 (gC n)] 28) = w3 := ⟨_, rfl⟩
  obtain ⟨lo, hlo⟩ : ∃ lo, nD n = lo := ⟨_, rfl⟩
  have hgd : gD (n : Int) = (lo : Int) := by rw [gD_nat, hlo]
  obtain ⟨f, hf⟩ : ∃ f, fd (nD n) n (bmp D T) = f := ⟨_, rfl⟩
  have hfb : ∀ j, f j = true → nD n ≤ j ∧ j < n := fun j hj => by rw [← hf] at hj; exact fd_bd hj
  have H3 : Hid (T.t = t0 ∧ Fl1 wk w3 D T n P (.slice none 0 0) (fl f lo) ∧ wk.heap.size ≤ P ∧ (∀ k, T.all k → k < P) ∧ (∀ k, D.all k → k < P) ∧ T.c = (fun _ => none) ∧ T.us = [] ∧ Below w.heap.size w wk) := by
    have hb3 : Below w2.heap.size w2 w3 := by rw [← hw3]; exact (Below.refl _ _).alloc (Nat.le_refl _) _
    have hS := H2.out.2.1.spc
    have hbd := hS.ses.bel.size
    have hnil : fl f lo = [] := fl_none (fun j hj => by cases e : f j with | false => rfl | true => have := hfb j e; omega)
    refine ⟨H2.out.1, ⟨hS.on hb3, ?_, ?_, fun k e => by cases e⟩, by omega, fun k e => ?_, fun k e => ?_, H2.out.2.1.c, H2.out.2.1.us, H2.out.2.2⟩
    · rw [← hw3, ← hP]; exact heap_alloc_new _ _
    · rw [hnil]; exact ⟨rfl, .inl ⟨rfl, rfl⟩⟩
    · have := hS.ses.tx.lt e; omega
    · have := hS.ses.dk.disk.allLt e; omega
  rw [hw3, hP, hgd]
  have hlo9 : lo = 101 := by rw [← hlo]; unfold nD nM; omega
  have HC : Hid (gD (n : Int) = (lo : Int) ∧ nD n = lo ∧ fd (nD n) n (bmp D T) = f ∧ ∀ j, f j = true → nD n ≤ j ∧ j < n) := ⟨hgd, hlo, hf, hfb⟩
  have HL : Hid (lo = 101 ∧ 128 ≤ n ∧ n ≤ 187) := ⟨hlo9, hnb⟩
  clear hw3 hP H2 hgd hlo hf hfb hlo9 hNm
  have HGe : Hid (∀ wx, GeoAt wx P n → wx.cell? ⟨P, 0, none⟩ = some (.int .i64 (n : Int)) ∧ wx.cell? ⟨P, 1, none⟩ = some (.int .i64 98) ∧ wx.cell? ⟨P, 2, none⟩ = some (.int .i64 (gI n)) ∧ wx.cell? ⟨P, 3, none⟩ = some (.int .i64 (lo : Int)) ∧ wx.cell? ⟨P, 4, none⟩ = some (.int .i64 (gC n))) := fun wx h => by
    have := h.cells
    rw [HC.out.1] at this
    exact this
  have hln : (lo : Int) ≤ (n : Int) := by have := HL.out; omega
  obtain ⟨z0, z1, z2, z3, z4⟩ := HGe.out _ H3.out.2.1.geo
  go_wp2
  go_loopw [7, 8] (fun s7 s8 wr => ∃ (i : Nat) (v : Value), lo ≤ i ∧ i ≤ n ∧ s8 = .int .i64 (i : Int) ∧ s7 = v ∧ Fl1 wk wr D T n P v (fl f i)) (fun _ s8 _ => n - (intOf s8).toNat)
  case atStart => exact ⟨lo, _, Nat.le_refl _, by omega, rfl, rfl, H3.out.2.1⟩
  case round =>
    clear z0 z1 z2 z3 z4
    obtain ⟨i, v, hi0, hi1, rfl, rfl, hF⟩ := hrel
    obtain ⟨z0, z1, z2, z3, z4⟩ := HGe.out _ hF.geo
    have HI : Hid (Fl1 wk wr D T n P u7 (fl f i)) := hF
    clear hF
    by_cases hlt : i < n
    · have hlt' : (i : Int) < (n : Int) := by omega
      have hwi : IntKind.i64.wrap ((i : Int) + 1) = (i : Int) + 1 := by have := HL.out; rw [IntKind.wrap_i64]; omega
      have HU : Hid (Calls Try.prog 16 #[.pointer (some ⟨t0, 0, none⟩), .agg #[.int .i64 (n : Int), .int .i64 98, .int .i64 (gI n), .int .i64 (lo : Int), .int .i64 (gC n)], .int .i64 (i : Int)] wr fun e w' => e = .returned (.tuple #[.bool (!f i), .int .i64 0]) ∧ Below wr.heap.size wr w') := by
        have h9 := used_any wk wr D T n HI.out.spc i hlt
        rw [isT_fd (show nD n ≤ i by rw [HC.out.2.1]; exact hi0) hlt, HC.out.2.2.1, H3.out.1, geoV, HC.out.1] at h9
        exact h9
      cases hfi : f i with
      | false =>
        rw [hfi] at HU
        go_wp2_with (go_at_call 16; refine HU.out.mono ?_; rintro e w9 ⟨rfl, hb⟩; have H9 : Hid (Below wr.heap.size wr w9) := hb; clear hb)
        go_roundw
        case rel => exact ⟨i + 1, u7, by omega, by omega, by go_num, rfl, by rw [fl_next_f hfi]; exact HI.out.on H9.out⟩
        case measure => simp [intOf]; omega
      | true =>
        rw [hfi] at HU
        have HLe : Hid ((fl f i).length ≤ 1000) := by rw [fl_len]; exact Nat.le_trans (ct_le _ _) (by have := HL.out; omega)
        go_wp2_with (first
          | (go_at_call 16; refine HU.out.mono ?_; rintro e w9 ⟨rfl, hb⟩; have H9 : Hid (Fl1 wk w9 D T n P u7 (fl f i)) := HI.out.on hb; clear hb)
          | (at_builtin; refine wp_int9 (wx := w9) rfl (.tmp 59) (.tmp 61) rfl u7 (fl f i).length _ rfl rfl (i : Int) H9.out.row HLe.out ?_; intro b2 cap2 w10 hR hF hor; have H10 : Hid (Fl1 wk w10 D T n P (.slice (some ⟨b2, 0, none⟩) ((fl f i).length + 1) cap2) (fl f i ++ [i])) := H9.out.app H3.out.2.2.1 H3.out.2.2.2.1 H3.out.2.2.2.2.1 hR hF hor; clear hR hF hor))
        go_roundw
        case rel => exact ⟨i + 1, _, by omega, by omega, by go_num, rfl, by rw [fl_next_t hfi]; exact H10.out⟩
        case measure => simp [intOf]; omega
    · have hlt' : ¬ (i : Int) < (n : Int) := by omega
      obtain ⟨l, hl⟩ : ∃ l, fl f n = l := ⟨_, rfl⟩
      have hin : i = n := by omega
      have hfv : ∃ a c, u7 = .slice a l.length c ∧ Fv wk wr D T n P a l := by
        have := HI.out.fv H3.out.2.2.2.1
        rw [hin, hl] at this
        exact this
      obtain ⟨L, hL⟩ : ∃ L, l.length = L := ⟨_, rfl⟩
      rw [hL] at hfv
      obtain ⟨a, c, rfl, hfv⟩ := hfv
      have HLf : Hid (Lf l n ∧ l.length = L) := by
        have h9 := HL.out
        have h8 := HC.out.2.1
        refine ⟨⟨by rw [← hl]; exact fl_lt _ _, fun j hj => by rw [← hl] at hj; exact HC.out.2.2.2 j (fl_mem.1 hj).2, ?_, by omega⟩, hL⟩
        rw [← hl, fl_len, show n = lo + (n - lo) by omega, ct_add, ct_zero.2 (fun j hj => by cases e : f j with | false => rfl | true => have := HC.out.2.2.2 j e; omega)]
        have := ct_le (fun j => f (lo + j)) (n - lo)
        omega
      have hLb : L ≤ 90 := by rw [← hL]; exact HLf.out.1.len
      have H20 : Hid (T.t = t0 ∧ Fl2 wk wr D T n P a l 0) := by
        refine ⟨H3.out.1, hfv, ?_, fun j _ => by rw [H3.out.2.2.2.2.2.1]; rfl, by rw [H3.out.2.2.2.2.2.1]; rfl, by rw [H3.out.2.2.2.2.2.1, lst_none]; rfl, by rw [H3.out.2.2.2.2.2.2.1]; rfl⟩
        rw [HC.out.2.2.1, List.drop_zero, ← hl, inL_fl (fun j hj => (HC.out.2.2.2 j hj).2)]
      have HBw : Hid (Below w.heap.size w wk) := H3.out.2.2.2.2.2.2.2
      clear hfv hin hl hL H3 HI
      go_wp2
      go_loopw [65] (fun s65 wr => ∃ (k : Nat) (T : Tx), k ≤ L ∧ s65 = .int .i64 (k : Int) ∧ T.t = t0 ∧ Fl2 wk wr D T n P a l k) (fun s65 _ => L - (intOf s65).toNat)
      case atStart => exact ⟨0, T, Nat.zero_le _, rfl, H20.out⟩
      case round =>
        clear H20 z0 z1 z2 z3 z4
        obtain ⟨k, T1, hk, rfl, hT1, hF2⟩ := hrel
        obtain ⟨z0, z1, z2, z3, z4⟩ := HGe.out _ hF2.fv.geo
        have HI : Hid (T1.t = t0 ∧ Fl2 wk wr D T1 n P a l k) := ⟨hT1, hF2⟩
        clear hT1 hF2
        have hwk : IntKind.i64.wrap ((L : Int) - (k : Int)) = (L : Int) - (k : Int) := by rw [IntKind.wrap_i64]; omega
        by_cases hk2 : k < L
        · have hk2' : (k : Int) < (L : Int) := by omega
          have hkl : k < l.length := by rw [HLf.out.2]; exact hk2
          obtain ⟨g, rfl, hg1, hg2, hg3⟩ := HI.out.2.fv.ex.resolve_left (fun e => by rw [e] at hkl; simp at hkl)
          have hck := hg3 k hkl
          obtain ⟨i2, hi2⟩ : ∃ i2, l[k] = i2 := ⟨_, rfl⟩
          rw [hi2] at hck
          have hib := HLf.out.1.bd l[k] (List.getElem_mem hkl)
          rw [hi2] at hib
          have HFr : Hid (Calls Try.prog 13 #[.pointer (some ⟨t0, 0, none⟩), .agg #[.int .i64 (n : Int), .int .i64 98, .int .i64 (gI n), .int .i64 (lo : Int), .int .i64 (gC n)]] wr fun e w' => e = .returned (.tuple #[.int .i64 ((L : Int) - (k : Int)), .int .i64 0]) ∧ Below wr.heap.size wr w') := by
            have h9 := free_any wk wr D T1 n HI.out.2.fv.spc
            rw [HI.out.2.free HLf.out.1, HLf.out.2, HI.out.1, geoV, HC.out.1, show ((L - k : Nat) : Int) = (L : Int) - (k : Int) by omega] at h9
            exact h9
          have HTk : Hid (∀ wx, Below wr.heap.size wr wx → Calls Try.prog 6 #[.pointer (some ⟨t0, 0, none⟩), .agg #[.int .i64 (n : Int), .int .i64 98, .int .i64 (gI n), .int .i64 (lo : Int), .int .i64 (gC n)]] wx fun e w' => e = .returned (.tuple #[.int .i64 (i2 : Int), .int .i64 0]) ∧ ∃ T', T'.t = t0 ∧ Fl2 wk w' D T' n P (some ⟨g, 0, none⟩) l (k + 1) ∧ tv D T' i2 = one 0) := fun wx hb => by
            have h9 := (HI.out.2.on hb).take HLf.out.1 hkl
            rw [hi2, HI.out.1, geoV, HC.out.1] at h9
            exact h9
          have HRd : Hid (∀ wx T', T'.t = t0 → Fl2 wk wx D T' n P (some ⟨g, 0, none⟩) l (k + 1) → tv D T' i2 = one 0 → Calls Try.prog 12 #[.pointer (some ⟨t0, 0, none⟩), .int .i64 (i2 : Int)] wx fun e w' => ∃ g2 c2, e = .returned (.tuple #[.slice (some ⟨g2, 0, none⟩) 512 c2, .int .i64 0]) ∧ OwnB w' g2 c2 (one 0) ∧ Below wx.heap.size wx w') := fun wx T' h1 h2 h3 => by
            have h9 := h2.fv.spc.read i2 hib.2
            rw [h1, h3] at h9
            refine h9.mono ?_
            rintro e w' ⟨g2, c2, rfl, _, x1, x2⟩
            exact ⟨g2, c2, rfl, x1, x2⟩
          have HUs : Hid (∀ wx T', T'.t = t0 → Fl2 wk wx D T' n P (some ⟨g, 0, none⟩) l (k + 1) → Calls Try.prog 16 #[.pointer (some ⟨t0, 0, none⟩), .agg #[.int .i64 (n : Int), .int .i64 98, .int .i64 (gI n), .int .i64 (lo : Int), .int .i64 (gC n)], .int .i64 (i2 : Int)] wx fun e w' => e = .returned (.tuple #[.bool true, .int .i64 0]) ∧ Below wx.heap.size wx w') := fun wx T' h1 h2 => by
            have h9 := used_any wk wx D T' n h2.fv.spc i2 hib.2
            rw [show isT (bmp D T') i2 = true by rw [← hi2]; exact h2.isT HLf.out.1 hkl, h1, geoV, HC.out.1] at h9
            exact h9
          clear hi2 hib hg1 hg2 hg3 hkl
          go_upto_region 22 with (first
            | (go_at_call 13; refine HFr.out.mono ?_; rintro e w5 ⟨rfl, hb⟩; have H5 : Hid (Below wr.heap.size wr w5) := hb; obtain ⟨p0, p1, p2, p3, p4⟩ := HGe.out _ (HI.out.2.fv.geo.on hb); clear hb HFr)
            | (go_at_call 6; refine (HTk.out _ H5.out).mono ?_; rintro e w6 ⟨rfl, T2, h1, h2, h3⟩; have H6 : Hid (T2.t = t0 ∧ Fl2 wk w6 D T2 n P (some ⟨g, 0, none⟩) l (k + 1) ∧ tv D T2 i2 = one 0) := ⟨h1, h2, h3⟩; clear h1 h2 h3 HTk)
            | (go_at_call 12; refine (HRd.out w6 T2 H6.out.1 H6.out.2.1 H6.out.2.2).mono ?_; rintro e w7 ⟨g2, c2, rfl, h1, h2⟩; have H7 : Hid (OwnB w7 g2 c2 (one 0) ∧ Fl2 wk w7 D T2 n P (some ⟨g, 0, none⟩) l (k + 1)) := ⟨h1, H6.out.2.1.on h2⟩; clear h1 h2 HRd))
          have HD : Hid (Below w7.heap.size w7 w7.drew) := (Below.refl _ _).drew
          have HCa : Hid (∀ wx, Below w7.heap.size w7 wx → (convert 22 9 (.slice (some ⟨g2, 0, none⟩) 512 c2)).run Try.prog wx = .ok (.string (strOfNums (one 0))) wx) := fun wx hb => str_opt (H7.out.1.on hb).bytes (one_length _)
          have e0 := HCa.out _ HD.out
          go_cut [115] (fun s wx => s = .bool false ∧ Below w7.heap.size w7 wx)
          case first => as_aux_lemma =>
            refine wp_region_any (by as_aux_lemma => kernel_rfl) ?_
            try (change wpAny _ _ _ _ _ _ _ (World.drew _))
            refine wpAny_take (i := 0) (v := ?_) rfl (by as_aux_lemma => kernel_rfl) (by as_aux_lemma => kernel_rfl) (by as_aux_lemma => kernel_rfl) (fun _ _ _ h => h) (Or.inl ⟨by as_aux_lemma => kernel_rfl, ?_⟩) ?_
            rotate_left
            focus (intro w; go_simp; (try (with_reducible rfl)); done)
            go_simp
            refine wpAny_take (i := 1) (v := ?_) rfl (by as_aux_lemma => kernel_rfl) (by as_aux_lemma => kernel_rfl) (by as_aux_lemma => kernel_rfl) (fun _ _ _ h => h) (Or.inl ⟨by as_aux_lemma => kernel_rfl, ?_⟩) ?_
            rotate_left
            focus (intro w; go_simp; (try (with_reducible rfl)); done)
            go_simp
            refine wpAny_take (i := 2) (v := ?_) rfl (by as_aux_lemma => kernel_rfl) (by as_aux_lemma => kernel_rfl) (by as_aux_lemma => kernel_rfl) (fun _ _ _ h => h) (Or.inl ⟨by as_aux_lemma => kernel_rfl, ?_⟩) ?_
            rotate_left
            focus (intro w; go_simp; (try (with_reducible rfl)); done)
            go_simp
            refine wpAny_take (i := 3) (v := ?_) rfl (by as_aux_lemma => kernel_rfl) (by as_aux_lemma => kernel_rfl) (by as_aux_lemma => kernel_rfl) (fun _ _ _ h => h) (Or.inl ⟨by as_aux_lemma => kernel_rfl, ?_⟩) ?_
            rotate_left
            focus (intro w; go_simp; (try (with_reducible rfl)); done)
            go_simp
            refine wpAny_take (i := 4) (v := ?_) rfl (by as_aux_lemma => kernel_rfl) (by as_aux_lemma => kernel_rfl) (by as_aux_lemma => kernel_rfl) (fun _ _ _ h => h) (Or.inl ⟨by as_aux_lemma => kernel_rfl, ?_⟩) ?_
            rotate_left
            focus (intro w; go_simp; (try (with_reducible rfl)); done)
            go_simp
            refine wpAny_take (i := 5) (v := ?_) rfl (by as_aux_lemma => kernel_rfl) (by as_aux_lemma => kernel_rfl) (by as_aux_lemma => kernel_rfl) (fun _ _ _ h => h) (Or.inl ⟨by as_aux_lemma => kernel_rfl, ?_⟩) ?_
            rotate_left
            focus (intro w; go_simp; (try (with_reducible rfl)); done)
            go_simp
            refine wpAny_take (i := 6) (v := ?_) rfl (by as_aux_lemma => kernel_rfl) (by as_aux_lemma => kernel_rfl) (by as_aux_lemma => kernel_rfl) (fun _ _ _ h => h) (Or.inl ⟨by as_aux_lemma => kernel_rfl, ?_⟩) ?_
            rotate_left
            focus (intro w; go_simp; (try (with_reducible rfl)); done)
            go_simp
            refine wpAny_take (i := 7) (v := ?_) rfl (by as_aux_lemma => kernel_rfl) (by as_aux_lemma => kernel_rfl) (by as_aux_lemma => kernel_rfl) (fun _ _ _ h => h) (Or.inl ⟨by as_aux_lemma => kernel_rfl, ?_⟩) ?_
            rotate_left
            focus (intro w; go_simp; (try (with_reducible rfl)); done)
            go_simp
            refine wpAny_take (i := 8) (v := ?_) rfl (by as_aux_lemma => kernel_rfl) (by as_aux_lemma => kernel_rfl) (by as_aux_lemma => kernel_rfl) (fun _ _ _ h => h) (Or.inl ⟨by as_aux_lemma => kernel_rfl, ?_⟩) ?_
            rotate_left
            focus (intro w; go_simp; (try (with_reducible rfl)); done)
            go_simp
            refine wpAny_take (i := 9) (v := ?_) rfl (by as_aux_lemma => kernel_rfl) (by as_aux_lemma => kernel_rfl) (by as_aux_lemma => kernel_rfl) (fun _ _ _ h => h) (Or.inl ⟨by as_aux_lemma => kernel_rfl, ?_⟩) ?_
            rotate_left
            focus (intro w; go_simp; (try (with_reducible rfl)); done)
            go_simp
            refine wpAny_take (i := 10) (v := ?_) rfl (by as_aux_lemma => kernel_rfl) (by as_aux_lemma => kernel_rfl) (by as_aux_lemma => kernel_rfl) (fun _ _ _ h => h) (Or.inl ⟨by as_aux_lemma => kernel_rfl, ?_⟩) ?_
            rotate_left
            focus (intro w; go_simp; (try (with_reducible rfl)); done)
            go_simp
            refine wpAny_take (i := 11) (v := ?_) rfl (by as_aux_lemma => kernel_rfl) (by as_aux_lemma => kernel_rfl) (by as_aux_lemma => kernel_rfl) (fun _ _ _ h => h) (Or.inl ⟨by as_aux_lemma => kernel_rfl, ?_⟩) ?_
            rotate_left
            focus (intro w; go_simp; (try (with_reducible rfl)); done)
            go_simp
            refine wpAny_take (i := 12) (v := ?_) rfl (by as_aux_lemma => kernel_rfl) (by as_aux_lemma => kernel_rfl) (by as_aux_lemma => kernel_rfl) (fun _ _ _ h => h) (Or.inl ⟨by as_aux_lemma => kernel_rfl, ?_⟩) ?_
            rotate_left
            focus (intro w; go_simp; (try (with_reducible rfl)); done)
            go_simp
            refine wpAny_ready (rs := [13, 14]) (by as_aux_lemma => kernel_rfl) (by simp) ?_
            refine AllReady.cons rfl (fun K hK => ?_) ?_
            · go_simp
              try go_simp
              first
                | (refine hK _ _ ?_; clear hK K)
                | skip
              refine wpAny_ready (rs := [14]) (by as_aux_lemma => kernel_rfl) (by simp) ?_
              refine AllReady.cons rfl (fun K hK => ?_) ?_
              · (go_simp; go_at_call 11; refine (lblock_any _ 0 (by omega)).mono ?_; rintro e w8 ⟨rfl, ho, hb⟩; have H8 : Hid (Below w7.heap.size w7 w8) := HD.out.trans (hb.mono HD.out.size); have e1 := HCa.out _ H8.out; have e2 : (convert 22 9 (.slice (some ⟨w7.heap.size, 0, none⟩) 512 512)).run Try.prog w8 = .ok (.string (strOfNums (one 0))) w8 := str_opt ho.bytes (one_length _); clear ho hb)
                try go_simp
                first
                  | (refine hK _ _ ?_; clear hK K)
                  | skip
                refine wpAny_ready (rs := [15]) (by as_aux_lemma => kernel_rfl) (by simp) ?_
                refine AllReady.cons rfl (fun K hK => ?_) ?_
                · go_simp
                  try go_simp
                  first
                    | (refine hK _ _ ?_; clear hK K)
                    | skip
                  refine wpAny_take (i := 16) (v := ?_) rfl (by as_aux_lemma => kernel_rfl) (by as_aux_lemma => kernel_rfl) (by as_aux_lemma => kernel_rfl) (fun _ _ _ h => h) (Or.inl ⟨by as_aux_lemma => kernel_rfl, ?_⟩) ?_
                  rotate_left
                  focus (intro w; go_simp; (try (with_reducible rfl)); done)
                  go_simp
                  refine wpAny_take (i := 17) (v := ?_) rfl (by as_aux_lemma => kernel_rfl) (by as_aux_lemma => kernel_rfl) (by as_aux_lemma => kernel_rfl) (fun _ _ _ h => h) (Or.inl ⟨by as_aux_lemma => kernel_rfl, ?_⟩) ?_
                  rotate_left
                  focus (intro w; go_simp; (try (with_reducible rfl)); done)
                  go_simp
                  refine wpAny_done (by kernel_rfl) ?_ _
                  go_wp2
                  go_meet
                  case rel => exact ⟨by simp, H8.out⟩
                exact AllReady.nil
              exact AllReady.nil
            refine AllReady.cons rfl (fun K hK => ?_) ?_
            · (go_simp; go_at_call 11; refine (lblock_any _ 0 (by omega)).mono ?_; rintro e w8 ⟨rfl, ho, hb⟩; have H8 : Hid (Below w7.heap.size w7 w8) := HD.out.trans (hb.mono HD.out.size); have e1 := HCa.out _ H8.out; have e2 : (convert 22 9 (.slice (some ⟨w7.heap.size, 0, none⟩) 512 512)).run Try.prog w8 = .ok (.string (strOfNums (one 0))) w8 := str_opt ho.bytes (one_length _); clear ho hb)
              try go_simp
              first
                | (refine hK _ _ ?_; clear hK K)
                | skip
              refine wpAny_ready (rs := [13, 15]) (by as_aux_lemma => kernel_rfl) (by simp) ?_
              refine AllReady.cons rfl (fun K hK => ?_) ?_
              · go_simp
                try go_simp
                first
                  | (refine hK _ _ ?_; clear hK K)
                  | skip
                refine wpAny_ready (rs := [15]) (by as_aux_lemma => kernel_rfl) (by simp) ?_
                refine AllReady.cons rfl (fun K hK => ?_) ?_
                · go_simp
                  try go_simp
                  first
                    | (refine hK _ _ ?_; clear hK K)
                    | skip
                  refine wpAny_take (i := 16) (v := ?_) rfl (by as_aux_lemma => kernel_rfl) (by as_aux_lemma => kernel_rfl) (by as_aux_lemma => kernel_rfl) (fun _ _ _ h => h) (Or.inl ⟨by as_aux_lemma => kernel_rfl, ?_⟩) ?_
                  rotate_left
                  focus (intro w; go_simp; (try (with_reducible rfl)); done)
                  go_simp
                  refine wpAny_take (i := 17) (v := ?_) rfl (by as_aux_lemma => kernel_rfl) (by as_aux_lemma => kernel_rfl) (by as_aux_lemma => kernel_rfl) (fun _ _ _ h => h) (Or.inl ⟨by as_aux_lemma => kernel_rfl, ?_⟩) ?_
                  rotate_left
                  focus (intro w; go_simp; (try (with_reducible rfl)); done)
                  go_simp
                  refine wpAny_done (by kernel_rfl) ?_ _
                  go_wp2
                  go_meet
                  case rel => exact ⟨by simp, H8.out⟩
                exact AllReady.nil
              refine AllReady.cons rfl (fun K hK => ?_) ?_
              · go_simp
                try go_simp
                first
                  | (refine hK _ _ ?_; clear hK K)
                  | skip
                refine wpAny_ready (rs := [13]) (by as_aux_lemma => kernel_rfl) (by simp) ?_
                refine AllReady.cons rfl (fun K hK => ?_) ?_
                · go_simp
                  try go_simp
                  first
                    | (refine hK _ _ ?_; clear hK K)
                    | skip
                  refine wpAny_take (i := 16) (v := ?_) rfl (by as_aux_lemma => kernel_rfl) (by as_aux_lemma => kernel_rfl) (by as_aux_lemma => kernel_rfl) (fun _ _ _ h => h) (Or.inl ⟨by as_aux_lemma => kernel_rfl, ?_⟩) ?_
                  rotate_left
                  focus (intro w; go_simp; (try (with_reducible rfl)); done)
                  go_simp
                  refine wpAny_take (i := 17) (v := ?_) rfl (by as_aux_lemma => kernel_rfl) (by as_aux_lemma => kernel_rfl) (by as_aux_lemma => kernel_rfl) (fun _ _ _ h => h) (Or.inl ⟨by as_aux_lemma => kernel_rfl, ?_⟩) ?_
                  rotate_left
                  focus (intro w; go_simp; (try (with_reducible rfl)); done)
                  go_simp
                  refine wpAny_done (by kernel_rfl) ?_ _
                  go_wp2
                  go_meet
                  case rel => exact ⟨by simp, H8.out⟩
                exact AllReady.nil
              exact AllReady.nil
            exact AllReady.nil
          case rest =>
          obtain ⟨rfl, hbE⟩ := hcut
          have HE : Hid (Fl2 wk wc D T2 n P (some ⟨g, 0, none⟩) l (k + 1)) := H7.out.2.on hbE
          obtain ⟨q0, q1, q2, q3, q4⟩ := HGe.out _ HE.out.fv.geo
          clear hbE e0 HCa HD
          go_wp2_with (go_at_call 16; refine (HUs.out _ T2 H6.out.1 HE.out).mono ?_; rintro e w9 ⟨rfl, hb⟩; have H9 : Hid (Fl2 wk w9 D T2 n P (some ⟨g, 0, none⟩) l (k + 1)) := HE.out.on hb; clear hb)
          go_roundw
          case rel => exact ⟨k + 1, T2, by omega, by go_num, H6.out.1, H9.out⟩
          case measure => simp [intOf]; omega
        · have hkL : k = L := by omega
          have hk2' : ¬ (k : Int) < (L : Int) := by omega
          have HJ : Hid (T1.t = t0 ∧ Fl2 wk wr D T1 n P a l l.length) := by
            have h9 := HI.out
            rw [hkL, ← HLf.out.2] at h9
            exact h9
          obtain ⟨o, ho⟩ : ∃ o : Nat, 0 < L → order % ((L : Nat) : Int) = (o : Int) ∧ o < L := ⟨(order % ((L : Nat) : Int)).toNat, fun h => by
            have h1 := Int.emod_nonneg order (show ((L : Nat) : Int) ≠ 0 by omega)
            have h2 := Int.emod_lt_of_pos order (show (0 : Int) < ((L : Nat) : Int) by omega)
            omega⟩
          have HOo : Hid (0 < L → order % ((L : Nat) : Int) = (o : Int) ∧ o < L) := ho
          obtain ⟨tk, htk⟩ : ∃ tk : Nat, (if 0 < L then 1 else 0) = tk := ⟨_, rfl⟩
          have HTa : Hid (∀ wx, Calls Try.prog 17 #[.slice a L c] wx fun e w' => e = .returned (.int .i64 (tk : Int)) ∧ wx = w') := fun wx => by
            have h9 := taken9 wx a L c
            rw [show (if 0 < L then (1 : Int) else 0) = (tk : Int) by rw [← htk]; split <;> rfl] at h9
            exact h9
          have htb : tk ≤ 1 := by rw [← htk]; split <;> omega
          obtain ⟨Lt, hLt⟩ : ∃ Lt, L + tk = Lt := ⟨_, rfl⟩
          have eLt : (L : Int) + (tk : Int) = (Lt : Int) := by omega
          have hwL : IntKind.i64.wrap (Lt : Int) = (Lt : Int) := by rw [IntKind.wrap_i64]; omega
          have HTn : Hid (Calls Try.prog 6 #[.pointer (some ⟨t0, 0, none⟩), .agg #[.int .i64 (n : Int), .int .i64 98, .int .i64 (gI n), .int .i64 (lo : Int), .int .i64 (gC n)]] wr fun e w' => e = .returned (.tuple #[.int .i64 0, .int .i64 90]) ∧ Below wr.heap.size wr w') := by
            have h9 := stake_no wk wr D T1 n HJ.out.2.fv.spc (by rw [HJ.out.2.free HLf.out.1]; omega)
            rw [HJ.out.1, geoV, HC.out.1] at h9
            exact h9
          have HWr : Hid (∀ wx, Below wr.heap.size wr wx → Calls Try.prog 7 #[.pointer (some ⟨t0, 0, none⟩)] wx fun e w' => ∃ va vc, e = .returned (.slice va Lt vc) ∧ Below wx.heap.size wx w') := fun wx hb => by
            have h9 := written_len wx T1 (HJ.out.2.fv.spc.on hb).ses.tx Lt (by rw [HJ.out.2.fv.spc.nb, HJ.out.2.cnt, HLf.out.2, htk, hLt])
            rw [HJ.out.1] at h9
            exact h9
          clear ho htk hLt hkL HI
          go_wp2_with (first
            | (go_at_call 6; refine HTn.out.mono ?_; rintro e w5 ⟨rfl, hb⟩; have H5 : Hid (Below wr.heap.size wr w5) := hb; clear hb HTn)
            | (go_at_call 7; refine (HWr.out _ H5.out).mono ?_; rintro e w6 ⟨va, vc, rfl, hb⟩; have H6 : Hid (Below wr.heap.size wr w6) := H5.out.trans (hb.mono H5.out.size); clear hb)
            | (go_at_call 17; refine (HTa.out _).mono ?_; rintro e w' ⟨rfl, rfl⟩))
          have HS : Hid (T1.t = t0 ∧ Fl3 wk w6 D T1 n P a l o 0) := ⟨HJ.out.1, (HJ.out.2.done HLf.out.1 o).on H6.out⟩
          clear HJ H5 H6 HTa HWr z0 z1 z2 z3 z4
          go_loopw [151] (fun s151 wr => ∃ (k : Nat) (T : Tx), k ≤ L ∧ s151 = .int .i64 (k : Int) ∧ T.t = t0 ∧ Fl3 wk wr D T n P a l o k) (fun s151 _ => L - (intOf s151).toNat)
          case atStart => exact ⟨0, T1, Nat.zero_le _, rfl, HS.out⟩
          case round =>
            clear HS
            obtain ⟨k3, T3, hk3, rfl, hT3, hF3⟩ := hrel
            rename World => wr3
            obtain ⟨z0, z1, z2, z3, z4⟩ := HGe.out _ hF3.fv.geo
            have HI : Hid (T3.t = t0 ∧ Fl3 wk wr3 D T3 n P a l o k3) := ⟨hT3, hF3⟩
            clear hT3 hF3
            by_cases hk4 : k3 < L
            · have hk4' : (k3 : Int) < (L : Int) := by omega
              obtain ⟨ho1, ho2⟩ := HOo.out (by omega)
              obtain ⟨r, hr⟩ : ∃ r, (k3 + o) % L = r := ⟨_, rfl⟩
              have hrL : r < L := by rw [← hr]; exact Nat.mod_lt _ (by omega)
              have hrl : r < l.length := by rw [HLf.out.2]; exact hrL
              have hrL' : (r : Int) < (L : Int) := by omega
              have hwo : IntKind.i64.wrap ((k3 : Int) + (o : Int)) = (k3 : Int) + (o : Int) := by rw [IntKind.wrap_i64]; omega
              have HMa : Hid (∀ wx, Calls Try.prog 15 #[.int .i64 order, .int .i64 (L : Int)] wx fun e w' => e = .returned (.int .i64 (o : Int)) ∧ wx = w') := fun wx => by
                rw [← ho1]; exact mod_any wx order L (by omega) (by omega)
              have HMb : Hid (∀ wx, Calls Try.prog 15 #[.int .i64 ((k3 : Int) + (o : Int)), .int .i64 (L : Int)] wx fun e w' => e = .returned (.int .i64 (r : Int)) ∧ wx = w') := fun wx => by
                have h9 := mod_any wx ((k3 : Int) + (o : Int)) L (by omega) (by omega)
                rw [show ((k3 : Int) + (o : Int)) % ((L : Nat) : Int) = (r : Int) by rw [← hr]; push_cast; rfl] at h9
                exact h9
              obtain ⟨g, rfl, hg1, hg2, hg3⟩ := HI.out.2.fv.ex.resolve_left (fun e => by rw [e] at hrl; simp at hrl)
              have hck := hg3 r hrl
              obtain ⟨i3, hi3⟩ : ∃ i3, l[r] = i3 := ⟨_, rfl⟩
              rw [hi3] at hck
              have hib := HLf.out.1.bd l[r] (List.getElem_mem hrl)
              rw [hi3] at hib
              have HGv : Hid (Calls Try.prog 14 #[.pointer (some ⟨t0, 0, none⟩), .agg #[.int .i64 (n : Int), .int .i64 98, .int .i64 (gI n), .int .i64 (lo : Int), .int .i64 (gC n)], .int .i64 (i3 : Int)] wr3 fun e w' => e = .returned (.int .i64 0) ∧ ∃ T', T'.t = t0 ∧ Fl3 wk w' D T' n P (some ⟨g, 0, none⟩) l o (k3 + 1) ∧ isT (bmp D T') i3 = false) := by
                have h9 := HI.out.2.give HLf.out.1 (by rw [HLf.out.2]; exact ho2) (by rw [HLf.out.2]; exact hk4) i3 (by rw [HLf.out.2, hr, getD9 hrl, hi3])
                rw [HI.out.1, geoV, HC.out.1] at h9
                exact h9
              have HGf : Hid (∀ wx T', T'.t = t0 → Fl3 wk wx D T' n P (some ⟨g, 0, none⟩) l o (k3 + 1) → isT (bmp D T') i3 = false → Calls Try.prog 14 #[.pointer (some ⟨t0, 0, none⟩), .agg #[.int .i64 (n : Int), .int .i64 98, .int .i64 (gI n), .int .i64 (lo : Int), .int .i64 (gC n)], .int .i64 (i3 : Int)] wx fun e w' => e = .returned (.int .i64 91) ∧ Below wx.heap.size wx w') := fun wx T' h1 h2 h3 => by
                have h9 := give_free wk wx D T' n h2.fv.spc i3 hib.1 hib.2 h3
                rw [h1, geoV, HC.out.1] at h9
                exact h9
              clear hi3 hib hg1 hg2 hg3 hrl ho1 ho2 hr
              go_wp2_with (first
                | (go_at_call 15; refine (HMa.out _).mono ?_; rintro e w' ⟨rfl, rfl⟩; clear HMa)
                | (go_at_call 15; refine (HMb.out _).mono ?_; rintro e w' ⟨rfl, rfl⟩)
                | (go_at_call 14; refine HGv.out.mono ?_; rintro e w5 ⟨rfl, T5, h1, h2, h3⟩; have H5 : Hid (T5.t = t0 ∧ Fl3 wk w5 D T5 n P (some ⟨g, 0, none⟩) l o (k3 + 1) ∧ isT (bmp D T5) i3 = false) := ⟨h1, h2, h3⟩; obtain ⟨p0, p1, p2, p3, p4⟩ := HGe.out _ h2.fv.geo; clear h1 h2 h3 HGv)
                | (go_at_call 14; refine (HGf.out w5 T5 H5.out.1 H5.out.2.1 H5.out.2.2).mono ?_; rintro e w6 ⟨rfl, hb⟩; have H6 : Hid (Fl3 wk w6 D T5 n P (some ⟨g, 0, none⟩) l o (k3 + 1)) := H5.out.2.1.on hb; clear hb))
              go_roundw
              case rel => exact ⟨k3 + 1, T5, by omega, by go_num, H5.out.1, H6.out⟩
              case measure => simp [intOf]; omega
            · have hk4' : ¬ (k3 : Int) < (L : Int) := by omega
              have hkL3 : k3 = L := by omega
              have HJ : Hid (T3.t = t0 ∧ Fl3 wk wr3 D T3 n P a l o l.length) := by
                have h9 := HI.out
                rw [hkL3, ← HLf.out.2] at h9
                exact h9
              have HFr : Hid (Calls Try.prog 13 #[.pointer (some ⟨t0, 0, none⟩), .agg #[.int .i64 (n : Int), .int .i64 98, .int .i64 (gI n), .int .i64 (lo : Int), .int .i64 (gC n)]] wr3 fun e w' => e = .returned (.tuple #[.int .i64 (L : Int), .int .i64 0]) ∧ Below wr3.heap.size wr3 w') := by
                have h9 := free_any wk wr3 D T3 n HJ.out.2.fv.spc
                rw [HJ.out.2.freeAll HLf.out.1 (by
                  by_cases e : 0 < L
                  · left; rw [HLf.out.2]; exact (HOo.out e).2
                  · right; exact List.eq_nil_of_length_eq_zero (by rw [HLf.out.2]; omega)), HLf.out.2, HJ.out.1, geoV, HC.out.1] at h9
                exact h9
              have HFin : Hid (∀ wx T4, Spc wk wx D T4 n → Below w.heap.size w wx) := fun wx T4 h => HBw.out.trans (h.ses.bel.mono HBw.out.size)
              clear HI hkL3
              by_cases hL0 : L = 0
              · have hL0' : ((L : Int) == 0) = true := by simp; omega
                go_wp2_with (go_at_call 13; refine HFr.out.mono ?_; rintro e w5 ⟨rfl, hb⟩; have H5 : Hid (Below w.heap.size w w5) := HFin.out _ T3 (HJ.out.2.fv.spc.on hb); clear hb HFr)
                go_ret
                exact ⟨rfl, H5.out⟩
              · have hL0' : ((L : Int) == 0) = false := by simp; omega
                have hl0 : 0 < l.length := by rw [HLf.out.2]; omega
                obtain ⟨g, rfl, hg1, hg2, hg3⟩ := HJ.out.2.fv.ex.resolve_left (fun e => by rw [e] at hl0; simp at hl0)
                obtain ⟨i3, hi3⟩ : ∃ i3, l[0] = i3 := ⟨_, rfl⟩
                have HTk : Hid (∀ wx, Below wr3.heap.size wr3 wx → Calls Try.prog 6 #[.pointer (some ⟨t0, 0, none⟩), .agg #[.int .i64 (n : Int), .int .i64 98, .int .i64 (gI n), .int .i64 (lo : Int), .int .i64 (gC n)]] wx fun e w' => e = .returned (.tuple #[.int .i64 (i3 : Int), .int .i64 0]) ∧ Below w.heap.size w w' ∧ w'.cell? ⟨g, 0, none⟩ = some (.int .i64 (i3 : Int))) := fun wx hb => by
                  have h9 := (HJ.out.2.on hb).take HLf.out.1 (by rw [HLf.out.2]; exact (HOo.out (by omega)).2)
                  rw [hi3, HJ.out.1, geoV, HC.out.1] at h9
                  refine h9.mono ?_
                  rintro e w' ⟨rfl, T', h1, h2⟩
                  refine ⟨rfl, HFin.out _ T' h2.spc, ?_⟩
                  obtain ⟨g9, e9, _, _, hc9⟩ := h2.ex.resolve_left (fun e => by rw [e] at hl0; simp at hl0)
                  injection e9 with e9
                  injection e9 with e9
                  rw [e9, hc9 0 hl0, hi3]
                clear hi3 hg1 hg2 hg3 hl0
                go_wp2_with (first
                  | (go_at_call 13; refine HFr.out.mono ?_; rintro e w5 ⟨rfl, hb⟩; have H5 : Hid (Below wr3.heap.size wr3 w5) := hb; obtain ⟨p0, p1, p2, p3, p4⟩ := HGe.out _ (HJ.out.2.fv.geo.on hb); clear hb HFr)
                  | (go_at_call 6; refine (HTk.out _ H5.out).mono ?_; rintro e w6 ⟨rfl, h1, h2⟩; have H6 : Hid (Below w.heap.size w w6) := h1; clear h1 HTk))
                go_ret
                exact ⟨by simp, H6.out⟩
end Go.Proofs.Ytpbpblpbjkegfaa
