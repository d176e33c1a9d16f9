import Derived.Test.YtpheajiepnjhdaaDoorKADo
namespace Go.Proofs.YtpheajiepnjhdaaDoor
open Go.RowKit Rec

theorem log_nil {l : List Int} {nb : Nat} (hl : l.length = 512 * nb) (hn : 98 ≤ nb) (he : logE l nb = 0) (h0 : logN l nb = []) : bck l 1 = zs := by
  have h1 : numsE (bck l 1) nb = 0 := by
    unfold logE at he
    rw [if_neg (by omega)] at he
    by_cases c : numsE (bck l 1) nb = 0
    · exact c
    · rw [if_neg c] at he; exact he
  have hb : (bck l 1).length = 512 := bck_length l 1 nb hl (by omega)
  have hz : zr (bck l 1) 0 512 = true := by
    cases hz : zr (bck l 1) 0 512 with
    | true => rfl
    | false =>
      unfold numsE at h1
      rw [if_pos hb, hz] at h1
      have hH : isH (bck l 1) nb = true := by
        cases hH : isH (bck l 1) nb with
        | true => rfl
        | false => rw [hH] at h1; simp at h1
      unfold logN numsL at h0
      rw [if_pos ⟨hb, hz, hH⟩] at h0
      have e := hH
      simp only [isH, form, Bool.and_eq_true, decide_eq_true_eq] at e
      have h2 : 1 ≤ (nsOf (bck l 1)).length := by simpa [nsOf] using e.1.1.2.1
      rw [h0] at h2
      simp at h2
  have hz' : ∀ i, i < 512 → nth (bck l 1) (0 + i) = 0 := by simpa [zr] using hz
  refine ext_nth (by rw [hb, zs_length]) fun i hi => ?_
  rw [hb] at hi
  have := hz' i hi
  rw [Nat.zero_add] at this
  rw [this, nth_zs]
theorem Fresh.home {a : AD} {nb : Nat} {l : List Int} (h : Fresh a nb l) :
    a.takeE (homeA (logH l nb)) = 0 ∧ (a.take (homeA (logH l nb))).las = behind l nb ∧ (a.take (homeA (logH l nb))).wr = (logN l nb).length + 1 ∧ (a.take (homeA (logH l nb))).fl = 2 ∧ (a.take (homeA (logH l nb))).T = (grp [logH l nb, [(1, zs)]]).map actT := by
  rw [homeA_grp]
  obtain ⟨e1, e2⟩ := take_grp [logH l nb, [(1, zs)]] a h.pen h.down (by rw [h.at_]; exact .inl (Int.le_refl _))
  rw [e1, e2]
  refine ⟨rfl, ?_, ?_, ?_, ?_⟩
  · show fw a.las ([logH l nb, [(1, zs)]].flatten) = _
    rw [flt2, fw_append, h.las]; rfl
  · show a.wr + ([logH l nb, [(1, zs)]].flatten).length = _
    rw [flt2, List.length_append, logH_length, h.wr, Nat.zero_add]; rfl
  · show a.fl + 2 = 2
    rw [h.fl]
  · show a.T ++ _ = _
    rw [h.tape]; rfl
/-- what the tape of a recovery may name -/
def actOk (nb : Nat) (t : Int × Int × List Int) : Prop := t.1 = 2 ∨ (t.1 = 1 ∧ (t.2.1 = 1 ∨ (98 ≤ t.2.1 ∧ t.2.1 < nb)))
theorem grp_mem (gs : List (List (Nat × List Int))) (t : WA) (h : t ∈ grp gs) : t = none ∨ ∃ ws ∈ gs, ∃ p ∈ ws, t = some p := by
  induction gs with
  | nil => simp [grp] at h
  | cons ws gs ih =>
    rw [grp] at h
    rcases List.mem_append.1 h with h | h
    · obtain ⟨p, hp, rfl⟩ := List.mem_map.1 h
      exact .inr ⟨ws, .head _, p, hp, rfl⟩
    · rcases List.mem_cons.1 h with h | h
      · exact .inl h
      · rcases ih h with e | ⟨ws', h1, p, h2, e⟩
        · exact .inl e
        · exact .inr ⟨ws', .tail _ h1, p, h2, e⟩
theorem home_acts (l : List Int) (nb : Nat) (hl : l.length = 512 * nb) (hn : 98 ≤ nb) : ∀ t ∈ (grp [logH l nb, [(1, zs)]]).map actT, actOk nb t := by
  intro t ht
  obtain ⟨u, hu, rfl⟩ := List.mem_map.1 ht
  rcases grp_mem _ u hu with rfl | ⟨ws, hws, p, hp, rfl⟩
  · exact .inl rfl
  · refine .inr ⟨rfl, ?_⟩
    show (p.1 : Int) = 1 ∨ (98 ≤ (p.1 : Int) ∧ (p.1 : Int) < nb)
    simp only [List.mem_cons, List.not_mem_nil, or_false] at hws
    rcases hws with rfl | rfl
    · have := logH_ok l nb hl hn
      have h1 := this.lo p hp
      have h2 := this.hi p hp
      exact .inr ⟨by omega, by omega⟩
    · simp only [List.mem_cons, List.not_mem_nil, or_false] at hp
      subst hp
      exact .inl rfl
theorem tape_cell {w : World} {m : Nat} {g c : Nat} {L : List ActR} (h : AcR w m (.slice (some ⟨g, 0, none⟩) L.length c) L) (k : Nat) (hk : k < L.length) : w.cell? ⟨g, k * 3, none⟩ = some (.int .i64 (L[k]).kind) ∧ w.cell? ⟨g, k * 3 + 1, none⟩ = some (.int .i64 (L[k]).b) := by
  have h0 := h.row.cells (g := g) rfl (k * 3 + 0) (.int .i64 (L[k]).kind) (by rw [flat3 ActR.cells L k hk 0 (by omega) (fun _ => rfl)]; rfl)
  have h1 := h.row.cells (g := g) rfl (k * 3 + 1) (.int .i64 (L[k]).b) (by rw [flat3 ActR.cells L k hk 1 (by omega) (fun _ => rfl)]; rfl)
  rw [Addr.add_lit] at h0 h1
  simp only [Nat.zero_add, Nat.add_zero] at h0 h1
  exact ⟨h0, h1⟩
set_option maxRecDepth 100000 in
set_option maxHeartbeats 4000000 in
theorem hostile_any (w : World) (a0 a1 : Option Addr) (n0 c0 n1 c1 : Nat) (h0 h1 : List Int) (x : Int) (hb0 : Bytes w a0 h0) (hn0 : h0.length = n0) (hc0 : a0 = none → c0 = 0) (hb1 : Bytes w a1 h1) (hn1 : h1.length = n1) (hc1 : a1 = none → c1 = 0) (hT : TabAt w) :
    Calls Tryd.prog 5 #[.slice a0 n0 c0, .slice a1 n1 c1, .int .i64 x] w fun e w' => e = .returned (.bool true) ∧ Below w.heap.size w w' := by
  have HFx : Hid (Calls Tryd.prog 23 #[] w fun e w' => e = .returned (.bool true) ∧ Below w.heap.size w w') := fixed_any w hT
  obtain ⟨m, hm, hm2⟩ : ∃ m : Nat, x % 60 = (m : Int) ∧ m < 60 := ⟨(x % 60).toNat, by omega, by omega⟩
  have HMd : Hid (∀ wx, Calls Tryd.prog 24 #[.int .i64 x, .int .i64 60] wx fun e w' => e = .returned (.int .i64 m) ∧ wx = w') := fun wx => by
    have := wmod_any wx x 60 (by omega) (by omega)
    rw [show x % ((60 : Nat) : Int) = (m : Int) from hm] at this
    exact this
  obtain ⟨nb, hnb⟩ : ∃ nb : Nat, 90 + (m : Int) = (nb : Int) := ⟨90 + m, by omega⟩
  have n1' : 90 ≤ nb := by omega
  have n2' : nb ≤ 149 := by omega
  have HI : Hid (∀ wx, Below w.heap.size w wx → Bytes wx a0 h0 ∧ Bytes wx a1 h1) := fun wx hb => ⟨hb0.on hb, hb1.on hb⟩
  have HN : Hid (h0.length = n0 ∧ (a0 = none → c0 = 0) ∧ h1.length = n1 ∧ (a1 = none → c1 = 0)) := ⟨hn0, hc0, hn1, hc1⟩
  have HT : Hid (∀ wx, Below w.heap.size w wx → TabAt wx) := fun wx hb => hT.on hb
  have hptr := ptr_nil
  clear hb0 hb1 hn0 hc0 hn1 hc1 hm hm2 hT
  go_enter Tryd.func5, Tryd.ntmps5
  go_upto_region 5 with (first
    | (go_at_call 23; refine HFx.out.mono ?_; rintro e w1 ⟨rfl, hb⟩; have H1 : Hid (Below w.heap.size w w1) := hb; clear hb)
    | (go_at_call 24; refine (HMd.out _).mono ?_; rintro e w' ⟨rfl, rfl⟩)
    | (at_make; refine wp_makeB rfl _ _ rfl _ _ _ _ (512 * nb) rfl rfl (by omega) (by omega) (by omega) ?_; intro w2 ho hb; have H2 : Hid (OwnB w2 w1.heap.size (512 * nb) (zn (512 * nb)) ∧ Below w1.heap.size w1 w2) := ⟨ho, hb⟩; clear ho hb))
  clear hnb HMd HFx
  have H2b : Hid (Below w.heap.size w w2) := H1.out.trans (H2.out.2.mono H1.out.size)
  go_wp2
  obtain ⟨k1, w3, hrun, ⟨l1, ho1, hl1⟩, hf1⟩ := copy_len H2.out.1 3 512 512 (512 * nb - 512) (by rw [zn_length]; omega) a0 n0 c0 h0 (HI.out _ H2b.out).1 HN.out.1 HN.out.2.1
  rw [zn_length] at hl1
  have H3 : Hid (OwnB w3 w1.heap.size (512 * nb) l1 ∧ l1.length = 512 * nb ∧ Below w.heap.size w w3) := ⟨ho1, hl1, H2b.out.trans (hf1.below _ (fun k hk => by rw [hk]; exact H1.out.size) H2b.out.size)⟩
  clear ho1 hl1 hf1
  rw [hrun, Result.andThen_ok, Oper.upon_value]
  clear hrun
  have hne : ¬ 512 * nb = 1024 := by omega
  go_wp2
  obtain ⟨k2, w4, hrun, ⟨l, ho1, hl1⟩, hf1⟩ := copy_len H3.out.1 3 1024 (512 * nb - 1024) (512 * nb - 1024) (by rw [H3.out.2.1]; omega) a1 n1 c1 h1 (HI.out _ H3.out.2.2).2 HN.out.2.2.1 HN.out.2.2.2
  rw [H3.out.2.1] at hl1
  have H4 : Hid (OwnB w4 w1.heap.size (512 * nb) l ∧ l.length = 512 * nb ∧ Below w.heap.size w w4) := ⟨ho1, hl1, H3.out.2.2.trans (hf1.below _ (fun k hk => by rw [hk]; exact H1.out.size) H3.out.2.2.size)⟩
  clear ho1 hl1 hf1
  rw [hrun, Result.andThen_ok, Oper.upon_value]
  clear hrun hne
  have HOp : Hid (Calls Tryd.prog 25 #[.slice (some ⟨w1.heap.size, 0, none⟩) (512 * nb : Nat) (512 * nb)] w4 fun e w' => ∃ D, e = .returned (.tuple #[.pointer (some ⟨D.d, 0, none⟩), .int .i64 0]) ∧ Mine w4 w' D ∧ Fresh D.abs nb l) := open_fresh w4 ⟨w1.heap.size, 0, none⟩ (512 * nb) nb l H4.out.1.bytes H4.out.2.1 (by omega) (by omega)
  obtain ⟨g, hg⟩ : ∃ g, w1.heap.size = g := ⟨_, rfl⟩
  rw [hg] at HOp H4 ⊢
  go_upto_region 10 with (go_at_call 25; refine HOp.out.mono ?_; rintro e w5 ⟨D, rfl, hM, hF⟩; have H5 : Hid (Mine w4 w5 D ∧ Fresh D.abs nb l ∧ OwnB w5 g (512 * nb) l ∧ Below w.heap.size w w5) := ⟨hM, hF, H4.out.1.on hM.bel, H4.out.2.2.trans (hM.bel.mono H4.out.2.2.size)⟩; clear hM hF)
  have HLn : Hid (l.length = 512 * nb) := H4.out.2.1
  have HB4 : Hid (Below w.heap.size w w4) := H4.out.2.2
  clear H1 H2 H2b H3 H4 HOp hg HI HN
  have HDk : Hid (∀ wx, Below w5.heap.size w5 wx → Disk wx D ∧ TabAt wx) := fun wx hb => ⟨(H5.out.1.on hb).disk, HT.out _ (H5.out.2.2.2.trans (hb.mono H5.out.2.2.2.size))⟩
  have HSt : Hid (∀ wx, Below w5.heap.size w5 wx → Calls Tryd.prog 27 #[.pointer (some ⟨D.d, 0, none⟩)] wx fun e w' => e = .returned (.tuple #[.int .i64 0, .int .i64 0]) ∧ Below w5.heap.size w5 w') := fun wx hb => by
    refine (steps_any wx D (HDk.out _ hb).1).mono ?_
    rintro e w' ⟨rfl, hb'⟩
    have e1 : D.wr = 0 := H5.out.2.1.wr
    have e2 : D.fl = 0 := H5.out.2.1.fl
    exact ⟨by rw [e1, e2]; rfl, hb.trans (hb'.mono hb.size)⟩
  have HB0 : Hid (Below w5.heap.size w5 w5) := Below.refl _ _
  have HEo : Hid (openE D = logE l nb) := H5.out.2.1.openE
  have HNb : Hid (D.nb = nb) := H5.out.2.1.size
  have HIm : Hid (∀ wx, Below w5.heap.size w5 wx → Calls Tryd.prog 29 #[.pointer (some ⟨D.d, 0, none⟩)] wx fun e w' => ∃ g cap, e = .returned (.slice (some ⟨g, 0, none⟩) (512 * nb : Nat) cap) ∧ OwnB w' g cap l ∧ Below wx.heap.size wx w') := fun wx hb => by
    refine (image_any wx D (HDk.out _ hb).1).mono ?_
    rintro e w' ⟨g, cap, rfl, hg, ho, hb'⟩
    have e1 : D.las = l := H5.out.2.1.las
    rw [e1] at ho
    exact ⟨g, cap, by rw [HNb.out], ho, hb'⟩
  by_cases hE : logE l nb = 0
  · have h98 : 98 ≤ nb := by
      by_cases c : nb < 98
      · unfold logE at hE; rw [if_pos c] at hE; exact absurd hE (by decide)
      · omega
    have h98' : ¬ (nb : Int) < 98 := by omega
    have HEz : Hid (openE D = 0) := HEo.out.trans hE
    have HBe : Hid (∀ wx, Below w5.heap.size w5 wx → Calls Tryd.prog 26 #[.pointer (some ⟨D.d, 0, none⟩)] wx fun e w' => ∃ gt ct, e = .returned (.tuple #[.slice (some ⟨gt, 0, none⟩) (512 * nb : Nat) ct, .int .i64 0]) ∧ OwnB w' gt ct (behind l nb) ∧ wx.heap.size ≤ gt ∧ Below w5.heap.size w5 w') := fun wx hb => by
      refine (behind_yes wx D (HDk.out _ hb).1 (HDk.out _ hb).2 HEz.out).mono ?_
      rintro e w' ⟨gt, ct, rfl, ho, hg, hb'⟩
      rw [H5.out.2.1.full, HNb.out] at ho
      exact ⟨gt, ct, by rw [HNb.out], ho, hg, hb.trans (hb'.mono hb.size)⟩
    have HBl : Hid ((behind l nb).length = 512 * nb) := by rw [behind_length]; exact HLn.out
    by_cases h0 : logN l nb = []
    · have HX : Hid (behind l nb = l) := behind_empty HLn.out h98 (log_nil HLn.out h98 hE h0)
      rw [HX.out] at HBe
      have HRc : Hid (∀ wx, Below w5.heap.size w5 wx → Calls Tryd.prog 28 #[.pointer (some ⟨D.d, 0, none⟩)] wx fun e w' => e = .returned (.tuple #[.int .i64 0, .int .i64 0]) ∧ Below wx.heap.size wx w') := fun wx hb => recover_nil wx D (HDk.out _ hb).1 (HDk.out _ hb).2 HEz.out (by rw [H5.out.2.1.full, HNb.out]; exact h0)
      replace HSt : Hid (∀ wx, Below w5.heap.size w5 wx → Calls Tryd.prog 27 #[.pointer (some ⟨D.d, 0, none⟩)] wx fun e w' => e = .returned (.tuple #[.int .i64 0, .int .i64 0]) ∧ Below wx.heap.size wx w') := fun wx hb => by
        refine (steps_any wx D (HDk.out _ hb).1).mono ?_
        rintro e w' ⟨rfl, hb'⟩
        have e1 : D.wr = 0 := H5.out.2.1.wr
        have e2 : D.fl = 0 := H5.out.2.1.fl
        exact ⟨by rw [e1, e2]; rfl, hb'⟩
      clear hE h0 HBl HEz
      go_upto_region 20 with (first
        | (go_at_call 26; refine (HBe.out _ HB0.out).mono ?_; rintro e w6 ⟨gt, ct, rfl, ho, hg, hb⟩; have H6 : Hid (OwnB w6 gt ct l ∧ Below w5.heap.size w5 w6) := ⟨ho, hb⟩; clear ho hg hb HBe)
        | (go_at_call 27; have hh := HRc.out; clear hh; refine (HSt.out _ H6.out.2).mono ?_; rintro e w7 ⟨rfl, hb⟩; have H7 : Hid (OwnB w7 gt ct l ∧ Below w5.heap.size w5 w7) := ⟨H6.out.1.on hb, H6.out.2.trans (hb.mono H6.out.2.size)⟩; clear hb)
        | (go_at_call 28; refine (HRc.out _ H7.out.2).mono ?_; rintro e w8 ⟨rfl, hb⟩; have H8 : Hid (OwnB w8 gt ct l ∧ Below w5.heap.size w5 w8) := ⟨H7.out.1.on hb, H7.out.2.trans (hb.mono H7.out.2.size)⟩; clear hb HRc)
        | (go_at_call 27; refine (HSt.out _ H8.out.2).mono ?_; rintro e w9 ⟨rfl, hb⟩; have H9 : Hid (OwnB w9 gt ct l ∧ Below w5.heap.size w5 w9) := ⟨H8.out.1.on hb, H8.out.2.trans (hb.mono H8.out.2.size)⟩; clear hb))
      have HD : Hid (Below w9.heap.size w9 w9.drew) := (Below.refl _ w9).drew
      have HO9 : Hid (OwnB w9 g (512 * nb) l ∧ OwnB w9 gt ct l) := ⟨H5.out.2.2.1.on H9.out.2, H9.out.1⟩
      have HEnd : Hid (∀ wx, Below w9.heap.size w9 wx → Below w.heap.size w wx) := fun wx hx => H5.out.2.2.2.trans ((H9.out.2.trans (hx.mono H9.out.2.size)).mono H5.out.2.2.2.size)
      replace HIm : Hid (∀ wx, Below w9.heap.size w9 wx → Calls Tryd.prog 29 #[.pointer (some ⟨D.d, 0, none⟩)] wx fun e w' => ∃ g cap, e = .returned (.slice (some ⟨g, 0, none⟩) (512 * nb : Nat) cap) ∧ OwnB w' g cap l ∧ Below wx.heap.size wx w') := fun wx hb => HIm.out wx (H9.out.2.trans (hb.mono H9.out.2.size))
      have HCv : Hid (∀ wx, Below w9.heap.size w9 wx → (convert 23 9 (.slice (some ⟨gt, 0, none⟩) (512 * nb) ct)).run Tryd.prog wx = .ok (.string (strOfNums l)) wx) := fun wx hb => str_opt (HO9.out.2.on hb).bytes HLn.out
      have HCw : Hid (∀ wx, Below w9.heap.size w9 wx → (convert 23 9 (.slice (some ⟨g, 0, none⟩) (512 * nb) (512 * nb))).run Tryd.prog wx = .ok (.string (strOfNums l)) wx) := fun wx hb => str_opt (HO9.out.1.on hb).bytes HLn.out
      have e0 := HCv.out _ HD.out
      clear H5 H6 H7 H8 H9 HDk HSt HB0 HEo HNb HT HO9 HX
      go_cut [139] (fun s wx => s = .bool false ∧ Below w9.heap.size w9 wx)
      case first =>
          refine wp_region_any (by as_aux_lemma => kernel_rfl) ?_
          try (change wpAny _ _ _ _ _ _ _ (World.drew _))
          refine wpAny_take (i := 0) (v := ?_) rfl (by as_aux_lemma => kernel_rfl) (by as_aux_lemma => kernel_rfl) (by as_aux_lemma => kernel_rfl) (fun _ _ _ h => h) (Or.inl ⟨by as_aux_lemma => kernel_rfl, ?_⟩) ?_
          rotate_left
          focus (intro w; go_simp; (try (with_reducible rfl)); done)
          go_simp
          refine wpAny_take (i := 1) (v := ?_) rfl (by as_aux_lemma => kernel_rfl) (by as_aux_lemma => kernel_rfl) (by as_aux_lemma => kernel_rfl) (fun _ _ _ h => h) (Or.inl ⟨by as_aux_lemma => kernel_rfl, ?_⟩) ?_
          rotate_left
          focus (intro w; go_simp; (try (with_reducible rfl)); done)
          go_simp
          refine wpAny_take (i := 2) (v := ?_) rfl (by as_aux_lemma => kernel_rfl) (by as_aux_lemma => kernel_rfl) (by as_aux_lemma => kernel_rfl) (fun _ _ _ h => h) (Or.inl ⟨by as_aux_lemma => kernel_rfl, ?_⟩) ?_
          rotate_left
          focus (intro w; go_simp; (try (with_reducible rfl)); done)
          go_simp
          refine wpAny_take (i := 3) (v := ?_) rfl (by as_aux_lemma => kernel_rfl) (by as_aux_lemma => kernel_rfl) (by as_aux_lemma => kernel_rfl) (fun _ _ _ h => h) (Or.inl ⟨by as_aux_lemma => kernel_rfl, ?_⟩) ?_
          rotate_left
          focus (intro w; go_simp; (try (with_reducible rfl)); done)
          go_simp
          refine wpAny_take (i := 4) (v := ?_) rfl (by as_aux_lemma => kernel_rfl) (by as_aux_lemma => kernel_rfl) (by as_aux_lemma => kernel_rfl) (fun _ _ _ h => h) (Or.inl ⟨by as_aux_lemma => kernel_rfl, ?_⟩) ?_
          rotate_left
          focus (intro w; go_simp; (try (with_reducible rfl)); done)
          go_simp
          refine wpAny_take (i := 5) (v := ?_) rfl (by as_aux_lemma => kernel_rfl) (by as_aux_lemma => kernel_rfl) (by as_aux_lemma => kernel_rfl) (fun _ _ _ h => h) (Or.inl ⟨by as_aux_lemma => kernel_rfl, ?_⟩) ?_
          rotate_left
          focus (intro w; go_simp; (try (with_reducible rfl)); done)
          go_simp
          refine wpAny_take (i := 6) (v := ?_) rfl (by as_aux_lemma => kernel_rfl) (by as_aux_lemma => kernel_rfl) (by as_aux_lemma => kernel_rfl) (fun _ _ _ h => h) (Or.inl ⟨by as_aux_lemma => kernel_rfl, ?_⟩) ?_
          rotate_left
          focus (intro w; go_simp; (try (with_reducible rfl)); done)
          go_simp
          refine wpAny_take (i := 7) (v := ?_) rfl (by as_aux_lemma => kernel_rfl) (by as_aux_lemma => kernel_rfl) (by as_aux_lemma => kernel_rfl) (fun _ _ _ h => h) (Or.inl ⟨by as_aux_lemma => kernel_rfl, ?_⟩) ?_
          rotate_left
          focus (intro w; go_simp; (try (with_reducible rfl)); done)
          go_simp
          refine wpAny_take (i := 8) (v := ?_) rfl (by as_aux_lemma => kernel_rfl) (by as_aux_lemma => kernel_rfl) (by as_aux_lemma => kernel_rfl) (fun _ _ _ h => h) (Or.inl ⟨by as_aux_lemma => kernel_rfl, ?_⟩) ?_
          rotate_left
          focus (intro w; go_simp; (try (with_reducible rfl)); done)
          go_simp
          refine wpAny_take (i := 9) (v := ?_) rfl (by as_aux_lemma => kernel_rfl) (by as_aux_lemma => kernel_rfl) (by as_aux_lemma => kernel_rfl) (fun _ _ _ h => h) (Or.inl ⟨by as_aux_lemma => kernel_rfl, ?_⟩) ?_
          rotate_left
          focus (intro w; go_simp; (try (with_reducible rfl)); done)
          go_simp
          refine wpAny_take (i := 10) (v := ?_) rfl (by as_aux_lemma => kernel_rfl) (by as_aux_lemma => kernel_rfl) (by as_aux_lemma => kernel_rfl) (fun _ _ _ h => h) (Or.inl ⟨by as_aux_lemma => kernel_rfl, ?_⟩) ?_
          rotate_left
          focus (intro w; go_simp; (try (with_reducible rfl)); done)
          go_simp
          refine wpAny_take (i := 11) (v := ?_) rfl (by as_aux_lemma => kernel_rfl) (by as_aux_lemma => kernel_rfl) (by as_aux_lemma => kernel_rfl) (fun _ _ _ h => h) (Or.inl ⟨by as_aux_lemma => kernel_rfl, ?_⟩) ?_
          rotate_left
          focus (intro w; go_simp; (try (with_reducible rfl)); done)
          go_simp
          refine wpAny_take (i := 14) (v := ?_) rfl (by as_aux_lemma => kernel_rfl) (by as_aux_lemma => kernel_rfl) (by as_aux_lemma => kernel_rfl) (fun _ _ _ h => h) (Or.inl ⟨by as_aux_lemma => kernel_rfl, ?_⟩) ?_
          rotate_left
          focus (intro w; go_simp; (try (with_reducible rfl)); done)
          go_simp
          refine wpAny_ready (rs := [12, 15]) (by as_aux_lemma => kernel_rfl) (by simp) ?_
          refine AllReady.cons rfl (fun K hK => ?_) ?_
          · (go_simp; go_at_call 29; refine (HIm.out _ HD.out).mono ?_; rintro e w10 ⟨g10, c10, rfl, ho, hb⟩; have H10 : Hid (Below w9.heap.size w9 w10) := HD.out.trans (hb.mono HD.out.size); have e1 := HCv.out _ H10.out; have e2 := str_opt (c := c10) ho.bytes HLn.out; clear ho hb)
            try go_simp
            first
              | (refine hK _ _ ?_; clear hK K)
              | skip
            refine wpAny_ready (rs := [13, 15]) (by as_aux_lemma => kernel_rfl) (by simp) ?_
            refine AllReady.cons rfl (fun K hK => ?_) ?_
            · go_simp
              try go_simp
              first
                | (refine hK _ _ ?_; clear hK K)
                | skip
              refine wpAny_ready (rs := [15]) (by as_aux_lemma => kernel_rfl) (by simp) ?_
              refine AllReady.cons rfl (fun K hK => ?_) ?_
              · go_simp
                try go_simp
                first
                  | (refine hK _ _ ?_; clear hK K)
                  | skip
                refine wpAny_take (i := 16) (v := ?_) rfl (by as_aux_lemma => kernel_rfl) (by as_aux_lemma => kernel_rfl) (by as_aux_lemma => kernel_rfl) (fun _ _ _ h => h) (Or.inl ⟨by as_aux_lemma => kernel_rfl, ?_⟩) ?_
                rotate_left
                focus (intro w; go_simp; (try (with_reducible rfl)); done)
                go_simp
                refine wpAny_take (i := 17) (v := ?_) rfl (by as_aux_lemma => kernel_rfl) (by as_aux_lemma => kernel_rfl) (by as_aux_lemma => kernel_rfl) (fun _ _ _ h => h) (Or.inl ⟨by as_aux_lemma => kernel_rfl, ?_⟩) ?_
                rotate_left
                focus (intro w; go_simp; (try (with_reducible rfl)); done)
                go_simp
                refine wpAny_done (by kernel_rfl) ?_ _
                go_wp2
                go_meet
                case rel => exact ⟨by simp, H10.out⟩
              exact AllReady.nil
            refine AllReady.cons rfl (fun K hK => ?_) ?_
            · go_simp
              try go_simp
              first
                | (refine hK _ _ ?_; clear hK K)
                | skip
              refine wpAny_ready (rs := [13]) (by as_aux_lemma => kernel_rfl) (by simp) ?_
              refine AllReady.cons rfl (fun K hK => ?_) ?_
              · go_simp
                try go_simp
                first
                  | (refine hK _ _ ?_; clear hK K)
                  | skip
                refine wpAny_take (i := 16) (v := ?_) rfl (by as_aux_lemma => kernel_rfl) (by as_aux_lemma => kernel_rfl) (by as_aux_lemma => kernel_rfl) (fun _ _ _ h => h) (Or.inl ⟨by as_aux_lemma => kernel_rfl, ?_⟩) ?_
                rotate_left
                focus (intro w; go_simp; (try (with_reducible rfl)); done)
                go_simp
                refine wpAny_take (i := 17) (v := ?_) rfl (by as_aux_lemma => kernel_rfl) (by as_aux_lemma => kernel_rfl) (by as_aux_lemma => kernel_rfl) (fun _ _ _ h => h) (Or.inl ⟨by as_aux_lemma => kernel_rfl, ?_⟩) ?_
                rotate_left
                focus (intro w; go_simp; (try (with_reducible rfl)); done)
                go_simp
                refine wpAny_done (by kernel_rfl) ?_ _
                go_wp2
                go_meet
                case rel => exact ⟨by simp, H10.out⟩
              exact AllReady.nil
            exact AllReady.nil
          refine AllReady.cons rfl (fun K hK => ?_) ?_
          · go_simp
            try go_simp
            first
              | (refine hK _ _ ?_; clear hK K)
              | skip
            refine wpAny_ready (rs := [12]) (by as_aux_lemma => kernel_rfl) (by simp) ?_
            refine AllReady.cons rfl (fun K hK => ?_) ?_
            · (go_simp; go_at_call 29; refine (HIm.out _ HD.out).mono ?_; rintro e w10 ⟨g10, c10, rfl, ho, hb⟩; have H10 : Hid (Below w9.heap.size w9 w10) := HD.out.trans (hb.mono HD.out.size); have e1 := HCv.out _ H10.out; have e2 := str_opt (c := c10) ho.bytes HLn.out; clear ho hb)
              try go_simp
              first
                | (refine hK _ _ ?_; clear hK K)
                | skip
              refine wpAny_ready (rs := [13]) (by as_aux_lemma => kernel_rfl) (by simp) ?_
              refine AllReady.cons rfl (fun K hK => ?_) ?_
              · go_simp
                try go_simp
                first
                  | (refine hK _ _ ?_; clear hK K)
                  | skip
                refine wpAny_take (i := 16) (v := ?_) rfl (by as_aux_lemma => kernel_rfl) (by as_aux_lemma => kernel_rfl) (by as_aux_lemma => kernel_rfl) (fun _ _ _ h => h) (Or.inl ⟨by as_aux_lemma => kernel_rfl, ?_⟩) ?_
                rotate_left
                focus (intro w; go_simp; (try (with_reducible rfl)); done)
                go_simp
                refine wpAny_take (i := 17) (v := ?_) rfl (by as_aux_lemma => kernel_rfl) (by as_aux_lemma => kernel_rfl) (by as_aux_lemma => kernel_rfl) (fun _ _ _ h => h) (Or.inl ⟨by as_aux_lemma => kernel_rfl, ?_⟩) ?_
                rotate_left
                focus (intro w; go_simp; (try (with_reducible rfl)); done)
                go_simp
                refine wpAny_done (by kernel_rfl) ?_ _
                go_wp2
                go_meet
                case rel => exact ⟨by simp, H10.out⟩
              exact AllReady.nil
            exact AllReady.nil
          exact AllReady.nil

      case rest =>
      obtain ⟨rfl, hb11⟩ := hcut
      have f1 := HCv.out _ hb11
      have f2 := HCw.out _ hb11
      have HZ : Hid (Below w.heap.size w _) := HEnd.out _ hb11
      clear e0 hb11 HCv HCw HIm HD
      go_wp2
      go_ret
      exact ⟨rfl, HZ.out⟩
    · obtain ⟨k, hk⟩ : ∃ k, (logN l nb).length = k := ⟨_, rfl⟩
      have hk0 : 0 < k := by
        rcases Nat.eq_zero_or_pos k with e | e
        · exact absurd (List.length_eq_zero_iff.1 (hk.trans e)) h0
        · exact e
      have hk96 := logN_len l nb
      rw [hk] at hk96
      have HH := H5.out.2.1.home
      obtain ⟨y1, y2, y3, y4, y5⟩ := HH
      rw [hk] at y3
      have HRc : Hid (∀ wx, Below w5.heap.size w5 wx → Calls Tryd.prog 28 #[.pointer (some ⟨D.d, 0, none⟩)] wx fun e w' => e = .returned (.tuple #[.int .i64 k, .int .i64 0]) ∧ ∃ E, Disk w' E ∧ E.d = D.d ∧ E.nb = nb ∧ E.las = behind l nb ∧ E.wr = k + 1 ∧ E.fl = 2 ∧ E.abs.T = (grp [logH l nb, [(1, zs)]]).map actT ∧ Fr D.has wx w' ∧ Below w4.heap.size w4 w') := fun wx hb => by
        have hM := H5.out.1.on hb
        have hfl : D.full = l := H5.out.2.1.full
        have := recover_yes wx D (HDk.out _ hb).1 (HDk.out _ hb).2 HEz.out k (by rw [hfl, HNb.out]; exact hk) hk0 (H5.out.2.1.room _ (by omega))
        rw [hfl, HNb.out] at this
        refine this.mono ?_
        rintro e w' ⟨he, E, hE⟩
        have hE2 : E.abs = D.abs.take (homeA (logH l nb)) := hE.abs
        refine ⟨?_, E, hE.disk, hE.mv.d, hE.mv.nb.trans HNb.out, ?_, ?_, ?_, ?_, hE.mv.fr, (hM.done hE).bel⟩
        · rcases he with ⟨_, rfl⟩ | ⟨e1, _⟩
          · rfl
          · rw [y1] at e1; exact absurd e1 (by decide)
        · have : E.abs.las = _ := congrArg AD.las hE2
          rw [y2] at this; exact this
        · have : E.abs.wr = _ := congrArg AD.wr hE2
          rw [y3] at this; exact this
        · have : E.abs.fl = _ := congrArg AD.fl hE2
          rw [y4] at this; exact this
        · have : E.abs.T = _ := congrArg AD.T hE2
          rw [y5] at this; exact this
      have HAc : Hid (∀ t ∈ (grp [logH l nb, [(1, zs)]]).map actT, actOk nb t) := home_acts l nb HLn.out h98
      have HDh : Hid (∀ b, D.has b → b < w5.heap.size) := fun b hb => H5.out.1.disk.hasLt hb
      replace HSt : Hid (∀ wx, Below w5.heap.size w5 wx → Calls Tryd.prog 27 #[.pointer (some ⟨D.d, 0, none⟩)] wx fun e w' => e = .returned (.tuple #[.int .i64 0, .int .i64 0]) ∧ Below wx.heap.size wx w') := fun wx hb => by
        refine (steps_any wx D (HDk.out _ hb).1).mono ?_
        rintro e w' ⟨rfl, hb'⟩
        have e1 : D.wr = 0 := H5.out.2.1.wr
        have e2 : D.fl = 0 := H5.out.2.1.fl
        exact ⟨by rw [e1, e2]; rfl, hb'⟩
      clear hE h0 HEz hk y1 y2 y3 y4 y5 HIm HLn
      have HLn : Hid ((behind l nb).length = 512 * nb) := HBl.out
      clear HBl
      obtain ⟨X, hX⟩ : ∃ X, behind l nb = X := ⟨_, rfl⟩
      rw [hX] at HBe HRc HLn
      clear hX
      obtain ⟨T, hT⟩ : ∃ T, (grp [logH l nb, [(1, zs)]]).map actT = T := ⟨_, rfl⟩
      rw [hT] at HRc HAc
      have HTl : Hid (T.length ≤ 1000) := by
        rw [← hT, List.length_map, grp_length_cons, grp_length_cons, logH_length]
        simp only [grp, List.length_cons, List.length_nil]
        show _ + 1 + _ ≤ 1000
        have := logN_len l nb
        omega
      clear hT
      go_upto_region 15 with (first
        | (go_at_call 26; refine (HBe.out _ HB0.out).mono ?_; rintro e w6 ⟨gt, ct, rfl, ho, hg, hb⟩; have H6 : Hid (OwnB w6 gt ct X ∧ w5.heap.size ≤ gt ∧ Below w5.heap.size w5 w6) := ⟨ho, hg, hb⟩; clear ho hg hb HBe)
        | (go_at_call 27; have hh := HRc.out; clear hh; refine (HSt.out _ H6.out.2.2).mono ?_; rintro e w7 ⟨rfl, hb⟩; have H7 : Hid (OwnB w7 gt ct X ∧ Below w5.heap.size w5 w7) := ⟨H6.out.1.on hb, H6.out.2.2.trans (hb.mono H6.out.2.2.size)⟩; clear hb)
        | (go_at_call 28; refine (HRc.out _ H7.out.2).mono ?_; rintro e w8 ⟨rfl, E, hd, hdd, hn, hl, hw, hf, ht, hfr, hb⟩; have H8 : Hid (OwnB w8 gt ct X ∧ Disk w8 E ∧ E.nb = nb ∧ E.las = X ∧ E.wr = k + 1 ∧ E.fl = 2 ∧ E.abs.T = T ∧ Below w4.heap.size w4 w8) := ⟨H7.out.1.fr hfr (fun e => by have := HDh.out _ e; have := H6.out.2.1; omega), hd, hn, hl, hw, hf, ht, hb⟩; rw [← hdd]; clear hd hdd hn hl hw hf ht hfr hb HRc))
      have HSt2 : Hid (Calls Tryd.prog 27 #[.pointer (some ⟨E.d, 0, none⟩)] w8 fun e w' => e = .returned (.tuple #[.int .i64 ((k : Int) + 1), .int .i64 2]) ∧ Below w8.heap.size w8 w') := by
        refine (steps_any w8 E H8.out.2.1).mono ?_
        rintro e w' ⟨rfl, hb'⟩
        exact ⟨by rw [H8.out.2.2.2.2.1, H8.out.2.2.2.2.2.1]; rfl, hb'⟩
      go_upto_region 20 with (go_at_call 27; refine HSt2.out.mono ?_; rintro e w9 ⟨rfl, hb⟩; have H9 : Hid (Below w8.heap.size w8 w9) := hb; clear hb)
      have HD : Hid (Below w9.heap.size w9 w9.drew) := (Below.refl _ w9).drew
      have HO9 : Hid (OwnB w9 gt ct X ∧ Disk w9 E) := ⟨H8.out.1.on H9.out, H8.out.2.1.on H9.out⟩
      have HEnd : Hid (∀ wx, Below w9.heap.size w9 wx → Below w.heap.size w wx) := fun wx hx => by
        have h48 : Below w4.heap.size w4 wx := (H8.out.2.2.2.2.2.2.2.trans (H9.out.mono H8.out.2.2.2.2.2.2.2.size)).trans (hx.mono (Nat.le_trans H8.out.2.2.2.2.2.2.2.size H9.out.size))
        exact HB4.out.trans (h48.mono HB4.out.size)
      have HIm : Hid (∀ wx, Below w9.heap.size w9 wx → Calls Tryd.prog 29 #[.pointer (some ⟨E.d, 0, none⟩)] wx fun e w' => ∃ g cap, e = .returned (.slice (some ⟨g, 0, none⟩) (512 * nb : Nat) cap) ∧ OwnB w' g cap X ∧ Below wx.heap.size wx w') := fun wx hb => by
        refine (image_any wx E (HO9.out.2.on hb)).mono ?_
        rintro e w' ⟨g, cap, rfl, hg, ho, hb'⟩
        rw [H8.out.2.2.2.1] at ho
        exact ⟨g, cap, by rw [H8.out.2.2.1], ho, hb'⟩
      have HTp : Hid (∀ wx, Below w9.heap.size w9 wx → Calls Tryd.prog 30 #[.pointer (some ⟨E.d, 0, none⟩), .int .i64 0] wx fun e w' => ∃ v L, e = .returned v ∧ AcR w' nb v L ∧ L.map ActR.abs = T ∧ Below wx.heap.size wx w') := fun wx hb => by
        refine (tape0_any wx E (HO9.out.2.on hb)).mono ?_
        rintro e w' ⟨v, L, rfl, h1, h2, h3, _⟩
        rw [H8.out.2.2.1] at h1
        exact ⟨v, L, rfl, h1, h2.trans H8.out.2.2.2.2.2.2.1, h3⟩
      have HCv : Hid (∀ wx, Below w9.heap.size w9 wx → (convert 23 9 (.slice (some ⟨gt, 0, none⟩) (512 * nb) ct)).run Tryd.prog wx = .ok (.string (strOfNums X)) wx) := fun wx hb => str_opt (HO9.out.1.on hb).bytes HLn.out
      have e0 := HCv.out _ HD.out
      have hk0' : ((k : Int) == 0) = false := by simp; omega
      have hk96' : decide ((96 : Int) < (k : Int)) = false := by simp; omega
      have hk96'' : decide ((k : Int) ≤ 96) = true := by simp; omega
      clear H5 H6 H7 H8 H9 HDk HSt HB0 HEo HNb HT HO9 HSt2 HDh
      go_cut [139] (fun s wx => s = .bool false ∧ Below w9.heap.size w9 wx)
      case first =>
          refine wp_region_any (by as_aux_lemma => kernel_rfl) ?_
          try (change wpAny _ _ _ _ _ _ _ (World.drew _))
          refine wpAny_take (i := 0) (v := ?_) rfl (by as_aux_lemma => kernel_rfl) (by as_aux_lemma => kernel_rfl) (by as_aux_lemma => kernel_rfl) (fun _ _ _ h => h) (Or.inl ⟨by as_aux_lemma => kernel_rfl, ?_⟩) ?_
          rotate_left
          focus (intro w; go_simp; (try (with_reducible rfl)); done)
          go_simp
          refine wpAny_take (i := 1) (v := ?_) rfl (by as_aux_lemma => kernel_rfl) (by as_aux_lemma => kernel_rfl) (by as_aux_lemma => kernel_rfl) (fun _ _ _ h => h) (Or.inl ⟨by as_aux_lemma => kernel_rfl, ?_⟩) ?_
          rotate_left
          focus (intro w; go_simp; (try (with_reducible rfl)); done)
          go_simp
          refine wpAny_take (i := 2) (v := ?_) rfl (by as_aux_lemma => kernel_rfl) (by as_aux_lemma => kernel_rfl) (by as_aux_lemma => kernel_rfl) (fun _ _ _ h => h) (Or.inl ⟨by as_aux_lemma => kernel_rfl, ?_⟩) ?_
          rotate_left
          focus (intro w; go_simp; (try (with_reducible rfl)); done)
          go_simp
          refine wpAny_take (i := 3) (v := ?_) rfl (by as_aux_lemma => kernel_rfl) (by as_aux_lemma => kernel_rfl) (by as_aux_lemma => kernel_rfl) (fun _ _ _ h => h) (Or.inl ⟨by as_aux_lemma => kernel_rfl, ?_⟩) ?_
          rotate_left
          focus (intro w; go_simp; (try (with_reducible rfl)); done)
          go_simp
          refine wpAny_take (i := 4) (v := ?_) rfl (by as_aux_lemma => kernel_rfl) (by as_aux_lemma => kernel_rfl) (by as_aux_lemma => kernel_rfl) (fun _ _ _ h => h) (Or.inl ⟨by as_aux_lemma => kernel_rfl, ?_⟩) ?_
          rotate_left
          focus (intro w; go_simp; (try (with_reducible rfl)); done)
          go_simp
          refine wpAny_take (i := 5) (v := ?_) rfl (by as_aux_lemma => kernel_rfl) (by as_aux_lemma => kernel_rfl) (by as_aux_lemma => kernel_rfl) (fun _ _ _ h => h) (Or.inl ⟨by as_aux_lemma => kernel_rfl, ?_⟩) ?_
          rotate_left
          focus (intro w; go_simp; (try (with_reducible rfl)); done)
          go_simp
          refine wpAny_take (i := 6) (v := ?_) rfl (by as_aux_lemma => kernel_rfl) (by as_aux_lemma => kernel_rfl) (by as_aux_lemma => kernel_rfl) (fun _ _ _ h => h) (Or.inl ⟨by as_aux_lemma => kernel_rfl, ?_⟩) ?_
          rotate_left
          focus (intro w; go_simp; (try (with_reducible rfl)); done)
          go_simp
          refine wpAny_take (i := 7) (v := ?_) rfl (by as_aux_lemma => kernel_rfl) (by as_aux_lemma => kernel_rfl) (by as_aux_lemma => kernel_rfl) (fun _ _ _ h => h) (Or.inl ⟨by as_aux_lemma => kernel_rfl, ?_⟩) ?_
          rotate_left
          focus (intro w; go_simp; (try (with_reducible rfl)); done)
          go_simp
          refine wpAny_take (i := 8) (v := ?_) rfl (by as_aux_lemma => kernel_rfl) (by as_aux_lemma => kernel_rfl) (by as_aux_lemma => kernel_rfl) (fun _ _ _ h => h) (Or.inl ⟨by as_aux_lemma => kernel_rfl, ?_⟩) ?_
          rotate_left
          focus (intro w; go_simp; (try (with_reducible rfl)); done)
          go_simp
          refine wpAny_take (i := 9) (v := ?_) rfl (by as_aux_lemma => kernel_rfl) (by as_aux_lemma => kernel_rfl) (by as_aux_lemma => kernel_rfl) (fun _ _ _ h => h) (Or.inl ⟨by as_aux_lemma => kernel_rfl, ?_⟩) ?_
          rotate_left
          focus (intro w; go_simp; (try (with_reducible rfl)); done)
          go_simp
          refine wpAny_take (i := 10) (v := ?_) rfl (by as_aux_lemma => kernel_rfl) (by as_aux_lemma => kernel_rfl) (by as_aux_lemma => kernel_rfl) (fun _ _ _ h => h) (Or.inl ⟨by as_aux_lemma => kernel_rfl, ?_⟩) ?_
          rotate_left
          focus (intro w; go_simp; (try (with_reducible rfl)); done)
          go_simp
          refine wpAny_take (i := 11) (v := ?_) rfl (by as_aux_lemma => kernel_rfl) (by as_aux_lemma => kernel_rfl) (by as_aux_lemma => kernel_rfl) (fun _ _ _ h => h) (Or.inl ⟨by as_aux_lemma => kernel_rfl, ?_⟩) ?_
          rotate_left
          focus (intro w; go_simp; (try (with_reducible rfl)); done)
          go_simp
          refine wpAny_take (i := 14) (v := ?_) rfl (by as_aux_lemma => kernel_rfl) (by as_aux_lemma => kernel_rfl) (by as_aux_lemma => kernel_rfl) (fun _ _ _ h => h) (Or.inl ⟨by as_aux_lemma => kernel_rfl, ?_⟩) ?_
          rotate_left
          focus (intro w; go_simp; (try (with_reducible rfl)); done)
          go_simp
          refine wpAny_ready (rs := [12, 15]) (by as_aux_lemma => kernel_rfl) (by simp) ?_
          refine AllReady.cons rfl (fun K hK => ?_) ?_
          · (go_simp; go_at_call 29; refine (HIm.out _ HD.out).mono ?_; rintro e w10 ⟨g10, c10, rfl, ho, hb⟩; have H10 : Hid (Below w9.heap.size w9 w10) := HD.out.trans (hb.mono HD.out.size); have e1 := HCv.out _ H10.out; have e2 := str_opt (c := c10) ho.bytes HLn.out; clear ho hb)
            try go_simp
            first
              | (refine hK _ _ ?_; clear hK K)
              | skip
            refine wpAny_ready (rs := [13, 15]) (by as_aux_lemma => kernel_rfl) (by simp) ?_
            refine AllReady.cons rfl (fun K hK => ?_) ?_
            · go_simp
              try go_simp
              first
                | (refine hK _ _ ?_; clear hK K)
                | skip
              refine wpAny_ready (rs := [15]) (by as_aux_lemma => kernel_rfl) (by simp) ?_
              refine AllReady.cons rfl (fun K hK => ?_) ?_
              · go_simp
                try go_simp
                first
                  | (refine hK _ _ ?_; clear hK K)
                  | skip
                refine wpAny_take (i := 16) (v := ?_) rfl (by as_aux_lemma => kernel_rfl) (by as_aux_lemma => kernel_rfl) (by as_aux_lemma => kernel_rfl) (fun _ _ _ h => h) (Or.inl ⟨by as_aux_lemma => kernel_rfl, ?_⟩) ?_
                rotate_left
                focus (intro w; go_simp; (try (with_reducible rfl)); done)
                go_simp
                refine wpAny_take (i := 17) (v := ?_) rfl (by as_aux_lemma => kernel_rfl) (by as_aux_lemma => kernel_rfl) (by as_aux_lemma => kernel_rfl) (fun _ _ _ h => h) (Or.inl ⟨by as_aux_lemma => kernel_rfl, ?_⟩) ?_
                rotate_left
                focus (intro w; go_simp; (try (with_reducible rfl)); done)
                go_simp
                refine wpAny_done (by kernel_rfl) ?_ _
                go_wp2
                go_meet
                case rel => exact ⟨by simp, H10.out⟩
              exact AllReady.nil
            refine AllReady.cons rfl (fun K hK => ?_) ?_
            · go_simp
              try go_simp
              first
                | (refine hK _ _ ?_; clear hK K)
                | skip
              refine wpAny_ready (rs := [13]) (by as_aux_lemma => kernel_rfl) (by simp) ?_
              refine AllReady.cons rfl (fun K hK => ?_) ?_
              · go_simp
                try go_simp
                first
                  | (refine hK _ _ ?_; clear hK K)
                  | skip
                refine wpAny_take (i := 16) (v := ?_) rfl (by as_aux_lemma => kernel_rfl) (by as_aux_lemma => kernel_rfl) (by as_aux_lemma => kernel_rfl) (fun _ _ _ h => h) (Or.inl ⟨by as_aux_lemma => kernel_rfl, ?_⟩) ?_
                rotate_left
                focus (intro w; go_simp; (try (with_reducible rfl)); done)
                go_simp
                refine wpAny_take (i := 17) (v := ?_) rfl (by as_aux_lemma => kernel_rfl) (by as_aux_lemma => kernel_rfl) (by as_aux_lemma => kernel_rfl) (fun _ _ _ h => h) (Or.inl ⟨by as_aux_lemma => kernel_rfl, ?_⟩) ?_
                rotate_left
                focus (intro w; go_simp; (try (with_reducible rfl)); done)
                go_simp
                refine wpAny_done (by kernel_rfl) ?_ _
                go_wp2
                go_meet
                case rel => exact ⟨by simp, H10.out⟩
              exact AllReady.nil
            exact AllReady.nil
          refine AllReady.cons rfl (fun K hK => ?_) ?_
          · go_simp
            try go_simp
            first
              | (refine hK _ _ ?_; clear hK K)
              | skip
            refine wpAny_ready (rs := [12]) (by as_aux_lemma => kernel_rfl) (by simp) ?_
            refine AllReady.cons rfl (fun K hK => ?_) ?_
            · (go_simp; go_at_call 29; refine (HIm.out _ HD.out).mono ?_; rintro e w10 ⟨g10, c10, rfl, ho, hb⟩; have H10 : Hid (Below w9.heap.size w9 w10) := HD.out.trans (hb.mono HD.out.size); have e1 := HCv.out _ H10.out; have e2 := str_opt (c := c10) ho.bytes HLn.out; clear ho hb)
              try go_simp
              first
                | (refine hK _ _ ?_; clear hK K)
                | skip
              refine wpAny_ready (rs := [13]) (by as_aux_lemma => kernel_rfl) (by simp) ?_
              refine AllReady.cons rfl (fun K hK => ?_) ?_
              · go_simp
                try go_simp
                first
                  | (refine hK _ _ ?_; clear hK K)
                  | skip
                refine wpAny_take (i := 16) (v := ?_) rfl (by as_aux_lemma => kernel_rfl) (by as_aux_lemma => kernel_rfl) (by as_aux_lemma => kernel_rfl) (fun _ _ _ h => h) (Or.inl ⟨by as_aux_lemma => kernel_rfl, ?_⟩) ?_
                rotate_left
                focus (intro w; go_simp; (try (with_reducible rfl)); done)
                go_simp
                refine wpAny_take (i := 17) (v := ?_) rfl (by as_aux_lemma => kernel_rfl) (by as_aux_lemma => kernel_rfl) (by as_aux_lemma => kernel_rfl) (fun _ _ _ h => h) (Or.inl ⟨by as_aux_lemma => kernel_rfl, ?_⟩) ?_
                rotate_left
                focus (intro w; go_simp; (try (with_reducible rfl)); done)
                go_simp
                refine wpAny_done (by kernel_rfl) ?_ _
                go_wp2
                go_meet
                case rel => exact ⟨by simp, H10.out⟩
              exact AllReady.nil
            exact AllReady.nil
          exact AllReady.nil

      case rest =>
      obtain ⟨rfl, hb11⟩ := hcut
      have H11 : Hid (Below w9.heap.size w9 _) := hb11
      clear e0 hb11 HCv HIm HD
      go_upto_region 25 with (go_at_call 30; refine (HTp.out _ H11.out).mono ?_; rintro e w12 ⟨v, L, rfl, h1, h2, h3⟩; have H12 : Hid (AcR w12 nb v L ∧ L.map ActR.abs = T ∧ Below w9.heap.size w9 w12) := ⟨h1, h2, H11.out.trans (h3.mono H11.out.size)⟩; clear h1 h2 h3 HTp)
      obtain ⟨va, vc, hv⟩ := own_form H12.out.1.row
      obtain ⟨n, hn⟩ : ∃ n, L.length = n := ⟨_, rfl⟩
      rw [hn] at hv
      subst hv
      have HLL : Hid (L.length = n) := hn
      have hn2 : n ≤ 1000000 := by
        have h1 := congrArg List.length H12.out.2.1
        rw [List.length_map] at h1
        have := HTl.out
        omega
      clear hn
      have HAk : Hid (∀ j (hj : j < L.length), (L[j].kind = 2 ∨ (L[j].kind = 1 ∧ L[j].b = 1) ∨ (L[j].kind = 1 ∧ 98 ≤ L[j].b ∧ L[j].b < nb))) := fun j hj => by
        have := HAc.out (L[j].abs) (by rw [← H12.out.2.1]; exact List.mem_map_of_mem (List.getElem_mem hj))
        rcases this with e | ⟨e1, e2 | e2⟩
        · exact .inl e
        · exact .inr (.inl ⟨e1, e2⟩)
        · exact .inr (.inr ⟨e1, e2⟩)
      have HZ : Hid (Below w.heap.size w w12) := HEnd.out _ H12.out.2.2
      go_wp2
      go_loop [18] (fun s => ∃ j : Nat, j ≤ n ∧ s = .int .i64 j) (fun s => n - (intOf s).toNat)
      case atStart => exact ⟨0, Nat.zero_le _, rfl⟩
      case round =>
        obtain ⟨j, hj, rfl⟩ := hrel
        by_cases hlt : j < n
        · have hjl : j < L.length := by rw [HLL.out]; exact hlt
          obtain ⟨gv, e⟩ : ∃ gv, va = some ⟨gv, 0, none⟩ := by
            obtain ⟨gv, cv, e⟩ := own_some H12.out.1.row (by omega)
            cases e; exact ⟨gv, rfl⟩
          subst e
          have hA := H12.out.1
          rw [← HLL.out] at hA
          obtain ⟨d1, d2⟩ := tape_cell hA j hjl
          have hok := HAk.out j hjl
          generalize (L[j]).kind = kd at d1 hok
          generalize (L[j]).b = bb at d2 hok
          clear hA hjl
          rcases hok with e | ⟨e1, e2⟩ | ⟨e1, e2, e3⟩
          · subst e
            go_wp2
            go_round
            case rel => exact ⟨j + 1, by omega, by go_num⟩
            case measure => simp [intOf]; omega
          · subst e1 e2
            go_wp2
            go_round
            case rel => exact ⟨j + 1, by omega, by go_num⟩
            case measure => simp [intOf]; omega
          · subst e1
            have x1 : ¬ bb = 1 := by omega
            have x2 : ¬ bb < 98 := by omega
            have x3 : ¬ (nb : Int) ≤ bb := by omega
            go_wp2
            go_round
            case rel => exact ⟨j + 1, by omega, by go_num⟩
            case measure => simp [intOf]; omega
        · go_wp2
          go_ret
          exact ⟨rfl, HZ.out⟩
  · have HE : Hid (logE l nb ≠ 0) := hE
    have HBe : Hid (∀ wx, Below w5.heap.size w5 wx → Calls Tryd.prog 26 #[.pointer (some ⟨D.d, 0, none⟩)] wx fun e w' => e = .returned (.tuple #[.slice none 0 0, .int .i64 (logE l nb)]) ∧ Below w5.heap.size w5 w') := fun wx hb => by
      have := behind_no wx D (HDk.out _ hb).1 (HDk.out _ hb).2 (by rw [HEo.out]; exact HE.out)
      rw [HEo.out] at this
      refine this.mono ?_
      rintro e w' ⟨rfl, hb'⟩
      exact ⟨rfl, hb.trans (hb'.mono hb.size)⟩
    have HRc : Hid (∀ wx, Below w5.heap.size w5 wx → Calls Tryd.prog 28 #[.pointer (some ⟨D.d, 0, none⟩)] wx fun e w' => e = .returned (.tuple #[.int .i64 0, .int .i64 (logE l nb)]) ∧ Below w5.heap.size w5 w') := fun wx hb => by
      have := recover_no wx D (HDk.out _ hb).1 (HDk.out _ hb).2 (by rw [HEo.out]; exact HE.out)
      rw [HEo.out] at this
      refine this.mono ?_
      rintro e w' ⟨rfl, hb'⟩
      exact ⟨rfl, hb.trans (hb'.mono hb.size)⟩
    clear hE
    by_cases h98 : nb < 98
    · have e31 : logE l nb = 31 := by unfold logE; rw [if_pos h98]
      rw [e31] at HBe HRc
      clear e31
      go_wp2_with (first
        | (go_at_call 26; refine (HBe.out _ HB0.out).mono ?_; rintro e w6 ⟨rfl, hb⟩; have H6 : Hid (Below w5.heap.size w5 w6) := hb; clear hb HBe)
        | (go_at_call 27; have hh := HRc.out; clear hh; refine (HSt.out _ H6.out).mono ?_; rintro e w7 ⟨rfl, hb⟩; have H7 : Hid (Below w5.heap.size w5 w7) := hb; clear hb)
        | (go_at_call 28; refine (HRc.out _ H7.out).mono ?_; rintro e w8 ⟨rfl, hb⟩; have H8 : Hid (Below w5.heap.size w5 w8) := hb; clear hb HRc)
        | (go_at_call 27; refine (HSt.out _ H8.out).mono ?_; rintro e w9 ⟨rfl, hb⟩; have H9 : Hid (Below w5.heap.size w5 w9) := hb; clear hb))
      go_ret
      exact ⟨rfl, H5.out.2.2.2.trans (H9.out.mono H5.out.2.2.2.size)⟩
    · have e41 : logE l nb = 41 := (logE_vals l nb HLn.out (by omega)).resolve_left HE.out
      rw [e41] at HBe HRc
      clear e41
      have h98' : ¬ (nb : Int) < 98 := by omega
      go_upto_region 19 with (first
        | (go_at_call 26; refine (HBe.out _ HB0.out).mono ?_; rintro e w6 ⟨rfl, hb⟩; have H6 : Hid (Below w5.heap.size w5 w6) := hb; clear hb HBe)
        | (go_at_call 27; have hh := HRc.out; clear hh; refine (HSt.out _ H6.out).mono ?_; rintro e w7 ⟨rfl, hb⟩; have H7 : Hid (Below w5.heap.size w5 w7) := hb; clear hb)
        | (go_at_call 28; refine (HRc.out _ H7.out).mono ?_; rintro e w8 ⟨rfl, hb⟩; have H8 : Hid (Below w5.heap.size w5 w8) := hb; clear hb HRc)
        | (go_at_call 27; refine (HSt.out _ H8.out).mono ?_; rintro e w9 ⟨rfl, hb⟩; have H9 : Hid (Below w5.heap.size w5 w9) := hb; clear hb))
      have HD : Hid (Below w9.heap.size w9 w9.drew) := (Below.refl _ w9).drew
      have HO9 : Hid (OwnB w9 g (512 * nb) l) := H5.out.2.2.1.on H9.out
      have HEnd : Hid (∀ wx, Below w9.heap.size w9 wx → Below w.heap.size w wx) := fun wx hx => H5.out.2.2.2.trans ((H9.out.trans (hx.mono H9.out.size)).mono H5.out.2.2.2.size)
      replace HIm : Hid (∀ wx, Below w9.heap.size w9 wx → Calls Tryd.prog 29 #[.pointer (some ⟨D.d, 0, none⟩)] wx fun e w' => ∃ g cap, e = .returned (.slice (some ⟨g, 0, none⟩) (512 * nb : Nat) cap) ∧ OwnB w' g cap l ∧ Below wx.heap.size wx w') := fun wx hb => HIm.out wx (H9.out.trans (hb.mono H9.out.size))
      have HCv : Hid (∀ wx, Below w9.heap.size w9 wx → (convert 23 9 (.slice (some ⟨g, 0, none⟩) (512 * nb) (512 * nb))).run Tryd.prog wx = .ok (.string (strOfNums l)) wx) := fun wx hb => str_opt (HO9.out.on hb).bytes HLn.out
      have e0 := HCv.out _ HD.out
      clear H5 H6 H7 H8 H9 HDk HSt HB0 HEo HNb HE HT HO9
      go_cut [6] (fun s wx => s = .bool true ∧ Below w9.heap.size w9 wx)
      case first =>
          refine wp_region_any (by as_aux_lemma => kernel_rfl) ?_
          try (change wpAny _ _ _ _ _ _ _ (World.drew _))
          refine wpAny_take (i := 0) (v := ?_) rfl (by as_aux_lemma => kernel_rfl) (by as_aux_lemma => kernel_rfl) (by as_aux_lemma => kernel_rfl) (fun _ _ _ h => h) (Or.inl ⟨by as_aux_lemma => kernel_rfl, ?_⟩) ?_
          rotate_left
          focus (intro w; go_simp; (try (with_reducible rfl)); done)
          go_simp
          refine wpAny_take (i := 1) (v := ?_) rfl (by as_aux_lemma => kernel_rfl) (by as_aux_lemma => kernel_rfl) (by as_aux_lemma => kernel_rfl) (fun _ _ _ h => h) (Or.inl ⟨by as_aux_lemma => kernel_rfl, ?_⟩) ?_
          rotate_left
          focus (intro w; go_simp; (try (with_reducible rfl)); done)
          go_simp
          refine wpAny_take (i := 2) (v := ?_) rfl (by as_aux_lemma => kernel_rfl) (by as_aux_lemma => kernel_rfl) (by as_aux_lemma => kernel_rfl) (fun _ _ _ h => h) (Or.inl ⟨by as_aux_lemma => kernel_rfl, ?_⟩) ?_
          rotate_left
          focus (intro w; go_simp; (try (with_reducible rfl)); done)
          go_simp
          refine wpAny_take (i := 3) (v := ?_) rfl (by as_aux_lemma => kernel_rfl) (by as_aux_lemma => kernel_rfl) (by as_aux_lemma => kernel_rfl) (fun _ _ _ h => h) (Or.inl ⟨by as_aux_lemma => kernel_rfl, ?_⟩) ?_
          rotate_left
          focus (intro w; go_simp; (try (with_reducible rfl)); done)
          go_simp
          refine wpAny_take (i := 4) (v := ?_) rfl (by as_aux_lemma => kernel_rfl) (by as_aux_lemma => kernel_rfl) (by as_aux_lemma => kernel_rfl) (fun _ _ _ h => h) (Or.inl ⟨by as_aux_lemma => kernel_rfl, ?_⟩) ?_
          rotate_left
          focus (intro w; go_simp; (try (with_reducible rfl)); done)
          go_simp
          refine wpAny_take (i := 5) (v := ?_) rfl (by as_aux_lemma => kernel_rfl) (by as_aux_lemma => kernel_rfl) (by as_aux_lemma => kernel_rfl) (fun _ _ _ h => h) (Or.inl ⟨by as_aux_lemma => kernel_rfl, ?_⟩) ?_
          rotate_left
          focus (intro w; go_simp; (try (with_reducible rfl)); done)
          go_simp
          refine wpAny_take (i := 6) (v := ?_) rfl (by as_aux_lemma => kernel_rfl) (by as_aux_lemma => kernel_rfl) (by as_aux_lemma => kernel_rfl) (fun _ _ _ h => h) (Or.inl ⟨by as_aux_lemma => kernel_rfl, ?_⟩) ?_
          rotate_left
          focus (intro w; go_simp; (try (with_reducible rfl)); done)
          go_simp
          refine wpAny_take (i := 7) (v := ?_) rfl (by as_aux_lemma => kernel_rfl) (by as_aux_lemma => kernel_rfl) (by as_aux_lemma => kernel_rfl) (fun _ _ _ h => h) (Or.inl ⟨by as_aux_lemma => kernel_rfl, ?_⟩) ?_
          rotate_left
          focus (intro w; go_simp; (try (with_reducible rfl)); done)
          go_simp
          refine wpAny_take (i := 8) (v := ?_) rfl (by as_aux_lemma => kernel_rfl) (by as_aux_lemma => kernel_rfl) (by as_aux_lemma => kernel_rfl) (fun _ _ _ h => h) (Or.inl ⟨by as_aux_lemma => kernel_rfl, ?_⟩) ?_
          rotate_left
          focus (intro w; go_simp; (try (with_reducible rfl)); done)
          go_simp
          refine wpAny_take (i := 9) (v := ?_) rfl (by as_aux_lemma => kernel_rfl) (by as_aux_lemma => kernel_rfl) (by as_aux_lemma => kernel_rfl) (fun _ _ _ h => h) (Or.inl ⟨by as_aux_lemma => kernel_rfl, ?_⟩) ?_
          rotate_left
          focus (intro w; go_simp; (try (with_reducible rfl)); done)
          go_simp
          refine wpAny_take (i := 10) (v := ?_) rfl (by as_aux_lemma => kernel_rfl) (by as_aux_lemma => kernel_rfl) (by as_aux_lemma => kernel_rfl) (fun _ _ _ h => h) (Or.inl ⟨by as_aux_lemma => kernel_rfl, ?_⟩) ?_
          rotate_left
          focus (intro w; go_simp; (try (with_reducible rfl)); done)
          go_simp
          refine wpAny_take (i := 11) (v := ?_) rfl (by as_aux_lemma => kernel_rfl) (by as_aux_lemma => kernel_rfl) (by as_aux_lemma => kernel_rfl) (fun _ _ _ h => h) (Or.inl ⟨by as_aux_lemma => kernel_rfl, ?_⟩) ?_
          rotate_left
          focus (intro w; go_simp; (try (with_reducible rfl)); done)
          go_simp
          refine wpAny_take (i := 12) (v := ?_) rfl (by as_aux_lemma => kernel_rfl) (by as_aux_lemma => kernel_rfl) (by as_aux_lemma => kernel_rfl) (fun _ _ _ h => h) (Or.inl ⟨by as_aux_lemma => kernel_rfl, ?_⟩) ?_
          rotate_left
          focus (intro w; go_simp; (try (with_reducible rfl)); done)
          go_simp
          refine wpAny_take (i := 13) (v := ?_) rfl (by as_aux_lemma => kernel_rfl) (by as_aux_lemma => kernel_rfl) (by as_aux_lemma => kernel_rfl) (fun _ _ _ h => h) (Or.inl ⟨by as_aux_lemma => kernel_rfl, ?_⟩) ?_
          rotate_left
          focus (intro w; go_simp; (try (with_reducible rfl)); done)
          go_simp
          refine wpAny_take (i := 14) (v := ?_) rfl (by as_aux_lemma => kernel_rfl) (by as_aux_lemma => kernel_rfl) (by as_aux_lemma => kernel_rfl) (fun _ _ _ h => h) (Or.inl ⟨by as_aux_lemma => kernel_rfl, ?_⟩) ?_
          rotate_left
          focus (intro w; go_simp; (try (with_reducible rfl)); done)
          go_simp
          refine wpAny_take (i := 15) (v := ?_) rfl (by as_aux_lemma => kernel_rfl) (by as_aux_lemma => kernel_rfl) (by as_aux_lemma => kernel_rfl) (fun _ _ _ h => h) (Or.inl ⟨by as_aux_lemma => kernel_rfl, ?_⟩) ?_
          rotate_left
          focus (intro w; go_simp; (try (with_reducible rfl)); done)
          go_simp
          refine wpAny_take (i := 16) (v := ?_) rfl (by as_aux_lemma => kernel_rfl) (by as_aux_lemma => kernel_rfl) (by as_aux_lemma => kernel_rfl) (fun _ _ _ h => h) (Or.inl ⟨by as_aux_lemma => kernel_rfl, ?_⟩) ?_
          rotate_left
          focus (intro w; go_simp; (try (with_reducible rfl)); done)
          go_simp
          refine wpAny_take (i := 17) (v := ?_) rfl (by as_aux_lemma => kernel_rfl) (by as_aux_lemma => kernel_rfl) (by as_aux_lemma => kernel_rfl) (fun _ _ _ h => h) (Or.inl ⟨by as_aux_lemma => kernel_rfl, ?_⟩) ?_
          rotate_left
          focus (intro w; go_simp; (try (with_reducible rfl)); done)
          go_simp
          refine wpAny_take (i := 18) (v := ?_) rfl (by as_aux_lemma => kernel_rfl) (by as_aux_lemma => kernel_rfl) (by as_aux_lemma => kernel_rfl) (fun _ _ _ h => h) (Or.inl ⟨by as_aux_lemma => kernel_rfl, ?_⟩) ?_
          rotate_left
          focus (intro w; go_simp; (try (with_reducible rfl)); done)
          go_simp
          refine wpAny_take (i := 19) (v := ?_) rfl (by as_aux_lemma => kernel_rfl) (by as_aux_lemma => kernel_rfl) (by as_aux_lemma => kernel_rfl) (fun _ _ _ h => h) (Or.inl ⟨by as_aux_lemma => kernel_rfl, ?_⟩) ?_
          rotate_left
          focus (intro w; go_simp; (try (with_reducible rfl)); done)
          go_simp
          refine wpAny_take (i := 20) (v := ?_) rfl (by as_aux_lemma => kernel_rfl) (by as_aux_lemma => kernel_rfl) (by as_aux_lemma => kernel_rfl) (fun _ _ _ h => h) (Or.inl ⟨by as_aux_lemma => kernel_rfl, ?_⟩) ?_
          rotate_left
          focus (intro w; go_simp; (try (with_reducible rfl)); done)
          go_simp
          refine wpAny_take (i := 23) (v := ?_) rfl (by as_aux_lemma => kernel_rfl) (by as_aux_lemma => kernel_rfl) (by as_aux_lemma => kernel_rfl) (fun _ _ _ h => h) (Or.inl ⟨by as_aux_lemma => kernel_rfl, ?_⟩) ?_
          rotate_left
          focus (intro w; go_simp; (try (with_reducible rfl)); done)
          go_simp
          refine wpAny_ready (rs := [21, 24]) (by as_aux_lemma => kernel_rfl) (by simp) ?_
          refine AllReady.cons rfl (fun K hK => ?_) ?_
          · (go_simp; go_at_call 29; refine (HIm.out _ HD.out).mono ?_; rintro e w10 ⟨g10, c10, rfl, ho, hb⟩; have H10 : Hid (Below w9.heap.size w9 w10) := HD.out.trans (hb.mono HD.out.size); have e1 := HCv.out _ H10.out; have e2 := str_opt (c := c10) ho.bytes HLn.out; clear ho hb)
            try go_simp
            first
              | (refine hK _ _ ?_; clear hK K)
              | skip
            refine wpAny_ready (rs := [22, 24]) (by as_aux_lemma => kernel_rfl) (by simp) ?_
            refine AllReady.cons rfl (fun K hK => ?_) ?_
            · go_simp
              try go_simp
              first
                | (refine hK _ _ ?_; clear hK K)
                | skip
              refine wpAny_ready (rs := [24]) (by as_aux_lemma => kernel_rfl) (by simp) ?_
              refine AllReady.cons rfl (fun K hK => ?_) ?_
              · go_simp
                try go_simp
                first
                  | (refine hK _ _ ?_; clear hK K)
                  | skip
                refine wpAny_take (i := 25) (v := ?_) rfl (by as_aux_lemma => kernel_rfl) (by as_aux_lemma => kernel_rfl) (by as_aux_lemma => kernel_rfl) (fun _ _ _ h => h) (Or.inl ⟨by as_aux_lemma => kernel_rfl, ?_⟩) ?_
                rotate_left
                focus (intro w; go_simp; (try (with_reducible rfl)); done)
                go_simp
                refine wpAny_take (i := 26) (v := ?_) rfl (by as_aux_lemma => kernel_rfl) (by as_aux_lemma => kernel_rfl) (by as_aux_lemma => kernel_rfl) (fun _ _ _ h => h) (Or.inl ⟨by as_aux_lemma => kernel_rfl, ?_⟩) ?_
                rotate_left
                focus (intro w; go_simp; (try (with_reducible rfl)); done)
                go_simp
                refine wpAny_take (i := 27) (v := ?_) rfl (by as_aux_lemma => kernel_rfl) (by as_aux_lemma => kernel_rfl) (by as_aux_lemma => kernel_rfl) (fun _ _ _ h => h) (Or.inl ⟨by as_aux_lemma => kernel_rfl, ?_⟩) ?_
                rotate_left
                focus (intro w; go_simp; (try (with_reducible rfl)); done)
                go_simp
                refine wpAny_done (by kernel_rfl) ?_ _
                go_wp2
                go_meet
                case rel => exact ⟨by simp, H10.out⟩
              exact AllReady.nil
            refine AllReady.cons rfl (fun K hK => ?_) ?_
            · go_simp
              try go_simp
              first
                | (refine hK _ _ ?_; clear hK K)
                | skip
              refine wpAny_ready (rs := [22]) (by as_aux_lemma => kernel_rfl) (by simp) ?_
              refine AllReady.cons rfl (fun K hK => ?_) ?_
              · go_simp
                try go_simp
                first
                  | (refine hK _ _ ?_; clear hK K)
                  | skip
                refine wpAny_take (i := 25) (v := ?_) rfl (by as_aux_lemma => kernel_rfl) (by as_aux_lemma => kernel_rfl) (by as_aux_lemma => kernel_rfl) (fun _ _ _ h => h) (Or.inl ⟨by as_aux_lemma => kernel_rfl, ?_⟩) ?_
                rotate_left
                focus (intro w; go_simp; (try (with_reducible rfl)); done)
                go_simp
                refine wpAny_take (i := 26) (v := ?_) rfl (by as_aux_lemma => kernel_rfl) (by as_aux_lemma => kernel_rfl) (by as_aux_lemma => kernel_rfl) (fun _ _ _ h => h) (Or.inl ⟨by as_aux_lemma => kernel_rfl, ?_⟩) ?_
                rotate_left
                focus (intro w; go_simp; (try (with_reducible rfl)); done)
                go_simp
                refine wpAny_take (i := 27) (v := ?_) rfl (by as_aux_lemma => kernel_rfl) (by as_aux_lemma => kernel_rfl) (by as_aux_lemma => kernel_rfl) (fun _ _ _ h => h) (Or.inl ⟨by as_aux_lemma => kernel_rfl, ?_⟩) ?_
                rotate_left
                focus (intro w; go_simp; (try (with_reducible rfl)); done)
                go_simp
                refine wpAny_done (by kernel_rfl) ?_ _
                go_wp2
                go_meet
                case rel => exact ⟨by simp, H10.out⟩
              exact AllReady.nil
            exact AllReady.nil
          refine AllReady.cons rfl (fun K hK => ?_) ?_
          · go_simp
            try go_simp
            first
              | (refine hK _ _ ?_; clear hK K)
              | skip
            refine wpAny_ready (rs := [21]) (by as_aux_lemma => kernel_rfl) (by simp) ?_
            refine AllReady.cons rfl (fun K hK => ?_) ?_
            · (go_simp; go_at_call 29; refine (HIm.out _ HD.out).mono ?_; rintro e w10 ⟨g10, c10, rfl, ho, hb⟩; have H10 : Hid (Below w9.heap.size w9 w10) := HD.out.trans (hb.mono HD.out.size); have e1 := HCv.out _ H10.out; have e2 := str_opt (c := c10) ho.bytes HLn.out; clear ho hb)
              try go_simp
              first
                | (refine hK _ _ ?_; clear hK K)
                | skip
              refine wpAny_ready (rs := [22]) (by as_aux_lemma => kernel_rfl) (by simp) ?_
              refine AllReady.cons rfl (fun K hK => ?_) ?_
              · go_simp
                try go_simp
                first
                  | (refine hK _ _ ?_; clear hK K)
                  | skip
                refine wpAny_take (i := 25) (v := ?_) rfl (by as_aux_lemma => kernel_rfl) (by as_aux_lemma => kernel_rfl) (by as_aux_lemma => kernel_rfl) (fun _ _ _ h => h) (Or.inl ⟨by as_aux_lemma => kernel_rfl, ?_⟩) ?_
                rotate_left
                focus (intro w; go_simp; (try (with_reducible rfl)); done)
                go_simp
                refine wpAny_take (i := 26) (v := ?_) rfl (by as_aux_lemma => kernel_rfl) (by as_aux_lemma => kernel_rfl) (by as_aux_lemma => kernel_rfl) (fun _ _ _ h => h) (Or.inl ⟨by as_aux_lemma => kernel_rfl, ?_⟩) ?_
                rotate_left
                focus (intro w; go_simp; (try (with_reducible rfl)); done)
                go_simp
                refine wpAny_take (i := 27) (v := ?_) rfl (by as_aux_lemma => kernel_rfl) (by as_aux_lemma => kernel_rfl) (by as_aux_lemma => kernel_rfl) (fun _ _ _ h => h) (Or.inl ⟨by as_aux_lemma => kernel_rfl, ?_⟩) ?_
                rotate_left
                focus (intro w; go_simp; (try (with_reducible rfl)); done)
                go_simp
                refine wpAny_done (by kernel_rfl) ?_ _
                go_wp2
                go_meet
                case rel => exact ⟨by simp, H10.out⟩
              exact AllReady.nil
            exact AllReady.nil
          exact AllReady.nil

      case rest =>
      obtain ⟨rfl, hb11⟩ := hcut
      go_wp2
      go_ret
      exact ⟨rfl, HEnd.out _ hb11⟩
end Go.Proofs.YtpheajiepnjhdaaDoor
