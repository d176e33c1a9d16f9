import Derived.Test.YtpheajiepnjhdaaDoorWKm
namespace Go.Proofs.YtpheajiepnjhdaaDoor
open Go.RowKit Rec

/-- rows of puts that are handed in -/
structure PPs (w : World) (a : Option Addr) (LL : List (List (Int × Int))) : Prop where
  len : LL.length ≤ 1000000000000000
  at_ : LL = [] ∨ ∃ b off, a = some ⟨b, off, none⟩ ∧ ∀ i P, LL[i]? = some P → ∃ a' c', w.cell? ⟨b, off + i, none⟩ = some (.slice a' P.length c') ∧ PtsAt w a' P
theorem PPs.on {w w' : World} {a : Option Addr} {LL : List (List (Int × Int))} (h : PPs w a LL) (hb : Below w.heap.size w w') : PPs w' a LL := by
  refine ⟨h.len, ?_⟩
  rcases h.at_ with e | ⟨b, off, e, hc⟩
  · exact .inl e
  · refine .inr ⟨b, off, e, fun i P hP => ?_⟩
    obtain ⟨a', c', h1, h2⟩ := hc i P hP
    exact ⟨a', c', (hb.cell (block_lt_of_cell h1)).trans h1, h2.on hb⟩
theorem KI.start {w w1 w2 : World} {D : Dk} {l : List Int} {g : Nat} (hM : Mine w w1 D) (hR : Rest D.abs 128 l) (hl : l = zsA (512 * 128)) (h1 : D.wr = 0) (h2 : D.fl = 0) (h3 : D.tap = []) (h4 : D.keep = []) (ho : OwnB w2 g 65536 (zn (512 * 128))) (hb : Below w1.heap.size w1 w2) (hg : w1.heap.size ≤ g) : KI w w2 0 D l (zn (512 * 128)) g 65536 :=
  ⟨hM.on hb, hR, ho, Nat.le_trans hM.bel.size hg, fun e => by have := hM.hasLt _ e; omega, zn_length _, by rw [hl]; exact like_refl _ _, by rw [h1]; omega, by rw [h2]; omega, by rw [h3]; exact Nat.zero_le _, h4⟩
theorem KC.on {w wr w' : World} {i n : Nat} {D E : Dk} {las' W : List Int} {L : List Bk} {gw cw : Nat} (h : KC w wr i n D E las' W L gw cw) (hb : Below wr.heap.size wr w') : KC w w' i n D E las' W L gw cw :=
  ⟨h.mine.on hb, h.rest, h.d, h.own.on hb, h.far, h.ngw, h.wl, h.like, h.bw, h.bf, h.bt, h.kp, h.wr, h.fl, h.tp, h.tl⟩
theorem KC.next {w wr w' : World} {i n : Nat} {D E : Dk} {las' W : List Int} {L : List Bk} {gw cw g c : Nat} (h : KC w wr i n D E las' W L gw cw) (hb : Below wr.heap.size wr w') (ho : OwnB w' g c (fw W (homes (nsB L) (dsB L)))) (hg : wr.heap.size ≤ g) : KI w w' (i + 1) E las' (fw W (homes (nsB L) (dsB L))) g c :=
  ⟨h.mine.on hb, h.rest, ho, Nat.le_trans h.mine.bel.size hg, fun e => by have := h.mine.hasLt _ e; omega, by rw [fw_length]; exact h.wl, h.like, h.bw, h.bf, h.bt, h.kp⟩
set_option maxRecDepth 100000 in
set_option maxHeartbeats 4000000 in
theorem keeps_any (w : World) (a : Option Addr) (n c : Nat) (LL : List (List (Int × Int))) (hP : PPs w a LL) (hn : LL.length = n) (hT : TabAt w) :
    Calls Tryd.prog 6 #[.slice a n c] w fun e w' => e = .returned (.bool true) ∧ Below w.heap.size w w' := by
  have HFx : Hid (Calls Tryd.prog 23 #[] w fun e w' => e = .returned (.bool true) ∧ Below w.heap.size w w') := fixed_any w hT
  have HNw : Hid (∀ wx, Calls Tryd.prog 31 #[.int .i64 128] wx fun e w' => ∃ D l, e = .returned (.tuple #[.pointer (some ⟨D.d, 0, none⟩), .int .i64 0]) ∧ Mine wx w' D ∧ Rest D.abs 128 l ∧ l = zsA (512 * 128) ∧ D.wr = 0 ∧ D.fl = 0 ∧ D.tap = [] ∧ D.keep = []) := fun wx => new_rest wx 128 (by omega) (by omega)
  have HT : Hid (∀ wx, Below w.heap.size w wx → TabAt wx ∧ PPs wx a LL) := fun wx hb => ⟨hT.on hb, hP.on hb⟩
  have HN : Hid (LL.length = n) := hn
  have hn15 := hP.len
  rw [hn] at hn15
  have hptr := ptr_nil
  clear hP hT hn
  go_enter Tryd.func6, Tryd.ntmps6
  go_upto_region 7 with (first
    | (go_at_call 23; refine HFx.out.mono ?_; rintro e w1 ⟨rfl, hb⟩; have H1 : Hid (Below w.heap.size w w1) := hb; clear hb)
    | (go_at_call 31; refine (HNw.out _).mono ?_; rintro e w2 ⟨D, l, rfl, hM, hR, hl, h1, h2, h3, h4⟩; have H2 : Hid (Mine w w2 D ∧ Rest D.abs 128 l ∧ l = zsA (512 * 128) ∧ D.wr = 0 ∧ D.fl = 0 ∧ D.tap = [] ∧ D.keep = []) := ⟨hM.far' H1.out, hR, hl, h1, h2, h3, h4⟩; clear hM hR hl h1 h2 h3 h4)
    | (at_make; refine wp_makeB rfl _ _ rfl _ _ _ _ 65536 rfl rfl (by omega) (by omega) (by omega) ?_; intro w3 ho hb; have H3 : Hid (KI w w3 0 D l (zn (512 * 128)) w2.heap.size 65536) := KI.start H2.out.1 H2.out.2.1 H2.out.2.2.1 H2.out.2.2.2.1 H2.out.2.2.2.2.1 H2.out.2.2.2.2.2.1 H2.out.2.2.2.2.2.2 ho hb (Nat.le_refl _); clear ho hb))
  clear HFx HNw H1 H2
  obtain ⟨d0, hd0⟩ : ∃ d0, D.d = d0 := ⟨_, rfl⟩
  have HD0 : Hid (D.d = d0) := hd0
  rw [hd0]
  clear hd0
  go_wp2
  go_loopw [5, 6] (fun s5 s6 wr => ∃ (i : Nat) (D : Dk) (las W : List Int) (gw cw : Nat), i ≤ 12 ∧ s6 = .int .i64 i ∧ s5 = .slice (some ⟨gw, 0, none⟩) 65536 cw ∧ D.d = d0 ∧ KI w wr i D las W gw cw) (fun _ s _ => 12 - (intOf s).toNat)
  case atStart => exact ⟨0, D, l, _, _, _, by omega, rfl, rfl, HD0.out, H3.out⟩
  case round =>
    obtain ⟨i, D, las, W, gw, cw, hi, rfl, rfl, hd, hK⟩ := hrel
    have HK : Hid (KI w wr i D las W gw cw) := hK
    have HDd : Hid (D.d = d0) := hd
    clear hd hK H3 HD0
    by_cases hin : i < n
    · by_cases hlt : i < 12
      · obtain ⟨P, hP⟩ : ∃ P, LL[i]? = some P := ⟨LL[i]'(by rw [HN.out]; exact hin), List.getElem?_eq_getElem _⟩
        obtain ⟨b, off, e, a', c', d1, hPt⟩ : ∃ b off, a = some ⟨b, off, none⟩ ∧ ∃ a' c', wr.cell? ⟨b, off + i, none⟩ = some (.slice a' P.length c') ∧ PtsAt wr a' P := by
          rcases (HT.out _ HK.out.mine.bel).2.at_ with e | ⟨b, off, rfl, hc⟩
          · have := HN.out; rw [e] at this; simp at this; omega
          · exact ⟨b, off, rfl, hc i P hP⟩
        subst e
        have HRo : Hid (Calls Tryd.prog 32 #[.slice a' P.length c'] wr fun e w' => ∃ va vc L, e = .returned (.slice va L.length vc) ∧ RowsAt wr w' 30 (.slice va L.length vc) L) := by
          refine (rows_any wr a' P.length c' P hPt rfl).mono ?_
          rintro e w' ⟨v, L, rfl, hR⟩
          obtain ⟨va, vc, rfl⟩ := own_form hR.row
          exact ⟨va, vc, L, rfl, hR⟩
        clear hPt hP
        go_upto_region 11 with (go_at_call 32; refine HRo.out.mono ?_; rintro e w4 ⟨va, vc, L, rfl, hR⟩; have H4 : Hid (RowsAt wr w4 30 (.slice va L.length vc) L) := hR; clear hR)
        clear d1 HRo
        obtain ⟨m, hm⟩ : ∃ m, L.length = m := ⟨_, rfl⟩
        have HM : Hid (L.length = m) := hm
        have hm30 := H4.out.len
        rw [hm] at H4 hm30
        rw [hm]
        clear hm
        have HK4 : Hid (KI w w4 i D las W gw cw) := HK.out.on H4.out.bel
        obtain ⟨X0, hX0⟩ : ∃ X0, D.wr = X0 := ⟨_, rfl⟩
        obtain ⟨Y0, hY0⟩ : ∃ Y0, D.fl = Y0 := ⟨_, rfl⟩
        obtain ⟨T0, hT0⟩ : ∃ T0, D.tap.length = T0 := ⟨_, rfl⟩
        have HX0 : Hid (D.wr = X0 ∧ D.fl = Y0 ∧ D.tap.length = T0 ∧ X0 ≤ 1000 ∧ Y0 ≤ 1000 ∧ T0 ≤ 1000) := ⟨hX0, hY0, hT0, by have := HK.out.bw; omega, by have := HK.out.bf; omega, by have := HK.out.bt; omega⟩
        have HSt : Hid (Calls Tryd.prog 27 #[.pointer (some ⟨d0, 0, none⟩)] w4 fun e w' => e = .returned (.tuple #[.int .i64 X0, .int .i64 Y0]) ∧ Below w4.heap.size w4 w') := by
          have := steps_any w4 D HK4.out.mine.disk
          rw [HDd.out, hX0, hY0] at this
          exact this
        have HTp : Hid (∀ wx, Below w4.heap.size w4 wx → Calls Tryd.prog 30 #[.pointer (some ⟨d0, 0, none⟩), .int .i64 0] wx fun e w' => ∃ ta tc, e = .returned (.slice ta T0 tc) ∧ Below w4.heap.size w4 w') := fun wx hb => by
          have := tape0_any wx D (HK4.out.mine.on hb).disk
          rw [HDd.out] at this
          refine this.mono ?_
          rintro e w' ⟨v, L', rfl, h1, h2, h3, _⟩
          obtain ⟨ta, tc, rfl⟩ := own_form h1.row
          have hl : L'.length = T0 := by have := congrArg List.length h2; rw [List.length_map, abs_tlen, hT0] at this; exact this
          rw [hl]
          exact ⟨ta, tc, rfl, hb.trans (h3.mono hb.size)⟩
        have HCm : Hid (∀ wx, Below w4.heap.size w4 wx → Calls Tryd.prog 33 #[.pointer (some ⟨d0, 0, none⟩), .slice va m vc] wx fun e w' => e = .returned (.int .i64 0) ∧ ∃ E las', KC w w' i m D E las' W L gw cw ∧ (m = 0 ∨ ∃ g, va = some ⟨g, 0, none⟩ ∧ BlocksAt w' g L)) := fun wx hb => by
          have hR := H4.out
          rw [← HM.out] at hR
          have hbx : Below w.heap.size w wx := HK4.out.mine.bel.trans (hb.mono HK4.out.mine.bel.size)
          have := commit_keeps w wr w4 i D las W gw cw HK.out (by omega) _ L hR wx hb (HT.out _ hbx).1
          rw [HDd.out, HM.out] at this
          refine this.mono ?_
          rintro e w' ⟨rfl, E, las', hC, hB⟩
          refine ⟨rfl, E, las', hC, ?_⟩
          rcases hB with e | ⟨g, c, e, hB⟩
          · left; have := HM.out; rw [e] at this; exact this.symm
          · cases e; exact .inr ⟨g, rfl, hB⟩
        clear hX0 hY0 hT0
        have hX1 := HX0.out.2.2.2
        go_upto_region 14 with (first
          | (go_at_call 27; refine HSt.out.mono ?_; rintro e w5 ⟨rfl, hb⟩; have H5 : Hid (Below w4.heap.size w4 w5) := hb; clear hb HSt)
          | (go_at_call 30; refine (HTp.out _ H5.out).mono ?_; rintro e w6 ⟨ta, tc, rfl, hb⟩; have H6 : Hid (Below w4.heap.size w4 w6) := hb; clear hb HTp)
          | (go_at_call 33; refine (HCm.out _ H6.out).mono ?_; rintro e w7 ⟨rfl, E, las', hC, hB⟩; have H7 : Hid (KC w w7 i m D E las' W L gw cw ∧ (m = 0 ∨ ∃ g, va = some ⟨g, 0, none⟩ ∧ BlocksAt w7 g L)) := ⟨hC, hB⟩; clear hC hB HCm))
        have HRn : Hid (∀ q ∈ L, 98 ≤ q.n ∧ q.n < 128) := fun q hq => by have := H4.out.num q hq; omega
        clear H4 HK HK4 H5 H6
        have HEd : Hid (E.d = d0) := H7.out.1.d.trans HDd.out
        obtain ⟨X1, hX1e⟩ : ∃ X1, E.wr = X1 := ⟨_, rfl⟩
        obtain ⟨Y1, hY1e⟩ : ∃ Y1, E.fl = Y1 := ⟨_, rfl⟩
        have HSt : Hid (Calls Tryd.prog 27 #[.pointer (some ⟨d0, 0, none⟩)] w7 fun e w' => e = .returned (.tuple #[.int .i64 X1, .int .i64 Y1]) ∧ Below w7.heap.size w7 w') := by
          have := steps_any w7 E H7.out.1.mine.disk
          rw [HEd.out, hX1e, hY1e] at this
          exact this
        have hXY : X1 = X0 + (if m = 0 then 0 else 2 * m + 2) ∧ Y1 = Y0 + (if m = 0 then 0 else 4) := by
          rw [← hX1e, ← hY1e, ← HX0.out.1, ← HX0.out.2.1]; exact ⟨H7.out.1.wr, H7.out.1.fl⟩
        have HXY : Hid (X1 = X0 + (if m = 0 then 0 else 2 * m + 2) ∧ Y1 = Y0 + (if m = 0 then 0 else 4)) := hXY
        clear hX1e hY1e hXY
        go_upto_region 17 with (go_at_call 27; refine HSt.out.mono ?_; rintro e w8 ⟨rfl, hb⟩; have H8 : Hid (Below w7.heap.size w7 w8) := hb; clear hb HSt)
        go_cut [99] (fun s wx => s = .bool false ∧ w8 = wx)
        case first =>
          have hxy := HXY.out
          by_cases hm0 : m = 0
          · rw [if_pos hm0, if_pos hm0] at hxy
            have z1 : ((X1 : Int) == (X0 : Int)) = true := by simp; omega
            have z2 : ((Y1 : Int) == (Y0 : Int)) = true := by simp; omega
            have z5 : ((X1 : Int) != (X0 : Int)) = false := by simp; omega
            have z6 : ((Y1 : Int) != (Y0 : Int)) = false := by simp; omega
            have z3 : ¬ 0 < m := by omega
            have z4 : ((m : Int) == 0) = true := by simp; omega
            clear hxy hm0
            go_wp2
            go_meet
            case rel => exact ⟨by simp, rfl⟩
          · rw [if_neg hm0, if_neg hm0] at hxy
            have z1 : (X1 : Int) - (X0 : Int) = 2 * (m : Int) + 2 := by omega
            have z2 : (Y1 : Int) - (Y0 : Int) = 4 := by omega
            have z3 : 0 < m := by omega
            have z4 : ((m : Int) == 0) = false := by simp; omega
            clear hxy hm0
            go_wp2
            go_meet
            case rel => exact ⟨by simp, rfl⟩
        case rest =>
        obtain ⟨rfl, rfl⟩ := hcut
        obtain ⟨T2, hT2, hnm⟩ := H7.out.1.tp
        have HTq : Hid (Calls Tryd.prog 30 #[.pointer (some ⟨d0, 0, none⟩), .int .i64 T0] w8 fun e w' => ∃ ta tc L2, e = .returned (.slice ta L2.length tc) ∧ AcR w' 128 (.slice ta L2.length tc) L2 ∧ (∀ q ∈ L2, nmd q.abs L = true) ∧ L2.length ≤ 1000 ∧ Below w8.heap.size w8 w') := by
          have := tape_any w8 E (H7.out.1.mine.on H8.out).disk T0 (by rw [← HX0.out.2.2.1]; exact H7.out.1.tl)
          rw [HEd.out] at this
          refine this.mono ?_
          rintro e w' ⟨v, L2, rfl, h1, h2, h3, _⟩
          obtain ⟨ta, tc, rfl⟩ := own_form h1.row
          have hnb : E.nb = 128 := H7.out.1.rest.size
          rw [hnb] at h1
          have e2 : L2.map ActR.abs = T2 := by
            rw [h2, hT2, List.drop_left' (by rw [abs_tlen]; exact HX0.out.2.2.1)]
          refine ⟨ta, tc, L2, rfl, h1, fun q hq => hnm _ (by rw [← e2]; exact List.mem_map_of_mem hq), ?_, h3⟩
          have e3 := congrArg List.length hT2
          rw [abs_tlen, List.length_append, ← e2, List.length_map] at e3
          have := H7.out.1.bt
          omega
        clear hT2 hnm
        go_upto_region 20 with (go_at_call 30; refine HTq.out.mono ?_; rintro e w9 ⟨tb, tbc, L2, rfl, h1, h2, h3, h4⟩; have H9 : Hid (AcR w9 128 (.slice tb L2.length tbc) L2 ∧ (∀ q ∈ L2, nmd q.abs L = true) ∧ L2.length ≤ 1000 ∧ Below w8.heap.size w8 w9) := ⟨h1, h2, h3, h4⟩; clear h1 h2 h3 h4)
        clear HTq
        obtain ⟨m2, hm2⟩ : ∃ m2, L2.length = m2 := ⟨_, rfl⟩
        have HM2 : Hid (L2.length = m2) := hm2
        have hm2b := H9.out.2.2.1
        rw [hm2] at H9 hm2b ⊢
        clear hm2
        have HC9 : Hid (∀ wx, Below w9.heap.size w9 wx → KC w wx i m D E las' W L gw cw ∧ (m = 0 ∨ ∃ g, va = some ⟨g, 0, none⟩ ∧ BlocksAt wx g L) ∧ AcR wx 128 (.slice tb m2 tbc) L2) := fun wx hb => by
          have h79 : Below w7.heap.size w7 wx := (H8.out.trans (H9.out.2.2.2.mono H8.out.size)).trans (hb.mono (Nat.le_trans H8.out.size H9.out.2.2.2.size))
          refine ⟨H7.out.1.on h79, ?_, H9.out.1.on hb⟩
          rcases H7.out.2 with e | ⟨g, e, hB⟩
          · exact .inl e
          · exact .inr ⟨g, e, hB.on h79⟩
        have HNm : Hid (∀ (k : Nat) (q : ActR), L2[k]? = some q → nmd q.abs L = true) := fun k q hq => H9.out.2.1 q (List.mem_of_getElem? hq)
        clear H7 H8 H9 HX0 HXY
        go_wp2
        go_loopw [15] (fun s wx => ∃ k : Nat, k ≤ m2 ∧ s = .int .i64 k ∧ Below w9.heap.size w9 wx) (fun s _ => m2 - (intOf s).toNat)
        case atStart => exact ⟨0, Nat.zero_le _, rfl, Below.refl _ _⟩
        case round =>
          obtain ⟨k, hk, rfl, hb⟩ := hrel
          have HB9 : Hid (Below w9.heap.size w9 wr) := hb
          clear hb
          by_cases hklt : k < m2
          · have hkl : k < L2.length := by rw [HM2.out]; exact hklt
            obtain ⟨gv, e⟩ : ∃ gv, tb = some ⟨gv, 0, none⟩ := by
              have := (HC9.out _ HB9.out).2.2.row
              rw [HM2.out] at this
              obtain ⟨gv, cv, e⟩ := own_some this (by omega)
              cases e; exact ⟨gv, rfl⟩
            subst e
            have HTc : Hid (∀ wx, Below w9.heap.size w9 wx → wx.cell? ⟨gv, k * 3, none⟩ = some (.int .i64 (L2[k]).kind) ∧ wx.cell? ⟨gv, k * 3 + 1, none⟩ = some (.int .i64 (L2[k]).b)) := fun wx hb => by
              have hA := (HC9.out _ hb).2.2
              rw [← HM2.out] at hA
              exact tape_cell hA k hkl
            have HNk : Hid (nmd ((L2[k]).kind, (L2[k]).b, (L2[k]).x) L = true) := HNm.out k _ (List.getElem?_eq_getElem hkl)
            generalize (L2[k]).kind = kd at HTc HNk
            generalize (L2[k]).b = bb at HTc HNk
            generalize (L2[k]).x = xx at HNk
            obtain ⟨d1, d2⟩ := HTc.out _ HB9.out
            have hkb : decide ((k : Int) < (m2 : Int)) = true := by simp; omega
            clear hkl
            go_upto_region 23 with fail
            go_cut [16] (fun s wx => s = .bool (nmd0 (kd, bb, xx)) ∧ wr = wx)
            case first =>
              by_cases e1 : kd = 1
              · by_cases e2 : 1 ≤ bb
                · by_cases e3 : bb ≤ 97
                  · have z : nmd0 (kd, bb, xx) = true := by simp [nmd0, e1, e2, e3]
                    have z1 : (kd == 1) = true := by simp [e1]
                    have z2 : (kd != 1) = false := by simp [e1]
                    clear e1
                    go_wp2
                    go_meet
                    case rel => exact ⟨by rw [z], rfl⟩
                  · have z : nmd0 (kd, bb, xx) = false := by simp [nmd0, e1, e3]
                    have z1 : (kd == 1) = true := by simp [e1]
                    have z2 : (kd != 1) = false := by simp [e1]
                    clear e1
                    go_wp2
                    go_meet
                    case rel => exact ⟨by rw [z], rfl⟩
                · have z : nmd0 (kd, bb, xx) = false := by simp [nmd0, e1, e2]
                  have z1 : (kd == 1) = true := by simp [e1]
                  have z2 : (kd != 1) = false := by simp [e1]
                  clear e1
                  go_wp2
                  go_meet
                  case rel => exact ⟨by rw [z], rfl⟩
              · have z : nmd0 (kd, bb, xx) = true := by simp [nmd0, e1]
                go_wp2
                go_meet
                case rel => exact ⟨by rw [z], rfl⟩
            case rest =>
            obtain ⟨rfl, rfl⟩ := hcut
            rw [← nmd_zero]
            clear d1
            go_wp2
            go_loopw [16, 17] (fun s16 s17 wx => ∃ j : Nat, j ≤ m ∧ s17 = .int .i64 j ∧ s16 = .bool (nmd (kd, bb, xx) (L.take j)) ∧ Below w9.heap.size w9 wx) (fun _ s _ => m - (intOf s).toNat)
            case atStart => exact ⟨0, Nat.zero_le _, rfl, rfl, HB9.out⟩
            case round =>
              obtain ⟨j, hj, rfl, rfl, hb⟩ := hrel
              have HBj : Hid (Below w9.heap.size w9 wr) := hb
              clear hb d2 HB9
              by_cases hjlt : j < m
              · obtain ⟨q, hq⟩ : ∃ q, L[j]? = some q := ⟨L[j]'(by rw [HM.out]; exact hjlt), List.getElem?_eq_getElem _⟩
                obtain ⟨gq, e, hB⟩ := (HC9.out _ HBj.out).2.1.resolve_left (by omega)
                subst e
                have c1 := (hB.at_ j q hq).1
                have d2 := (HTc.out _ HBj.out).2
                have HNx := nmd_next (kd, bb, xx) L j q hq
                generalize nmd (kd, bb, xx) (L.take j) = cur at HNx
                have HNy : Hid (nmd (kd, bb, xx) (L.take (j + 1)) = (cur || (q.n == bb))) := HNx
                clear HNx hB hq
                generalize q.n = qn at c1 HNy
                cases cur with
                | true =>
                  go_wp2
                  go_quiet (fail)
                  go_wp2
                  exact ⟨⟨j + 1, by omega, by go_num, by rw [HNy.out]; rfl, below_drewN HBj.out _⟩, by simp [intOf]; omega⟩
                | false =>
                  go_wp2
                  go_quiet (fail)
                  go_wp2
                  exact ⟨⟨j + 1, by omega, by go_num, by rw [HNy.out]; rfl, below_drewN HBj.out _⟩, by simp [intOf]; omega⟩
              · have hje : L.take j = L := List.take_of_length_le (by rw [HM.out]; omega)
                rw [hje, HNk.out]
                clear hje
                go_wp2
                exact ⟨⟨k + 1, by omega, by go_num, HBj.out⟩, by simp [intOf]; omega⟩
          · obtain ⟨hKC, hBl, _⟩ := HC9.out _ HB9.out
            have HKC : Hid (KC w wr i m D E las' W L gw cw) := hKC
            have HTw : Hid (TabAt wr) := (HT.out _ hKC.mine.bel).1
            have HLd : Hid (Calls Tryd.prog 34 #[.slice (some ⟨gw, 0, none⟩) 65536 cw, .slice va m vc] wr fun e w' => ∃ g cap, e = .returned (.slice (some ⟨g, 0, none⟩) 65536 cap) ∧ OwnB w' g cap (fw W (homes (nsB L) (dsB L))) ∧ wr.heap.size ≤ g ∧ Below wr.heap.size wr w') := laid_any wr gw cw 128 W hKC.own.bytes hKC.wl (by omega) va m vc L HM.out hBl (fun q hq => by have := HRn.out q hq; omega) (by omega)
            clear hKC hBl HC9 HNm HB9
            obtain ⟨W', hW'⟩ : ∃ W', fw W (homes (nsB L) (dsB L)) = W' := ⟨_, rfl⟩
            have HW : Hid (fw W (homes (nsB L) (dsB L)) = W') := hW'
            rw [hW'] at HLd
            clear hW'
            go_upto_region 31 with (go_at_call 34; refine HLd.out.mono ?_; rintro e w10 ⟨g10, c10, rfl, ho, hg, hb⟩; have H10 : Hid (KI w w10 (i + 1) E las' W' g10 c10) := (by have := HKC.out.next hb (by rw [HW.out]; exact ho) hg; rw [HW.out] at this; exact this); clear ho hg hb)
            clear HLd
            have HT10 : Hid (TabAt w10) := (HT.out _ H10.out.mine.bel).1
            have hcc : 65536 ≤ c10 ∧ c10 ≤ 9223372036854775807 := by
              have h1 := H10.out.own.room
              have h2 := H10.out.own.top
              rw [H10.out.wl] at h1
              unfold maxLen at h2
              omega
            have HCc : Hid (65536 ≤ c10 ∧ c10 ≤ 9223372036854775807) := hcc
            clear hcc
            have HBe : Hid (Calls Tryd.prog 26 #[.pointer (some ⟨d0, 0, none⟩)] w10 fun e w' => ∃ g cap, e = .returned (.tuple #[.slice (some ⟨g, 0, none⟩) 65536 cap, .int .i64 0]) ∧ OwnB w' g cap las' ∧ Below w10.heap.size w10 w') := by
              have hR := H10.out.rest
              have hnb : E.nb = 128 := hR.size
              have := behind_yes w10 E H10.out.mine.disk HT10.out (hR.openE (by omega))
              rw [hR.fullD, hnb, hR.behind (by omega), HEd.out] at this
              refine this.mono ?_
              rintro e w' ⟨g, cap, rfl, ho, hg, hb'⟩
              exact ⟨g, cap, rfl, ho, hb'⟩
            have HSb : Hid (∀ wx g cap, Below w10.heap.size w10 wx → OwnB wx g cap las' → Calls Tryd.prog 35 #[.slice (some ⟨g, 0, none⟩) 65536 cap, .slice (some ⟨g10, 0, none⟩) 65536 c10] wx fun e w' => e = .returned (.bool true) ∧ Below wx.heap.size wx w') := fun wx g cap hb ho => by
              have h1 := ho.room
              have h2 := ho.top
              have h3 := H10.out.rest.len
              have hc := HCc.out
              rw [h3] at h1
              unfold maxLen at h2
              exact sameBut_yes wx g g10 cap c10 128 las' W' ho.bytes (H10.out.own.on hb).bytes h3 H10.out.wl (by omega) (by omega) (by omega) (by omega) (by omega) (by omega) H10.out.like
            have HIm : Hid (∀ wx, Below w10.heap.size w10 wx → Calls Tryd.prog 29 #[.pointer (some ⟨d0, 0, none⟩)] wx fun e w' => ∃ g cap, e = .returned (.slice (some ⟨g, 0, none⟩) 65536 cap) ∧ OwnB w' g cap las' ∧ Below wx.heap.size wx w') := fun wx hb => by
              have hR := H10.out.rest
              have hnb : E.nb = 128 := hR.size
              have hls : E.las = las' := hR.las
              have := image_any wx E (H10.out.mine.on hb).disk
              rw [HEd.out, hnb, hls] at this
              refine this.mono ?_
              rintro e w' ⟨g, cap, rfl, hg, ho, hb'⟩
              exact ⟨g, cap, rfl, ho, hb'⟩
            have HPe : Hid (∀ wx, Below w10.heap.size w10 wx → Calls Tryd.prog 36 #[.pointer (some ⟨d0, 0, none⟩)] wx fun e w' => ∃ g c, e = .returned (.slice (some ⟨g, 0, none⟩) 0 c) ∧ Below wx.heap.size wx w') := fun wx hb => by
              have hp : E.pen.length = 0 := by rw [← abs_len, H10.out.rest.pen]; rfl
              have := pending_any wx E (H10.out.mine.on hb).disk
              rw [HEd.out, hp] at this
              refine this.mono ?_
              rintro e w' ⟨g, c, rfl, hg, ho, hb'⟩
              exact ⟨g, c, rfl, hb'⟩
            clear HKC HTw HRn HM HW
            go_wp2_with (first
              | (go_at_call 26; refine HBe.out.mono ?_; rintro e w11 ⟨g11, c11, rfl, ho, hb⟩; have H11 : Hid (OwnB w11 g11 c11 las' ∧ Below w10.heap.size w10 w11) := ⟨ho, hb⟩; clear ho hb HBe)
              | (go_at_call 35; have hh := HIm.out; clear hh; refine (HSb.out _ _ _ H11.out.2 H11.out.1).mono ?_; rintro e w12 ⟨rfl, hb⟩; have H12 : Hid (Below w10.heap.size w10 w12) := H11.out.2.trans (hb.mono H11.out.2.size); clear hb)
              | (go_at_call 29; refine (HIm.out _ H12.out).mono ?_; rintro e w13 ⟨g13, c13, rfl, ho, hb⟩; have H13 : Hid (OwnB w13 g13 c13 las' ∧ Below w10.heap.size w10 w13) := ⟨ho, H12.out.trans (hb.mono H12.out.size)⟩; clear ho hb HIm)
              | (go_at_call 35; refine (HSb.out _ _ _ H13.out.2 H13.out.1).mono ?_; rintro e w14 ⟨rfl, hb⟩; have H14 : Hid (Below w10.heap.size w10 w14) := H13.out.2.trans (hb.mono H13.out.2.size); clear hb)
              | (go_at_call 36; refine (HPe.out _ H14.out).mono ?_; rintro e w15 ⟨g15, c15, rfl, hb⟩; have H15 : Hid (Below w10.heap.size w10 w15) := H14.out.trans (hb.mono H14.out.size); clear hb))
            exact ⟨⟨i + 1, E, las', W', g10, c10, by omega, by go_num, rfl, HEd.out, H10.out.on H15.out⟩, by simp [intOf]; omega⟩
      · go_wp2
        go_ret
        exact ⟨rfl, HK.out.mine.bel⟩
    · go_wp2
      go_ret
      exact ⟨rfl, HK.out.mine.bel⟩
end Go.Proofs.YtpheajiepnjhdaaDoor
