import Derived.Test.YtpbpblpbjkegfaaSpS
import Derived.Deep.RegionHeld3
namespace Go.Proofs.Ytpbpblpbjkegfaa
open Go.RowKit Go.Maps Rec

/-- the first Take on an empty transaction, and that it is gone back from -/
theorem ref_take {w0 w : World} {D : Dk} {T : Tx} {n P : Nat} (h : Rf w0 w D T n P 0) :
    Calls Try.prog 6 #[.pointer (some ⟨T.t, 0, none⟩), geoV n] w fun e w' => e = .returned (.tuple #[.int .i64 ((nD n : Nat) : Int), .int .i64 0]) ∧ ∃ T', T'.t = T.t ∧ Spc w0 w' D T' n ∧ GeoAt w' P n ∧ ¬ T'.all P ∧ (lst T'.c n).length = 2 ∧ Ext T T' 2 := by
  have hN := nM_bd h.spc.lo h.spc.hi
  have hc0 := h.empty (98 + nD n / 4096) (by omega)
  have hc1 := h.empty (nD n) (by omega)
  refine (stake_okx w0 w D T n h.spc (nD n) h.lo (.inr (by rw [h.cnt]; omega)) (.inr (by rw [h.cnt]; split <;> omega)) (by rw [h.us]; omega)).mono ?_
  rintro e w' ⟨rfl, T', g⟩
  obtain ⟨g1, g2⟩ := geo_mv h.geo h.aP g.tak.mv
  obtain ⟨q, q2, hc, _⟩ := g.tak.c
  have hM : nD n / 4096 < nM n := by unfold nM; omega
  refine ⟨rfl, T', g.tak.mv.t, g.tak.spc, g1, g2, ?_, g.ext⟩
  rw [hc, lst_len_ups (by omega), ups_other _ _ (by omega), hc1, lst_len_ups (by omega), hc0, h.cnt]
  rfl
/-- back to where T was -/
theorem ref_back {w0 w : World} {D : Dk} {T T' : Tx} {n P k j : Nat} (s : Spc w0 w D T' n) (hg : GeoAt w P n) (ha : ¬ T'.all P) (hn : n ≤ 1000) (hE : Ext T T' j) (hk : T.us.length = k) (hc : (lst T.c n).length ≤ 96) (hT : ∀ i, i < n → (tv D T i).length = 512 ∧ ∀ j, 0 ≤ nth (tv D T i) j ∧ nth (tv D T i) j < 256) :
    Calls Try.prog 8 #[.pointer (some ⟨T'.t, 0, none⟩), .int .i64 (k : Int)] w fun e w' => e = .returned (.int .i64 0) ∧ ∃ T2, T2.t = T'.t ∧ Spc w0 w' D T2 n ∧ GeoAt w' P n ∧ ¬ T2.all P ∧ T2.c = T.c ∧ T2.us = T.us := by
  obtain ⟨ext, h1, h2, h3⟩ := hE
  have hd : T'.us.drop k = ext := by rw [h1, ← hk, List.drop_left]
  have ht : T'.us.take k = T.us := by rw [h1, ← hk, List.take_left]
  refine (tback_ok w T' s.ses.tx (by rw [s.nb]; exact hn) k (by rw [h1, List.length_append]; omega) (by rw [hd, h3, s.nb]; exact hc)).mono ?_
  rintro e w' ⟨rfl, T2, g1, g2, g3, g4⟩
  rw [hd, h3] at g3
  rw [ht] at g4
  obtain ⟨a1, a2⟩ := geo_mv hg ha g2
  refine ⟨rfl, T2, g2.t, ⟨s.ses.mv g1 g2, s.dn, g2.nb.trans s.nb, s.lo, s.hi, fun i hi => ?_⟩, a1, a2, g3, g4⟩
  have := hT i hi
  unfold tv at this ⊢
  rw [g3]
  exact this
theorem ext_trans {T T' T'' : Tx} {a b : Nat} (h : Ext T T' a) (g : Ext T' T'' b) : Ext T T'' (a + b) := by
  obtain ⟨e1, h1, h2, h3⟩ := h
  obtain ⟨e2, g1, g2, g3⟩ := g
  refine ⟨e1 ++ e2, by rw [g1, h1, List.append_assoc], by rw [List.length_append, h2, g2], ?_⟩
  rw [← h3, ← g3]
  simp [undo]
set_option maxRecDepth 100000 in
set_option maxHeartbeats 32000000 in
theorem refused_any (w : World) (less : Bool) (gv : Int) (_ : -9223372036854775808 ≤ gv ∧ gv ≤ 9223372036854775807) :
    Calls Try.prog 3 #[.bool less, .int .i64 gv] w fun e w' => e = .returned (.bool true) ∧ Below w.heap.size w w' := by
  have HA : Hid (∀ o, Below w.heap.size w (w.alloc o)) := fun o => (Below.refl _ _).alloc (Nat.le_refl _) o
  have HOp : Hid (∀ wx, Calls Try.prog 5 #[csV 170 (.slice none 0 0) 0 (.slice none 0 0)] wx fun e w' => ∃ t0, e = .returned (.tuple #[.pointer (some ⟨t0, 0, none⟩), geoV (nBl 170 : Nat)]) ∧ ∃ T D, T.t = t0 ∧ OpE wx w' D T (nBl 170) (fB (nBl 170) [] 0)) := fun wx => by
    refine (opened9 wx 170 (by omega) none 0 0 0 (by omega) none 0 0 [] (bytes_nil wx) rfl).mono ?_
    rintro e w' ⟨T, rfl, D, h⟩
    exact ⟨T.t, rfl, T, D, rfl, h⟩
  obtain ⟨n, hn⟩ : ∃ n, nBl 170 = n := ⟨_, rfl⟩
  have hn298 : n = 298 := by rw [← hn]; decide
  have hlo103 : nD n = 103 := by rw [hn298]; decide
  rw [hn] at HOp
  clear hn
  unfold csV geoV at HOp
  have hpt := ptr_nilT
  go_enter Try.func3, Try.ntmps3
  have HN : Hid (n = 298 ∧ nD n = 103) := ⟨hn298, hlo103⟩
  clear hn298 hlo103
  go_upto_region 5 with (go_at_call 5; refine (HOp.out _).mono ?_; rintro e w2 ⟨t0, rfl, T, D, h1, h2⟩; have H2 : Hid (T.t = t0 ∧ OpE (w.alloc (.cells #[.int .i64 170, .slice none 0 0, .int .u8 0, .slice none 0 0] 25)) w2 D T n (fB n [] 0)) := ⟨h1, h2⟩; clear h1 h2 HOp)
  obtain ⟨P, hP⟩ : ∃ P, w2.heap.size = P := ⟨_, rfl⟩
  obtain ⟨wk, hwc⟩ : ∃ wk, w.alloc (.cells #[.int .i64 170, .slice none 0 0, .int .u8 0, .slice none 0 0] 25) = wk := ⟨_, rfl⟩
  rw [hwc] at H2
  have HWc : Hid (Below w.heap.size w wk) := by rw [← hwc]; exact HA.out _
  obtain ⟨w3, hw3⟩ : ∃ w3, w2.alloc (.cells #[.int .i64 (n : Int), .int .i64 98, .int .i64 (gI n), .int .i64 (gD n), .int .i64 (gC n)] 28) = w3 := ⟨_, rfl⟩
  have H3 : Hid (T.t = t0 ∧ Rf wk w3 D T n P 0 ∧ T.us = []) := by
    have hb3 : Below w2.heap.size w2 w3 := by rw [← hw3]; exact (Below.refl _ _).alloc (Nat.le_refl _) _
    have hS := H2.out.2.spc
    have hNn := HN.out
    refine ⟨H2.out.1, ⟨hS.on hb3, ?_, fun e => ?_, fun j => ?_, ?_, by rw [H2.out.2.us]; rfl, ?_⟩, H2.out.2.us⟩
    · rw [← hw3, ← hP]; exact heap_alloc_new _ _
    · have := hS.ses.tx.lt e; omega
    · rw [H2.out.2.c]
      symm
      exact decide_eq_false (by omega)
    · rw [H2.out.2.c, lst_none]; rfl
    · funext j
      unfold fd
      by_cases e : nD n ≤ j ∧ j < n
      · rw [H2.out.2.bit j (by have := nM_bd hS.lo hS.hi; omega), fB_none n j e.1 e.2]; simp
      · rw [decide_eq_false e]; rfl
  rw [hw3, hP]
  clear hw3 hP hwc H2 HA
  obtain ⟨lo, hlo⟩ : ∃ lo, nD n = lo := ⟨_, rfl⟩
  have HHg : Hid (gD (n : Int) = (lo : Int) ∧ nD n = lo) := ⟨by rw [gD_nat, hlo], hlo⟩
  have hlon : lo = 103 := by rw [← hlo]; exact HN.out.2
  rw [HHg.out.1]
  clear hlo
  have HGe : Hid (∀ wx, GeoAt wx P n → wx.cell? ⟨P, 0, none⟩ = some (.int .i64 (n : Int)) ∧ wx.cell? ⟨P, 1, none⟩ = some (.int .i64 98) ∧ wx.cell? ⟨P, 2, none⟩ = some (.int .i64 (gI n)) ∧ wx.cell? ⟨P, 3, none⟩ = some (.int .i64 (lo : Int)) ∧ wx.cell? ⟨P, 4, none⟩ = some (.int .i64 (gC n))) := fun wx h => by
    have := h.cells
    rw [HHg.out.1] at this
    exact this
  have HLo : Hid (lo = 103) := hlon
  clear hlon
  have HTk : Hid (Calls Try.prog 6 #[.pointer (some ⟨t0, 0, none⟩), .agg #[.int .i64 (n : Int), .int .i64 98, .int .i64 (gI n), .int .i64 (lo : Int), .int .i64 (gC n)]] w3 fun e w' => e = .returned (.tuple #[.int .i64 (lo : Int), .int .i64 0]) ∧ ∃ T', T'.t = t0 ∧ Spc wk w' D T' n ∧ GeoAt w' P n ∧ ¬ T'.all P ∧ (lst T'.c n).length = 2 ∧ Ext T T' 2) := by
    have h9 := ref_take H3.out.2.1
    rw [H3.out.1, geoV, HHg.out.1, HHg.out.2] at h9
    exact h9
  obtain ⟨z0, z1, z2, z3, z4⟩ := HGe.out _ H3.out.2.1.geo
  have K1 : Hid True := trivial
  go_upto_region 8 with (first
    | (go_at_call 6; refine HTk.out.mono ?_; rintro e w4 ⟨rfl, T1, h1, h2, h3, h4, h5, h6⟩; have H4 : Hid (T1.t = t0 ∧ Spc wk w4 D T1 n ∧ GeoAt w4 P n ∧ ¬ T1.all P ∧ (lst T1.c n).length = 2 ∧ Ext T T1 2) := ⟨h1, h2, h3, h4, h5, h6⟩; obtain ⟨y0, y1, y2, y3, y4⟩ := HGe.out _ h3; clear h1 h2 h3 h4 h5 h6 HTk)
    | (go_at_call 7; refine (by have h9 := written_len w4 T1 H4.out.2.1.ses.tx 2 (by rw [H4.out.2.1.nb]; exact H4.out.2.2.2.2.1); rw [H4.out.1] at h9; exact h9 : Calls Try.prog 7 #[.pointer (some ⟨t0, 0, none⟩)] w4 fun e w' => ∃ va vc, e = .returned (.slice va 2 vc) ∧ Below w4.heap.size w4 w').mono ?_; rintro e w5 ⟨va, vc, rfl, hb⟩; have H5 : Hid (Below w4.heap.size w4 w5) := hb; clear hb))
  have HBk : Hid (Calls Try.prog 8 #[.pointer (some ⟨t0, 0, none⟩), .int .i64 0] w5 fun e w' => e = .returned (.int .i64 0) ∧ ∃ T2, T2.t = t0 ∧ Rf wk w' D T2 n P 0 ∧ T2.us = []) := by
    have hb5 := H5.out
    have h9 := ref_back (T := T) (k := 0) (H4.out.2.1.on hb5) (H4.out.2.2.1.on hb5) H4.out.2.2.2.1 (by rw [HN.out.1]; omega) H4.out.2.2.2.2.2 (by rw [H3.out.2.2]; rfl) (by rw [H3.out.2.1.cnt]; omega) H3.out.2.1.spc.ok
    rw [H4.out.1] at h9
    refine h9.mono ?_
    rintro e w' ⟨rfl, T2, g1, g2, g3, g4, g5, g6⟩
    have hb : bmp D T2 = bmp D T := by
      funext j
      unfold bmp tv
      rw [g5]
    exact ⟨rfl, T2, g1, ⟨g2, g3, g4, by rw [g5]; exact H3.out.2.1.dom, by rw [g5]; exact H3.out.2.1.cnt, by rw [g6]; exact H3.out.2.1.us, by rw [hb]; exact H3.out.2.1.fde⟩, g6.trans H3.out.2.2⟩
  clear K1 z0 z1 z2 z3 z4 y0 y1 y2 y3 y4
  go_upto_region 10 with (first
    | (go_at_call 8; refine HBk.out.mono ?_; rintro e w6 ⟨rfl, T2, h1, h2, h3⟩; have H6 : Hid (T2.t = t0 ∧ Rf wk w6 D T2 n P 0 ∧ T2.us = []) := ⟨h1, h2, h3⟩; clear h1 h2 h3 HBk)
    | (go_at_call 7; refine (by have h9 := written_len w6 T2 H6.out.2.1.spc.ses.tx 0 (by rw [H6.out.2.1.spc.nb]; exact H6.out.2.1.cnt); rw [H6.out.1] at h9; exact h9 : Calls Try.prog 7 #[.pointer (some ⟨t0, 0, none⟩)] w6 fun e w' => ∃ va vc, e = .returned (.slice va 0 vc) ∧ Below w6.heap.size w6 w').mono ?_; rintro e w7 ⟨va, vc, rfl, hb⟩; have H7 : Hid (T2.t = t0 ∧ Rf wk w7 D T2 n P 0) := ⟨H6.out.1, H6.out.2.1.on hb⟩; clear hb))
  clear H3 H4 H5 H6
  obtain ⟨most, hmost⟩ : ∃ most : Nat, (if less then 95 else 96) = most := ⟨_, rfl⟩
  have HMo : Hid (most = 95 ∨ most = 96) := by rw [← hmost]; cases less; exact .inr rfl; exact .inl rfl
  have hmo := HMo.out
  clear hmo
  go_upto_if 60 with (fail)
  go_cut [10] (fun s10 wx => s10 = .int .i64 (most : Int) ∧ w7 = wx)
  case first =>
    cases less with
    | true =>
      go_wp2
      go_meet
      case rel => exact ⟨by rw [← hmost]; rfl, rfl⟩
    | false =>
      go_wp2
      go_meet
      case rel => exact ⟨by rw [← hmost]; rfl, rfl⟩
  case rest =>
  obtain ⟨rfl, rfl⟩ := hcut
  clear hmost
  have hmo : 95 ≤ most ∧ most ≤ 96 := by rcases HMo.out with e | e <;> omega
  go_wp2
  go_loopw [11, 12] (fun s11 s12 wr => ∃ (k mk : Nat) (T : Tx), k ≤ most ∧ s12 = .int .i64 (k : Int) ∧ s11 = .int .i64 (mk : Int) ∧ T.t = t0 ∧ Rf wk wr D T n P k ∧ (94 < k → mk = 94 ∧ ∃ T94 w94, Rf wk w94 D T94 n P 94 ∧ Ext T94 T (k - 94)) ∧ (k ≤ 94 → mk = 0)) (fun _ s12 _ => most - (intOf s12).toNat)
  case atStart => exact ⟨0, 0, T2, Nat.zero_le _, rfl, rfl, H7.out.1, H7.out.2, fun h => by omega, fun _ => rfl⟩
  case round =>
    clear H7
    obtain ⟨k, mk, T, hk, rfl, rfl, hT, hR, hm1, hm0⟩ := hrel
    have HI : Hid (T.t = t0 ∧ Rf wk wr D T n P k ∧ (94 < k → mk = 94 ∧ ∃ T94 w94, Rf wk w94 D T94 n P 94 ∧ Ext T94 T (k - 94)) ∧ (k ≤ 94 → mk = 0)) := ⟨hT, hR, hm1, hm0⟩
    obtain ⟨z0, z1, z2, z3, z4⟩ := HGe.out _ hR.geo
    clear hT hR hm1 hm0
    by_cases hlt : k < most
    · have hlt' : (k : Int) < (most : Int) := by omega
      have hk96 : k < 96 := by omega
      have hlo9 := HLo.out
      obtain ⟨q, hq⟩ : ∃ q, lo + 1 + k = q := ⟨_, rfl⟩
      have eq1 : (lo : Int) + 1 + (k : Int) = (q : Int) := by omega
      have hwq : IntKind.i64.wrap (q : Int) = (q : Int) := by rw [IntKind.wrap_i64]; omega
      have hwl : IntKind.i64.wrap ((lo : Int) + 1) = (lo : Int) + 1 := by rw [IntKind.wrap_i64]; omega
      have hu8 : IntKind.u8.wrap (k : Int) = (k : Int) := by simp [IntKind.wrap, IntKind.bits, IntKind.signed]; omega
      have HW : Hid (∀ wx p c, Below wr.heap.size wr wx → OwnB wx p c (one (k : Int)) → Calls Try.prog 10 #[.pointer (some ⟨t0, 0, none⟩), .int .i64 (q : Int), .slice (some ⟨p, 0, none⟩) 512 c] wx fun e w' => e = .returned (.int .i64 0) ∧ ∃ T', T'.t = t0 ∧ Rf wk w' D T' n P (k + 1) ∧ Ext T T' 1) := fun wx p c hb ho => by
        have h9 := (HI.out.2.1.on hb).write hk96 (by rw [HHg.out.2, HN.out.1]; omega) ⟨p, 0, none⟩ c (one (k : Int)) ho.bytes (one_length _)
        rw [HI.out.1, HHg.out.2, hq] at h9
        exact h9
      have HMk : Hid (Calls Try.prog 9 #[.pointer (some ⟨t0, 0, none⟩)] wr fun e w' => e = .returned (.tuple #[.int .i64 (k : Int), .int .i64 0]) ∧ Below wr.heap.size wr w') := by
        have h9 := mark_any wr T HI.out.2.1.spc.ses.tx
        rw [HI.out.1, HI.out.2.1.us] at h9
        exact h9
      clear hlo9
      have HD : Hid (Below wr.heap.size wr wr.drew) := (Below.refl _ wr).drew
      by_cases h94 : k = 94
      · have h94' : ((k : Int) == 94) = true := by simp; omega
        have HK : Hid (k = 94) := h94
        clear h94
        go_upto_region 19 with (go_at_call 9; refine HMk.out.mono ?_; rintro e w8 ⟨rfl, hb⟩; have H8 : Hid (Below wr.heap.size wr w8) := hb; obtain ⟨y0, y1, y2, y3, y4⟩ := HGe.out _ (HI.out.2.1.geo.on hb); clear hb HMk)
        have HD8 : Hid (Below wr.heap.size wr w8.drew) := H8.out.drew
        refine wp_region_any (by as_aux_lemma => kernel_rfl) ?_
        try (change wpAny _ _ _ _ _ _ _ (World.drew _))
        refine wpAny_take (i := 0) (v := ?_) rfl (by as_aux_lemma => kernel_rfl) (by as_aux_lemma => kernel_rfl) (by as_aux_lemma => kernel_rfl) (fun _ _ _ h => h) (Or.inl ⟨by as_aux_lemma => kernel_rfl, ?_⟩) ?_
        rotate_left
        focus (intro w; go_simp; (try (with_reducible rfl)); done)
        go_simp
        refine wpAny_take (i := 1) (v := ?_) rfl (by as_aux_lemma => kernel_rfl) (by as_aux_lemma => kernel_rfl) (by as_aux_lemma => kernel_rfl) (fun _ _ _ h => h) (Or.inl ⟨by as_aux_lemma => kernel_rfl, ?_⟩) ?_
        rotate_left
        focus (intro w; go_simp; (try (with_reducible rfl)); done)
        go_simp
        refine wpAny_take (i := 4) (v := ?_) rfl (by as_aux_lemma => kernel_rfl) (by as_aux_lemma => kernel_rfl) (by as_aux_lemma => kernel_rfl) (fun _ _ _ h => h) (Or.inl ⟨by as_aux_lemma => kernel_rfl, ?_⟩) ?_
        rotate_left
        focus (intro w; go_simp; (try (with_reducible rfl)); done)
        go_simp
        refine wpAny_take (i := 6) (v := ?_) rfl (by as_aux_lemma => kernel_rfl) (by as_aux_lemma => kernel_rfl) (by as_aux_lemma => kernel_rfl) (fun _ _ _ h => h) (Or.inl ⟨by as_aux_lemma => kernel_rfl, ?_⟩) ?_
        rotate_left
        focus (intro w; go_simp; (try (with_reducible rfl)); done)
        go_simp
        refine wpAny_ready (rs := [2, 7]) (by as_aux_lemma => kernel_rfl) (by simp) ?_
        refine AllReady.cons rfl (fun K hK => ?_) ?_
        · go_simp
          try go_simp
          first
            | (refine hK _ _ ?_; clear hK K)
            | skip
          refine wpAny_take (i := 3) (v := ?_) rfl (by as_aux_lemma => kernel_rfl) (by as_aux_lemma => kernel_rfl) (by as_aux_lemma => kernel_rfl) (fun _ _ _ h => h) (Or.inl ⟨by as_aux_lemma => kernel_rfl, ?_⟩) ?_
          rotate_left
          focus (intro w; go_simp; (try (with_reducible rfl)); done)
          go_simp
          refine wpAny_take (i := 5) (v := ?_) rfl (by as_aux_lemma => kernel_rfl) (by as_aux_lemma => kernel_rfl) (by as_aux_lemma => kernel_rfl) (fun _ _ _ h => h) (Or.inl ⟨by as_aux_lemma => kernel_rfl, ?_⟩) ?_
          rotate_left
          focus (intro w; go_simp; (try (with_reducible rfl)); done)
          go_simp
          refine wpAny_ready (rs := [7]) (by as_aux_lemma => kernel_rfl) (by simp) ?_
          refine AllReady.cons rfl (fun K hK => ?_) ?_
          · go_simp
            try go_simp
            first
              | (refine hK _ _ ?_; clear hK K)
              | skip
            refine wpAny_ready (rs := [8]) (by as_aux_lemma => kernel_rfl) (by simp) ?_
            refine AllReady.cons rfl (fun K hK => ?_) ?_
            · (go_simp; go_at_call 11; refine (lblock_any _ (k : Int) (by omega)).mono ?_; rintro e w9 ⟨rfl, ho, hb⟩; have H9 : Hid (Below wr.heap.size wr w9 ∧ OwnB w9 w8.heap.size 512 (one (k : Int))) := ⟨HD8.out.trans (hb.mono HD8.out.size), ho⟩; obtain ⟨x0, x1, x2, x3, x4⟩ := HGe.out _ (HI.out.2.1.geo.on H9.out.1); clear ho hb)
              try go_simp
              first
                | (refine hK _ _ ?_; clear hK K)
                | skip
              refine wpAny_ready (rs := [9]) (by as_aux_lemma => kernel_rfl) (by simp) ?_
              refine AllReady.cons rfl (fun K hK => ?_) ?_
              · (go_simp; go_at_call 10; refine (HW.out w9 _ _ H9.out.1 H9.out.2).mono ?_; rintro e w10 ⟨rfl, T', h1, h2, h3⟩; have H10 : Hid (T'.t = t0 ∧ Rf wk w10 D T' n P (k + 1) ∧ Ext T T' 1) := ⟨h1, h2, h3⟩; clear h1 h2 h3)
                try go_simp
                first
                  | (refine hK _ _ ?_; clear hK K)
                  | skip
                refine wpAny_take (i := 10) (v := ?_) rfl (by as_aux_lemma => kernel_rfl) (by as_aux_lemma => kernel_rfl) (by as_aux_lemma => kernel_rfl) (fun _ _ _ h => h) (Or.inl ⟨by as_aux_lemma => kernel_rfl, ?_⟩) ?_
                rotate_left
                focus (intro w; go_simp; (try (with_reducible rfl)); done)
                go_simp
                refine wpAny_done (by kernel_rfl) ?_ _
                go_wp2
                go_roundw
                case rel => exact ⟨k + 1, k, T', by omega, by go_num, rfl, H10.out.1, H10.out.2.1, fun _ => ⟨HK.out, T, wr, by have e := HK.out; have h9 := HI.out.2.1; rw [e] at h9; exact h9, by rw [show k + 1 - 94 = 1 by have := HK.out; omega]; exact H10.out.2.2⟩, fun h => (by have := HK.out; omega)⟩
                case measure => simp [intOf]; omega
              exact AllReady.nil
            exact AllReady.nil
          exact AllReady.nil
        refine AllReady.cons rfl (fun K hK => ?_) ?_
        · go_simp
          try go_simp
          first
            | (refine hK _ _ ?_; clear hK K)
            | skip
          refine wpAny_ready (rs := [2, 8]) (by as_aux_lemma => kernel_rfl) (by simp) ?_
          refine AllReady.cons rfl (fun K hK => ?_) ?_
          · go_simp
            try go_simp
            first
              | (refine hK _ _ ?_; clear hK K)
              | skip
            refine wpAny_take (i := 3) (v := ?_) rfl (by as_aux_lemma => kernel_rfl) (by as_aux_lemma => kernel_rfl) (by as_aux_lemma => kernel_rfl) (fun _ _ _ h => h) (Or.inl ⟨by as_aux_lemma => kernel_rfl, ?_⟩) ?_
            rotate_left
            focus (intro w; go_simp; (try (with_reducible rfl)); done)
            go_simp
            refine wpAny_take (i := 5) (v := ?_) rfl (by as_aux_lemma => kernel_rfl) (by as_aux_lemma => kernel_rfl) (by as_aux_lemma => kernel_rfl) (fun _ _ _ h => h) (Or.inl ⟨by as_aux_lemma => kernel_rfl, ?_⟩) ?_
            rotate_left
            focus (intro w; go_simp; (try (with_reducible rfl)); done)
            go_simp
            refine wpAny_ready (rs := [8]) (by as_aux_lemma => kernel_rfl) (by simp) ?_
            refine AllReady.cons rfl (fun K hK => ?_) ?_
            · (go_simp; go_at_call 11; refine (lblock_any _ (k : Int) (by omega)).mono ?_; rintro e w9 ⟨rfl, ho, hb⟩; have H9 : Hid (Below wr.heap.size wr w9 ∧ OwnB w9 w8.heap.size 512 (one (k : Int))) := ⟨HD8.out.trans (hb.mono HD8.out.size), ho⟩; obtain ⟨x0, x1, x2, x3, x4⟩ := HGe.out _ (HI.out.2.1.geo.on H9.out.1); clear ho hb)
              try go_simp
              first
                | (refine hK _ _ ?_; clear hK K)
                | skip
              refine wpAny_ready (rs := [9]) (by as_aux_lemma => kernel_rfl) (by simp) ?_
              refine AllReady.cons rfl (fun K hK => ?_) ?_
              · (go_simp; go_at_call 10; refine (HW.out w9 _ _ H9.out.1 H9.out.2).mono ?_; rintro e w10 ⟨rfl, T', h1, h2, h3⟩; have H10 : Hid (T'.t = t0 ∧ Rf wk w10 D T' n P (k + 1) ∧ Ext T T' 1) := ⟨h1, h2, h3⟩; clear h1 h2 h3)
                try go_simp
                first
                  | (refine hK _ _ ?_; clear hK K)
                  | skip
                refine wpAny_take (i := 10) (v := ?_) rfl (by as_aux_lemma => kernel_rfl) (by as_aux_lemma => kernel_rfl) (by as_aux_lemma => kernel_rfl) (fun _ _ _ h => h) (Or.inl ⟨by as_aux_lemma => kernel_rfl, ?_⟩) ?_
                rotate_left
                focus (intro w; go_simp; (try (with_reducible rfl)); done)
                go_simp
                refine wpAny_done (by kernel_rfl) ?_ _
                go_wp2
                go_roundw
                case rel => exact ⟨k + 1, k, T', by omega, by go_num, rfl, H10.out.1, H10.out.2.1, fun _ => ⟨HK.out, T, wr, by have e := HK.out; have h9 := HI.out.2.1; rw [e] at h9; exact h9, by rw [show k + 1 - 94 = 1 by have := HK.out; omega]; exact H10.out.2.2⟩, fun h => (by have := HK.out; omega)⟩
                case measure => simp [intOf]; omega
              exact AllReady.nil
            exact AllReady.nil
          refine AllReady.cons rfl (fun K hK => ?_) ?_
          · (go_simp; go_at_call 11; refine (lblock_any _ (k : Int) (by omega)).mono ?_; rintro e w9 ⟨rfl, ho, hb⟩; have H9 : Hid (Below wr.heap.size wr w9 ∧ OwnB w9 w8.heap.size 512 (one (k : Int))) := ⟨HD8.out.trans (hb.mono HD8.out.size), ho⟩; obtain ⟨x0, x1, x2, x3, x4⟩ := HGe.out _ (HI.out.2.1.geo.on H9.out.1); clear ho hb)
            try go_simp
            first
              | (refine hK _ _ ?_; clear hK K)
              | skip
            refine wpAny_ready (rs := [2]) (by as_aux_lemma => kernel_rfl) (by simp) ?_
            refine AllReady.cons rfl (fun K hK => ?_) ?_
            · go_simp
              try go_simp
              first
                | (refine hK _ _ ?_; clear hK K)
                | skip
              refine wpAny_take (i := 3) (v := ?_) rfl (by as_aux_lemma => kernel_rfl) (by as_aux_lemma => kernel_rfl) (by as_aux_lemma => kernel_rfl) (fun _ _ _ h => h) (Or.inl ⟨by as_aux_lemma => kernel_rfl, ?_⟩) ?_
              rotate_left
              focus (intro w; go_simp; (try (with_reducible rfl)); done)
              go_simp
              refine wpAny_take (i := 5) (v := ?_) rfl (by as_aux_lemma => kernel_rfl) (by as_aux_lemma => kernel_rfl) (by as_aux_lemma => kernel_rfl) (fun _ _ _ h => h) (Or.inl ⟨by as_aux_lemma => kernel_rfl, ?_⟩) ?_
              rotate_left
              focus (intro w; go_simp; (try (with_reducible rfl)); done)
              go_simp
              refine wpAny_ready (rs := [9]) (by as_aux_lemma => kernel_rfl) (by simp) ?_
              refine AllReady.cons rfl (fun K hK => ?_) ?_
              · (go_simp; go_at_call 10; refine (HW.out w9 _ _ H9.out.1 H9.out.2).mono ?_; rintro e w10 ⟨rfl, T', h1, h2, h3⟩; have H10 : Hid (T'.t = t0 ∧ Rf wk w10 D T' n P (k + 1) ∧ Ext T T' 1) := ⟨h1, h2, h3⟩; clear h1 h2 h3)
                try go_simp
                first
                  | (refine hK _ _ ?_; clear hK K)
                  | skip
                refine wpAny_take (i := 10) (v := ?_) rfl (by as_aux_lemma => kernel_rfl) (by as_aux_lemma => kernel_rfl) (by as_aux_lemma => kernel_rfl) (fun _ _ _ h => h) (Or.inl ⟨by as_aux_lemma => kernel_rfl, ?_⟩) ?_
                rotate_left
                focus (intro w; go_simp; (try (with_reducible rfl)); done)
                go_simp
                refine wpAny_done (by kernel_rfl) ?_ _
                go_wp2
                go_roundw
                case rel => exact ⟨k + 1, k, T', by omega, by go_num, rfl, H10.out.1, H10.out.2.1, fun _ => ⟨HK.out, T, wr, by have e := HK.out; have h9 := HI.out.2.1; rw [e] at h9; exact h9, by rw [show k + 1 - 94 = 1 by have := HK.out; omega]; exact H10.out.2.2⟩, fun h => (by have := HK.out; omega)⟩
                case measure => simp [intOf]; omega
              exact AllReady.nil
            exact AllReady.nil
          exact AllReady.nil
        exact AllReady.nil
      · have h94' : ((k : Int) == 94) = false := by simp; omega
        clear HMk
        go_upto_region 19 with (fail)
        refine wp_region_any (by as_aux_lemma => kernel_rfl) ?_
        try (change wpAny _ _ _ _ _ _ _ (World.drew _))
        refine wpAny_take (i := 0) (v := ?_) rfl (by as_aux_lemma => kernel_rfl) (by as_aux_lemma => kernel_rfl) (by as_aux_lemma => kernel_rfl) (fun _ _ _ h => h) (Or.inl ⟨by as_aux_lemma => kernel_rfl, ?_⟩) ?_
        rotate_left
        focus (intro w; go_simp; (try (with_reducible rfl)); done)
        go_simp
        refine wpAny_take (i := 1) (v := ?_) rfl (by as_aux_lemma => kernel_rfl) (by as_aux_lemma => kernel_rfl) (by as_aux_lemma => kernel_rfl) (fun _ _ _ h => h) (Or.inl ⟨by as_aux_lemma => kernel_rfl, ?_⟩) ?_
        rotate_left
        focus (intro w; go_simp; (try (with_reducible rfl)); done)
        go_simp
        refine wpAny_take (i := 4) (v := ?_) rfl (by as_aux_lemma => kernel_rfl) (by as_aux_lemma => kernel_rfl) (by as_aux_lemma => kernel_rfl) (fun _ _ _ h => h) (Or.inl ⟨by as_aux_lemma => kernel_rfl, ?_⟩) ?_
        rotate_left
        focus (intro w; go_simp; (try (with_reducible rfl)); done)
        go_simp
        refine wpAny_take (i := 6) (v := ?_) rfl (by as_aux_lemma => kernel_rfl) (by as_aux_lemma => kernel_rfl) (by as_aux_lemma => kernel_rfl) (fun _ _ _ h => h) (Or.inl ⟨by as_aux_lemma => kernel_rfl, ?_⟩) ?_
        rotate_left
        focus (intro w; go_simp; (try (with_reducible rfl)); done)
        go_simp
        refine wpAny_ready (rs := [2, 7]) (by as_aux_lemma => kernel_rfl) (by simp) ?_
        refine AllReady.cons rfl (fun K hK => ?_) ?_
        · go_simp
          try go_simp
          first
            | (refine hK _ _ ?_; clear hK K)
            | skip
          refine wpAny_take (i := 3) (v := ?_) rfl (by as_aux_lemma => kernel_rfl) (by as_aux_lemma => kernel_rfl) (by as_aux_lemma => kernel_rfl) (fun _ _ _ h => h) (Or.inl ⟨by as_aux_lemma => kernel_rfl, ?_⟩) ?_
          rotate_left
          focus (intro w; go_simp; (try (with_reducible rfl)); done)
          go_simp
          refine wpAny_take (i := 5) (v := ?_) rfl (by as_aux_lemma => kernel_rfl) (by as_aux_lemma => kernel_rfl) (by as_aux_lemma => kernel_rfl) (fun _ _ _ h => h) (Or.inl ⟨by as_aux_lemma => kernel_rfl, ?_⟩) ?_
          rotate_left
          focus (intro w; go_simp; (try (with_reducible rfl)); done)
          go_simp
          refine wpAny_ready (rs := [7]) (by as_aux_lemma => kernel_rfl) (by simp) ?_
          refine AllReady.cons rfl (fun K hK => ?_) ?_
          · go_simp
            try go_simp
            first
              | (refine hK _ _ ?_; clear hK K)
              | skip
            refine wpAny_ready (rs := [8]) (by as_aux_lemma => kernel_rfl) (by simp) ?_
            refine AllReady.cons rfl (fun K hK => ?_) ?_
            · (go_simp; go_at_call 11; refine (lblock_any _ (k : Int) (by omega)).mono ?_; rintro e w9 ⟨rfl, ho, hb⟩; have H9 : Hid (Below wr.heap.size wr w9 ∧ OwnB w9 wr.heap.size 512 (one (k : Int))) := ⟨HD.out.trans (hb.mono HD.out.size), ho⟩; obtain ⟨x0, x1, x2, x3, x4⟩ := HGe.out _ (HI.out.2.1.geo.on H9.out.1); clear ho hb)
              try go_simp
              first
                | (refine hK _ _ ?_; clear hK K)
                | skip
              refine wpAny_ready (rs := [9]) (by as_aux_lemma => kernel_rfl) (by simp) ?_
              refine AllReady.cons rfl (fun K hK => ?_) ?_
              · (go_simp; go_at_call 10; refine (HW.out w9 _ _ H9.out.1 H9.out.2).mono ?_; rintro e w10 ⟨rfl, T', h1, h2, h3⟩; have H10 : Hid (T'.t = t0 ∧ Rf wk w10 D T' n P (k + 1) ∧ Ext T T' 1) := ⟨h1, h2, h3⟩; clear h1 h2 h3)
                try go_simp
                first
                  | (refine hK _ _ ?_; clear hK K)
                  | skip
                refine wpAny_take (i := 10) (v := ?_) rfl (by as_aux_lemma => kernel_rfl) (by as_aux_lemma => kernel_rfl) (by as_aux_lemma => kernel_rfl) (fun _ _ _ h => h) (Or.inl ⟨by as_aux_lemma => kernel_rfl, ?_⟩) ?_
                rotate_left
                focus (intro w; go_simp; (try (with_reducible rfl)); done)
                go_simp
                refine wpAny_done (by kernel_rfl) ?_ _
                go_wp2
                go_roundw
                case rel => exact ⟨k + 1, mk, T', by omega, by go_num, rfl, H10.out.1, H10.out.2.1, fun h => (by obtain ⟨e, T94, w94, g1, g2⟩ := HI.out.2.2.1 (by omega); exact ⟨e, T94, w94, g1, by rw [show k + 1 - 94 = (k - 94) + 1 by omega]; exact ext_trans g2 H10.out.2.2⟩), fun h => HI.out.2.2.2 (by omega)⟩
                case measure => simp [intOf]; omega
              exact AllReady.nil
            exact AllReady.nil
          exact AllReady.nil
        refine AllReady.cons rfl (fun K hK => ?_) ?_
        · go_simp
          try go_simp
          first
            | (refine hK _ _ ?_; clear hK K)
            | skip
          refine wpAny_ready (rs := [2, 8]) (by as_aux_lemma => kernel_rfl) (by simp) ?_
          refine AllReady.cons rfl (fun K hK => ?_) ?_
          · go_simp
            try go_simp
            first
              | (refine hK _ _ ?_; clear hK K)
              | skip
            refine wpAny_take (i := 3) (v := ?_) rfl (by as_aux_lemma => kernel_rfl) (by as_aux_lemma => kernel_rfl) (by as_aux_lemma => kernel_rfl) (fun _ _ _ h => h) (Or.inl ⟨by as_aux_lemma => kernel_rfl, ?_⟩) ?_
            rotate_left
            focus (intro w; go_simp; (try (with_reducible rfl)); done)
            go_simp
            refine wpAny_take (i := 5) (v := ?_) rfl (by as_aux_lemma => kernel_rfl) (by as_aux_lemma => kernel_rfl) (by as_aux_lemma => kernel_rfl) (fun _ _ _ h => h) (Or.inl ⟨by as_aux_lemma => kernel_rfl, ?_⟩) ?_
            rotate_left
            focus (intro w; go_simp; (try (with_reducible rfl)); done)
            go_simp
            refine wpAny_ready (rs := [8]) (by as_aux_lemma => kernel_rfl) (by simp) ?_
            refine AllReady.cons rfl (fun K hK => ?_) ?_
            · (go_simp; go_at_call 11; refine (lblock_any _ (k : Int) (by omega)).mono ?_; rintro e w9 ⟨rfl, ho, hb⟩; have H9 : Hid (Below wr.heap.size wr w9 ∧ OwnB w9 wr.heap.size 512 (one (k : Int))) := ⟨HD.out.trans (hb.mono HD.out.size), ho⟩; obtain ⟨x0, x1, x2, x3, x4⟩ := HGe.out _ (HI.out.2.1.geo.on H9.out.1); clear ho hb)
              try go_simp
              first
                | (refine hK _ _ ?_; clear hK K)
                | skip
              refine wpAny_ready (rs := [9]) (by as_aux_lemma => kernel_rfl) (by simp) ?_
              refine AllReady.cons rfl (fun K hK => ?_) ?_
              · (go_simp; go_at_call 10; refine (HW.out w9 _ _ H9.out.1 H9.out.2).mono ?_; rintro e w10 ⟨rfl, T', h1, h2, h3⟩; have H10 : Hid (T'.t = t0 ∧ Rf wk w10 D T' n P (k + 1) ∧ Ext T T' 1) := ⟨h1, h2, h3⟩; clear h1 h2 h3)
                try go_simp
                first
                  | (refine hK _ _ ?_; clear hK K)
                  | skip
                refine wpAny_take (i := 10) (v := ?_) rfl (by as_aux_lemma => kernel_rfl) (by as_aux_lemma => kernel_rfl) (by as_aux_lemma => kernel_rfl) (fun _ _ _ h => h) (Or.inl ⟨by as_aux_lemma => kernel_rfl, ?_⟩) ?_
                rotate_left
                focus (intro w; go_simp; (try (with_reducible rfl)); done)
                go_simp
                refine wpAny_done (by kernel_rfl) ?_ _
                go_wp2
                go_roundw
                case rel => exact ⟨k + 1, mk, T', by omega, by go_num, rfl, H10.out.1, H10.out.2.1, fun h => (by obtain ⟨e, T94, w94, g1, g2⟩ := HI.out.2.2.1 (by omega); exact ⟨e, T94, w94, g1, by rw [show k + 1 - 94 = (k - 94) + 1 by omega]; exact ext_trans g2 H10.out.2.2⟩), fun h => HI.out.2.2.2 (by omega)⟩
                case measure => simp [intOf]; omega
              exact AllReady.nil
            exact AllReady.nil
          refine AllReady.cons rfl (fun K hK => ?_) ?_
          · (go_simp; go_at_call 11; refine (lblock_any _ (k : Int) (by omega)).mono ?_; rintro e w9 ⟨rfl, ho, hb⟩; have H9 : Hid (Below wr.heap.size wr w9 ∧ OwnB w9 wr.heap.size 512 (one (k : Int))) := ⟨HD.out.trans (hb.mono HD.out.size), ho⟩; obtain ⟨x0, x1, x2, x3, x4⟩ := HGe.out _ (HI.out.2.1.geo.on H9.out.1); clear ho hb)
            try go_simp
            first
              | (refine hK _ _ ?_; clear hK K)
              | skip
            refine wpAny_ready (rs := [2]) (by as_aux_lemma => kernel_rfl) (by simp) ?_
            refine AllReady.cons rfl (fun K hK => ?_) ?_
            · go_simp
              try go_simp
              first
                | (refine hK _ _ ?_; clear hK K)
                | skip
              refine wpAny_take (i := 3) (v := ?_) rfl (by as_aux_lemma => kernel_rfl) (by as_aux_lemma => kernel_rfl) (by as_aux_lemma => kernel_rfl) (fun _ _ _ h => h) (Or.inl ⟨by as_aux_lemma => kernel_rfl, ?_⟩) ?_
              rotate_left
              focus (intro w; go_simp; (try (with_reducible rfl)); done)
              go_simp
              refine wpAny_take (i := 5) (v := ?_) rfl (by as_aux_lemma => kernel_rfl) (by as_aux_lemma => kernel_rfl) (by as_aux_lemma => kernel_rfl) (fun _ _ _ h => h) (Or.inl ⟨by as_aux_lemma => kernel_rfl, ?_⟩) ?_
              rotate_left
              focus (intro w; go_simp; (try (with_reducible rfl)); done)
              go_simp
              refine wpAny_ready (rs := [9]) (by as_aux_lemma => kernel_rfl) (by simp) ?_
              refine AllReady.cons rfl (fun K hK => ?_) ?_
              · (go_simp; go_at_call 10; refine (HW.out w9 _ _ H9.out.1 H9.out.2).mono ?_; rintro e w10 ⟨rfl, T', h1, h2, h3⟩; have H10 : Hid (T'.t = t0 ∧ Rf wk w10 D T' n P (k + 1) ∧ Ext T T' 1) := ⟨h1, h2, h3⟩; clear h1 h2 h3)
                try go_simp
                first
                  | (refine hK _ _ ?_; clear hK K)
                  | skip
                refine wpAny_take (i := 10) (v := ?_) rfl (by as_aux_lemma => kernel_rfl) (by as_aux_lemma => kernel_rfl) (by as_aux_lemma => kernel_rfl) (fun _ _ _ h => h) (Or.inl ⟨by as_aux_lemma => kernel_rfl, ?_⟩) ?_
                rotate_left
                focus (intro w; go_simp; (try (with_reducible rfl)); done)
                go_simp
                refine wpAny_done (by kernel_rfl) ?_ _
                go_wp2
                go_roundw
                case rel => exact ⟨k + 1, mk, T', by omega, by go_num, rfl, H10.out.1, H10.out.2.1, fun h => (by obtain ⟨e, T94, w94, g1, g2⟩ := HI.out.2.2.1 (by omega); exact ⟨e, T94, w94, g1, by rw [show k + 1 - 94 = (k - 94) + 1 by omega]; exact ext_trans g2 H10.out.2.2⟩), fun h => HI.out.2.2.2 (by omega)⟩
                case measure => simp [intOf]; omega
              exact AllReady.nil
            exact AllReady.nil
          exact AllReady.nil
        exact AllReady.nil
    · have hkm : k = most := by omega
      subst hkm
      have hA := HI.out.2.1
      obtain ⟨hmk, T94, w94, hR94, hE94⟩ := HI.out.2.2.1 (by omega)
      have HMk9 : Hid (mk = 94) := hmk
      have hNb := nM_bd hA.spc.lo hA.spc.hi
      have hlo9 := HLo.out
      have hn9 := HN.out
      have hM1 : nM n = 1 := by rw [hn9.1]; decide
      have hct : ∀ T', fd (nD n) n (bmp D T') = (fun j => decide (nD n ≤ j ∧ j < n)) → ((ct (fd (nD n) n (bmp D T')) n : Nat) : Int) = (n : Int) - (lo : Int) := fun T' e => by
        rw [e, hn9.1, show nD 298 = 103 by decide, hlo9]; decide
      have HFr : Hid (∀ wx T', T'.t = t0 → Rf wk wx D T' n P k → Calls Try.prog 13 #[.pointer (some ⟨t0, 0, none⟩), .agg #[.int .i64 (n : Int), .int .i64 98, .int .i64 (gI n), .int .i64 (lo : Int), .int .i64 (gC n)]] wx fun e w' => e = .returned (.tuple #[.int .i64 ((n : Int) - (lo : Int)), .int .i64 0]) ∧ Below wx.heap.size wx w') := fun wx T' e h => by
        have h9 := free_any wk wx D T' n h.spc
        rw [hct T' h.fde, e, geoV, HHg.out.1] at h9
        exact h9
      have HRd : Hid (∀ wx T', T'.t = t0 → Rf wk wx D T' n P k → Calls Try.prog 12 #[.pointer (some ⟨t0, 0, none⟩), .int .i64 98] wx fun e w' => ∃ g cap, e = .returned (.tuple #[.slice (some ⟨g, 0, none⟩) 512 cap, .int .i64 0]) ∧ wx.heap.size ≤ g ∧ OwnB w' g cap (tv D T' 98) ∧ Below wx.heap.size wx w') := fun wx T' e h => by
        have h9 := h.spc.read 98 (by omega)
        rw [e] at h9
        exact h9
      have HTk2 : Hid (∀ wx, Below wr.heap.size wr wx → Calls Try.prog 6 #[.pointer (some ⟨t0, 0, none⟩), .agg #[.int .i64 (n : Int), .int .i64 98, .int .i64 (gI n), .int .i64 (lo : Int), .int .i64 (gC n)]] wx fun e w' => e = .returned (.tuple #[.int .i64 0, .int .i64 60]) ∧ ∃ T', T'.t = t0 ∧ Rf wk w' D T' n P k ∧ T'.c = T.c ∧ T'.us = T.us ∧ ∀ g cap l, wr.heap.size ≤ g → OwnB wx g cap l → OwnB w' g cap l) := fun wx hb => by
        have hx := HI.out.2.1.on hb
        have h9 := stake_big wk wx D T n hx.spc (nD n) hx.lo (by omega) (hx.empty _ (by omega)) (hx.empty _ (by omega)) (by rw [hx.cnt]; omega) (by rw [hx.us]; omega)
        rw [HI.out.1, geoV, HHg.out.1] at h9
        refine h9.mono ?_
        rintro e w' ⟨rfl, T', g⟩
        refine ⟨rfl, T', g.mv.t.trans HI.out.1, hx.big g, g.c, g.us, fun g9 cap l hg ho => ho.fr g.mv.fr (fun e => ?_)⟩
        have := HI.out.2.1.spc.ses.tx.lt (.inl e)
        omega
      obtain ⟨B, hB⟩ : ∃ B, tv D T 98 = B := ⟨_, rfl⟩
      have hBl : B.length = 512 := by rw [← hB]; exact (hA.spc.ok 98 (by omega)).1
      have HBk2 : Hid (∀ w12 T', T'.t = t0 → Rf wk w12 D T' n P k → T'.c = T.c → T'.us = T.us → ∀ wx, Below w12.heap.size w12 wx → Calls Try.prog 8 #[.pointer (some ⟨t0, 0, none⟩), .int .i64 (mk : Int)] wx fun e w' => e = .returned (.int .i64 0) ∧ ∃ T3, T3.t = t0 ∧ Rf wk w' D T3 n P 94) := fun w12 T' e1 h e2 e3 wx hb => by
        have hE : Ext T94 T' (k - 94) := by
          obtain ⟨ext, x1, x2, x3⟩ := hE94
          exact ⟨ext, by rw [e3, x1], x2, by rw [e2, x3]⟩
        have h9 := ref_back (T := T94) (k := 94) (h.spc.on hb) (h.geo.on hb) h.aP (by omega) hE hR94.us (by rw [hR94.cnt]; omega) hR94.spc.ok
        rw [e1] at h9
        rw [HMk9.out]
        refine h9.mono ?_
        rintro e w' ⟨rfl, T2, g1, g2, g3, g4, g5, g6⟩
        have hb : bmp D T2 = bmp D T94 := by
          funext j
          unfold bmp tv
          rw [g5]
        exact ⟨rfl, T2, g1, g2, g3, g4, by rw [g5]; exact hR94.dom, by rw [g5]; exact hR94.cnt, by rw [g6]; exact hR94.us, by rw [hb]; exact hR94.fde⟩
      have HTk9 : Hid (∀ wx T3, T3.t = t0 → Rf wk wx D T3 n P 94 → Calls Try.prog 6 #[.pointer (some ⟨t0, 0, none⟩), .agg #[.int .i64 (n : Int), .int .i64 98, .int .i64 (gI n), .int .i64 (lo : Int), .int .i64 (gC n)]] wx fun e w' => e = .returned (.tuple #[.int .i64 (lo : Int), .int .i64 0]) ∧ ∃ T4, T4.t = t0 ∧ Spc wk w' D T4 n ∧ (lst T4.c n).length = 96 ∧ GeoAt w' P n) := fun wx T3 e1 h => by
        have hc0 := h.empty (98 + nD n / 4096) (by omega)
        have hc1 := h.empty (nD n) (by omega)
        have h9 := stake_ok wk wx D T3 n h.spc (nD n) h.lo (.inr (by rw [h.cnt]; omega)) (.inr (by rw [h.cnt]; split <;> omega)) (by rw [h.us]; omega)
        rw [e1, geoV, HHg.out.1, HHg.out.2] at h9
        refine h9.mono ?_
        rintro e w' ⟨rfl, T', g⟩
        rw [← HHg.out.2] at g
        obtain ⟨g1, g2⟩ := geo_mv h.geo h.aP g.mv
        obtain ⟨q, q2, hc, _⟩ := g.c
        refine ⟨rfl, T', g.mv.t.trans e1, g.spc, ?_, g1⟩
        rw [hc, lst_len_ups (by omega), ups_other _ _ (by omega), hc1, lst_len_ups (by omega), hc0, h.cnt]
        rfl
      have HGf : Hid (∀ wx T', T'.t = t0 → Rf wk wx D T' n P k → Calls Try.prog 14 #[.pointer (some ⟨t0, 0, none⟩), .agg #[.int .i64 (n : Int), .int .i64 98, .int .i64 (gI n), .int .i64 (lo : Int), .int .i64 (gC n)], .int .i64 (lo : Int)] wx fun e w' => e = .returned (.int .i64 91) ∧ Below wx.heap.size wx w') := fun wx T' e1 h => by
        have h9 := give_free wk wx D T' n h.spc (nD n) (Nat.le_refl _) (by omega) (by rw [isT_fd (Nat.le_refl _) (show nD n < n by omega), h.fde]; simp; omega)
        rw [e1, geoV, HHg.out.1, HHg.out.2] at h9
        exact h9
      have HGn : Hid (∀ wx (v : Int), ¬ ((lo : Int) ≤ v ∧ v < (n : Int)) → Calls Try.prog 14 #[.pointer (some ⟨t0, 0, none⟩), .agg #[.int .i64 (n : Int), .int .i64 98, .int .i64 (gI n), .int .i64 (lo : Int), .int .i64 (gC n)], .int .i64 v] wx fun e w' => e = .returned (.int .i64 91) ∧ Below wx.heap.size wx w') := fun wx v hv => by
        have h9 := give_not wx t0 n v (by rw [HHg.out.2]; exact hv)
        rw [geoV, HHg.out.1] at h9
        exact h9
      have HFin : Hid (∀ wx T4, Spc wk wx D T4 n → Below w.heap.size w wx) := fun wx T4 h => HWc.out.trans (h.ses.bel.mono HWc.out.size)
      obtain ⟨gm, hgm⟩ : ∃ gm : Int, gv % 1000 = gm := ⟨_, rfl⟩
      have hgmb : 0 ≤ gm ∧ gm < 1000 := by omega
      have HMg : Hid (∀ wx, Calls Try.prog 15 #[.int .i64 gv, .int .i64 1000] wx fun e w' => e = .returned (.int .i64 gm) ∧ wx = w') := fun wx => by
        rw [← hgm]; exact mod_any wx gv 1000 (by omega) (by omega)
      have hw1 : IntKind.i64.wrap ((lo : Int) - 1) = (lo : Int) - 1 := by rw [IntKind.wrap_i64]; omega
      have hw2 : IntKind.i64.wrap ((n : Int) + gm) = (n : Int) + gm := by rw [IntKind.wrap_i64]; omega
      have hw3 : IntKind.i64.wrap ((n : Int) - (lo : Int)) = (n : Int) - (lo : Int) := by rw [IntKind.wrap_i64]; omega
      have HS : Hid (tv D T 98 = B ∧ B.length = 512 ∧ (lo : Int) < (n : Int) ∧ 0 ≤ gm) := ⟨hB, hBl, by omega, hgmb.1⟩
      have hk9 : ¬ (k : Int) < (k : Int) := by omega
      clear hA hE94 hR94 hB hBl hgm hgmb hmk hct hNb hlo9 hn9 hM1 hlt
      go_upto_region 24 with (first
        | (go_at_call 12; refine (HRd.out wr T HI.out.1 HI.out.2.1).mono ?_; rintro e w11 ⟨g1, c1, rfl, h1, h2, h3⟩; have H11 : Hid (wr.heap.size ≤ g1 ∧ OwnB w11 g1 c1 (tv D T 98) ∧ Below wr.heap.size wr w11) := ⟨h1, h2, h3⟩; obtain ⟨p0, p1, p2, p3, p4⟩ := HGe.out _ (HI.out.2.1.geo.on h3); clear h1 h2 h3)
        | (go_at_call 13; refine (HFr.out w11 T HI.out.1 (HI.out.2.1.on H11.out.2.2)).mono ?_; rintro e wz ⟨rfl, h1⟩; have HZ : Hid (Below wr.heap.size wr wz ∧ OwnB wz g1 c1 (tv D T 98)) := ⟨H11.out.2.2.trans (h1.mono H11.out.2.2.size), H11.out.2.1.on h1⟩; obtain ⟨q0, q1, q2, q3, q4⟩ := HGe.out _ (HI.out.2.1.geo.on HZ.out.1); clear h1)
        | (go_at_call 6; refine (HTk2.out wz HZ.out.1).mono ?_; rintro e w12 ⟨rfl, T', h1, h2, h3, h4, h5⟩; have H12 : Hid (T'.t = t0 ∧ Rf wk w12 D T' n P k ∧ T'.c = T.c ∧ T'.us = T.us ∧ OwnB w12 g1 c1 B) := ⟨h1, h2, h3, h4, HS.out.1 ▸ h5 g1 c1 _ H11.out.1 HZ.out.2⟩; obtain ⟨o0, o1, o2, o3, o4⟩ := HGe.out _ h2.geo; clear h1 h2 h3 h4 h5 HTk2))
      have HTB : Hid (tv D T' 98 = B) := by
        have := HS.out.1
        unfold tv at this ⊢
        rw [H12.out.2.2.1]
        exact this
      have HBk3 : Hid (∀ wx, Below w12.heap.size w12 wx → Calls Try.prog 8 #[.pointer (some ⟨t0, 0, none⟩), .int .i64 (mk : Int)] wx fun e w' => e = .returned (.int .i64 0) ∧ ∃ T3, T3.t = t0 ∧ Rf wk w' D T3 n P 94) := HBk2.out w12 T' H12.out.1 H12.out.2.1 H12.out.2.2.1 H12.out.2.2.2.1
      have HG0 : Hid (∀ wx, Below w12.heap.size w12 wx → Calls Try.prog 14 #[.pointer (some ⟨t0, 0, none⟩), .agg #[.int .i64 (n : Int), .int .i64 98, .int .i64 (gI n), .int .i64 (lo : Int), .int .i64 (gC n)], .int .i64 (lo : Int)] wx fun e w' => e = .returned (.int .i64 91) ∧ Below wx.heap.size wx w') := fun wx hb => HGf.out wx T' H12.out.1 (H12.out.2.1.on hb)
      have HG1 : Hid (∀ wx, Below w12.heap.size w12 wx → Calls Try.prog 14 #[.pointer (some ⟨t0, 0, none⟩), .agg #[.int .i64 (n : Int), .int .i64 98, .int .i64 (gI n), .int .i64 (lo : Int), .int .i64 (gC n)], .int .i64 ((lo : Int) - 1)] wx fun e w' => e = .returned (.int .i64 91) ∧ Below wx.heap.size wx w') := fun wx _ => HGn.out wx _ (by omega)
      have HG2 : Hid (∀ wx, Below w12.heap.size w12 wx → Calls Try.prog 14 #[.pointer (some ⟨t0, 0, none⟩), .agg #[.int .i64 (n : Int), .int .i64 98, .int .i64 (gI n), .int .i64 (lo : Int), .int .i64 (gC n)], .int .i64 ((n : Int) + gm)] wx fun e w' => e = .returned (.int .i64 91) ∧ Below wx.heap.size wx w') := fun wx _ => HGn.out wx _ (by have := HS.out.2.2.2; omega)
      clear HBk2 HGf HGn p0 p1 p2 p3 p4 q0 q1 q2 q3 q4 z0 z1 z2 z3 z4
      go_upto_region 26 with (first
        | (go_at_call 12; refine (HRd.out w12 T' H12.out.1 H12.out.2.1).mono ?_; rintro e w13 ⟨g2, c2, rfl, h1, h2, h3⟩; have H13 : Hid (OwnB w13 g1 c1 B ∧ OwnB w13 g2 c2 B ∧ Below w12.heap.size w12 w13) := ⟨H12.out.2.2.2.2.on h3, HTB.out ▸ h2, h3⟩; obtain ⟨p0, p1, p2, p3, p4⟩ := HGe.out _ (H12.out.2.1.geo.on h3); clear h1 h2 h3)
        | (go_at_call 13; refine (HFr.out w13 T' H12.out.1 (H12.out.2.1.on H13.out.2.2)).mono ?_; rintro e w14 ⟨rfl, h1⟩; have H14 : Hid (OwnB w14 g1 c1 B ∧ OwnB w14 g2 c2 B ∧ Below w12.heap.size w12 w14) := ⟨H13.out.1.on h1, H13.out.2.1.on h1, H13.out.2.2.trans (h1.mono H13.out.2.2.size)⟩; obtain ⟨q0, q1, q2, q3, q4⟩ := HGe.out _ (H12.out.2.1.geo.on H14.out.2.2); clear h1))
      go_upto_region 28 with (go_at_call 7; refine (by have h9 := written_len w14 T' (H12.out.2.1.spc.on H14.out.2.2).ses.tx k (by rw [H12.out.2.1.spc.nb]; exact H12.out.2.1.cnt); rw [H12.out.1] at h9; exact h9 : Calls Try.prog 7 #[.pointer (some ⟨t0, 0, none⟩)] w14 fun e w' => ∃ va vc, e = .returned (.slice va k vc) ∧ Below w14.heap.size w14 w').mono ?_; rintro e w15 ⟨va, vc, rfl, hb⟩; have H15 : Hid (Below w12.heap.size w12 w15) := H14.out.2.2.trans (hb.mono H14.out.2.2.size); have e1 : (convert 22 9 (.slice (some ⟨g1, 0, none⟩) 512 c1)).run Try.prog w15 = .ok (.string (strOfNums B)) w15 := str_opt (H14.out.1.on hb).bytes HS.out.2.1; have e2 : (convert 22 9 (.slice (some ⟨g2, 0, none⟩) 512 c2)).run Try.prog w15 = .ok (.string (strOfNums B)) w15 := str_opt (H14.out.2.1.on hb).bytes HS.out.2.1; obtain ⟨r0, r1, r2, r3, r4⟩ := HGe.out _ (H12.out.2.1.geo.on H15.out); clear hb)
      have HB15d : Hid (Below w12.heap.size w12 w15.drew) := H15.out.drew
      clear HFr HRd p0 p1 p2 p3 p4 q0 q1 q2 q3 q4 o0 o1 o2 o3 o4
      go_cut [175] (fun s wx => s = .bool false ∧ Below w12.heap.size w12 wx)
      case first => as_aux_lemma =>
        go_region_held3 (fun w' => w'.cell? ⟨P, 0, none⟩ = some (.int .i64 (n : Int)) ∧ w'.cell? ⟨P, 1, none⟩ = some (.int .i64 98) ∧ w'.cell? ⟨P, 2, none⟩ = some (.int .i64 (gI n)) ∧ w'.cell? ⟨P, 3, none⟩ = some (.int .i64 (lo : Int)) ∧ w'.cell? ⟨P, 4, none⟩ = some (.int .i64 (gC n))) (go_keep)
          (first
            | (go_at_call 14; refine (HG0.out _ HB15d.out).mono ?_; rintro e w16 ⟨rfl, hb⟩; have HB16 : Hid (Below w12.heap.size w12 w16) := HB15d.out.trans (hb.mono HB15d.out.size); obtain ⟨u160, u161, u162, u163, u164⟩ := HGe.out _ (H12.out.2.1.geo.on HB16.out); clear hb HG0)
            | (go_at_call 14; refine (HG1.out _ HB16.out).mono ?_; rintro e w17 ⟨rfl, hb⟩; have HB17 : Hid (Below w12.heap.size w12 w17) := HB16.out.trans (hb.mono HB16.out.size); obtain ⟨u170, u171, u172, u173, u174⟩ := HGe.out _ (H12.out.2.1.geo.on HB17.out); clear hb HG1)
            | (go_at_call 14; refine (HG2.out _ HB17.out).mono ?_; rintro e w18 ⟨rfl, hb⟩; have HB18 : Hid (Below w12.heap.size w12 w18) := HB17.out.trans (hb.mono HB17.out.size); obtain ⟨u180, u181, u182, u183, u184⟩ := HGe.out _ (H12.out.2.1.geo.on HB18.out); clear hb HG2)
            | (go_at_call 15; refine (HMg.out _).mono ?_; rintro e wm ⟨rfl, rfl⟩))
        all_goals go_wp2
        all_goals go_meet
        case rel => exact ⟨by simp, HB18.out⟩
      case rest =>
      obtain ⟨rfl, hbE⟩ := hcut
      have HBE : Hid (Below w12.heap.size w12 wc) := hbE
      clear hbE
      go_wp2_with (first
        | (go_at_call 8; refine (HBk3.out _ HBE.out).mono ?_; rintro e w19 ⟨rfl, T3, h1, h2⟩; have H19 : Hid (T3.t = t0 ∧ Rf wk w19 D T3 n P 94) := ⟨h1, h2⟩; obtain ⟨t0_, t1_, t2_, t3_, t4_⟩ := HGe.out _ h2.geo; have HT9 := HTk9.out _ _ h1 h2; clear h1 h2)
        | (go_at_call 6; refine HT9.mono ?_; rintro e w20 ⟨rfl, T4, h1, h2, h3, h4⟩; have H20 : Hid (T4.t = t0 ∧ Spc wk w20 D T4 n ∧ (lst T4.c n).length = 96 ∧ GeoAt w20 P n) := ⟨h1, h2, h3, h4⟩; obtain ⟨s0_, s1_, s2_, s3_, s4_⟩ := HGe.out _ h4; clear h1 h2 h3 h4 HT9)
        | (go_at_call 7; refine (by have h9 := written_len w20 T4 H20.out.2.1.ses.tx 96 (by rw [H20.out.2.1.nb]; exact H20.out.2.2.1); rw [H20.out.1] at h9; exact h9 : Calls Try.prog 7 #[.pointer (some ⟨t0, 0, none⟩)] w20 fun e w' => ∃ va vc, e = .returned (.slice va 96 vc) ∧ Below w20.heap.size w20 w').mono ?_; rintro e w21 ⟨va, vc, rfl, hb⟩; have H21 : Hid (Below w20.heap.size w20 w21) := hb; clear hb))
      go_ret
      exact ⟨by simp, HFin.out _ _ (H20.out.2.1.on H21.out)⟩
end Go.Proofs.Ytpbpblpbjkegfaa
