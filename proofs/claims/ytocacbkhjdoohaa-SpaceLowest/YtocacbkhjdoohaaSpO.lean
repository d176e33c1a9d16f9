import Derived.Test.YtocacbkhjdoohaaSpN
namespace Go.Proofs.Ytocacbkhjdoohaa
open Go.RowKit Go.Maps Rec

/-- numbers in memory -/
def IntsA (w : World) (a : Option Addr) (l : List Int) : Prop := l = [] ∨ ∃ b off, a = some ⟨b, off, none⟩ ∧ b < w.heap.size ∧ ∀ j, j < l.length → w.cell? ⟨b, off + j, none⟩ = some (.int .i64 (nth l j))
theorem intsA_of {w : World} {a : Option Addr} {l : List Int} (h : Ints w a l) : IntsA w a l := by
  by_cases e : l = []
  · exact .inl e
  · rcases h.at_ with e2 | ⟨b, off, e2, hc⟩
    · exact .inl e2
    · have h0 : 0 < l.length := List.length_pos_iff.2 e
      exact .inr ⟨b, off, e2, block_lt_of_cell (hc 0 h0), hc⟩
set_option maxRecDepth 100000 in
set_option maxHeartbeats 32000000 in
theorem lowest_any (w : World) (N : Int) (_ : -9223372036854775808 ≤ N ∧ N ≤ 9223372036854775807) (a : Option Addr) (L c : Nat) (gl : List Int) (hg : IntsA w a gl) (hl : gl.length = L) :
    Calls Try.prog 3 #[.int .i64 N, .slice a L c] w fun e w' => e = .returned (.bool true) ∧ Below w.heap.size w w' := by
  have HM : Hid (∀ wx, Calls Try.prog 6 #[.int .i64 N, .int .i64 200] wx fun e w' => e = .returned (.int .i64 (N % 200)) ∧ wx = w') := fun wx => mod_any wx N 200 (by omega) (by omega)
  obtain ⟨N2, hN2⟩ : ∃ N2, N % 200 = N2 := ⟨_, rfl⟩
  have hb2 : 0 ≤ N2 ∧ N2 < 200 := by omega
  have HA : Hid (∀ o, Below w.heap.size w (w.alloc o)) := fun o => (Below.refl _ _).alloc (Nat.le_refl _) o
  have HOp : Hid (∀ wx, Calls Try.prog 7 #[csV N2 (.slice none 0 0) 255 (.slice none 0 0)] wx fun e w' => ∃ t0, e = .returned (.tuple #[.pointer (some ⟨t0, 0, none⟩), geoV (nBl N2 : Nat)]) ∧ ∃ T D, T.t = t0 ∧ OpE wx w' D T (nBl N2) (fB (nBl N2) [] 255)) := fun wx => by
    refine (opened9 wx N2 (by omega) none 0 0 255 (by omega) none 0 0 [] (bytes_nil wx) rfl).mono ?_
    rintro e w' ⟨T, rfl, D, h⟩
    exact ⟨T.t, rfl, T, D, rfl, h⟩
  have hnb := nBl_bd N2
  obtain ⟨n, hn⟩ : ∃ n, nBl N2 = n := ⟨_, rfl⟩
  rw [hN2] at HM
  rw [hn] at HOp hnb
  clear hN2 hn
  have hNm := nM_bd hnb.1 (by omega)
  obtain ⟨o, E2, ho⟩ := makeBo n (by omega)
  have HO : Hid (∀ w : World, BoAt (w.alloc o) w.heap.size n (fun _ => false)) := ho
  have HG : Hid (IntsA w a gl ∧ gl.length = L) := ⟨hg, hl⟩
  unfold csV geoV at HOp
  have hpt := ptr_nilT
  clear ho hg hl
  go_enter Try.func3, Try.ntmps3
  go_upto_region 6 with (first
    | (go_at_call 6; refine (HM.out _).mono ?_; rintro e w' ⟨rfl, rfl⟩; clear HM)
    | (go_at_call 7; refine (HOp.out _).mono ?_; rintro e w2 ⟨t0, rfl, T, D, h1, h2⟩; have H2 : Hid (T.t = t0 ∧ OpE (w.alloc (.cells #[.int .i64 N2, .slice none 0 0, .int .u8 255, .slice none 0 0] 27)) w2 D T n (fB n [] 255)) := ⟨h1, h2⟩; clear h1 h2 HOp))
  obtain ⟨P, hP⟩ : ∃ P, w2.heap.size = P := ⟨_, rfl⟩
  obtain ⟨wc, hwc⟩ : ∃ wc, w.alloc (.cells #[.int .i64 N2, .slice none 0 0, .int .u8 255, .slice none 0 0] 27) = wc := ⟨_, rfl⟩
  rw [hwc] at H2
  have HWc : Hid (Below w.heap.size w wc) := by rw [← hwc]; exact HA.out _
  obtain ⟨w3, hw3⟩ : ∃ w3, (w2.alloc (.cells #[.int .i64 (n : Int), .int .i64 98, .int .i64 (gI n), .int .i64 (gD n), .int .i64 (gC n)] 30)).alloc o = w3 := ⟨_, rfl⟩
  have H3 : Hid (Lo1 wc w3 D T n (P + 1) P 0 (fun _ => false)) := by
    have hb3 : Below w2.heap.size w2 w3 := by rw [← hw3]; exact ((Below.refl _ _).alloc (Nat.le_refl _) _).alloc (by simp) _
    have hS := H2.out.2.spc
    have hbd := hS.ses.bel.size
    refine ⟨⟨hS.on hb3, ?_, ?_, fun e => ?_, fun e => ?_, fun e => ?_, by omega, by omega⟩, ?_, (fun i hi => by cases hi), ?_, (by rw [H2.out.2.us]; simp), H2.out.2.top⟩
    · have := HO.out (w2.alloc (.cells #[.int .i64 (n : Int), .int .i64 98, .int .i64 (gI n), .int .i64 (gD n), .int .i64 (gC n)] 30))
      rw [World.size_alloc, hP] at this
      rw [← hw3]
      exact this
    · rw [← hw3, ← hP]; exact (Below.heap_alloc _ _ _ (by simp)).trans (heap_alloc_new _ _)
    · have := hS.ses.tx.lt e; omega
    · have := hS.ses.tx.lt e; omega
    · have := hS.ses.dk.disk.allLt e; omega
    · funext j
      unfold fd
      by_cases e : nD n ≤ j ∧ j < n
      · rw [H2.out.2.bit j (by omega), fB_full]; simp
      · rw [decide_eq_false e]; rfl
    · rw [H2.out.2.c, lst_none]; simp
  have HB3 : Hid (Below w.heap.size w w3) := by
    have h1 := H2.out.2.spc.ses.bel
    have h2 : Below w.heap.size w w2 := HWc.out.trans (h1.mono HWc.out.size)
    rw [← hw3]
    exact (h2.alloc h2.size _).alloc (Nat.le_trans h2.size (by simp)) _
  have HT0 : Hid (T.t = t0) := H2.out.1
  rw [hw3, hP]
  clear hw3 hP hwc H2 E2 HO HA
  obtain ⟨lo, hlo⟩ : ∃ lo, nD n = lo := ⟨_, rfl⟩
  have HLo : Hid (nD n = lo) := hlo
  have hgd : gD (n : Int) = (lo : Int) := by rw [gD_nat, hlo]
  rw [hlo] at hNm
  rw [hgd]
  clear hlo
  obtain ⟨DW, hDW⟩ : ∃ DW, n - lo = DW := ⟨_, rfl⟩
  have eDW : (n : Int) - (lo : Int) = (DW : Int) := by omega
  have HGe : Hid (∀ wx T F k, Lo1 wc wx D T n (P + 1) P k F → wx.cell? ⟨P, 0, none⟩ = some (.int .i64 (n : Int)) ∧ wx.cell? ⟨P, 1, none⟩ = some (.int .i64 98) ∧ wx.cell? ⟨P, 2, none⟩ = some (.int .i64 (gI n)) ∧ wx.cell? ⟨P, 3, none⟩ = some (.int .i64 (lo : Int)) ∧ wx.cell? ⟨P, 4, none⟩ = some (.int .i64 (gC n))) := fun wx T F k h => by
    have := h.ev.geo.cells
    rw [hgd] at this
    exact this
  have HGv : Hid (∀ wx v, Calls Try.prog 8 #[.pointer (some ⟨t0, 0, none⟩), geoV n, v] wx = Calls Try.prog 8 #[.pointer (some ⟨t0, 0, none⟩), .agg #[.int .i64 (n : Int), .int .i64 98, .int .i64 (gI n), .int .i64 (lo : Int), .int .i64 (gC n)], v] wx) := fun wx v => by rw [geoV, hgd]
  have HHg : Hid (gD (n : Int) = (lo : Int)) := hgd
  clear hgd hDW
  go_wp2
  go_loopw [9, 39] (fun s9 s39 wr => ∃ (k m : Nat) (F : Nat → Bool) (T : Tx), k ≤ L ∧ k ≤ 40 ∧ s39 = .int .i64 (k : Int) ∧ s9 = .int .i64 (m : Int) ∧ T.t = t0 ∧ Lo1 wc wr D T n (P + 1) P k F ∧ ct F n = m ∧ m ≤ k ∧ Below w.heap.size w wr) (fun _ s39 _ => L - (intOf s39).toNat)
  case atStart => exact ⟨0, 0, _, T, Nat.zero_le _, Nat.zero_le _, rfl, rfl, HT0.out, H3.out, ct_zero.2 (fun _ _ => rfl), Nat.le_refl _, HB3.out⟩
  case round =>
    clear H3 HB3 HT0
    obtain ⟨k, m, F, T, hk, hk4, rfl, rfl, hT, hL1, hct, hmk, hBw⟩ := hrel
    have HI : Hid (T.t = t0 ∧ Lo1 wc wr D T n (P + 1) P k F ∧ ct F n = m ∧ Below w.heap.size w wr) := ⟨hT, hL1, hct, hBw⟩
    obtain ⟨g0, g1, g2, g3, g4⟩ := HGe.out _ _ _ _ hL1
    clear hT hL1 hct hBw
    by_cases hlt : k < L ∧ k < 40
    · obtain ⟨hlt1, hlt2⟩ := hlt
      have hlt1' : (k : Int) < (L : Int) := by omega
      have hlt2' : ¬ (40 : Int) ≤ (k : Int) := by omega
      obtain ⟨b, off, rfl, hbl, hcb⟩ := HG.out.1.resolve_left (fun e => by have := HG.out.2; rw [e] at this; simp at this; omega)
      have hcv : wr.cell? ⟨b, off + k, none⟩ = some (.int .i64 (nth gl k)) := (HI.out.2.2.2.cell (p := ⟨b, off + k, none⟩) hbl).trans (hcb k (by rw [HG.out.2]; exact hlt1))
      obtain ⟨v, hv⟩ : ∃ v, nth gl k = v := ⟨_, rfl⟩
      rw [hv] at hcv
      obtain ⟨r, hr⟩ : ∃ r : Nat, v % ((DW : Nat) : Int) = (r : Int) := ⟨(v % ((DW : Nat) : Int)).toNat, by have := Int.emod_nonneg v (show ((DW : Nat) : Int) ≠ 0 by omega); omega⟩
      have hrD : r < DW := by have := Int.emod_lt_of_pos v (show (0 : Int) < ((DW : Nat) : Int) by omega); omega
      have HMv : Hid (∀ wx q, q = (DW : Int) → Calls Try.prog 6 #[.int .i64 v, .int .i64 q] wx fun e w' => e = .returned (.int .i64 (r : Int)) ∧ wx = w') := fun wx q hq => by
        have := mod_any wx v DW (by omega) (by omega)
        rw [hq]
        rw [hr] at this
        exact this
      obtain ⟨i, hi⟩ : ∃ i, lo + r = i := ⟨_, rfl⟩
      have ei : (lo : Int) + (r : Int) = (i : Int) := by omega
      have hin : i < n := by omega
      have hilo : lo ≤ i := by omega
      have hin' : (i : Int) < (n : Int) := by omega
      clear hbl hcb hv hr hi hrD
      have hwD : IntKind.i64.wrap (DW : Int) = (DW : Int) := by rw [IntKind.wrap_i64]; omega
      have hwi : IntKind.i64.wrap (i : Int) = (i : Int) := by rw [IntKind.wrap_i64]; omega
      have hL9 : Lo1 wc wr.drew D T n (P + 1) P k F := HI.out.2.1.on (by repeat (first | exact Below.refl _ _ | apply Below.drew))
      have hci : wr.drew.cell? ⟨P + 1, i, none⟩ = some (.bool (F i)) := hL9.ev.row.cell i hin
      have hcf : wr.drew.frozen? ⟨P + 1, i, none⟩ = false := hL9.ev.row.frz i
      have HGi : Hid (Calls Try.prog 8 #[.pointer (some ⟨t0, 0, none⟩), .agg #[.int .i64 (n : Int), .int .i64 98, .int .i64 (gI n), .int .i64 (lo : Int), .int .i64 (gC n)], .int .i64 (i : Int)] (wr.drew.setCell ⟨P + 1, i, none⟩ (.bool true)) fun e w' => e = .returned (.int .i64 (if F i then 91 else 0)) ∧ ∃ T', T'.t = T.t ∧ Lo1 wc w' D T' n (P + 1) P (k + 1) (fun j => if j = i then true else F j) ∧ Below w.heap.size w w') := by
        have h9 := hL9.give hlt2 i (by rw [HLo.out]; exact hilo) hin
        rw [HI.out.1, geoV, HHg.out] at h9
        refine h9.mono ?_
        rintro e w' ⟨rfl, T', h1, h2⟩
        rw [← HI.out.1] at h1
        exact ⟨rfl, T', h1, h2, HWc.out.trans (h2.ev.spc.ses.bel.mono HWc.out.size)⟩
      have HCT : Hid (F i = true → ct (fun j => if j = i then true else F j) n = m) := fun hF => by
        have h9 := ct_set (f := F) hin true
        rw [HI.out.2.2.1, hF] at h9
        simp only [if_true] at h9
        omega
      have HCF : Hid (F i = false → ct (fun j => if j = i then true else F j) n = m + 1) := fun hF => by
        have h9 := ct_set (f := F) hin true
        rw [HI.out.2.2.1, hF] at h9
        simp only [if_true, Bool.false_eq_true, if_false] at h9
        omega
      clear hL9
      go_upto_region 11 with (fail)
      go_region_with (go_at_call 6; refine (HMv.out _ _ rfl).mono ?_; rintro e w' ⟨rfl, rfl⟩)
      all_goals
        rename_i Q' K hK
        refine hK _ _ ?_
        clear hK HMv
        cases hF : F i with
        | true =>
          rw [hF] at hci HGi
          have HF : Hid (F i = _) := hF
          clear hF
          go_wp2_with (go_at_call 8; refine HGi.out.mono ?_; rintro e w5 ⟨rfl, T', h1, h2, h3⟩; have H5 : Hid (T'.t = T.t ∧ Lo1 wc w5 D T' n (P + 1) P (k + 1) (fun j => if j = i then true else F j) ∧ Below w.heap.size w w5) := ⟨h1, h2, h3⟩; clear h1 h2 h3 HGi)
          go_roundw
          case rel => exact ⟨k + 1, m, _, T', by omega, by omega, by go_num, rfl, H5.out.1.trans HI.out.1, H5.out.2.1, HCT.out HF.out, by omega, H5.out.2.2⟩
          case measure => simp [intOf]; omega
        | false =>
          rw [hF] at hci HGi
          have HF : Hid (F i = _) := hF
          clear hF
          go_wp2_with (go_at_call 8; refine HGi.out.mono ?_; rintro e w5 ⟨rfl, T', h1, h2, h3⟩; have H5 : Hid (T'.t = T.t ∧ Lo1 wc w5 D T' n (P + 1) P (k + 1) (fun j => if j = i then true else F j) ∧ Below w.heap.size w w5) := ⟨h1, h2, h3⟩; clear h1 h2 h3 HGi)
          go_roundw
          case rel => exact ⟨k + 1, m + 1, _, T', by omega, by omega, by go_num, by go_num, H5.out.1.trans HI.out.1, H5.out.2.1, HCF.out HF.out, by omega, H5.out.2.2⟩
          case measure => simp [intOf]; omega
    · have hL2 : Lo2 wc wr D T n (P + 1) P lo m F := by
        have := HI.out.2.1.two hk4 HI.out.2.2.1 (by omega)
        rw [HLo.out] at this
        exact this
      have HJ : Hid (T.t = t0 ∧ Lo2 wc wr D T n (P + 1) P lo m F ∧ Below w.heap.size w wr) := ⟨HI.out.1, hL2, HI.out.2.2.2⟩
      clear hL2 HI
      have hex : ¬ k < L ∨ (k < L ∧ ¬ k < 40) := by omega
      have HGe2 : Hid (∀ wx T i l, Lo2 wc wx D T n (P + 1) P i l F → wx.cell? ⟨P, 0, none⟩ = some (.int .i64 (n : Int)) ∧ wx.cell? ⟨P, 1, none⟩ = some (.int .i64 98) ∧ wx.cell? ⟨P, 2, none⟩ = some (.int .i64 (gI n)) ∧ wx.cell? ⟨P, 3, none⟩ = some (.int .i64 (lo : Int)) ∧ wx.cell? ⟨P, 4, none⟩ = some (.int .i64 (gC n))) := fun wx T i l h => by
        have := h.ev.geo.cells
        rw [HHg.out] at this
        exact this
      have HX : Hid (k < L → ∃ b off v, a = some ⟨b, off, none⟩ ∧ wr.cell? ⟨b, off + k, none⟩ = some (.int .i64 v)) := fun hk2 => by
        obtain ⟨b, off, e, hbl, hcb⟩ := HG.out.1.resolve_left (fun e => by have := HG.out.2; rw [e] at this; simp at this; omega)
        exact ⟨b, off, _, e, (HJ.out.2.2.cell (p := ⟨b, off + k, none⟩) hbl).trans (hcb k (by rw [HG.out.2]; exact hk2))⟩
      clear hlt HG HGe
      rcases hex with hx | ⟨hx, hx2⟩
      · have hx' : ¬ (k : Int) < (L : Int) := by omega
        clear HX hx
        go_wp2
        go_loopw [14, 15] (fun s14 s15 wr => ∃ (i l : Nat) (T : Tx), i ≤ n ∧ lo ≤ i ∧ s15 = .int .i64 (i : Int) ∧ s14 = .int .i64 (l : Int) ∧ T.t = t0 ∧ Lo2 wc wr D T n (P + 1) P i l F ∧ Below w.heap.size w wr) (fun _ s15 _ => n - (intOf s15).toNat)
        case atStart => exact ⟨lo, m, T, by omega, Nat.le_refl _, rfl, rfl, HJ.out⟩
        case round =>
          clear HJ g0 g1 g2 g3 g4
          obtain ⟨i, l, T, hin, hil, rfl, rfl, hT, hL2, hBw⟩ := hrel
          obtain ⟨g0, g1, g2, g3, g4⟩ := HGe2.out _ _ _ _ hL2
          have HI : Hid (T.t = t0 ∧ Lo2 wc wr D T n (P + 1) P i l F ∧ Below w.heap.size w wr) := ⟨hT, hL2, hBw⟩
          clear hT hL2 hBw
          by_cases hlt : i < n ∧ 0 < l
          · obtain ⟨h1, h2⟩ := hlt
            have h1' : (i : Int) < (n : Int) := by omega
            have h2' : (0 : Int) < (l : Int) := by omega
            have hci : wr.cell? ⟨P + 1, i, none⟩ = some (.bool (F i)) := HI.out.2.1.ev.row.cell i h1
            cases hF : F i with
            | false =>
              rw [hF] at hci
              have HF : Hid (F i = false) := hF
              clear hF
              go_wp2
              go_roundw
              case rel => exact ⟨i + 1, l, T, by omega, by omega, by go_num, rfl, HI.out.1, HI.out.2.1.skip HF.out, HI.out.2.2⟩
              case measure => simp [intOf]; omega
            | true =>
              rw [hF] at hci
              have HF : Hid (F i = true) := hF
              clear hF
              have hlb : l ≤ 80 := by have := HI.out.2.1.cnt; omega
              obtain ⟨l, rfl⟩ : ∃ l', l = l' + 1 := ⟨l - 1, by omega⟩
              have HR : Hid (Calls Try.prog 9 #[.pointer (some ⟨t0, 0, none⟩), .int .i64 (i : Int)] wr fun e w' => ∃ g cap, e = .returned (.tuple #[.slice (some ⟨g, 0, none⟩) 512 cap, .int .i64 0]) ∧ wr.heap.size ≤ g ∧ OwnB w' g cap (one 7) ∧ Below wr.heap.size wr w') := by
                have h9 := HI.out.2.1.ev.spc.read i h1
                rw [HI.out.1, HI.out.2.1.top i (Nat.le_refl _) h1] at h9
                exact h9
              have HTk : Hid (∀ w5 wx, Below wr.heap.size wr w5 → Below w5.heap.size w5 wx → Calls Try.prog 11 #[.pointer (some ⟨t0, 0, none⟩), .agg #[.int .i64 (n : Int), .int .i64 98, .int .i64 (gI n), .int .i64 (lo : Int), .int .i64 (gC n)]] wx fun e w' => e = .returned (.tuple #[.int .i64 (i : Int), .int .i64 0]) ∧ ∃ T', T'.t = T.t ∧ Lo2 wc w' D T' n (P + 1) P (i + 1) l F ∧ Below w.heap.size w w') := fun w5 wx hb5 hbx => by
                have h9 := (HI.out.2.1.on (hb5.trans (hbx.mono hb5.size))).take HF.out h1
                rw [HI.out.1, geoV, HHg.out] at h9
                refine h9.mono ?_
                rintro e w' ⟨rfl, T', h3, h4⟩
                rw [← HI.out.1] at h3
                exact ⟨rfl, T', h3, h4, HWc.out.trans (h4.ev.spc.ses.bel.mono HWc.out.size)⟩
              go_upto_region 26 with (go_at_call 9; refine HR.out.mono ?_; rintro e w5 ⟨g, cap, rfl, h3, h4, h5⟩; have H5 : Hid (OwnB w5 g cap (one 7) ∧ Below wr.heap.size wr w5) := ⟨h4, h5⟩; clear h3 h4 h5 HR)
              have HTk : Hid (∀ wx, Below w5.heap.size w5 wx → Calls Try.prog 11 #[.pointer (some ⟨t0, 0, none⟩), .agg #[.int .i64 (n : Int), .int .i64 98, .int .i64 (gI n), .int .i64 (lo : Int), .int .i64 (gC n)]] wx fun e w' => e = .returned (.tuple #[.int .i64 (i : Int), .int .i64 0]) ∧ ∃ T', T'.t = T.t ∧ Lo2 wc w' D T' n (P + 1) P (i + 1) l F ∧ Below w.heap.size w w') := fun wx hb => HTk.out w5 wx H5.out.2 hb
              have HCa : Hid (∀ wx, Below w5.heap.size w5 wx → (convert 24 9 (.slice (some ⟨g, 0, none⟩) 512 cap)).run Try.prog wx = .ok (.string (strOfNums (one 7))) wx) := fun wx hb => str_opt (H5.out.1.bytes.on hb) (one_length _)
              have HD : Hid (Below w5.heap.size w5 w5.drew) := (Below.refl _ w5).drew
              have e5 := HCa.out _ HD.out
              refine wp_region_any (by as_aux_lemma => kernel_rfl) ?_
              try (change wpAny _ _ _ _ _ _ _ (World.drew _))
              refine wpAny_take (i := 0) (v := ?_) rfl (by as_aux_lemma => kernel_rfl) (by as_aux_lemma => kernel_rfl) (by as_aux_lemma => kernel_rfl) (fun _ _ _ h => h) (Or.inl ⟨by as_aux_lemma => kernel_rfl, ?_⟩) ?_
              rotate_left
              focus (intro w; go_simp; (try (with_reducible rfl)); done)
              go_simp
              refine wpAny_take (i := 1) (v := ?_) rfl (by as_aux_lemma => kernel_rfl) (by as_aux_lemma => kernel_rfl) (by as_aux_lemma => kernel_rfl) (fun _ _ _ h => h) (Or.inl ⟨by as_aux_lemma => kernel_rfl, ?_⟩) ?_
              rotate_left
              focus (intro w; go_simp; (try (with_reducible rfl)); done)
              go_simp
              refine wpAny_take (i := 2) (v := ?_) rfl (by as_aux_lemma => kernel_rfl) (by as_aux_lemma => kernel_rfl) (by as_aux_lemma => kernel_rfl) (fun _ _ _ h => h) (Or.inl ⟨by as_aux_lemma => kernel_rfl, ?_⟩) ?_
              rotate_left
              focus (intro w; go_simp; (try (with_reducible rfl)); done)
              go_simp
              refine wpAny_take (i := 3) (v := ?_) rfl (by as_aux_lemma => kernel_rfl) (by as_aux_lemma => kernel_rfl) (by as_aux_lemma => kernel_rfl) (fun _ _ _ h => h) (Or.inl ⟨by as_aux_lemma => kernel_rfl, ?_⟩) ?_
              rotate_left
              focus (intro w; go_simp; (try (with_reducible rfl)); done)
              go_simp
              refine wpAny_ready (rs := [4, 5]) (by as_aux_lemma => kernel_rfl) (by simp) ?_
              refine AllReady.cons rfl (fun K hK => ?_) ?_
              · go_simp
                try go_simp
                first
                  | (refine hK _ _ ?_; clear hK K)
                  | skip
                refine wpAny_ready (rs := [5]) (by as_aux_lemma => kernel_rfl) (by simp) ?_
                refine AllReady.cons rfl (fun K hK => ?_) ?_
                · (go_simp; go_at_call 10; refine (lblock_any _ 7 (by omega)).mono ?_; rintro e w8 ⟨rfl, ho, hb⟩; have H8 : Hid (Below w5.heap.size w5 w8) := HD.out.trans (hb.mono HD.out.size); have e1 := HCa.out _ H8.out; have e2 : (convert 24 9 (.slice (some ⟨w5.heap.size, 0, none⟩) 512 512)).run Try.prog w8 = .ok (.string (strOfNums (one 7))) w8 := str_opt ho.bytes (one_length _); clear ho hb)
                  try go_simp
                  first
                    | (refine hK _ _ ?_; clear hK K)
                    | skip
                  refine wpAny_ready (rs := [6]) (by as_aux_lemma => kernel_rfl) (by simp) ?_
                  refine AllReady.cons rfl (fun K hK => ?_) ?_
                  · go_simp
                    try go_simp
                    first
                      | (refine hK _ _ ?_; clear hK K)
                      | skip
                    refine wpAny_take (i := 7) (v := ?_) rfl (by as_aux_lemma => kernel_rfl) (by as_aux_lemma => kernel_rfl) (by as_aux_lemma => kernel_rfl) (fun _ _ _ h => h) (Or.inl ⟨by as_aux_lemma => kernel_rfl, ?_⟩) ?_
                    rotate_left
                    focus (intro w; go_simp; (try (with_reducible rfl)); done)
                    go_simp
                    refine wpAny_take (i := 8) (v := ?_) rfl (by as_aux_lemma => kernel_rfl) (by as_aux_lemma => kernel_rfl) (by as_aux_lemma => kernel_rfl) (fun _ _ _ h => h) (Or.inl ⟨by as_aux_lemma => kernel_rfl, ?_⟩) ?_
                    rotate_left
                    focus (intro w; go_simp; (try (with_reducible rfl)); done)
                    go_simp
                    refine wpAny_done (by kernel_rfl) ?_ _
                    have HTk8 := HTk.out w8 H8.out
                    have hL8 := HI.out.2.1.on (H5.out.2.trans (H8.out.mono H5.out.2.size))
                    obtain ⟨y0, y1, y2, y3, y4⟩ := HGe2.out _ _ _ _ hL8
                    have HT8 : Hid (Calls Try.prog 11 #[.pointer (some ⟨t0, 0, none⟩), .agg #[.int .i64 (n : Int), .int .i64 98, .int .i64 (gI n), .int .i64 (lo : Int), .int .i64 (gC n)]] w8 fun e w' => e = .returned (.tuple #[.int .i64 (i : Int), .int .i64 0]) ∧ ∃ T', T'.t = T.t ∧ Lo2 wc w' D T' n (P + 1) P (i + 1) l F ∧ Below w.heap.size w w') := HTk8
                    clear hL8 HTk8
                    go_wp2_with (go_at_call 11; refine HT8.out.mono ?_; rintro e w9 ⟨rfl, T', h1, h2, h3⟩; have H9 : Hid (T'.t = T.t ∧ Lo2 wc w9 D T' n (P + 1) P (i + 1) l F ∧ Below w.heap.size w w9) := ⟨h1, h2, h3⟩; clear h1 h2 h3 HT8)
                    go_roundw
                    case rel => exact ⟨i + 1, l, T', by omega, by omega, by go_num, by go_num, H9.out.1.trans HI.out.1, H9.out.2.1, H9.out.2.2⟩
                    case measure => simp [intOf]; omega
                  exact AllReady.nil
                exact AllReady.nil
              refine AllReady.cons rfl (fun K hK => ?_) ?_
              · (go_simp; go_at_call 10; refine (lblock_any _ 7 (by omega)).mono ?_; rintro e w8 ⟨rfl, ho, hb⟩; have H8 : Hid (Below w5.heap.size w5 w8) := HD.out.trans (hb.mono HD.out.size); have e1 := HCa.out _ H8.out; have e2 : (convert 24 9 (.slice (some ⟨w5.heap.size, 0, none⟩) 512 512)).run Try.prog w8 = .ok (.string (strOfNums (one 7))) w8 := str_opt ho.bytes (one_length _); clear ho hb)
                try go_simp
                first
                  | (refine hK _ _ ?_; clear hK K)
                  | skip
                refine wpAny_ready (rs := [4, 6]) (by as_aux_lemma => kernel_rfl) (by simp) ?_
                refine AllReady.cons rfl (fun K hK => ?_) ?_
                · go_simp
                  try go_simp
                  first
                    | (refine hK _ _ ?_; clear hK K)
                    | skip
                  refine wpAny_ready (rs := [6]) (by as_aux_lemma => kernel_rfl) (by simp) ?_
                  refine AllReady.cons rfl (fun K hK => ?_) ?_
                  · go_simp
                    try go_simp
                    first
                      | (refine hK _ _ ?_; clear hK K)
                      | skip
                    refine wpAny_take (i := 7) (v := ?_) rfl (by as_aux_lemma => kernel_rfl) (by as_aux_lemma => kernel_rfl) (by as_aux_lemma => kernel_rfl) (fun _ _ _ h => h) (Or.inl ⟨by as_aux_lemma => kernel_rfl, ?_⟩) ?_
                    rotate_left
                    focus (intro w; go_simp; (try (with_reducible rfl)); done)
                    go_simp
                    refine wpAny_take (i := 8) (v := ?_) rfl (by as_aux_lemma => kernel_rfl) (by as_aux_lemma => kernel_rfl) (by as_aux_lemma => kernel_rfl) (fun _ _ _ h => h) (Or.inl ⟨by as_aux_lemma => kernel_rfl, ?_⟩) ?_
                    rotate_left
                    focus (intro w; go_simp; (try (with_reducible rfl)); done)
                    go_simp
                    refine wpAny_done (by kernel_rfl) ?_ _
                    have HTk8 := HTk.out w8 H8.out
                    have hL8 := HI.out.2.1.on (H5.out.2.trans (H8.out.mono H5.out.2.size))
                    obtain ⟨y0, y1, y2, y3, y4⟩ := HGe2.out _ _ _ _ hL8
                    have HT8 : Hid (Calls Try.prog 11 #[.pointer (some ⟨t0, 0, none⟩), .agg #[.int .i64 (n : Int), .int .i64 98, .int .i64 (gI n), .int .i64 (lo : Int), .int .i64 (gC n)]] w8 fun e w' => e = .returned (.tuple #[.int .i64 (i : Int), .int .i64 0]) ∧ ∃ T', T'.t = T.t ∧ Lo2 wc w' D T' n (P + 1) P (i + 1) l F ∧ Below w.heap.size w w') := HTk8
                    clear hL8 HTk8
                    go_wp2_with (go_at_call 11; refine HT8.out.mono ?_; rintro e w9 ⟨rfl, T', h1, h2, h3⟩; have H9 : Hid (T'.t = T.t ∧ Lo2 wc w9 D T' n (P + 1) P (i + 1) l F ∧ Below w.heap.size w w9) := ⟨h1, h2, h3⟩; clear h1 h2 h3 HT8)
                    go_roundw
                    case rel => exact ⟨i + 1, l, T', by omega, by omega, by go_num, by go_num, H9.out.1.trans HI.out.1, H9.out.2.1, H9.out.2.2⟩
                    case measure => simp [intOf]; omega
                  exact AllReady.nil
                refine AllReady.cons rfl (fun K hK => ?_) ?_
                · go_simp
                  try go_simp
                  first
                    | (refine hK _ _ ?_; clear hK K)
                    | skip
                  refine wpAny_ready (rs := [4]) (by as_aux_lemma => kernel_rfl) (by simp) ?_
                  refine AllReady.cons rfl (fun K hK => ?_) ?_
                  · go_simp
                    try go_simp
                    first
                      | (refine hK _ _ ?_; clear hK K)
                      | skip
                    refine wpAny_take (i := 7) (v := ?_) rfl (by as_aux_lemma => kernel_rfl) (by as_aux_lemma => kernel_rfl) (by as_aux_lemma => kernel_rfl) (fun _ _ _ h => h) (Or.inl ⟨by as_aux_lemma => kernel_rfl, ?_⟩) ?_
                    rotate_left
                    focus (intro w; go_simp; (try (with_reducible rfl)); done)
                    go_simp
                    refine wpAny_take (i := 8) (v := ?_) rfl (by as_aux_lemma => kernel_rfl) (by as_aux_lemma => kernel_rfl) (by as_aux_lemma => kernel_rfl) (fun _ _ _ h => h) (Or.inl ⟨by as_aux_lemma => kernel_rfl, ?_⟩) ?_
                    rotate_left
                    focus (intro w; go_simp; (try (with_reducible rfl)); done)
                    go_simp
                    refine wpAny_done (by kernel_rfl) ?_ _
                    have HTk8 := HTk.out w8 H8.out
                    have hL8 := HI.out.2.1.on (H5.out.2.trans (H8.out.mono H5.out.2.size))
                    obtain ⟨y0, y1, y2, y3, y4⟩ := HGe2.out _ _ _ _ hL8
                    have HT8 : Hid (Calls Try.prog 11 #[.pointer (some ⟨t0, 0, none⟩), .agg #[.int .i64 (n : Int), .int .i64 98, .int .i64 (gI n), .int .i64 (lo : Int), .int .i64 (gC n)]] w8 fun e w' => e = .returned (.tuple #[.int .i64 (i : Int), .int .i64 0]) ∧ ∃ T', T'.t = T.t ∧ Lo2 wc w' D T' n (P + 1) P (i + 1) l F ∧ Below w.heap.size w w') := HTk8
                    clear hL8 HTk8
                    go_wp2_with (go_at_call 11; refine HT8.out.mono ?_; rintro e w9 ⟨rfl, T', h1, h2, h3⟩; have H9 : Hid (T'.t = T.t ∧ Lo2 wc w9 D T' n (P + 1) P (i + 1) l F ∧ Below w.heap.size w w9) := ⟨h1, h2, h3⟩; clear h1 h2 h3 HT8)
                    go_roundw
                    case rel => exact ⟨i + 1, l, T', by omega, by omega, by go_num, by go_num, H9.out.1.trans HI.out.1, H9.out.2.1, H9.out.2.2⟩
                    case measure => simp [intOf]; omega
                  exact AllReady.nil
                exact AllReady.nil
              exact AllReady.nil
          · have HCt : Hid (ct (fd (nD n) n (bmp D T)) n = 0) := by
              have h9 := HI.out.2.1
              show _ = _
              rw [h9.fde]
              by_cases e : l = 0
              · rw [h9.left, e]
              · have ein : i = n := by omega
                exact ct_zero.2 (fun j hj => by rw [decide_eq_false (by omega), Bool.and_false])
            have HTk : Hid (Calls Try.prog 11 #[.pointer (some ⟨t0, 0, none⟩), .agg #[.int .i64 (n : Int), .int .i64 98, .int .i64 (gI n), .int .i64 (lo : Int), .int .i64 (gC n)]] wr fun e w' => e = .returned (.tuple #[.int .i64 0, .int .i64 90]) ∧ Below wr.heap.size wr w') := by
              have h9 := stake_no wc wr D T n HI.out.2.1.ev.spc HCt.out
              rw [HI.out.1, geoV, HHg.out] at h9
              exact h9
            have HFe : Hid (∀ wx, Below wr.heap.size wr wx → Calls Try.prog 12 #[.pointer (some ⟨t0, 0, none⟩), .agg #[.int .i64 (n : Int), .int .i64 98, .int .i64 (gI n), .int .i64 (lo : Int), .int .i64 (gC n)]] wx fun e w' => e = .returned (.tuple #[.int .i64 0, .int .i64 0]) ∧ Below wx.heap.size wx w') := fun wx hb => by
              have h9 := free_any wc wx D T n (HI.out.2.1.ev.spc.on hb)
              rw [HI.out.1, geoV, HHg.out, HCt.out] at h9
              exact h9
            have hcases : ¬ i < n ∨ (i < n ∧ l = 0) := by omega
            clear hlt HCt
            rcases hcases with hx | ⟨hx, rfl⟩
            · have hx' : ¬ (i : Int) < (n : Int) := by omega
              clear hx
              go_wp2_with (first
                | (go_at_call 11; refine HTk.out.mono ?_; rintro e w6 ⟨rfl, hb⟩; have H6 : Hid (Below wr.heap.size wr w6) := hb; obtain ⟨y0, y1, y2, y3, y4⟩ := HGe2.out _ _ _ _ (HI.out.2.1.on hb); clear hb HTk)
                | (go_at_call 12; refine (HFe.out _ H6.out).mono ?_; rintro e w7 ⟨rfl, hb⟩; have H7 : Hid (Below wr.heap.size wr w7) := H6.out.trans (hb.mono H6.out.size); clear hb HFe))
              go_ret
              exact ⟨rfl, HI.out.2.2.trans (H7.out.mono HI.out.2.2.size)⟩
            · have hx' : (i : Int) < (n : Int) := by omega
              clear hx
              go_wp2_with (first
                | (go_at_call 11; refine HTk.out.mono ?_; rintro e w6 ⟨rfl, hb⟩; have H6 : Hid (Below wr.heap.size wr w6) := hb; obtain ⟨y0, y1, y2, y3, y4⟩ := HGe2.out _ _ _ _ (HI.out.2.1.on hb); clear hb HTk)
                | (go_at_call 12; refine (HFe.out _ H6.out).mono ?_; rintro e w7 ⟨rfl, hb⟩; have H7 : Hid (Below wr.heap.size wr w7) := H6.out.trans (hb.mono H6.out.size); clear hb HFe))
              go_ret
              exact ⟨rfl, HI.out.2.2.trans (H7.out.mono HI.out.2.2.size)⟩

      · have hx' : (k : Int) < (L : Int) := by omega
        have hx2' : (40 : Int) ≤ (k : Int) := by omega
        obtain ⟨b, off, v, rfl, hcv⟩ := HX.out hx
        clear HX hx hx2
        go_wp2
        go_loopw [14, 15] (fun s14 s15 wr => ∃ (i l : Nat) (T : Tx), i ≤ n ∧ lo ≤ i ∧ s15 = .int .i64 (i : Int) ∧ s14 = .int .i64 (l : Int) ∧ T.t = t0 ∧ Lo2 wc wr D T n (P + 1) P i l F ∧ Below w.heap.size w wr) (fun _ s15 _ => n - (intOf s15).toNat)
        case atStart => exact ⟨lo, m, T, by omega, Nat.le_refl _, rfl, rfl, HJ.out⟩
        case round =>
          clear HJ g0 g1 g2 g3 g4
          obtain ⟨i, l, T, hin, hil, rfl, rfl, hT, hL2, hBw⟩ := hrel
          obtain ⟨g0, g1, g2, g3, g4⟩ := HGe2.out _ _ _ _ hL2
          have HI : Hid (T.t = t0 ∧ Lo2 wc wr D T n (P + 1) P i l F ∧ Below w.heap.size w wr) := ⟨hT, hL2, hBw⟩
          clear hT hL2 hBw
          by_cases hlt : i < n ∧ 0 < l
          · obtain ⟨h1, h2⟩ := hlt
            have h1' : (i : Int) < (n : Int) := by omega
            have h2' : (0 : Int) < (l : Int) := by omega
            have hci : wr.cell? ⟨P + 1, i, none⟩ = some (.bool (F i)) := HI.out.2.1.ev.row.cell i h1
            cases hF : F i with
            | false =>
              rw [hF] at hci
              have HF : Hid (F i = false) := hF
              clear hF
              go_wp2
              go_roundw
              case rel => exact ⟨i + 1, l, T, by omega, by omega, by go_num, rfl, HI.out.1, HI.out.2.1.skip HF.out, HI.out.2.2⟩
              case measure => simp [intOf]; omega
            | true =>
              rw [hF] at hci
              have HF : Hid (F i = true) := hF
              clear hF
              have hlb : l ≤ 80 := by have := HI.out.2.1.cnt; omega
              obtain ⟨l, rfl⟩ : ∃ l', l = l' + 1 := ⟨l - 1, by omega⟩
              have HR : Hid (Calls Try.prog 9 #[.pointer (some ⟨t0, 0, none⟩), .int .i64 (i : Int)] wr fun e w' => ∃ g cap, e = .returned (.tuple #[.slice (some ⟨g, 0, none⟩) 512 cap, .int .i64 0]) ∧ wr.heap.size ≤ g ∧ OwnB w' g cap (one 7) ∧ Below wr.heap.size wr w') := by
                have h9 := HI.out.2.1.ev.spc.read i h1
                rw [HI.out.1, HI.out.2.1.top i (Nat.le_refl _) h1] at h9
                exact h9
              have HTk : Hid (∀ w5 wx, Below wr.heap.size wr w5 → Below w5.heap.size w5 wx → Calls Try.prog 11 #[.pointer (some ⟨t0, 0, none⟩), .agg #[.int .i64 (n : Int), .int .i64 98, .int .i64 (gI n), .int .i64 (lo : Int), .int .i64 (gC n)]] wx fun e w' => e = .returned (.tuple #[.int .i64 (i : Int), .int .i64 0]) ∧ ∃ T', T'.t = T.t ∧ Lo2 wc w' D T' n (P + 1) P (i + 1) l F ∧ Below w.heap.size w w') := fun w5 wx hb5 hbx => by
                have h9 := (HI.out.2.1.on (hb5.trans (hbx.mono hb5.size))).take HF.out h1
                rw [HI.out.1, geoV, HHg.out] at h9
                refine h9.mono ?_
                rintro e w' ⟨rfl, T', h3, h4⟩
                rw [← HI.out.1] at h3
                exact ⟨rfl, T', h3, h4, HWc.out.trans (h4.ev.spc.ses.bel.mono HWc.out.size)⟩
              go_upto_region 26 with (go_at_call 9; refine HR.out.mono ?_; rintro e w5 ⟨g, cap, rfl, h3, h4, h5⟩; have H5 : Hid (OwnB w5 g cap (one 7) ∧ Below wr.heap.size wr w5) := ⟨h4, h5⟩; clear h3 h4 h5 HR)
              have HTk : Hid (∀ wx, Below w5.heap.size w5 wx → Calls Try.prog 11 #[.pointer (some ⟨t0, 0, none⟩), .agg #[.int .i64 (n : Int), .int .i64 98, .int .i64 (gI n), .int .i64 (lo : Int), .int .i64 (gC n)]] wx fun e w' => e = .returned (.tuple #[.int .i64 (i : Int), .int .i64 0]) ∧ ∃ T', T'.t = T.t ∧ Lo2 wc w' D T' n (P + 1) P (i + 1) l F ∧ Below w.heap.size w w') := fun wx hb => HTk.out w5 wx H5.out.2 hb
              have HCa : Hid (∀ wx, Below w5.heap.size w5 wx → (convert 24 9 (.slice (some ⟨g, 0, none⟩) 512 cap)).run Try.prog wx = .ok (.string (strOfNums (one 7))) wx) := fun wx hb => str_opt (H5.out.1.bytes.on hb) (one_length _)
              have HD : Hid (Below w5.heap.size w5 w5.drew) := (Below.refl _ w5).drew
              have e5 := HCa.out _ HD.out
              refine wp_region_any (by as_aux_lemma => kernel_rfl) ?_
              try (change wpAny _ _ _ _ _ _ _ (World.drew _))
              refine wpAny_take (i := 0) (v := ?_) rfl (by as_aux_lemma => kernel_rfl) (by as_aux_lemma => kernel_rfl) (by as_aux_lemma => kernel_rfl) (fun _ _ _ h => h) (Or.inl ⟨by as_aux_lemma => kernel_rfl, ?_⟩) ?_
              rotate_left
              focus (intro w; go_simp; (try (with_reducible rfl)); done)
              go_simp
              refine wpAny_take (i := 1) (v := ?_) rfl (by as_aux_lemma => kernel_rfl) (by as_aux_lemma => kernel_rfl) (by as_aux_lemma => kernel_rfl) (fun _ _ _ h => h) (Or.inl ⟨by as_aux_lemma => kernel_rfl, ?_⟩) ?_
              rotate_left
              focus (intro w; go_simp; (try (with_reducible rfl)); done)
              go_simp
              refine wpAny_take (i := 2) (v := ?_) rfl (by as_aux_lemma => kernel_rfl) (by as_aux_lemma => kernel_rfl) (by as_aux_lemma => kernel_rfl) (fun _ _ _ h => h) (Or.inl ⟨by as_aux_lemma => kernel_rfl, ?_⟩) ?_
              rotate_left
              focus (intro w; go_simp; (try (with_reducible rfl)); done)
              go_simp
              refine wpAny_take (i := 3) (v := ?_) rfl (by as_aux_lemma => kernel_rfl) (by as_aux_lemma => kernel_rfl) (by as_aux_lemma => kernel_rfl) (fun _ _ _ h => h) (Or.inl ⟨by as_aux_lemma => kernel_rfl, ?_⟩) ?_
              rotate_left
              focus (intro w; go_simp; (try (with_reducible rfl)); done)
              go_simp
              refine wpAny_ready (rs := [4, 5]) (by as_aux_lemma => kernel_rfl) (by simp) ?_
              refine AllReady.cons rfl (fun K hK => ?_) ?_
              · go_simp
                try go_simp
                first
                  | (refine hK _ _ ?_; clear hK K)
                  | skip
                refine wpAny_ready (rs := [5]) (by as_aux_lemma => kernel_rfl) (by simp) ?_
                refine AllReady.cons rfl (fun K hK => ?_) ?_
                · (go_simp; go_at_call 10; refine (lblock_any _ 7 (by omega)).mono ?_; rintro e w8 ⟨rfl, ho, hb⟩; have H8 : Hid (Below w5.heap.size w5 w8) := HD.out.trans (hb.mono HD.out.size); have e1 := HCa.out _ H8.out; have e2 : (convert 24 9 (.slice (some ⟨w5.heap.size, 0, none⟩) 512 512)).run Try.prog w8 = .ok (.string (strOfNums (one 7))) w8 := str_opt ho.bytes (one_length _); clear ho hb)
                  try go_simp
                  first
                    | (refine hK _ _ ?_; clear hK K)
                    | skip
                  refine wpAny_ready (rs := [6]) (by as_aux_lemma => kernel_rfl) (by simp) ?_
                  refine AllReady.cons rfl (fun K hK => ?_) ?_
                  · go_simp
                    try go_simp
                    first
                      | (refine hK _ _ ?_; clear hK K)
                      | skip
                    refine wpAny_take (i := 7) (v := ?_) rfl (by as_aux_lemma => kernel_rfl) (by as_aux_lemma => kernel_rfl) (by as_aux_lemma => kernel_rfl) (fun _ _ _ h => h) (Or.inl ⟨by as_aux_lemma => kernel_rfl, ?_⟩) ?_
                    rotate_left
                    focus (intro w; go_simp; (try (with_reducible rfl)); done)
                    go_simp
                    refine wpAny_take (i := 8) (v := ?_) rfl (by as_aux_lemma => kernel_rfl) (by as_aux_lemma => kernel_rfl) (by as_aux_lemma => kernel_rfl) (fun _ _ _ h => h) (Or.inl ⟨by as_aux_lemma => kernel_rfl, ?_⟩) ?_
                    rotate_left
                    focus (intro w; go_simp; (try (with_reducible rfl)); done)
                    go_simp
                    refine wpAny_done (by kernel_rfl) ?_ _
                    have HTk8 := HTk.out w8 H8.out
                    have hL8 := HI.out.2.1.on (H5.out.2.trans (H8.out.mono H5.out.2.size))
                    obtain ⟨y0, y1, y2, y3, y4⟩ := HGe2.out _ _ _ _ hL8
                    have HT8 : Hid (Calls Try.prog 11 #[.pointer (some ⟨t0, 0, none⟩), .agg #[.int .i64 (n : Int), .int .i64 98, .int .i64 (gI n), .int .i64 (lo : Int), .int .i64 (gC n)]] w8 fun e w' => e = .returned (.tuple #[.int .i64 (i : Int), .int .i64 0]) ∧ ∃ T', T'.t = T.t ∧ Lo2 wc w' D T' n (P + 1) P (i + 1) l F ∧ Below w.heap.size w w') := HTk8
                    clear hL8 HTk8
                    go_wp2_with (go_at_call 11; refine HT8.out.mono ?_; rintro e w9 ⟨rfl, T', h1, h2, h3⟩; have H9 : Hid (T'.t = T.t ∧ Lo2 wc w9 D T' n (P + 1) P (i + 1) l F ∧ Below w.heap.size w w9) := ⟨h1, h2, h3⟩; clear h1 h2 h3 HT8)
                    go_roundw
                    case rel => exact ⟨i + 1, l, T', by omega, by omega, by go_num, by go_num, H9.out.1.trans HI.out.1, H9.out.2.1, H9.out.2.2⟩
                    case measure => simp [intOf]; omega
                  exact AllReady.nil
                exact AllReady.nil
              refine AllReady.cons rfl (fun K hK => ?_) ?_
              · (go_simp; go_at_call 10; refine (lblock_any _ 7 (by omega)).mono ?_; rintro e w8 ⟨rfl, ho, hb⟩; have H8 : Hid (Below w5.heap.size w5 w8) := HD.out.trans (hb.mono HD.out.size); have e1 := HCa.out _ H8.out; have e2 : (convert 24 9 (.slice (some ⟨w5.heap.size, 0, none⟩) 512 512)).run Try.prog w8 = .ok (.string (strOfNums (one 7))) w8 := str_opt ho.bytes (one_length _); clear ho hb)
                try go_simp
                first
                  | (refine hK _ _ ?_; clear hK K)
                  | skip
                refine wpAny_ready (rs := [4, 6]) (by as_aux_lemma => kernel_rfl) (by simp) ?_
                refine AllReady.cons rfl (fun K hK => ?_) ?_
                · go_simp
                  try go_simp
                  first
                    | (refine hK _ _ ?_; clear hK K)
                    | skip
                  refine wpAny_ready (rs := [6]) (by as_aux_lemma => kernel_rfl) (by simp) ?_
                  refine AllReady.cons rfl (fun K hK => ?_) ?_
                  · go_simp
                    try go_simp
                    first
                      | (refine hK _ _ ?_; clear hK K)
                      | skip
                    refine wpAny_take (i := 7) (v := ?_) rfl (by as_aux_lemma => kernel_rfl) (by as_aux_lemma => kernel_rfl) (by as_aux_lemma => kernel_rfl) (fun _ _ _ h => h) (Or.inl ⟨by as_aux_lemma => kernel_rfl, ?_⟩) ?_
                    rotate_left
                    focus (intro w; go_simp; (try (with_reducible rfl)); done)
                    go_simp
                    refine wpAny_take (i := 8) (v := ?_) rfl (by as_aux_lemma => kernel_rfl) (by as_aux_lemma => kernel_rfl) (by as_aux_lemma => kernel_rfl) (fun _ _ _ h => h) (Or.inl ⟨by as_aux_lemma => kernel_rfl, ?_⟩) ?_
                    rotate_left
                    focus (intro w; go_simp; (try (with_reducible rfl)); done)
                    go_simp
                    refine wpAny_done (by kernel_rfl) ?_ _
                    have HTk8 := HTk.out w8 H8.out
                    have hL8 := HI.out.2.1.on (H5.out.2.trans (H8.out.mono H5.out.2.size))
                    obtain ⟨y0, y1, y2, y3, y4⟩ := HGe2.out _ _ _ _ hL8
                    have HT8 : Hid (Calls Try.prog 11 #[.pointer (some ⟨t0, 0, none⟩), .agg #[.int .i64 (n : Int), .int .i64 98, .int .i64 (gI n), .int .i64 (lo : Int), .int .i64 (gC n)]] w8 fun e w' => e = .returned (.tuple #[.int .i64 (i : Int), .int .i64 0]) ∧ ∃ T', T'.t = T.t ∧ Lo2 wc w' D T' n (P + 1) P (i + 1) l F ∧ Below w.heap.size w w') := HTk8
                    clear hL8 HTk8
                    go_wp2_with (go_at_call 11; refine HT8.out.mono ?_; rintro e w9 ⟨rfl, T', h1, h2, h3⟩; have H9 : Hid (T'.t = T.t ∧ Lo2 wc w9 D T' n (P + 1) P (i + 1) l F ∧ Below w.heap.size w w9) := ⟨h1, h2, h3⟩; clear h1 h2 h3 HT8)
                    go_roundw
                    case rel => exact ⟨i + 1, l, T', by omega, by omega, by go_num, by go_num, H9.out.1.trans HI.out.1, H9.out.2.1, H9.out.2.2⟩
                    case measure => simp [intOf]; omega
                  exact AllReady.nil
                refine AllReady.cons rfl (fun K hK => ?_) ?_
                · go_simp
                  try go_simp
                  first
                    | (refine hK _ _ ?_; clear hK K)
                    | skip
                  refine wpAny_ready (rs := [4]) (by as_aux_lemma => kernel_rfl) (by simp) ?_
                  refine AllReady.cons rfl (fun K hK => ?_) ?_
                  · go_simp
                    try go_simp
                    first
                      | (refine hK _ _ ?_; clear hK K)
                      | skip
                    refine wpAny_take (i := 7) (v := ?_) rfl (by as_aux_lemma => kernel_rfl) (by as_aux_lemma => kernel_rfl) (by as_aux_lemma => kernel_rfl) (fun _ _ _ h => h) (Or.inl ⟨by as_aux_lemma => kernel_rfl, ?_⟩) ?_
                    rotate_left
                    focus (intro w; go_simp; (try (with_reducible rfl)); done)
                    go_simp
                    refine wpAny_take (i := 8) (v := ?_) rfl (by as_aux_lemma => kernel_rfl) (by as_aux_lemma => kernel_rfl) (by as_aux_lemma => kernel_rfl) (fun _ _ _ h => h) (Or.inl ⟨by as_aux_lemma => kernel_rfl, ?_⟩) ?_
                    rotate_left
                    focus (intro w; go_simp; (try (with_reducible rfl)); done)
                    go_simp
                    refine wpAny_done (by kernel_rfl) ?_ _
                    have HTk8 := HTk.out w8 H8.out
                    have hL8 := HI.out.2.1.on (H5.out.2.trans (H8.out.mono H5.out.2.size))
                    obtain ⟨y0, y1, y2, y3, y4⟩ := HGe2.out _ _ _ _ hL8
                    have HT8 : Hid (Calls Try.prog 11 #[.pointer (some ⟨t0, 0, none⟩), .agg #[.int .i64 (n : Int), .int .i64 98, .int .i64 (gI n), .int .i64 (lo : Int), .int .i64 (gC n)]] w8 fun e w' => e = .returned (.tuple #[.int .i64 (i : Int), .int .i64 0]) ∧ ∃ T', T'.t = T.t ∧ Lo2 wc w' D T' n (P + 1) P (i + 1) l F ∧ Below w.heap.size w w') := HTk8
                    clear hL8 HTk8
                    go_wp2_with (go_at_call 11; refine HT8.out.mono ?_; rintro e w9 ⟨rfl, T', h1, h2, h3⟩; have H9 : Hid (T'.t = T.t ∧ Lo2 wc w9 D T' n (P + 1) P (i + 1) l F ∧ Below w.heap.size w w9) := ⟨h1, h2, h3⟩; clear h1 h2 h3 HT8)
                    go_roundw
                    case rel => exact ⟨i + 1, l, T', by omega, by omega, by go_num, by go_num, H9.out.1.trans HI.out.1, H9.out.2.1, H9.out.2.2⟩
                    case measure => simp [intOf]; omega
                  exact AllReady.nil
                exact AllReady.nil
              exact AllReady.nil
          · have HCt : Hid (ct (fd (nD n) n (bmp D T)) n = 0) := by
              have h9 := HI.out.2.1
              show _ = _
              rw [h9.fde]
              by_cases e : l = 0
              · rw [h9.left, e]
              · have ein : i = n := by omega
                exact ct_zero.2 (fun j hj => by rw [decide_eq_false (by omega), Bool.and_false])
            have HTk : Hid (Calls Try.prog 11 #[.pointer (some ⟨t0, 0, none⟩), .agg #[.int .i64 (n : Int), .int .i64 98, .int .i64 (gI n), .int .i64 (lo : Int), .int .i64 (gC n)]] wr fun e w' => e = .returned (.tuple #[.int .i64 0, .int .i64 90]) ∧ Below wr.heap.size wr w') := by
              have h9 := stake_no wc wr D T n HI.out.2.1.ev.spc HCt.out
              rw [HI.out.1, geoV, HHg.out] at h9
              exact h9
            have HFe : Hid (∀ wx, Below wr.heap.size wr wx → Calls Try.prog 12 #[.pointer (some ⟨t0, 0, none⟩), .agg #[.int .i64 (n : Int), .int .i64 98, .int .i64 (gI n), .int .i64 (lo : Int), .int .i64 (gC n)]] wx fun e w' => e = .returned (.tuple #[.int .i64 0, .int .i64 0]) ∧ Below wx.heap.size wx w') := fun wx hb => by
              have h9 := free_any wc wx D T n (HI.out.2.1.ev.spc.on hb)
              rw [HI.out.1, geoV, HHg.out, HCt.out] at h9
              exact h9
            have hcases : ¬ i < n ∨ (i < n ∧ l = 0) := by omega
            clear hlt HCt
            rcases hcases with hx | ⟨hx, rfl⟩
            · have hx' : ¬ (i : Int) < (n : Int) := by omega
              clear hx
              go_wp2_with (first
                | (go_at_call 11; refine HTk.out.mono ?_; rintro e w6 ⟨rfl, hb⟩; have H6 : Hid (Below wr.heap.size wr w6) := hb; obtain ⟨y0, y1, y2, y3, y4⟩ := HGe2.out _ _ _ _ (HI.out.2.1.on hb); clear hb HTk)
                | (go_at_call 12; refine (HFe.out _ H6.out).mono ?_; rintro e w7 ⟨rfl, hb⟩; have H7 : Hid (Below wr.heap.size wr w7) := H6.out.trans (hb.mono H6.out.size); clear hb HFe))
              go_ret
              exact ⟨rfl, HI.out.2.2.trans (H7.out.mono HI.out.2.2.size)⟩
            · have hx' : (i : Int) < (n : Int) := by omega
              clear hx
              go_wp2_with (first
                | (go_at_call 11; refine HTk.out.mono ?_; rintro e w6 ⟨rfl, hb⟩; have H6 : Hid (Below wr.heap.size wr w6) := hb; obtain ⟨y0, y1, y2, y3, y4⟩ := HGe2.out _ _ _ _ (HI.out.2.1.on hb); clear hb HTk)
                | (go_at_call 12; refine (HFe.out _ H6.out).mono ?_; rintro e w7 ⟨rfl, hb⟩; have H7 : Hid (Below wr.heap.size wr w7) := H6.out.trans (hb.mono H6.out.size); clear hb HFe))
              go_ret
              exact ⟨rfl, HI.out.2.2.trans (H7.out.mono HI.out.2.2.size)⟩

end Go.Proofs.Ytocacbkhjdoohaa
