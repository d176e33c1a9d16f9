import Derived.Test.YtccocjipgbeaeaaDoorBurstG
import Derived.Deep.DeepCutAuto
namespace Go.Proofs.YtccocjipgbeaeaaDoor
open Go.RowKit Rec
open Crc (W)

set_option maxRecDepth 100000 in
set_option maxHeartbeats 8000000 in
theorem bursts_core (w : World) (sa : Option Addr) (sn sc : Nat) (ba : Option Addr) (bn bc : Nat) (ns : List Int) (ds : List (List Int)) (K : Nat) (which at_ : Int) (M : W) (hF : Fit ns ds K) (hT : TabAt w)
    (hM : ∀ wx, Below w.heap.size w wx → Calls Tryd.prog 13 #[.agg #[.slice sa sn sc, .slice ba bn bc]] wx fun e w' => ∃ g cap dg dcap, e = .returned (.tuple #[.slice (some ⟨g, 0, none⟩) K cap, .slice (some ⟨dg, 0, none⟩) K dcap]) ∧ OwnI w' g cap ns ∧ Data w' (some ⟨dg, 0, none⟩) ds ∧ K ≤ dcap ∧ Below wx.heap.size wx w') :
    Calls Tryd.prog 5 #[.agg #[.slice sa sn sc, .slice ba bn bc], .int .i64 which, .int .i64 at_, .int .u32 (U M)] w fun e w' => e = .returned (.bool true) ∧ Below w.heap.size w w' := by
  obtain ⟨w0, hw0⟩ : ∃ w0, w0 = w.alloc (.cells #[.slice sa sn sc, .slice ba bn bc] 34) := ⟨_, rfl⟩
  have hA : Below w.heap.size w w0 := by rw [hw0]; exact (Below.refl _ _).alloc (Nat.le_refl _) _
  have hrow : w0.heap[w.heap.size]? = some (.cells #[.slice sa sn sc, .slice ba bn bc] 34 (0, 0)) := by rw [hw0]; exact heap_alloc_new _ _
  have HC : Hid (∀ wr, Below w0.heap.size w0 wr → wr.cell? ⟨w.heap.size, 0, none⟩ = some (.slice sa sn sc) ∧ wr.cell? ⟨w.heap.size, 1, none⟩ = some (.slice ba bn bc)) := fun wr hb => by
    have hr : wr.heap[w.heap.size]? = _ := (hb.block _ (heap_lt hrow)).trans hrow
    exact ⟨by rw [cell_of_row _ _ _ _ _ _ hr]; rfl, by rw [cell_of_row _ _ _ _ _ _ hr]; rfl⟩
  have HA : Hid (Below w.heap.size w w0) := hA
  have HT : Hid (∀ wx, Below w.heap.size w wx → TabAt wx) := fun wx hx => hT.on hx
  have HK : Hid (Calls Tryd.prog 8 #[] w0 fun e w' => e = .returned (.bool true) ∧ Below w0.heap.size w0 w') := known_any w0 (hT.on hA)
  have HM : Hid (∀ wx, Below w.heap.size w wx → Calls Tryd.prog 13 #[.agg #[.slice sa sn sc, .slice ba bn bc]] wx fun e w' => ∃ g cap dg dcap, e = .returned (.tuple #[.slice (some ⟨g, 0, none⟩) K cap, .slice (some ⟨dg, 0, none⟩) K dcap]) ∧ OwnI w' g cap ns ∧ Data w' (some ⟨dg, 0, none⟩) ds ∧ K ≤ dcap ∧ Below wx.heap.size wx w') := hM
  have HF : Hid (Fit ns ds K) := hF
  have hk1 := hF.k1
  have hk96 := hF.k96
  clear hA hrow hT hM hF
  go_enter Tryd.func5, Tryd.ntmps5
  go_wp2_with fail
  rw [← hw0]
  clear hw0
  refine HK.out.mono ?_
  rintro e w1 ⟨rfl, hb⟩
  obtain ⟨c1, c2⟩ := HC.out _ hb
  have B1 : Hid (Below w.heap.size w w1) := HA.out.trans (hb.mono HA.out.size)
  clear hb
  go_upto_region 7 with (first
    | (go_at_call 13; refine (HM.out _ B1.out).mono ?_; rintro e w2 ⟨g, cap, dg, dcap, rfl, hI, hD, hdc, hb⟩; have H2 : Hid (OwnI w2 g cap ns ∧ Data w2 (some ⟨dg, 0, none⟩) ds ∧ Below w.heap.size w w2) := ⟨hI, hD, B1.out.trans (hb.mono B1.out.size)⟩; clear hI hD hb)
    | (go_at_call 12; refine (HF.out.make _ g cap dg 0 dcap H2.out.1 H2.out.2.1 (HT.out _ H2.out.2.2)).mono ?_; rintro e w3 ⟨h, rfl, ho, hg, hb⟩; have H3 : Hid (OwnB w3 h 512 (made ns ds) ∧ Data w3 (some ⟨dg, 0, none⟩) ds ∧ Below w.heap.size w w3) := ⟨ho, H2.out.2.1.on hb, H2.out.2.2.trans (hb.mono H2.out.2.2.size)⟩; clear ho hg hb)
    | (go_at_call 10; refine (num_any _ _).mono ?_; rintro e w' ⟨rfl, rfl⟩))
  clear c1 c2 HM HK HC B1 H2
  obtain ⟨r, hr⟩ : ∃ r, which.tmod ((K : Int) + 1) = r := ⟨_, rfl⟩
  have hrb := tmod_bd which K
  rw [hr] at hrb
  obtain ⟨hr1, hr2⟩ := hrb
  go_upto_if 45 with fail
  go_cut [13] (fun s13 wx => w3 = wx ∧ ∃ I : Nat, I ≤ K ∧ s13 = .int .i64 I)
  case first =>
    by_cases hneg : r < 0
    · go_wp2
      go_meet
      case rel => exact ⟨rfl, (-r).toNat, by omega, by congr 1; omega⟩
    · go_wp2
      go_meet
      case rel => exact ⟨rfl, r.toNat, by omega, by congr 1; omega⟩
  case rest =>
  obtain ⟨rfl, I, hI, rfl⟩ := hcut
  clear hr hr1 hr2
  obtain ⟨vs, hv1, hv2⟩ := vals_of H3.out.2.1 HF.out.dl (fun i hi => by rw [HF.out.rows i hi]; decide)
  have HV : Hid (SlAt w3 vs ds ∧ (∀ j u, vs[j]? = some u → w3.cell? ((⟨dg, 0, none⟩ : Addr).add j) = some u) ∧ vs.length = K) := ⟨hv1, hv2, hv1.len.trans HF.out.dl⟩
  clear hv1 hv2
  have HVc : Hid (∀ wx, Below w3.heap.size w3 wx → ∀ j u, vs[j]? = some u → wx.cell? ((⟨dg, 0, none⟩ : Addr).add j) = some u) := fun wx hx j u hj => (hx.cell (block_lt_of_cell (HV.out.2.1 j u hj))).trans (HV.out.2.1 j u hj)
  go_upto_region 11 with (first
    | (at_builtin; have hh := H4.out.1; clear hh; refine wp_rows (w9 := w4) rfl (.tmp 51) (.tmp 52) rfl K gh ch dg dcap vs ds (made ns ds) rfl rfl H4.out.1 (made_length _ _) (HV.out.1.on H4.out.2) HV.out.2.2 (HVc.out _ H4.out.2) (by omega) (by omega) ?_; intro gR cR w5 ho hs hb hg hcR; have H5 : Hid (w5.ownsRow 0 22 1 (.slice (some ⟨gR, 0, none⟩) (1 + K) cR) (1 + K) (.slice (some ⟨gh, 0, none⟩) 512 ch :: vs) ∧ SlAt w5 (.slice (some ⟨gh, 0, none⟩) 512 ch :: vs) (made ns ds :: ds) ∧ Below w3.heap.size w3 w5 ∧ SlAt w4 (.slice (some ⟨gh, 0, none⟩) 512 ch :: vs) (made ns ds :: ds) ∧ Below w4.heap.size w4 w5 ∧ w4.heap.size ≤ gR) := ⟨ho, hs, H4.out.2.trans (hb.mono H4.out.2.size), (SlAt.single H4.out.1.bytes (made_length _ _)).append (HV.out.1.on H4.out.2), hb, hg⟩; clear ho hs hb hg)
    | (at_builtin; refine wp_bcopy (w7 := w3) rfl (.tmp 48) (.tmp 49) rfl rfl ⟨h, 0, none⟩ 512 512 (made ns ds) rfl (made_length _ _) H3.out.1.bytes (by omega) ?_; intro gh ch w4 ho hb hg hch; have H4 : Hid (OwnB w4 gh ch (made ns ds) ∧ Below w3.heap.size w3 w4) := ⟨ho, hb⟩; clear ho hb hg))
  have HS34 : Hid (w3.heap.size ≤ w4.heap.size) := H4.out.2.size
  clear HVc H4
  obtain ⟨rs, hrs⟩ : ∃ rs, rs = Value.slice (some ⟨gh, 0, none⟩) 512 ch :: vs := ⟨_, rfl⟩
  obtain ⟨es, hes⟩ : ∃ es, es = made ns ds :: ds := ⟨_, rfl⟩
  rw [← hrs, ← hes] at H5
  have HEl : Hid (es.length = 1 + K) := by show _ = _; rw [hes, List.length_cons, HF.out.dl]; omega
  have HEr : Hid (∀ i, i < 1 + K → (row es i).length = 512) := fun i hi => by
    rw [hes]
    cases i with
    | zero => exact made_length ns ds
    | succ i => exact HF.out.rows i (by omega)
  have HEg : Hid (∀ own, Fl (Tf at_ M I) at_.toNat 32 (row es I) own → good (row (es.set I own) 0) 16384 ((es.set I own).drop 1) = quiet (Tf at_ M I) 32) := fun own hfl => by
    rw [hes] at hfl ⊢
    exact good_rows HF.out at_ M I hI own hfl
  have HR0 : Hid (rs[0]? = some (.slice (some ⟨gh, 0, none⟩) 512 ch)) := by rw [hrs]; exact rfl
  clear hrs hes HV
  obtain ⟨bI, oI, eI, hvI, hyI⟩ := H5.out.2.1.at_ I (by rw [HEl.out]; omega)
  rw [HEr.out I (by omega)] at hvI
  have HyI : Hid (Bytes w5 (some ⟨bI, oI, none⟩) (row es I) ∧ (row es I).length = 512) := ⟨hyI, HEr.out I (by omega)⟩
  have HvI : Hid (rs[I]? = some (.slice (some ⟨bI, oI, none⟩) 512 eI)) := hvI
  clear hvI hyI
  have cI : (w5.alloc (.cells #[] 5)).cell? ⟨gR, I, none⟩ = some (.slice (some ⟨bI, oI, none⟩) 512 eI) := by
    have := (owns_on H5.out.1 ((Below.refl _ w5).alloc (Nat.le_refl _) (.cells #[] 5))).cells (g := gR) rfl I _ HvI.out
    rw [Addr.add_lit, Nat.zero_add] at this
    exact this
  go_wp2_with (at_builtin; refine wp_bcopy (w7 := w5) rfl (.tmp 54) (.tmp 58) rfl rfl ⟨bI, oI, none⟩ 512 eI (row es I) rfl HyI.out.2 HyI.out.1 (by omega) ?_; intro gb cb w6 ho hb hg hcb; have H6 : Hid (OwnB w6 gb cb (row es I) ∧ Below w5.heap.size w5 w6 ∧ w5.heap.size ≤ gb) := ⟨ho, hb, hg⟩; clear ho hb hg)
  clear cI
  go_loopw [16, 17] (fun s16 s17 wr => ∃ (k : Nat) (own : List Int), k ≤ 32 ∧ s17 = .int .i64 k ∧ s16 = .bool (!(quiet (Tf at_ M I) k)) ∧ OwnB wr gb cb own ∧ Fl (Tf at_ M I) at_.toNat k (row es I) own ∧ Below w5.heap.size w5 wr) (fun _ s17 _ => 32 - (intOf s17).toNat)
  case atStart => exact ⟨0, row es I, Nat.zero_le _, rfl, by rw [quiet_none]; rfl, H6.out.1, Fl.start _ _ _ HyI.out.1.wf, H6.out.2.1⟩
  case round =>
    obtain ⟨k, own, hk, rfl, rfl, ho, hfl0, hb⟩ := hrel
    have HR : Hid (OwnB wr gb cb own ∧ Fl (Tf at_ M I) at_.toNat k (row es I) own ∧ Below w5.heap.size w5 wr) := ⟨ho, hfl0, hb⟩
    clear ho hfl0 hb
    by_cases hlt : k < 32
    · by_cases ha1 : at_ < 0
      · have hTk : Tf at_ M I k = false := by
          unfold Tf; rw [decide_eq_false (by omega), Bool.false_and, Bool.false_and]
        have HR2 : Hid (Fl (Tf at_ M I) (at_).toNat (k + 1) (row es I) own) := HR.out.2.1.skip hTk
        have HT1 : Hid (quiet (Tf at_ M I) (k + 1) = quiet (Tf at_ M I) k) := quiet_skip _ _ hTk
        generalize quiet (Tf at_ M I) k = t at HT1 ⊢
        clear hTk
        go_wp2
        go_round
        case rel => exact ⟨k + 1, own, by omega, by go_num, by rw [HT1.out], HR.out.1, HR2.out, HR.out.2.2⟩
        case measure => simp [intOf]; omega
      · obtain ⟨A, rfl⟩ := Int.eq_ofNat_of_zero_le (show 0 ≤ at_ by omega)
        by_cases ha2 : 4096 ≤ A
        · have ha3 : 4096 ≤ (A : Int) := by omega
          have hTk : Tf (A : Int) M I k = false := by
            unfold Tf; rw [decide_eq_false (by omega), Bool.false_and, Bool.false_and]
          have HR2 : Hid (Fl (Tf (A : Int) M I) ((A : Int)).toNat (k + 1) (row es I) own) := HR.out.2.1.skip hTk
          have HT1 : Hid (quiet (Tf (A : Int) M I) (k + 1) = quiet (Tf (A : Int) M I) k) := quiet_skip _ _ hTk
          generalize quiet (Tf (A : Int) M I) k = t at HT1 ⊢
          clear hTk
          go_wp2
          go_round
          case rel => exact ⟨k + 1, own, by omega, by go_num, by rw [HT1.out], HR.out.1, HR2.out, HR.out.2.2⟩
          case measure => simp [intOf]; omega
        · obtain ⟨q, hq⟩ : ∃ q : Nat, (A : Int) + (k : Int) = (q : Int) := ⟨A + k, by omega⟩
          by_cases hend : 4096 ≤ q
          · have ha3 : 4096 ≤ (q : Int) := by omega
            have hTk : Tf (A : Int) M I k = false := by
              unfold Tf; rw [decide_eq_false (by omega), Bool.false_and, Bool.false_and]
            have HR2 : Hid (Fl (Tf (A : Int) M I) ((A : Int)).toNat (k + 1) (row es I) own) := HR.out.2.1.skip hTk
            have HT1 : Hid (quiet (Tf (A : Int) M I) (k + 1) = quiet (Tf (A : Int) M I) k) := quiet_skip _ _ hTk
            generalize quiet (Tf (A : Int) M I) k = t at HT1 ⊢
            clear hTk
            go_wp2
            go_round
            case rel => exact ⟨k + 1, own, by omega, by go_num, by rw [HT1.out], HR.out.1, HR2.out, HR.out.2.2⟩
            case measure => simp [intOf]; omega
          · have ha3 : ¬ 4096 ≤ (q : Int) := by omega
            by_cases hbit : M.getLsbD k = true
            · have hz0 : (bits .and .u32 (U M / (2 : Int) ^ k) 1 == 0) = false := by rw [bit_test, if_pos hbit]; rfl
              obtain ⟨i, hi⟩ : ∃ i : Nat, (q : Int) / 8 = (i : Int) := ⟨q / 8, by omega⟩
              obtain ⟨r, hr8⟩ : ∃ r : Nat, (q : Int) % 8 = (r : Int) := ⟨q % 8, by omega⟩
              have hin : i < 512 := by omega
              have hc := HR.out.1.cell i (by rw [HR.out.2.1.len, HyI.out.2]; omega)
              have hf := HR.out.1.frozen i
              have b1 : (0 : Int) ≤ i ∧ (i : Int) < 512 := by omega
              have hfl := flip_byte (nth own i) r (HR.out.1.wf i) (by omega)
              generalize hd : bits .xor .u8 (nth own i) ((2 : Int) ^ r % 256) = d at hfl
              by_cases hI0 : I = 0
              · by_cases hst : strc q = strc A
                · have hst' : (strc q : Int) = (strc A : Int) := by omega
                  have hI0' : ((I : Int) == 0) = true := by rw [hI0]; rfl
                  have HI0 : Hid (I = 0) := hI0
                  clear hI0
                  have hTk : Tf (A : Int) M I k = true := by
                    simp only [Tf, Bool.and_eq_true, Bool.or_eq_true, decide_eq_true_eq]
                    exact ⟨⟨by omega, hbit⟩, by right; rw [Int.toNat_natCast, show A + k = q by omega]; exact hst⟩
                  have HR2 : Hid (Fl (Tf (A : Int) M I) (A : Int).toNat (k + 1) (row es I) (own.set i d)) := HR.out.2.1.turn hlt hTk (by rw [Int.toNat_natCast]; omega) (by rw [Int.toNat_natCast]; omega) (by rw [HyI.out.2]; omega) hfl.1 hfl.2
                  have HO2 : Hid (OwnB (wr.setCell ⟨gb, i, none⟩ (.int .u8 d)).drew gb cb (own.set i d) ∧ Below w5.heap.size w5 (wr.setCell ⟨gb, i, none⟩ (.int .u8 d)).drew) := ⟨(HR.out.1.set i d (by rw [HR.out.2.1.len, HyI.out.2]; omega) hfl.1).on ((Below.refl _ _).drew), (HR.out.2.2.trans (Fr.below Fr.set _ (fun j hj => by rw [hj]; exact H6.out.2.2) HR.out.2.2.size)).drew⟩
                  have HT1 : Hid (quiet (Tf (A : Int) M I) (k + 1) = false) := quiet_turn _ _ hTk
                  clear hTk hfl
                  generalize quiet (Tf (A : Int) M I) k = t
                  go_wp2_with (go_at_call 16; refine (stretch_any _ _).mono ?_; rintro e w' ⟨rfl, rfl⟩)
                  go_region
                  go_wp2
                  go_round
                  case rel => exact ⟨k + 1, own.set i d, by omega, by go_num, by rw [HT1.out]; rfl, HO2.out.1, HR2.out, HO2.out.2⟩
                  case measure => simp [intOf]; omega
                · have hst' : ((strc q : Int) != (strc A : Int)) = true := by
                    have : ¬ (strc q : Int) = (strc A : Int) := by omega
                    simpa using this
                  have hI0' : ((I : Int) == 0) = true := by rw [hI0]; rfl
                  have HI0 : Hid (I = 0) := hI0
                  clear hI0
                  clear hfl hd hc hf
                  have hTk : Tf (A : Int) M I k = false := by
                    unfold Tf
                    rw [decide_eq_false (show ¬ I ≠ 0 from fun c => c HI0.out), Int.toNat_natCast, show A + k = q by omega, decide_eq_false hst]; simp
                  have HR2 : Hid (Fl (Tf (A : Int) M I) ((A : Int)).toNat (k + 1) (row es I) own) := HR.out.2.1.skip hTk
                  have HT1 : Hid (quiet (Tf (A : Int) M I) (k + 1) = quiet (Tf (A : Int) M I) k) := quiet_skip _ _ hTk
                  generalize quiet (Tf (A : Int) M I) k = t at HT1 ⊢
                  clear hTk
                  go_wp2_with (go_at_call 16; refine (stretch_any _ _).mono ?_; rintro e w' ⟨rfl, rfl⟩)
                  go_round
                  case rel => exact ⟨k + 1, own, by omega, by go_num, by rw [HT1.out], HR.out.1, HR2.out, HR.out.2.2⟩
                  case measure => simp [intOf]; omega
              · have hI0' : ((I : Int) == 0) = false := by simpa using hI0
                have hTk : Tf (A : Int) M I k = true := by
                  simp only [Tf, Bool.and_eq_true, Bool.or_eq_true, decide_eq_true_eq]
                  exact ⟨⟨by omega, hbit⟩, by left; exact hI0⟩
                have HR2 : Hid (Fl (Tf (A : Int) M I) (A : Int).toNat (k + 1) (row es I) (own.set i d)) := HR.out.2.1.turn hlt hTk (by rw [Int.toNat_natCast]; omega) (by rw [Int.toNat_natCast]; omega) (by rw [HyI.out.2]; omega) hfl.1 hfl.2
                have HO2 : Hid (OwnB (wr.setCell ⟨gb, i, none⟩ (.int .u8 d)).drew gb cb (own.set i d) ∧ Below w5.heap.size w5 (wr.setCell ⟨gb, i, none⟩ (.int .u8 d)).drew) := ⟨(HR.out.1.set i d (by rw [HR.out.2.1.len, HyI.out.2]; omega) hfl.1).on ((Below.refl _ _).drew), (HR.out.2.2.trans (Fr.below Fr.set _ (fun j hj => by rw [hj]; exact H6.out.2.2) HR.out.2.2.size)).drew⟩
                have HT1 : Hid (quiet (Tf (A : Int) M I) (k + 1) = false) := quiet_turn _ _ hTk
                clear hTk hfl
                generalize quiet (Tf (A : Int) M I) k = t
                go_wp2
                go_region
                go_wp2
                go_round
                case rel => exact ⟨k + 1, own.set i d, by omega, by go_num, by rw [HT1.out]; rfl, HO2.out.1, HR2.out, HO2.out.2⟩
                case measure => simp [intOf]; omega
            · have hz0 : (bits .and .u32 (U M / (2 : Int) ^ k) 1 == 0) = true := by rw [bit_test, if_neg hbit]; rfl
              have hTk : Tf (A : Int) M I k = false := by
                have : M.getLsbD k = false := by simpa using hbit
                unfold Tf; rw [this]; simp
              have HR2 : Hid (Fl (Tf (A : Int) M I) ((A : Int)).toNat (k + 1) (row es I) own) := HR.out.2.1.skip hTk
              have HT1 : Hid (quiet (Tf (A : Int) M I) (k + 1) = quiet (Tf (A : Int) M I) k) := quiet_skip _ _ hTk
              generalize quiet (Tf (A : Int) M I) k = t at HT1 ⊢
              clear hTk
              go_wp2
              go_round
              case rel => exact ⟨k + 1, own, by omega, by go_num, by rw [HT1.out], HR.out.1, HR2.out, HR.out.2.2⟩
              case measure => simp [intOf]; omega
    · obtain rfl : k = 32 := by omega
      obtain ⟨v, hv⟩ : ∃ v, v = Value.slice (some ⟨gb, 0, none⟩) 512 cb := ⟨_, rfl⟩
      have HOl : Hid (own.length = 512) := HR.out.2.1.len.trans HyI.out.2
      have HgR : Hid (gR < w5.heap.size) := owns_block H5.out.1 rfl
      have hrow := owns_on H5.out.1 HR.out.2.2
      have cI : wr.cell? ⟨gR, I, none⟩ = some (.slice (some ⟨bI, oI, none⟩) 512 eI) := by
        have := hrow.cells (g := gR) rfl I _ HvI.out
        rw [Addr.add_lit, Nat.zero_add] at this
        exact this
      have fI : wr.frozen? ⟨gR, I, none⟩ = false := by
        obtain ⟨cur, hg⟩ := own_type hrow (k := gR) rfl
        exact frozen_of_row _ _ _ _ _ hg
      have HW : Hid (Data (wr.setCell ⟨gR, I, none⟩ v) (some ⟨gR, 0, none⟩) (es.set I own) ∧ (∃ b0 o0 c0, (wr.setCell ⟨gR, I, none⟩ v).cell? ⟨gR, 0, none⟩ = some (.slice (some ⟨b0, o0, none⟩) 512 c0) ∧ Bytes (wr.setCell ⟨gR, I, none⟩ v) (some ⟨b0, o0, none⟩) (row (es.set I own) 0) ∧ (row (es.set I own) 0).length = 512 ∧ 512 ≤ c0) ∧ Below w3.heap.size w3 (wr.setCell ⟨gR, I, none⟩ v)) := by
        have hf : Fr (fun i => i = gR) wr (wr.setCell ⟨gR, I, none⟩ v) := Fr.set
        have b4 : Below w4.heap.size w4 wr := H5.out.2.2.2.2.1.trans (HR.out.2.2.mono H5.out.2.2.2.2.1.size)
        have b5 : Below w4.heap.size w4 (wr.setCell ⟨gR, I, none⟩ v) := b4.trans (hf.below _ (fun i hi => by rw [hi]; exact H5.out.2.2.2.2.2) b4.size)
        have b6 : Below w3.heap.size w3 wr := H5.out.2.2.1.trans (HR.out.2.2.mono H5.out.2.2.1.size)
        have b7 : Below w3.heap.size w3 (wr.setCell ⟨gR, I, none⟩ v) := b6.trans (hf.below _ (fun i hi => by rw [hi]; exact Nat.le_trans HS34.out H5.out.2.2.2.2.2) b6.size)
        have ob : OwnB (wr.setCell ⟨gR, I, none⟩ v) gb cb own := HR.out.1.fr hf (fun e => by have := H6.out.2.2; have := HgR.out; omega)
        have sl := (H5.out.2.2.2.1.on b5).set ob HOl.out (I := I) (by rw [HEl.out]; omega)
        have ho2 := owns_set hrow I v
        rw [← hv] at sl
        have hrl : ∀ i, i < 1 + K → (row (es.set I own) i).length = 512 := fun i hi => by
          rw [row_set _ _ _ _ (by rw [HEl.out]; omega)]
          split
          · exact HOl.out
          · exact HEr.out i hi
        refine ⟨sl.data ho2 (by rw [List.length_set, HEl.out]; omega), ?_, b7⟩
        obtain ⟨b0, o0, c0, q1, q2⟩ := sl.at_ 0 (by rw [List.length_set, HEl.out]; omega)
        rw [hrl 0 (by omega)] at q1
        have hc0 : 512 ≤ c0 := by
          have q3 := q1
          rw [List.getElem?_set] at q3
          by_cases e : I = 0
          · rw [if_pos e] at q3
            split at q3
            · rw [hv] at q3; cases q3; exact hcb
            · cases q3
          · rw [if_neg e, HR0.out] at q3; cases q3; exact hch
        refine ⟨b0, o0, c0, ?_, q2, hrl 0 (by omega), hc0⟩
        have := ho2.cells (g := gR) rfl 0 _ q1
        rw [Addr.add_lit, Nat.add_zero] at this
        exact this
      rw [hv] at HW
      obtain ⟨b0, o0, c0, c00, hy0, hl0, hc0⟩ := HW.out.2.1
      have HY0 : Hid (Bytes (wr.setCell ⟨gR, I, none⟩ (.slice (some ⟨gb, 0, none⟩) 512 cb)) (some ⟨b0, o0, none⟩) (row (es.set I own) 0) ∧ (row (es.set I own) 0).length = 512) := ⟨hy0, hl0⟩
      clear hy0 hl0 hrow hv
      have HG : Hid (∀ wx c, Below (wr.setCell ⟨gR, I, none⟩ (.slice (some ⟨gb, 0, none⟩) 512 cb)).heap.size (wr.setCell ⟨gR, I, none⟩ (.slice (some ⟨gb, 0, none⟩) 512 cb)) wx → Calls Tryd.prog 11 #[.slice (some ⟨b0, o0, none⟩) 512 c0, .int .i64 16384, .slice (some ⟨gR, 1, none⟩) K c] wx fun e w' => e = .returned (.bool (quiet (Tf at_ M I) 32)) ∧ Below wx.heap.size wx w') := fun wx c hx => by
        have := good_any wx _ _ 512 c0 K c (row (es.set I own) 0) ((es.set I own).drop 1) 16384 HY0.out.2 (by rw [List.length_drop, List.length_set, HEl.out]; omega) (HY0.out.1.on hx) hc0 ((HW.out.1.tail).on hx) (HT.out _ (H3.out.2.2.trans ((HW.out.2.2.trans (hx.mono HW.out.2.2.size)).mono H3.out.2.2.size)))
        rw [HEg.out own HR.out.2.1] at this
        exact this
      generalize quiet (Tf at_ M I) 32 = t at HG ⊢
      have hcR' : ¬ cR = 1 := by omega
      have hK0 : (0 : Int) < 1 + (K : Int) := by omega
      have hK2 : (1 : Int) ≤ (cR : Int) := by omega
      have hK3 : (1 : Int) ≤ 1 + (K : Int) := by omega
      have hK4 : 1 + (K : Int) ≤ (cR : Int) := by omega
      have HDr : Hid (Below (wr.setCell ⟨gR, I, none⟩ (.slice (some ⟨gb, 0, none⟩) 512 cb)).heap.size (wr.setCell ⟨gR, I, none⟩ (.slice (some ⟨gb, 0, none⟩) 512 cb)) (wr.setCell ⟨gR, I, none⟩ (.slice (some ⟨gb, 0, none⟩) 512 cb)).drew) := (Below.refl _ _).drew
      have HBf : Hid (∀ wx, Below (wr.setCell ⟨gR, I, none⟩ (.slice (some ⟨gb, 0, none⟩) 512 cb)).heap.size (wr.setCell ⟨gR, I, none⟩ (.slice (some ⟨gb, 0, none⟩) 512 cb)) wx → Below w.heap.size w wx) := fun wx hx => H3.out.2.2.trans ((HW.out.2.2.trans (hx.mono HW.out.2.2.size)).mono H3.out.2.2.size)
      go_upto_region 20 with fail
      generalize wr.setCell ⟨gR, I, none⟩ (.slice (some ⟨gb, 0, none⟩) 512 cb) = w8 at *
      go_region_law (go_simp; go_at_call 11; go_loud (refine (HG.out _ _ HDr.out).mono ?_; rintro e w9 ⟨rfl, hb⟩; have H9 : Hid (Below w.heap.size w w9) := HBf.out _ (HDr.out.trans hb); clear hb))
      all_goals
        go_wp2
        go_ret
        exact ⟨by cases t <;> rfl, H9.out⟩
/-- HeadBursts -/
theorem bursts_any (w : World) (sa : Option Addr) (sn sc : Nat) (ba : Option Addr) (bn bc : Nat) (st sd : List Int) (which at_ : Int) (M : W) (hp : PlanAt w sa sn ba bn st sd) (hT : TabAt w) :
    Calls Tryd.prog 5 #[.agg #[.slice sa sn sc, .slice ba bn bc], .int .i64 which, .int .i64 at_, .int .u32 (U M)] w fun e w' => e = .returned (.bool true) ∧ Below w.heap.size w w' :=
  bursts_core w sa sn sc ba bn bc (planN st) (planD st sd) (planN st).length which at_ M (plan_fit st sd) hT (fun wx hx => made_fit wx sa sn sc ba bn bc st sd (hp.on hx))
end Go.Proofs.YtccocjipgbeaeaaDoor
