import Derived.Test.YtmgonolliccjaaaDoorSnQ
namespace Go.Proofs.YtmgonolliccjaaaDoor
open Go.RowKit Rec Sc
/-- Read of any bytes -/
theorem read_all (w : World) (a : Option Addr) (n c : Nat) (L : List Int) (hB : Bytes w a L) (hn : L.length = n) (hc : n ≤ c) (hT : TabAt w) :
    Calls Tryd.prog 13 #[.slice a n c] w fun e w' => ∃ ra rn rc re, e = .returned (.tuple #[.slice ra rn rc, .int .i64 re]) ∧ Below w.heap.size w w' ∧ ((re ≠ 0) ∨ (re = 0 ∧ n = 512 ∧ ∃ b, ra = some ⟨b, 0, none⟩ ∧ w.heap.size ≤ b ∧ Bk L (dec L) ∧ rn = ((vL (dec L)).filter tk).length ∧ OwnE w' b rc ((vL (dec L)).filter tk))) := by
  by_cases h : n = 512
  · subst h
    obtain ⟨g, o, rfl⟩ : ∃ g o, a = some ⟨g, o, none⟩ := by
      rcases hB.at_ with e | ⟨b, off, e, _⟩
      · rw [e] at hn; cases hn
      · exact ⟨b, off, e⟩
    refine (read_any w g o c L hn hB hc hT).mono ?_
    rintro e w' ⟨hb, ⟨hr, b, cap, h1, h2, h3⟩ | ⟨_, h1⟩⟩
    · have hk := Bk.of hn hB.wf hr
      rw [hk.told] at h1 h3
      exact ⟨_, _, _, _, h1, hb, .inr ⟨rfl, rfl, b, rfl, h2, hk, rfl, h3⟩⟩
    · exact ⟨_, _, _, _, h1, hb, .inl (by decide)⟩
  · refine (read_size w a n c h).mono ?_
    rintro e w' ⟨h1, rfl⟩
    exact ⟨_, _, _, _, h1, Below.refl _ _, .inl (by decide)⟩
set_option maxRecDepth 100000 in
set_option maxHeartbeats 8000000 in
theorem form_any (w : World) (a la : Option Addr) (n c lc : Nat) (L : List Int) (LC : List CT) (x0 x1 : Int) (hB : Bytes w a L) (hn : L.length = n) (hc : n ≤ c) (hC : CelAt w la LC) (hLC : LC.length ≤ 9223372036854775806) (hx1 : 0 ≤ x1 ∧ x1 < 256) (hT : TabAt w) :
    Calls Tryd.prog 4 #[.slice a n c, .slice la LC.length lc, .agg #[.int .i64 x0, .int .u8 x1]] w fun e w' => e = .returned (.bool true) ∧ Below w.heap.size w w' := by
  obtain ⟨o, E, hO⟩ := make512
  have HO : Hid (∀ w : World, OwnB (w.alloc o) w.heap.size 512 z512) := hO
  obtain ⟨P, hP⟩ : ∃ P, w.heap.size = P := ⟨_, rfl⟩
  have hal : Below w.heap.size w (w.alloc (.cells #[.int .i64 x0, .int .u8 x1] 45)) := (Below.refl _ _).alloc (Nat.le_refl _) _
  have HF := sfixed_any (w.alloc (.cells #[.int .i64 x0, .int .u8 x1] 45)) (hT.on hal)
  have HX : Hid (∀ wx, Below (w.alloc (.cells #[.int .i64 x0, .int .u8 x1] 45)).heap.size (w.alloc (.cells #[.int .i64 x0, .int .u8 x1] 45)) wx → Below w.heap.size w wx ∧ wx.heap[P]? = some (.cells #[.int .i64 x0, .int .u8 x1] 45 (0, 0))) := fun wx hb => ⟨hal.trans (hb.mono hal.size), by
    rw [hb.block P (by rw [World.size_alloc]; omega), ← hP]; exact heap_alloc_new _ _⟩
  have HT : Hid (TabAt w) := hT
  have HB : Hid (Bytes w a L) := hB
  have HCe : Hid (CelAt w la LC) := hC
  have HM : Hid (∀ (wx : World) (v : Int), Calls Tryd.prog 11 #[.int .i64 v, .int .i64 512] wx fun e w' => e = .returned (.int .i64 (v % 512)) ∧ wx = w') := fun wx v => modI_any wx v 512 (by omega) (by omega)
  have HRd : Hid (∀ wx, Below w.heap.size w wx → Calls Tryd.prog 13 #[.slice a n c] wx fun e w' => ∃ ra rn rc re, e = .returned (.tuple #[.slice ra rn rc, .int .i64 re]) ∧ Below wx.heap.size wx w' ∧ ((re ≠ 0) ∨ (re = 0 ∧ n = 512 ∧ ∃ b, ra = some ⟨b, 0, none⟩ ∧ wx.heap.size ≤ b ∧ Bk L (dec L) ∧ rn = ((vL (dec L)).filter tk).length ∧ OwnE w' b rc ((vL (dec L)).filter tk)))) := fun wx hb => read_all wx a n c L (hB.on hb) hn hc (hT.on hb)
  have HA : Hid (∀ p, a = some p → 0 < L.length → p.block < w.heap.size) := fun p e h => by
    rcases hB.at_ with h2 | ⟨b, off, h2, h3⟩
    · rw [h2] at h; cases h
    · rw [h2] at e; cases e; exact block_lt_of_cell (h3 0 h)
  clear hO hT hB hC hal
  go_enter Tryd.func4, Tryd.ntmps4
  go_upto_if 27 with (first
    | (go_at_call 8; refine HF.mono ?_; rintro e w1 ⟨rfl, hb1⟩; have HB1 : Hid (Below w.heap.size w w1 ∧ w1.heap[P]? = some (.cells #[.int .i64 x0, .int .u8 x1] 45 (0, 0))) := HX.out _ hb1; clear hb1)
    | (go_at_call 13; refine (HRd.out _ HB1.out.1).mono ?_; rintro e w2 ⟨ra, rn, rc, re, rfl, hb2, hr2⟩
       have HB2 : Hid (Below w.heap.size w w2 ∧ w2.heap[P]? = some (.cells #[.int .i64 x0, .int .u8 x1] 45 (0, 0))) := ⟨HB1.out.1.trans (hb2.mono HB1.out.1.size), (hb2.block P (heap_lt HB1.out.2)).trans HB1.out.2⟩
       have HR2 : Hid ((re ≠ 0) ∨ (re = 0 ∧ n = 512 ∧ ∃ b, ra = some ⟨b, 0, none⟩ ∧ w1.heap.size ≤ b ∧ Bk L (dec L) ∧ rn = ((vL (dec L)).filter tk).length ∧ OwnE w2 b rc ((vL (dec L)).filter tk))) := hr2
       clear hb2 hr2))
  clear HF HX HRd
  go_cut [7] (fun _ wx => Below w.heap.size w wx ∧ wx.heap[P]? = some (.cells #[.int .i64 x0, .int .u8 x1] 45 (0, 0)))
  case first => as_aux_lemma =>
    rcases HR2.out with h0 | ⟨rfl, h512, b1, rfl, hb1, hk, hrn, hE⟩
    · clear HR2
      go_wp2
      go_meet
      exact HB2.out
    · clear HR2
      subst h512 hrn
      obtain ⟨T, hTe⟩ : ∃ T, (vL (dec L)).filter tk = T := ⟨_, rfl⟩
      obtain ⟨f, hfe⟩ : ∃ f, dec L = f := ⟨_, rfl⟩
      rw [hTe] at hE ⊢
      rw [hfe] at hk
      rw [hfe] at hTe
      have HK : Hid (Bk L f) := hk
      have HTe : Hid ((vL f).filter tk = T) := hTe
      have hTl : T.length ≤ 16 := by rw [← hTe]; exact wn_len f 16
      obtain ⟨q, hq⟩ : ∃ q, w2.heap.size = q := ⟨_, rfl⟩
      have hlt9 : P < w2.heap.size := heap_lt HB2.out.2
      have H3 : Hid (FmI w (w2.alloc o) P q b1 rc L a T f x0 x1 0) := by
        have h1 : Below w2.heap.size w2 (w2.alloc o) := (Below.refl _ _).alloc (Nat.le_refl _) _
        rw [← hq]
        refine ⟨HB2.out.1.trans (h1.mono HB2.out.1.size), (h1.block P hlt9).trans HB2.out.2, (HB.out.on HB2.out.1).on h1, hE.on h1, ⟨z512, HO.out w2, ?_⟩, HB2.out.1.size, by omega, by have := hE.lt; omega, fun p hp e => ?_⟩
        · rw [List.take_zero, fT_nil]; exact Bk.zero
        · have := HA.out p hp (by rw [hn]; omega)
          have := HB2.out.1.size
          omega
      clear hE hk hTe hfe hb1 hlt9
      go_wp2
      go_loopw [10] (fun s10 wr => ∃ i : Nat, i ≤ T.length ∧ s10 = .int .i64 (i : Int) ∧ FmI w wr P q b1 rc L a T f x0 x1 i) (fun s10 _ => T.length - (intOf s10).toNat)
      case atStart => exact ⟨0, Nat.zero_le _, rfl, H3.out⟩
      case round =>
        obtain ⟨i, hi, rfl, hI⟩ := hrel
        have HI : Hid (FmI w wr P q b1 rc L a T f x0 x1 i) := hI
        clear hI H3
        by_cases hlt : i < T.length
        · have hlt' : (i : Int) < (T.length : Int) := by omega
          have hm : T[i] ∈ (vL f).filter tk := by rw [HTe.out]; exact List.getElem_mem _
          obtain ⟨p, e, hp16, hfp, hTi⟩ := told_at hm
          have hTi' : T[i]? = some ((p : Int), e.nm, e.ino) := by rw [List.getElem?_eq_getElem hlt, hTi]
          obtain ⟨c0, c1, c2⟩ := HI.out.got.cell hTi'
          have HP : Hid (Calls Tryd.prog 10 #[.slice (some ⟨q, 0, none⟩) 512 512, .agg #[.int .i64 (p : Int), .string e.nm, .int .i64 e.ino]] wr fun r w' => r = .returned (.int .i64 0) ∧ FmI w w' P q b1 rc L a T f x0 x1 (i + 1)) := HI.out.put HT.out p e hp16 hfp (HK.out.ok p hp16 e hfp) hTi'
          clear hm hTi hTi' hfp
          go_wp2_with (first
            | (go_at_call 10; refine HP.out.mono ?_; rintro r w9 ⟨rfl, h9⟩; have H9 : Hid (FmI w w9 P q b1 rc L a T f x0 x1 (i + 1)) := h9; clear h9))
          go_roundw
          case rel =>
            first
              | exact ⟨i + 1, by omega, by go_num, H9.out⟩
              | ((repeat apply Exists.intro)
                 refine ⟨?_, rfl⟩
                 exact ⟨i + 1, by omega, by go_num, H9.out⟩)
          case measure => simp [intOf]; omega
        · obtain rfl : i = T.length := by omega
          have HSB : Hid (Calls Tryd.prog 16 #[.slice (some ⟨q, 0, none⟩) 512 512, .slice a 512 c] wr fun e w' => e = .returned (.bool true) ∧ Below w.heap.size w w' ∧ w'.heap[P]? = some (.cells #[.int .i64 x0, .int .u8 x1] 45 (0, 0))) := by
            obtain ⟨M, o1, o2⟩ := HI.out.ag
            rw [List.take_length] at o2
            have hML : M = L := o2.inj HK.out (fun k hk => by rw [← HTe.out]; exact fT_all HK.out hk)
            subst hML
            refine (sameB_any wr _ _ 512 512 512 c M M o1.bytes HI.out.by_ HK.out.len HK.out.len).mono ?_
            rintro e w' ⟨rfl, k, rfl⟩
            have hd := drewN_below wr k
            exact ⟨by simp, HI.out.bel.trans (hd.mono HI.out.bel.size), (hd.block P (heap_lt HI.out.box)).trans HI.out.box⟩
          go_wp2_with (first
            | (go_at_call 16; refine HSB.out.mono ?_; rintro e w9 ⟨rfl, h9⟩; have H9 : Hid _ := h9; clear h9))
          go_meet
          exact H9.out
  case rest =>
    have HB3 : Hid (Below w.heap.size w wc ∧ wc.heap[P]? = some (.cells #[.int .i64 x0, .int .u8 x1] 45 (0, 0))) := hcut
    clear hcut HB2 HR2 HB1 HA HB
    go_upto_block 2 with fail
    obtain ⟨q, hq⟩ : ∃ q, wc.heap.size = q := ⟨_, rfl⟩
    obtain ⟨w8, hw8⟩ : ∃ w8, wc.alloc o = w8 := ⟨_, rfl⟩
    have H2 : Hid (FnI w w8 P q (fun _ => none) x0 x1) := by
      have h1 : Below wc.heap.size wc (wc.alloc o) := (Below.refl _ _).alloc (Nat.le_refl _) _
      have := heap_lt HB3.out.2
      rw [← hw8, ← hq]
      exact ⟨HB3.out.1.trans (h1.mono HB3.out.1.size), (h1.block P this).trans HB3.out.2, ⟨z512, HO.out wc, Bk.zero⟩, HB3.out.1.size, by omega⟩
    rw [hw8, hq]
    clear hw8 hq HB3
    go_cut [] (fun wx => ∃ f, FnI w wx P q f x0 x1)
    case first => as_aux_lemma =>
      go_wp2
      go_loopw [12] (fun i wr => ∃ (k : Nat) (f : Nat → Option Ent), k ≤ LC.length ∧ i = .int .i64 k ∧ FnI w wr P q f x0 x1) (fun i _ => LC.length - (intOf i).toNat)
      case atStart => exact ⟨0, _, Nat.zero_le _, rfl, H2.out⟩
      case round =>
        obtain ⟨k, f, hk, rfl, hI⟩ := hrel
        have HI : Hid (FnI w wr P q f x0 x1) := hI
        clear hI H2
        by_cases hlt : k < LC.length
        · have hlt' : (k : Int) < (LC.length : Int) := by omega
          obtain ⟨b, off, c, rfl, hcs, c0, c1, c2, c3⟩ := HCe.out.at hlt HI.out.bel
          obtain ⟨p, hp⟩ : ∃ p : Nat, c.1 % 16 = p := ⟨(c.1 % 16).toNat, by omega⟩
          have hp16 : p < 16 := by omega
          obtain ⟨i, hi⟩ : ∃ i : Int, 1 + c.2.1 % 4294967295 = i := ⟨_, rfl⟩
          have HEn : Hid (Calls Tryd.prog 9 #[.agg #[.int .i64 c.1, .int .i64 c.2.1, .int .i64 c.2.2.1, .string c.2.2.2]] wr fun e w' => ∃ nm, e = .returned (.agg #[.int .i64 (p : Int), .string nm, .int .i64 i]) ∧ Sc.good ⟨nm, i⟩ ∧ Below wr.heap.size wr w') := by
            refine (centry_any wr c.1 c.2.1 c.2.2.1 c.2.2.2 hcs).mono ?_
            rintro e w' ⟨⟨nm, h1, h2⟩, h3⟩
            rw [hp, hi] at h1
            exact ⟨nm, h1, ⟨h2, by show 1 ≤ i; omega, by show i ≤ 4294967295; omega⟩, h3⟩
          clear hp hi hcs
          go_wp2_with (first
            | (go_at_call 9; refine HEn.out.mono ?_; rintro e w3 ⟨nm, rfl, hg3, hb3⟩
               have HG3 : Hid (Sc.good ⟨nm, i⟩) := hg3
               have HI3 : Hid (FnI w w3 P q f x0 x1) := HI.out.on hb3
               clear hg3 hb3)
            | (go_at_call 10
               refine (HI3.out.put HT.out p ⟨nm, i⟩ hp16 HG3.out).mono ?_
               rintro r w5 ⟨rfl, h5⟩
               have H5 : Hid (FnI w w5 P q (upd f p (some ⟨nm, i⟩)) x0 x1) := h5
               clear h5))
          go_roundw
          case rel =>
            first
              | exact ⟨k + 1, _, by omega, by go_num, H5.out⟩
              | ((repeat apply Exists.intro)
                 refine ⟨?_, rfl⟩
                 exact ⟨k + 1, _, by omega, by go_num, H5.out⟩)
          case measure => simp [intOf]; omega
        · have hlt' : ¬ (k : Int) < (LC.length : Int) := by omega
          go_wp2
          go_meet
          exact ⟨f, HI.out⟩
    case rest =>
      obtain ⟨f, hI⟩ := hcut
      obtain ⟨M, o1, o2⟩ := hI.ag
      have HBw : Hid (Below w.heap.size w wc) := hI.bel
      have HBx : Hid (wc.heap[P]? = some (.cells #[.int .i64 x0, .int .u8 x1] 45 (0, 0))) := hI.box
      have HMo : Hid (OwnB wc q 512 M) := o1
      have HMk : Hid (Bk M f) := o2
      have hq0 : w.heap.size ≤ q := hI.q0
      have hqP : q ≠ P := hI.qP
      have hql : q < wc.heap.size := o1.lt
      have hTl : ((vL f).filter tk).length ≤ 16 := wn_len f 16
      have HR : Hid (Calls Tryd.prog 13 #[.slice (some ⟨q, 0, none⟩) 512 512] wc fun e w' => ∃ b cap, e = .returned (.tuple #[.slice (some ⟨b, 0, none⟩) ((vL f).filter tk).length cap, .int .i64 0]) ∧ Below wc.heap.size wc w' ∧ wc.heap.size ≤ b ∧ OwnE w' b cap ((vL f).filter tk)) := read_bk wc q 0 512 M f o2 o1.bytes (by omega) (HT.out.on hI.bel)
      clear hI o1 o2 H2
      go_upto_if 71 with (first
        | (go_at_call 13; refine HR.out.mono ?_; rintro e w11 ⟨b2, cap2, rfl, hb11, hlt11, he11⟩
           have HB11 : Hid (Below wc.heap.size wc w11) := hb11
           have HE11 : Hid (OwnE w11 b2 cap2 ((vL f).filter tk)) := he11
           have hb2q : b2 ≠ q := by omega
           have hbx : w11.heap[P]? = some (.cells #[.int .i64 x0, .int .u8 x1] 45 (0, 0)) := (hb11.block P (heap_lt HBx.out)).trans HBx.out
           have b0 : w11.cell? ⟨P, 0, none⟩ = some (.int .i64 x0) := cell_of_row _ _ 0 _ _ _ hbx
           have b1 : w11.cell? ⟨P, 1, none⟩ = some (.int .u8 x1) := cell_of_row _ _ 1 _ _ _ hbx
           clear hb11 he11 hbx hlt11))
      go_cut [15] (fun s15 wx => (∃ y : Int, s15 = .int .u8 y ∧ 1 ≤ y ∧ y < 256) ∧ wx = w11)
      case first => as_aux_lemma =>
        by_cases h0 : x1 = 0
        · go_wp2
          go_meet
          exact ⟨⟨1, rfl, by omega, by omega⟩, rfl⟩
        · go_wp2
          go_meet
          exact ⟨⟨x1, rfl, by omega, by omega⟩, rfl⟩
      case rest =>
        obtain ⟨⟨y, rfl, hy1, hy2⟩, hwc⟩ := hcut
        subst hwc
        rename World => w12
        obtain ⟨t, ht⟩ : ∃ t : Nat, x0 % 512 = t := ⟨(x0 % 512).toNat, by omega⟩
        have ht5 : t < 512 := by omega
        have HMt : Hid (Calls Tryd.prog 11 #[.int .i64 x0, .int .i64 512] w12 fun e w' => e = .returned (.int .i64 (t : Int)) ∧ w12 = w') := by
          rw [← ht]; exact HM.out w12 x0
        clear ht
        have HM12 : Hid (OwnB w12 q 512 M) := HMo.out.on HB11.out
        have hMl : M.length = 512 := HMk.out.len
        have k0 := HM12.out.cell t (by omega)
        have k1 := HM12.out.frozen t
        have hxb := xor_byte (nth M t) y (HM12.out.wf t) ⟨by omega, hy2⟩ (by omega)
        have HM13 : Hid (OwnB (w12.setCell ⟨q, t, none⟩ (.int .u8 (bits .xor .u8 (nth M t) y))) q 512 (M.set t (bits .xor .u8 (nth M t) y))) := HM12.out.set t _ (by omega) hxb.1
        have HNe : Hid (M.set t (bits .xor .u8 (nth M t) y) ≠ M) := fun e => hxb.2 (by
          have := nth_set M t t (bits .xor .u8 (nth M t) y) (by omega)
          rw [if_pos rfl, e] at this
          exact this.symm)
        have hB13 : Below w.heap.size w (w12.setCell ⟨q, t, none⟩ (.int .u8 (bits .xor .u8 (nth M t) y))) := (HBw.out.trans (HB11.out.mono HBw.out.size)).setCell hq0 _
        have HB13 : Hid (Below w.heap.size w (w12.setCell ⟨q, t, none⟩ (.int .u8 (bits .xor .u8 (nth M t) y)))) := hB13
        have HE13 : Hid (OwnE (w12.setCell ⟨q, t, none⟩ (.int .u8 (bits .xor .u8 (nth M t) y))) b2 cap2 ((vL f).filter tk)) := HE11.out.keep (Below.heap_setCell _ _ _ _ hb2q)
        have HR13 : Hid (Calls Tryd.prog 13 #[.slice (some ⟨q, 0, none⟩) 512 512] (w12.setCell ⟨q, t, none⟩ (.int .u8 (bits .xor .u8 (nth M t) y))) fun e w' => Below w.heap.size w w' ∧ EntAt w' (some ⟨b2, 0, none⟩) ((vL f).filter tk) ∧ (e = .returned (.tuple #[.slice none 0 0, .int .i64 140]) ∨ ∃ b cap T, e = .returned (.tuple #[.slice (some ⟨b, 0, none⟩) T.length cap, .int .i64 0]) ∧ EntAt w' (some ⟨b, 0, none⟩) T ∧ (vL f).filter tk ≠ T)) := by
          refine (read_any _ q 0 512 _ (by rw [List.length_set]; exact hMl) HM13.out.bytes (by omega) (HT.out.on hB13)).mono ?_
          rintro e w' ⟨hb, ⟨hr, b, cap, h1, h2, h3⟩ | ⟨_, h1⟩⟩
          · refine ⟨hB13.trans (hb.mono hB13.size), (HE13.out.on hb).ents, .inr ⟨b, cap, _, h1, h3.ents, fun e => ?_⟩⟩
            have hk := Bk.of (by rw [List.length_set]; exact hMl) HM13.out.wf hr
            rw [hk.told] at e
            exact HNe.out (told_inj HMk.out hk e).symm
          · exact ⟨hB13.trans (hb.mono hB13.size), (HE13.out.on hb).ents, .inl h1⟩
        clear hB13 hxb hMl
        have hMS : Hid (∀ wx b cap T, Below w.heap.size w wx → EntAt wx (some ⟨b2, 0, none⟩) ((vL f).filter tk) → EntAt wx (some ⟨b, 0, none⟩) T → (vL f).filter tk ≠ T → Calls Tryd.prog 15 #[.slice (some ⟨b2, 0, none⟩) ((vL f).filter tk).length cap2, .slice (some ⟨b, 0, none⟩) T.length cap] wx fun e w' => e = .returned (.bool false) ∧ Below w.heap.size w w') := fun wx b cap T hb h1 h2 h3 => by
          refine (sameE_any wx _ _ _ cap2 _ cap _ _ h1 h2 rfl rfl (by omega)).mono ?_
          rintro e w' ⟨rfl, k, rfl⟩
          exact ⟨by rw [decide_eq_false h3], hb.trans ((drewN_below wx k).mono hb.size)⟩
        go_wp2_with (first
          | (go_at_call 11; refine HMt.out.mono ?_; rintro e w' ⟨rfl, rfl⟩)
          | (go_at_call 13; refine HR13.out.mono ?_; rintro e w14 ⟨hb14, he14, hor⟩
             have HB14 : Hid (Below w.heap.size w w14) := hb14
             have HE14 : Hid (EntAt w14 (some ⟨b2, 0, none⟩) ((vL f).filter tk)) := he14
             clear hb14 he14
             rcases hor with rfl | ⟨b3, cap3, T3, rfl, he3, hne3⟩)
          | (go_at_call 15; refine (hMS.out _ _ _ _ HB14.out HE14.out he3 hne3).mono ?_; rintro e w15 ⟨rfl, hb15⟩; have HB15 : Hid _ := hb15; clear hb15))
        · go_ret
          exact ⟨rfl, HB14.out⟩
        · go_ret
          exact ⟨rfl, HB15.out⟩
end Go.Proofs.YtmgonolliccjaaaDoor
