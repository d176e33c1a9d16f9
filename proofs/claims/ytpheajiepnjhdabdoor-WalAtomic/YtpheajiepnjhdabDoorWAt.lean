import Derived.Test.YtpheajiepnjhdabDoorWAo
namespace Go.Proofs.YtpheajiepnjhdabDoor
open Go.RowKit Rec

/-- behind the armed commit -/
structure At7 (wa w7 : World) (E : Dk) (l m W : List Int) (fb : Bool) (gb cb ga ca : Nat) : Prop where
  mine : Mine wa w7 E
  down : E.down = fb
  well : Well 128 W E.las
  own1 : OwnB w7 gb cb l
  own2 : OwnB w7 ga ca m
  len1 : l.length = 512 * 128
  len2 : m.length = 512 * 128
theorem At7.on {wa w7 w' : World} {E : Dk} {l m W : List Int} {fb : Bool} {gb cb ga ca : Nat} (h : At7 wa w7 E l m W fb gb cb ga ca) (hb : Below w7.heap.size w7 w') : At7 wa w' E l m W fb gb cb ga ca :=
  ⟨h.mine.on hb, h.down, h.well, h.own1.on hb, h.own2.on hb, h.len1, h.len2⟩
theorem rows2a (w : World) (c1 c2 : Array Value) (t1 t2 : TypeId) : Below w.heap.size w ((w.alloc (.cells c1 t1)).alloc (.cells c2 t2)) ∧ ((w.alloc (.cells c1 t1)).alloc (.cells c2 t2)).heap[w.heap.size]? = some (.cells c1 t1 (0, 0)) ∧ ((w.alloc (.cells c1 t1)).alloc (.cells c2 t2)).heap[w.heap.size + 1]? = some (.cells c2 t2 (0, 0)) := by
  have e1 := alloc_size w (.cells c1 t1)
  have b1 : Below w.heap.size w (w.alloc (.cells c1 t1)) := (Below.refl _ _).alloc (Nat.le_refl _) _
  have b2 : Below (w.alloc (.cells c1 t1)).heap.size (w.alloc (.cells c1 t1)) ((w.alloc (.cells c1 t1)).alloc (.cells c2 t2)) := (Below.refl _ _).alloc (Nat.le_refl _) _
  have r1 := heap_alloc_new w (.cells c1 t1)
  have r2 := heap_alloc_new (w.alloc (.cells c1 t1)) (.cells c2 t2)
  have r1' := (b2.block _ (heap_lt r1)).trans r1
  rw [e1] at r2
  exact ⟨b1.trans (b2.mono b1.size), r1', r2⟩
set_option maxRecDepth 100000 in
set_option maxHeartbeats 4000000 in
theorem atomic_any (w : World) (a0 a1 : Option Addr) (c0 c1 : Nat) (P0 P1 : List (Int × Int)) (q : CrR) (ca : Option Addr) (cn cc : Nat) (C : List CrR) (h0 : PtsAt w a0 P0) (h1 : PtsAt w a1 P1) (hq : CrOk w q) (hC : CrsAt w ca C) (hn : C.length = cn) (hT : TabAt w) :
    Calls Tryd.prog 3 #[.agg #[.slice a0 P0.length c0, .slice a1 P1.length c1], .agg #[.int .i64 q.t, .slice q.a q.keep.length q.c], .slice ca cn cc] w fun e w' => e = .returned (.bool true) ∧ Below w.heap.size w w' := by
  obtain ⟨t, ka, kc, keep⟩ := q
  have HH : Hid (∀ wx, Below w.heap.size w wx → PtsAt wx a0 P0 ∧ PtsAt wx a1 P1 ∧ CrOk wx ⟨t, ka, kc, keep⟩ ∧ CrsAt wx ca C ∧ TabAt wx) := fun wx hb => ⟨h0.on hb, h1.on hb, hq.on hb, hC.on hb, hT.on hb⟩
  have HCn : Hid (C.length = cn) := hn
  have hcn := hC.len
  rw [hn] at hcn
  have ht1 := hq.lo
  have ht2 := hq.hi
  have hkl := hq.len
  have hptr := ptr_nil
  clear h0 h1 hq hC hn hT
  obtain ⟨p0, hp0⟩ : ∃ p0, P0.length = p0 := ⟨_, rfl⟩
  obtain ⟨p1, hp1⟩ : ∃ p1, P1.length = p1 := ⟨_, rfl⟩
  obtain ⟨kl, hkl'⟩ : ∃ kl, keep.length = kl := ⟨_, rfl⟩
  have HP : Hid (P0.length = p0 ∧ P1.length = p1 ∧ keep.length = kl) := ⟨hp0, hp1, hkl'⟩
  simp only at ht1 ht2 hkl
  rw [hkl'] at hkl
  show Calls Tryd.prog 3 #[.agg #[.slice a0 P0.length c0, .slice a1 P1.length c1], .agg #[.int .i64 t, .slice ka keep.length kc], .slice ca cn cc] w _
  rw [hp0, hp1, hkl']
  clear hp0 hp1 hkl'
  go_enter Tryd.func3, Tryd.ntmps3
  go_upto_region 1 with fail
  obtain ⟨wa, hwa⟩ : ∃ wa, wa = (w.alloc (.cells #[.slice a0 p0 c0, .slice a1 p1 c1] 23)).alloc (.cells #[.int .i64 t, .slice ka kl kc] 26) := ⟨_, rfl⟩
  obtain ⟨hb0, hr0, hr1⟩ := rows2a w #[.slice a0 p0 c0, .slice a1 p1 c1] #[.int .i64 t, .slice ka kl kc] 23 26
  rw [← hwa] at hb0 hr0 hr1 ⊢
  clear hwa
  obtain ⟨pp, hpp⟩ : ∃ pp, w.heap.size = pp := ⟨_, rfl⟩
  have HA : Hid (Below w.heap.size w wa ∧ wa.heap[pp]? = some (.cells #[.slice a0 p0 c0, .slice a1 p1 c1] 23 (0, 0)) ∧ wa.heap[pp + 1]? = some (.cells #[.int .i64 t, .slice ka kl kc] 26 (0, 0))) := by rw [← hpp]; exact ⟨hb0, hr0, hr1⟩
  rw [hpp]
  clear hb0 hr0 hr1 hpp
  have HC : Hid (∀ wx, Below wa.heap.size wa wx → wx.cell? ⟨pp, 0, none⟩ = some (.slice a0 p0 c0) ∧ wx.cell? ⟨pp, 1, none⟩ = some (.slice a1 p1 c1) ∧ wx.cell? ⟨pp + 1, 0, none⟩ = some (.int .i64 t) ∧ wx.cell? ⟨pp + 1, 1, none⟩ = some (.slice ka kl kc)) := fun wx hb => by
    have r0 := (hb.block _ (heap_lt HA.out.2.1)).trans HA.out.2.1
    have r1 := (hb.block _ (heap_lt HA.out.2.2)).trans HA.out.2.2
    exact ⟨by rw [cell_of_row _ _ _ _ _ _ r0]; rfl, by rw [cell_of_row _ _ _ _ _ _ r0]; rfl, by rw [cell_of_row _ _ _ _ _ _ r1]; rfl, by rw [cell_of_row _ _ _ _ _ _ r1]; rfl⟩
  replace HH : Hid (∀ wx, Below wa.heap.size wa wx → PtsAt wx a0 P0 ∧ PtsAt wx a1 P1 ∧ CrOk wx ⟨t, ka, kc, keep⟩ ∧ CrsAt wx ca C ∧ TabAt wx) := fun wx hb => HH.out wx (HA.out.1.trans (hb.mono HA.out.1.size))
  have HEnd : Hid (∀ wx, Below wa.heap.size wa wx → Below w.heap.size w wx) := fun wx hb => HA.out.1.trans (hb.mono HA.out.1.size)
  have HFx : Hid (Calls Tryd.prog 4 #[] wa fun e w' => e = .returned (.bool true) ∧ Below wa.heap.size wa w') := fixed_any wa (HH.out _ (Below.refl _ _)).2.2.2.2
  clear HA
  go_upto_region 3 with (go_at_call 4; refine HFx.out.mono ?_; rintro e w1 ⟨rfl, hb⟩; have H1 : Hid (Below wa.heap.size wa w1) := hb; clear hb)
  clear HFx
  have d1 := (HC.out _ H1.out).1
  have HBg : Hid (Calls Tryd.prog 5 #[.slice a0 p0 c0] w1 fun e w' => ∃ D l, e = .returned (.tuple #[.pointer (some ⟨D.d, 0, none⟩), .bool true]) ∧ Bgn wa w' D l) := by
    refine (begun_any w1 (HH.out _ H1.out).2.2.2.2 a0 p0 c0 P0 (HH.out _ H1.out).1 HP.out.1).mono ?_
    rintro e w' ⟨D, l, rfl, hB⟩
    exact ⟨D, l, rfl, hB.mine.far' H1.out, hB.rest, hB.wr, hB.fl, hB.tp, hB.kp⟩
  go_upto_region 6 with (go_at_call 5; refine HBg.out.mono ?_; rintro e w2 ⟨D, l, rfl, hB⟩; have H2 : Hid (Bgn wa w2 D l) := hB; clear hB)
  clear HBg d1 H1
  have HIm : Hid (Calls Tryd.prog 6 #[.pointer (some ⟨D.d, 0, none⟩)] w2 fun e w' => ∃ g cap, e = .returned (.slice (some ⟨g, 0, none⟩) 65536 cap) ∧ OwnB w' g cap l ∧ w2.heap.size ≤ g ∧ Below w2.heap.size w2 w') := by
    have hnb : D.nb = 128 := H2.out.rest.size
    have hls : D.las = l := H2.out.rest.las
    have := image_any w2 D H2.out.mine.disk
    rw [hnb, hls] at this
    refine this.mono ?_
    rintro e w' ⟨g, cap, rfl, hg, ho, hb⟩
    exact ⟨g, cap, rfl, ho, hg, hb⟩
  go_upto_region 7 with (go_at_call 6; refine HIm.out.mono ?_; rintro e w3 ⟨gb, cb, rfl, ho, hg, hb⟩; have H3 : Hid (OwnB w3 gb cb l ∧ w2.heap.size ≤ gb ∧ Below w2.heap.size w2 w3 ∧ Below wa.heap.size wa w3) := ⟨ho, hg, hb, H2.out.mine.bel.trans (hb.mono H2.out.mine.bel.size)⟩; clear ho hg hb)
  clear HIm
  have d2 := (HC.out _ H3.out.2.2.2).2.1
  have HRo : Hid (Calls Tryd.prog 7 #[.slice a1 p1 c1] w3 fun e w' => ∃ va vc L, e = .returned (.slice va L.length vc) ∧ RowsAt w3 w' 30 (.slice va L.length vc) L) := by
    refine (rows_any w3 a1 p1 c1 P1 (HH.out _ H3.out.2.2.2).2.1 HP.out.2.1).mono ?_
    rintro e w' ⟨v, L, rfl, hR⟩
    obtain ⟨va, vc, rfl⟩ := own_form hR.row
    exact ⟨va, vc, L, rfl, hR⟩
  go_upto_region 8 with (go_at_call 7; refine HRo.out.mono ?_; rintro e w4 ⟨va, vc, L, rfl, hR⟩; have H4 : Hid (RowsAt w3 w4 30 (.slice va L.length vc) L) := hR; clear hR)
  clear HRo d2
  obtain ⟨n, hn⟩ : ∃ n, L.length = n := ⟨_, rfl⟩
  have HN : Hid (L.length = n) := hn
  have hn30 := H4.out.len
  rw [hn] at hn30 ⊢
  clear hn
  have HL4 : Hid (n = 0 ∨ ∃ b, va = some ⟨b, 0, none⟩ ∧ BlocksAt w4 b L ∧ w3.heap.size ≤ b) := by
    rcases Nat.eq_zero_or_pos n with e | e
    · exact .inl e
    · obtain ⟨g, c, e'⟩ := own_some H4.out.row (by rw [HN.out]; exact e)
      have hR := H4.out
      cases e'
      exact .inr ⟨g, rfl, hR.blocks, hR.far g rfl⟩
  have HLd : Hid (Calls Tryd.prog 8 #[.slice (some ⟨gb, 0, none⟩) 65536 cb, .slice va n vc] w4 fun e w' => ∃ g cap, e = .returned (.slice (some ⟨g, 0, none⟩) 65536 cap) ∧ OwnB w' g cap (fw l (homes (nsB L) (dsB L))) ∧ w4.heap.size ≤ g ∧ Below w4.heap.size w4 w') := laid_any w4 gb cb 128 l (H3.out.1.on H4.out.bel).bytes H2.out.rest.len (by omega) va n vc L HN.out (by
    rcases HL4.out with e | ⟨b, e1, e2, _⟩
    · exact .inl e
    · exact .inr ⟨b, e1, e2⟩) (fun q hq => by have := H4.out.num q hq; omega) (by omega)
  go_upto_region 10 with (go_at_call 8; refine HLd.out.mono ?_; rintro e w5 ⟨ga, cga, rfl, ho, hg, hb⟩; have H5 : Hid (OwnB w5 ga cga (fw l (homes (nsB L) (dsB L))) ∧ w4.heap.size ≤ ga ∧ Below w4.heap.size w4 w5 ∧ Below w2.heap.size w2 w5) := ⟨ho, hg, hb, (H3.out.2.2.1.trans (H4.out.bel.mono H3.out.2.2.1.size)).trans (hb.mono (Nat.le_trans H3.out.2.2.1.size H4.out.bel.size))⟩; clear ho hg hb)
  clear HLd
  have H5b : Hid (Below wa.heap.size wa w5) := H2.out.mine.bel.trans (H5.out.2.2.2.mono H2.out.mine.bel.size)
  obtain ⟨_, _, d3, d4⟩ := HC.out _ H5b.out
  have HArm : Hid (Calls Tryd.prog 9 #[.pointer (some ⟨D.d, 0, none⟩), .agg #[.int .i64 t, .slice ka kl kc]] w5 fun e w' => e = .returned (.int .i64 0) ∧ ∃ A, Disk w' A ∧ Mv w5 D w' A ∧ Al w5.heap.size D A ∧ A.abs = D.abs.arm t keep) := by
    have hk := (HH.out _ H5b.out).2.2.1
    have := arm_yes w5 D (H2.out.mine.on H5.out.2.2.2).disk t ka kc keep hk.bools hk.nil (by have := hk.len; simp only at this; omega) ht2 H2.out.rest.down
    rw [HP.out.2.2] at this
    exact this
  go_upto_region 11 with (go_at_call 9; refine HArm.out.mono ?_; rintro e w6 ⟨rfl, A, x1, x2, x3, x4⟩; have H6 : Hid (Mine wa w6 A ∧ Mv w5 D w6 A ∧ A.abs = D.abs.arm t keep) := ⟨(H2.out.mine.on H5.out.2.2.2).step x1 x2 x3, x2, x4⟩; have hAd : A.d = D.d := x2.d; clear x1 x2 x3 x4)
  rw [← hAd]
  clear HArm d3 d4 hAd
  obtain ⟨m, hm⟩ : ∃ m, fw l (homes (nsB L) (dsB L)) = m := ⟨_, rfl⟩
  obtain ⟨W, hW⟩ : ∃ W, wantA n t keep l m = W := ⟨_, rfl⟩
  have HWw : Hid (wantA n t keep l m = W) := hW
  obtain ⟨fb, hfb⟩ : ∃ fb, fallsB n t = fb := ⟨_, rfl⟩
  have HFb : Hid (fallsB n t = fb) := hfb
  obtain ⟨ev, hev⟩ : ∃ ev : Int, (if fb = true then 30 else 0) = ev := ⟨_, rfl⟩
  have HEv : Hid ((if fb = true then 30 else 0) = ev) := hev
  have HCm : Hid (Calls Tryd.prog 10 #[.pointer (some ⟨A.d, 0, none⟩), .slice va n vc] w6 fun e w' => e = .returned (.int .i64 ev) ∧ ∃ E, E.d = A.d ∧ At7 wa w' E l m W fb gb cb ga cga) := by
    have hD2 : ∀ b, D.has b → b < w2.heap.size := fun b hb => H2.out.mine.hasLt b hb
    have s23 := H3.out.2.2.1.size
    have s34 := H4.out.bel.size
    have s45 := H5.out.2.2.1.size
    have hA2 : ∀ b, w2.heap.size ≤ b → b < w5.heap.size → ¬ A.has b := fun b h1 h2 e => by
      rcases H6.out.2.1.has b e with e | e
      · have := hD2 b e; omega
      · omega
    have hgb : gb < w3.heap.size := H3.out.1.lt
    have hga : ga < w5.heap.size := H5.out.1.lt
    have hL : L = [] ∨ ∃ g, va = some ⟨g, 0, none⟩ ∧ BlocksAt w6 g L ∧ ComOk 128 (nsB L) (dsB L) ∧ ∀ q ∈ L, ¬ A.has q.g := by
      rcases HL4.out with e | ⟨b, e1, e2, e3⟩
      · exact .inl (List.length_eq_zero_iff.1 (HN.out.trans e))
      · by_cases h0 : L = []
        · exact .inl h0
        · have hq : ∀ q ∈ L, w3.heap.size ≤ q.g ∧ q.g < w4.heap.size := fun q hq => ⟨(H4.out.blk q hq).2, (H4.out.blk q hq).1.lt⟩
          have hb4 : b < w4.heap.size := by
            obtain ⟨q, hq⟩ : ∃ q, L[0]? = some q := by
              cases L with
              | nil => exact absurd rfl h0
              | cons a l => exact ⟨a, rfl⟩
            exact block_lt_of_cell (e2.at_ 0 q hq).1
          refine .inr ⟨b, e1, ?_, H4.out.ok h0, fun q hq' => hA2 _ (by have := (hq q hq').1; omega) (by have := (hq q hq').2; omega)⟩
          have e5 := e2.on H5.out.2.2.1
          refine ⟨fun i q h1 => ?_⟩
          obtain ⟨z1, z2, z3⟩ := e5.at_ i q h1
          have hqm := hq q (List.mem_of_getElem? h1)
          have nb : ¬ D.has b := fun e => by have := hD2 b e; omega
          have nq : ¬ D.has q.g := fun e => by have := hD2 _ e; omega
          exact ⟨H6.out.2.1.fr.cell z1 nb, H6.out.2.1.fr.cell z2 nb, z3.fr H6.out.2.1.fr nq⟩
    have := commit_armed wa w2 w6 D A l t keep H2.out H6.out.2.2 H6.out.1 (HH.out _ H6.out.1.bel).2.2.2.2 va vc L (by rw [HN.out]; exact hn30) hL (by rw [HP.out.2.2]; omega)
    rw [HN.out, hfb, hm, hW, hev] at this
    refine this.mono ?_
    rintro e w' ⟨rfl, E, x1, x2, x3, x4, x5⟩
    have o1 : OwnB w6 gb cb l := ((H3.out.1.on H4.out.bel).on H5.out.2.2.1).fr H6.out.2.1.fr (fun e => by have := hD2 gb e; have := H3.out.2.1; omega)
    have o2 : OwnB w6 ga cga m := by rw [← hm]; exact H5.out.1.fr H6.out.2.1.fr (fun e => by have := hD2 ga e; have := H5.out.2.1; omega)
    exact ⟨rfl, E, x2, ⟨x1, x4, x5, o1.fr x3.fr (hA2 gb H3.out.2.1 (by omega)), o2.fr x3.fr (hA2 ga (by have := H5.out.2.1; omega) hga), H2.out.rest.len, by rw [← hm, fw_length]; exact H2.out.rest.len⟩⟩
  clear hm hW hfb hev
  go_upto_region 12 with (go_at_call 10; refine HCm.out.mono ?_; rintro e w7 ⟨rfl, E, hd, h7⟩; have H7 : Hid (At7 wa w7 E l m W fb gb cb ga cga) := h7; rw [← hd]; clear hd h7)
  clear HCm HL4 H2 H3 H4 H5 H5b H6 HN
  obtain ⟨_, _, d3, d4⟩ := HC.out _ H7.out.mine.bel
  go_cut [15] (fun s wx => s = .bool fb ∧ w7 = wx)
  case first => as_aux_lemma =>
    have hfb := HFb.out
    by_cases z1 : 0 < n
    · by_cases z2 : 1 ≤ t
      · by_cases z3 : t ≤ 2 * (n : Int) + 6
        · have z : fb = true := by rw [← hfb]; unfold fallsB; rw [decide_eq_true z1, decide_eq_true z2, decide_eq_true z3]; rfl
          have HZ : Hid (fb = true) := z
          clear hfb z
          go_wp2
          go_meet
          case rel => exact ⟨by rw [HZ.out], rfl⟩
        · have z : fb = false := by rw [← hfb]; unfold fallsB; rw [decide_eq_false z3, Bool.and_false]
          have HZ : Hid (fb = false) := z
          clear hfb z
          go_wp2
          go_meet
          case rel => exact ⟨by rw [HZ.out], rfl⟩
      · have z : fb = false := by rw [← hfb]; unfold fallsB; rw [decide_eq_false z2, Bool.and_false, Bool.false_and]
        have HZ : Hid (fb = false) := z
        clear hfb z
        go_wp2
        go_meet
        case rel => exact ⟨by rw [HZ.out], rfl⟩
    · have z : fb = false := by rw [← hfb]; unfold fallsB; rw [decide_eq_false z1, Bool.false_and, Bool.false_and]
      have HZ : Hid (fb = false) := z
      clear hfb z
      go_wp2
      go_meet
      case rel => exact ⟨by rw [HZ.out], rfl⟩
  case rest =>
  obtain ⟨rfl, rfl⟩ := hcut
  have HDn : Hid (Calls Tryd.prog 11 #[.pointer (some ⟨E.d, 0, none⟩)] w7 fun e w' => e = .returned (.bool fb) ∧ w7 = w') := by
    have := down_any w7 E H7.out.mine.disk
    rw [H7.out.down] at this
    exact this
  go_upto_region 13 with fail
  go_cut [97] (fun s wx => s = .bool false ∧ w7 = wx)
  case first => as_aux_lemma =>
    have hev := HEv.out
    cases fb with
    | true =>
      have z : (ev == 30) = true := by rw [← hev]; rfl
      have z1 : (ev == 0) = false := by rw [← hev]; rfl
      have z2 : (ev != 0) = true := by rw [← hev]; rfl
      have z3 : (ev != 30) = false := by rw [← hev]; rfl
      clear hev
      go_wp2_with (go_at_call 11; refine HDn.out.mono ?_; rintro e w' ⟨rfl, rfl⟩)
      go_meet
      case rel => exact ⟨by first | rfl | simp, rfl⟩
    | false =>
      have z : (ev == 30) = false := by rw [← hev]; rfl
      have z1 : (ev == 0) = true := by rw [← hev]; rfl
      have z2 : (ev != 0) = false := by rw [← hev]; rfl
      clear hev
      go_wp2_with (go_at_call 11; refine HDn.out.mono ?_; rintro e w' ⟨rfl, rfl⟩)
      go_meet
      case rel => exact ⟨by first | rfl | simp, rfl⟩
  case rest =>
  obtain ⟨rfl, rfl⟩ := hcut
  clear HDn HEv
  go_upto_region 16 with fail
  obtain ⟨bk, hbk⟩ : ∃ bk, backB n t keep = bk := ⟨_, rfl⟩
  have HBk : Hid (backB n t keep = bk) := hbk
  clear hbk
  go_cut [126] (fun s wx => s = .bool bk ∧ w7 = wx)
  case first => as_aux_lemma =>
    have hbk := HBk.out
    unfold backB at hbk
    rw [HFb.out] at hbk
    cases fb with
    | false =>
      have HZ : Hid (bk = false) := by rw [← hbk]; exact Bool.false_and _
      clear hbk
      go_wp2
      go_meet
      case rel => exact ⟨by rw [HZ.out], rfl⟩
    | true =>
      rw [Bool.true_and] at hbk
      by_cases z1 : t < (n : Int) + 2
      · have HZ : Hid (bk = true) := by rw [← hbk, decide_eq_true z1]; rfl
        clear hbk
        go_wp2
        go_meet
        case rel => exact ⟨by rw [HZ.out], rfl⟩
      · rw [decide_eq_false z1, Bool.false_or] at hbk
        by_cases z2 : t < (n : Int) + 4
        · rw [decide_eq_true z2, Bool.true_and] at hbk
          by_cases z3 : kl = 0
          · have hke : keep = [] := List.length_eq_zero_iff.1 (HP.out.2.2.trans z3)
            have HZ : Hid (bk = true) := by rw [← hbk, hke]; rfl
            have z4 : ((kl : Int) == 0) = true := by simp [z3]
            clear hbk z3 hke
            go_wp2
            go_meet
            case rel => exact ⟨by rw [HZ.out], rfl⟩
          · obtain ⟨x, r, hke⟩ : ∃ x r, keep = x :: r := by
              cases keep with
              | nil => exact absurd HP.out.2.2.symm z3
              | cons x r => exact ⟨x, r, rfl⟩
            obtain ⟨b, off, e, hc⟩ : ∃ b off, ka = some ⟨b, off, none⟩ ∧ w7.cell? ⟨b, off, none⟩ = some (.bool x) := by
              have hbo := (HH.out _ H7.out.mine.bel).2.2.1.bools
              simp only at hbo
              obtain ⟨a', c', e', hl⟩ := hbo
              cases e'
              rcases hl with e | ⟨b, off, e, hc⟩
              · rw [hke] at e; cases e
              · exact ⟨b, off, e, by have := hc 0 x (by rw [hke]; rfl); exact this⟩
            have HZ : Hid (bk = !x) := by rw [← hbk, hke]; rfl
            have z4 : ((kl : Int) == 0) = false := by simp [z3]
            have z5 : 0 < kl := by omega
            subst e
            clear hbk hke
            cases x with
            | true =>
              go_wp2
              go_meet
              case rel => exact ⟨by rw [HZ.out]; rfl, rfl⟩
            | false =>
              go_wp2
              go_meet
              case rel => exact ⟨by rw [HZ.out]; rfl, rfl⟩
        · rw [decide_eq_false z2, Bool.false_and] at hbk
          have HZ : Hid (bk = false) := hbk.symm
          clear hbk
          go_wp2
          go_meet
          case rel => exact ⟨by rw [HZ.out], rfl⟩
  case rest =>
  obtain ⟨rfl, rfl⟩ := hcut
  clear d3 d4
  have HWx : Hid (W = if bk = true then l else m) := by show W = _; rw [← HWw.out, wantA, HBk.out]
  go_upto_if 126 with fail
  go_cut [16] (fun s wx => ∃ gw cw, s = .slice (some ⟨gw, 0, none⟩) 65536 cw ∧ OwnB w7 gw cw W ∧ w7 = wx)
  case first => as_aux_lemma =>
    cases bk with
    | true =>
      go_wp2
      go_meet
      case rel => exact ⟨gb, cb, rfl, by rw [HWx.out]; exact H7.out.own1, rfl⟩
    | false =>
      go_wp2
      go_meet
      case rel => exact ⟨ga, cga, rfl, by rw [HWx.out]; exact H7.out.own2, rfl⟩
  case rest =>
  obtain ⟨gw, cw, rfl, how, rfl⟩ := hcut
  have H8 : Hid (Lst wa w7 E W ∧ OwnB w7 gw cw W ∧ W.length = 512 * 128) := ⟨⟨H7.out.mine, H7.out.well⟩, how, by rw [HWx.out]; split; exact H7.out.len1; exact H7.out.len2⟩
  clear how H7 HWx HBk HWw HFb
  go_wp2
  go_loopw [7, 17] (fun s7 s17 wr => ∃ (i : Nat) (X : Dk), i ≤ 6 ∧ i ≤ cn + 1 ∧ s17 = .int .i64 i ∧ s7 = .pointer (some ⟨X.d, 0, none⟩) ∧ Lst wa wr X W ∧ OwnB wr gw cw W) (fun _ s _ => 6 - (intOf s).toNat)
  case atStart => exact ⟨0, E, by omega, by omega, rfl, rfl, H8.out.1, H8.out.2.1⟩
  case round =>
    obtain ⟨i, X, hi6, hicn, rfl, rfl, hX, hO⟩ := hrel
    have HX : Hid (Lst wa wr X W ∧ OwnB wr gw cw W) := ⟨hX, hO⟩
    have HWl : Hid (W.length = 512 * 128) := H8.out.2.2
    clear hX hO H8
    have HXl : Hid (X.las.length = 512 * 128 ∧ X.nb = 128) := ⟨HX.out.1.well.len, by have := HX.out.1.mine.disk.lasl; have := HX.out.1.well.len; omega⟩
    have HIm : Hid (Calls Tryd.prog 6 #[.pointer (some ⟨X.d, 0, none⟩)] wr fun e w' => ∃ g cap, e = .returned (.slice (some ⟨g, 0, none⟩) 65536 cap) ∧ OwnB w' g cap X.las ∧ wr.heap.size ≤ g ∧ Below wr.heap.size wr w') := by
      have := image_any wr X HX.out.1.mine.disk
      rw [HXl.out.2] at this
      refine this.mono ?_
      rintro e w' ⟨g, cap, rfl, hg, ho, hb⟩
      exact ⟨g, cap, rfl, ho, hg, hb⟩
    have HOp : Hid (∀ wx g cap, Below wr.heap.size wr wx → OwnB wx g cap X.las → Calls Tryd.prog 12 #[.slice (some ⟨g, 0, none⟩) 65536 cap] wx fun e w' => ∃ Y, e = .returned (.tuple #[.pointer (some ⟨Y.d, 0, none⟩), .int .i64 0]) ∧ Mine wa w' Y ∧ Fresh Y.abs 128 X.las ∧ (∀ b, Y.has b → wr.heap.size ≤ b) ∧ Below wr.heap.size wr w') := fun wx g cap hb ho => by
      refine (open_fresh wx ⟨g, 0, none⟩ cap 128 X.las ho.bytes HXl.out.1 (by omega) (by omega)).mono ?_
      rintro e w' ⟨Y, rfl, hM, hF⟩
      have hbw : Below wa.heap.size wa wx := HX.out.1.mine.bel.trans (hb.mono HX.out.1.mine.bel.size)
      exact ⟨Y, rfl, hM.far' hbw, hF, fun b hb' => Nat.le_trans hb.size (hM.far b (.inl hb')), hb.trans (hM.bel.mono hb.size)⟩
    have hcc : 65536 ≤ cw ∧ cw ≤ 9223372036854775807 := by
      have h1 := HX.out.2.room
      have h2 := HX.out.2.top
      rw [HWl.out] at h1
      unfold maxLen at h2
      omega
    have HCc : Hid (65536 ≤ cw ∧ cw ≤ 9223372036854775807) := hcc
    clear hcc
    have HSb : Hid (∀ wx g cap l', OwnB wx gw cw W → OwnB wx g cap l' → l'.length = 512 * 128 → Like 128 l' W → Calls Tryd.prog 14 #[.slice (some ⟨g, 0, none⟩) 65536 cap, .slice (some ⟨gw, 0, none⟩) 65536 cw] wx fun e w' => e = .returned (.bool true) ∧ Below wx.heap.size wx w') := fun wx g cap l' how ho h3 hlk => by
      have h1 := ho.room
      have h2 := ho.top
      have hc := HCc.out
      rw [h3] at h1
      unfold maxLen at h2
      exact sameBut_yes wx g gw cap cw 128 l' W ho.bytes how.bytes h3 HWl.out (by omega) (by omega) (by omega) (by omega) (by omega) (by omega) hlk
    by_cases hend : i ≤ cn ∧ i < 6
    · obtain ⟨hic, hi5⟩ := hend
      have HBe : Hid (∀ wx Y, Mine wa wx Y → Fresh Y.abs 128 X.las → Calls Tryd.prog 13 #[.pointer (some ⟨Y.d, 0, none⟩)] wx fun e w' => ∃ g cap, e = .returned (.tuple #[.slice (some ⟨g, 0, none⟩) 65536 cap, .int .i64 0]) ∧ OwnB w' g cap (behind X.las 128) ∧ Below wx.heap.size wx w') := fun wx Y hM hF => by
        have hnb : Y.nb = 128 := hF.size
        have := behind_yes wx Y hM.disk (HH.out _ hM.bel).2.2.2.2 (well_openE HX.out.1.well hF.full hF.down hnb)
        rw [hF.full, hnb] at this
        refine this.mono ?_
        rintro e w' ⟨g, cap, rfl, ho, hg, hb⟩
        exact ⟨g, cap, rfl, ho, hb⟩
      go_upto_region 27 with (first
        | (go_at_call 6; refine HIm.out.mono ?_; rintro e w9 ⟨g9, c9, rfl, ho, hg, hb⟩; have H9 : Hid (OwnB w9 g9 c9 X.las ∧ Below wr.heap.size wr w9) := ⟨ho, hb⟩; clear ho hg hb HIm)
        | (go_at_call 12; refine (HOp.out _ _ _ H9.out.2 H9.out.1).mono ?_; rintro e w10 ⟨Y, rfl, h1, h2, h3, h4⟩; have H10 : Hid (Mine wa w10 Y ∧ Fresh Y.abs 128 X.las ∧ (∀ b, Y.has b → wr.heap.size ≤ b) ∧ Below wr.heap.size wr w10) := ⟨h1, h2, h3, h4⟩; clear h1 h2 h3 h4 HOp)
        | (go_at_call 13; refine (HBe.out _ _ H10.out.1 H10.out.2.1).mono ?_; rintro e w11 ⟨g11, c11, rfl, ho, hb⟩; have H11 : Hid (OwnB w11 g11 c11 (behind X.las 128) ∧ Below w10.heap.size w10 w11) := ⟨ho, hb⟩; clear ho hb HBe)
        | (go_at_call 14; refine (HSb.out _ _ _ _ ((HX.out.2.on H10.out.2.2.2).on H11.out.2) H11.out.1 (by rw [behind_length]; exact HXl.out.1) HX.out.1.well.like).mono ?_; rintro e w12 ⟨rfl, hb⟩; have H12 : Hid (Below w10.heap.size w10 w12) := H11.out.2.trans (hb.mono H11.out.2.size); clear hb HSb))
      have H13 : Hid (Mine wa w12 Y ∧ Fresh Y.abs 128 X.las ∧ ¬ Y.has gw ∧ OwnB w12 gw cw W ∧ Well 128 W X.las) := ⟨H10.out.1.on H12.out, H10.out.2.1, fun e => by have := H10.out.2.2.1 _ e; have := HX.out.2.lt; omega, (HX.out.2.on H10.out.2.2.2).on H12.out, HX.out.1.well⟩
      clear HX H9 H10 H11 H12 HXl HCc HWl
      by_cases hgo : i < cn ∧ i < 5
      · obtain ⟨hic2, hi52⟩ := hgo
        obtain ⟨r, hr⟩ : ∃ r, C[i]? = some r := ⟨C[i]'(by rw [HCn.out]; exact hic2), List.getElem?_eq_getElem _⟩
        obtain ⟨b, off, e, e1, e2, e3⟩ : ∃ b off, ca = some ⟨b, off, none⟩ ∧ w12.cell? ⟨b, off + i * 2, none⟩ = some (.int .i64 r.t) ∧ w12.cell? ⟨b, off + i * 2 + 1, none⟩ = some (.slice r.a r.keep.length r.c) ∧ CrOk w12 r := by
          rcases (HH.out _ H13.out.1.bel).2.2.2.1.at_ with e | ⟨b, off, e, hc⟩
          · rw [e] at hr; simp at hr
          · exact ⟨b, off, e, hc i r hr⟩
        subst e
        have HAr : Hid (Calls Tryd.prog 9 #[.pointer (some ⟨Y.d, 0, none⟩), .agg #[.int .i64 r.t, .slice r.a r.keep.length r.c]] w12 fun e w' => e = .returned (.int .i64 0) ∧ ∃ A, A.d = Y.d ∧ Mine wa w' A ∧ A.abs = Y.abs.arm r.t r.keep ∧ ¬ A.has gw ∧ OwnB w' gw cw W) := by
          refine (arm_yes w12 Y H13.out.1.disk r.t r.a r.c r.keep e3.bools e3.nil (by have := e3.len; omega) e3.hi H13.out.2.1.down).mono ?_
          rintro e w' ⟨rfl, A, x1, x2, x3, x4⟩
          exact ⟨rfl, A, x2.d, H13.out.1.step x1 x2 x3, x4, fun e => (x2.has gw e).elim H13.out.2.2.1 (fun e => by have := H13.out.2.2.2.1.lt; omega), H13.out.2.2.2.1.fr x2.fr H13.out.2.2.1⟩
        have HRc : Hid (∀ wx A, Mine wa wx A → A.abs = Y.abs.arm r.t r.keep → ¬ A.has gw → OwnB wx gw cw W → Calls Tryd.prog 15 #[.pointer (some ⟨A.d, 0, none⟩)] wx fun e w' => ∃ k r : Int, e = .returned (.tuple #[.int .i64 k, .int .i64 r]) ∧ ∃ Z, Z.d = A.d ∧ Lst wa w' Z W ∧ OwnB w' gw cw W ∧ ((r = 0 ∧ Z.down = false) ∨ (r = 30 ∧ Z.down = true))) := fun wx A hM hab hng how => by
          have hF := H13.out.2.1
          have ga : ∀ {β : Type} (f : AD → β), f A.abs = f (Y.abs.arm r.t r.keep) := fun f => congrArg f hab
          have q1 : A.las = X.las := (ga AD.las).trans hF.las
          have q2 : A.nb = 128 := (ga AD.nb).trans hF.size
          refine (recover_armed wa wx A W hM (by rw [q1]; exact H13.out.2.2.2.2) q2 ((ga AD.P).trans hF.pen) ((ga AD.down).trans hF.down) (by rw [ga AD.wr]; show Y.abs.wr ≤ 1000; rw [hF.wr]; omega) (by rw [ga AD.fl]; show Y.abs.fl ≤ 1000; rw [hF.fl]; omega) (by rw [ga AD.T]; show Y.abs.T.length ≤ 1000; rw [hF.tape]; simp) (by rw [ga AD.keep]; show r.keep.length ≤ _; have := e3.len; omega) (HH.out _ hM.bel).2.2.2.2).mono ?_
          rintro e w' ⟨k, r', rfl, Z, y1, y2, y3, y4, y5⟩
          exact ⟨k, r', rfl, Z, y2, ⟨y1, y4⟩, how.fr y3.fr hng, y5⟩
        have hgi : (i : Int) < 5 := by omega
        clear hr e3
        generalize r.t = rt at *
        generalize r.a = ra at *
        generalize r.c = rc at *
        generalize r.keep.length = rl at *
        go_upto_region 31 with (first
          | (go_at_call 9; refine HAr.out.mono ?_; rintro e w13 ⟨rfl, A, hAd, x1, x2, x3, x4⟩; have H14 : Hid (Mine wa w13 A ∧ A.abs = Y.abs.arm rt r.keep ∧ ¬ A.has gw ∧ OwnB w13 gw cw W) := ⟨x1, x2, x3, x4⟩; rw [← hAd]; clear x1 x2 x3 x4 hAd HAr)
          | (go_at_call 15; refine (HRc.out _ _ H14.out.1 H14.out.2.1 H14.out.2.2.1 H14.out.2.2.2).mono ?_; rintro e w14 ⟨kk, rr, rfl, Z, hZd, y1, y2, y3⟩; have H15 : Hid (Lst wa w14 Z W ∧ OwnB w14 gw cw W) := ⟨y1, y2⟩; have HY3 : Hid ((rr = 0 ∧ Z.down = false) ∨ (rr = 30 ∧ Z.down = true)) := y3; rw [← hZd]; clear y1 y2 y3 hZd HRc))
        clear e1 e2 H13 H14
        have HDn : Hid (Calls Tryd.prog 11 #[.pointer (some ⟨Z.d, 0, none⟩)] w14 fun e w' => e = .returned (.bool Z.down) ∧ w14 = w') := down_any w14 Z H15.out.1.mine.disk
        go_cut [199] (fun s wx => s = .bool false ∧ w14 = wx)
        case first => as_aux_lemma =>
          rcases HY3.out with ⟨z1, z2⟩ | ⟨z1, z2⟩
          · rw [z2] at HDn
            have v1 : (rr == 30) = false := by rw [z1]; rfl
            have v2 : (rr != 0) = false := by rw [z1]; rfl
            have v3 : (rr == 0) = true := by rw [z1]; rfl
            clear z1 z2
            go_wp2_with (go_at_call 11; refine HDn.out.mono ?_; rintro e w' ⟨rfl, rfl⟩)
            go_meet
            case rel => exact ⟨by first | rfl | simp, rfl⟩
          · rw [z2] at HDn
            have v1 : (rr == 30) = true := by rw [z1]; rfl
            have v2 : (rr != 0) = true := by rw [z1]; rfl
            have v3 : (rr == 0) = false := by rw [z1]; rfl
            have v4 : (rr != 30) = false := by rw [z1]; rfl
            clear z1 z2
            go_wp2_with (go_at_call 11; refine HDn.out.mono ?_; rintro e w' ⟨rfl, rfl⟩)
            go_meet
            case rel => exact ⟨by first | rfl | simp, rfl⟩
        case rest =>
        obtain ⟨rfl, rfl⟩ := hcut
        go_wp2
        go_round
        case rel => exact ⟨i + 1, Z, by omega, by omega, by go_num, rfl, H15.out⟩
        case measure => simp [intOf]; omega
      · have HY : Hid (Lst wa w12 Y W ∧ OwnB w12 gw cw W) := ⟨⟨H13.out.1, by have e : Y.las = X.las := H13.out.2.1.las; rw [e]; exact H13.out.2.2.2.2⟩, H13.out.2.2.2.1⟩
        clear H13
        by_cases hic2 : i < cn
        · have hi52 : ¬ i < 5 := fun e => hgo ⟨hic2, e⟩
          have hi53 : ¬ (i : Int) < 5 := by omega
          clear hgo
          go_wp2
          go_round
          case rel => exact ⟨i + 1, Y, by omega, by omega, by go_num, rfl, HY.out⟩
          case measure => simp [intOf]; omega
        · clear hgo
          go_wp2
          go_round
          case rel => exact ⟨i + 1, Y, by omega, by omega, by go_num, rfl, HY.out⟩
          case measure => simp [intOf]; omega
    · have HRe : Hid (∀ wx Y, Mine wa wx Y → Fresh Y.abs 128 X.las → (∀ b, Y.has b → wr.heap.size ≤ b) → Below wr.heap.size wr wx → Calls Tryd.prog 15 #[.pointer (some ⟨Y.d, 0, none⟩)] wx fun e w' => ∃ k : Int, e = .returned (.tuple #[.int .i64 k, .int .i64 0]) ∧ ∃ Z, Z.d = Y.d ∧ Ended wa w' Z W ∧ OwnB w' gw cw W) := fun wx Y hM hF hfar hb => by
        refine (recover_ends wa wx Y W X.las hM hF HX.out.1.well (HH.out _ hM.bel).2.2.2.2).mono ?_
        rintro e w' ⟨k, rfl, Z, y1, y2, y3⟩
        exact ⟨k, rfl, Z, y2, y1, (HX.out.2.on hb).fr y3.fr (fun e => by have := hfar _ e; have := HX.out.2.lt; omega)⟩
      have hcase : ¬ (i : Int) ≤ cn ∨ ((i : Int) ≤ cn ∧ ¬ (i : Int) < 6) := by
        by_cases c : i ≤ cn
        · exact .inr ⟨by omega, by intro e; exact hend ⟨c, by omega⟩⟩
        · exact .inl (by omega)
      clear hend
      have HGo : Hid True := trivial
      rcases hcase with c1' | ⟨c1', c2'⟩
      all_goals
        go_upto_region 37 with (first
          | (go_at_call 6; refine HIm.out.mono ?_; rintro e w9 ⟨g9, c9, rfl, ho, hg, hb⟩; have H9 : Hid (OwnB w9 g9 c9 X.las ∧ Below wr.heap.size wr w9) := ⟨ho, hb⟩; clear ho hg hb HIm)
          | (go_at_call 12; refine (HOp.out _ _ _ H9.out.2 H9.out.1).mono ?_; rintro e w10 ⟨Y, rfl, h1, h2, h3, h4⟩; have H10 : Hid (Mine wa w10 Y ∧ Fresh Y.abs 128 X.las ∧ (∀ b, Y.has b → wr.heap.size ≤ b) ∧ Below wr.heap.size wr w10) := ⟨h1, h2, h3, h4⟩; clear h1 h2 h3 h4 HOp)
          | (go_at_call 15; refine (HRe.out _ _ H10.out.1 H10.out.2.1 H10.out.2.2.1 H10.out.2.2.2).mono ?_; rintro e w11 ⟨kk, rfl, Z, hZd, y1, y2⟩; have H11 : Hid (Ended wa w11 Z W ∧ OwnB w11 gw cw W) := ⟨y1, y2⟩; rw [← hZd]; clear y1 y2 hZd HRe))
        clear H9 H10
        obtain ⟨X1, hX1⟩ : ∃ X1, Z.wr = X1 := ⟨_, rfl⟩
        obtain ⟨Y1, hY1⟩ : ∃ Y1, Z.fl = Y1 := ⟨_, rfl⟩
        have HSt : Hid (∀ wx, Below w11.heap.size w11 wx → Calls Tryd.prog 16 #[.pointer (some ⟨Z.d, 0, none⟩)] wx fun e w' => e = .returned (.tuple #[.int .i64 X1, .int .i64 Y1]) ∧ Below w11.heap.size w11 w') := fun wx hb => by
          have := steps_any wx Z (H11.out.1.on hb).mine.disk
          rw [hX1, hY1] at this
          refine this.mono ?_
          rintro e w' ⟨rfl, hb'⟩
          exact ⟨rfl, hb.trans (hb'.mono hb.size)⟩
        have HRn : Hid (∀ wx, Below w11.heap.size w11 wx → Calls Tryd.prog 15 #[.pointer (some ⟨Z.d, 0, none⟩)] wx fun e w' => e = .returned (.tuple #[.int .i64 0, .int .i64 0]) ∧ Below w11.heap.size w11 w') := fun wx hb => by
          have hE := H11.out.1.on hb
          have hnb : Z.nb = 128 := hE.rest.size
          refine (recover_nil wx Z hE.mine.disk (HH.out _ hE.mine.bel).2.2.2.2 (hE.rest.openE (by omega)) (by rw [hE.rest.fullD, hnb]; exact (log_empty (by omega) hE.rest.log).1)).mono ?_
          rintro e w' ⟨rfl, hb'⟩
          exact ⟨rfl, hb.trans (hb'.mono hb.size)⟩
        have HPe : Hid (∀ wx, Below w11.heap.size w11 wx → Calls Tryd.prog 17 #[.pointer (some ⟨Z.d, 0, none⟩)] wx fun e w' => ∃ g c, e = .returned (.slice (some ⟨g, 0, none⟩) 0 c) ∧ Below w11.heap.size w11 w') := fun wx hb => by
          have hp : Z.pen.length = 0 := by rw [← abs_len, H11.out.1.rest.pen]; rfl
          have := pending_any wx Z (H11.out.1.on hb).mine.disk
          rw [hp] at this
          refine this.mono ?_
          rintro e w' ⟨g, c, rfl, hg, ho, hb'⟩
          exact ⟨g, c, rfl, hb.trans (hb'.mono hb.size)⟩
        have HIz : Hid (∀ wx, Below w11.heap.size w11 wx → Calls Tryd.prog 6 #[.pointer (some ⟨Z.d, 0, none⟩)] wx fun e w' => ∃ g cap, e = .returned (.slice (some ⟨g, 0, none⟩) 65536 cap) ∧ OwnB w' g cap Z.las ∧ Below w11.heap.size w11 w') := fun wx hb => by
          have hnb : Z.nb = 128 := H11.out.1.rest.size
          have := image_any wx Z (H11.out.1.on hb).mine.disk
          rw [hnb] at this
          refine this.mono ?_
          rintro e w' ⟨g, cap, rfl, hg, ho, hb'⟩
          exact ⟨g, cap, rfl, ho, hb.trans (hb'.mono hb.size)⟩
        clear hX1 hY1
        have HB0 : Hid (Below w11.heap.size w11 w11) := Below.refl _ _
        go_wp2_with (first
          | (go_at_call 16; have hh := HRn.out; clear hh; refine (HSt.out _ HB0.out).mono ?_; rintro e w12 ⟨rfl, hb⟩; have H12 : Hid (Below w11.heap.size w11 w12) := hb; clear hb HB0)
          | (go_at_call 15; refine (HRn.out _ H12.out).mono ?_; rintro e w13 ⟨rfl, hb⟩; have H13 : Hid (Below w11.heap.size w11 w13) := hb; clear hb HRn)
          | (go_at_call 16; refine (HSt.out _ H13.out).mono ?_; rintro e w14 ⟨rfl, hb⟩; have H14 : Hid (Below w11.heap.size w11 w14) := hb; clear hb HSt)
          | (go_at_call 17; refine (HPe.out _ H14.out).mono ?_; rintro e w15 ⟨g15, c15, rfl, hb⟩; have H15 : Hid (Below w11.heap.size w11 w15) := hb; clear hb HPe)
          | (go_at_call 6; refine (HIz.out _ H15.out).mono ?_; rintro e w16 ⟨g16, c16, rfl, ho, hb⟩; have H16 : Hid (OwnB w16 g16 c16 Z.las ∧ Below w11.heap.size w11 w16) := ⟨ho, hb⟩; clear ho hb HIz)
          | (go_at_call 14; refine (HSb.out _ _ _ _ (H11.out.2.on H16.out.2) H16.out.1 H11.out.1.rest.len H11.out.1.like).mono ?_; rintro e w17 ⟨rfl, hb⟩; have H17 : Hid (Below w11.heap.size w11 w17) := H16.out.2.trans (hb.mono H16.out.2.size); clear hb HSb))
        go_ret
        exact ⟨rfl, HEnd.out _ (H11.out.1.mine.bel.trans (H17.out.mono H11.out.1.mine.bel.size))⟩
end Go.Proofs.YtpheajiepnjhdabDoor
