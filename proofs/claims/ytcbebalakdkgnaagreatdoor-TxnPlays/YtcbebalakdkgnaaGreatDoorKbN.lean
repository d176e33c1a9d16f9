import Derived.Test.YtcbebalakdkgnaaGreatDoorKKbL
import Derived.Test.YtcbebalakdkgnaaGreatDoorKKbD
import Derived.Deep.RegionHeld3
namespace Go.Proofs.YtcbebalakdkgnaaGreatDoor
open Go.RowKit Rec
set_option maxRecDepth 100000 in
set_option maxHeartbeats 16000000 in
theorem holds_any (w : World) (K : Kb) (h : KbI w K) : Calls Tryz.prog 15 #[.pointer (some ⟨K.kb, 0, none⟩)] w fun e w' => e = .returned (.bool true) ∧ Fr K.all w w' := by
  have c1 : w.cell? ⟨K.kb, 1, none⟩ = some K.iv := h.kc 1
  obtain ⟨ia, ic, hiv, hicc, _⟩ := owns_slice h.i.row
  obtain ⟨ba, bc, hbv, hbcc, _⟩ := owns_slice h.b.row
  obtain ⟨kb, hkb⟩ : ∃ kb, K.kb = kb := ⟨_, rfl⟩
  rw [hkb] at c1 ⊢
  rw [hiv] at c1
  obtain ⟨im, him⟩ : ∃ im, K.im = im := ⟨_, rfl⟩
  obtain ⟨bn, hbn⟩ : ∃ bn, K.bn = bn := ⟨_, rfl⟩
  have hm1 := h.im
  have hm3 := h.bn
  rw [him] at c1 hiv hicc hm1
  rw [hbn] at hbv hbcc hm3
  have HK : Hid (KbI w K ∧ K.kb = kb ∧ K.im = im ∧ True ∧ K.bn = bn ∧ K.iv = .slice ia im ic ∧ True ∧ K.bv = .slice ba bn bc) := ⟨h, hkb, him, trivial, hbn, hiv, trivial, hbv⟩
  clear h hkb him hbn hiv hbv
  go_enter Tryz.func15, Tryz.ntmps15
  go_upto_block 0 with (fail)
  clear c1
  go_cut [3, 21, 22, 23, 24, 25, 26, 27, 28, 29, 30, 31, 32, 33, 34, 35, 36, 37, 38, 39, 40] (fun _ _ _ _ _ _ _ _ _ _ _ _ _ _ _ _ _ _ _ _ _ wx => ∃ m, wx = w.drewN m)
  case first =>
    as_aux_lemma =>
    go_wp2
    go_loopw [3, 21, 22, 23, 24, 25, 26, 27, 28, 29, 30, 31, 32, 33, 34, 35, 36, 37, 38, 39, 40] (fun _ i _ _ _ _ _ _ _ _ _ _ _ _ _ _ _ _ _ _ _ wr => ∃ k : Nat, k ≤ im ∧ i = .int .i64 k ∧ ∃ m, wr = w.drewN m) (fun _ i _ _ _ _ _ _ _ _ _ _ _ _ _ _ _ _ _ _ _ _ => im - (intOf i).toNat)
    case atStart => exact ⟨0, Nat.zero_le _, rfl, 0, rfl⟩
    case round =>
      obtain ⟨k, hk, rfl, mw, hmw⟩ := hrel
      have HM : Hid (wr = w.drewN mw) := hmw
      clear hmw
      by_cases hlt : k < im
      · have HB : Below w.heap.size w wr := by rw [HM.out]; exact below_drewN (Below.refl _ _) _
        have hKr := HK.out.1.on HB
        have hki : k < K.im := by rw [HK.out.2.2.1]; exact hlt
        obtain ⟨g, c, g', c', e1, e2, x1, x2⟩ := hKr.rowI (k := k) hki
        have x3 : wr.cell? ⟨kb, 1, none⟩ = some K.iv := by rw [← HK.out.2.1]; exact hKr.kc 1
        have x4 : wr.cell? ⟨kb, 2, none⟩ = some K.tv := by rw [← HK.out.2.1]; exact hKr.kc 2
        rw [e1, HK.out.2.2.1] at x3
        rw [e2, HK.out.2.2.1] at x4
        have HX : Hid (∀ q, Calls Tryz.prog 37 #[K.iV k, K.tV k] (wr.drewN q) fun e w' => e = .returned (.bool true) ∧ ∃ m, w' = (wr.drewN q).drewN m) := fun q => by
          have hkx := hKr.on (below_drewN (Below.refl _ _) q)
          exact sameI_any _ (K.iV k) (K.tV k) _ (K.iX k) (hkx.i.ls k hki) (hkx.t.ls k hki) (by have := hkx.ix k hki; omega)
        have hcc : im ≤ c ∧ im ≤ c' := by
          have r1 := hKr.i.row
          have r2 := hKr.t.row
          rw [e1, HK.out.2.2.1] at r1
          rw [e2, HK.out.2.2.1] at r2
          obtain ⟨_, _, z1, z2, _⟩ := owns_slice r1
          obtain ⟨_, _, z3, z4, _⟩ := owns_slice r2
          cases z1; cases z3; exact ⟨z2, z4⟩
        obtain ⟨pI, hpI⟩ : ∃ pI, K.iV k = pI := ⟨_, rfl⟩
        obtain ⟨pT, hpT⟩ : ∃ pT, K.tV k = pT := ⟨_, rfl⟩
        rw [hpI] at HX x1
        rw [hpT] at HX x2
        clear hKr e1 e2 hpI hpT HB hki
        go_wp2
        go_big_quiet (first | (go_at_call 37; exact Calls.quiet_of (HX.out _)))
        go_wp2
        exact ⟨⟨k + 1, hlt, rfl, _, by rw [HM.out, World.drewN_drewN]⟩, by simp [intOf]; omega⟩
      · go_wp2
        go_meet
        exact ⟨mw, HM.out⟩
  case rest =>
  obtain ⟨m2, hm2c⟩ := hcut
  obtain ⟨w2, hw2⟩ : ∃ w2, wc = w2 := ⟨_, rfl⟩
  rw [hw2] at hm2c
  have HB2 : Hid (Below w.heap.size w w2) := by rw [hm2c]; exact below_drewN (Below.refl _ _) _
  have HK2 : Hid (KbI w2 K) := HK.out.1.on HB2.out
  rw [hw2]
  clear hm2c hw2
  have c0 : w2.cell? ⟨kb, 0, none⟩ = some (.slice ba bn bc) := by rw [← HK.out.2.1, ← HK.out.2.2.2.2.2.2.2]; exact HK2.out.kc 0
  go_upto_block 2 with (fail)
  clear c0
  go_cut [4, 6, 46, 47, 48, 49, 50, 51, 52, 53, 54, 55, 56, 57, 58, 59, 60, 61, 62, 63, 64] (fun s5 _ _ _ _ _ _ _ _ _ _ _ _ _ _ _ _ _ _ _ _ wx => ∃ V, H3 w2 wx K s5 bn V)
  case first =>
    go_wp2
    go_loopw [4, 6, 46, 47, 48, 49, 50, 51, 52, 53, 54, 55, 56, 57, 58, 59, 60, 61, 62, 63, 64] (fun s5 _ i _ _ _ _ _ _ _ _ _ _ _ _ _ _ _ _ _ _ wr => ∃ k : Nat, k ≤ bn ∧ i = .int .i64 k ∧ ∃ V, H3 w2 wr K s5 k V) (fun _ _ i _ _ _ _ _ _ _ _ _ _ _ _ _ _ _ _ _ _ _ => bn - (intOf i).toNat)
    case atStart => exact ⟨0, Nat.zero_le _, rfl, fun _ => .slice none 0 0, H3.zero HK2.out (Below.refl _ _)⟩
    case round =>
      obtain ⟨k, hk, rfl, V, hH⟩ := hrel
      obtain ⟨lv, hlv⟩ : ∃ lv, u4 = lv := ⟨_, rfl⟩
      rw [hlv] at hH ⊢
      have HH : Hid (H3 w2 wr K lv k V) := hH
      clear hH hlv
      by_cases hlt : k < bn
      · have hkb : k < K.bn := by rw [HK.out.2.2.2.2.1]; exact hlt
        obtain ⟨g, cap, e, d0, d1, d2, d3, d4⟩ := HH.out.cells hkb
        have e2 := e.symm.trans HK.out.2.2.2.2.2.2.2
        rw [HK.out.2.2.2.2.1] at e2
        cases e2
        have hold := HH.out.old k (Nat.le_refl _) hkb
        have hxw := HK2.out.bx k hkb
        obtain ⟨n, hn⟩ : ∃ n, (K.bX k).length = n := ⟨_, rfl⟩
        obtain ⟨pV, hpV⟩ : ∃ pV, K.bV k = pV := ⟨_, rfl⟩
        obtain ⟨m, hm⟩ : ∃ m, mk8 k = m := ⟨_, rfl⟩
        obtain ⟨kp, hkp⟩ : ∃ kp, decide (k % 2 = 0) = kp := ⟨_, rfl⟩
        obtain ⟨x, hx⟩ : ∃ x, K.bX k = x := ⟨_, rfl⟩
        rw [hpV] at d0 hold
        rw [hn] at d1 hxw
        rw [hm] at d2
        rw [hkp] at d4
        rw [hx] at d3 hold hxw hn
        have hn1 : n ≤ 10000000 := hxw.1
        obtain ⟨pl, hpl⟩ : ∃ pl, (heC x k).length = pl := ⟨_, rfl⟩
        obtain ⟨pa, pc, hps, _⟩ := owns_slice hold
        rw [hpl] at hps hold
        subst hps
        have HO : Hid (wr.ownsRow 0 5 1 (Value.slice pa pl pc) pl ((heC x k).map (Value.int .u8)) ∧ K.bV k = (Value.slice pa pl pc) ∧ mk8 k = m ∧ decide (k % 2 = 0) = kp ∧ K.bX k = x ∧ x.length = n ∧ (∀ j, 0 ≤ nth x j ∧ nth x j < 256) ∧ k < K.bn) := ⟨hold, hpV, hm, hkp, hx, hn, hxw.2, hkb⟩
        have HPL : Hid ((heC x k).length = pl) := hpl
        clear hpl
        have hp1 : (Value.slice pa pl pc).oneCell' = true := own_one hold
        clear hold hpV hm hkp hx hn hxw e hkb
        obtain ⟨P, hP⟩ : ∃ P, wr.heap.size = P := ⟨_, rfl⟩
        go_upto_region 11 with fail
        obtain ⟨wP, hwP⟩ : ∃ wP, wr.alloc (.cells #[(Value.slice pa pl pc), .int .i64 (n : Int), .int .u8 m, .string (strOfNums x), .bool kp] 86) = wP := ⟨_, rfl⟩
        have HP : Hid (Below wr.heap.size wr wP ∧ wP.heap[P]? = some (.cells #[(Value.slice pa pl pc), .int .i64 (n : Int), .int .u8 m, .string (strOfNums x), .bool kp] 86 (0, 0))) := by
          rw [← hwP, ← hP]; exact ⟨(Below.refl _ _).alloc (Nat.le_refl _) _, heap_alloc_new _ _⟩
        try rw [hP]
        rw [hwP]
        clear hwP d0 d1 d2 d3 d4
        have HG : Hid (∀ b, (Value.slice pa pl pc).ownBlock = some b → b < P) := fun b e => by rw [← hP]; exact owns_block HO.out.1 e
        have p0 : wP.cell? ⟨P, 0, none⟩ = some (Value.slice pa pl pc) := cell_of_row _ _ 0 _ _ _ HP.out.2
        have p1 : wP.cell? ⟨P, 1, none⟩ = some (.int .i64 (n : Int)) := cell_of_row _ _ 1 _ _ _ HP.out.2
        have p2 : wP.cell? ⟨P, 2, none⟩ = some (.int .u8 m) := cell_of_row _ _ 2 _ _ _ HP.out.2
        have p3 : wP.cell? ⟨P, 3, none⟩ = some (.string (strOfNums x)) := cell_of_row _ _ 3 _ _ _ HP.out.2
        have p4 : wP.cell? ⟨P, 4, none⟩ = some (.bool kp) := cell_of_row _ _ 4 _ _ _ HP.out.2
        go_upto_if 51 with fail
        go_cut [52, 53, 54, 55, 56, 57, 58, 59] (fun _ _ _ _ _ _ _ _ wz => ∃ u, Ah5 wr wz (Value.slice pa pl pc) P u x n m kp)
        case first =>
          cases kp
          · go_wp2
            go_meet
            refine ⟨(Value.slice pa pl pc), HP.out.2, below_fr HP.out.1 _, ?_, fun b e => .inl e, hp1⟩
            have hc : heC x k = List.replicate (n + 3) m := by unfold heC; rw [if_neg (of_decide_eq_false HO.out.2.2.2.1), HO.out.2.2.2.2.2.1, HO.out.2.2.1]
            have ho := HO.out.1
            have hl := HPL.out
            rw [hc, List.length_replicate] at hl
            rw [hc, ← hl] at ho
            rw [← hl]
            exact owns_fr ho (below_fr HP.out.1 (fun _ => False)) (fun _ _ e => e)
          · have ho := HO.out.1
            have hc : heC x k = x := by unfold heC; rw [if_pos (of_decide_eq_true HO.out.2.2.2.1)]
            have hl := HPL.out
            rw [hc, HO.out.2.2.2.2.2.1] at hl
            subst hl
            rw [hc] at ho
            have hoP := owns_fr ho (below_fr HP.out.1 (fun _ => False)) (fun _ _ e => e)
            have hcv := str_own hoP HO.out.2.2.2.2.2.2.1 (by omega)
            have HOP : Hid (wP.ownsRow 0 5 1 (Value.slice pa n pc) n (x.map (Value.int .u8))) := hoP
            clear ho hoP hc
            go_upto_region 14 with fail
            clear hcv
            go_wp2_with (go_at_call 41; refine (grown_any wP (Value.slice pa n pc) n x m (strOfNums x) true HOP.out (by omega)).mono ?_; rintro e w5 ⟨g5, cap5, rfl, h1, h2, h3⟩
                         have z5 := h3.heap HP.out.2 (fun e => absurd (HG.out _ e) (Nat.lt_irrefl _))
                         have H5 : Hid (w5.heap[P]? = some (.cells #[(Value.slice pa n pc), .int .i64 (n : Int), .int .u8 m, .string (strOfNums x), .bool true] 86 (0, 0)) ∧ w5.ownsRow 0 5 1 (.slice (some ⟨g5, 0, none⟩) (n + 3) cap5) (n + 3) ((List.replicate (n + 3) m).map (Value.int .u8)) ∧ ((Value.slice pa n pc).ownBlock = some g5 ∨ wP.heap.size ≤ g5) ∧ Fr (fun k => (Value.slice pa n pc).ownBlock = some k) wP w5) := ⟨z5, h1, h2, h3⟩
                         clear h1 h2 h3 p0 p1 p2 p3 p4
                         have p0 : w5.cell? ⟨P, 0, none⟩ = some (Value.slice pa n pc) := cell_of_row _ _ 0 _ _ _ z5
                         have p1 : w5.cell? ⟨P, 1, none⟩ = some (.int .i64 (n : Int)) := cell_of_row _ _ 1 _ _ _ z5
                         have p2 : w5.cell? ⟨P, 2, none⟩ = some (.int .u8 m) := cell_of_row _ _ 2 _ _ _ z5
                         have p3 : w5.cell? ⟨P, 3, none⟩ = some (.string (strOfNums x)) := cell_of_row _ _ 3 _ _ _ z5
                         have p4 : w5.cell? ⟨P, 4, none⟩ = some (.bool true) := cell_of_row _ _ 4 _ _ _ z5
                         have q0 := frozen_of_row w5 P 0 _ _ z5
                         have q1 := frozen_of_row w5 P 1 _ _ z5
                         have q2 := frozen_of_row w5 P 2 _ _ z5
                         have q3 := frozen_of_row w5 P 3 _ _ z5
                         have q4 := frozen_of_row w5 P 4 _ _ z5
                         clear z5)
            go_meet
            exact ⟨_, ah5 hP.symm HP.out.1 H5.out.1 HG.out (heap_lt HP.out.2) H5.out.2.1 H5.out.2.2.1 H5.out.2.2.2⟩
        case rest =>
        obtain ⟨u, hA⟩ := hcut
        obtain ⟨wz, hwz⟩ : ∃ wz, wc = wz := ⟨_, rfl⟩
        rw [hwz] at hA ⊢
        clear hwz p0 p1 p2 p3 p4 HP
        have HA : Hid (Ah5 wr wz (Value.slice pa pl pc) P u x n m kp) := hA
        clear hA
        have p0 : wz.cell? ⟨P, 0, none⟩ = some u := cell_of_row _ _ 0 _ _ _ HA.out.z
        have p1 : wz.cell? ⟨P, 1, none⟩ = some (.int .i64 (n : Int)) := cell_of_row _ _ 1 _ _ _ HA.out.z
        have p2 : wz.cell? ⟨P, 2, none⟩ = some (.int .u8 m) := cell_of_row _ _ 2 _ _ _ HA.out.z
        have p3 : wz.cell? ⟨P, 3, none⟩ = some (.string (strOfNums x)) := cell_of_row _ _ 3 _ _ _ HA.out.z
        have p4 : wz.cell? ⟨P, 4, none⟩ = some (.bool kp) := cell_of_row _ _ 4 _ _ _ HA.out.z
        obtain ⟨i1, j1, j2, j3, j4⟩ := info_parts infoHe
        have ha : Below wz.heap.size wz (wz.alloc (.cells #[u, .int .i64 (n : Int), .int .u8 m, .string (strOfNums x), .bool kp] 86)) := (Below.refl _ _).alloc (Nat.le_refl _) _
        have HRow : Hid (wz.ownsRow 0 86 5 lv k ((List.range k).flatMap (fun j => heR (V j) (K.bX j) j))) := owns_fr HH.out.nl.row HA.out.fr (fun b e e2 => own_two HH.out.nl.row HO.out.1 (by decide) e e2)
        go_upto_region 16 with (at_builtin; refine wp_own rfl (.tmp 60) (.tmp 62) 38 rfl 86 i1 _ 5 64 Tryz.underlying38 j1 j2 j3 j4 rfl (by decide) lv k ((List.range k).flatMap (fun j => heR (V j) (K.bX j) j)) rfl (owns_fr HRow.out (below_fr ha (fun _ => False)) (fun _ _ e => e)) ⟨wz.heap.size, 0, none⟩ 1 1 [u, .int .i64 (n : Int), .int .u8 m, .string (strOfNums x), .bool kp] rfl (by decide) rfl (news_of (heap_alloc_new wz _) _ rfl) (by intro y hy; simp at hy; rcases hy with rfl | rfl | rfl | rfl | rfl <;> first | exact HA.out.one | rfl) (by unfold maxLen; omega) (by omega) ?_
                                intro b bc2 w4 h1 h2 h3
                                go_frame
                                have H9 : Hid (H3 w2 w4 K (.slice (some ⟨b, 0, none⟩) (k + 1) bc2) (k + 1) (up V k u)) := ah6x HK2.out HH.out HO.out HA.out ha h1 h2 h3
                                clear h1 h2 h3)
        clear p0 p1 p2 p3 p4
        go_wp2
        exact ⟨⟨k + 1, hlt, rfl, _, H9.out⟩, by simp [intOf]; omega⟩
      · have hkn : k = bn := by omega
        subst hkn
        go_wp2
        go_meet
        exact ⟨V, HH.out⟩
  case rest =>
  obtain ⟨V3, h3⟩ := hcut
  obtain ⟨lv, hlv⟩ : ∃ lv, u4 = lv := ⟨_, rfl⟩
  obtain ⟨w3, hw3⟩ : ∃ w3, wc = w3 := ⟨_, rfl⟩
  rw [hw3, hlv] at h3
  rw [hw3, hlv]
  have HH3 : Hid (H3 w2 w3 K lv bn V3) := h3
  clear h3 hw3 hlv
  have HI3 : Hid (LV 70 1 3 1 w3 K.iv K.im (fun i => [K.iV i]) K.iV (fun i => (K.iX i).length) (fun i => (K.iX i).map (Value.int .i64)) ∧ True ∧ w3.heap[kb]? = some (.cells K.cells 41 (0, 0))) := by
    rw [← HK.out.2.1]; exact ⟨(HH3.out.rest HK2.out).1, trivial, (HH3.out.rest HK2.out).2⟩
  have c1 : w3.cell? ⟨kb, 1, none⟩ = some (.slice ia im ic) := by rw [← HK.out.2.2.2.2.2.1]; exact cell_of_row _ _ 1 _ _ _ HI3.out.2.2
  go_upto_block 4 with (fail)
  clear c1
  go_cut [7, 8, 70, 71, 72, 73, 74, 75, 76, 77, 78, 79, 80, 81, 82, 83, 84, 85, 86, 87, 88, 89, 90, 91, 92, 93, 94, 95, 96, 97, 98, 99, 100, 101, 102, 103, 104, 105, 106, 107, 108, 109, 110, 111, 112, 113] (fun _ _ _ _ _ _ _ _ _ _ _ _ _ _ _ _ _ _ _ _ _ _ _ _ _ _ _ _ _ _ _ _ _ _ _ _ _ _ _ _ _ _ _ _ _ _ wx => ∃ V, HI4 w3 wx K im V)
  case first =>
    go_wp2
    go_loopw [7, 8, 70, 71, 72, 73, 74, 75, 76, 77, 78, 79, 80, 81, 82, 83, 84, 85, 86, 87, 88, 89, 90, 91, 92, 93, 94, 95, 96, 97, 98, 99, 100, 101, 102, 103, 104, 105, 106, 107, 108, 109, 110, 111, 112, 113] (fun _ _ i _ _ _ _ _ _ _ _ _ _ _ _ _ _ _ _ _ _ _ _ _ _ _ _ _ _ _ _ _ _ _ _ _ _ _ _ _ _ _ _ _ _ _ wr => ∃ k : Nat, k ≤ im ∧ i = .int .i64 k ∧ ∃ V, HI4 w3 wr K k V) (fun _ _ i _ _ _ _ _ _ _ _ _ _ _ _ _ _ _ _ _ _ _ _ _ _ _ _ _ _ _ _ _ _ _ _ _ _ _ _ _ _ _ _ _ _ _ _ => im - (intOf i).toNat)
    case atStart => exact ⟨0, Nat.zero_le _, rfl, _, H4.zero HI3.out.1⟩
    case round =>
      obtain ⟨k, hk, rfl, V, hH⟩ := hrel
      obtain ⟨wo, hwo⟩ : ∃ wo, wr = wo := ⟨_, rfl⟩
      rw [hwo] at hH ⊢
      clear hwo
      have HH : Hid (HI4 w3 wo K k V) := hH
      clear hH
      by_cases hlt : k < im
      · have hki : k < K.im := by rw [HK.out.2.2.1]; exact hlt
        obtain ⟨g, pa, n, pc, x, m, ic', hiv, hq⟩ := HI4.open HK2.out HI3.out.1 HH.out HI3.out.2.2 hki
        have hiv2 := hiv
        rw [HK.out.2.2.2.2.2.1, HK.out.2.2.1] at hiv2
        cases hiv2
        have HIV : Hid (K.iv = .slice (some ⟨g, 0, none⟩) K.im ic ∧ k < K.im) := ⟨hiv, hki⟩
        clear hiv hki
        have HQ : Hid (IqS w3 wo K k g im ic kb pa n pc x m) := by
          have e := hq
          rw [HK.out.2.2.1] at e
          exact e
        clear hq
        have hn1 := HQ.out.nl
        have d1 := HQ.out.kc
        have d2 := HQ.out.gc
        have hm : (-1000 : Int) - (k : Int) = m := HQ.out.me
        go_upto_block 6 with (fail)
        go_cut [8, 81, 82, 83, 84, 85, 86, 87, 88, 89, 90, 91, 92, 93, 94, 95] (fun _ _ _ _ _ _ _ _ _ _ _ _ _ _ _ _ wx => IqL wo wx pa n pc ((List.replicate n m).map (Value.int .i64)))
        case first =>
          go_wp2
          go_loopw [8, 81, 82, 83, 84, 85, 86, 87, 88, 89, 90, 91, 92, 93, 94, 95] (fun _ i _ _ _ _ _ _ _ _ _ _ _ _ _ _ wy => ∃ r : Nat, r ≤ n ∧ i = .int .i64 r ∧ IqL wo wy pa n pc ((mks r m x).map (Value.int .i64))) (fun _ i _ _ _ _ _ _ _ _ _ _ _ _ _ _ _ => n - (intOf i).toNat)
          case atStart => exact ⟨0, Nat.zero_le _, rfl, HQ.out.zero⟩
          case round =>
            obtain ⟨r, hr, rfl, hL⟩ := hrel
            obtain ⟨wy, hwy⟩ : ∃ wy, wr = wy := ⟨_, rfl⟩
            rw [hwy] at hL ⊢
            have HL : Hid (IqL wo wy pa n pc ((mks r m x).map (Value.int .i64))) := hL
            clear hL d1 d2
            by_cases hlr : r < n
            · obtain ⟨p, rfl⟩ := HQ.out.pf.resolve_left (by omega)
              obtain ⟨d1, d2, _⟩ := HQ.out.keep HL.out
              obtain ⟨z, dz⟩ := HL.out.cell hlr
              have fz := HL.out.own.frozenAt r
              have HN : Hid (IqL wo (wy.setCell ⟨p, r, none⟩ (.int .i64 m)) (some ⟨p, 0, none⟩) n pc ((mks (r + 1) m x).map (Value.int .i64))) := HL.out.next hlr HQ.out.xl.1
              go_wp2
              exact ⟨⟨r + 1, hlr, rfl, HN.out⟩, by simp [intOf]; omega⟩
            · have hrn : r = n := by omega
              subst hrn
              go_wp2
              go_meet
              exact HL.out.full HQ.out.xl.1
        case rest =>
        obtain ⟨wy, hwy⟩ : ∃ wy, wc = wy := ⟨_, rfl⟩
        rw [hwy] at hcut ⊢
        have HL : Hid (IqL wo wy pa n pc ((List.replicate n m).map (Value.int .i64))) := hcut
        clear hcut hwy d1 d2
        obtain ⟨d1, d2, _⟩ := HQ.out.keep HL.out
        obtain ⟨i1, j1, j2, j3, j4⟩ := info_parts infoI64
        have HA1 : Hid (∀ o, Below wy.heap.size wy (wy.drew.alloc o)) := fun o => (Below.refl wy.heap.size wy).drew.alloc (Nat.le_refl _) o
        have HA2 : Hid (∀ o, Below wy.heap.size wy (wy.alloc o).drew) := fun o => ((Below.refl wy.heap.size wy).alloc (Nat.le_refl _) o).drew
        have HA3 : Hid (∀ o, Below wy.heap.size wy (wy.drew.alloc o).drew) := fun o => (HA1.out o).drew
        have HA0 : Hid (∀ o, Below wy.heap.size wy (wy.alloc o)) := fun o => ((Below.refl wy.heap.size wy).alloc (Nat.le_refl _) o)
        have hkA : ∀ o, S1h kb (.slice (some ⟨g, 0, none⟩) im ic) (wy.drew.alloc o) := fun o => (fr_alloc (fun _ => False) wy.drew o).cell d1 (fun e => e)
        have d2b : ∀ o, (wy.drew.alloc o).cell? ⟨g, k, none⟩ = some (.slice pa n pc) := fun o => (fr_alloc (fun _ => False) wy.drew o).cell d2 (fun e => e)
        have d1a : (wy.alloc (.cells #[.int .i64 m] 3)).cell? ⟨kb, 1, none⟩ = some (.slice (some ⟨g, 0, none⟩) im ic) := (fr_alloc (fun _ => False) wy _).cell d1 (fun e => e)
        have d2a : (wy.alloc (.cells #[.int .i64 m] 3)).cell? ⟨g, k, none⟩ = some (.slice pa n pc) := (fr_alloc (fun _ => False) wy _).cell d2 (fun e => e)
        go_upto_region 25 with fail
        refine wp_region_held_drew (S := S1h kb (.slice (some ⟨g, 0, none⟩) im ic)) (by as_aux_lemma => kernel_rfl) ?_ (fun hHeld => ?_)
        · first | exact d1 | exact d1a | exact hkA _ | exact e3 | exact e4
        have h18 : Array.replicate 18 false = #[false, false, false, false, false, false, false, false, false, false, false, false, false, false, false, false, false, false] := rfl
        simp only [List.size_toArray, List.length_cons, List.length_nil, Nat.reduceAdd, h18]
        refine tkH (i := 0) (v := (.pointer (some ⟨kb, 0, none⟩))) 96 rfl rfl (by as_aux_lemma => kernel_rfl) (by as_aux_lemma => kernel_rfl) (by as_aux_lemma => kernel_rfl) (fun _ _ _ h => h) (Or.inl ⟨by rfl, fun w hSw => ex_move (x := .tmp 0) rfl rfl⟩) (by assumption) ?_
        go_frame
        refine tkH (i := 1) (v := (.pointer (some ⟨kb, 0, none⟩))) 97 rfl rfl (by as_aux_lemma => kernel_rfl) (by as_aux_lemma => kernel_rfl) (by as_aux_lemma => kernel_rfl) (fun _ _ _ h => h) (Or.inl ⟨by rfl, fun w hSw => ex_nil (x := .tmp 96) rfl rfl⟩) (by assumption) ?_
        go_frame
        refine tkH (i := 2) (v := (.pointer (some ⟨kb, 1, none⟩))) 98 rfl rfl (by as_aux_lemma => kernel_rfl) (by as_aux_lemma => kernel_rfl) (by as_aux_lemma => kernel_rfl) (fun _ _ _ h => h) (Or.inl ⟨by rfl, fun w hSw => ex_field1 (x := .tmp 97) rfl rfl⟩) (by assumption) ?_
        go_frame
        refine tkH (i := 3) (v := (.slice (some ⟨g, 0, none⟩) im ic)) 99 rfl rfl (by as_aux_lemma => kernel_rfl) (by as_aux_lemma => kernel_rfl) (by as_aux_lemma => kernel_rfl) (fun _ _ _ h => h) (Or.inl ⟨by rfl, fun w hSw => ex_load1 (x := .tmp 98) rfl rfl hSw⟩) (by assumption) ?_
        go_frame
        refine tkH (i := 4) (v := (.int .i64 (k : Int))) 100 rfl rfl (by as_aux_lemma => kernel_rfl) (by as_aux_lemma => kernel_rfl) (by as_aux_lemma => kernel_rfl) (fun _ _ _ h => h) (Or.inl ⟨by rfl, fun w hSw => ex_move (x := .tmp 7) rfl rfl⟩) (by assumption) ?_
        go_frame
        refine tkH (i := 5) (v := (.pointer (some ⟨kb, 0, none⟩))) 101 rfl rfl (by as_aux_lemma => kernel_rfl) (by as_aux_lemma => kernel_rfl) (by as_aux_lemma => kernel_rfl) (fun _ _ _ h => h) (Or.inl ⟨by rfl, fun w hSw => ex_move (x := .tmp 0) rfl rfl⟩) (by assumption) ?_
        go_frame
        refine tkH (i := 6) (v := (.pointer (some ⟨kb, 0, none⟩))) 102 rfl rfl (by as_aux_lemma => kernel_rfl) (by as_aux_lemma => kernel_rfl) (by as_aux_lemma => kernel_rfl) (fun _ _ _ h => h) (Or.inl ⟨by rfl, fun w hSw => ex_nil (x := .tmp 101) rfl rfl⟩) (by assumption) ?_
        go_frame
        refine tkH (i := 7) (v := (.pointer (some ⟨kb, 1, none⟩))) 103 rfl rfl (by as_aux_lemma => kernel_rfl) (by as_aux_lemma => kernel_rfl) (by as_aux_lemma => kernel_rfl) (fun _ _ _ h => h) (Or.inl ⟨by rfl, fun w hSw => ex_field1 (x := .tmp 102) rfl rfl⟩) (by assumption) ?_
        go_frame
        refine tkH (i := 8) (v := (.slice (some ⟨g, 0, none⟩) im ic)) 104 rfl rfl (by as_aux_lemma => kernel_rfl) (by as_aux_lemma => kernel_rfl) (by as_aux_lemma => kernel_rfl) (fun _ _ _ h => h) (Or.inl ⟨by rfl, fun w hSw => ex_load1 (x := .tmp 103) rfl rfl hSw⟩) (by assumption) ?_
        go_frame
        refine tkH (i := 9) (v := (.int .i64 (k : Int))) 105 rfl rfl (by as_aux_lemma => kernel_rfl) (by as_aux_lemma => kernel_rfl) (by as_aux_lemma => kernel_rfl) (fun _ _ _ h => h) (Or.inl ⟨by rfl, fun w hSw => ex_move (x := .tmp 7) rfl rfl⟩) (by assumption) ?_
        go_frame
        refine tkH (i := 10) (v := (.pointer (some ⟨g, k, none⟩))) 106 rfl rfl (by as_aux_lemma => kernel_rfl) (by as_aux_lemma => kernel_rfl) (by as_aux_lemma => kernel_rfl) (fun _ _ _ h => h) (Or.inl ⟨by rfl, fun w hSw => ex_index1 (x := .tmp 104) (y := .tmp 105) rfl rfl rfl hlt⟩) (by assumption) ?_
        go_frame
        refine tkH (i := 12) (v := (.int .i64 (k : Int))) 108 rfl rfl (by as_aux_lemma => kernel_rfl) (by as_aux_lemma => kernel_rfl) (by as_aux_lemma => kernel_rfl) (fun _ _ _ h => h) (Or.inl ⟨by rfl, fun w hSw => ex_move (x := .tmp 7) rfl rfl⟩) (by assumption) ?_
        go_frame
        refine tkH (i := 13) (v := (.int .i64 m)) 109 rfl rfl (by as_aux_lemma => kernel_rfl) (by as_aux_lemma => kernel_rfl) (by as_aux_lemma => kernel_rfl) (fun _ _ _ h => h) (Or.inl ⟨by rfl, fun w hSw => ex_sub (y := .tmp 108) rfl rfl rfl (by omega) hm⟩) (by assumption) ?_
        go_frame
        refine wpAnyH_ready (rs := [11, 14]) (by as_aux_lemma => kernel_rfl) (by simp) ?_
        refine AllReadyH.cons rfl (fun KK hK => ?_) ?_
        · refine stw_load (x := .tmp 106) rfl rfl (by first | exact d2 | exact d2b _) 107 rfl ?_
          refine hK.out _ _ ?_ (fun hHeld => ?_)
          · first | exact d1 | exact d1a | exact hkA _ | exact e3 | exact e4
          clear hK KK
          try go_frame
          refine wpAnyH_ready (rs := [14]) (by as_aux_lemma => kernel_rfl) (by simp) ?_
          refine AllReadyH.cons rfl (fun KK hK => ?_) ?_
          · refine stw_build (x := .tmp 109) rfl rfl 110 rfl ?_
            refine hK.out _ _ ?_ (fun hHeld => ?_)
            · first | exact d1 | exact d1a | exact hkA _ | exact e3 | exact e4
            clear hK KK
            try go_frame
            refine wpAnyH_ready (rs := [15]) (by as_aux_lemma => kernel_rfl) (by simp) ?_
            refine AllReadyH.cons rfl (fun KK hK => ?_) ?_
            · (refine stepw_own (.tmp 107) (.tmp 110) 70 rfl 3 i1 _ 1 8 Tryz.underlying70 j1 j2 j3 j4 rfl (by decide) (.slice pa n pc) n ((List.replicate n m).map (Value.int .i64)) rfl (owns_fr HL.out.own (below_fr (by with_reducible first | exact HA1.out _ | exact HA0.out _ | exact HA3.out _) (fun _ => False)) (fun _ _ e => e)) wy.heap.size rfl [.int .i64 m] rfl (heap_alloc_new wy.drew _) (by intro u hu; simp at hu; subst hu; rfl) (by unfold maxLen; omega) (by omega) 111 rfl ?_; intro b bc2 w4 h1 h2 h3; have H4' := (by with_reducible first | exact hi4d HH.out HIV.out HQ.out HK.out.2.2.1 HL.out (HA1.out _) h1 h2 h3 | exact hi4d HH.out HIV.out HQ.out HK.out.2.2.1 HL.out (HA0.out _) h1 h2 h3 : Hi4 w3 w4 K k g b bc2 pa n pc im ic kb V); have e1 := H4'.c; have e2 := H4'.f; have e3 := H4'.kc; have e4 := H4'.kd; have HZ : Hid (HI4 w3 (w4.setCell ⟨g, k, none⟩ (.slice (some ⟨b, 0, none⟩) (n + 1) bc2)) K (k + 1) (up V k (.slice (some ⟨b, 0, none⟩) (n + 1) bc2))) := H4'.h; clear h1 h2 h3 H4')
              refine hK.out _ _ ?_ (fun hHeld => ?_)
              · first | exact d1 | exact d1a | exact hkA _ | exact e3 | exact e4
              clear hK KK
              try go_frame
              refine tkH (i := 16) (v := (.pointer (some ⟨g, k, none⟩))) 112 rfl rfl (by as_aux_lemma => kernel_rfl) (by as_aux_lemma => kernel_rfl) (by as_aux_lemma => kernel_rfl) (fun _ _ _ h => h) (Or.inl ⟨by rfl, fun w hSw => ex_index1 (x := .tmp 99) (y := .tmp 100) rfl rfl rfl hlt⟩) (by assumption) ?_
              go_frame
              refine wpAnyH_ready (rs := [17]) (by as_aux_lemma => kernel_rfl) (by simp) ?_
              refine AllReadyH.cons rfl (fun KK hK => ?_) ?_
              · refine stw_store (x := .tmp 112) (y := .tmp 111) rfl rfl rfl e1 e2 rfl ?_
                refine hK.out _ _ ?_ (fun hHeld => ?_)
                · first | exact d1 | exact d1a | exact hkA _ | exact e3 | exact e4
                clear hK KK
                try go_frame
                refine wpAnyH_done (by kernel_rfl) ?_ _
                go_wp2
                exact ⟨⟨k + 1, hlt, rfl, _, HZ.out⟩, by simp [intOf]; omega⟩
              exact AllReadyH.nil
            exact AllReadyH.nil
          exact AllReadyH.nil
        refine AllReadyH.cons rfl (fun KK hK => ?_) ?_
        · refine stw_build (x := .tmp 109) rfl rfl 110 rfl ?_
          refine hK.out _ _ ?_ (fun hHeld => ?_)
          · first | exact d1 | exact d1a | exact hkA _ | exact e3 | exact e4
          clear hK KK
          try go_frame
          refine wpAnyH_ready (rs := [11]) (by as_aux_lemma => kernel_rfl) (by simp) ?_
          refine AllReadyH.cons rfl (fun KK hK => ?_) ?_
          · refine stw_load (x := .tmp 106) rfl rfl (by first | exact d2 | exact d2b _) 107 rfl ?_
            refine hK.out _ _ ?_ (fun hHeld => ?_)
            · first | exact d1 | exact d1a | exact hkA _ | exact e3 | exact e4
            clear hK KK
            try go_frame
            refine wpAnyH_ready (rs := [15]) (by as_aux_lemma => kernel_rfl) (by simp) ?_
            refine AllReadyH.cons rfl (fun KK hK => ?_) ?_
            · (refine stepw_own (.tmp 107) (.tmp 110) 70 rfl 3 i1 _ 1 8 Tryz.underlying70 j1 j2 j3 j4 rfl (by decide) (.slice pa n pc) n ((List.replicate n m).map (Value.int .i64)) rfl (owns_fr HL.out.own (below_fr (by with_reducible first | exact HA1.out _ | exact HA0.out _ | exact HA3.out _) (fun _ => False)) (fun _ _ e => e)) wy.heap.size rfl [.int .i64 m] rfl (heap_alloc_new wy.drew _) (by intro u hu; simp at hu; subst hu; rfl) (by unfold maxLen; omega) (by omega) 111 rfl ?_; intro b bc2 w4 h1 h2 h3; have H4' := (by with_reducible first | exact hi4d HH.out HIV.out HQ.out HK.out.2.2.1 HL.out (HA1.out _) h1 h2 h3 | exact hi4d HH.out HIV.out HQ.out HK.out.2.2.1 HL.out (HA0.out _) h1 h2 h3 : Hi4 w3 w4 K k g b bc2 pa n pc im ic kb V); have e1 := H4'.c; have e2 := H4'.f; have e3 := H4'.kc; have e4 := H4'.kd; have HZ : Hid (HI4 w3 (w4.setCell ⟨g, k, none⟩ (.slice (some ⟨b, 0, none⟩) (n + 1) bc2)) K (k + 1) (up V k (.slice (some ⟨b, 0, none⟩) (n + 1) bc2))) := H4'.h; clear h1 h2 h3 H4')
              refine hK.out _ _ ?_ (fun hHeld => ?_)
              · first | exact d1 | exact d1a | exact hkA _ | exact e3 | exact e4
              clear hK KK
              try go_frame
              refine tkH (i := 16) (v := (.pointer (some ⟨g, k, none⟩))) 112 rfl rfl (by as_aux_lemma => kernel_rfl) (by as_aux_lemma => kernel_rfl) (by as_aux_lemma => kernel_rfl) (fun _ _ _ h => h) (Or.inl ⟨by rfl, fun w hSw => ex_index1 (x := .tmp 99) (y := .tmp 100) rfl rfl rfl hlt⟩) (by assumption) ?_
              go_frame
              refine wpAnyH_ready (rs := [17]) (by as_aux_lemma => kernel_rfl) (by simp) ?_
              refine AllReadyH.cons rfl (fun KK hK => ?_) ?_
              · refine stw_store (x := .tmp 112) (y := .tmp 111) rfl rfl rfl e1 e2 rfl ?_
                refine hK.out _ _ ?_ (fun hHeld => ?_)
                · first | exact d1 | exact d1a | exact hkA _ | exact e3 | exact e4
                clear hK KK
                try go_frame
                refine wpAnyH_done (by kernel_rfl) ?_ _
                go_wp2
                exact ⟨⟨k + 1, hlt, rfl, _, HZ.out⟩, by simp [intOf]; omega⟩
              exact AllReadyH.nil
            exact AllReadyH.nil
          exact AllReadyH.nil
        exact AllReadyH.nil
      · have hkn : k = im := by omega
        subst hkn
        go_wp2
        go_meet
        exact ⟨V, HH.out⟩
  case rest =>
  obtain ⟨V4, h4⟩ := hcut
  obtain ⟨w6, hw6⟩ : ∃ w6, wc = w6 := ⟨_, rfl⟩
  rw [hw6] at h4 ⊢
  obtain ⟨hF, hFr⟩ := HF.of HK2.out (by rw [HK.out.2.2.2.2.1]; exact HH3.out) HK.out.2.1 (by rw [HK.out.2.2.1]; exact h4)
  have HF6 : Hid (HF w6 K kb lv V3 V4) := hF
  have HFr : Hid (Fr K.all w w6) := (below_fr HB2.out _).trans hFr (fun k e => .inl e)
  have hlvl : ∃ la lc, lv = .slice la bn lc ∧ bn ≤ lc := by
    obtain ⟨la, lc, e1, e2, _⟩ := owns_slice hF.nl.row
    rw [HK.out.2.2.2.2.1] at e1 e2
    exact ⟨la, lc, e1, e2⟩
  obtain ⟨la, lc, rfl, hlcc⟩ := hlvl
  have HBx : Hid (∀ k, k < bn → (K.bX k).length ≤ 10000000) := fun k hk => (HK2.out.bx k (by rw [HK.out.2.2.2.2.1]; exact hk)).1
  have HIx : Hid (∀ k, k < im → (K.iX k).length ≤ 10000000) := fun k hk => HK2.out.ix k (by rw [HK.out.2.2.1]; exact hk)
  clear hF hFr h4 hw6 HI3 HH3 HB2 HK2
  go_upto_block 8 with (fail)
  go_cut [10, 12, 116, 117, 118, 119, 120, 121, 122, 123, 124, 125, 126, 127, 128, 129, 130, 131, 132, 133, 134, 135, 136, 137, 138, 139] (fun _ _ _ _ _ _ _ _ _ _ _ _ _ _ _ _ _ _ _ _ _ _ _ _ _ _ wx => Below w6.heap.size w6 wx)
  case first =>
    go_wp2
    go_loopw [10, 12, 116, 117, 118, 119, 120, 121, 122, 123, 124, 125, 126, 127, 128, 129, 130, 131, 132, 133, 134, 135, 136, 137, 138, 139] (fun _ _ i _ _ _ _ _ _ _ _ _ _ _ _ _ _ _ _ _ _ _ _ _ _ _ wr => ∃ k : Nat, k ≤ bn ∧ i = .int .i64 k ∧ Below w6.heap.size w6 wr) (fun _ _ i _ _ _ _ _ _ _ _ _ _ _ _ _ _ _ _ _ _ _ _ _ _ _ _ => bn - (intOf i).toNat)
    case atStart => exact ⟨0, Nat.zero_le _, rfl, Below.refl _ _⟩
    case round =>
      obtain ⟨k, hk, rfl, hb⟩ := hrel
      obtain ⟨wo, hwo⟩ : ∃ wo, wr = wo := ⟨_, rfl⟩
      rw [hwo] at hb ⊢
      clear hwo
      have HB : Hid (Below w6.heap.size w6 wo) := hb
      clear hb
      by_cases hlt : k < bn
      · have hkb : k < K.bn := by rw [HK.out.2.2.2.2.1]; exact hlt
        obtain ⟨g, cap, p, pc, n, m, e, hn, h2, h3, d0, d1, d2, d3, d4, dr⟩ := (HF6.out.on HB.out).bcells hkb
        rw [HK.out.2.2.2.2.1] at e
        cases e
        have hn1 : n ≤ 10000000 := by rw [← hn]; exact HBx.out k hlt
        obtain ⟨x, hx⟩ : ∃ x, strOfNums (K.bX k) = x := ⟨_, rfl⟩
        obtain ⟨kp, hkp⟩ : ∃ kp, decide (k % 2 = 0) = kp := ⟨_, rfl⟩
        rw [hx] at d3
        rw [hkp] at d4
        have HD : Hid (∀ w', Below wo.heap.size wo w' → ∀ r, r < n + 3 → w'.cell? ⟨p, r, none⟩ = some (.int .u8 m)) := dr
        clear dr hn h2 hkb hx hkp
        obtain ⟨P, hP⟩ : ∃ P, wo.heap.size = P := ⟨_, rfl⟩
        go_upto_region 30 with fail
        obtain ⟨wP, hwP⟩ : ∃ wP, wo.alloc (.cells #[.slice (some ⟨p, 0, none⟩) (n + 3) pc, .int .i64 (n : Int), .int .u8 m, .string x, .bool kp] 86) = wP := ⟨_, rfl⟩
        have HP : Hid (Below wo.heap.size wo wP ∧ wP.heap[P]? = some (.cells #[.slice (some ⟨p, 0, none⟩) (n + 3) pc, .int .i64 (n : Int), .int .u8 m, .string x, .bool kp] 86 (0, 0))) := by
          rw [← hwP, ← hP]; exact ⟨(Below.refl _ _).alloc (Nat.le_refl _) _, heap_alloc_new _ _⟩
        try rw [hP]
        rw [hwP]
        clear hwP d0 d1 d2 d3 d4
        have p0 : wP.cell? ⟨P, 0, none⟩ = some (.slice (some ⟨p, 0, none⟩) (n + 3) pc) := cell_of_row _ _ 0 _ _ _ HP.out.2
        have p1 : wP.cell? ⟨P, 1, none⟩ = some (.int .i64 (n : Int)) := cell_of_row _ _ 1 _ _ _ HP.out.2
        have p2 : wP.cell? ⟨P, 2, none⟩ = some (.int .u8 m) := cell_of_row _ _ 2 _ _ _ HP.out.2
        go_upto_block 10 with (fail)
        go_cut [12, 123, 124, 125, 126, 127, 128, 129, 130, 131] (fun _ _ _ _ _ _ _ _ _ _ wx => wx = wP)
        case first =>
          go_wp2
          go_loopw [12, 123, 124, 125, 126, 127, 128, 129, 130, 131] (fun _ i _ _ _ _ _ _ _ _ wy => ∃ r : Nat, r ≤ n + 3 ∧ i = .int .i64 r ∧ wy = wP) (fun _ i _ _ _ _ _ _ _ _ _ => n + 3 - (intOf i).toNat)
          case atStart => exact ⟨0, Nat.zero_le _, rfl, rfl⟩
          case round =>
            obtain ⟨r, hr, rfl, hb⟩ := hrel
            rw [hb]
            clear hb
            by_cases hlr : r < n + 3
            · have dz := HD.out wP HP.out.1 r hlr
              have hlr2 : (r : Int) < (n : Int) + 3 := by omega
              go_wp2
              exact ⟨⟨r + 1, hlr, rfl, by first | rfl | trivial⟩, by simp [intOf]; omega⟩
            · have hrn : r = n + 3 := by omega
              subst hrn
              go_wp2
              go_meet
              rfl
        case rest =>
        obtain ⟨wz, hwz⟩ : ∃ wz, wc = wz := ⟨_, rfl⟩
        rw [hwz] at hcut ⊢
        subst hcut
        go_wp2
        exact ⟨⟨k + 1, hlt, rfl, HB.out.trans (HP.out.1.mono HB.out.size)⟩, by simp [intOf]; omega⟩
      · have hkn : k = bn := by omega
        subst hkn
        go_wp2
        go_meet
        exact HB.out
  case rest =>
  obtain ⟨w8, hw8⟩ : ∃ w8, wc = w8 := ⟨_, rfl⟩
  rw [hw8] at hcut ⊢
  have HB8 : Hid (Below w6.heap.size w6 w8) := hcut
  have HF8 : Hid (HF w8 K kb (.slice la bn lc) V3 V4) := HF6.out.on hcut
  clear hcut hw8
  have c1 : w8.cell? ⟨kb, 1, none⟩ = some (.slice ia im ic) := by rw [← HK.out.2.2.2.2.2.1]; exact cell_of_row _ _ 1 _ _ _ HF8.out.box
  go_upto_block 12 with (fail)
  clear c1
  go_cut [13, 15, 145, 146, 147, 148, 149, 150, 151, 152, 153, 154, 155, 156, 157, 158, 159, 160, 161, 162, 163, 164, 165] (fun _ _ _ _ _ _ _ _ _ _ _ _ _ _ _ _ _ _ _ _ _ _ _ wx => wx = w8)
  case first =>
    go_wp2
    go_loopw [13, 15, 145, 146, 147, 148, 149, 150, 151, 152, 153, 154, 155, 156, 157, 158, 159, 160, 161, 162, 163, 164, 165] (fun _ _ i _ _ _ _ _ _ _ _ _ _ _ _ _ _ _ _ _ _ _ _ wr => ∃ k : Nat, k ≤ im ∧ i = .int .i64 k ∧ wr = w8) (fun _ _ i _ _ _ _ _ _ _ _ _ _ _ _ _ _ _ _ _ _ _ _ _ => im - (intOf i).toNat)
    case atStart => exact ⟨0, Nat.zero_le _, rfl, rfl⟩
    case round =>
      obtain ⟨k, hk, rfl, hb⟩ := hrel
      rw [hb]
      clear hb
      by_cases hlt : k < im
      · have hki : k < K.im := by rw [HK.out.2.2.1]; exact hlt
        obtain ⟨g, cap, p, pc, n, m, e, hn, hm, h2, h3, d0, d1, dr⟩ := HF8.out.icells hki
        rw [HK.out.2.2.2.2.2.1, HK.out.2.2.1] at e
        cases e
        rw [HK.out.2.2.1] at d0 h2
        have hn1 : n ≤ 10000000 := by rw [← hn]; exact HIx.out k hlt
        have HD : Hid (∀ r, r < n + 1 → w8.cell? ⟨p, r, none⟩ = some (.int .i64 m)) := dr
        clear dr hn hki
        go_upto_block 14 with (fail)
        clear d0 d1
        go_wp2
        go_loopw [15, 156, 157, 158, 159, 160, 161, 162, 163, 164] (fun _ i _ _ _ _ _ _ _ _ wy => ∃ r : Nat, r ≤ n + 1 ∧ i = .int .i64 r ∧ wy = w8) (fun _ i _ _ _ _ _ _ _ _ _ => n + 1 - (intOf i).toNat)
        case atStart => exact ⟨0, Nat.zero_le _, rfl, rfl⟩
        case round =>
          obtain ⟨r, hr, rfl, hb⟩ := hrel
          rw [hb]
          clear hb
          by_cases hlr : r < n + 1
          · have dz := HD.out r hlr
            have hlr2 : (r : Int) < (n : Int) + 1 := by omega
            go_wp2
            exact ⟨⟨r + 1, hlr, rfl, by first | rfl | trivial⟩, by simp [intOf]; omega⟩
          · have hlr2 : ¬ (r : Int) < (n : Int) + 1 := by omega
            go_wp2
            exact ⟨⟨k + 1, hlt, rfl, by first | rfl | trivial⟩, by simp [intOf]; omega⟩
      · have hkn : k = im := by omega
        subst hkn
        go_wp2
        go_meet
        rfl
  case rest =>
  rw [hcut]
  go_wp2
  go_ret
  exact ⟨rfl, HFr.out.trans (below_fr HB8.out (fun _ => False)) (fun _ e => e.elim)⟩
end Go.Proofs.YtcbebalakdkgnaaGreatDoor
