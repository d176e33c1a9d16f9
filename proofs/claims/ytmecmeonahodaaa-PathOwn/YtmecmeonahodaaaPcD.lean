import Derived.Test.YtmecmeonahodaaaPcF
import Derived.Deep.CutBlock
import Derived.Deep.RegionHeld3
namespace Go.Proofs.Ytmecmeonahodaaa
open Go.RowKit Go.Shelf Pa
set_option maxRecDepth 100000 in
set_option maxHeartbeats 8000000 in
theorem pown_any (w : World) (s t : ByteArray) (hs : s.size ≤ 9223372036854775807) (ht : t.size ≤ 9223372036854775807) :
    Calls Try.prog 3 #[.string s, .string t] w fun e w' => e = .returned (.bool true) ∧ Below w.heap.size w w' := by
  have HXs : Hid (∀ j, (Xs s t j).size ≤ 9223372036854775807) := fun j => by unfold Xs; split; exact ht; exact hs
  go_enter Try.func3, Try.ntmps3
  go_upto_region 5 with (go_at_call 4; refine (known_any _).mono ?_; rintro e wb ⟨rfl, hb⟩; have HK : Hid (Below w.heap.size w wb) := hb; clear hb)
  go_upto_block 0 with fail
  have HS5 : Hid (Below w.heap.size w (wb.alloc (.cells #[.string s, .string t, .string s] 9)) ∧ (wb.alloc (.cells #[.string s, .string t, .string s] 9)).heap[wb.heap.size]? = some (.cells #[.string s, .string t, .string s] 9 (0, 0))) := ⟨HK.out.alloc HK.out.size _, heap_alloc_new _ _⟩
  obtain ⟨P5, hP5⟩ : ∃ P5, wb.heap.size = P5 := ⟨_, rfl⟩
  obtain ⟨w5, hw5⟩ : ∃ w5, wb.alloc (.cells #[.string s, .string t, .string s] 9) = w5 := ⟨_, rfl⟩
  rw [hw5, hP5] at HS5
  rw [hw5, hP5]
  clear hw5 hP5 HK
  go_cut [5] (fun s5 wx => ∃ (V : Nat → Value) (lv : Value), lv = s5 ∧ LI wx s5 9 V (TS s t) ∧ Below w.heap.size w wx ∧ Up w.heap.size s5 9 V)
  case first => as_aux_lemma =>
    go_wp2
    go_loopw [5, 45] (fun s5 s45 wr => ∃ (j : Nat) (V : Nat → Value) (lv : Value), lv = s5 ∧ s45 = .int .i64 (j : Int) ∧ j ≤ 3 ∧ LI wr s5 (3 * j) V (TS s t) ∧ Below w5.heap.size w5 wr ∧ Up w5.heap.size s5 (3 * j) V) (fun _ s45 _ => 3 - (intOf s45).toNat)
    case atStart =>
      refine ⟨0, fun _ => .slice none 0 0, _, rfl, rfl, by omega, LI.zero _ _ _, Below.refl _ _, fun b e => ?_, fun i hi => absurd hi (by omega)⟩
      cases e
    case round =>
      obtain ⟨j, V, lv, rfl, rfl, hj, hI⟩ := hrel
      have HI : Hid (LI wr lv (3 * j) V (TS s t) ∧ Below w5.heap.size w5 wr ∧ Up w5.heap.size lv (3 * j) V) := hI
      clear hI
      by_cases hlt : j < 3
      · have hlt' : (j : Int) < 3 := by omega
        have hz : wr.heap[P5]? = some (.cells #[.string s, .string t, .string s] 9 (0, 0)) := (HI.out.2.1.block _ (heap_lt HS5.out.2)).trans HS5.out.2
        have c5 : wr.cell? ⟨P5, j, none⟩ = some (.string (Xs s t j)) := by
          rw [cell_of_row _ _ _ _ _ _ hz]
          rcases (show j = 0 ∨ j = 1 ∨ j = 2 by omega) with rfl | rfl | rfl <;> rfl
        have hX := HXs.out j
        generalize hXj : Xs s t j = xj at *
        have CP : Hid (∀ wx, Calls Try.prog 5 #[.string xj] wx fun e w' => ∃ v x, e = .returned (.tuple #[v, x]) ∧ Lp w' v (PT 0 xj) ∧ (∀ b, v.ownBlock = some b → wx.heap.size ≤ b) ∧ v.oneCell' = true ∧ Below wx.heap.size wx w') := fun wx => parseP wx xj hX
        have CT : Hid (∀ wx, Calls Try.prog 6 #[.string xj] wx fun e w' => ∃ v x y, e = .returned (.tuple #[v, x, y]) ∧ Lp w' v (PT 1 xj) ∧ (∀ b, v.ownBlock = some b → wx.heap.size ≤ b) ∧ v.oneCell' = true ∧ Below wx.heap.size wx w') := fun wx => textP wx xj hX
        have CM : Hid (∀ wx, Calls Try.prog 7 #[.string xj] wx fun e w' => ∃ v x y, e = .returned (.tuple #[v, x, y]) ∧ Lp w' v (PT 2 xj) ∧ (∀ b, v.ownBlock = some b → wx.heap.size ≤ b) ∧ v.oneCell' = true ∧ Below wx.heap.size wx w') := fun wx => makeP wx xj hX
        clear hz hX
        go_upto_region 12 with (first
          | (go_at_call 5; refine (CP.out _).mono ?_; rintro e u1 ⟨v1, x1, rfl, h1, h2, h3, h4⟩
             obtain ⟨a1, c1, rfl, hq1, hq2⟩ := h1.strs
             clear hq1 hq2
             have H1 : Hid (Lp u1 (.slice a1 (PT 0 xj).length c1) (PT 0 xj) ∧ (∀ b, (Value.slice a1 (PT 0 xj).length c1).ownBlock = some b → wr.heap.size ≤ b) ∧ Below wr.heap.size wr u1) := ⟨h1, h2, h4⟩
             clear h1 h2 h3 h4)
          | (go_at_call 6; refine (CT.out _).mono ?_; rintro e u2 ⟨v2, x2, y2, rfl, h1, h2, h3, h4⟩
             obtain ⟨a2, c2, rfl, hq1, hq2⟩ := h1.strs
             clear hq1 hq2
             have H2 : Hid (Lp u2 (.slice a2 (PT 1 xj).length c2) (PT 1 xj) ∧ (∀ b, (Value.slice a2 (PT 1 xj).length c2).ownBlock = some b → u1.heap.size ≤ b) ∧ Below u1.heap.size u1 u2) := ⟨h1, h2, h4⟩
             clear h1 h2 h3 h4)
          | (go_at_call 7; refine (CM.out _).mono ?_; rintro e u3 ⟨v3, x3, y3, rfl, h1, h2, h3, h4⟩
             obtain ⟨a3, c3, rfl, hq1, hq2⟩ := h1.strs
             clear hq1 hq2
             have H3 : Hid (Lp u3 (.slice a3 (PT 2 xj).length c3) (PT 2 xj) ∧ (∀ b, (Value.slice a3 (PT 2 xj).length c3).ownBlock = some b → u2.heap.size ≤ b) ∧ Below u2.heap.size u2 u3) := ⟨h1, h2, h4⟩
             have HR : Hid (Below wr.heap.size wr (u3.alloc (.cells #[.slice a1 (PT 0 xj).length c1, .slice a2 (PT 1 xj).length c2, .slice a3 (PT 2 xj).length c3] 24))) := (by
               have b2 : Below wr.heap.size wr u2 := H1.out.2.2.trans (H2.out.2.2.mono H1.out.2.2.size)
               have b3 : Below wr.heap.size wr u3 := b2.trans (h4.mono b2.size)
               exact b3.alloc b3.size _)
             clear h1 h2 h3 h4)
          | (at_builtin; refine wp_lstP rfl (.tmp 66) (.tmp 70) rfl lv (3 * j) ((List.range (3 * j)).map V) rfl u3.heap.size 3 rfl [.slice a1 (PT 0 xj).length c1, .slice a2 (PT 1 xj).length c2, .slice a3 (PT 2 xj).length c3] rfl (by omega) (by intro u hu; simp at hu; rcases hu with rfl | rfl | rfl <;> rfl) (heap_alloc_new u3 _) (HI.out.1.on HR.out).row (by omega) ?_
             intro b4 cap4 u4 h1 h2 h3
             obtain ⟨V', H4⟩ : ∃ V', Hid (LI u4 (.slice (some ⟨b4, 0, none⟩) (3 * j + 3) cap4) (3 * (j + 1)) V' (TS s t) ∧ Below w5.heap.size w5 u4 ∧ Up w5.heap.size (.slice (some ⟨b4, 0, none⟩) (3 * j + 3) cap4) (3 * (j + 1)) V') := (by
               have s0 := HI.out.2.1.size
               have s1 := H1.out.2.2.size
               have s2 := H2.out.2.2.size
               have s3 := H3.out.2.2.size
               have ha : Below u3.heap.size u3 (u3.alloc (.cells #[.slice a1 (PT 0 xj).length c1, .slice a2 (PT 1 xj).length c2, .slice a3 (PT 2 xj).length c3] 24)) := (Below.refl _ _).alloc (Nat.le_refl _) _
               obtain ⟨V', q1, q2⟩ := HI.out.1.three (s := s) (t := t) HR.out (by rw [hXj]; exact ((H1.out.1.on H2.out.2.2).on H3.out.2.2).on ha) (by rw [hXj]; exact (H2.out.1.on H3.out.2.2).on ha) (by rw [hXj]; exact H3.out.1.on ha) H1.out.2.1 (fun b e => ⟨Nat.le_trans s1 (H2.out.2.1 b e), fun e2 => by have := H1.out.1.lt e2; have := H2.out.2.1 b e; omega⟩) (fun b e => ⟨Nat.le_trans (Nat.le_trans s1 s2) (H3.out.2.1 b e), fun e2 => by have := H1.out.1.lt e2; have := H3.out.2.1 b e; omega, fun e2 => by have := H2.out.1.lt e2; have := H3.out.2.1 b e; omega⟩) h1 h2 h3
               have hB : Below w5.heap.size w5 u4 := (HI.out.2.1.trans (HR.out.mono s0)).trans (h2.below _ (fun k hk => HI.out.2.2.1 k hk) (Nat.le_trans s0 HR.out.size))
               refine ⟨V', q1, hB, fun b e => ?_, fun i hi b e => ?_⟩
               · cases e
                 rcases h3 with e | e
                 · exact HI.out.2.2.1 _ e
                 · exact Nat.le_trans (Nat.le_trans s0 HR.out.size) e
               · rcases q2 i hi with ⟨k, hk, e2⟩ | e2
                 · rw [e2] at e; exact HI.out.2.2.2 k hk b e
                 · exact Nat.le_trans s0 (e2 b e))
             clear h1 h2 h3))
        go_wp2
        go_round
        case rel => exact ⟨j + 1, V', _, rfl, by go_num, by omega, H4.out⟩
        case measure => simp [intOf]; omega
      · have hlt' : ¬ (j : Int) < 3 := by omega
        obtain rfl : j = 3 := by omega
        go_wp2
        go_meet
        case rel => exact ⟨V, _, rfl, HI.out.1, HS5.out.1.trans (HI.out.2.1.mono HS5.out.1.size), fun b e => Nat.le_trans HS5.out.1.size (HI.out.2.2.1 b e), fun i hi b e => Nat.le_trans HS5.out.1.size (HI.out.2.2.2 i hi b e)⟩
  case rest =>
  obtain ⟨V, lv, rfl, hcut⟩ := hcut
  obtain ⟨gl, cl, rfl, hc0⟩ := hcut.1.cell (k := 0) (by omega)
  obtain ⟨w1, hw1⟩ : ∃ w1, wc = w1 := ⟨_, rfl⟩
  rw [hw1] at hcut ⊢
  have HL : Hid (LI w1 (.slice (some ⟨gl, 0, none⟩) 9 cl) 9 V (TS s t) ∧ Below w.heap.size w w1 ∧ Up w.heap.size (.slice (some ⟨gl, 0, none⟩) 9 cl) 9 V) := hcut
  clear hcut hw1 hc0 HS5
  go_upto_block 2 with fail
  go_cut [6] (fun s6 wx => ∃ (W : Nat → Value) (wv : Value), wv = s6 ∧ LI wx s6 9 W (TS s t) ∧ Below w1.heap.size w1 wx ∧ Up w1.heap.size s6 9 W)
  case first => as_aux_lemma =>
    go_wp2
    go_loopw [6, 75] (fun s6 s75 wr => ∃ (k : Nat) (W : Nat → Value) (wv : Value), wv = s6 ∧ s75 = .int .i64 (k : Int) ∧ k ≤ 9 ∧ LI wr s6 k W (TS s t) ∧ Below w1.heap.size w1 wr ∧ Up w1.heap.size s6 k W) (fun _ s75 _ => 9 - (intOf s75).toNat)
    case atStart =>
      refine ⟨0, fun _ => .slice none 0 0, _, rfl, rfl, by omega, LI.zero _ _ _, Below.refl _ _, fun b e => ?_, fun i hi => absurd hi (by omega)⟩
      cases e
    case round =>
      obtain ⟨k, W, wv, rfl, rfl, hk, hI⟩ := hrel
      have HI : Hid (LI wr wv k W (TS s t) ∧ Below w1.heap.size w1 wr ∧ Up w1.heap.size wv k W) := hI
      clear hI
      by_cases hlt : k < 9
      · have hlt' : (k : Int) < 9 := by omega
        have hLI := HL.out.1.on HI.out.2.1
        obtain ⟨_, _, e0, c7⟩ := hLI.cell hlt
        cases e0
        have hLp := hLI.ls k hlt
        obtain ⟨ak, ck, hVk, _, _⟩ := hLp.strs
        rw [hVk] at c7 hLp
        have htl := TS_len s t k
        have HP : Hid (Lp wr (.slice ak (TS s t k).length ck) (TS s t k)) := hLp
        have HT : Hid (TS s t k = TS s t k) := rfl
        obtain ⟨tk, htk⟩ : ∃ tk, TS s t k = tk := ⟨_, rfl⟩
        rw [htk] at HP c7 htl
        clear hLI hLp hVk
        go_upto_region 17 with (first
          | (at_builtin; refine wp_cpyS rfl (.tmp 80) (.tmp 81) rfl rfl wr.heap.size rfl (heap_alloc_new wr _) (.slice ak tk.length ck) tk rfl (HP.out.on ((Below.refl _ _).alloc (Nat.le_refl _) _)) (by omega) ?_
             intro g2 cap2 u1 h1 h2 h3
             have H1 : Hid (Lp u1 (.slice (some ⟨g2, 0, none⟩) tk.length cap2) tk ∧ wr.heap.size ≤ g2 ∧ Below wr.heap.size wr u1) := (by
               have ha : Below wr.heap.size wr (wr.alloc (.cells #[] 9)) := (Below.refl _ _).alloc (Nat.le_refl _) _
               refine ⟨h1, ?_, ha.trans (h3.below _ (fun k hk => by have hk : k = wr.heap.size := hk; omega) ha.size)⟩
               rcases h2 with e | e
               · exact Nat.le_of_eq e
               · exact Nat.le_trans ha.size e)
             clear h1 h2 h3)
          | (at_builtin; refine wp_lstP rfl (.tmp 79) (.tmp 83) rfl wv k ((List.range k).map W) rfl u1.heap.size 1 rfl [.slice (some ⟨g2, 0, none⟩) tk.length cap2] rfl (by omega) (by intro u hu; simp at hu; rw [hu]; rfl) (heap_alloc_new u1 _) (HI.out.1.on (H1.out.2.2.alloc H1.out.2.2.size _)).row (by omega) ?_
             intro b4 cap4 u4 h1 h2 h3
             obtain ⟨W', H4⟩ : ∃ W', Hid (LI u4 (.slice (some ⟨b4, 0, none⟩) (k + 1) cap4) (k + 1) W' (TS s t) ∧ Below w1.heap.size w1 u4 ∧ Up w1.heap.size (.slice (some ⟨b4, 0, none⟩) (k + 1) cap4) (k + 1) W') := (by
               have s0 := HI.out.2.1.size
               have s1 := H1.out.2.1
               have hb : Below wr.heap.size wr (u1.alloc (.cells #[.slice (some ⟨g2, 0, none⟩) tk.length cap2] 24)) := H1.out.2.2.alloc H1.out.2.2.size _
               have ha : Below u1.heap.size u1 (u1.alloc (.cells #[.slice (some ⟨g2, 0, none⟩) tk.length cap2] 24)) := (Below.refl _ _).alloc (Nat.le_refl _) _
               have hsb := hb.size
               obtain ⟨q1, q2⟩ := HI.out.1.one hb (by rw [htk]; exact H1.out.1.on ha) (fun b e i hi e2 => by have := own_at e; have := (HI.out.1.ls i hi).lt e2; omega) (fun b e e2 => by have := own_at e; have := HI.out.1.own e2; omega) HI.out.2.2.1 (Nat.le_trans s0 hsb) h1 h2 h3
               have hB : Below w1.heap.size w1 u4 := (HI.out.2.1.trans (hb.mono s0)).trans (h2.below _ (fun k hk => HI.out.2.2.1 k hk) (Nat.le_trans s0 hsb))
               refine ⟨_, q1, hB, fun b e => ?_, fun i hi b e => ?_⟩
               · rw [← own_at e]; exact q2
               · by_cases h5 : i < k
                 · dsimp only at e; rw [if_pos h5] at e; exact HI.out.2.2.2 i h5 b e
                 · dsimp only at e; rw [if_neg h5] at e; have := own_at e; omega)
             clear h1 h2 h3))
        go_wp2
        go_round
        case rel => exact ⟨k + 1, W', _, rfl, by go_num, by omega, H4.out⟩
        case measure => simp [intOf]; omega
      · have hlt' : ¬ (k : Int) < 9 := by omega
        obtain rfl : k = 9 := by omega
        go_wp2
        go_meet
        case rel => exact ⟨W, _, rfl, HI.out⟩
  case rest =>
  obtain ⟨W, wv, rfl, hcut⟩ := hcut
  obtain ⟨gw, cw, rfl, hc0⟩ := hcut.1.cell (k := 0) (by omega)
  obtain ⟨w2, hw2⟩ : ∃ w2, wc = w2 := ⟨_, rfl⟩
  rw [hw2] at hcut ⊢
  have HW : Hid (LI w2 (.slice (some ⟨gw, 0, none⟩) 9 cw) 9 W (TS s t) ∧ Below w1.heap.size w1 w2 ∧ Up w1.heap.size (.slice (some ⟨gw, 0, none⟩) 9 cw) 9 W) := hcut
  clear hcut hw2 hc0
  go_upto_block 4 with fail
  go_cut [] (fun wx => Below w2.heap.size w2 wx)
  case first => as_aux_lemma =>
    go_wp2
    go_loopw [19] (fun s19 wr => ∃ k : Nat, s19 = .int .i64 (k : Int) ∧ k ≤ 3 ∧ Below w2.heap.size w2 wr) (fun s19 _ => 3 - (intOf s19).toNat)
    case atStart => exact ⟨0, rfl, by omega, Below.refl _ _⟩
    case round =>
      obtain ⟨k, rfl, hk, hI⟩ := hrel
      have HI : Hid (Below w2.heap.size w2 wr) := hI
      clear hI
      by_cases hlt : k < 3
      · have hlt' : (k : Int) < 3 := by omega
        have hLI := HW.out.1.on HI.out
        obtain ⟨_, _, e0, c7⟩ := hLI.cell (show k < 9 by omega)
        cases e0
        obtain ⟨_, _, e0, c8⟩ := hLI.cell (show 6 + k < 9 by omega)
        cases e0
        obtain ⟨a1, n1, hV1, t1, _⟩ := (hLI.ls k (by omega)).strs
        obtain ⟨a2, n2, hV2, t2, _⟩ := (hLI.ls (6 + k) (by omega)).strs
        rw [TS_six s t k hlt] at hV2 t2
        rw [hV1] at c7
        rw [hV2] at c8
        have htl := TS_len s t k
        have CS : Hid (∀ q, Calls Try.prog 8 #[.slice a1 (TS s t k).length n1, .slice a2 (TS s t k).length n2] (wr.drewN q) fun e w' => e = .returned (.bool true) ∧ ∃ p, w' = (wr.drewN q).drewN p) := fun q => by
          refine (same_any (wr.drewN q) a1 a2 _ n1 _ n2 (TS s t k) (TS s t k) (t1.drewN q) (t2.drewN q) rfl rfl (by omega)).mono ?_
          rintro e w' ⟨rfl, h⟩
          exact ⟨by rw [sameT_yes rfl], h⟩
        clear t1 t2 hV1 hV2 hLI
        generalize TS s t k = tk at *
        have hk9 : (k : Int) < 9 := by omega
        have hk8 : 6 + (k : Int) < 9 := by omega
        go_upto_region 21 with fail
        go_quiet (first | (go_at_call 8; exact Calls.quiet_of (CS.out _)))
        go_wp2
        go_round
        case rel => exact ⟨k + 1, by go_num, by omega, HI.out.trans ((drewN_below _ _).mono HI.out.size)⟩
        case measure => simp [intOf]; omega
      · have hlt' : ¬ (k : Int) < 3 := by omega
        go_wp2
        go_meet
        case rel => exact HI.out
  case rest =>
  obtain ⟨w3, hw3⟩ : ∃ w3, wc = w3 := ⟨_, rfl⟩
  rw [hw3] at hcut ⊢
  have H3 : Hid (LI w3 (.slice (some ⟨gl, 0, none⟩) 9 cl) 9 V (TS s t) ∧ LI w3 (.slice (some ⟨gw, 0, none⟩) 9 cw) 9 W (TS s t) ∧ Below w.heap.size w w3) := ⟨(HL.out.1.on HW.out.2.1).on hcut, HW.out.1.on hcut, (HL.out.2.1.trans (HW.out.2.1.mono HL.out.2.1.size)).trans (hcut.mono (Nat.le_trans HL.out.2.1.size HW.out.2.1.size))⟩
  have HU : Hid (Up w.heap.size (.slice (some ⟨gl, 0, none⟩) 9 cl) 9 V ∧ Up w1.heap.size (.slice (some ⟨gw, 0, none⟩) 9 cw) 9 W ∧ (∀ i, i < 9 → ∀ b, (V i).ownBlock = some b → b < w1.heap.size)) := ⟨HL.out.2.2, HW.out.2.2, fun i hi b e => (HL.out.1.ls i hi).lt e⟩
  clear hcut hw3 HL HW
  go_upto_block 6 with fail
  go_cut [] (fun wx => LI wx (.slice (some ⟨gl, 0, none⟩) 9 cl) 9 V (MS s t 0) ∧ Fr (fun b => ∃ i, i < 9 ∧ (V i).ownBlock = some b) w3 wx)
  case first => as_aux_lemma =>
    go_wp2
    go_loopw [103] (fun s103 wr => ∃ k : Nat, s103 = .int .i64 (k : Int) ∧ k ≤ 9 ∧ LI wr (.slice (some ⟨gl, 0, none⟩) 9 cl) 9 V (fun i => if i < k then MS s t 0 i else TS s t i) ∧ Fr (fun b => ∃ i, i < 9 ∧ (V i).ownBlock = some b) w3 wr) (fun s103 _ => 9 - (intOf s103).toNat)
    case atStart => exact ⟨0, rfl, by omega, H3.out.1.congr (fun i _ => by simp), Fr.refl _ _⟩
    case round =>
      obtain ⟨k, rfl, hk, hI⟩ := hrel
      have HI : Hid (LI wr (.slice (some ⟨gl, 0, none⟩) 9 cl) 9 V (fun i => if i < k then MS s t 0 i else TS s t i) ∧ Fr (fun b => ∃ i, i < 9 ∧ (V i).ownBlock = some b) w3 wr) := hI
      clear hI
      by_cases hlt : k < 9
      · have hlt' : (k : Int) < 9 := by omega
        obtain ⟨_, _, e0, c7⟩ := HI.out.1.cell hlt
        cases e0
        have hLp := HI.out.1.ls k hlt
        rw [if_neg (Nat.lt_irrefl k)] at hLp
        obtain ⟨ak, ck, hVk, _, _⟩ := hLp.strs
        rw [hVk] at c7 hLp
        have htl := TS_len s t k
        have HP : Hid (Lp wr (.slice ak (TS s t k).length ck) (TS s t k) ∧ V k = .slice ak (TS s t k).length ck) := ⟨hLp, hVk⟩
        obtain ⟨tk, htk⟩ : ∃ tk, TS s t k = tk := ⟨_, rfl⟩
        rw [htk] at HP c7 htl
        have HMk : Hid (∀ wx, Calls Try.prog 9 #[.int .i64 (k : Int)] wx fun e w' => e = .returned (.string (mk k)) ∧ Below wx.heap.size wx w') := fun wx => mark_any wx k hlt
        obtain ⟨mkk, hmk⟩ : ∃ m, mk k = m := ⟨_, rfl⟩
        rw [hmk] at HMk
        clear hLp hVk
        go_wp2
        obtain ⟨w4, hw4⟩ : ∃ w4, wr = w4 := ⟨_, rfl⟩
        rw [hw4] at HI HP c7
        rw [hw4]
        clear hw4
        go_loopw [110] (fun s110 wr => ∃ q : Nat, s110 = .int .i64 (q : Int) ∧ q ≤ tk.length ∧ Lp wr (.slice ak tk.length ck) (mkS tk mkk q) ∧ Fr (fun b => (V k).ownBlock = some b) w4 wr) (fun s110 _ => tk.length - (intOf s110).toNat)
        case atStart => exact ⟨0, rfl, Nat.zero_le _, HP.out.1, Fr.refl _ _⟩
        case round =>
          obtain ⟨q, rfl, hq, hI⟩ := hrel
          have HQ : Hid (Lp wr (.slice ak tk.length ck) (mkS tk mkk q) ∧ Fr (fun b => (V k).ownBlock = some b) w4 wr) := hI
          clear hI
          by_cases hql : q < tk.length
          · have hql' : (q : Int) < (tk.length : Int) := by omega
            have hq32 : (q : Int) < 32 := by omega
            obtain ⟨x, hx⟩ : ∃ x, (mkS tk mkk q)[q]? = some x := ⟨_, List.getElem?_eq_getElem (by rw [mkS_len tk mkk hq]; exact hql)⟩
            obtain ⟨g, cap, e0, _, _⟩ := HQ.out.1.cell hx
            rw [mkS_len tk mkk hq] at e0
            cases e0
            go_wp2_with (go_at_call 9; refine (HMk.out _).mono ?_; rintro e u1 ⟨rfl, hb1⟩
                         obtain ⟨g', cap', e0, d0, d1⟩ := (HQ.out.1.on hb1).cell hx
                         rw [mkS_len tk mkk hq] at e0
                         cases e0
                         have H1 : Hid (Below wr.heap.size wr u1) := hb1
                         clear hb1)
            go_round
            case rel =>
              have h1 := (HQ.out.1.on H1.out).set (k := q) mkk (by rw [mkS_len tk mkk hq]; exact hql)
              rw [mkS_set tk mkk hql] at h1
              refine ⟨q + 1, by go_num, by omega, h1, (HQ.out.2.trans (below_fr H1.out (fun _ => False)) (fun _ e => e.elim)).trans Fr.set (fun b e => .inl ?_)⟩
              rw [HP.out.2, e]; rfl
            case measure => simp [intOf]; omega
          · have hql' : ¬ (q : Int) < (tk.length : Int) := by omega
            obtain rfl : q = tk.length := by omega
            go_wp2
            go_round
            case rel =>
              have h1 := HQ.out.1
              rw [mkS_all, ← HP.out.2] at h1
              refine ⟨k + 1, by go_num, by omega, (HI.out.1.put hlt HQ.out.2 h1).congr (fun i hi => ?_), HI.out.2.trans HQ.out.2 (fun b e => .inl ⟨k, hlt, e⟩)⟩
              by_cases e : i = k
              · subst e
                rw [if_pos rfl, if_pos (Nat.lt_succ_self _), MS, htk, hmk, Nat.add_zero]
              · rw [if_neg e]
                by_cases e2 : i < k
                · rw [if_pos e2, if_pos (Nat.lt_succ_of_lt e2)]
                · rw [if_neg e2, if_neg (by omega)]
            case measure => simp [intOf]; omega
      · have hlt' : ¬ (k : Int) < 9 := by omega
        obtain rfl : k = 9 := by omega
        go_wp2
        go_meet
        case rel => exact ⟨HI.out.1.congr (fun i hi => by rw [if_pos hi]), HI.out.2⟩
  case rest =>
  obtain ⟨w4, hw4⟩ : ∃ w4, wc = w4 := ⟨_, rfl⟩
  rw [hw4] at hcut ⊢
  have H4 : Hid (LG s t w4 w4 (.slice (some ⟨gl, 0, none⟩) 9 cl) V (.slice none 0 0) 0 (fun _ => .slice none 0 0) ∧ LI w4 (.slice (some ⟨gw, 0, none⟩) 9 cw) 9 W (TS s t) ∧ Below w.heap.size w w4) := by
    have hlt : ∀ i, i < 9 → ∀ b, (V i).ownBlock = some b → b < w4.heap.size := fun i hi b e => (hcut.1.ls i hi).lt e
    refine ⟨⟨LI.zero _ _ _, hcut.1, Fr.refl _ _, fun b e => (by cases e), fun i hi => absurd hi (Nat.not_lt_zero _), hlt, fun b e => hcut.1.own e⟩, H3.out.2.1.fr hcut.2 (fun b e e2 => ?_) (fun i hi b e e2 => ?_), H3.out.2.2.trans (hcut.2.below _ (fun b e => ?_) H3.out.2.2.size)⟩
    · obtain ⟨j, hj, e3⟩ := e2
      have := HU.out.2.1.1 b e; have := HU.out.2.2 j hj b e3; omega
    · obtain ⟨j, hj, e3⟩ := e2
      have := HU.out.2.1.2 i hi b e; have := HU.out.2.2 j hj b e3; omega
    · obtain ⟨j, hj, e3⟩ := e
      exact HU.out.1.2 j hj b e3
  clear hcut hw4 H3
  go_upto_block 10 with fail
  go_cut [23] (fun s23 wx => ∃ (G : Nat → Value) (gv : Value), gv = s23 ∧ LG s t w4 wx (.slice (some ⟨gl, 0, none⟩) 9 cl) V s23 9 G)
  case first => as_aux_lemma =>
    go_wp2
    go_loopw [23, 122] (fun s23 s122 wr => ∃ (k : Nat) (G : Nat → Value) (gv : Value), gv = s23 ∧ s122 = .int .i64 (k : Int) ∧ k ≤ 9 ∧ LG s t w4 wr (.slice (some ⟨gl, 0, none⟩) 9 cl) V s23 k G) (fun _ s122 _ => 9 - (intOf s122).toNat)
    case atStart => exact ⟨0, _, _, rfl, rfl, by omega, H4.out.1⟩
    case round =>
      obtain ⟨k, G, gv, rfl, rfl, hk, hI⟩ := hrel
      have HI : Hid (LG s t w4 wr (.slice (some ⟨gl, 0, none⟩) 9 cl) V gv k G) := hI
      clear hI
      by_cases hlt : k < 9
      · have hlt' : (k : Int) < 9 := by omega
        obtain ⟨_, _, e0, c7⟩ := HI.out.l.cell hlt
        cases e0
        have hLp := HI.out.l.ls k hlt
        obtain ⟨ak, ck, hVk, _, _⟩ := hLp.strs
        rw [hVk] at c7 hLp
        have htl : (MS s t 0 k).length ≤ 32 := by rw [MS_len]; have := TS_len s t k; omega
        have HP : Hid (Lp wr (.slice ak (MS s t 0 k).length ck) (MS s t 0 k) ∧ V k = .slice ak (MS s t 0 k).length ck ∧ MS s t 0 k ++ [mk k, mk k] = MS s t 2 k) := ⟨hLp, hVk, MS_two s t k⟩
        obtain ⟨tk, htk⟩ : ∃ tk, MS s t 0 k = tk := ⟨_, rfl⟩
        rw [htk] at HP c7 htl
        have HMk : Hid (∀ wx, Calls Try.prog 9 #[.int .i64 (k : Int)] wx fun e w' => e = .returned (.string (mk k)) ∧ Below wx.heap.size wx w') := fun wx => mark_any wx k hlt
        obtain ⟨mkk, hmk⟩ : ∃ m, mk k = m := ⟨_, rfl⟩
        rw [hmk] at HMk HP
        clear hLp hVk
        have K0 : Hid True := trivial
        go_upto_region 37 with (first
          | (go_at_call 9; have hh := K0.out; clear hh; refine (HMk.out _).mono ?_; rintro e u1 ⟨rfl, hb1⟩
             have H1 : Hid (Below wr.heap.size wr u1) := hb1
             clear hb1 K0)
          | (go_at_call 9; refine (HMk.out _).mono ?_; rintro e u2 ⟨rfl, hb2⟩
             have H2 : Hid (Below wr.heap.size wr (u2.alloc (.cells #[.string mkk, .string mkk] 9))) := (by
               have b2 : Below wr.heap.size wr u2 := H1.out.trans (hb2.mono H1.out.size)
               exact b2.alloc b2.size _)
             clear hb2 HMk)
          | (at_builtin; refine wp_app2S rfl (.tmp 128) (.tmp 133) rfl (.slice ak tk.length ck) tk rfl u2.heap.size rfl mkk mkk (heap_alloc_new u2 _) (HP.out.1.on H2.out) (by omega) ?_
             intro b4 cap4 u4 h1 h2 h3 h4
             have H5 : Hid (LG s t w4 u4 (.slice (some ⟨gl, 0, none⟩) 9 cl) V gv k G ∧ Lp u4 (.slice (some ⟨b4, 0, none⟩) (tk.length + 2) cap4) (MS s t 2 k) ∧ ((V k).ownBlock = some b4 ∨ wr.heap.size ≤ b4)) := (by
               refine ⟨(HI.out.on H2.out).mid hlt (by rw [HP.out.2.1]; exact h2) (by rw [HP.out.2.1, htk]; exact h4), by rw [← HP.out.2.2]; exact h1, ?_⟩
               rw [HP.out.2.1]
               rcases h3 with e | e
               · exact .inl e
               · exact .inr (Nat.le_trans H2.out.size e))
             clear h1 h2 h3 h4)
          | (at_builtin; refine wp_lstP rfl (.tmp 127) (.tmp 135) rfl gv k ((List.range k).map G) rfl u4.heap.size 1 rfl [.slice (some ⟨b4, 0, none⟩) (tk.length + 2) cap4] rfl (by omega) (by intro u hu; simp at hu; rw [hu]; rfl) (heap_alloc_new u4 _) (H5.out.1.g.on ((Below.refl _ _).alloc (Nat.le_refl _) _)).row (by omega) ?_
             intro b5 cap5 u5 h1 h2 h3
             obtain ⟨G', H6⟩ : ∃ G', Hid (LG s t w4 u5 (.slice (some ⟨gl, 0, none⟩) 9 cl) V (.slice (some ⟨b5, 0, none⟩) (k + 1) cap5) (k + 1) G') := (by
               have ha : Below u4.heap.size u4 (u4.alloc (.cells #[.slice (some ⟨b4, 0, none⟩) (tk.length + 2) cap4] 24)) := (Below.refl _ _).alloc (Nat.le_refl _) _
               refine H5.out.1.add hlt ha (H5.out.2.1.on ha) (fun b e => ?_) h1 h2 h3
               have e1 := own_at e
               subst e1
               rcases H5.out.2.2 with e2 | e2
               · exact .inl e2
               · exact .inr ⟨Nat.le_trans HI.out.f.size e2, fun e3 => absurd (HI.out.g.own e3) (Nat.not_lt.2 e2), fun i hi e3 => absurd ((HI.out.g.ls i hi).lt e3) (Nat.not_lt.2 e2)⟩)
             clear h1 h2 h3))
        go_wp2
        go_round
        case rel => exact ⟨k + 1, G', _, rfl, by go_num, by omega, H6.out⟩
        case measure => simp [intOf]; omega
      · have hlt' : ¬ (k : Int) < 9 := by omega
        obtain rfl : k = 9 := by omega
        go_wp2
        go_meet
        case rel => exact ⟨G, _, rfl, HI.out⟩
  case rest =>
  obtain ⟨G, gv, rfl, hcut⟩ := hcut
  obtain ⟨gg, cg, rfl, hc0⟩ := hcut.g.cell (k := 0) (by omega)
  obtain ⟨w6, hw6⟩ : ∃ w6, wc = w6 := ⟨_, rfl⟩
  rw [hw6] at hcut ⊢
  have H6 : Hid (LI w6 (.slice (some ⟨gg, 0, none⟩) 9 cg) 9 G (MS s t 2) ∧ LI w6 (.slice (some ⟨gl, 0, none⟩) 9 cl) 9 V (MS s t 0) ∧ LI w6 (.slice (some ⟨gw, 0, none⟩) 9 cw) 9 W (TS s t) ∧ Below w.heap.size w w6) := by
    refine ⟨hcut.g, hcut.l, H4.out.2.1.fr hcut.f (fun b e e2 => ?_) (fun i hi b e e2 => ?_), H4.out.2.2.trans (hcut.f.below _ (fun b e => ?_) H4.out.2.2.size)⟩
    · obtain ⟨j, hj, e3⟩ := e2
      have := HU.out.2.1.1 b e; have := HU.out.2.2 j hj b e3; omega
    · obtain ⟨j, hj, e3⟩ := e2
      have := HU.out.2.1.2 i hi b e; have := HU.out.2.2 j hj b e3; omega
    · obtain ⟨j, hj, e3⟩ := e
      exact HU.out.1.2 j hj b e3
  clear hcut hw6 H4 HU hc0
  go_upto_block 12 with fail
  go_cut [] (fun wx => Below w6.heap.size w6 wx)
  case first => as_aux_lemma =>
    go_wp2
    go_loopw [140] (fun s140 wr => ∃ k : Nat, s140 = .int .i64 (k : Int) ∧ k ≤ 9 ∧ Below w6.heap.size w6 wr) (fun s140 _ => 9 - (intOf s140).toNat)
    case atStart => exact ⟨0, rfl, by omega, Below.refl _ _⟩
    case round =>
      obtain ⟨k, rfl, hk, hI⟩ := hrel
      have HI : Hid (Below w6.heap.size w6 wr) := hI
      clear hI
      by_cases hlt : k < 9
      · have hlt' : (k : Int) < 9 := by omega
        obtain ⟨_, _, e0, c7⟩ := (H6.out.1.on HI.out).cell hlt
        cases e0
        obtain ⟨ak, ck, hGk, _, _⟩ := (H6.out.1.ls k hlt).strs
        obtain ⟨av, cv, hVk, _, _⟩ := (H6.out.2.1.ls k hlt).strs
        rw [hGk, MS_len] at c7
        have HP : Hid (∀ wx, Below w6.heap.size w6 wx → Lp wx (.slice ak ((TS s t k).length + 2) ck) (MS s t 2 k) ∧ Lp wx (.slice av ((TS s t k).length + 0) cv) (MS s t 0 k) ∧ wx.cell? ⟨gl, k, none⟩ = some (.slice av (TS s t k).length cv)) := fun wx hb => by
          have h1 := (H6.out.1.on hb).ls k hlt
          have h2 := (H6.out.2.1.on hb).ls k hlt
          obtain ⟨_, _, e0, c8⟩ := (H6.out.2.1.on hb).cell hlt
          cases e0
          rw [hVk, MS_len] at c8 h2
          rw [hGk, MS_len] at h1
          exact ⟨h1, h2, c8⟩
        have htl := TS_len s t k
        have HA : Hid (∀ e q x, (MS s t e k)[q]? = some x → x = mk k) := fun e q x h => MS_at s t e k q x h
        have HN : Hid (∀ e, (MS s t e k).length = (TS s t k).length + e) := fun e => MS_len s t e k
        have HMk : Hid (∀ wx, Calls Try.prog 9 #[.int .i64 (k : Int)] wx fun e w' => e = .returned (.string (mk k)) ∧ Below wx.heap.size wx w') := fun wx => mark_any wx k hlt
        obtain ⟨mkk, hmk⟩ : ∃ m, mk k = m := ⟨_, rfl⟩
        rw [hmk] at HMk HA
        clear hGk hVk
        generalize (TS s t k).length = n at *
        go_wp2
        obtain ⟨w7, hw7⟩ : ∃ w7, wr = w7 := ⟨_, rfl⟩
        rw [hw7] at HI c7
        rw [hw7]
        clear hw7
        go_loopw [147] (fun s147 wr => ∃ q : Nat, s147 = .int .i64 (q : Int) ∧ q ≤ n + 2 ∧ Below w6.heap.size w6 wr) (fun s147 _ => n + 2 - (intOf s147).toNat)
        case atStart => exact ⟨0, rfl, Nat.zero_le _, HI.out⟩
        case round =>
          obtain ⟨q, rfl, hq, hI⟩ := hrel
          have HQ : Hid (Below w6.heap.size w6 wr) := hI
          clear hI
          by_cases hql : q < n + 2
          · have hql' : (q : Int) < (n : Int) + 2 := by omega
            obtain ⟨x, hx⟩ : ∃ x, (MS s t 2 k)[q]? = some x := ⟨_, List.getElem?_eq_getElem (by rw [HN.out]; exact hql)⟩
            obtain rfl := HA.out 2 q x hx
            obtain ⟨g, cap, e0, d0, _⟩ := (HP.out wr HQ.out).1.cell hx
            rw [HN.out] at e0
            cases e0
            clear hx
            by_cases hqn : q < n
            · have hqn' : (q : Int) < (n : Int) := by omega
              obtain ⟨x, hx⟩ : ∃ x, (MS s t 0 k)[q]? = some x := ⟨_, List.getElem?_eq_getElem (by rw [HN.out]; exact hqn)⟩
              obtain rfl := HA.out 0 q x hx
              go_wp2_with (go_at_call 9; refine (HMk.out _).mono ?_; rintro e u1 ⟨rfl, hb1⟩
                           have H1 : Hid (Below w6.heap.size w6 u1) := HQ.out.trans (hb1.mono HQ.out.size)
                           have c8 := (HP.out u1 H1.out).2.2
                           obtain ⟨g', cap', e0, d1, _⟩ := (HP.out u1 H1.out).2.1.cell hx
                           rw [HN.out] at e0
                           cases e0
                           clear hb1)
              go_round
              case rel => exact ⟨q + 1, by go_num, by omega, H1.out⟩
              case measure => simp [intOf]; omega
            · have hqn' : ¬ (q : Int) < (n : Int) := by omega
              go_wp2_with (go_at_call 9; refine (HMk.out _).mono ?_; rintro e u1 ⟨rfl, hb1⟩
                           have H1 : Hid (Below w6.heap.size w6 u1) := HQ.out.trans (hb1.mono HQ.out.size)
                           have c8 := (HP.out u1 H1.out).2.2
                           clear hb1)
              go_round
              case rel => exact ⟨q + 1, by go_num, by omega, H1.out⟩
              case measure => simp [intOf]; omega
          · have hql' : ¬ (q : Int) < (n : Int) + 2 := by omega
            go_wp2
            go_round
            case rel => exact ⟨k + 1, by go_num, by omega, HQ.out⟩
            case measure => simp [intOf]; omega
      · have hlt' : ¬ (k : Int) < 9 := by omega
        go_wp2
        go_meet
        case rel => exact HI.out
  case rest =>
  obtain ⟨w8, hw8⟩ : ∃ w8, wc = w8 := ⟨_, rfl⟩
  rw [hw8] at hcut ⊢
  have H8 : Hid (LI w8 (.slice (some ⟨gw, 0, none⟩) 9 cw) 9 W (TS s t) ∧ Below w.heap.size w w8) := ⟨H6.out.2.2.1.on hcut, H6.out.2.2.2.trans (hcut.mono H6.out.2.2.2.size)⟩
  clear hcut hw8 H6
  have E0 : TS s t 0 = PT 0 s := rfl
  have E1 : TS s t 1 = PT 1 s := rfl
  have E2 : TS s t 2 = PT 2 s := rfl
  obtain ⟨b0, d0, hW0, _, _⟩ := (H8.out.1.ls 0 (by omega)).strs
  obtain ⟨b1, d1, hW1, _, _⟩ := (H8.out.1.ls 1 (by omega)).strs
  obtain ⟨b2, d2, hW2, _, _⟩ := (H8.out.1.ls 2 (by omega)).strs
  rw [E0] at hW0
  rw [E1] at hW1
  rw [E2] at hW2
  have HC : Hid (∀ wx, Below w8.heap.size w8 wx → (wx.cell? ⟨gw, 0, none⟩ = some (.slice b0 (PT 0 s).length d0) ∧ StrsAt wx b0 (PT 0 s)) ∧ (wx.cell? ⟨gw, 1, none⟩ = some (.slice b1 (PT 1 s).length d1) ∧ StrsAt wx b1 (PT 1 s)) ∧ (wx.cell? ⟨gw, 2, none⟩ = some (.slice b2 (PT 2 s).length d2) ∧ StrsAt wx b2 (PT 2 s))) := fun wx hb => by
    have h := H8.out.1.on hb
    have st : ∀ i (b : Option Addr) (m d : Nat), i < 9 → W i = .slice b m d → StrsAt wx b (TS s t i) := fun i b m d hi e => by
      obtain ⟨a, c, e1, e2, _⟩ := (h.ls i hi).strs
      rw [e] at e1
      cases e1
      exact e2
    obtain ⟨_, _, e0, c0⟩ := h.cell (show 0 < 9 by omega)
    cases e0
    obtain ⟨_, _, e0, c1⟩ := h.cell (show 1 < 9 by omega)
    cases e0
    obtain ⟨_, _, e0, c2⟩ := h.cell (show 2 < 9 by omega)
    cases e0
    rw [hW0] at c0
    rw [hW1] at c1
    rw [hW2] at c2
    exact ⟨⟨c0, st 0 _ _ _ (by omega) hW0⟩, ⟨c1, st 1 _ _ _ (by omega) hW1⟩, ⟨c2, st 2 _ _ _ (by omega) hW2⟩⟩
  have CP : Hid (∀ wx, Calls Try.prog 5 #[.string s] wx fun e w' => ∃ v x, e = .returned (.tuple #[v, x]) ∧ Lp w' v (PT 0 s) ∧ Below wx.heap.size wx w') := fun wx => (parseP wx s hs).mono (by rintro e w' ⟨v, x, h1, h2, _, _, h5⟩; exact ⟨v, x, h1, h2, h5⟩)
  have CT : Hid (∀ wx, Calls Try.prog 6 #[.string s] wx fun e w' => ∃ v x y, e = .returned (.tuple #[v, x, y]) ∧ Lp w' v (PT 1 s) ∧ Below wx.heap.size wx w') := fun wx => (textP wx s hs).mono (by rintro e w' ⟨v, x, y, h1, h2, _, _, h5⟩; exact ⟨v, x, y, h1, h2, h5⟩)
  have CM : Hid (∀ wx, Calls Try.prog 7 #[.string s] wx fun e w' => ∃ v x y, e = .returned (.tuple #[v, x, y]) ∧ Lp w' v (PT 2 s) ∧ Below wx.heap.size wx w') := fun wx => (makeP wx s hs).mono (by rintro e w' ⟨v, x, y, h1, h2, _, _, h5⟩; exact ⟨v, x, y, h1, h2, h5⟩)
  have CS : Hid (∀ (wx : World) (a b : Option Addr) (c d : Nat) (l : List ByteArray), l.length ≤ 32 → StrsAt wx a l → StrsAt wx b l → Calls Try.prog 8 #[.slice a l.length c, .slice b l.length d] wx fun e w' => e = .returned (.bool true) ∧ Below wx.heap.size wx w') := fun wx a b c d l hl h1 h2 => by
    refine (same_any wx a b _ c _ d l l h1 h2 rfl rfl (by omega)).mono ?_
    rintro e w' ⟨rfl, q, rfl⟩
    exact ⟨by rw [sameT_yes rfl], drewN_below wx q⟩
  have l0 := PT_len 0 s
  have l1 := PT_len 1 s
  have l2 := PT_len 2 s
  have K0 : Hid True := trivial
  have K1 : Hid True := trivial
  clear hW0 hW1 hW2 E0 E1 E2
  generalize PT 0 s = p0 at *
  generalize PT 1 s = p1 at *
  generalize PT 2 s = p2 at *
  go_upto_region 51 with (first
    | (go_at_call 5; refine (CP.out _).mono ?_; rintro e u1 ⟨v1, x1, rfl, h1, h2⟩
       obtain ⟨a1, c1, rfl, hq1, hq2⟩ := h1.strs
       have H1 : Hid (StrsAt u1 a1 p0 ∧ Below w8.heap.size w8 u1) := ⟨hq1, h2⟩
       clear h1 h2 hq1 hq2)
    | (go_at_call 6; refine (CT.out _).mono ?_; rintro e u2 ⟨v2, x2, y2, rfl, h1, h2⟩
       obtain ⟨a2, c2, rfl, hq1, hq2⟩ := h1.strs
       have H2 : Hid (StrsAt u2 a1 p0 ∧ StrsAt u2 a2 p1 ∧ Below w8.heap.size w8 u2) := ⟨H1.out.1.on h2, hq1, H1.out.2.trans (h2.mono H1.out.2.size)⟩
       clear h1 h2 hq1 hq2)
    | (go_at_call 7; refine (CM.out _).mono ?_; rintro e u3 ⟨v3, x3, y3, rfl, h1, h2⟩
       obtain ⟨a3, c3, rfl, hq1, hq2⟩ := h1.strs
       have H3 : Hid (StrsAt u3 a1 p0 ∧ StrsAt u3 a2 p1 ∧ StrsAt u3 a3 p2 ∧ Below w8.heap.size w8 u3) := ⟨H2.out.1.on h2, H2.out.2.1.on h2, hq1, H2.out.2.2.trans (h2.mono H2.out.2.2.size)⟩
       clear h1 h2 hq1 hq2))
  have f0 := (HC.out u3 H3.out.2.2.2).1.1
  go_wp2_with (first
    | (go_at_call 8; have hh := K0.out; clear hh; refine (CS.out u3 _ _ _ _ p0 l0 H3.out.1 (HC.out u3 H3.out.2.2.2).1.2).mono ?_; rintro e u4 ⟨rfl, hb⟩
       have H4 : Hid (Below u3.heap.size u3 u4 ∧ Below w8.heap.size w8 u4) := ⟨hb, H3.out.2.2.2.trans (hb.mono H3.out.2.2.2.size)⟩
       have f1 := (HC.out u4 H4.out.2).2.1.1
       clear hb K0)
    | (go_at_call 8; have hh := K1.out; clear hh; refine (CS.out u4 _ _ _ _ p1 l1 (H3.out.2.1.on H4.out.1) (HC.out u4 H4.out.2).2.1.2).mono ?_; rintro e u5 ⟨rfl, hb⟩
       have H5 : Hid (Below u3.heap.size u3 u5 ∧ Below w8.heap.size w8 u5) := ⟨H4.out.1.trans (hb.mono H4.out.1.size), H4.out.2.trans (hb.mono H4.out.2.size)⟩
       have f2 := (HC.out u5 H5.out.2).2.2.1
       clear hb K1)
    | (go_at_call 8; refine (CS.out u5 _ _ _ _ p2 l2 (H3.out.2.2.1.on H5.out.1) (HC.out u5 H5.out.2).2.2.2).mono ?_; rintro e u6 ⟨rfl, hb⟩
       have H6 : Hid (Below w8.heap.size w8 u6) := H5.out.2.trans (hb.mono H5.out.2.size)
       clear hb))
  go_ret
  exact ⟨rfl, H8.out.2.trans (H6.out.mono H8.out.2.size)⟩
end Go.Proofs.Ytmecmeonahodaaa
