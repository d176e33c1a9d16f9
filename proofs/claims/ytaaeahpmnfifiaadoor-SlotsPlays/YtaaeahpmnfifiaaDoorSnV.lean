import Derived.Test.YtaaeahpmnfifiaaDoorSnU
namespace Go.Proofs.YtaaeahpmnfifiaaDoor
open Go.RowKit Rec Sc
theorem wp_bcopyO {ops : Array Oper} {rest : List Oper} {o : Oper} {a : Act} {Q : Exit → Act → World → Prop} {w7 : World} (hgd : o.guard = none) (s x : Operand)
    (ho : o.op = .call { callee := .builtin .append, args := #[s, x], argTypes := #[25, 25] }) (G : Nat) (hG : w7.heap.size = G) (hs : a.eval s = .slice (some ⟨G, 0, none⟩) 0 0)
    (ad : Option Addr) (m c : Nat) (y : List Int) (hx : a.eval x = .slice ad m c) (hl : y.length = m) (hb : Bytes w7 ad y) (hz : ad = none → c = 0) (h47 : m ≤ 140737488355328)
    (h : ∀ g cap w', OwnB w' g cap y → Below w7.heap.size w7 w' → w7.heap.size ≤ g → m ≤ cap → wpList Tryd.prog ops Q rest (a.put o.dst (.slice (some ⟨g, 0, none⟩) m cap)) w') :
    wpList Tryd.prog ops Q (o :: rest) a (w7.alloc (.cells #[] 5)) := by
  subst hG
  have hA : Below w7.heap.size w7 (w7.alloc (.cells #[] 5)) := (Below.refl _ _).alloc (Nat.le_refl _) _
  have hE : OwnB (w7.alloc (.cells #[] 5)) w7.heap.size 0 [] := own_empty (heap_alloc_new _ _)
  refine wp_app hgd s x ho w7.heap.size w7.heap.size 0 0 [] y rfl hs hE (Nat.le_refl _) hA.size ad m c hx hl (hb.on hA) hz (by omega) ?_
  intro g cap w2 hg ho' hgr
  rw [List.nil_append] at ho'
  rw [Nat.zero_add]
  exact h g cap w2 ho' (hA.grown hgr hA.size (by intro k hk; cases hk; exact Nat.le_refl _)) hg (by have := ho'.room; omega)
theorem xor_bd (c y : Int) (hc : 0 ≤ c ∧ c < 256) (hy : 0 ≤ y ∧ y < 256) : 0 ≤ bits .xor .u8 c y ∧ bits .xor .u8 c y < 256 := by
  obtain ⟨C, rfl⟩ := Int.eq_ofNat_of_zero_le hc.1
  obtain ⟨Y, rfl⟩ := Int.eq_ofNat_of_zero_le hy.1
  have hC : C < 2 ^ 8 := by omega
  have hY : Y < 2 ^ 8 := by omega
  have hlt : C ^^^ Y < 2 ^ 8 := Nat.xor_lt_two_pow hC hY
  rw [u8_xor_nat C Y (by omega) (by omega)]
  omega
/-- one of the rows -/
def RowK (w : World) (rb k : Nat) : Prop := ∃ (g c cap : Nat) (L : List Int), w.cell? ⟨rb, k, none⟩ = some (.slice (some ⟨g, 0, none⟩) L.length c) ∧ OwnB w g cap L ∧ L.length ≤ c ∧ L.length ≤ 140737488355328
theorem RowK.on {w w' : World} {rb k : Nat} (h : RowK w rb k) (hb : Below w.heap.size w w') : RowK w' rb k := by
  obtain ⟨g, c, cap, L, h1, h2, h3⟩ := h
  exact ⟨g, c, cap, L, (hb.cell (block_lt_of_cell h1)).trans h1, h2.on hb, h3⟩
set_option maxRecDepth 100000 in
set_option maxHeartbeats 8000000 in
theorem reads_any (w : World) (a : Option Addr) (n c : Nat) (L : List Int) (x0 x1 : Int) (hB : Bytes w a L) (hn : L.length = n) (hz : a = none → c = 0) (h47 : n ≤ 140737488351232) (hx1 : 0 ≤ x1 ∧ x1 < 256) (hT : TabAt w) :
    Calls Tryd.prog 6 #[.slice a n c, .int .i64 x0, .int .u8 x1] w fun e w' => e = .returned (.bool true) ∧ Below w.heap.size w w' := by
  obtain ⟨o, E, hO⟩ := make512
  have HO : Hid (∀ w : World, OwnB (w.alloc o) w.heap.size 512 z512) := hO
  have HF : Hid (Calls Tryd.prog 8 #[] w fun e w' => e = .returned (.bool true) ∧ Below w.heap.size w w') := sfixed_any w hT
  have HT : Hid (TabAt w) := hT
  have HB : Hid (Bytes w a L) := hB
  have HM : Hid (∀ (wx : World) (v : Int), Calls Tryd.prog 11 #[.int .i64 v, .int .i64 512] wx fun e w' => e = .returned (.int .i64 (v % 512)) ∧ wx = w') := fun wx v => modI_any wx v 512 (by omega) (by omega)
  clear hO hT hB
  go_enter Tryd.func6, Tryd.ntmps6
  go_upto_block 0 with (first
    | (go_at_call 8; refine HF.out.mono ?_; rintro e w1 ⟨rfl, hb1⟩; have HB1 : Hid (Below w.heap.size w w1) := hb1; clear hb1))
  clear HF
  obtain ⟨q, hq⟩ : ∃ q, w1.heap.size = q := ⟨_, rfl⟩
  obtain ⟨w2, hw2⟩ : ∃ w2, w1.alloc o = w2 := ⟨_, rfl⟩
  have hqP : w.heap.size ≤ q := by rw [← hq]; exact HB1.out.size
  have H2 : Hid (OwnB w2 q 512 z512 ∧ Below w.heap.size w w2) := by
    have h1 : Below w1.heap.size w1 (w1.alloc o) := (Below.refl _ _).alloc (Nat.le_refl _) _
    rw [← hw2, ← hq]
    exact ⟨HO.out w1, HB1.out.trans (h1.mono HB1.out.size)⟩
  rw [hw2, hq]
  clear hw2 hq HB1 HO E
  go_cut [] (fun wx => ∃ M : List Int, M.length = 512 ∧ OwnB wx q 512 M ∧ Below w.heap.size w wx)
  case first => as_aux_lemma =>
    go_wp2
    go_loopw [8] (fun i wr => ∃ (k : Nat) (M : List Int), k ≤ n ∧ k ≤ 512 ∧ i = .int .i64 k ∧ M.length = 512 ∧ OwnB wr q 512 M ∧ Below w.heap.size w wr) (fun i _ => n - (intOf i).toNat)
    case atStart => exact ⟨0, z512, Nat.zero_le _, Nat.zero_le _, rfl, by simp, H2.out⟩
    case round =>
      obtain ⟨k, M, hk, hk5, rfl, hM, hI⟩ := hrel
      have HI : Hid (OwnB wr q 512 M ∧ Below w.heap.size w wr) := hI
      clear hI H2
      by_cases hlt : k < n
      · have hlt' : (k : Int) < (n : Int) := by omega
        by_cases hl5 : k < 512
        · have hl5' : (k : Int) < 512 := by omega
          obtain ⟨b1, o1, rfl, h1⟩ : ∃ b o, a = some ⟨b, o, none⟩ ∧ wr.cell? ⟨b, o + k, none⟩ = some (.int .u8 (nth L k)) := by
            rcases HB.out.at_ with e | ⟨b, o, e, hc⟩
            · subst e; simp at hn; omega
            · exact ⟨b, o, e, (HI.out.2.cell (block_lt_of_cell (hc k (by omega)))).trans (hc k (by omega))⟩
          have k0 := HI.out.1.cell k (by omega)
          have k1 := HI.out.1.frozen k
          have H3 : Hid (OwnB (wr.setCell ⟨q, k, none⟩ (.int .u8 (nth L k))) q 512 (M.set k (nth L k)) ∧ Below w.heap.size w (wr.setCell ⟨q, k, none⟩ (.int .u8 (nth L k)))) := ⟨HI.out.1.set k _ (by omega) (HB.out.wf k), HI.out.2.setCell (show w.heap.size ≤ q by omega) _⟩
          go_wp2
          go_roundw
          case rel =>
            first
              | exact ⟨k + 1, M.set k (nth L k), by omega, by omega, by go_num, by rw [List.length_set]; exact hM, H3.out⟩
              | ((repeat apply Exists.intro)
                 refine ⟨?_, rfl⟩
                 exact ⟨k + 1, M.set k (nth L k), by omega, by omega, by go_num, by rw [List.length_set]; exact hM, H3.out⟩)
          case measure => simp [intOf]; omega
        · have hl5' : ¬ (k : Int) < 512 := by omega
          go_wp2
          go_meet
          exact ⟨M, hM, HI.out⟩
      · have hlt' : ¬ (k : Int) < (n : Int) := by omega
        go_wp2
        go_meet
        exact ⟨M, hM, HI.out⟩
  case rest =>
    obtain ⟨M, hM, hI⟩ := hcut
    have HI : Hid (OwnB wc q 512 M ∧ Below w.heap.size w wc) := hI
    clear hI H2
    obtain ⟨t, ht⟩ : ∃ t : Nat, x0 % 512 = t := ⟨(x0 % 512).toNat, by omega⟩
    have ht5 : t < 512 := by omega
    have HMt : Hid (∀ wx, Calls Tryd.prog 11 #[.int .i64 x0, .int .i64 512] wx fun e w' => e = .returned (.int .i64 (t : Int)) ∧ wx = w') := fun wx => by
      rw [← ht]; exact HM.out wx x0
    clear ht
    go_upto_region 11 with (first
      | (at_builtin; refine wp_bcopyO (w7 := wc) rfl (.tmp 41) (.tmp 42) rfl wc.heap.size rfl rfl (some ⟨q, 0, none⟩) 512 512 M rfl hM HI.out.1.bytes (fun h => by cases h) (by omega) ?_
         intro u cu w3 ho hb hu hcu
         have H3 : Hid (OwnB w3 u cu M ∧ Below wc.heap.size wc w3 ∧ wc.heap.size ≤ u) := ⟨ho, hb, hu⟩
         have k0 := ho.cell t (by omega)
         have k1 := ho.frozen t
         clear ho hb hu)
      | (go_at_call 11; refine (HMt.out _).mono ?_; rintro e w' ⟨rfl, rfl⟩))
    obtain ⟨w4, hw4⟩ : ∃ w4, w3.setCell ⟨u, t, none⟩ (.int .u8 (bits .xor .u8 (nth M t) x1)) = w4 := ⟨_, rfl⟩
    obtain ⟨T2, hT2⟩ : ∃ T2, M.set t (bits .xor .u8 (nth M t) x1) = T2 := ⟨_, rfl⟩
    have H4 : Hid ((OwnB w4 q 512 M ∧ OwnB w4 u cu T2 ∧ T2.length = 512) ∧ Below w.heap.size w w4) := by
      rw [← hw4, ← hT2]
      have hq3 := HI.out.1.on H3.out.2.1
      have hne : u ≠ q := by have := HI.out.1.lt; have := H3.out.2.2; omega
      refine ⟨⟨hq3.grown (r := some u) grown_set (fun e => hne (by cases e; rfl)), H3.out.1.set t _ (by omega) (xor_bd _ _ (H3.out.1.wf t) hx1), by rw [List.length_set]; exact hM⟩, (HI.out.2.trans (H3.out.2.1.mono HI.out.2.size)).setCell (show w.heap.size ≤ u from ?_) _⟩
      have := HI.out.2.size; have := H3.out.2.2; omega
    rw [hw4]
    clear hw4 hT2 k0 k1 H3 HI
    go_upto_region 12 with (first
      | (at_builtin; refine wp_bcopyO (w7 := w4) rfl (.tmp 55) (.tmp 56) rfl w4.heap.size rfl rfl a n c L rfl hn (HB.out.on H4.out.2) hz (by omega) ?_
         intro g1 c1 w5 ho hb hg hcu
         have H5 : Hid ((OwnB w5 g1 c1 L ∧ n ≤ c1) ∧ Below w4.heap.size w4 w5) := ⟨⟨ho, hcu⟩, hb⟩
         clear ho hb hg))
    obtain ⟨rb, hrb⟩ : ∃ rb, w5.heap.size = rb := ⟨_, rfl⟩
    obtain ⟨w6, hw6⟩ : ∃ w6, w5.alloc (.cells #[.slice (some ⟨g1, 0, none⟩) n c1, .slice (some ⟨q, 0, none⟩) 512 512, .slice (some ⟨u, 0, none⟩) 512 cu] 25) = w6 := ⟨_, rfl⟩
    have H6 : Hid ((∀ k, k < 3 → RowK w6 rb k) ∧ Below w.heap.size w w6) := by
      have h1 : Below w5.heap.size w5 w6 := by rw [← hw6]; exact (Below.refl _ _).alloc (Nat.le_refl _) _
      have hh : w6.heap[rb]? = some (.cells #[.slice (some ⟨g1, 0, none⟩) n c1, .slice (some ⟨q, 0, none⟩) 512 512, .slice (some ⟨u, 0, none⟩) 512 cu] 25 (0, 0)) := by rw [← hw6, ← hrb]; exact heap_alloc_new _ _
      have hb46 : Below w4.heap.size w4 w6 := H5.out.2.trans (h1.mono H5.out.2.size)
      refine ⟨fun k hk => ?_, H4.out.2.trans (hb46.mono H4.out.2.size)⟩
      match k, hk with
      | 0, _ => exact ⟨g1, c1, c1, L, by rw [hn]; exact cell_of_row _ _ 0 _ _ _ hh, H5.out.1.1.on h1, by have := H5.out.1.2; omega, by omega⟩
      | 1, _ => exact ⟨q, 512, 512, M, by rw [hM]; exact cell_of_row _ _ 1 _ _ _ hh, H4.out.1.1.on hb46, by omega, by omega⟩
      | 2, _ => exact ⟨u, cu, cu, T2, by rw [H4.out.1.2.2]; exact cell_of_row _ _ 2 _ _ _ hh, H4.out.1.2.1.on hb46, H4.out.1.2.1.room, by have := H4.out.1.2.2; omega⟩
    rw [hw6, hrb]
    clear hw6 hrb H5 H4 HB
    go_wp2
    go_loopw [11] (fun i wr => ∃ k : Nat, k ≤ 3 ∧ i = .int .i64 (k : Int) ∧ Below w6.heap.size w6 wr) (fun i _ => 3 - (intOf i).toNat)
    case atStart => exact ⟨0, Nat.zero_le _, rfl, Below.refl _ _⟩
    case round =>
      obtain ⟨k, hk, rfl, hI⟩ := hrel
      have HI : Hid (Below w6.heap.size w6 wr) := hI
      clear hI
      have HBw : Hid (Below w.heap.size w wr) := H6.out.2.trans (HI.out.mono H6.out.2.size)
      by_cases hlt : k < 3
      · have hlt' : (k : Int) < 3 := by omega
        obtain ⟨g, cg, cap, R, hcell, hown, hcl, hl47⟩ := (H6.out.1 k hlt).on HI.out
        have HOw : Hid (∀ wx, Below wr.heap.size wr wx → Bytes wx (some ⟨g, 0, none⟩) R ∧ wx.cell? ⟨rb, k, none⟩ = some (.slice (some ⟨g, 0, none⟩) R.length cg) ∧ TabAt wx) := fun wx hb => ⟨hown.bytes.on hb, (hb.cell (block_lt_of_cell hcell)).trans hcell, HT.out.on (HBw.out.trans (hb.mono HBw.out.size))⟩
        have hTl := tlU_len R
        have HS : Hid (∀ wx a1 m1 a2 m2, EntAt wx a1 (tlU R) → EntAt wx a2 (tlU R) → Calls Tryd.prog 15 #[.slice a1 (tlU R).length m1, .slice a2 (tlU R).length m2] wx fun e w' => e = .returned (.bool true) ∧ Below wx.heap.size wx w') := fun wx a1 m1 a2 m2 h1 h2 => by
          refine (sameE_any wx _ _ _ m1 _ m2 _ _ h1 h2 rfl rfl (by omega)).mono ?_
          rintro e w' ⟨rfl, k, rfl⟩
          exact ⟨by simp, drewN_below wx k⟩
        have HSB : Hid (∀ wx g2 c2, Bytes wx (some ⟨g, 0, none⟩) R → Bytes wx (some ⟨g2, 0, none⟩) R → Calls Tryd.prog 16 #[.slice (some ⟨g, 0, none⟩) R.length cg, .slice (some ⟨g2, 0, none⟩) R.length c2] wx fun e w' => e = .returned (.bool true) ∧ Below wx.heap.size wx w') := fun wx g2 c2 h1 h2 => by
          refine (sameB_any wx _ _ _ cg _ c2 R R h1 h2 rfl rfl).mono ?_
          rintro e w' ⟨rfl, k, rfl⟩
          exact ⟨by simp, drewN_below wx k⟩
        obtain ⟨T, hT⟩ : ∃ T, tlU R = T := ⟨_, rfl⟩
        obtain ⟨er, her⟩ : ∃ er, erU R = er := ⟨_, rfl⟩
        obtain ⟨lw, hlw⟩ : ∃ lw, lwU R = lw := ⟨_, rfl⟩
        have C1 : Hid (∀ wx, Below wr.heap.size wr wx → Calls Tryd.prog 17 #[.slice (some ⟨g, 0, none⟩) R.length cg] wx fun e w' => ∃ a m, e = .returned (.tuple #[.slice a T.length m, .int .i64 er]) ∧ EntAt w' a T ∧ Below wx.heap.size wx w') := fun wx hb => by
          have := rreadU wx g cg R (HOw.out wx hb).1 hcl
          rw [hT, her] at this; exact this
        have C2 : Hid (∀ wx, Below wr.heap.size wr wx → Calls Tryd.prog 18 #[.slice (some ⟨g, 0, none⟩) R.length cg] wx fun e w' => e = .returned (.tuple #[.int .i64 lw, .int .i64 er]) ∧ Below wx.heap.size wx w') := fun wx hb => by
          have := rlowU wx g cg R (HOw.out wx hb).1 hcl
          rw [hlw, her] at this; exact this
        have C3 : Hid (∀ wx, Below wr.heap.size wr wx → Calls Tryd.prog 13 #[.slice (some ⟨g, 0, none⟩) R.length cg] wx fun e w' => ∃ a m, e = .returned (.tuple #[.slice a T.length m, .int .i64 er]) ∧ EntAt w' a T ∧ Below wx.heap.size wx w') := fun wx hb => by
          have := readU wx g cg R (HOw.out wx hb).1 hcl (HOw.out wx hb).2.2
          rw [hT, her] at this; exact this
        have C4 : Hid (∀ wx, Below wr.heap.size wr wx → Calls Tryd.prog 14 #[.slice (some ⟨g, 0, none⟩) R.length cg] wx fun e w' => e = .returned (.tuple #[.int .i64 lw, .int .i64 er]) ∧ Below wx.heap.size wx w') := fun wx hb => by
          have := lowU wx g cg R (HOw.out wx hb).1 hcl (HOw.out wx hb).2.2
          rw [hlw, her] at this; exact this
        rw [hT] at HS hTl
        clear hT her hlw hown
        go_wp2_with (first
          | (go_at_call 17; refine (C1.out _ (Below.refl _ _)).mono ?_; rintro e v1 ⟨a1, m1, rfl, he1, hb1⟩
             have HE1 : Hid (EntAt v1 a1 T) := he1
             have K1 : Hid (Below wr.heap.size wr v1) := hb1
             have x1 := (HOw.out _ hb1).2.1
             clear he1 hb1)
          | (go_at_call 18; refine (C2.out _ K1.out).mono ?_; rintro e v2 ⟨rfl, hb2⟩
             have HE2 : Hid (EntAt v2 a1 T) := HE1.out.on hb2
             have K2 : Hid (Below wr.heap.size wr v2) := K1.out.trans (hb2.mono K1.out.size)
             have x2 := (HOw.out _ K2.out).2.1
             have x2a : ∀ o', (v2.alloc o').cell? ⟨rb, k, none⟩ = some (.slice (some ⟨g, 0, none⟩) R.length cg) := fun o' => (HOw.out _ (K2.out.alloc K2.out.size o')).2.1
             clear hb2)
          | (at_builtin; refine wp_bcopyO (w7 := v2) rfl (.tmp 83) (.tmp 87) rfl v2.heap.size rfl rfl (some ⟨g, 0, none⟩) R.length cg R rfl rfl (HOw.out _ K2.out).1 (fun h => by cases h) hl47 ?_
             intro g2 c2 v3 ho hb3 hg hcu
             have HO3 : Hid (OwnB v3 g2 c2 R) := ho
             have HE3 : Hid (EntAt v3 a1 T) := HE2.out.on hb3
             have K3 : Hid (Below wr.heap.size wr v3) := K2.out.trans (hb3.mono K2.out.size)
             have x3 := (HOw.out _ K3.out).2.1
             clear ho hb3 hg hcu)
          | (go_at_call 13; refine (C3.out _ K3.out).mono ?_; rintro e v4 ⟨a4, m4, rfl, he4, hb4⟩
             have HG4 : Hid (EntAt v4 a4 T) := he4
             have HO4 : Hid (OwnB v4 g2 c2 R) := HO3.out.on hb4
             have HE4 : Hid (EntAt v4 a1 T) := HE3.out.on hb4
             have K4 : Hid (Below wr.heap.size wr v4) := K3.out.trans (hb4.mono K3.out.size)
             have x4 := (HOw.out _ K4.out).2.1
             clear he4 hb4)
          | (go_at_call 14; refine (C4.out _ K4.out).mono ?_; rintro e v5 ⟨rfl, hb5⟩
             have HG5 : Hid (EntAt v5 a4 T) := HG4.out.on hb5
             have HO5 : Hid (OwnB v5 g2 c2 R) := HO4.out.on hb5
             have HE5 : Hid (EntAt v5 a1 T) := HE4.out.on hb5
             have K5 : Hid (Below wr.heap.size wr v5) := K4.out.trans (hb5.mono K4.out.size)
             have x5 := (HOw.out _ K5.out).2.1
             clear hb5)
          | (go_at_call 15; refine (HS.out _ _ _ _ _ HG5.out HE5.out).mono ?_; rintro e v6 ⟨rfl, hb6⟩
             have HO6 : Hid (OwnB v6 g2 c2 R) := HO5.out.on hb6
             have K6 : Hid (Below wr.heap.size wr v6) := K5.out.trans (hb6.mono K5.out.size)
             have x6 := (HOw.out _ K6.out).2.1
             clear hb6)
          | (go_at_call 16; refine (HSB.out _ _ _ (HOw.out _ K6.out).1 HO6.out.bytes).mono ?_; rintro e v7 ⟨rfl, hb7⟩
             have K7 : Hid (Below wr.heap.size wr v7) := K6.out.trans (hb7.mono K6.out.size)
             clear hb7))
        go_roundw
        case rel =>
          first
            | exact ⟨k + 1, by omega, by go_num, HI.out.trans (K7.out.mono HI.out.size)⟩
            | ((repeat apply Exists.intro)
               refine ⟨?_, rfl⟩
               exact ⟨k + 1, by omega, by go_num, HI.out.trans (K7.out.mono HI.out.size)⟩)
        case measure => simp [intOf]; omega
      · obtain rfl : k = 3 := by omega
        go_wp2
        go_ret
        exact ⟨rfl, HBw.out⟩
end Go.Proofs.YtaaeahpmnfifiaaDoor
