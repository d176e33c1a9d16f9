import Derived.Test.YtcbebalakdkgnaaGreatDoorKXtE
import Derived.Test.YtcbebalakdkgnaaGreatDoorXtH
import Derived.Test.YtcbebalakdkgnaaGreatDoorKXsO
import Derived.Test.YtcbebalakdkgnaaGreatDoorKbN
namespace Go.Proofs.YtcbebalakdkgnaaGreatDoor
open Go.RowKit Rec
set_option maxRecDepth 100000 in
set_option maxHeartbeats 800000 in
theorem vmod_any (w : World) (v : Int) (n : Nat) (h0 : 0 < n) (h1 : n ≤ 1000000000) :
    Calls Tryz.prog 4 #[.int .i64 v, .int .i64 n] w fun e w' => e = .returned (.int .i64 (v % n)) ∧ w = w' := by
  go_enter Tryz.func4, Tryz.ntmps4
  by_cases h : v.tmod n < 0
  · have h2 : -(n : Int) ≤ v.tmod n := by
      have := tmod_neg v n h0 h
      have := Int.emod_nonneg v (b := n) (by omega)
      omega
    go_wp2
    go_ret
    refine ⟨?_, rfl⟩
    show Ending.returned (Value.int IntKind.i64 (v.tmod n + n)) = _
    rw [tmod_neg v n h0 h]
  · go_wp2
    go_ret
    refine ⟨?_, rfl⟩
    show Ending.returned (Value.int IntKind.i64 (v.tmod n)) = _
    rw [tmod_pos v n h0 (by omega)]
theorem eql_ptrR (w : World) (p : Addr) : (binOp .eql 28 (.pointer (some p)) (.pointer none)).run Tryz.prog w = .ok (.bool false) w := by
  have h : ∀ d : Nat, (Op.equalIn (d + 1) 28 (.pointer (some p)) (.pointer none)).run Tryz.prog w = .ok false w := fun d => by
    simp [Op.equalIn, run_underlying Tryz.underlying28]
  simp only [binOp]
  simp [Op.equal, Op.maxDepth, h 9999]
set_option maxRecDepth 100000 in
set_option maxHeartbeats 16000000 in
theorem txnPlays_any (w : World) (x : Int) (a : Option Addr) (m c : Nat) (L : List OpX) (hL : SrX w a L) (hm : L.length = m) (hmb : m ≤ 1048576) (hT : TabAt w) :
    Calls Tryz.prog 3 #[.int .i64 x, .slice a m c] w fun e w' => e = .returned (.bool true) ∧ Below w.heap.size w w' := by
  have HL : Hid (SrX w a L ∧ L.length = m ∧ m ≤ 1048576) := ⟨hL, hm, hmb⟩
  have HT : Hid (TabAt w) := hT
  clear hL hm hmb hT
  obtain ⟨nb, hnb⟩ : ∃ nb : Nat, 90 + x % 34 = (nb : Int) := ⟨(90 + x % 34).toNat, by omega⟩
  have hnb0 : 1 ≤ nb := by omega
  have hnb1 : nb ≤ 16384 := by omega
  have HN1 : Hid (1 < nb) := by show 1 < nb; omega
  obtain ⟨xm, hxm⟩ : ∃ xm, x % 34 = xm := ⟨_, rfl⟩
  rw [hxm] at hnb
  have HM : Hid (∀ wx, Calls Tryz.prog 4 #[.int .i64 x, .int .i64 34] wx fun e w' => e = .returned (.int .i64 xm) ∧ wx = w') := fun wx => by
    have := vmod_any wx x 34 (by omega) (by omega); rw [show (x % ((34 : Nat) : Int)) = xm from hxm] at this; exact this
  have hx0 : 0 ≤ xm := by omega
  have hx1 : xm < 34 := by omega
  clear hxm
  have E1 := eql_ptr1
  have E2 := eql_ptrR
  go_enter Tryz.func3, Tryz.ntmps3
  go_upto_region 2 with (go_at_call 4; refine (HM.out _).mono ?_; rintro e w' ⟨rfl, rfl⟩)
  clear hnb hx0 hx1
  go_upto_region 3 with (go_at_call 5; refine (new_yes w nb hnb0 hnb1).mono ?_; rintro e w2 ⟨d2, nw, L2, capL, rfl, hd, hnw, hL2, hD, hb2⟩; have H2 : Hid ((w.heap.size ≤ d2 ∧ w.heap.size ≤ nw ∧ w.heap.size ≤ L2) ∧ Disk w2 (newDk d2 L2 nw capL nb (zsA (512 * nb))) ∧ Below w.heap.size w w2) := ⟨⟨hd, hnw, hL2⟩, hD, hb2⟩; clear hd hnw hL2 hD hb2)
  go_upto_region 4 with (go_at_call 6; refine (rnew_yes w2 nb hnb0 hnb1).mono ?_; rintro e w4 ⟨r2, g4, cap4, rfl, hr, hg, hR, hb⟩; have H4 : Hid ((w2.heap.size ≤ r2 ∧ w2.heap.size ≤ g4) ∧ RDisk w4 (newR r2 nb g4 cap4 (zsA (512 * nb))) ∧ Below w2.heap.size w2 w4) := ⟨⟨hr, hg⟩, hR, hb⟩; clear hr hg hR hb)
  have HN : Hid (NewW w w4 (newDk d2 L2 nw capL nb (zsA (512 * nb))) (newR r2 nb g4 cap4 (zsA (512 * nb))) 0) := new_ww H2.out.1 H2.out.2.1 H4.out.1 H4.out.2.1 (Below.refl _ _) H2.out.2.2 (Below.refl _ _) H4.out.2.2
  have HP0 : Hid (XB0 w (w4.alloc (.cells #[.pointer (some ⟨d2, 0, none⟩), .pointer (some ⟨r2, 0, none⟩), .pointer none, .pointer none] 35)) w4.heap.size (newDk d2 L2 nw capL nb (zsA (512 * nb))) (newR r2 nb g4 cap4 (zsA (512 * nb))) 0 (.pointer none) (.pointer none)) := XB0.start HN.out (rs_new d2 L2 nw capL nb _ (zsA_length _) (zsA_block nb 1 HN1.out))
  obtain ⟨P, hP⟩ : ∃ P, w4.heap.size = P := ⟨_, rfl⟩
  obtain ⟨w5, hw5⟩ : ∃ w5, w4.alloc (.cells #[.pointer (some ⟨d2, 0, none⟩), .pointer (some ⟨r2, 0, none⟩), .pointer none, .pointer none] 35) = w5 := ⟨_, rfl⟩
  rw [hw5, hP] at HP0
  go_upto_region 7 with fail
  try rw [hP]
  try rw [hw5]
  clear hP hw5 HN H4 H2
  go_upto_region 9 with (go_at_call 7; refine (begins0_any HP0.out rfl rfl).mono ?_; rintro e w6 ⟨rfl, T0, U0, h6⟩; have H6 : Hid (XS w (w6.alloc (.cells (Kb0 w6.heap.size).cells 41)) P (newDk d2 L2 nw capL nb (zsA (512 * nb))) (newR r2 nb g4 cap4 (zsA (512 * nb))) T0 U0 (Kb0 w6.heap.size) 0) := h6; clear h6)
  obtain ⟨kb, hkb⟩ : ∃ kb, w6.heap.size = kb := ⟨_, rfl⟩
  obtain ⟨w7, hw7⟩ : ∃ w7, w6.alloc (.cells #[.slice none 0 0, .slice none 0 0, .slice none 0 0] 41) = w7 := ⟨_, rfl⟩
  have H7 : Hid (∃ D R T U K, XS w w7 P D R T U K 0 ∧ K.kb = kb) := ⟨_, _, T0, U0, Kb0 kb, by rw [← hw7, ← hkb]; exact H6.out, rfl⟩
  go_upto_region 10 with fail
  try rw [hkb]
  try rw [hw7]
  clear hkb hw7 H6 HP0
  go_wp2
  go_loopw [50] (fun s50 wr => ∃ i : Nat, s50 = .int .i64 (i : Int) ∧ i ≤ m ∧ ∃ D R T U K, XS w wr P D R T U K i ∧ K.kb = kb) (fun s50 _ => m - (intOf s50).toNat)
  case atStart => exact ⟨0, rfl, Nat.zero_le _, H7.out⟩
  case round =>
    obtain ⟨i, rfl, hi, D, R, T, U, K, hX, hkb⟩ := hrel
    have HX : Hid (XS w wr P D R T U K i ∧ K.kb = kb) := ⟨hX, hkb⟩
    clear hX hkb H7
    by_cases hlm : i < m
    · have hlmb : (i : Int) < (m : Int) := by omega
      have hib : i < 1048576 := by have := HL.out.2.2; omega
      have hil : i < L.length := by rw [HL.out.2.1]; exact hlm
      obtain ⟨q, hq⟩ : ∃ q, L[i]? = some q := ⟨_, List.getElem?_eq_getElem hil⟩
      obtain ⟨b, off, rfl, _⟩ := HL.out.1.at_.resolve_left (by intro e; rw [e] at hil; simp at hil)
      have HQ : Hid (OpXIn w q) := HL.out.1.each q (List.mem_of_getElem? hq)
      obtain ⟨s0, s1, s2, s3, s4⟩ := HL.out.1.cells HX.out.1.ws.be hq
      obtain ⟨qk, qn, qx, ba, bn, bc, ka, kn, kc, qB, qK⟩ := q
      simp only at s0 s1 s2 s3 s4
      clear hil hq
      obtain ⟨O, hO⟩ : ∃ O, wr.heap.size = O := ⟨_, rfl⟩
      obtain ⟨wo, hwo⟩ : ∃ wo, wr.alloc (.cells #[.int .i64 qk, .int .i64 qn, .int .u8 qx, .slice ba bn bc, .slice ka kn kc] 45) = wo := ⟨_, rfl⟩
      have hAo : Below wr.heap.size wr wo := by rw [← hwo]; exact (Below.refl _ _).alloc (Nat.le_refl _) _
      have HPo : Hid (XS w wo P D R T U K i) := HX.out.1.on hAo
      have z2 : wo.heap[O]? = some (.cells #[.int .i64 qk, .int .i64 qn, .int .u8 qx, .slice ba bn bc, .slice ka kn kc] 45 (0, 0)) := by rw [← hwo, ← hO]; exact heap_alloc_new _ _
      have HSt : Hid (Calls Tryz.prog 8 #[.pointer (some ⟨P, 0, none⟩), .agg #[.int .i64 qk, .int .i64 qn, .int .u8 qx, .slice ba bn bc, .slice ka kn kc], .pointer (some ⟨kb, 0, none⟩)] wo (PlP w P i kb)) := (by
        have := xplay_any HPo.out HT.out (by have := HL.out.2.2; omega) ⟨qk, qn, qx, ba, bn, bc, ka, kn, kc, qB, qK⟩ HQ.out
        unfold OpX.cs at this
        rw [HX.out.2] at this
        exact this)
      go_upto_region 13 with fail
      try rw [hO]
      try rw [hwo]
      clear hO hwo hAo s0 s1 s2 s3 s4
      have o0 : wo.cell? ⟨O, 0, none⟩ = some (.int .i64 qk) := cell_of_row _ _ 0 _ _ _ z2
      have o1 : wo.cell? ⟨O, 1, none⟩ = some (.int .i64 qn) := cell_of_row _ _ 1 _ _ _ z2
      have o2 : wo.cell? ⟨O, 2, none⟩ = some (.int .u8 qx) := cell_of_row _ _ 2 _ _ _ z2
      have o3 : wo.cell? ⟨O, 3, none⟩ = some (.slice ba bn bc) := cell_of_row _ _ 3 _ _ _ z2
      have o4 : wo.cell? ⟨O, 4, none⟩ = some (.slice ka kn kc) := cell_of_row _ _ 4 _ _ _ z2
      clear z2
      go_upto_region 15 with (go_at_call 8; refine HSt.out.mono ?_; rintro e w1 ⟨rfl, D', R', T', U', K', hE, hkb'⟩; have HP1 : Hid (XS w w1 P D' R' T' U' K' (i + 1) ∧ K'.kb = kb) := ⟨hE, hkb'⟩
                              obtain ⟨d', hd'⟩ : ∃ d', D'.d = d' := ⟨_, rfl⟩
                              obtain ⟨r', hr'⟩ : ∃ r', R'.r = r' := ⟨_, rfl⟩
                              obtain ⟨y', hy'⟩ : ∃ y', R'.out = y' := ⟨_, rfl⟩
                              obtain ⟨wn, hwn⟩ : ∃ wn : Int, R'.wr = wn := ⟨_, rfl⟩
                              obtain ⟨fn, hfn⟩ : ∃ fn : Int, R'.fl = fn := ⟨_, rfl⟩
                              have HDR : Hid (D'.d = d' ∧ R'.r = r' ∧ R'.out = y' ∧ R'.wr = wn ∧ R'.fl = fn) := ⟨hd', hr', hy', hwn, hfn⟩
                              have c0 : w1.cell? ⟨P, 0, none⟩ = some (.pointer (some ⟨d', 0, none⟩)) := (by rw [← HDR.out.1]; exact HP1.out.1.ptrs.1)
                              clear hE hkb' hd' hr' hy' hwn hfn o0 o1 o2 o3 o4)
      have HSp : Hid (Calls Tryz.prog 9 #[.pointer (some ⟨d', 0, none⟩)] w1 fun e w' => e = .returned (.tuple #[.int .i64 wn, .int .i64 fn]) ∧ Below w1.heap.size w1 w') := by
        have := steps_any w1 D' HP1.out.1.ws.d
        have t5 : (D'.wr : Int) = R'.wr := HP1.out.1.ws.t.tie.wr
        have t6 : (D'.fl : Int) = R'.fl := HP1.out.1.ws.t.tie.fl
        rw [HDR.out.1, t5, t6, HDR.out.2.2.2.1, HDR.out.2.2.2.2] at this
        exact this
      go_upto_region 16 with (go_at_call 9; refine HSp.out.mono ?_; rintro e w2 ⟨rfl, hb⟩; have H2 : Hid (Below w1.heap.size w1 w2) := hb; clear hb c0)
      have HX2 : Hid (XS w w2 P D' R' T' U' K' (i + 1)) := HP1.out.1.on H2.out
      have c0 : w2.cell? ⟨P, 0, none⟩ = some (.pointer (some ⟨d', 0, none⟩)) := by rw [← HDR.out.1]; exact HX2.out.ptrs.1
      have c1 : w2.cell? ⟨P, 1, none⟩ = some (.pointer (some ⟨r', 0, none⟩)) := by rw [← HDR.out.2.1]; exact HX2.out.ptrs.2.1
      have c4 : w2.cell? ⟨r', 4, none⟩ = some (.bool y') := by rw [← HDR.out.2.1, ← HDR.out.2.2.1]; exact HX2.out.ws.t.r.cell 4
      have c5 : w2.cell? ⟨r', 5, none⟩ = some (.int .i64 wn) := by rw [← HDR.out.2.1, ← HDR.out.2.2.2.1]; exact HX2.out.ws.t.r.cell 5
      have c6 : w2.cell? ⟨r', 6, none⟩ = some (.int .i64 fn) := by rw [← HDR.out.2.1, ← HDR.out.2.2.2.2]; exact HX2.out.ws.t.r.cell 6
      have HDo : Hid (∀ q, Calls Tryz.prog 10 #[.pointer (some ⟨d', 0, none⟩)] (w2.drewN q) fun e w' => e = .returned (.bool y') ∧ w' = w2.drewN q) := fun q => by
        have := down_any (w2.drewN q) D' (HX2.out.ws.d.on (below_drewN (Below.refl _ _) q))
        have t4 : D'.down = R'.out := HX2.out.ws.t.tie.dn
        rw [HDR.out.1, t4, HDR.out.2.2.1] at this
        exact this.mono (fun e w' h => ⟨h.1, h.2.symm⟩)
      go_quiet (first | (go_at_call 10; refine Calls.quiet_of_same (HDo.out _)))
      (try go_wp2)
      exact ⟨⟨i + 1, rfl, hlm, D', R', T', U', K', HX2.out.on (below_drewN (Below.refl _ _) _), HP1.out.2⟩, by simp [intOf]; omega⟩
    · have hz : ¬ (i : Int) < (m : Int) := by omega
      obtain ⟨d, hd⟩ : ∃ d, D.d = d := ⟨_, rfl⟩
      obtain ⟨r, hr⟩ : ∃ r, R.r = r := ⟨_, rfl⟩
      obtain ⟨t, ht⟩ : ∃ t, T.t = t := ⟨_, rfl⟩
      obtain ⟨u, hu⟩ : ∃ u, U.u = u := ⟨_, rfl⟩
      obtain ⟨ue, hue⟩ : ∃ ue, U.ends = ue := ⟨_, rfl⟩
      obtain ⟨n1, hn1⟩ : ∃ n1, 512 * D.nb = n1 := ⟨_, rfl⟩
      obtain ⟨l, hl⟩ : ∃ l, D.las = l := ⟨_, rfl⟩
      have HLl : Hid (l.length = n1) := by rw [← hl, ← hn1]; exact HX.out.1.ws.d.lasl
      have HSx : Hid (∀ wx K' j', XS w wx P D R T U K' j' → wx.cell? ⟨P, 0, none⟩ = some (.pointer (some ⟨d, 0, none⟩)) ∧ wx.cell? ⟨P, 1, none⟩ = some (.pointer (some ⟨r, 0, none⟩)) ∧ wx.cell? ⟨P, 2, none⟩ = some (.pointer (some ⟨t, 0, none⟩)) ∧ wx.cell? ⟨P, 3, none⟩ = some (.pointer (some ⟨u, 0, none⟩)) ∧ wx.cell? ⟨u, 2, none⟩ = some (.bool ue)) := fun wx K' j' h => by
        obtain ⟨x0, x1, x2, x3⟩ := h.ptrs
        have x4 := h.ux.cell 2
        rw [hd] at x0; rw [hr] at x1; rw [ht] at x2; rw [hu] at x3 x4
        exact ⟨x0, x1, x2, x3, by rw [← hue]; exact x4⟩
      have HOv : Hid (∀ wx, Below wr.heap.size wr wx → Calls Tryz.prog 11 #[.pointer (some ⟨t, 0, none⟩)] wx fun e w' => e = .returned (.bool ue) ∧ wx = w') := fun wx hx => by
        have := pover (HX.out.1.on hx); rw [ht, hue] at this; exact this
      have HLs : Hid (∀ wx, Below wr.heap.size wr wx → Calls Tryz.prog 12 #[.pointer (some ⟨P, 0, none⟩), .agg #[.int .i64 3, .int .i64 0, .int .u8 0, .slice none 0 0, .slice none 0 0], .pointer (some ⟨kb, 0, none⟩)] wx (LsP w P D R T U i kb)) := fun wx hx => by
        have := xlists3K (HX.out.1.on hx) (by have := HL.out.2.2; omega) 0 0 none none 0 0 0 0
        rw [HX.out.2] at this; exact this
      have HIm : Hid (∀ wx K' j', XS w wx P D R T U K' j' → Calls Tryz.prog 13 #[.pointer (some ⟨d, 0, none⟩)] wx fun e w' => ∃ g cap, e = .returned (.slice (some ⟨g, 0, none⟩) n1 cap) ∧ wx.heap.size ≤ g ∧ OwnB w' g cap l ∧ Below wx.heap.size wx w') := fun wx K' j' hx => by
        have := image_any wx D hx.ws.d; rw [hd, hl, hn1] at this; exact this
      have HRm : Hid (∀ wx K' j', XS w wx P D R T U K' j' → Calls Tryz.prog 14 #[.pointer (some ⟨r, 0, none⟩)] wx fun e w' => ∃ g cap, e = .returned (.slice (some ⟨g, 0, none⟩) n1 cap) ∧ wx.heap.size ≤ g ∧ OwnB w' g cap l ∧ Below wx.heap.size wx w') := fun wx K' j' hx => by
        have h0 := hx.ws.t.image
        have e1 : D.abs.nb = D.nb := rfl
        have e2 : D.abs.las = D.las := rfl
        rw [e1, e2, hr, hl, hn1] at h0; exact h0
      have HHo : Hid (∀ wx K', KbI wx K' → K'.kb = kb → Calls Tryz.prog 15 #[.pointer (some ⟨kb, 0, none⟩)] wx fun e w' => e = .returned (.bool true) ∧ Fr K'.all wx w') := fun wx K' hK he => by
        have := holds_any wx K' hK; rw [he] at this; exact this
      have HBd : Hid (Below wr.heap.size wr wr.drew) := (Below.refl _ _).drew
      obtain ⟨s, hs⟩ : ∃ s, strOfNums l = s := ⟨_, rfl⟩
      have HSs : Hid (∀ wx g c, OwnB wx g c l → (convert 42 9 (.slice (some ⟨g, 0, none⟩) n1 c)).run Tryz.prog wx = .ok (.string s) wx) := fun wx g c hO => by rw [← hs]; exact str_opt hO.bytes HLl.out
      have HUu : Hid (U.u = u) := hu
      clear hd hr ht hu hue hn1 hl hs
      go_upto_region 19 with fail
      have hS0 := HSx.out wr.drew K i (HX.out.1.on HBd.out)
      refine wp_region_held_drew (S := (fun w' => w'.cell? ⟨P, 0, none⟩ = some (.pointer (some ⟨d, 0, none⟩)) ∧ w'.cell? ⟨P, 1, none⟩ = some (.pointer (some ⟨r, 0, none⟩)) ∧ w'.cell? ⟨P, 2, none⟩ = some (.pointer (some ⟨t, 0, none⟩)) ∧ w'.cell? ⟨P, 3, none⟩ = some (.pointer (some ⟨u, 0, none⟩)) ∧ w'.cell? ⟨u, 2, none⟩ = some (.bool ue))) (by kernel_rfl) ?_ (fun hHeld => ?_)
      focus (try dsimp only); exact hS0
      focus
       refine wpAnyH_take (i := 0) (v := ?_) rfl (by kernel_rfl) (by kernel_rfl) (by kernel_rfl) (fun _ _ _ h => h) (Or.inl ⟨by rfl, ?_⟩) (by assumption) ?_
       rotate_left
       focus (intro w hSw; (try dsimp only at hSw); go_simp; (try (with_reducible rfl)); done)
       go_simp
       refine wpAnyH_take (i := 1) (v := ?_) rfl (by kernel_rfl) (by kernel_rfl) (by kernel_rfl) (fun _ _ _ h => h) (Or.inl ⟨by rfl, ?_⟩) (by assumption) ?_
       rotate_left
       focus (intro w hSw; (try dsimp only at hSw); go_simp; (try (with_reducible rfl)); done)
       go_simp
       refine wpAnyH_take (i := 2) (v := ?_) rfl (by kernel_rfl) (by kernel_rfl) (by kernel_rfl) (fun _ _ _ h => h) (Or.inl ⟨by rfl, ?_⟩) (by assumption) ?_
       rotate_left
       focus (intro w hSw; (try dsimp only at hSw); go_simp; (try (with_reducible rfl)); done)
       go_simp
       refine wpAnyH_take (i := 3) (v := ?_) rfl (by kernel_rfl) (by kernel_rfl) (by kernel_rfl) (fun _ _ _ h => h) (Or.inl ⟨by rfl, ?_⟩) (by assumption) ?_
       rotate_left
       focus (intro w hSw; (try dsimp only at hSw); go_simp; (try (with_reducible rfl)); done)
       go_simp
       refine wpAnyH_take (i := 5) (v := ?_) rfl (by kernel_rfl) (by kernel_rfl) (by kernel_rfl) (fun _ _ _ h => h) (Or.inl ⟨by rfl, ?_⟩) (by assumption) ?_
       rotate_left
       focus (intro w hSw; (try dsimp only at hSw); go_simp; (try (with_reducible rfl)); done)
       go_simp
       refine wpAnyH_take (i := 6) (v := ?_) rfl (by kernel_rfl) (by kernel_rfl) (by kernel_rfl) (fun _ _ _ h => h) (Or.inl ⟨by rfl, ?_⟩) (by assumption) ?_
       rotate_left
       focus (intro w hSw; (try dsimp only at hSw); go_simp; (try (with_reducible rfl)); done)
       go_simp
       refine wpAnyH_take (i := 7) (v := ?_) rfl (by kernel_rfl) (by kernel_rfl) (by kernel_rfl) (fun _ _ _ h => h) (Or.inl ⟨by rfl, ?_⟩) (by assumption) ?_
       rotate_left
       focus (intro w hSw; (try dsimp only at hSw); go_simp; (try (with_reducible rfl)); done)
       go_simp
       refine wpAnyH_take (i := 8) (v := ?_) rfl (by kernel_rfl) (by kernel_rfl) (by kernel_rfl) (fun _ _ _ h => h) (Or.inl ⟨by rfl, ?_⟩) (by assumption) ?_
       rotate_left
       focus (intro w hSw; (try dsimp only at hSw); go_simp; (try (with_reducible rfl)); done)
       go_simp
       refine wpAnyH_take (i := 9) (v := ?_) rfl (by kernel_rfl) (by kernel_rfl) (by kernel_rfl) (fun _ _ _ h => h) (Or.inl ⟨by rfl, ?_⟩) (by assumption) ?_
       rotate_left
       focus (intro w hSw; (try dsimp only at hSw); go_simp; (try (with_reducible rfl)); done)
       go_simp
       refine wpAnyH_take (i := 10) (v := ?_) rfl (by kernel_rfl) (by kernel_rfl) (by kernel_rfl) (fun _ _ _ h => h) (Or.inl ⟨by rfl, ?_⟩) (by assumption) ?_
       rotate_left
       focus (intro w hSw; (try dsimp only at hSw); go_simp; (try (with_reducible rfl)); done)
       go_simp
       refine wpAnyH_take (i := 11) (v := ?_) rfl (by kernel_rfl) (by kernel_rfl) (by kernel_rfl) (fun _ _ _ h => h) (Or.inl ⟨by rfl, ?_⟩) (by assumption) ?_
       rotate_left
       focus (intro w hSw; (try dsimp only at hSw); go_simp; (try (with_reducible rfl)); done)
       go_simp
       refine wpAnyH_ready (rs := [4]) (by kernel_rfl) (by simp) ?_
       refine AllReadyH.cons rfl (fun K hK => ?_) ?_
       rotate_left
       focus
        exact AllReadyH.nil
       rotate_right
       focus
        (go_simp; go_at_call 11; refine (HOv.out _ HBd.out).mono ?_; rintro e w' ⟨rfl, rfl⟩)
        refine hK.out _ _ ?_ (fun hHeld => ?_)
        focus (try dsimp only); exact hS0
        clear hK K
        try go_simp
        refine wpAnyH_take (i := 12) (v := ?_) rfl (by kernel_rfl) (by kernel_rfl) (by kernel_rfl) (fun _ _ _ h => h) (Or.inl ⟨by rfl, ?_⟩) (by assumption) ?_
        rotate_left
        focus (intro w hSw; (try dsimp only at hSw); go_simp; (try (with_reducible rfl)); done)
        go_simp
        refine wpAnyH_take (i := 13) (v := ?_) rfl (by kernel_rfl) (by kernel_rfl) (by kernel_rfl) (fun _ _ _ h => h) (Or.inl ⟨by rfl, ?_⟩) (by assumption) ?_
        rotate_left
        focus (intro w hSw; (try dsimp only at hSw); go_simp; (try (with_reducible rfl)); done)
        go_simp
        refine wpAnyH_take (i := 14) (v := ?_) rfl (by kernel_rfl) (by kernel_rfl) (by kernel_rfl) (fun _ _ _ h => h) (Or.inl ⟨by rfl, ?_⟩) (by assumption) ?_
        rotate_left
        focus (intro w hSw; (try dsimp only at hSw); go_simp; (try (with_reducible rfl)); done)
        go_simp
        refine wpAnyH_take (i := 15) (v := ?_) rfl (by kernel_rfl) (by kernel_rfl) (by kernel_rfl) (fun _ _ _ h => h) (Or.inl ⟨by rfl, ?_⟩) (by assumption) ?_
        rotate_left
        focus (intro w hSw; (try dsimp only at hSw); go_simp; (try (with_reducible rfl)); done)
        go_simp
        refine wpAnyH_take (i := 16) (v := ?_) rfl (by kernel_rfl) (by kernel_rfl) (by kernel_rfl) (fun _ _ _ h => h) (Or.inl ⟨by rfl, ?_⟩) (by assumption) ?_
        rotate_left
        focus (intro w hSw; (try dsimp only at hSw); go_simp; (try (with_reducible rfl)); done)
        go_simp
        refine wpAnyH_ready (rs := [17]) (by kernel_rfl) (by simp) ?_
        refine AllReadyH.cons rfl (fun K hK => ?_) ?_
        rotate_left
        focus
         exact AllReadyH.nil
        rotate_right
        focus
         (go_simp; go_at_call 12; refine (HLs.out _ HBd.out).mono ?_; rintro e v1 ⟨rfl, K1, q1, q2⟩; have H1 : Hid (XS w v1 P D R T U K1 (i + 1) ∧ K1.kb = kb) := ⟨q1, q2⟩; have hS1 := HSx.out v1 K1 (i + 1) q1; clear q1 q2)
         refine hK.out _ _ ?_ (fun hHeld => ?_)
         focus (try dsimp only); exact hS1
         clear hK K
         try go_simp
         refine wpAnyH_take (i := 18) (v := ?_) rfl (by kernel_rfl) (by kernel_rfl) (by kernel_rfl) (fun _ _ _ h => h) (Or.inl ⟨by rfl, ?_⟩) (by assumption) ?_
         rotate_left
         focus (intro w hSw; (try dsimp only at hSw); go_simp; (try (with_reducible rfl)); done)
         go_simp
         refine wpAnyH_take (i := 19) (v := ?_) rfl (by kernel_rfl) (by kernel_rfl) (by kernel_rfl) (fun _ _ _ h => h) (Or.inl ⟨by rfl, ?_⟩) (by assumption) ?_
         rotate_left
         focus (intro w hSw; (try dsimp only at hSw); go_simp; (try (with_reducible rfl)); done)
         go_simp
         refine wpAnyH_take (i := 20) (v := ?_) rfl (by kernel_rfl) (by kernel_rfl) (by kernel_rfl) (fun _ _ _ h => h) (Or.inl ⟨by rfl, ?_⟩) (by assumption) ?_
         rotate_left
         focus (intro w hSw; (try dsimp only at hSw); go_simp; (try (with_reducible rfl)); done)
         go_simp
         refine wpAnyH_take (i := 21) (v := ?_) rfl (by kernel_rfl) (by kernel_rfl) (by kernel_rfl) (fun _ _ _ h => h) (Or.inl ⟨by rfl, ?_⟩) (by assumption) ?_
         rotate_left
         focus (intro w hSw; (try dsimp only at hSw); go_simp; (try (with_reducible rfl)); done)
         go_simp
         refine wpAnyH_take (i := 22) (v := ?_) rfl (by kernel_rfl) (by kernel_rfl) (by kernel_rfl) (fun _ _ _ h => h) (Or.inl ⟨by rfl, ?_⟩) (by assumption) ?_
         rotate_left
         focus (intro w hSw; (try dsimp only at hSw); go_simp; (try (with_reducible rfl)); done)
         go_simp
         refine wpAnyH_take (i := 23) (v := ?_) rfl (by kernel_rfl) (by kernel_rfl) (by kernel_rfl) (fun _ _ _ h => h) (Or.inl ⟨by rfl, ?_⟩) (by assumption) ?_
         rotate_left
         focus (intro w hSw; (try dsimp only at hSw); go_simp; (try (with_reducible rfl)); done)
         go_simp
         refine wpAnyH_take (i := 26) (v := ?_) rfl (by kernel_rfl) (by kernel_rfl) (by kernel_rfl) (fun _ _ _ h => h) (Or.inl ⟨by rfl, ?_⟩) (by assumption) ?_
         rotate_left
         focus (intro w hSw; (try dsimp only at hSw); go_simp; (try (with_reducible rfl)); done)
         go_simp
         refine wpAnyH_take (i := 27) (v := ?_) rfl (by kernel_rfl) (by kernel_rfl) (by kernel_rfl) (fun _ _ _ h => h) (Or.inl ⟨by rfl, ?_⟩) (by assumption) ?_
         rotate_left
         focus (intro w hSw; (try dsimp only at hSw); go_simp; (try (with_reducible rfl)); done)
         go_simp
         refine wpAnyH_take (i := 28) (v := ?_) rfl (by kernel_rfl) (by kernel_rfl) (by kernel_rfl) (fun _ _ _ h => h) (Or.inl ⟨by rfl, ?_⟩) (by assumption) ?_
         rotate_left
         focus (intro w hSw; (try dsimp only at hSw); go_simp; (try (with_reducible rfl)); done)
         go_simp
         refine wpAnyH_take (i := 29) (v := ?_) rfl (by kernel_rfl) (by kernel_rfl) (by kernel_rfl) (fun _ _ _ h => h) (Or.inl ⟨by rfl, ?_⟩) (by assumption) ?_
         rotate_left
         focus (intro w hSw; (try dsimp only at hSw); go_simp; (try (with_reducible rfl)); done)
         go_simp
         refine wpAnyH_ready (rs := [24]) (by kernel_rfl) (by simp) ?_
         refine AllReadyH.cons rfl (fun K hK => ?_) ?_
         rotate_left
         focus
          exact AllReadyH.nil
         rotate_right
         focus
          (go_simp; go_at_call 13; refine (HIm.out _ K1 (i + 1) H1.out.1).mono ?_; rintro e v2 ⟨g1, k1, rfl, q1, q2, q3⟩; have H2 : Hid (OwnB v2 g1 k1 l ∧ XS w v2 P D R T U K1 (i + 1)) := ⟨q2, H1.out.1.on q3⟩; have hS2 := HSx.out v2 K1 (i + 1) H2.out.2; have kc2 := HSs.out v2 g1 k1 q2; clear q1 q2 q3)
          refine hK.out _ _ ?_ (fun hHeld => ?_)
          focus (try dsimp only); exact hS2
          clear hK K
          try go_simp
          refine wpAnyH_ready (rs := [25, 30]) (by kernel_rfl) (by simp) ?_
          refine AllReadyH.cons rfl (fun K hK => ?_) ?_
          rotate_left
          focus
           refine AllReadyH.cons rfl (fun K hK => ?_) ?_
           rotate_left
           focus
            exact AllReadyH.nil
           rotate_right
           focus
            (go_simp; go_at_call 14; refine (HRm.out _ K1 (i + 1) H2.out.2).mono ?_; rintro e v3 ⟨g2, k2, rfl, q1, q2, q3⟩; have H3 : Hid (XS w v3 P D R T U K1 (i + 1)) := H2.out.2.on q3; have hS3 := HSx.out v3 K1 (i + 1) H3.out; have kc3 := HSs.out v3 g1 k1 (H2.out.1.on q3); have kc4 := HSs.out v3 g2 k2 q2; clear q1 q2 q3)
            refine hK.out _ _ ?_ (fun hHeld => ?_)
            focus (try dsimp only); exact hS3
            clear hK K
            try go_simp
            refine wpAnyH_ready (rs := [25, 31]) (by kernel_rfl) (by simp) ?_
            refine AllReadyH.cons rfl (fun K hK => ?_) ?_
            rotate_left
            focus
             refine AllReadyH.cons rfl (fun K hK => ?_) ?_
             rotate_left
             focus
              exact AllReadyH.nil
             rotate_right
             focus
              go_simp
              refine hK.out _ _ ?_ (fun hHeld => ?_)
              focus (try dsimp only); exact hS3
              clear hK K
              try go_simp
              refine wpAnyH_ready (rs := [25]) (by kernel_rfl) (by simp) ?_
              refine AllReadyH.cons rfl (fun K hK => ?_) ?_
              rotate_left
              focus
               exact AllReadyH.nil
              rotate_right
              focus
               go_simp
               refine hK.out _ _ ?_ (fun hHeld => ?_)
               focus (try dsimp only); first | exact hS3 | exact hS2
               clear hK K
               try go_simp
               refine wpAnyH_take (i := 32) (v := ?_) rfl (by kernel_rfl) (by kernel_rfl) (by kernel_rfl) (fun _ _ _ h => h) (Or.inl ⟨by rfl, ?_⟩) (by assumption) ?_
               rotate_left
               focus (intro w hSw; (try dsimp only at hSw); go_simp; (try (with_reducible rfl)); done)
               go_simp
               refine wpAnyH_take (i := 33) (v := ?_) rfl (by kernel_rfl) (by kernel_rfl) (by kernel_rfl) (fun _ _ _ h => h) (Or.inl ⟨by rfl, ?_⟩) (by assumption) ?_
               rotate_left
               focus (intro w hSw; (try dsimp only at hSw); go_simp; (try (with_reducible rfl)); done)
               go_simp
               refine wpAnyH_take (i := 34) (v := ?_) rfl (by kernel_rfl) (by kernel_rfl) (by kernel_rfl) (fun _ _ _ h => h) (Or.inl ⟨by rfl, ?_⟩) (by assumption) ?_
               rotate_left
               focus (intro w hSw; (try dsimp only at hSw); go_simp; (try (with_reducible rfl)); done)
               go_simp
               refine wpAnyH_take (i := 35) (v := ?_) rfl (by kernel_rfl) (by kernel_rfl) (by kernel_rfl) (fun _ _ _ h => h) (Or.inl ⟨by rfl, ?_⟩) (by assumption) ?_
               rotate_left
               focus (intro w hSw; (try dsimp only at hSw); go_simp; (try (with_reducible rfl)); done)
               go_simp
               refine wpAnyH_ready (rs := [36]) (by kernel_rfl) (by simp) ?_
               refine AllReadyH.cons rfl (fun K hK => ?_) ?_
               rotate_left
               focus
                exact AllReadyH.nil
               rotate_right
               focus
                (go_simp; go_at_call 15; refine (HHo.out _ K1 H3.out.bk H1.out.2).mono ?_; rintro e v4 ⟨rfl, q1⟩; have H4 : Hid (Below w.heap.size w v4) := (by have h3 := H3.out; exact h3.ws.be.trans (q1.below _ (fun k e => h3.far 4 k e) h3.ws.be.size)); have hS4 : v4.cell? ⟨P, 0, none⟩ = some (.pointer (some ⟨d, 0, none⟩)) ∧ v4.cell? ⟨P, 1, none⟩ = some (.pointer (some ⟨r, 0, none⟩)) ∧ v4.cell? ⟨P, 2, none⟩ = some (.pointer (some ⟨t, 0, none⟩)) ∧ v4.cell? ⟨P, 3, none⟩ = some (.pointer (some ⟨u, 0, none⟩)) ∧ v4.cell? ⟨u, 2, none⟩ = some (.bool ue) := (by have hP : ¬ K1.all P := (fun e => H3.out.sep.ne (i := 4) (j := 5) (by omega) e rfl); have hU : ¬ K1.all u := (fun e => H3.out.sep.ne (i := 4) (j := 3) (by omega) e (.inl HUu.out.symm)); exact ⟨q1.cell hS3.1 hP, q1.cell hS3.2.1 hP, q1.cell hS3.2.2.1 hP, q1.cell hS3.2.2.2.1 hP, q1.cell hS3.2.2.2.2 hU⟩); clear q1)
                refine hK.out _ _ ?_ (fun hHeld => ?_)
                focus (try dsimp only); exact hS4
                clear hK K
                try go_simp
                refine wpAnyH_take (i := 37) (v := ?_) rfl (by kernel_rfl) (by kernel_rfl) (by kernel_rfl) (fun _ _ _ h => h) (Or.inl ⟨by rfl, ?_⟩) (by assumption) ?_
                rotate_left
                focus (intro w hSw; (try dsimp only at hSw); go_simp; (try (with_reducible rfl)); done)
                go_simp
                refine wpAnyH_take (i := 38) (v := ?_) rfl (by kernel_rfl) (by kernel_rfl) (by kernel_rfl) (fun _ _ _ h => h) (Or.inl ⟨by rfl, ?_⟩) (by assumption) ?_
                rotate_left
                focus (intro w hSw; (try dsimp only at hSw); go_simp; (try (with_reducible rfl)); done)
                go_simp
                refine wpAnyH_done (by kernel_rfl) ?_ _
            rotate_right
            focus
             go_simp
             refine hK.out _ _ ?_ (fun hHeld => ?_)
             focus (try dsimp only); first | exact hS3 | exact hS2
             clear hK K
             try go_simp
             refine wpAnyH_ready (rs := [31]) (by kernel_rfl) (by simp) ?_
             refine AllReadyH.cons rfl (fun K hK => ?_) ?_
             rotate_left
             focus
              exact AllReadyH.nil
             rotate_right
             focus
              go_simp
              refine hK.out _ _ ?_ (fun hHeld => ?_)
              focus (try dsimp only); exact hS3
              clear hK K
              try go_simp
              refine wpAnyH_take (i := 32) (v := ?_) rfl (by kernel_rfl) (by kernel_rfl) (by kernel_rfl) (fun _ _ _ h => h) (Or.inl ⟨by rfl, ?_⟩) (by assumption) ?_
              rotate_left
              focus (intro w hSw; (try dsimp only at hSw); go_simp; (try (with_reducible rfl)); done)
              go_simp
              refine wpAnyH_take (i := 33) (v := ?_) rfl (by kernel_rfl) (by kernel_rfl) (by kernel_rfl) (fun _ _ _ h => h) (Or.inl ⟨by rfl, ?_⟩) (by assumption) ?_
              rotate_left
              focus (intro w hSw; (try dsimp only at hSw); go_simp; (try (with_reducible rfl)); done)
              go_simp
              refine wpAnyH_take (i := 34) (v := ?_) rfl (by kernel_rfl) (by kernel_rfl) (by kernel_rfl) (fun _ _ _ h => h) (Or.inl ⟨by rfl, ?_⟩) (by assumption) ?_
              rotate_left
              focus (intro w hSw; (try dsimp only at hSw); go_simp; (try (with_reducible rfl)); done)
              go_simp
              refine wpAnyH_take (i := 35) (v := ?_) rfl (by kernel_rfl) (by kernel_rfl) (by kernel_rfl) (fun _ _ _ h => h) (Or.inl ⟨by rfl, ?_⟩) (by assumption) ?_
              rotate_left
              focus (intro w hSw; (try dsimp only at hSw); go_simp; (try (with_reducible rfl)); done)
              go_simp
              refine wpAnyH_ready (rs := [36]) (by kernel_rfl) (by simp) ?_
              refine AllReadyH.cons rfl (fun K hK => ?_) ?_
              rotate_left
              focus
               exact AllReadyH.nil
              rotate_right
              focus
               (go_simp; go_at_call 15; refine (HHo.out _ K1 H3.out.bk H1.out.2).mono ?_; rintro e v4 ⟨rfl, q1⟩; have H4 : Hid (Below w.heap.size w v4) := (by have h3 := H3.out; exact h3.ws.be.trans (q1.below _ (fun k e => h3.far 4 k e) h3.ws.be.size)); have hS4 : v4.cell? ⟨P, 0, none⟩ = some (.pointer (some ⟨d, 0, none⟩)) ∧ v4.cell? ⟨P, 1, none⟩ = some (.pointer (some ⟨r, 0, none⟩)) ∧ v4.cell? ⟨P, 2, none⟩ = some (.pointer (some ⟨t, 0, none⟩)) ∧ v4.cell? ⟨P, 3, none⟩ = some (.pointer (some ⟨u, 0, none⟩)) ∧ v4.cell? ⟨u, 2, none⟩ = some (.bool ue) := (by have hP : ¬ K1.all P := (fun e => H3.out.sep.ne (i := 4) (j := 5) (by omega) e rfl); have hU : ¬ K1.all u := (fun e => H3.out.sep.ne (i := 4) (j := 3) (by omega) e (.inl HUu.out.symm)); exact ⟨q1.cell hS3.1 hP, q1.cell hS3.2.1 hP, q1.cell hS3.2.2.1 hP, q1.cell hS3.2.2.2.1 hP, q1.cell hS3.2.2.2.2 hU⟩); clear q1)
               refine hK.out _ _ ?_ (fun hHeld => ?_)
               focus (try dsimp only); exact hS4
               clear hK K
               try go_simp
               refine wpAnyH_take (i := 37) (v := ?_) rfl (by kernel_rfl) (by kernel_rfl) (by kernel_rfl) (fun _ _ _ h => h) (Or.inl ⟨by rfl, ?_⟩) (by assumption) ?_
               rotate_left
               focus (intro w hSw; (try dsimp only at hSw); go_simp; (try (with_reducible rfl)); done)
               go_simp
               refine wpAnyH_take (i := 38) (v := ?_) rfl (by kernel_rfl) (by kernel_rfl) (by kernel_rfl) (fun _ _ _ h => h) (Or.inl ⟨by rfl, ?_⟩) (by assumption) ?_
               rotate_left
               focus (intro w hSw; (try dsimp only at hSw); go_simp; (try (with_reducible rfl)); done)
               go_simp
               refine wpAnyH_done (by kernel_rfl) ?_ _
          rotate_right
          focus
           go_simp
           refine hK.out _ _ ?_ (fun hHeld => ?_)
           focus (try dsimp only); first | exact hS3 | exact hS2
           clear hK K
           try go_simp
           refine wpAnyH_ready (rs := [30]) (by kernel_rfl) (by simp) ?_
           refine AllReadyH.cons rfl (fun K hK => ?_) ?_
           rotate_left
           focus
            exact AllReadyH.nil
           rotate_right
           focus
            (go_simp; go_at_call 14; refine (HRm.out _ K1 (i + 1) H2.out.2).mono ?_; rintro e v3 ⟨g2, k2, rfl, q1, q2, q3⟩; have H3 : Hid (XS w v3 P D R T U K1 (i + 1)) := H2.out.2.on q3; have hS3 := HSx.out v3 K1 (i + 1) H3.out; have kc3 := HSs.out v3 g1 k1 (H2.out.1.on q3); have kc4 := HSs.out v3 g2 k2 q2; clear q1 q2 q3)
            refine hK.out _ _ ?_ (fun hHeld => ?_)
            focus (try dsimp only); exact hS3
            clear hK K
            try go_simp
            refine wpAnyH_ready (rs := [31]) (by kernel_rfl) (by simp) ?_
            refine AllReadyH.cons rfl (fun K hK => ?_) ?_
            rotate_left
            focus
             exact AllReadyH.nil
            rotate_right
            focus
             go_simp
             refine hK.out _ _ ?_ (fun hHeld => ?_)
             focus (try dsimp only); exact hS3
             clear hK K
             try go_simp
             refine wpAnyH_take (i := 32) (v := ?_) rfl (by kernel_rfl) (by kernel_rfl) (by kernel_rfl) (fun _ _ _ h => h) (Or.inl ⟨by rfl, ?_⟩) (by assumption) ?_
             rotate_left
             focus (intro w hSw; (try dsimp only at hSw); go_simp; (try (with_reducible rfl)); done)
             go_simp
             refine wpAnyH_take (i := 33) (v := ?_) rfl (by kernel_rfl) (by kernel_rfl) (by kernel_rfl) (fun _ _ _ h => h) (Or.inl ⟨by rfl, ?_⟩) (by assumption) ?_
             rotate_left
             focus (intro w hSw; (try dsimp only at hSw); go_simp; (try (with_reducible rfl)); done)
             go_simp
             refine wpAnyH_take (i := 34) (v := ?_) rfl (by kernel_rfl) (by kernel_rfl) (by kernel_rfl) (fun _ _ _ h => h) (Or.inl ⟨by rfl, ?_⟩) (by assumption) ?_
             rotate_left
             focus (intro w hSw; (try dsimp only at hSw); go_simp; (try (with_reducible rfl)); done)
             go_simp
             refine wpAnyH_take (i := 35) (v := ?_) rfl (by kernel_rfl) (by kernel_rfl) (by kernel_rfl) (fun _ _ _ h => h) (Or.inl ⟨by rfl, ?_⟩) (by assumption) ?_
             rotate_left
             focus (intro w hSw; (try dsimp only at hSw); go_simp; (try (with_reducible rfl)); done)
             go_simp
             refine wpAnyH_ready (rs := [36]) (by kernel_rfl) (by simp) ?_
             refine AllReadyH.cons rfl (fun K hK => ?_) ?_
             rotate_left
             focus
              exact AllReadyH.nil
             rotate_right
             focus
              (go_simp; go_at_call 15; refine (HHo.out _ K1 H3.out.bk H1.out.2).mono ?_; rintro e v4 ⟨rfl, q1⟩; have H4 : Hid (Below w.heap.size w v4) := (by have h3 := H3.out; exact h3.ws.be.trans (q1.below _ (fun k e => h3.far 4 k e) h3.ws.be.size)); have hS4 : v4.cell? ⟨P, 0, none⟩ = some (.pointer (some ⟨d, 0, none⟩)) ∧ v4.cell? ⟨P, 1, none⟩ = some (.pointer (some ⟨r, 0, none⟩)) ∧ v4.cell? ⟨P, 2, none⟩ = some (.pointer (some ⟨t, 0, none⟩)) ∧ v4.cell? ⟨P, 3, none⟩ = some (.pointer (some ⟨u, 0, none⟩)) ∧ v4.cell? ⟨u, 2, none⟩ = some (.bool ue) := (by have hP : ¬ K1.all P := (fun e => H3.out.sep.ne (i := 4) (j := 5) (by omega) e rfl); have hU : ¬ K1.all u := (fun e => H3.out.sep.ne (i := 4) (j := 3) (by omega) e (.inl HUu.out.symm)); exact ⟨q1.cell hS3.1 hP, q1.cell hS3.2.1 hP, q1.cell hS3.2.2.1 hP, q1.cell hS3.2.2.2.1 hP, q1.cell hS3.2.2.2.2 hU⟩); clear q1)
              refine hK.out _ _ ?_ (fun hHeld => ?_)
              focus (try dsimp only); exact hS4
              clear hK K
              try go_simp
              refine wpAnyH_take (i := 37) (v := ?_) rfl (by kernel_rfl) (by kernel_rfl) (by kernel_rfl) (fun _ _ _ h => h) (Or.inl ⟨by rfl, ?_⟩) (by assumption) ?_
              rotate_left
              focus (intro w hSw; (try dsimp only at hSw); go_simp; (try (with_reducible rfl)); done)
              go_simp
              refine wpAnyH_take (i := 38) (v := ?_) rfl (by kernel_rfl) (by kernel_rfl) (by kernel_rfl) (fun _ _ _ h => h) (Or.inl ⟨by rfl, ?_⟩) (by assumption) ?_
              rotate_left
              focus (intro w hSw; (try dsimp only at hSw); go_simp; (try (with_reducible rfl)); done)
              go_simp
              refine wpAnyH_done (by kernel_rfl) ?_ _
      all_goals
        go_wp2
        go_ret
        refine ⟨?_, H4.out⟩
        cases ue <;> simp
end Go.Proofs.YtcbebalakdkgnaaGreatDoor
