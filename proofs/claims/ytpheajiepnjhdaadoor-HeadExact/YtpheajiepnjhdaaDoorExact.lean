import Derived.Test.YtpheajiepnjhdaaDoorExactM
import Derived.Deep.DeepCutAuto
namespace Go.Proofs.YtpheajiepnjhdaaDoor
open Go.RowKit Rec

set_option maxRecDepth 100000 in
set_option maxHeartbeats 8000000 in
theorem exact_core (w : World) (sa : Option Addr) (sn sc : Nat) (da : Option Addr) (dn dc : Nat) (ba : Option Addr) (bn bc : Nat) (ns : List Int) (ds : List (List Int)) (hb : List Int) (n : Int) (hT : TabAt w)
    (hn1 : ns.length = sn) (hn2 : Ints w sa ns) (hn3 : sa = none → sc = 0) (hn4 : sn ≤ 17592186043904)
    (hd1 : ds.length = dn) (hd2 : Data w da ds) (hd3 : Small ds) (hd4 : dn ≤ 5864062014634)
    (hb1 : hb.length = bn) (hb2 : Bytes w ba hb) (hb3 : ba = none → bc = 0) (hb4 : bn ≤ 140737488351232) :
    Calls Tryd.prog 4 #[.agg #[.slice sa sn sc, .slice da dn dc], .slice ba bn bc, .int .i64 n] w fun e w' => e = .returned (.bool true) ∧ Below w.heap.size w w' := by
  obtain ⟨w0, hw0⟩ : ∃ w0, w0 = w.alloc (.cells #[.slice sa sn sc, .slice da dn dc] 43) := ⟨_, rfl⟩
  have hA : Below w.heap.size w w0 := by rw [hw0]; exact (Below.refl _ _).alloc (Nat.le_refl _) _
  have hrow : w0.heap[w.heap.size]? = some (.cells #[.slice sa sn sc, .slice da dn dc] 43 (0, 0)) := by rw [hw0]; exact heap_alloc_new _ _
  have HC : Hid (∀ wr, Below w0.heap.size w0 wr → wr.cell? ⟨w.heap.size, 0, none⟩ = some (.slice sa sn sc) ∧ wr.cell? ⟨w.heap.size, 1, none⟩ = some (.slice da dn dc)) := fun wr hb => by
    have hr : wr.heap[w.heap.size]? = _ := (hb.block _ (heap_lt hrow)).trans hrow
    exact ⟨by rw [cell_of_row _ _ _ _ _ _ hr]; rfl, by rw [cell_of_row _ _ _ _ _ _ hr]; rfl⟩
  have HA : Hid (Below w.heap.size w w0) := hA
  have HW : Hid (∀ wr, Below w0.heap.size w0 wr → Below w.heap.size w wr) := fun wr hb => hA.trans (hb.mono hA.size)
  have HT : Hid (∀ wx, Below w.heap.size w wx → TabAt wx) := fun wx hx => hT.on hx
  have HK : Hid (Calls Tryd.prog 7 #[] w0 fun e w' => e = .returned (.bool true) ∧ Below w0.heap.size w0 w') := known_any w0 (hT.on hA)
  have HN : Hid (∀ wx, Below w.heap.size w wx → Ints wx sa ns) := fun wx hx => hn2.on hx
  have HD : Hid (∀ wx, Below w.heap.size w wx → Data wx da ds) := fun wx hx => hd2.on hx
  have HB : Hid (∀ wx, Below w.heap.size w wx → Bytes wx ba hb) := fun wx hx => hb2.on hx
  have HL : Hid (ns.length = sn ∧ ds.length = dn ∧ hb.length = bn ∧ (sa = none → sc = 0) ∧ Small ds ∧ (ba = none → bc = 0)) := ⟨hn1, hd1, hb1, hn3, hd3, hb3⟩
  clear hA hrow hT hn1 hn2 hn3 hd1 hd2 hd3 hb1 hb2 hb3
  go_enter Tryd.func4, Tryd.ntmps4
  go_wp2_with fail
  rw [← hw0]
  clear hw0
  refine HK.out.mono ?_
  rintro e w1 ⟨rfl, hb⟩
  have B1 : Hid (Below w0.heap.size w0 w1) := hb
  clear hb
  go_upto_region 3 with fail
  have HD1 : Hid (Below w0.heap.size w0 w1.drew) := B1.out.drew
  obtain ⟨c1, c2⟩ := HC.out _ B1.out
  have HRm : Hid (∀ wx, Below w0.heap.size w0 wx → Calls Tryd.prog 14 #[.slice da dn dc] wx fun e w' => ∃ p gD cD sF vs fs gm, e = .returned (.pointer (some ⟨p, 0, none⟩)) ∧ RoomEnd wx.heap.size w' p ds dn gD cD sF vs fs gm ∧ Below wx.heap.size wx w') := fun wx hx => room_any wx da dn dc ds HL.out.2.1 (HD.out _ (HW.out _ hx)) HL.out.2.2.2.2.1 hd4
  have HIn : Hid (∀ wx, Below w0.heap.size w0 wx → Calls Tryd.prog 15 #[.slice sa sn sc] wx fun e w' => ∃ g cap, e = .returned (.slice (some ⟨g, 0, none⟩) sn cap) ∧ OwnI w' g cap (ns ++ [-71, -72]) ∧ wx.heap.size ≤ g ∧ Below wx.heap.size wx w') := fun wx hx => ints_any wx sa sn sc ns HL.out.1 (HN.out _ (HW.out _ hx)) HL.out.2.2.2.1 hn4
  go_cut [7, 8] (fun s7 s8 wx => ∃ (p gD cD : Nat) (sF : Value) (vs fs : List Value) (gm B gI cI : Nat), s7 = .pointer (some ⟨p, 0, none⟩) ∧ s8 = .slice (some ⟨gI, 0, none⟩) sn cI ∧ RoomEnd B wx p ds dn gD cD sF vs fs gm ∧ OwnI wx gI cI (ns ++ [-71, -72]) ∧ Below w0.heap.size w0 wx)
  case first =>
    go_region_law (go_simp; first
      | (go_at_call 14; have hh := HI1.out; clear hh; refine (HRm.out _ HI1.out.2).mono ?_; rintro e w3 ⟨p, gD, cD, sF, vs, fs, gm, rfl, hr, hb⟩; have HF1 : Hid (RoomEnd w2.heap.size w3 p ds dn gD cD sF vs fs gm ∧ OwnI w3 gI cI (ns ++ [-71, -72]) ∧ Below w0.heap.size w0 w3) := ⟨hr, HI1.out.1.on hb, HI1.out.2.trans (hb.mono HI1.out.2.size)⟩; clear hr hb)
      | (go_at_call 15; have hh := HR1.out; clear hh; refine (HIn.out _ HR1.out.2).mono ?_; rintro e w3 ⟨gI, cI, rfl, ho, hg, hb⟩; have HF1 : Hid (RoomEnd w1.drew.heap.size w3 p ds dn gD cD sF vs fs gm ∧ OwnI w3 gI cI (ns ++ [-71, -72]) ∧ Below w0.heap.size w0 w3) := ⟨HR1.out.1.on hb, ho, HR1.out.2.trans (hb.mono HR1.out.2.size)⟩; clear ho hg hb)
      | (go_at_call 14; refine (HRm.out _ HD1.out).mono ?_; rintro e w2 ⟨p, gD, cD, sF, vs, fs, gm, rfl, hr, hb⟩; have HR1 : Hid (RoomEnd w1.drew.heap.size w2 p ds dn gD cD sF vs fs gm ∧ Below w0.heap.size w0 w2) := ⟨hr, HD1.out.trans (hb.mono HD1.out.size)⟩; obtain ⟨e1, e2⟩ := HC.out _ HR1.out.2; clear hr hb)
      | (go_at_call 15; refine (HIn.out _ HD1.out).mono ?_; rintro e w2 ⟨gI, cI, rfl, ho, hg, hb⟩; have HI1 : Hid (OwnI w2 gI cI (ns ++ [-71, -72]) ∧ Below w0.heap.size w0 w2) := ⟨ho, HD1.out.trans (hb.mono HD1.out.size)⟩; obtain ⟨e1, e2⟩ := HC.out _ HI1.out.2; clear ho hg hb))
    all_goals
      go_wp2
      go_meet
      case rel => exact ⟨p, gD, cD, sF, vs, fs, gm, _, gI, cI, rfl, rfl, HF1.out⟩
  case rest =>
  obtain ⟨p, gD, cD, sF, vs, fs, gm, B, gI, cI, rfl, rfl, hr, ho, hb⟩ := hcut
  have H2 : Hid (RoomEnd B wc p ds dn gD cD sF vs fs gm ∧ OwnI wc gI cI (ns ++ [-71, -72]) ∧ Below w0.heap.size w0 wc) := ⟨hr, ho, hb⟩
  clear hr ho hb c1 c2
  have hcI : (sn : Int) + 2 ≤ (cI : Int) := by have := H2.out.2.1.room; rw [List.length_append, HL.out.1] at this; simp at this; omega
  have hs0 : (0 : Int) ≤ (sn : Int) + 2 := by omega
  have hs1 : (sn : Int) ≤ 17592186043904 := by omega
  have hs3 : wrap64 ((sn : Int) + 2) = (sn : Int) + 2 := by rw [wrap64]; omega
  go_upto_region 7 with (first
    | (go_at_call 16; refine (in_any B _ p ds dn gD cD sF vs fs gm H2.out.1 hd4).mono ?_; rintro e w3 ⟨rfl, hb⟩; have H3 : Hid (RoomEnd B w3 p ds dn gD cD sF vs fs gm ∧ OwnI w3 gI cI (ns ++ [-71, -72]) ∧ Below w0.heap.size w0 w3) := ⟨H2.out.1.on hb, H2.out.2.1.on hb, H2.out.2.2.trans (hb.mono H2.out.2.2.size)⟩; clear hb)
    | (go_at_call 9; have hh := H3.out; clear hh; refine (make_hd _ _ _ sn cI dn cD ns ds HL.out.1 HL.out.2.1 H3.out.2.1.ints.front (H3.out.1.data HL.out.2.1 (by omega)) (HT.out _ (HW.out _ H3.out.2.2))).mono ?_; rintro e w4 ⟨ha, hn, hc, rfl, hh, hb⟩; have H4 : Hid (RoomEnd B w4 p ds dn gD cD sF vs fs gm ∧ OwnI w4 gI cI (ns ++ [-71, -72]) ∧ HdAt w4 ha hn hc (hdr ns ds) ∧ Below w0.heap.size w0 w4) := ⟨H3.out.1.on hb, H3.out.2.1.on hb, hh, H3.out.2.2.trans (hb.mono H3.out.2.2.size)⟩; obtain ⟨q1, q2⟩ := HC.out _ H4.out.2.2.2; clear hh hb)
    | (go_at_call 17; have hh := H4.out; clear hh; refine (rmake_hd _ _ _ sn sc dn dc ns ds HL.out.1 HL.out.2.1 (HN.out _ (HW.out _ H4.out.2.2.2)) (HD.out _ (HW.out _ H4.out.2.2.2))).mono ?_; rintro e w5 ⟨wa, wn, wc5, rfl, hh, hb⟩; have H5 : Hid (ExAt w5 B p ds dn gD cD sF vs fs gm gI cI sn ns ha wa hn hc wn wc5 ∧ Below w0.heap.size w0 w5) := ⟨⟨H4.out.1.on hb, H4.out.2.1.on hb, H4.out.2.2.1.on hb, hh⟩, H4.out.2.2.2.trans (hb.mono H4.out.2.2.2.size)⟩; obtain ⟨q3, q4⟩ := HC.out _ H5.out.2; clear hh hb))
  --7
  have HD5 : Hid (Below w5.heap.size w5 w5.drew) := (Below.refl _ _).drew
  have HW5 : Hid (∀ wr, Below w5.heap.size w5 wr → Below w0.heap.size w0 wr) := fun wr hb => H5.out.2.trans (hb.mono H5.out.2.size)
  have HC5 : Hid (∀ wr, Below w5.heap.size w5 wr → wr.cell? ⟨w.heap.size, 0, none⟩ = some (.slice sa sn sc) ∧ wr.cell? ⟨w.heap.size, 1, none⟩ = some (.slice da dn dc) ∧ wr.cell? ⟨gI, sn, none⟩ = some (.int .i64 (-71)) ∧ wr.cell? ⟨gI, sn + 1, none⟩ = some (.int .i64 (-72))) := fun wr hb => by
    obtain ⟨a1, a2⟩ := HC.out _ (HW5.out _ hb)
    have b1 := (H5.out.1.ints.on hb).cell sn (by rw [List.length_append, HL.out.1]; simp)
    have b2 := (H5.out.1.ints.on hb).cell (sn + 1) (by rw [List.length_append, HL.out.1]; simp)
    obtain ⟨c1, c2⟩ := nth_mark HL.out.1
    rw [c1] at b1
    rw [c2] at b2
    exact ⟨a1, a2, b1, b2⟩
  have HKp : Hid (∀ wx, Below w5.heap.size w5 wx → Calls Tryd.prog 18 #[.pointer (some ⟨p, 0, none⟩), .slice da dn dc] wx fun e w' => e = .returned (.bool true) ∧ Below wx.heap.size wx w') := fun wx hb => kept_any B wx p da dc ds dn gD cD sF vs fs gm (H5.out.1.on hb).room HL.out.2.1 (HD.out _ (HW.out _ (HW5.out _ hb))) hd4 HL.out.2.2.2.2.1
  have HSm : Hid (∀ wx, Below w5.heap.size w5 wx → Calls Tryd.prog 12 #[.slice (some ⟨gI, 0, none⟩) sn cI, .slice sa sn sc] wx fun e w' => e = .returned (.bool true) ∧ Below wx.heap.size wx w') := fun wx hb => by
    have := same_any wx _ _ sn cI sn sc ns ns HL.out.1 HL.out.1 (H5.out.1.on hb).ints.ints.front (HN.out _ (HW.out _ (HW5.out _ hb)))
    rwa [show decide (ns = ns) = true from by simp] at this
  obtain ⟨Z, hZ⟩ : ∃ Z, strOfNums zs = Z := ⟨_, rfl⟩
  have HZ : Hid (∀ (wx : World) (a : Option Addr) (c : Nat), Bytes wx a zs → (convert 23 9 (.slice a 512 c)).run Tryd.prog wx = .ok (.string Z) wx) := fun wx a c hb => by rw [← hZ]; exact str_opt hb zs_length
  clear hZ
  obtain ⟨S, hS⟩ : ∃ S, strOfNums (hdr ns ds) = S := ⟨_, rfl⟩
  have HS : Hid (∀ wx, Below w5.heap.size w5 wx → (convert 23 9 (.slice ha hn hc)).run Tryd.prog wx = .ok (.string S) wx ∧ (convert 23 9 (.slice wa wn wc5)).run Tryd.prog wx = .ok (.string S) wx) := fun wx hb => by
    rw [← hS]
    exact ⟨str_opt (H5.out.1.on hb).hd.bytes H5.out.1.hd.len, str_opt (H5.out.1.on hb).wd.bytes H5.out.1.wd.len⟩
  clear hS
  obtain ⟨es1, es2⟩ := HS.out _ HD5.out
  obtain ⟨d1, d2, d3, d4⟩ := HC5.out _ HD5.out
  have hi0 : (0 : Int) ≤ (sn : Int) := by omega
  have hi1 : (sn : Int) < (sn : Int) + 2 := by omega
  have hi2 : (0 : Int) ≤ (sn : Int) + 1 := by omega
  have hi3 : (sn : Int) + 1 < (sn : Int) + 2 := by omega
  have hi4 : IntKind.i64.wrap ((sn : Int) + 1) = (sn : Int) + 1 := by rw [IntKind.wrap_i64]; omega
  have hi5 : ((sn : Int) + 1).toNat = sn + 1 := by omega
  clear q1 q2 q3 q4
  go_cut [99] (fun s wx => s = .bool false ∧ Below w5.heap.size w5 wx)
  case first =>
    refine wp_region_any (by as_aux_lemma => kernel_rfl) ?_
    try (change wpAny _ _ _ _ _ _ _ (World.drew _))
    refine wpAny_take (i := 0) (v := ?_) rfl (by as_aux_lemma => kernel_rfl) (by as_aux_lemma => kernel_rfl) (by as_aux_lemma => kernel_rfl) (fun _ _ _ h => h) (Or.inl ⟨by as_aux_lemma => kernel_rfl, ?_⟩) ?_
    rotate_left
    focus (intro w; go_simp; (try (with_reducible rfl)); done)
    go_simp
    refine wpAny_take (i := 2) (v := ?_) rfl (by as_aux_lemma => kernel_rfl) (by as_aux_lemma => kernel_rfl) (by as_aux_lemma => kernel_rfl) (fun _ _ _ h => h) (Or.inl ⟨by as_aux_lemma => kernel_rfl, ?_⟩) ?_
    rotate_left
    focus (intro w; go_simp; (try (with_reducible rfl)); done)
    go_simp
    refine wpAny_ready (rs := [1, 3]) (by as_aux_lemma => kernel_rfl) (by simp) ?_
    refine AllReady.cons rfl (fun K hK => ?_) ?_
    · go_simp
      try go_simp
      first
        | (refine hK _ _ ?_; clear hK K)
        | skip
      refine wpAny_ready (rs := [3]) (by as_aux_lemma => kernel_rfl) (by simp) ?_
      refine AllReady.cons rfl (fun K hK => ?_) ?_
      · go_simp
        try go_simp
        first
          | (refine hK _ _ ?_; clear hK K)
          | skip
        refine wpAny_take (i := 4) (v := ?_) rfl (by as_aux_lemma => kernel_rfl) (by as_aux_lemma => kernel_rfl) (by as_aux_lemma => kernel_rfl) (fun _ _ _ h => h) (Or.inl ⟨by as_aux_lemma => kernel_rfl, ?_⟩) ?_
        rotate_left
        focus (intro w; go_simp; (try (with_reducible rfl)); done)
        go_simp
        refine wpAny_take (i := 5) (v := ?_) rfl (by as_aux_lemma => kernel_rfl) (by as_aux_lemma => kernel_rfl) (by as_aux_lemma => kernel_rfl) (fun _ _ _ h => h) (Or.inl ⟨by as_aux_lemma => kernel_rfl, ?_⟩) ?_
        rotate_left
        focus (intro w; go_simp; (try (with_reducible rfl)); done)
        go_simp
        refine wpAny_take (i := 6) (v := ?_) rfl (by as_aux_lemma => kernel_rfl) (by as_aux_lemma => kernel_rfl) (by as_aux_lemma => kernel_rfl) (fun _ _ _ h => h) (Or.inl ⟨by as_aux_lemma => kernel_rfl, ?_⟩) ?_
        rotate_left
        focus (intro w; go_simp; (try (with_reducible rfl)); done)
        go_simp
        refine wpAny_take (i := 7) (v := ?_) rfl (by as_aux_lemma => kernel_rfl) (by as_aux_lemma => kernel_rfl) (by as_aux_lemma => kernel_rfl) (fun _ _ _ h => h) (Or.inl ⟨by as_aux_lemma => kernel_rfl, ?_⟩) ?_
        rotate_left
        focus (intro w; go_simp; (try (with_reducible rfl)); done)
        go_simp
        refine wpAny_take (i := 8) (v := ?_) rfl (by as_aux_lemma => kernel_rfl) (by as_aux_lemma => kernel_rfl) (by as_aux_lemma => kernel_rfl) (fun _ _ _ h => h) (Or.inl ⟨by as_aux_lemma => kernel_rfl, ?_⟩) ?_
        rotate_left
        focus (intro w; go_simp; (try (with_reducible rfl)); done)
        go_simp
        refine wpAny_take (i := 9) (v := ?_) rfl (by as_aux_lemma => kernel_rfl) (by as_aux_lemma => kernel_rfl) (by as_aux_lemma => kernel_rfl) (fun _ _ _ h => h) (Or.inl ⟨by as_aux_lemma => kernel_rfl, ?_⟩) ?_
        rotate_left
        focus (intro w; go_simp; (try (with_reducible rfl)); done)
        go_simp
        refine wpAny_take (i := 10) (v := ?_) rfl (by as_aux_lemma => kernel_rfl) (by as_aux_lemma => kernel_rfl) (by as_aux_lemma => kernel_rfl) (fun _ _ _ h => h) (Or.inl ⟨by as_aux_lemma => kernel_rfl, ?_⟩) ?_
        rotate_left
        focus (intro w; go_simp; (try (with_reducible rfl)); done)
        go_simp
        refine wpAny_take (i := 11) (v := ?_) rfl (by as_aux_lemma => kernel_rfl) (by as_aux_lemma => kernel_rfl) (by as_aux_lemma => kernel_rfl) (fun _ _ _ h => h) (Or.inl ⟨by as_aux_lemma => kernel_rfl, ?_⟩) ?_
        rotate_left
        focus (intro w; go_simp; (try (with_reducible rfl)); done)
        go_simp
        refine wpAny_take (i := 12) (v := ?_) rfl (by as_aux_lemma => kernel_rfl) (by as_aux_lemma => kernel_rfl) (by as_aux_lemma => kernel_rfl) (fun _ _ _ h => h) (Or.inl ⟨by as_aux_lemma => kernel_rfl, ?_⟩) ?_
        rotate_left
        focus (intro w; go_simp; (try (with_reducible rfl)); done)
        go_simp
        refine wpAny_ready (rs := [13]) (by as_aux_lemma => kernel_rfl) (by simp) ?_
        refine AllReady.cons rfl (fun K hK => ?_) ?_
        · go_simp
          try go_simp
          first
            | (refine hK _ _ ?_; clear hK K)
            | skip
          refine wpAny_ready (rs := [14]) (by as_aux_lemma => kernel_rfl) (by simp) ?_
          refine AllReady.cons rfl (fun K hK => ?_) ?_
          · (go_simp; go_at_call 18; refine (HKp.out _ HD5.out).mono ?_; rintro e w6 ⟨rfl, hb⟩; have H6 : Hid (Below w5.heap.size w5 w6) := HD5.out.trans (hb.mono HD5.out.size); obtain ⟨e1, e2, e3, e4⟩ := HC5.out _ H6.out; clear hb)
            try go_simp
            first
              | (refine hK _ _ ?_; clear hK K)
              | skip
            refine wpAny_take (i := 15) (v := ?_) rfl (by as_aux_lemma => kernel_rfl) (by as_aux_lemma => kernel_rfl) (by as_aux_lemma => kernel_rfl) (fun _ _ _ h => h) (Or.inl ⟨by as_aux_lemma => kernel_rfl, ?_⟩) ?_
            rotate_left
            focus (intro w; go_simp; (try (with_reducible rfl)); done)
            go_simp
            refine wpAny_take (i := 16) (v := ?_) rfl (by as_aux_lemma => kernel_rfl) (by as_aux_lemma => kernel_rfl) (by as_aux_lemma => kernel_rfl) (fun _ _ _ h => h) (Or.inl ⟨by as_aux_lemma => kernel_rfl, ?_⟩) ?_
            rotate_left
            focus (intro w; go_simp; (try (with_reducible rfl)); done)
            go_simp
            refine wpAny_take (i := 17) (v := ?_) rfl (by as_aux_lemma => kernel_rfl) (by as_aux_lemma => kernel_rfl) (by as_aux_lemma => kernel_rfl) (fun _ _ _ h => h) (Or.inl ⟨by as_aux_lemma => kernel_rfl, ?_⟩) ?_
            rotate_left
            focus (intro w; go_simp; (try (with_reducible rfl)); done)
            go_simp
            refine wpAny_take (i := 18) (v := ?_) rfl (by as_aux_lemma => kernel_rfl) (by as_aux_lemma => kernel_rfl) (by as_aux_lemma => kernel_rfl) (fun _ _ _ h => h) (Or.inl ⟨by as_aux_lemma => kernel_rfl, ?_⟩) ?_
            rotate_left
            focus (intro w; go_simp; (try (with_reducible rfl)); done)
            go_simp
            refine wpAny_take (i := 19) (v := ?_) rfl (by as_aux_lemma => kernel_rfl) (by as_aux_lemma => kernel_rfl) (by as_aux_lemma => kernel_rfl) (fun _ _ _ h => h) (Or.inl ⟨by as_aux_lemma => kernel_rfl, ?_⟩) ?_
            rotate_left
            focus (intro w; go_simp; (try (with_reducible rfl)); done)
            go_simp
            refine wpAny_ready (rs := [20]) (by as_aux_lemma => kernel_rfl) (by simp) ?_
            refine AllReady.cons rfl (fun K hK => ?_) ?_
            · go_simp
              try go_simp
              first
                | (refine hK _ _ ?_; clear hK K)
                | skip
              refine wpAny_ready (rs := [21]) (by as_aux_lemma => kernel_rfl) (by simp) ?_
              refine AllReady.cons rfl (fun K hK => ?_) ?_
              · (go_simp; go_at_call 12; refine (HSm.out _ H6.out).mono ?_; rintro e w7 ⟨rfl, hb⟩; have H7 : Hid (Below w5.heap.size w5 w7) := H6.out.trans (hb.mono H6.out.size); obtain ⟨f1, f2, f3, f4⟩ := HC5.out _ H7.out; clear hb)
                try go_simp
                first
                  | (refine hK _ _ ?_; clear hK K)
                  | skip
                refine wpAny_take (i := 22) (v := ?_) rfl (by as_aux_lemma => kernel_rfl) (by as_aux_lemma => kernel_rfl) (by as_aux_lemma => kernel_rfl) (fun _ _ _ h => h) (Or.inl ⟨by as_aux_lemma => kernel_rfl, ?_⟩) ?_
                rotate_left
                focus (intro w; go_simp; (try (with_reducible rfl)); done)
                go_simp
                refine wpAny_take (i := 23) (v := ?_) rfl (by as_aux_lemma => kernel_rfl) (by as_aux_lemma => kernel_rfl) (by as_aux_lemma => kernel_rfl) (fun _ _ _ h => h) (Or.inl ⟨by as_aux_lemma => kernel_rfl, ?_⟩) ?_
                rotate_left
                focus (intro w; go_simp; (try (with_reducible rfl)); done)
                go_simp
                refine wpAny_take (i := 24) (v := ?_) rfl (by as_aux_lemma => kernel_rfl) (by as_aux_lemma => kernel_rfl) (by as_aux_lemma => kernel_rfl) (fun _ _ _ h => h) (Or.inl ⟨by as_aux_lemma => kernel_rfl, ?_⟩) ?_
                rotate_left
                focus (intro w; go_simp; (try (with_reducible rfl)); done)
                go_simp
                refine wpAny_take (i := 25) (v := ?_) rfl (by as_aux_lemma => kernel_rfl) (by as_aux_lemma => kernel_rfl) (by as_aux_lemma => kernel_rfl) (fun _ _ _ h => h) (Or.inl ⟨by as_aux_lemma => kernel_rfl, ?_⟩) ?_
                rotate_left
                focus (intro w; go_simp; (try (with_reducible rfl)); done)
                go_simp
                refine wpAny_take (i := 26) (v := ?_) rfl (by as_aux_lemma => kernel_rfl) (by as_aux_lemma => kernel_rfl) (by as_aux_lemma => kernel_rfl) (fun _ _ _ h => h) (Or.inl ⟨by as_aux_lemma => kernel_rfl, ?_⟩) ?_
                rotate_left
                focus (intro w; go_simp; (try (with_reducible rfl)); done)
                go_simp
                refine wpAny_ready (rs := [27]) (by as_aux_lemma => kernel_rfl) (by simp) ?_
                refine AllReady.cons rfl (fun K hK => ?_) ?_
                · go_simp
                  try go_simp
                  first
                    | (refine hK _ _ ?_; clear hK K)
                    | skip
                  refine wpAny_take (i := 28) (v := ?_) rfl (by as_aux_lemma => kernel_rfl) (by as_aux_lemma => kernel_rfl) (by as_aux_lemma => kernel_rfl) (fun _ _ _ h => h) (Or.inl ⟨by as_aux_lemma => kernel_rfl, ?_⟩) ?_
                  rotate_left
                  focus (intro w; go_simp; (try (with_reducible rfl)); done)
                  go_simp
                  refine wpAny_take (i := 29) (v := ?_) rfl (by as_aux_lemma => kernel_rfl) (by as_aux_lemma => kernel_rfl) (by as_aux_lemma => kernel_rfl) (fun _ _ _ h => h) (Or.inl ⟨by as_aux_lemma => kernel_rfl, ?_⟩) ?_
                  rotate_left
                  focus (intro w; go_simp; (try (with_reducible rfl)); done)
                  go_simp
                  refine wpAny_ready (rs := [30]) (by as_aux_lemma => kernel_rfl) (by simp) ?_
                  refine AllReady.cons rfl (fun K hK => ?_) ?_
                  · go_simp
                    try go_simp
                    first
                      | (refine hK _ _ ?_; clear hK K)
                      | skip
                    refine wpAny_take (i := 31) (v := ?_) rfl (by as_aux_lemma => kernel_rfl) (by as_aux_lemma => kernel_rfl) (by as_aux_lemma => kernel_rfl) (fun _ _ _ h => h) (Or.inl ⟨by as_aux_lemma => kernel_rfl, ?_⟩) ?_
                    rotate_left
                    focus (intro w; go_simp; (try (with_reducible rfl)); done)
                    go_simp
                    refine wpAny_take (i := 32) (v := ?_) rfl (by as_aux_lemma => kernel_rfl) (by as_aux_lemma => kernel_rfl) (by as_aux_lemma => kernel_rfl) (fun _ _ _ h => h) (Or.inl ⟨by as_aux_lemma => kernel_rfl, ?_⟩) ?_
                    rotate_left
                    focus (intro w; go_simp; (try (with_reducible rfl)); done)
                    go_simp
                    refine wpAny_take (i := 33) (v := ?_) rfl (by as_aux_lemma => kernel_rfl) (by as_aux_lemma => kernel_rfl) (by as_aux_lemma => kernel_rfl) (fun _ _ _ h => h) (Or.inl ⟨by as_aux_lemma => kernel_rfl, ?_⟩) ?_
                    rotate_left
                    focus (intro w; go_simp; (try (with_reducible rfl)); done)
                    go_simp
                    refine wpAny_take (i := 34) (v := ?_) rfl (by as_aux_lemma => kernel_rfl) (by as_aux_lemma => kernel_rfl) (by as_aux_lemma => kernel_rfl) (fun _ _ _ h => h) (Or.inl ⟨by as_aux_lemma => kernel_rfl, ?_⟩) ?_
                    rotate_left
                    focus (intro w; go_simp; (try (with_reducible rfl)); done)
                    go_simp
                    refine wpAny_take (i := 35) (v := ?_) rfl (by as_aux_lemma => kernel_rfl) (by as_aux_lemma => kernel_rfl) (by as_aux_lemma => kernel_rfl) (fun _ _ _ h => h) (Or.inl ⟨by as_aux_lemma => kernel_rfl, ?_⟩) ?_
                    rotate_left
                    focus (intro w; go_simp; (try (with_reducible rfl)); done)
                    go_simp
                    refine wpAny_ready (rs := [36]) (by as_aux_lemma => kernel_rfl) (by simp) ?_
                    refine AllReady.cons rfl (fun K hK => ?_) ?_
                    · go_simp
                      try go_simp
                      first
                        | (refine hK _ _ ?_; clear hK K)
                        | skip
                      refine wpAny_take (i := 37) (v := ?_) rfl (by as_aux_lemma => kernel_rfl) (by as_aux_lemma => kernel_rfl) (by as_aux_lemma => kernel_rfl) (fun _ _ _ h => h) (Or.inl ⟨by as_aux_lemma => kernel_rfl, ?_⟩) ?_
                      rotate_left
                      focus (intro w; go_simp; (try (with_reducible rfl)); done)
                      go_simp
                      refine wpAny_take (i := 38) (v := ?_) rfl (by as_aux_lemma => kernel_rfl) (by as_aux_lemma => kernel_rfl) (by as_aux_lemma => kernel_rfl) (fun _ _ _ h => h) (Or.inl ⟨by as_aux_lemma => kernel_rfl, ?_⟩) ?_
                      rotate_left
                      focus (intro w; go_simp; (try (with_reducible rfl)); done)
                      go_simp
                      refine wpAny_take (i := 39) (v := ?_) rfl (by as_aux_lemma => kernel_rfl) (by as_aux_lemma => kernel_rfl) (by as_aux_lemma => kernel_rfl) (fun _ _ _ h => h) (Or.inl ⟨by as_aux_lemma => kernel_rfl, ?_⟩) ?_
                      rotate_left
                      focus (intro w; go_simp; (try (with_reducible rfl)); done)
                      go_simp
                      refine wpAny_ready (rs := [40]) (by as_aux_lemma => kernel_rfl) (by simp) ?_
                      refine AllReady.cons rfl (fun K hK => ?_) ?_
                      · go_simp
                        try go_simp
                        first
                          | (refine hK _ _ ?_; clear hK K)
                          | skip
                        refine wpAny_take (i := 41) (v := ?_) rfl (by as_aux_lemma => kernel_rfl) (by as_aux_lemma => kernel_rfl) (by as_aux_lemma => kernel_rfl) (fun _ _ _ h => h) (Or.inl ⟨by as_aux_lemma => kernel_rfl, ?_⟩) ?_
                        rotate_left
                        focus (intro w; go_simp; (try (with_reducible rfl)); done)
                        go_simp
                        refine wpAny_take (i := 42) (v := ?_) rfl (by as_aux_lemma => kernel_rfl) (by as_aux_lemma => kernel_rfl) (by as_aux_lemma => kernel_rfl) (fun _ _ _ h => h) (Or.inl ⟨by as_aux_lemma => kernel_rfl, ?_⟩) ?_
                        rotate_left
                        focus (intro w; go_simp; (try (with_reducible rfl)); done)
                        go_simp
                        refine wpAny_take (i := 43) (v := ?_) rfl (by as_aux_lemma => kernel_rfl) (by as_aux_lemma => kernel_rfl) (by as_aux_lemma => kernel_rfl) (fun _ _ _ h => h) (Or.inl ⟨by as_aux_lemma => kernel_rfl, ?_⟩) ?_
                        rotate_left
                        focus (intro w; go_simp; (try (with_reducible rfl)); done)
                        go_simp
                        refine wpAny_ready (rs := [44]) (by as_aux_lemma => kernel_rfl) (by simp) ?_
                        refine AllReady.cons rfl (fun K hK => ?_) ?_
                        · (go_simp; go_at_call 11; first
    | (have hh := HQ.out; clear hh; refine (empty_any _).mono ?_; rintro e w9 ⟨g4, rfl, ho, hg, hb⟩; have H9 : Hid (Below w5.heap.size w5 w9) := HQ.out.2.trans (hb.mono HQ.out.2.size); have es3 := HZ.out _ _ 512 ho.bytes; have es4 := HZ.out w9 (some ⟨g6, 0, none⟩) c6 (HQ.out.1.on hb); clear ho hg hb)
    | (refine (empty_any _).mono ?_; rintro e w8 ⟨g4, rfl, ho, hg, hb⟩; have HP : Hid (Bytes w8 (some ⟨g4, 0, none⟩) zs ∧ Below w5.heap.size w5 w8) := ⟨ho.bytes, H7.out.trans (hb.mono H7.out.size)⟩; have es3 := HZ.out _ _ 512 HP.out.1; clear ho hg hb))
                          try go_simp
                          first
                            | (refine hK _ _ ?_; clear hK K)
                            | skip
                          refine wpAny_ready (rs := [45, 46]) (by as_aux_lemma => kernel_rfl) (by simp) ?_
                          refine AllReady.cons rfl (fun K hK => ?_) ?_
                          · go_simp
                            try go_simp
                            first
                              | (refine hK _ _ ?_; clear hK K)
                              | skip
                            refine wpAny_ready (rs := [46]) (by as_aux_lemma => kernel_rfl) (by simp) ?_
                            refine AllReady.cons rfl (fun K hK => ?_) ?_
                            · (go_simp; go_at_call 19; first
    | (have hh := HP.out; clear hh; refine (rempty_any _).mono ?_; rintro e w9 ⟨g6, c6, rfl, ho, hg, hb⟩; have H9 : Hid (Below w5.heap.size w5 w9) := HP.out.2.trans (hb.mono HP.out.2.size); have es4 := HZ.out _ _ c6 ho.bytes; have es3 := HZ.out w9 (some ⟨g4, 0, none⟩) 512 (HP.out.1.on hb); clear ho hg hb)
    | (refine (rempty_any _).mono ?_; rintro e w8 ⟨g6, c6, rfl, ho, hg, hb⟩; have HQ : Hid (Bytes w8 (some ⟨g6, 0, none⟩) zs ∧ Below w5.heap.size w5 w8) := ⟨ho.bytes, H7.out.trans (hb.mono H7.out.size)⟩; have es4 := HZ.out _ _ c6 HQ.out.1; clear ho hg hb))
                              try go_simp
                              first
                                | (refine hK _ _ ?_; clear hK K)
                                | skip
                              refine wpAny_ready (rs := [47]) (by as_aux_lemma => kernel_rfl) (by simp) ?_
                              refine AllReady.cons rfl (fun K hK => ?_) ?_
                              · go_simp
                                try go_simp
                                first
                                  | (refine hK _ _ ?_; clear hK K)
                                  | skip
                                refine wpAny_take (i := 48) (v := ?_) rfl (by as_aux_lemma => kernel_rfl) (by as_aux_lemma => kernel_rfl) (by as_aux_lemma => kernel_rfl) (fun _ _ _ h => h) (Or.inl ⟨by as_aux_lemma => kernel_rfl, ?_⟩) ?_
                                rotate_left
                                focus (intro w; go_simp; (try (with_reducible rfl)); done)
                                go_simp
                                refine wpAny_take (i := 49) (v := ?_) rfl (by as_aux_lemma => kernel_rfl) (by as_aux_lemma => kernel_rfl) (by as_aux_lemma => kernel_rfl) (fun _ _ _ h => h) (Or.inl ⟨by as_aux_lemma => kernel_rfl, ?_⟩) ?_
                                rotate_left
                                focus (intro w; go_simp; (try (with_reducible rfl)); done)
                                go_simp
                                refine wpAny_done (by as_aux_lemma => kernel_rfl) ?_ _
                                go_wp2
                                go_meet
                                case rel => exact ⟨by simp, H9.out⟩
                              exact AllReady.nil
                            exact AllReady.nil
                          refine AllReady.cons rfl (fun K hK => ?_) ?_
                          · (go_simp; go_at_call 19; first
    | (have hh := HP.out; clear hh; refine (rempty_any _).mono ?_; rintro e w9 ⟨g6, c6, rfl, ho, hg, hb⟩; have H9 : Hid (Below w5.heap.size w5 w9) := HP.out.2.trans (hb.mono HP.out.2.size); have es4 := HZ.out _ _ c6 ho.bytes; have es3 := HZ.out w9 (some ⟨g4, 0, none⟩) 512 (HP.out.1.on hb); clear ho hg hb)
    | (refine (rempty_any _).mono ?_; rintro e w8 ⟨g6, c6, rfl, ho, hg, hb⟩; have HQ : Hid (Bytes w8 (some ⟨g6, 0, none⟩) zs ∧ Below w5.heap.size w5 w8) := ⟨ho.bytes, H7.out.trans (hb.mono H7.out.size)⟩; have es4 := HZ.out _ _ c6 HQ.out.1; clear ho hg hb))
                            try go_simp
                            first
                              | (refine hK _ _ ?_; clear hK K)
                              | skip
                            refine wpAny_ready (rs := [45, 47]) (by as_aux_lemma => kernel_rfl) (by simp) ?_
                            refine AllReady.cons rfl (fun K hK => ?_) ?_
                            · go_simp
                              try go_simp
                              first
                                | (refine hK _ _ ?_; clear hK K)
                                | skip
                              refine wpAny_ready (rs := [47]) (by as_aux_lemma => kernel_rfl) (by simp) ?_
                              refine AllReady.cons rfl (fun K hK => ?_) ?_
                              · go_simp
                                try go_simp
                                first
                                  | (refine hK _ _ ?_; clear hK K)
                                  | skip
                                refine wpAny_take (i := 48) (v := ?_) rfl (by as_aux_lemma => kernel_rfl) (by as_aux_lemma => kernel_rfl) (by as_aux_lemma => kernel_rfl) (fun _ _ _ h => h) (Or.inl ⟨by as_aux_lemma => kernel_rfl, ?_⟩) ?_
                                rotate_left
                                focus (intro w; go_simp; (try (with_reducible rfl)); done)
                                go_simp
                                refine wpAny_take (i := 49) (v := ?_) rfl (by as_aux_lemma => kernel_rfl) (by as_aux_lemma => kernel_rfl) (by as_aux_lemma => kernel_rfl) (fun _ _ _ h => h) (Or.inl ⟨by as_aux_lemma => kernel_rfl, ?_⟩) ?_
                                rotate_left
                                focus (intro w; go_simp; (try (with_reducible rfl)); done)
                                go_simp
                                refine wpAny_done (by as_aux_lemma => kernel_rfl) ?_ _
                                go_wp2
                                go_meet
                                case rel => exact ⟨by simp, H9.out⟩
                              exact AllReady.nil
                            refine AllReady.cons rfl (fun K hK => ?_) ?_
                            · go_simp
                              try go_simp
                              first
                                | (refine hK _ _ ?_; clear hK K)
                                | skip
                              refine wpAny_ready (rs := [45]) (by as_aux_lemma => kernel_rfl) (by simp) ?_
                              refine AllReady.cons rfl (fun K hK => ?_) ?_
                              · go_simp
                                try go_simp
                                first
                                  | (refine hK _ _ ?_; clear hK K)
                                  | skip
                                refine wpAny_take (i := 48) (v := ?_) rfl (by as_aux_lemma => kernel_rfl) (by as_aux_lemma => kernel_rfl) (by as_aux_lemma => kernel_rfl) (fun _ _ _ h => h) (Or.inl ⟨by as_aux_lemma => kernel_rfl, ?_⟩) ?_
                                rotate_left
                                focus (intro w; go_simp; (try (with_reducible rfl)); done)
                                go_simp
                                refine wpAny_take (i := 49) (v := ?_) rfl (by as_aux_lemma => kernel_rfl) (by as_aux_lemma => kernel_rfl) (by as_aux_lemma => kernel_rfl) (fun _ _ _ h => h) (Or.inl ⟨by as_aux_lemma => kernel_rfl, ?_⟩) ?_
                                rotate_left
                                focus (intro w; go_simp; (try (with_reducible rfl)); done)
                                go_simp
                                refine wpAny_done (by as_aux_lemma => kernel_rfl) ?_ _
                                go_wp2
                                go_meet
                                case rel => exact ⟨by simp, H9.out⟩
                              exact AllReady.nil
                            exact AllReady.nil
                          exact AllReady.nil
                        exact AllReady.nil
                      exact AllReady.nil
                    exact AllReady.nil
                  exact AllReady.nil
                exact AllReady.nil
              exact AllReady.nil
            exact AllReady.nil
          exact AllReady.nil
        exact AllReady.nil
      exact AllReady.nil
    refine AllReady.cons rfl (fun K hK => ?_) ?_
    · go_simp
      try go_simp
      first
        | (refine hK _ _ ?_; clear hK K)
        | skip
      refine wpAny_ready (rs := [1]) (by as_aux_lemma => kernel_rfl) (by simp) ?_
      refine AllReady.cons rfl (fun K hK => ?_) ?_
      · go_simp
        try go_simp
        first
          | (refine hK _ _ ?_; clear hK K)
          | skip
        refine wpAny_take (i := 4) (v := ?_) rfl (by as_aux_lemma => kernel_rfl) (by as_aux_lemma => kernel_rfl) (by as_aux_lemma => kernel_rfl) (fun _ _ _ h => h) (Or.inl ⟨by as_aux_lemma => kernel_rfl, ?_⟩) ?_
        rotate_left
        focus (intro w; go_simp; (try (with_reducible rfl)); done)
        go_simp
        refine wpAny_take (i := 5) (v := ?_) rfl (by as_aux_lemma => kernel_rfl) (by as_aux_lemma => kernel_rfl) (by as_aux_lemma => kernel_rfl) (fun _ _ _ h => h) (Or.inl ⟨by as_aux_lemma => kernel_rfl, ?_⟩) ?_
        rotate_left
        focus (intro w; go_simp; (try (with_reducible rfl)); done)
        go_simp
        refine wpAny_take (i := 6) (v := ?_) rfl (by as_aux_lemma => kernel_rfl) (by as_aux_lemma => kernel_rfl) (by as_aux_lemma => kernel_rfl) (fun _ _ _ h => h) (Or.inl ⟨by as_aux_lemma => kernel_rfl, ?_⟩) ?_
        rotate_left
        focus (intro w; go_simp; (try (with_reducible rfl)); done)
        go_simp
        refine wpAny_take (i := 7) (v := ?_) rfl (by as_aux_lemma => kernel_rfl) (by as_aux_lemma => kernel_rfl) (by as_aux_lemma => kernel_rfl) (fun _ _ _ h => h) (Or.inl ⟨by as_aux_lemma => kernel_rfl, ?_⟩) ?_
        rotate_left
        focus (intro w; go_simp; (try (with_reducible rfl)); done)
        go_simp
        refine wpAny_take (i := 8) (v := ?_) rfl (by as_aux_lemma => kernel_rfl) (by as_aux_lemma => kernel_rfl) (by as_aux_lemma => kernel_rfl) (fun _ _ _ h => h) (Or.inl ⟨by as_aux_lemma => kernel_rfl, ?_⟩) ?_
        rotate_left
        focus (intro w; go_simp; (try (with_reducible rfl)); done)
        go_simp
        refine wpAny_take (i := 9) (v := ?_) rfl (by as_aux_lemma => kernel_rfl) (by as_aux_lemma => kernel_rfl) (by as_aux_lemma => kernel_rfl) (fun _ _ _ h => h) (Or.inl ⟨by as_aux_lemma => kernel_rfl, ?_⟩) ?_
        rotate_left
        focus (intro w; go_simp; (try (with_reducible rfl)); done)
        go_simp
        refine wpAny_take (i := 10) (v := ?_) rfl (by as_aux_lemma => kernel_rfl) (by as_aux_lemma => kernel_rfl) (by as_aux_lemma => kernel_rfl) (fun _ _ _ h => h) (Or.inl ⟨by as_aux_lemma => kernel_rfl, ?_⟩) ?_
        rotate_left
        focus (intro w; go_simp; (try (with_reducible rfl)); done)
        go_simp
        refine wpAny_take (i := 11) (v := ?_) rfl (by as_aux_lemma => kernel_rfl) (by as_aux_lemma => kernel_rfl) (by as_aux_lemma => kernel_rfl) (fun _ _ _ h => h) (Or.inl ⟨by as_aux_lemma => kernel_rfl, ?_⟩) ?_
        rotate_left
        focus (intro w; go_simp; (try (with_reducible rfl)); done)
        go_simp
        refine wpAny_take (i := 12) (v := ?_) rfl (by as_aux_lemma => kernel_rfl) (by as_aux_lemma => kernel_rfl) (by as_aux_lemma => kernel_rfl) (fun _ _ _ h => h) (Or.inl ⟨by as_aux_lemma => kernel_rfl, ?_⟩) ?_
        rotate_left
        focus (intro w; go_simp; (try (with_reducible rfl)); done)
        go_simp
        refine wpAny_ready (rs := [13]) (by as_aux_lemma => kernel_rfl) (by simp) ?_
        refine AllReady.cons rfl (fun K hK => ?_) ?_
        · go_simp
          try go_simp
          first
            | (refine hK _ _ ?_; clear hK K)
            | skip
          refine wpAny_ready (rs := [14]) (by as_aux_lemma => kernel_rfl) (by simp) ?_
          refine AllReady.cons rfl (fun K hK => ?_) ?_
          · (go_simp; go_at_call 18; refine (HKp.out _ HD5.out).mono ?_; rintro e w6 ⟨rfl, hb⟩; have H6 : Hid (Below w5.heap.size w5 w6) := HD5.out.trans (hb.mono HD5.out.size); obtain ⟨e1, e2, e3, e4⟩ := HC5.out _ H6.out; clear hb)
            try go_simp
            first
              | (refine hK _ _ ?_; clear hK K)
              | skip
            refine wpAny_take (i := 15) (v := ?_) rfl (by as_aux_lemma => kernel_rfl) (by as_aux_lemma => kernel_rfl) (by as_aux_lemma => kernel_rfl) (fun _ _ _ h => h) (Or.inl ⟨by as_aux_lemma => kernel_rfl, ?_⟩) ?_
            rotate_left
            focus (intro w; go_simp; (try (with_reducible rfl)); done)
            go_simp
            refine wpAny_take (i := 16) (v := ?_) rfl (by as_aux_lemma => kernel_rfl) (by as_aux_lemma => kernel_rfl) (by as_aux_lemma => kernel_rfl) (fun _ _ _ h => h) (Or.inl ⟨by as_aux_lemma => kernel_rfl, ?_⟩) ?_
            rotate_left
            focus (intro w; go_simp; (try (with_reducible rfl)); done)
            go_simp
            refine wpAny_take (i := 17) (v := ?_) rfl (by as_aux_lemma => kernel_rfl) (by as_aux_lemma => kernel_rfl) (by as_aux_lemma => kernel_rfl) (fun _ _ _ h => h) (Or.inl ⟨by as_aux_lemma => kernel_rfl, ?_⟩) ?_
            rotate_left
            focus (intro w; go_simp; (try (with_reducible rfl)); done)
            go_simp
            refine wpAny_take (i := 18) (v := ?_) rfl (by as_aux_lemma => kernel_rfl) (by as_aux_lemma => kernel_rfl) (by as_aux_lemma => kernel_rfl) (fun _ _ _ h => h) (Or.inl ⟨by as_aux_lemma => kernel_rfl, ?_⟩) ?_
            rotate_left
            focus (intro w; go_simp; (try (with_reducible rfl)); done)
            go_simp
            refine wpAny_take (i := 19) (v := ?_) rfl (by as_aux_lemma => kernel_rfl) (by as_aux_lemma => kernel_rfl) (by as_aux_lemma => kernel_rfl) (fun _ _ _ h => h) (Or.inl ⟨by as_aux_lemma => kernel_rfl, ?_⟩) ?_
            rotate_left
            focus (intro w; go_simp; (try (with_reducible rfl)); done)
            go_simp
            refine wpAny_ready (rs := [20]) (by as_aux_lemma => kernel_rfl) (by simp) ?_
            refine AllReady.cons rfl (fun K hK => ?_) ?_
            · go_simp
              try go_simp
              first
                | (refine hK _ _ ?_; clear hK K)
                | skip
              refine wpAny_ready (rs := [21]) (by as_aux_lemma => kernel_rfl) (by simp) ?_
              refine AllReady.cons rfl (fun K hK => ?_) ?_
              · (go_simp; go_at_call 12; refine (HSm.out _ H6.out).mono ?_; rintro e w7 ⟨rfl, hb⟩; have H7 : Hid (Below w5.heap.size w5 w7) := H6.out.trans (hb.mono H6.out.size); obtain ⟨f1, f2, f3, f4⟩ := HC5.out _ H7.out; clear hb)
                try go_simp
                first
                  | (refine hK _ _ ?_; clear hK K)
                  | skip
                refine wpAny_take (i := 22) (v := ?_) rfl (by as_aux_lemma => kernel_rfl) (by as_aux_lemma => kernel_rfl) (by as_aux_lemma => kernel_rfl) (fun _ _ _ h => h) (Or.inl ⟨by as_aux_lemma => kernel_rfl, ?_⟩) ?_
                rotate_left
                focus (intro w; go_simp; (try (with_reducible rfl)); done)
                go_simp
                refine wpAny_take (i := 23) (v := ?_) rfl (by as_aux_lemma => kernel_rfl) (by as_aux_lemma => kernel_rfl) (by as_aux_lemma => kernel_rfl) (fun _ _ _ h => h) (Or.inl ⟨by as_aux_lemma => kernel_rfl, ?_⟩) ?_
                rotate_left
                focus (intro w; go_simp; (try (with_reducible rfl)); done)
                go_simp
                refine wpAny_take (i := 24) (v := ?_) rfl (by as_aux_lemma => kernel_rfl) (by as_aux_lemma => kernel_rfl) (by as_aux_lemma => kernel_rfl) (fun _ _ _ h => h) (Or.inl ⟨by as_aux_lemma => kernel_rfl, ?_⟩) ?_
                rotate_left
                focus (intro w; go_simp; (try (with_reducible rfl)); done)
                go_simp
                refine wpAny_take (i := 25) (v := ?_) rfl (by as_aux_lemma => kernel_rfl) (by as_aux_lemma => kernel_rfl) (by as_aux_lemma => kernel_rfl) (fun _ _ _ h => h) (Or.inl ⟨by as_aux_lemma => kernel_rfl, ?_⟩) ?_
                rotate_left
                focus (intro w; go_simp; (try (with_reducible rfl)); done)
                go_simp
                refine wpAny_take (i := 26) (v := ?_) rfl (by as_aux_lemma => kernel_rfl) (by as_aux_lemma => kernel_rfl) (by as_aux_lemma => kernel_rfl) (fun _ _ _ h => h) (Or.inl ⟨by as_aux_lemma => kernel_rfl, ?_⟩) ?_
                rotate_left
                focus (intro w; go_simp; (try (with_reducible rfl)); done)
                go_simp
                refine wpAny_ready (rs := [27]) (by as_aux_lemma => kernel_rfl) (by simp) ?_
                refine AllReady.cons rfl (fun K hK => ?_) ?_
                · go_simp
                  try go_simp
                  first
                    | (refine hK _ _ ?_; clear hK K)
                    | skip
                  refine wpAny_take (i := 28) (v := ?_) rfl (by as_aux_lemma => kernel_rfl) (by as_aux_lemma => kernel_rfl) (by as_aux_lemma => kernel_rfl) (fun _ _ _ h => h) (Or.inl ⟨by as_aux_lemma => kernel_rfl, ?_⟩) ?_
                  rotate_left
                  focus (intro w; go_simp; (try (with_reducible rfl)); done)
                  go_simp
                  refine wpAny_take (i := 29) (v := ?_) rfl (by as_aux_lemma => kernel_rfl) (by as_aux_lemma => kernel_rfl) (by as_aux_lemma => kernel_rfl) (fun _ _ _ h => h) (Or.inl ⟨by as_aux_lemma => kernel_rfl, ?_⟩) ?_
                  rotate_left
                  focus (intro w; go_simp; (try (with_reducible rfl)); done)
                  go_simp
                  refine wpAny_ready (rs := [30]) (by as_aux_lemma => kernel_rfl) (by simp) ?_
                  refine AllReady.cons rfl (fun K hK => ?_) ?_
                  · go_simp
                    try go_simp
                    first
                      | (refine hK _ _ ?_; clear hK K)
                      | skip
                    refine wpAny_take (i := 31) (v := ?_) rfl (by as_aux_lemma => kernel_rfl) (by as_aux_lemma => kernel_rfl) (by as_aux_lemma => kernel_rfl) (fun _ _ _ h => h) (Or.inl ⟨by as_aux_lemma => kernel_rfl, ?_⟩) ?_
                    rotate_left
                    focus (intro w; go_simp; (try (with_reducible rfl)); done)
                    go_simp
                    refine wpAny_take (i := 32) (v := ?_) rfl (by as_aux_lemma => kernel_rfl) (by as_aux_lemma => kernel_rfl) (by as_aux_lemma => kernel_rfl) (fun _ _ _ h => h) (Or.inl ⟨by as_aux_lemma => kernel_rfl, ?_⟩) ?_
                    rotate_left
                    focus (intro w; go_simp; (try (with_reducible rfl)); done)
                    go_simp
                    refine wpAny_take (i := 33) (v := ?_) rfl (by as_aux_lemma => kernel_rfl) (by as_aux_lemma => kernel_rfl) (by as_aux_lemma => kernel_rfl) (fun _ _ _ h => h) (Or.inl ⟨by as_aux_lemma => kernel_rfl, ?_⟩) ?_
                    rotate_left
                    focus (intro w; go_simp; (try (with_reducible rfl)); done)
                    go_simp
                    refine wpAny_take (i := 34) (v := ?_) rfl (by as_aux_lemma => kernel_rfl) (by as_aux_lemma => kernel_rfl) (by as_aux_lemma => kernel_rfl) (fun _ _ _ h => h) (Or.inl ⟨by as_aux_lemma => kernel_rfl, ?_⟩) ?_
                    rotate_left
                    focus (intro w; go_simp; (try (with_reducible rfl)); done)
                    go_simp
                    refine wpAny_take (i := 35) (v := ?_) rfl (by as_aux_lemma => kernel_rfl) (by as_aux_lemma => kernel_rfl) (by as_aux_lemma => kernel_rfl) (fun _ _ _ h => h) (Or.inl ⟨by as_aux_lemma => kernel_rfl, ?_⟩) ?_
                    rotate_left
                    focus (intro w; go_simp; (try (with_reducible rfl)); done)
                    go_simp
                    refine wpAny_ready (rs := [36]) (by as_aux_lemma => kernel_rfl) (by simp) ?_
                    refine AllReady.cons rfl (fun K hK => ?_) ?_
                    · go_simp
                      try go_simp
                      first
                        | (refine hK _ _ ?_; clear hK K)
                        | skip
                      refine wpAny_take (i := 37) (v := ?_) rfl (by as_aux_lemma => kernel_rfl) (by as_aux_lemma => kernel_rfl) (by as_aux_lemma => kernel_rfl) (fun _ _ _ h => h) (Or.inl ⟨by as_aux_lemma => kernel_rfl, ?_⟩) ?_
                      rotate_left
                      focus (intro w; go_simp; (try (with_reducible rfl)); done)
                      go_simp
                      refine wpAny_take (i := 38) (v := ?_) rfl (by as_aux_lemma => kernel_rfl) (by as_aux_lemma => kernel_rfl) (by as_aux_lemma => kernel_rfl) (fun _ _ _ h => h) (Or.inl ⟨by as_aux_lemma => kernel_rfl, ?_⟩) ?_
                      rotate_left
                      focus (intro w; go_simp; (try (with_reducible rfl)); done)
                      go_simp
                      refine wpAny_take (i := 39) (v := ?_) rfl (by as_aux_lemma => kernel_rfl) (by as_aux_lemma => kernel_rfl) (by as_aux_lemma => kernel_rfl) (fun _ _ _ h => h) (Or.inl ⟨by as_aux_lemma => kernel_rfl, ?_⟩) ?_
                      rotate_left
                      focus (intro w; go_simp; (try (with_reducible rfl)); done)
                      go_simp
                      refine wpAny_ready (rs := [40]) (by as_aux_lemma => kernel_rfl) (by simp) ?_
                      refine AllReady.cons rfl (fun K hK => ?_) ?_
                      · go_simp
                        try go_simp
                        first
                          | (refine hK _ _ ?_; clear hK K)
                          | skip
                        refine wpAny_take (i := 41) (v := ?_) rfl (by as_aux_lemma => kernel_rfl) (by as_aux_lemma => kernel_rfl) (by as_aux_lemma => kernel_rfl) (fun _ _ _ h => h) (Or.inl ⟨by as_aux_lemma => kernel_rfl, ?_⟩) ?_
                        rotate_left
                        focus (intro w; go_simp; (try (with_reducible rfl)); done)
                        go_simp
                        refine wpAny_take (i := 42) (v := ?_) rfl (by as_aux_lemma => kernel_rfl) (by as_aux_lemma => kernel_rfl) (by as_aux_lemma => kernel_rfl) (fun _ _ _ h => h) (Or.inl ⟨by as_aux_lemma => kernel_rfl, ?_⟩) ?_
                        rotate_left
                        focus (intro w; go_simp; (try (with_reducible rfl)); done)
                        go_simp
                        refine wpAny_take (i := 43) (v := ?_) rfl (by as_aux_lemma => kernel_rfl) (by as_aux_lemma => kernel_rfl) (by as_aux_lemma => kernel_rfl) (fun _ _ _ h => h) (Or.inl ⟨by as_aux_lemma => kernel_rfl, ?_⟩) ?_
                        rotate_left
                        focus (intro w; go_simp; (try (with_reducible rfl)); done)
                        go_simp
                        refine wpAny_ready (rs := [44]) (by as_aux_lemma => kernel_rfl) (by simp) ?_
                        refine AllReady.cons rfl (fun K hK => ?_) ?_
                        · (go_simp; go_at_call 11; first
    | (have hh := HQ.out; clear hh; refine (empty_any _).mono ?_; rintro e w9 ⟨g4, rfl, ho, hg, hb⟩; have H9 : Hid (Below w5.heap.size w5 w9) := HQ.out.2.trans (hb.mono HQ.out.2.size); have es3 := HZ.out _ _ 512 ho.bytes; have es4 := HZ.out w9 (some ⟨g6, 0, none⟩) c6 (HQ.out.1.on hb); clear ho hg hb)
    | (refine (empty_any _).mono ?_; rintro e w8 ⟨g4, rfl, ho, hg, hb⟩; have HP : Hid (Bytes w8 (some ⟨g4, 0, none⟩) zs ∧ Below w5.heap.size w5 w8) := ⟨ho.bytes, H7.out.trans (hb.mono H7.out.size)⟩; have es3 := HZ.out _ _ 512 HP.out.1; clear ho hg hb))
                          try go_simp
                          first
                            | (refine hK _ _ ?_; clear hK K)
                            | skip
                          refine wpAny_ready (rs := [45, 46]) (by as_aux_lemma => kernel_rfl) (by simp) ?_
                          refine AllReady.cons rfl (fun K hK => ?_) ?_
                          · go_simp
                            try go_simp
                            first
                              | (refine hK _ _ ?_; clear hK K)
                              | skip
                            refine wpAny_ready (rs := [46]) (by as_aux_lemma => kernel_rfl) (by simp) ?_
                            refine AllReady.cons rfl (fun K hK => ?_) ?_
                            · (go_simp; go_at_call 19; first
    | (have hh := HP.out; clear hh; refine (rempty_any _).mono ?_; rintro e w9 ⟨g6, c6, rfl, ho, hg, hb⟩; have H9 : Hid (Below w5.heap.size w5 w9) := HP.out.2.trans (hb.mono HP.out.2.size); have es4 := HZ.out _ _ c6 ho.bytes; have es3 := HZ.out w9 (some ⟨g4, 0, none⟩) 512 (HP.out.1.on hb); clear ho hg hb)
    | (refine (rempty_any _).mono ?_; rintro e w8 ⟨g6, c6, rfl, ho, hg, hb⟩; have HQ : Hid (Bytes w8 (some ⟨g6, 0, none⟩) zs ∧ Below w5.heap.size w5 w8) := ⟨ho.bytes, H7.out.trans (hb.mono H7.out.size)⟩; have es4 := HZ.out _ _ c6 HQ.out.1; clear ho hg hb))
                              try go_simp
                              first
                                | (refine hK _ _ ?_; clear hK K)
                                | skip
                              refine wpAny_ready (rs := [47]) (by as_aux_lemma => kernel_rfl) (by simp) ?_
                              refine AllReady.cons rfl (fun K hK => ?_) ?_
                              · go_simp
                                try go_simp
                                first
                                  | (refine hK _ _ ?_; clear hK K)
                                  | skip
                                refine wpAny_take (i := 48) (v := ?_) rfl (by as_aux_lemma => kernel_rfl) (by as_aux_lemma => kernel_rfl) (by as_aux_lemma => kernel_rfl) (fun _ _ _ h => h) (Or.inl ⟨by as_aux_lemma => kernel_rfl, ?_⟩) ?_
                                rotate_left
                                focus (intro w; go_simp; (try (with_reducible rfl)); done)
                                go_simp
                                refine wpAny_take (i := 49) (v := ?_) rfl (by as_aux_lemma => kernel_rfl) (by as_aux_lemma => kernel_rfl) (by as_aux_lemma => kernel_rfl) (fun _ _ _ h => h) (Or.inl ⟨by as_aux_lemma => kernel_rfl, ?_⟩) ?_
                                rotate_left
                                focus (intro w; go_simp; (try (with_reducible rfl)); done)
                                go_simp
                                refine wpAny_done (by as_aux_lemma => kernel_rfl) ?_ _
                                go_wp2
                                go_meet
                                case rel => exact ⟨by simp, H9.out⟩
                              exact AllReady.nil
                            exact AllReady.nil
                          refine AllReady.cons rfl (fun K hK => ?_) ?_
                          · (go_simp; go_at_call 19; first
    | (have hh := HP.out; clear hh; refine (rempty_any _).mono ?_; rintro e w9 ⟨g6, c6, rfl, ho, hg, hb⟩; have H9 : Hid (Below w5.heap.size w5 w9) := HP.out.2.trans (hb.mono HP.out.2.size); have es4 := HZ.out _ _ c6 ho.bytes; have es3 := HZ.out w9 (some ⟨g4, 0, none⟩) 512 (HP.out.1.on hb); clear ho hg hb)
    | (refine (rempty_any _).mono ?_; rintro e w8 ⟨g6, c6, rfl, ho, hg, hb⟩; have HQ : Hid (Bytes w8 (some ⟨g6, 0, none⟩) zs ∧ Below w5.heap.size w5 w8) := ⟨ho.bytes, H7.out.trans (hb.mono H7.out.size)⟩; have es4 := HZ.out _ _ c6 HQ.out.1; clear ho hg hb))
                            try go_simp
                            first
                              | (refine hK _ _ ?_; clear hK K)
                              | skip
                            refine wpAny_ready (rs := [45, 47]) (by as_aux_lemma => kernel_rfl) (by simp) ?_
                            refine AllReady.cons rfl (fun K hK => ?_) ?_
                            · go_simp
                              try go_simp
                              first
                                | (refine hK _ _ ?_; clear hK K)
                                | skip
                              refine wpAny_ready (rs := [47]) (by as_aux_lemma => kernel_rfl) (by simp) ?_
                              refine AllReady.cons rfl (fun K hK => ?_) ?_
                              · go_simp
                                try go_simp
                                first
                                  | (refine hK _ _ ?_; clear hK K)
                                  | skip
                                refine wpAny_take (i := 48) (v := ?_) rfl (by as_aux_lemma => kernel_rfl) (by as_aux_lemma => kernel_rfl) (by as_aux_lemma => kernel_rfl) (fun _ _ _ h => h) (Or.inl ⟨by as_aux_lemma => kernel_rfl, ?_⟩) ?_
                                rotate_left
                                focus (intro w; go_simp; (try (with_reducible rfl)); done)
                                go_simp
                                refine wpAny_take (i := 49) (v := ?_) rfl (by as_aux_lemma => kernel_rfl) (by as_aux_lemma => kernel_rfl) (by as_aux_lemma => kernel_rfl) (fun _ _ _ h => h) (Or.inl ⟨by as_aux_lemma => kernel_rfl, ?_⟩) ?_
                                rotate_left
                                focus (intro w; go_simp; (try (with_reducible rfl)); done)
                                go_simp
                                refine wpAny_done (by as_aux_lemma => kernel_rfl) ?_ _
                                go_wp2
                                go_meet
                                case rel => exact ⟨by simp, H9.out⟩
                              exact AllReady.nil
                            refine AllReady.cons rfl (fun K hK => ?_) ?_
                            · go_simp
                              try go_simp
                              first
                                | (refine hK _ _ ?_; clear hK K)
                                | skip
                              refine wpAny_ready (rs := [45]) (by as_aux_lemma => kernel_rfl) (by simp) ?_
                              refine AllReady.cons rfl (fun K hK => ?_) ?_
                              · go_simp
                                try go_simp
                                first
                                  | (refine hK _ _ ?_; clear hK K)
                                  | skip
                                refine wpAny_take (i := 48) (v := ?_) rfl (by as_aux_lemma => kernel_rfl) (by as_aux_lemma => kernel_rfl) (by as_aux_lemma => kernel_rfl) (fun _ _ _ h => h) (Or.inl ⟨by as_aux_lemma => kernel_rfl, ?_⟩) ?_
                                rotate_left
                                focus (intro w; go_simp; (try (with_reducible rfl)); done)
                                go_simp
                                refine wpAny_take (i := 49) (v := ?_) rfl (by as_aux_lemma => kernel_rfl) (by as_aux_lemma => kernel_rfl) (by as_aux_lemma => kernel_rfl) (fun _ _ _ h => h) (Or.inl ⟨by as_aux_lemma => kernel_rfl, ?_⟩) ?_
                                rotate_left
                                focus (intro w; go_simp; (try (with_reducible rfl)); done)
                                go_simp
                                refine wpAny_done (by as_aux_lemma => kernel_rfl) ?_ _
                                go_wp2
                                go_meet
                                case rel => exact ⟨by simp, H9.out⟩
                              exact AllReady.nil
                            exact AllReady.nil
                          exact AllReady.nil
                        exact AllReady.nil
                      exact AllReady.nil
                    exact AllReady.nil
                  exact AllReady.nil
                exact AllReady.nil
              exact AllReady.nil
            exact AllReady.nil
          exact AllReady.nil
        exact AllReady.nil
      exact AllReady.nil
    exact AllReady.nil
  case rest =>
  obtain ⟨rfl, hb⟩ := hcut
  clear es1 es2 d1 d2 d3 d4 hi0 hi1 hi2 hi3 hi4 hi5
  have HX5 : Hid (ExAt wc B p ds dn gD cD sF vs fs gm gI cI sn ns ha wa hn hc wn wc5 ∧ Below w0.heap.size w0 wc) := ⟨H5.out.1.on hb, HW5.out _ hb⟩
  clear hb
  obtain ⟨wL, hwL⟩ : ∃ wL, wL = wc.alloc (.cells #[.slice ba bn bc, .slice wa wn wc5] 23) := ⟨_, rfl⟩
  have HLb : Hid (Below w0.heap.size w0 wL ∧ Below wc.heap.size wc wL) := by
    have : Below wc.heap.size wc wL := by rw [hwL]; exact (Below.refl _ _).alloc (Nat.le_refl _) _
    exact ⟨HX5.out.2.trans (this.mono HX5.out.2.size), this⟩
  have hrL : wL.heap[wc.heap.size]? = some (.cells #[.slice ba bn bc, .slice wa wn wc5] 23 (0, 0)) := by rw [hwL]; exact heap_alloc_new _ _
  have HXx : Hid (∀ wr k, Below wL.heap.size wL wr → k < 2 → ∃ xa xn xc xl, wr.cell? ⟨wc.heap.size, k, none⟩ = some (.slice xa xn xc) ∧ ∀ wx, Below wL.heap.size wL wx → HdAt wx xa xn xc xl) := fun wr k hbb hk => by
    have hr : wr.heap[wc.heap.size]? = _ := (hbb.block _ (heap_lt hrL)).trans hrL
    by_cases h0 : k = 0
    · subst h0
      exact ⟨ba, bn, bc, hb, by rw [cell_of_row _ _ _ _ _ _ hr]; rfl, fun wx hx => ⟨HL.out.2.2.1, HB.out _ (HW.out _ (HLb.out.1.trans (hx.mono HLb.out.1.size))), HL.out.2.2.2.2.2, hb4⟩⟩
    · have h1 : k = 1 := by omega
      subst h1
      exact ⟨wa, wn, wc5, hdr ns ds, by rw [cell_of_row _ _ _ _ _ _ hr]; rfl, fun wx hx => (HX5.out.1.on (HLb.out.2.trans (hx.mono HLb.out.2.size))).wd⟩
  have HEx : Hid (∀ wx, Below wL.heap.size wL wx → ExAt wx B p ds dn gD cD sF vs fs gm gI cI sn ns ha wa hn hc wn wc5 ∧ Below w0.heap.size w0 wx ∧ wx.cell? ⟨w.heap.size, 0, none⟩ = some (.slice sa sn sc) ∧ wx.cell? ⟨w.heap.size, 1, none⟩ = some (.slice da dn dc)) := fun wx hx => by
    have h0 := HLb.out.1.trans (hx.mono HLb.out.1.size)
    exact ⟨HX5.out.1.on (HLb.out.2.trans (hx.mono HLb.out.2.size)), h0, HC.out _ h0⟩
  clear hrL
  go_wp2_with fail
  rw [← hwL]
  clear hwL
  go_loopw [104] (fun s wr => ∃ k : Nat, k ≤ 2 ∧ s = .int .i64 k ∧ Below wL.heap.size wL wr) (fun s _ => 2 - (intOf s).toNat)
  case atStart => exact ⟨0, by omega, rfl, Below.refl _ _⟩
  case round =>
    obtain ⟨k, hk, rfl, hb⟩ := hrel
    have HR : Hid (Below wL.heap.size wL wr) := hb
    clear hb
    by_cases hlt : k < 2
    · obtain ⟨xa, xn, xc, xl, c0, hx⟩ := HXx.out wr k HR.out hlt
      have HX : Hid (∀ wx, Below wL.heap.size wL wx → HdAt wx xa xn xc xl) := hx
      have hn9 : xn ≤ 140737488351232 := (hx _ HR.out).top
      clear hx
      go_upto_region 13 with (first
        | (at_builtin; have hh := H1.out.1; clear hh; refine wp_mark8 (w1 := w11) rfl (.tmp 110) (.tmp 111) rfl wr.heap.size g1 xn cap1 xl rfl rfl H1.out.1 (HX.out _ HR.out).len H1.out.2.2 H1.out.2.1.size hn9 ?_; intro gc cc w12 hg ho hb hcc; have H2b : Hid (OwnB w12 gc cc (xl ++ [108]) ∧ Below wL.heap.size wL w12) := ⟨ho, HR.out.trans ((H1.out.2.1.trans hb).mono HR.out.size)⟩; clear hg ho hb)
        | (at_builtin; refine wp_bany (w7 := wr) rfl (.tmp 108) (.tmp 109) rfl rfl xa xn xc xl rfl (HX.out _ HR.out).len (HX.out _ HR.out).bytes (HX.out _ HR.out).nil hn9 ?_; intro g1 cap1 w11 ho hb hg; have H1 : Hid (OwnB w11 g1 cap1 xl ∧ Below wr.heap.size wr w11 ∧ wr.heap.size ≤ g1) := ⟨ho, hb, hg⟩; clear ho hb hg))
      clear c0
      have hcc1 : (xn : Int) ≤ (cc : Int) := by omega
      have HCb : Hid (∀ wx, Below w12.heap.size w12 wx → Bytes wx (some ⟨gc, 0, none⟩) xl ∧ wx.cell? ⟨gc, xn, none⟩ = some (.int .u8 108) ∧ Below wL.heap.size wL wx) := fun wx hb => by
        have ho := H2b.out.1.on hb
        have hl := (HX.out _ HR.out).len
        have h1 := ho.bytes.take xl.length
        rw [List.take_left] at h1
        have h2 := ho.cell xn (by rw [List.length_append, hl]; simp)
        rw [nth_back _ hl] at h2
        exact ⟨h1, h2, H2b.out.2.trans (hb.mono H2b.out.2.size)⟩
      go_upto_region 15 with (first
        | (go_at_call 10; refine (nums_any _ _ xn cc xl n (HX.out _ HR.out).len (HCb.out _ (Below.refl _ _)).1 (by omega) (HT.out _ (HW.out _ (HEx.out _ H2b.out.2).2.1))).mono ?_; rintro e w13 ⟨v, rfl, hv, hb⟩; obtain ⟨la, ln, lc, rfl, hl1, hl2⟩ := numsAt_ints hv; have H13 : Hid (Below w12.heap.size w12 w13 ∧ (numsL xl n).length = ln ∧ Ints w13 la (numsL xl n)) := ⟨hb, hl1, hl2⟩; clear hv hb hl1 hl2)
        | (go_at_call 20; have hh := H13.out; clear hh; refine (rnums_any _ _ xn xc xl n (HX.out _ HR.out).len (HX.out _ (HCb.out _ H13.out.1).2.2).bytes).mono ?_; rintro e w14 ⟨v, rfl, hv, hb⟩; obtain ⟨ma, mn, mc, rfl, hl1, hl2⟩ := numsAt_ints hv; have H14 : Hid (Below w12.heap.size w12 w14 ∧ (numsL xl n).length = ln ∧ Ints w14 la (numsL xl n) ∧ (numsL xl n).length = mn ∧ Ints w14 ma (numsL xl n)) := ⟨H13.out.1.trans (hb.mono H13.out.1.size), H13.out.2.1, H13.out.2.2.on hb, hl1, hl2⟩; clear hv hb hl1 hl2))
      --15
      have HD14 : Hid (Below w14.heap.size w14 w14.drew) := (Below.refl _ _).drew
      have HW14 : Hid (∀ wr', Below w14.heap.size w14 wr' → Below w12.heap.size w12 wr') := fun wr' hb => H14.out.1.trans (hb.mono H14.out.1.size)
      have HSa : Hid (∀ wx, Below w14.heap.size w14 wx → Calls Tryd.prog 12 #[.slice la ln lc, .slice ma mn mc] wx fun e w' => e = .returned (.bool true) ∧ Below wx.heap.size wx w') := fun wx hb => by
        have := same_any wx _ _ ln lc mn mc _ _ H14.out.2.1 H14.out.2.2.2.1 (H14.out.2.2.1.on hb) (H14.out.2.2.2.2.on hb)
        rwa [show decide (numsL xl n = numsL xl n) = true from by simp] at this
      have HIq : Hid (∀ wx, Below w14.heap.size w14 wx → Calls Tryd.prog 16 #[.pointer (some ⟨p, 0, none⟩)] wx fun e w' => e = .returned (.slice (some ⟨gD, 0, none⟩) dn cD) ∧ Below wx.heap.size wx w') := fun wx hb => in_any B wx p ds dn gD cD sF vs fs gm (HEx.out _ (HCb.out _ (HW14.out _ hb)).2.2).1.room hd4
      obtain ⟨gv, hgv⟩ : ∃ gv, good xl n ds = gv := ⟨_, rfl⟩
      have HGo : Hid (∀ wx, Below w14.heap.size w14 wx → Calls Tryd.prog 21 #[.slice (some ⟨gc, 0, none⟩) xn cc, .int .i64 n, .slice (some ⟨gD, 0, none⟩) dn cD] wx fun e w' => e = .returned (.bool gv) ∧ Below wx.heap.size wx w') := fun wx hb => by
        obtain ⟨b1, b2, b3⟩ := HCb.out _ (HW14.out _ hb)
        obtain ⟨x1, x2, x3, x4⟩ := HEx.out _ b3
        rw [← hgv]
        exact good_any wx _ _ xn cc dn cD xl ds n (HX.out _ HR.out).len HL.out.2.1 b1 (by omega) (x1.room.data HL.out.2.1 (by omega)) (HT.out _ (HW.out _ x2))
      have HRg : Hid (∀ wx, Below w14.heap.size w14 wx → Calls Tryd.prog 22 #[.slice xa xn xc, .int .i64 n, .slice da dn dc] wx fun e w' => e = .returned (.bool gv) ∧ Below wx.heap.size wx w') := fun wx hb => by
        obtain ⟨b1, b2, b3⟩ := HCb.out _ (HW14.out _ hb)
        obtain ⟨x1, x2, x3, x4⟩ := HEx.out _ b3
        rw [← hgv]
        exact rgood_any wx _ _ xn xc dn dc xl ds n (HX.out _ HR.out).len HL.out.2.1 (HX.out _ b3).bytes (HD.out _ (HW.out _ x2))
      clear hgv
      obtain ⟨S2, hS2⟩ : ∃ S, strOfNums xl = S := ⟨_, rfl⟩
      have HC14 : Hid (∀ wx, Below w14.heap.size w14 wx → wx.cell? ⟨w.heap.size, 1, none⟩ = some (.slice da dn dc) ∧ wx.cell? ⟨gc, xn, none⟩ = some (.int .u8 108) ∧ (convert 23 9 (.slice (some ⟨gc, 0, none⟩) xn cc)).run Tryd.prog wx = .ok (.string S2) wx ∧ (convert 23 9 (.slice xa xn xc)).run Tryd.prog wx = .ok (.string S2) wx) := fun wx hb => by
        obtain ⟨b1, b2, b3⟩ := HCb.out _ (HW14.out _ hb)
        obtain ⟨x1, x2, x3, x4⟩ := HEx.out _ b3
        rw [← hS2]
        exact ⟨x4, b2, str_opt b1 (HX.out _ HR.out).len, str_opt (HX.out _ b3).bytes (HX.out _ HR.out).len⟩
      clear hS2
      have hx0 : (0 : Int) ≤ (xn : Int) := by omega
      have hx1 : (xn : Int) < (xn : Int) + 1 := by omega
      go_cut [170] (fun s wx => s = .bool false ∧ Below w14.heap.size w14 wx)
      case first =>
        refine wp_region_any (by as_aux_lemma => kernel_rfl) ?_
        try (change wpAny _ _ _ _ _ _ _ (World.drew _))
        refine wpAny_take (i := 0) (v := ?_) rfl (by as_aux_lemma => kernel_rfl) (by as_aux_lemma => kernel_rfl) (by as_aux_lemma => kernel_rfl) (fun _ _ _ h => h) (Or.inl ⟨by as_aux_lemma => kernel_rfl, ?_⟩) ?_
        rotate_left
        focus (intro w; go_simp; (try (with_reducible rfl)); done)
        go_simp
        refine wpAny_take (i := 1) (v := ?_) rfl (by as_aux_lemma => kernel_rfl) (by as_aux_lemma => kernel_rfl) (by as_aux_lemma => kernel_rfl) (fun _ _ _ h => h) (Or.inl ⟨by as_aux_lemma => kernel_rfl, ?_⟩) ?_
        rotate_left
        focus (intro w; go_simp; (try (with_reducible rfl)); done)
        go_simp
        refine wpAny_ready (rs := [2]) (by as_aux_lemma => kernel_rfl) (by simp) ?_
        refine AllReady.cons rfl (fun K hK => ?_) ?_
        · (go_simp; go_at_call 12; refine (HSa.out _ HD14.out).mono ?_; rintro e w15 ⟨rfl, hb⟩; have H15 : Hid (Below w14.heap.size w14 w15) := HD14.out.trans (hb.mono HD14.out.size); obtain ⟨e1, e2, e3, e4⟩ := HC14.out _ H15.out; clear hb)
          try go_simp
          first
            | (refine hK _ _ ?_; clear hK K)
            | skip
          refine wpAny_take (i := 3) (v := ?_) rfl (by as_aux_lemma => kernel_rfl) (by as_aux_lemma => kernel_rfl) (by as_aux_lemma => kernel_rfl) (fun _ _ _ h => h) (Or.inl ⟨by as_aux_lemma => kernel_rfl, ?_⟩) ?_
          rotate_left
          focus (intro w; go_simp; (try (with_reducible rfl)); done)
          go_simp
          refine wpAny_take (i := 4) (v := ?_) rfl (by as_aux_lemma => kernel_rfl) (by as_aux_lemma => kernel_rfl) (by as_aux_lemma => kernel_rfl) (fun _ _ _ h => h) (Or.inl ⟨by as_aux_lemma => kernel_rfl, ?_⟩) ?_
          rotate_left
          focus (intro w; go_simp; (try (with_reducible rfl)); done)
          go_simp
          refine wpAny_take (i := 5) (v := ?_) rfl (by as_aux_lemma => kernel_rfl) (by as_aux_lemma => kernel_rfl) (by as_aux_lemma => kernel_rfl) (fun _ _ _ h => h) (Or.inl ⟨by as_aux_lemma => kernel_rfl, ?_⟩) ?_
          rotate_left
          focus (intro w; go_simp; (try (with_reducible rfl)); done)
          go_simp
          refine wpAny_take (i := 6) (v := ?_) rfl (by as_aux_lemma => kernel_rfl) (by as_aux_lemma => kernel_rfl) (by as_aux_lemma => kernel_rfl) (fun _ _ _ h => h) (Or.inl ⟨by as_aux_lemma => kernel_rfl, ?_⟩) ?_
          rotate_left
          focus (intro w; go_simp; (try (with_reducible rfl)); done)
          go_simp
          refine wpAny_take (i := 7) (v := ?_) rfl (by as_aux_lemma => kernel_rfl) (by as_aux_lemma => kernel_rfl) (by as_aux_lemma => kernel_rfl) (fun _ _ _ h => h) (Or.inl ⟨by as_aux_lemma => kernel_rfl, ?_⟩) ?_
          rotate_left
          focus (intro w; go_simp; (try (with_reducible rfl)); done)
          go_simp
          refine wpAny_take (i := 8) (v := ?_) rfl (by as_aux_lemma => kernel_rfl) (by as_aux_lemma => kernel_rfl) (by as_aux_lemma => kernel_rfl) (fun _ _ _ h => h) (Or.inl ⟨by as_aux_lemma => kernel_rfl, ?_⟩) ?_
          rotate_left
          focus (intro w; go_simp; (try (with_reducible rfl)); done)
          go_simp
          refine wpAny_take (i := 9) (v := ?_) rfl (by as_aux_lemma => kernel_rfl) (by as_aux_lemma => kernel_rfl) (by as_aux_lemma => kernel_rfl) (fun _ _ _ h => h) (Or.inl ⟨by as_aux_lemma => kernel_rfl, ?_⟩) ?_
          rotate_left
          focus (intro w; go_simp; (try (with_reducible rfl)); done)
          go_simp
          refine wpAny_take (i := 10) (v := ?_) rfl (by as_aux_lemma => kernel_rfl) (by as_aux_lemma => kernel_rfl) (by as_aux_lemma => kernel_rfl) (fun _ _ _ h => h) (Or.inl ⟨by as_aux_lemma => kernel_rfl, ?_⟩) ?_
          rotate_left
          focus (intro w; go_simp; (try (with_reducible rfl)); done)
          go_simp
          refine wpAny_take (i := 11) (v := ?_) rfl (by as_aux_lemma => kernel_rfl) (by as_aux_lemma => kernel_rfl) (by as_aux_lemma => kernel_rfl) (fun _ _ _ h => h) (Or.inl ⟨by as_aux_lemma => kernel_rfl, ?_⟩) ?_
          rotate_left
          focus (intro w; go_simp; (try (with_reducible rfl)); done)
          go_simp
          refine wpAny_take (i := 12) (v := ?_) rfl (by as_aux_lemma => kernel_rfl) (by as_aux_lemma => kernel_rfl) (by as_aux_lemma => kernel_rfl) (fun _ _ _ h => h) (Or.inl ⟨by as_aux_lemma => kernel_rfl, ?_⟩) ?_
          rotate_left
          focus (intro w; go_simp; (try (with_reducible rfl)); done)
          go_simp
          refine wpAny_take (i := 13) (v := ?_) rfl (by as_aux_lemma => kernel_rfl) (by as_aux_lemma => kernel_rfl) (by as_aux_lemma => kernel_rfl) (fun _ _ _ h => h) (Or.inl ⟨by as_aux_lemma => kernel_rfl, ?_⟩) ?_
          rotate_left
          focus (intro w; go_simp; (try (with_reducible rfl)); done)
          go_simp
          refine wpAny_take (i := 14) (v := ?_) rfl (by as_aux_lemma => kernel_rfl) (by as_aux_lemma => kernel_rfl) (by as_aux_lemma => kernel_rfl) (fun _ _ _ h => h) (Or.inl ⟨by as_aux_lemma => kernel_rfl, ?_⟩) ?_
          rotate_left
          focus (intro w; go_simp; (try (with_reducible rfl)); done)
          go_simp
          refine wpAny_take (i := 15) (v := ?_) rfl (by as_aux_lemma => kernel_rfl) (by as_aux_lemma => kernel_rfl) (by as_aux_lemma => kernel_rfl) (fun _ _ _ h => h) (Or.inl ⟨by as_aux_lemma => kernel_rfl, ?_⟩) ?_
          rotate_left
          focus (intro w; go_simp; (try (with_reducible rfl)); done)
          go_simp
          refine wpAny_take (i := 18) (v := ?_) rfl (by as_aux_lemma => kernel_rfl) (by as_aux_lemma => kernel_rfl) (by as_aux_lemma => kernel_rfl) (fun _ _ _ h => h) (Or.inl ⟨by as_aux_lemma => kernel_rfl, ?_⟩) ?_
          rotate_left
          focus (intro w; go_simp; (try (with_reducible rfl)); done)
          go_simp
          refine wpAny_take (i := 19) (v := ?_) rfl (by as_aux_lemma => kernel_rfl) (by as_aux_lemma => kernel_rfl) (by as_aux_lemma => kernel_rfl) (fun _ _ _ h => h) (Or.inl ⟨by as_aux_lemma => kernel_rfl, ?_⟩) ?_
          rotate_left
          focus (intro w; go_simp; (try (with_reducible rfl)); done)
          go_simp
          refine wpAny_take (i := 20) (v := ?_) rfl (by as_aux_lemma => kernel_rfl) (by as_aux_lemma => kernel_rfl) (by as_aux_lemma => kernel_rfl) (fun _ _ _ h => h) (Or.inl ⟨by as_aux_lemma => kernel_rfl, ?_⟩) ?_
          rotate_left
          focus (intro w; go_simp; (try (with_reducible rfl)); done)
          go_simp
          refine wpAny_ready (rs := [16, 21]) (by as_aux_lemma => kernel_rfl) (by simp) ?_
          refine AllReady.cons rfl (fun K hK => ?_) ?_
          · (go_simp; go_at_call 16; first
    | (have hh := HG.out; clear hh; refine (HIq.out _ HG.out).mono ?_; rintro e w16 ⟨rfl, hb⟩; have HI : Hid (Below w14.heap.size w14 w16) := HG.out.trans (hb.mono HG.out.size); obtain ⟨i1, i2, i3, i4⟩ := HC14.out _ HI.out; clear hb)
    | (refine (HIq.out _ H15.out).mono ?_; rintro e w16 ⟨rfl, hb⟩; have HI : Hid (Below w14.heap.size w14 w16) := H15.out.trans (hb.mono H15.out.size); obtain ⟨i1, i2, i3, i4⟩ := HC14.out _ HI.out; clear hb))
            try go_simp
            first
              | (refine hK _ _ ?_; clear hK K)
              | skip
            refine wpAny_ready (rs := [17, 21]) (by as_aux_lemma => kernel_rfl) (by simp) ?_
            refine AllReady.cons rfl (fun K hK => ?_) ?_
            · (go_simp; go_at_call 21; first
    | (have hh := HGI.out; clear hh; refine (HGo.out _ HGI.out).mono ?_; rintro e w18 ⟨rfl, hb⟩; have H19 : Hid (Below w14.heap.size w14 w18) := HGI.out.trans (hb.mono HGI.out.size); obtain ⟨g1, g2, g3, g4⟩ := HC14.out _ H19.out; clear hb)
    | (have hh := HG.out; clear hh; refine (HGo.out _ HI.out).mono ?_; rintro e w18 ⟨rfl, hb⟩; have H19 : Hid (Below w14.heap.size w14 w18) := HI.out.trans (hb.mono HI.out.size); obtain ⟨g1, g2, g3, g4⟩ := HC14.out _ H19.out; clear hb)
    | (refine (HGo.out _ HI.out).mono ?_; rintro e w17 ⟨rfl, hb⟩; have HO : Hid (Below w14.heap.size w14 w17) := HI.out.trans (hb.mono HI.out.size); obtain ⟨o1, o2, o3, o4⟩ := HC14.out _ HO.out; clear hb))
              try go_simp
              first
                | (refine hK _ _ ?_; clear hK K)
                | skip
              refine wpAny_ready (rs := [21]) (by as_aux_lemma => kernel_rfl) (by simp) ?_
              refine AllReady.cons rfl (fun K hK => ?_) ?_
              · go_simp
                try go_simp
                first
                  | (refine hK _ _ ?_; clear hK K)
                  | skip
                refine wpAny_ready (rs := [22]) (by as_aux_lemma => kernel_rfl) (by simp) ?_
                refine AllReady.cons rfl (fun K hK => ?_) ?_
                · (go_simp; go_at_call 22; first
    | (have hh := HO.out; clear hh; refine (HRg.out _ HO.out).mono ?_; rintro e w18 ⟨rfl, hb⟩; have H19 : Hid (Below w14.heap.size w14 w18) := HO.out.trans (hb.mono HO.out.size); obtain ⟨g1, g2, g3, g4⟩ := HC14.out _ H19.out; clear hb)
    | (have hh := HI.out; clear hh; refine (HRg.out _ HI.out).mono ?_; rintro e w17 ⟨rfl, hb⟩; have HGI : Hid (Below w14.heap.size w14 w17) := HI.out.trans (hb.mono HI.out.size); obtain ⟨r1, r2, r3, r4⟩ := HC14.out _ HGI.out; clear hb)
    | (refine (HRg.out _ H15.out).mono ?_; rintro e w16 ⟨rfl, hb⟩; have HG : Hid (Below w14.heap.size w14 w16) := H15.out.trans (hb.mono H15.out.size); obtain ⟨r1, r2, r3, r4⟩ := HC14.out _ HG.out; clear hb))
                  try go_simp
                  first
                    | (refine hK _ _ ?_; clear hK K)
                    | skip
                  refine wpAny_take (i := 23) (v := ?_) rfl (by as_aux_lemma => kernel_rfl) (by as_aux_lemma => kernel_rfl) (by as_aux_lemma => kernel_rfl) (fun _ _ _ h => h) (Or.inl ⟨by as_aux_lemma => kernel_rfl, ?_⟩) ?_
                  rotate_left
                  focus (intro w; go_simp; (try (with_reducible rfl)); done)
                  go_simp
                  refine wpAny_take (i := 24) (v := ?_) rfl (by as_aux_lemma => kernel_rfl) (by as_aux_lemma => kernel_rfl) (by as_aux_lemma => kernel_rfl) (fun _ _ _ h => h) (Or.inl ⟨by as_aux_lemma => kernel_rfl, ?_⟩) ?_
                  rotate_left
                  focus (intro w; go_simp; (try (with_reducible rfl)); done)
                  go_simp
                  refine wpAny_take (i := 25) (v := ?_) rfl (by as_aux_lemma => kernel_rfl) (by as_aux_lemma => kernel_rfl) (by as_aux_lemma => kernel_rfl) (fun _ _ _ h => h) (Or.inl ⟨by as_aux_lemma => kernel_rfl, ?_⟩) ?_
                  rotate_left
                  focus (intro w; go_simp; (try (with_reducible rfl)); done)
                  go_simp
                  refine wpAny_take (i := 26) (v := ?_) rfl (by as_aux_lemma => kernel_rfl) (by as_aux_lemma => kernel_rfl) (by as_aux_lemma => kernel_rfl) (fun _ _ _ h => h) (Or.inl ⟨by as_aux_lemma => kernel_rfl, ?_⟩) ?_
                  rotate_left
                  focus (intro w; go_simp; (try (with_reducible rfl)); done)
                  go_simp
                  refine wpAny_take (i := 27) (v := ?_) rfl (by as_aux_lemma => kernel_rfl) (by as_aux_lemma => kernel_rfl) (by as_aux_lemma => kernel_rfl) (fun _ _ _ h => h) (Or.inl ⟨by as_aux_lemma => kernel_rfl, ?_⟩) ?_
                  rotate_left
                  focus (intro w; go_simp; (try (with_reducible rfl)); done)
                  go_simp
                  refine wpAny_take (i := 28) (v := ?_) rfl (by as_aux_lemma => kernel_rfl) (by as_aux_lemma => kernel_rfl) (by as_aux_lemma => kernel_rfl) (fun _ _ _ h => h) (Or.inl ⟨by as_aux_lemma => kernel_rfl, ?_⟩) ?_
                  rotate_left
                  focus (intro w; go_simp; (try (with_reducible rfl)); done)
                  go_simp
                  refine wpAny_take (i := 29) (v := ?_) rfl (by as_aux_lemma => kernel_rfl) (by as_aux_lemma => kernel_rfl) (by as_aux_lemma => kernel_rfl) (fun _ _ _ h => h) (Or.inl ⟨by as_aux_lemma => kernel_rfl, ?_⟩) ?_
                  rotate_left
                  focus (intro w; go_simp; (try (with_reducible rfl)); done)
                  go_simp
                  refine wpAny_take (i := 31) (v := ?_) rfl (by as_aux_lemma => kernel_rfl) (by as_aux_lemma => kernel_rfl) (by as_aux_lemma => kernel_rfl) (fun _ _ _ h => h) (Or.inl ⟨by as_aux_lemma => kernel_rfl, ?_⟩) ?_
                  rotate_left
                  focus (intro w; go_simp; (try (with_reducible rfl)); done)
                  go_simp
                  refine wpAny_ready (rs := [30, 32]) (by as_aux_lemma => kernel_rfl) (by simp) ?_
                  refine AllReady.cons rfl (fun K hK => ?_) ?_
                  · go_simp
                    try go_simp
                    first
                      | (refine hK _ _ ?_; clear hK K)
                      | skip
                    refine wpAny_ready (rs := [32]) (by as_aux_lemma => kernel_rfl) (by simp) ?_
                    refine AllReady.cons rfl (fun K hK => ?_) ?_
                    · go_simp
                      try go_simp
                      first
                        | (refine hK _ _ ?_; clear hK K)
                        | skip
                      refine wpAny_take (i := 33) (v := ?_) rfl (by as_aux_lemma => kernel_rfl) (by as_aux_lemma => kernel_rfl) (by as_aux_lemma => kernel_rfl) (fun _ _ _ h => h) (Or.inl ⟨by as_aux_lemma => kernel_rfl, ?_⟩) ?_
                      rotate_left
                      focus (intro w; go_simp; (try (with_reducible rfl)); done)
                      go_simp
                      refine wpAny_take (i := 34) (v := ?_) rfl (by as_aux_lemma => kernel_rfl) (by as_aux_lemma => kernel_rfl) (by as_aux_lemma => kernel_rfl) (fun _ _ _ h => h) (Or.inl ⟨by as_aux_lemma => kernel_rfl, ?_⟩) ?_
                      rotate_left
                      focus (intro w; go_simp; (try (with_reducible rfl)); done)
                      go_simp
                      refine wpAny_take (i := 35) (v := ?_) rfl (by as_aux_lemma => kernel_rfl) (by as_aux_lemma => kernel_rfl) (by as_aux_lemma => kernel_rfl) (fun _ _ _ h => h) (Or.inl ⟨by as_aux_lemma => kernel_rfl, ?_⟩) ?_
                      rotate_left
                      focus (intro w; go_simp; (try (with_reducible rfl)); done)
                      go_simp
                      refine wpAny_take (i := 36) (v := ?_) rfl (by as_aux_lemma => kernel_rfl) (by as_aux_lemma => kernel_rfl) (by as_aux_lemma => kernel_rfl) (fun _ _ _ h => h) (Or.inl ⟨by as_aux_lemma => kernel_rfl, ?_⟩) ?_
                      rotate_left
                      focus (intro w; go_simp; (try (with_reducible rfl)); done)
                      go_simp
                      refine wpAny_take (i := 37) (v := ?_) rfl (by as_aux_lemma => kernel_rfl) (by as_aux_lemma => kernel_rfl) (by as_aux_lemma => kernel_rfl) (fun _ _ _ h => h) (Or.inl ⟨by as_aux_lemma => kernel_rfl, ?_⟩) ?_
                      rotate_left
                      focus (intro w; go_simp; (try (with_reducible rfl)); done)
                      go_simp
                      refine wpAny_take (i := 38) (v := ?_) rfl (by as_aux_lemma => kernel_rfl) (by as_aux_lemma => kernel_rfl) (by as_aux_lemma => kernel_rfl) (fun _ _ _ h => h) (Or.inl ⟨by as_aux_lemma => kernel_rfl, ?_⟩) ?_
                      rotate_left
                      focus (intro w; go_simp; (try (with_reducible rfl)); done)
                      go_simp
                      refine wpAny_take (i := 39) (v := ?_) rfl (by as_aux_lemma => kernel_rfl) (by as_aux_lemma => kernel_rfl) (by as_aux_lemma => kernel_rfl) (fun _ _ _ h => h) (Or.inl ⟨by as_aux_lemma => kernel_rfl, ?_⟩) ?_
                      rotate_left
                      focus (intro w; go_simp; (try (with_reducible rfl)); done)
                      go_simp
                      refine wpAny_ready (rs := [40]) (by as_aux_lemma => kernel_rfl) (by simp) ?_
                      refine AllReady.cons rfl (fun K hK => ?_) ?_
                      · go_simp
                        try go_simp
                        first
                          | (refine hK _ _ ?_; clear hK K)
                          | skip
                        refine wpAny_take (i := 41) (v := ?_) rfl (by as_aux_lemma => kernel_rfl) (by as_aux_lemma => kernel_rfl) (by as_aux_lemma => kernel_rfl) (fun _ _ _ h => h) (Or.inl ⟨by as_aux_lemma => kernel_rfl, ?_⟩) ?_
                        rotate_left
                        focus (intro w; go_simp; (try (with_reducible rfl)); done)
                        go_simp
                        refine wpAny_take (i := 42) (v := ?_) rfl (by as_aux_lemma => kernel_rfl) (by as_aux_lemma => kernel_rfl) (by as_aux_lemma => kernel_rfl) (fun _ _ _ h => h) (Or.inl ⟨by as_aux_lemma => kernel_rfl, ?_⟩) ?_
                        rotate_left
                        focus (intro w; go_simp; (try (with_reducible rfl)); done)
                        go_simp
                        refine wpAny_done (by as_aux_lemma => kernel_rfl) ?_ _
                        go_wp2
                        go_meet
                        case rel => exact ⟨by simp, H19.out⟩
                      exact AllReady.nil
                    exact AllReady.nil
                  refine AllReady.cons rfl (fun K hK => ?_) ?_
                  · go_simp
                    try go_simp
                    first
                      | (refine hK _ _ ?_; clear hK K)
                      | skip
                    refine wpAny_ready (rs := [30]) (by as_aux_lemma => kernel_rfl) (by simp) ?_
                    refine AllReady.cons rfl (fun K hK => ?_) ?_
                    · go_simp
                      try go_simp
                      first
                        | (refine hK _ _ ?_; clear hK K)
                        | skip
                      refine wpAny_take (i := 33) (v := ?_) rfl (by as_aux_lemma => kernel_rfl) (by as_aux_lemma => kernel_rfl) (by as_aux_lemma => kernel_rfl) (fun _ _ _ h => h) (Or.inl ⟨by as_aux_lemma => kernel_rfl, ?_⟩) ?_
                      rotate_left
                      focus (intro w; go_simp; (try (with_reducible rfl)); done)
                      go_simp
                      refine wpAny_take (i := 34) (v := ?_) rfl (by as_aux_lemma => kernel_rfl) (by as_aux_lemma => kernel_rfl) (by as_aux_lemma => kernel_rfl) (fun _ _ _ h => h) (Or.inl ⟨by as_aux_lemma => kernel_rfl, ?_⟩) ?_
                      rotate_left
                      focus (intro w; go_simp; (try (with_reducible rfl)); done)
                      go_simp
                      refine wpAny_take (i := 35) (v := ?_) rfl (by as_aux_lemma => kernel_rfl) (by as_aux_lemma => kernel_rfl) (by as_aux_lemma => kernel_rfl) (fun _ _ _ h => h) (Or.inl ⟨by as_aux_lemma => kernel_rfl, ?_⟩) ?_
                      rotate_left
                      focus (intro w; go_simp; (try (with_reducible rfl)); done)
                      go_simp
                      refine wpAny_take (i := 36) (v := ?_) rfl (by as_aux_lemma => kernel_rfl) (by as_aux_lemma => kernel_rfl) (by as_aux_lemma => kernel_rfl) (fun _ _ _ h => h) (Or.inl ⟨by as_aux_lemma => kernel_rfl, ?_⟩) ?_
                      rotate_left
                      focus (intro w; go_simp; (try (with_reducible rfl)); done)
                      go_simp
                      refine wpAny_take (i := 37) (v := ?_) rfl (by as_aux_lemma => kernel_rfl) (by as_aux_lemma => kernel_rfl) (by as_aux_lemma => kernel_rfl) (fun _ _ _ h => h) (Or.inl ⟨by as_aux_lemma => kernel_rfl, ?_⟩) ?_
                      rotate_left
                      focus (intro w; go_simp; (try (with_reducible rfl)); done)
                      go_simp
                      refine wpAny_take (i := 38) (v := ?_) rfl (by as_aux_lemma => kernel_rfl) (by as_aux_lemma => kernel_rfl) (by as_aux_lemma => kernel_rfl) (fun _ _ _ h => h) (Or.inl ⟨by as_aux_lemma => kernel_rfl, ?_⟩) ?_
                      rotate_left
                      focus (intro w; go_simp; (try (with_reducible rfl)); done)
                      go_simp
                      refine wpAny_take (i := 39) (v := ?_) rfl (by as_aux_lemma => kernel_rfl) (by as_aux_lemma => kernel_rfl) (by as_aux_lemma => kernel_rfl) (fun _ _ _ h => h) (Or.inl ⟨by as_aux_lemma => kernel_rfl, ?_⟩) ?_
                      rotate_left
                      focus (intro w; go_simp; (try (with_reducible rfl)); done)
                      go_simp
                      refine wpAny_ready (rs := [40]) (by as_aux_lemma => kernel_rfl) (by simp) ?_
                      refine AllReady.cons rfl (fun K hK => ?_) ?_
                      · go_simp
                        try go_simp
                        first
                          | (refine hK _ _ ?_; clear hK K)
                          | skip
                        refine wpAny_take (i := 41) (v := ?_) rfl (by as_aux_lemma => kernel_rfl) (by as_aux_lemma => kernel_rfl) (by as_aux_lemma => kernel_rfl) (fun _ _ _ h => h) (Or.inl ⟨by as_aux_lemma => kernel_rfl, ?_⟩) ?_
                        rotate_left
                        focus (intro w; go_simp; (try (with_reducible rfl)); done)
                        go_simp
                        refine wpAny_take (i := 42) (v := ?_) rfl (by as_aux_lemma => kernel_rfl) (by as_aux_lemma => kernel_rfl) (by as_aux_lemma => kernel_rfl) (fun _ _ _ h => h) (Or.inl ⟨by as_aux_lemma => kernel_rfl, ?_⟩) ?_
                        rotate_left
                        focus (intro w; go_simp; (try (with_reducible rfl)); done)
                        go_simp
                        refine wpAny_done (by as_aux_lemma => kernel_rfl) ?_ _
                        go_wp2
                        go_meet
                        case rel => exact ⟨by simp, H19.out⟩
                      exact AllReady.nil
                    exact AllReady.nil
                  exact AllReady.nil
                exact AllReady.nil
              exact AllReady.nil
            refine AllReady.cons rfl (fun K hK => ?_) ?_
            · go_simp
              try go_simp
              first
                | (refine hK _ _ ?_; clear hK K)
                | skip
              refine wpAny_ready (rs := [17]) (by as_aux_lemma => kernel_rfl) (by simp) ?_
              refine AllReady.cons rfl (fun K hK => ?_) ?_
              · (go_simp; go_at_call 21; first
    | (have hh := HGI.out; clear hh; refine (HGo.out _ HGI.out).mono ?_; rintro e w18 ⟨rfl, hb⟩; have H19 : Hid (Below w14.heap.size w14 w18) := HGI.out.trans (hb.mono HGI.out.size); obtain ⟨g1, g2, g3, g4⟩ := HC14.out _ H19.out; clear hb)
    | (have hh := HG.out; clear hh; refine (HGo.out _ HI.out).mono ?_; rintro e w18 ⟨rfl, hb⟩; have H19 : Hid (Below w14.heap.size w14 w18) := HI.out.trans (hb.mono HI.out.size); obtain ⟨g1, g2, g3, g4⟩ := HC14.out _ H19.out; clear hb)
    | (refine (HGo.out _ HI.out).mono ?_; rintro e w17 ⟨rfl, hb⟩; have HO : Hid (Below w14.heap.size w14 w17) := HI.out.trans (hb.mono HI.out.size); obtain ⟨o1, o2, o3, o4⟩ := HC14.out _ HO.out; clear hb))
                try go_simp
                first
                  | (refine hK _ _ ?_; clear hK K)
                  | skip
                refine wpAny_ready (rs := [22]) (by as_aux_lemma => kernel_rfl) (by simp) ?_
                refine AllReady.cons rfl (fun K hK => ?_) ?_
                · (go_simp; go_at_call 22; first
    | (have hh := HO.out; clear hh; refine (HRg.out _ HO.out).mono ?_; rintro e w18 ⟨rfl, hb⟩; have H19 : Hid (Below w14.heap.size w14 w18) := HO.out.trans (hb.mono HO.out.size); obtain ⟨g1, g2, g3, g4⟩ := HC14.out _ H19.out; clear hb)
    | (have hh := HI.out; clear hh; refine (HRg.out _ HI.out).mono ?_; rintro e w17 ⟨rfl, hb⟩; have HGI : Hid (Below w14.heap.size w14 w17) := HI.out.trans (hb.mono HI.out.size); obtain ⟨r1, r2, r3, r4⟩ := HC14.out _ HGI.out; clear hb)
    | (refine (HRg.out _ H15.out).mono ?_; rintro e w16 ⟨rfl, hb⟩; have HG : Hid (Below w14.heap.size w14 w16) := H15.out.trans (hb.mono H15.out.size); obtain ⟨r1, r2, r3, r4⟩ := HC14.out _ HG.out; clear hb))
                  try go_simp
                  first
                    | (refine hK _ _ ?_; clear hK K)
                    | skip
                  refine wpAny_take (i := 23) (v := ?_) rfl (by as_aux_lemma => kernel_rfl) (by as_aux_lemma => kernel_rfl) (by as_aux_lemma => kernel_rfl) (fun _ _ _ h => h) (Or.inl ⟨by as_aux_lemma => kernel_rfl, ?_⟩) ?_
                  rotate_left
                  focus (intro w; go_simp; (try (with_reducible rfl)); done)
                  go_simp
                  refine wpAny_take (i := 24) (v := ?_) rfl (by as_aux_lemma => kernel_rfl) (by as_aux_lemma => kernel_rfl) (by as_aux_lemma => kernel_rfl) (fun _ _ _ h => h) (Or.inl ⟨by as_aux_lemma => kernel_rfl, ?_⟩) ?_
                  rotate_left
                  focus (intro w; go_simp; (try (with_reducible rfl)); done)
                  go_simp
                  refine wpAny_take (i := 25) (v := ?_) rfl (by as_aux_lemma => kernel_rfl) (by as_aux_lemma => kernel_rfl) (by as_aux_lemma => kernel_rfl) (fun _ _ _ h => h) (Or.inl ⟨by as_aux_lemma => kernel_rfl, ?_⟩) ?_
                  rotate_left
                  focus (intro w; go_simp; (try (with_reducible rfl)); done)
                  go_simp
                  refine wpAny_take (i := 26) (v := ?_) rfl (by as_aux_lemma => kernel_rfl) (by as_aux_lemma => kernel_rfl) (by as_aux_lemma => kernel_rfl) (fun _ _ _ h => h) (Or.inl ⟨by as_aux_lemma => kernel_rfl, ?_⟩) ?_
                  rotate_left
                  focus (intro w; go_simp; (try (with_reducible rfl)); done)
                  go_simp
                  refine wpAny_take (i := 27) (v := ?_) rfl (by as_aux_lemma => kernel_rfl) (by as_aux_lemma => kernel_rfl) (by as_aux_lemma => kernel_rfl) (fun _ _ _ h => h) (Or.inl ⟨by as_aux_lemma => kernel_rfl, ?_⟩) ?_
                  rotate_left
                  focus (intro w; go_simp; (try (with_reducible rfl)); done)
                  go_simp
                  refine wpAny_take (i := 28) (v := ?_) rfl (by as_aux_lemma => kernel_rfl) (by as_aux_lemma => kernel_rfl) (by as_aux_lemma => kernel_rfl) (fun _ _ _ h => h) (Or.inl ⟨by as_aux_lemma => kernel_rfl, ?_⟩) ?_
                  rotate_left
                  focus (intro w; go_simp; (try (with_reducible rfl)); done)
                  go_simp
                  refine wpAny_take (i := 29) (v := ?_) rfl (by as_aux_lemma => kernel_rfl) (by as_aux_lemma => kernel_rfl) (by as_aux_lemma => kernel_rfl) (fun _ _ _ h => h) (Or.inl ⟨by as_aux_lemma => kernel_rfl, ?_⟩) ?_
                  rotate_left
                  focus (intro w; go_simp; (try (with_reducible rfl)); done)
                  go_simp
                  refine wpAny_take (i := 31) (v := ?_) rfl (by as_aux_lemma => kernel_rfl) (by as_aux_lemma => kernel_rfl) (by as_aux_lemma => kernel_rfl) (fun _ _ _ h => h) (Or.inl ⟨by as_aux_lemma => kernel_rfl, ?_⟩) ?_
                  rotate_left
                  focus (intro w; go_simp; (try (with_reducible rfl)); done)
                  go_simp
                  refine wpAny_ready (rs := [30, 32]) (by as_aux_lemma => kernel_rfl) (by simp) ?_
                  refine AllReady.cons rfl (fun K hK => ?_) ?_
                  · go_simp
                    try go_simp
                    first
                      | (refine hK _ _ ?_; clear hK K)
                      | skip
                    refine wpAny_ready (rs := [32]) (by as_aux_lemma => kernel_rfl) (by simp) ?_
                    refine AllReady.cons rfl (fun K hK => ?_) ?_
                    · go_simp
                      try go_simp
                      first
                        | (refine hK _ _ ?_; clear hK K)
                        | skip
                      refine wpAny_take (i := 33) (v := ?_) rfl (by as_aux_lemma => kernel_rfl) (by as_aux_lemma => kernel_rfl) (by as_aux_lemma => kernel_rfl) (fun _ _ _ h => h) (Or.inl ⟨by as_aux_lemma => kernel_rfl, ?_⟩) ?_
                      rotate_left
                      focus (intro w; go_simp; (try (with_reducible rfl)); done)
                      go_simp
                      refine wpAny_take (i := 34) (v := ?_) rfl (by as_aux_lemma => kernel_rfl) (by as_aux_lemma => kernel_rfl) (by as_aux_lemma => kernel_rfl) (fun _ _ _ h => h) (Or.inl ⟨by as_aux_lemma => kernel_rfl, ?_⟩) ?_
                      rotate_left
                      focus (intro w; go_simp; (try (with_reducible rfl)); done)
                      go_simp
                      refine wpAny_take (i := 35) (v := ?_) rfl (by as_aux_lemma => kernel_rfl) (by as_aux_lemma => kernel_rfl) (by as_aux_lemma => kernel_rfl) (fun _ _ _ h => h) (Or.inl ⟨by as_aux_lemma => kernel_rfl, ?_⟩) ?_
                      rotate_left
                      focus (intro w; go_simp; (try (with_reducible rfl)); done)
                      go_simp
                      refine wpAny_take (i := 36) (v := ?_) rfl (by as_aux_lemma => kernel_rfl) (by as_aux_lemma => kernel_rfl) (by as_aux_lemma => kernel_rfl) (fun _ _ _ h => h) (Or.inl ⟨by as_aux_lemma => kernel_rfl, ?_⟩) ?_
                      rotate_left
                      focus (intro w; go_simp; (try (with_reducible rfl)); done)
                      go_simp
                      refine wpAny_take (i := 37) (v := ?_) rfl (by as_aux_lemma => kernel_rfl) (by as_aux_lemma => kernel_rfl) (by as_aux_lemma => kernel_rfl) (fun _ _ _ h => h) (Or.inl ⟨by as_aux_lemma => kernel_rfl, ?_⟩) ?_
                      rotate_left
                      focus (intro w; go_simp; (try (with_reducible rfl)); done)
                      go_simp
                      refine wpAny_take (i := 38) (v := ?_) rfl (by as_aux_lemma => kernel_rfl) (by as_aux_lemma => kernel_rfl) (by as_aux_lemma => kernel_rfl) (fun _ _ _ h => h) (Or.inl ⟨by as_aux_lemma => kernel_rfl, ?_⟩) ?_
                      rotate_left
                      focus (intro w; go_simp; (try (with_reducible rfl)); done)
                      go_simp
                      refine wpAny_take (i := 39) (v := ?_) rfl (by as_aux_lemma => kernel_rfl) (by as_aux_lemma => kernel_rfl) (by as_aux_lemma => kernel_rfl) (fun _ _ _ h => h) (Or.inl ⟨by as_aux_lemma => kernel_rfl, ?_⟩) ?_
                      rotate_left
                      focus (intro w; go_simp; (try (with_reducible rfl)); done)
                      go_simp
                      refine wpAny_ready (rs := [40]) (by as_aux_lemma => kernel_rfl) (by simp) ?_
                      refine AllReady.cons rfl (fun K hK => ?_) ?_
                      · go_simp
                        try go_simp
                        first
                          | (refine hK _ _ ?_; clear hK K)
                          | skip
                        refine wpAny_take (i := 41) (v := ?_) rfl (by as_aux_lemma => kernel_rfl) (by as_aux_lemma => kernel_rfl) (by as_aux_lemma => kernel_rfl) (fun _ _ _ h => h) (Or.inl ⟨by as_aux_lemma => kernel_rfl, ?_⟩) ?_
                        rotate_left
                        focus (intro w; go_simp; (try (with_reducible rfl)); done)
                        go_simp
                        refine wpAny_take (i := 42) (v := ?_) rfl (by as_aux_lemma => kernel_rfl) (by as_aux_lemma => kernel_rfl) (by as_aux_lemma => kernel_rfl) (fun _ _ _ h => h) (Or.inl ⟨by as_aux_lemma => kernel_rfl, ?_⟩) ?_
                        rotate_left
                        focus (intro w; go_simp; (try (with_reducible rfl)); done)
                        go_simp
                        refine wpAny_done (by as_aux_lemma => kernel_rfl) ?_ _
                        go_wp2
                        go_meet
                        case rel => exact ⟨by simp, H19.out⟩
                      exact AllReady.nil
                    exact AllReady.nil
                  refine AllReady.cons rfl (fun K hK => ?_) ?_
                  · go_simp
                    try go_simp
                    first
                      | (refine hK _ _ ?_; clear hK K)
                      | skip
                    refine wpAny_ready (rs := [30]) (by as_aux_lemma => kernel_rfl) (by simp) ?_
                    refine AllReady.cons rfl (fun K hK => ?_) ?_
                    · go_simp
                      try go_simp
                      first
                        | (refine hK _ _ ?_; clear hK K)
                        | skip
                      refine wpAny_take (i := 33) (v := ?_) rfl (by as_aux_lemma => kernel_rfl) (by as_aux_lemma => kernel_rfl) (by as_aux_lemma => kernel_rfl) (fun _ _ _ h => h) (Or.inl ⟨by as_aux_lemma => kernel_rfl, ?_⟩) ?_
                      rotate_left
                      focus (intro w; go_simp; (try (with_reducible rfl)); done)
                      go_simp
                      refine wpAny_take (i := 34) (v := ?_) rfl (by as_aux_lemma => kernel_rfl) (by as_aux_lemma => kernel_rfl) (by as_aux_lemma => kernel_rfl) (fun _ _ _ h => h) (Or.inl ⟨by as_aux_lemma => kernel_rfl, ?_⟩) ?_
                      rotate_left
                      focus (intro w; go_simp; (try (with_reducible rfl)); done)
                      go_simp
                      refine wpAny_take (i := 35) (v := ?_) rfl (by as_aux_lemma => kernel_rfl) (by as_aux_lemma => kernel_rfl) (by as_aux_lemma => kernel_rfl) (fun _ _ _ h => h) (Or.inl ⟨by as_aux_lemma => kernel_rfl, ?_⟩) ?_
                      rotate_left
                      focus (intro w; go_simp; (try (with_reducible rfl)); done)
                      go_simp
                      refine wpAny_take (i := 36) (v := ?_) rfl (by as_aux_lemma => kernel_rfl) (by as_aux_lemma => kernel_rfl) (by as_aux_lemma => kernel_rfl) (fun _ _ _ h => h) (Or.inl ⟨by as_aux_lemma => kernel_rfl, ?_⟩) ?_
                      rotate_left
                      focus (intro w; go_simp; (try (with_reducible rfl)); done)
                      go_simp
                      refine wpAny_take (i := 37) (v := ?_) rfl (by as_aux_lemma => kernel_rfl) (by as_aux_lemma => kernel_rfl) (by as_aux_lemma => kernel_rfl) (fun _ _ _ h => h) (Or.inl ⟨by as_aux_lemma => kernel_rfl, ?_⟩) ?_
                      rotate_left
                      focus (intro w; go_simp; (try (with_reducible rfl)); done)
                      go_simp
                      refine wpAny_take (i := 38) (v := ?_) rfl (by as_aux_lemma => kernel_rfl) (by as_aux_lemma => kernel_rfl) (by as_aux_lemma => kernel_rfl) (fun _ _ _ h => h) (Or.inl ⟨by as_aux_lemma => kernel_rfl, ?_⟩) ?_
                      rotate_left
                      focus (intro w; go_simp; (try (with_reducible rfl)); done)
                      go_simp
                      refine wpAny_take (i := 39) (v := ?_) rfl (by as_aux_lemma => kernel_rfl) (by as_aux_lemma => kernel_rfl) (by as_aux_lemma => kernel_rfl) (fun _ _ _ h => h) (Or.inl ⟨by as_aux_lemma => kernel_rfl, ?_⟩) ?_
                      rotate_left
                      focus (intro w; go_simp; (try (with_reducible rfl)); done)
                      go_simp
                      refine wpAny_ready (rs := [40]) (by as_aux_lemma => kernel_rfl) (by simp) ?_
                      refine AllReady.cons rfl (fun K hK => ?_) ?_
                      · go_simp
                        try go_simp
                        first
                          | (refine hK _ _ ?_; clear hK K)
                          | skip
                        refine wpAny_take (i := 41) (v := ?_) rfl (by as_aux_lemma => kernel_rfl) (by as_aux_lemma => kernel_rfl) (by as_aux_lemma => kernel_rfl) (fun _ _ _ h => h) (Or.inl ⟨by as_aux_lemma => kernel_rfl, ?_⟩) ?_
                        rotate_left
                        focus (intro w; go_simp; (try (with_reducible rfl)); done)
                        go_simp
                        refine wpAny_take (i := 42) (v := ?_) rfl (by as_aux_lemma => kernel_rfl) (by as_aux_lemma => kernel_rfl) (by as_aux_lemma => kernel_rfl) (fun _ _ _ h => h) (Or.inl ⟨by as_aux_lemma => kernel_rfl, ?_⟩) ?_
                        rotate_left
                        focus (intro w; go_simp; (try (with_reducible rfl)); done)
                        go_simp
                        refine wpAny_done (by as_aux_lemma => kernel_rfl) ?_ _
                        go_wp2
                        go_meet
                        case rel => exact ⟨by simp, H19.out⟩
                      exact AllReady.nil
                    exact AllReady.nil
                  exact AllReady.nil
                exact AllReady.nil
              exact AllReady.nil
            exact AllReady.nil
          refine AllReady.cons rfl (fun K hK => ?_) ?_
          · go_simp
            try go_simp
            first
              | (refine hK _ _ ?_; clear hK K)
              | skip
            refine wpAny_ready (rs := [16]) (by as_aux_lemma => kernel_rfl) (by simp) ?_
            refine AllReady.cons rfl (fun K hK => ?_) ?_
            · (go_simp; go_at_call 16; first
    | (have hh := HG.out; clear hh; refine (HIq.out _ HG.out).mono ?_; rintro e w16 ⟨rfl, hb⟩; have HI : Hid (Below w14.heap.size w14 w16) := HG.out.trans (hb.mono HG.out.size); obtain ⟨i1, i2, i3, i4⟩ := HC14.out _ HI.out; clear hb)
    | (refine (HIq.out _ H15.out).mono ?_; rintro e w16 ⟨rfl, hb⟩; have HI : Hid (Below w14.heap.size w14 w16) := H15.out.trans (hb.mono H15.out.size); obtain ⟨i1, i2, i3, i4⟩ := HC14.out _ HI.out; clear hb))
              try go_simp
              first
                | (refine hK _ _ ?_; clear hK K)
                | skip
              refine wpAny_ready (rs := [17]) (by as_aux_lemma => kernel_rfl) (by simp) ?_
              refine AllReady.cons rfl (fun K hK => ?_) ?_
              · (go_simp; go_at_call 21; first
    | (have hh := HGI.out; clear hh; refine (HGo.out _ HGI.out).mono ?_; rintro e w18 ⟨rfl, hb⟩; have H19 : Hid (Below w14.heap.size w14 w18) := HGI.out.trans (hb.mono HGI.out.size); obtain ⟨g1, g2, g3, g4⟩ := HC14.out _ H19.out; clear hb)
    | (have hh := HG.out; clear hh; refine (HGo.out _ HI.out).mono ?_; rintro e w18 ⟨rfl, hb⟩; have H19 : Hid (Below w14.heap.size w14 w18) := HI.out.trans (hb.mono HI.out.size); obtain ⟨g1, g2, g3, g4⟩ := HC14.out _ H19.out; clear hb)
    | (refine (HGo.out _ HI.out).mono ?_; rintro e w17 ⟨rfl, hb⟩; have HO : Hid (Below w14.heap.size w14 w17) := HI.out.trans (hb.mono HI.out.size); obtain ⟨o1, o2, o3, o4⟩ := HC14.out _ HO.out; clear hb))
                try go_simp
                first
                  | (refine hK _ _ ?_; clear hK K)
                  | skip
                refine wpAny_ready (rs := [22]) (by as_aux_lemma => kernel_rfl) (by simp) ?_
                refine AllReady.cons rfl (fun K hK => ?_) ?_
                · (go_simp; go_at_call 22; first
    | (have hh := HO.out; clear hh; refine (HRg.out _ HO.out).mono ?_; rintro e w18 ⟨rfl, hb⟩; have H19 : Hid (Below w14.heap.size w14 w18) := HO.out.trans (hb.mono HO.out.size); obtain ⟨g1, g2, g3, g4⟩ := HC14.out _ H19.out; clear hb)
    | (have hh := HI.out; clear hh; refine (HRg.out _ HI.out).mono ?_; rintro e w17 ⟨rfl, hb⟩; have HGI : Hid (Below w14.heap.size w14 w17) := HI.out.trans (hb.mono HI.out.size); obtain ⟨r1, r2, r3, r4⟩ := HC14.out _ HGI.out; clear hb)
    | (refine (HRg.out _ H15.out).mono ?_; rintro e w16 ⟨rfl, hb⟩; have HG : Hid (Below w14.heap.size w14 w16) := H15.out.trans (hb.mono H15.out.size); obtain ⟨r1, r2, r3, r4⟩ := HC14.out _ HG.out; clear hb))
                  try go_simp
                  first
                    | (refine hK _ _ ?_; clear hK K)
                    | skip
                  refine wpAny_take (i := 23) (v := ?_) rfl (by as_aux_lemma => kernel_rfl) (by as_aux_lemma => kernel_rfl) (by as_aux_lemma => kernel_rfl) (fun _ _ _ h => h) (Or.inl ⟨by as_aux_lemma => kernel_rfl, ?_⟩) ?_
                  rotate_left
                  focus (intro w; go_simp; (try (with_reducible rfl)); done)
                  go_simp
                  refine wpAny_take (i := 24) (v := ?_) rfl (by as_aux_lemma => kernel_rfl) (by as_aux_lemma => kernel_rfl) (by as_aux_lemma => kernel_rfl) (fun _ _ _ h => h) (Or.inl ⟨by as_aux_lemma => kernel_rfl, ?_⟩) ?_
                  rotate_left
                  focus (intro w; go_simp; (try (with_reducible rfl)); done)
                  go_simp
                  refine wpAny_take (i := 25) (v := ?_) rfl (by as_aux_lemma => kernel_rfl) (by as_aux_lemma => kernel_rfl) (by as_aux_lemma => kernel_rfl) (fun _ _ _ h => h) (Or.inl ⟨by as_aux_lemma => kernel_rfl, ?_⟩) ?_
                  rotate_left
                  focus (intro w; go_simp; (try (with_reducible rfl)); done)
                  go_simp
                  refine wpAny_take (i := 26) (v := ?_) rfl (by as_aux_lemma => kernel_rfl) (by as_aux_lemma => kernel_rfl) (by as_aux_lemma => kernel_rfl) (fun _ _ _ h => h) (Or.inl ⟨by as_aux_lemma => kernel_rfl, ?_⟩) ?_
                  rotate_left
                  focus (intro w; go_simp; (try (with_reducible rfl)); done)
                  go_simp
                  refine wpAny_take (i := 27) (v := ?_) rfl (by as_aux_lemma => kernel_rfl) (by as_aux_lemma => kernel_rfl) (by as_aux_lemma => kernel_rfl) (fun _ _ _ h => h) (Or.inl ⟨by as_aux_lemma => kernel_rfl, ?_⟩) ?_
                  rotate_left
                  focus (intro w; go_simp; (try (with_reducible rfl)); done)
                  go_simp
                  refine wpAny_take (i := 28) (v := ?_) rfl (by as_aux_lemma => kernel_rfl) (by as_aux_lemma => kernel_rfl) (by as_aux_lemma => kernel_rfl) (fun _ _ _ h => h) (Or.inl ⟨by as_aux_lemma => kernel_rfl, ?_⟩) ?_
                  rotate_left
                  focus (intro w; go_simp; (try (with_reducible rfl)); done)
                  go_simp
                  refine wpAny_take (i := 29) (v := ?_) rfl (by as_aux_lemma => kernel_rfl) (by as_aux_lemma => kernel_rfl) (by as_aux_lemma => kernel_rfl) (fun _ _ _ h => h) (Or.inl ⟨by as_aux_lemma => kernel_rfl, ?_⟩) ?_
                  rotate_left
                  focus (intro w; go_simp; (try (with_reducible rfl)); done)
                  go_simp
                  refine wpAny_take (i := 31) (v := ?_) rfl (by as_aux_lemma => kernel_rfl) (by as_aux_lemma => kernel_rfl) (by as_aux_lemma => kernel_rfl) (fun _ _ _ h => h) (Or.inl ⟨by as_aux_lemma => kernel_rfl, ?_⟩) ?_
                  rotate_left
                  focus (intro w; go_simp; (try (with_reducible rfl)); done)
                  go_simp
                  refine wpAny_ready (rs := [30, 32]) (by as_aux_lemma => kernel_rfl) (by simp) ?_
                  refine AllReady.cons rfl (fun K hK => ?_) ?_
                  · go_simp
                    try go_simp
                    first
                      | (refine hK _ _ ?_; clear hK K)
                      | skip
                    refine wpAny_ready (rs := [32]) (by as_aux_lemma => kernel_rfl) (by simp) ?_
                    refine AllReady.cons rfl (fun K hK => ?_) ?_
                    · go_simp
                      try go_simp
                      first
                        | (refine hK _ _ ?_; clear hK K)
                        | skip
                      refine wpAny_take (i := 33) (v := ?_) rfl (by as_aux_lemma => kernel_rfl) (by as_aux_lemma => kernel_rfl) (by as_aux_lemma => kernel_rfl) (fun _ _ _ h => h) (Or.inl ⟨by as_aux_lemma => kernel_rfl, ?_⟩) ?_
                      rotate_left
                      focus (intro w; go_simp; (try (with_reducible rfl)); done)
                      go_simp
                      refine wpAny_take (i := 34) (v := ?_) rfl (by as_aux_lemma => kernel_rfl) (by as_aux_lemma => kernel_rfl) (by as_aux_lemma => kernel_rfl) (fun _ _ _ h => h) (Or.inl ⟨by as_aux_lemma => kernel_rfl, ?_⟩) ?_
                      rotate_left
                      focus (intro w; go_simp; (try (with_reducible rfl)); done)
                      go_simp
                      refine wpAny_take (i := 35) (v := ?_) rfl (by as_aux_lemma => kernel_rfl) (by as_aux_lemma => kernel_rfl) (by as_aux_lemma => kernel_rfl) (fun _ _ _ h => h) (Or.inl ⟨by as_aux_lemma => kernel_rfl, ?_⟩) ?_
                      rotate_left
                      focus (intro w; go_simp; (try (with_reducible rfl)); done)
                      go_simp
                      refine wpAny_take (i := 36) (v := ?_) rfl (by as_aux_lemma => kernel_rfl) (by as_aux_lemma => kernel_rfl) (by as_aux_lemma => kernel_rfl) (fun _ _ _ h => h) (Or.inl ⟨by as_aux_lemma => kernel_rfl, ?_⟩) ?_
                      rotate_left
                      focus (intro w; go_simp; (try (with_reducible rfl)); done)
                      go_simp
                      refine wpAny_take (i := 37) (v := ?_) rfl (by as_aux_lemma => kernel_rfl) (by as_aux_lemma => kernel_rfl) (by as_aux_lemma => kernel_rfl) (fun _ _ _ h => h) (Or.inl ⟨by as_aux_lemma => kernel_rfl, ?_⟩) ?_
                      rotate_left
                      focus (intro w; go_simp; (try (with_reducible rfl)); done)
                      go_simp
                      refine wpAny_take (i := 38) (v := ?_) rfl (by as_aux_lemma => kernel_rfl) (by as_aux_lemma => kernel_rfl) (by as_aux_lemma => kernel_rfl) (fun _ _ _ h => h) (Or.inl ⟨by as_aux_lemma => kernel_rfl, ?_⟩) ?_
                      rotate_left
                      focus (intro w; go_simp; (try (with_reducible rfl)); done)
                      go_simp
                      refine wpAny_take (i := 39) (v := ?_) rfl (by as_aux_lemma => kernel_rfl) (by as_aux_lemma => kernel_rfl) (by as_aux_lemma => kernel_rfl) (fun _ _ _ h => h) (Or.inl ⟨by as_aux_lemma => kernel_rfl, ?_⟩) ?_
                      rotate_left
                      focus (intro w; go_simp; (try (with_reducible rfl)); done)
                      go_simp
                      refine wpAny_ready (rs := [40]) (by as_aux_lemma => kernel_rfl) (by simp) ?_
                      refine AllReady.cons rfl (fun K hK => ?_) ?_
                      · go_simp
                        try go_simp
                        first
                          | (refine hK _ _ ?_; clear hK K)
                          | skip
                        refine wpAny_take (i := 41) (v := ?_) rfl (by as_aux_lemma => kernel_rfl) (by as_aux_lemma => kernel_rfl) (by as_aux_lemma => kernel_rfl) (fun _ _ _ h => h) (Or.inl ⟨by as_aux_lemma => kernel_rfl, ?_⟩) ?_
                        rotate_left
                        focus (intro w; go_simp; (try (with_reducible rfl)); done)
                        go_simp
                        refine wpAny_take (i := 42) (v := ?_) rfl (by as_aux_lemma => kernel_rfl) (by as_aux_lemma => kernel_rfl) (by as_aux_lemma => kernel_rfl) (fun _ _ _ h => h) (Or.inl ⟨by as_aux_lemma => kernel_rfl, ?_⟩) ?_
                        rotate_left
                        focus (intro w; go_simp; (try (with_reducible rfl)); done)
                        go_simp
                        refine wpAny_done (by as_aux_lemma => kernel_rfl) ?_ _
                        go_wp2
                        go_meet
                        case rel => exact ⟨by simp, H19.out⟩
                      exact AllReady.nil
                    exact AllReady.nil
                  refine AllReady.cons rfl (fun K hK => ?_) ?_
                  · go_simp
                    try go_simp
                    first
                      | (refine hK _ _ ?_; clear hK K)
                      | skip
                    refine wpAny_ready (rs := [30]) (by as_aux_lemma => kernel_rfl) (by simp) ?_
                    refine AllReady.cons rfl (fun K hK => ?_) ?_
                    · go_simp
                      try go_simp
                      first
                        | (refine hK _ _ ?_; clear hK K)
                        | skip
                      refine wpAny_take (i := 33) (v := ?_) rfl (by as_aux_lemma => kernel_rfl) (by as_aux_lemma => kernel_rfl) (by as_aux_lemma => kernel_rfl) (fun _ _ _ h => h) (Or.inl ⟨by as_aux_lemma => kernel_rfl, ?_⟩) ?_
                      rotate_left
                      focus (intro w; go_simp; (try (with_reducible rfl)); done)
                      go_simp
                      refine wpAny_take (i := 34) (v := ?_) rfl (by as_aux_lemma => kernel_rfl) (by as_aux_lemma => kernel_rfl) (by as_aux_lemma => kernel_rfl) (fun _ _ _ h => h) (Or.inl ⟨by as_aux_lemma => kernel_rfl, ?_⟩) ?_
                      rotate_left
                      focus (intro w; go_simp; (try (with_reducible rfl)); done)
                      go_simp
                      refine wpAny_take (i := 35) (v := ?_) rfl (by as_aux_lemma => kernel_rfl) (by as_aux_lemma => kernel_rfl) (by as_aux_lemma => kernel_rfl) (fun _ _ _ h => h) (Or.inl ⟨by as_aux_lemma => kernel_rfl, ?_⟩) ?_
                      rotate_left
                      focus (intro w; go_simp; (try (with_reducible rfl)); done)
                      go_simp
                      refine wpAny_take (i := 36) (v := ?_) rfl (by as_aux_lemma => kernel_rfl) (by as_aux_lemma => kernel_rfl) (by as_aux_lemma => kernel_rfl) (fun _ _ _ h => h) (Or.inl ⟨by as_aux_lemma => kernel_rfl, ?_⟩) ?_
                      rotate_left
                      focus (intro w; go_simp; (try (with_reducible rfl)); done)
                      go_simp
                      refine wpAny_take (i := 37) (v := ?_) rfl (by as_aux_lemma => kernel_rfl) (by as_aux_lemma => kernel_rfl) (by as_aux_lemma => kernel_rfl) (fun _ _ _ h => h) (Or.inl ⟨by as_aux_lemma => kernel_rfl, ?_⟩) ?_
                      rotate_left
                      focus (intro w; go_simp; (try (with_reducible rfl)); done)
                      go_simp
                      refine wpAny_take (i := 38) (v := ?_) rfl (by as_aux_lemma => kernel_rfl) (by as_aux_lemma => kernel_rfl) (by as_aux_lemma => kernel_rfl) (fun _ _ _ h => h) (Or.inl ⟨by as_aux_lemma => kernel_rfl, ?_⟩) ?_
                      rotate_left
                      focus (intro w; go_simp; (try (with_reducible rfl)); done)
                      go_simp
                      refine wpAny_take (i := 39) (v := ?_) rfl (by as_aux_lemma => kernel_rfl) (by as_aux_lemma => kernel_rfl) (by as_aux_lemma => kernel_rfl) (fun _ _ _ h => h) (Or.inl ⟨by as_aux_lemma => kernel_rfl, ?_⟩) ?_
                      rotate_left
                      focus (intro w; go_simp; (try (with_reducible rfl)); done)
                      go_simp
                      refine wpAny_ready (rs := [40]) (by as_aux_lemma => kernel_rfl) (by simp) ?_
                      refine AllReady.cons rfl (fun K hK => ?_) ?_
                      · go_simp
                        try go_simp
                        first
                          | (refine hK _ _ ?_; clear hK K)
                          | skip
                        refine wpAny_take (i := 41) (v := ?_) rfl (by as_aux_lemma => kernel_rfl) (by as_aux_lemma => kernel_rfl) (by as_aux_lemma => kernel_rfl) (fun _ _ _ h => h) (Or.inl ⟨by as_aux_lemma => kernel_rfl, ?_⟩) ?_
                        rotate_left
                        focus (intro w; go_simp; (try (with_reducible rfl)); done)
                        go_simp
                        refine wpAny_take (i := 42) (v := ?_) rfl (by as_aux_lemma => kernel_rfl) (by as_aux_lemma => kernel_rfl) (by as_aux_lemma => kernel_rfl) (fun _ _ _ h => h) (Or.inl ⟨by as_aux_lemma => kernel_rfl, ?_⟩) ?_
                        rotate_left
                        focus (intro w; go_simp; (try (with_reducible rfl)); done)
                        go_simp
                        refine wpAny_done (by as_aux_lemma => kernel_rfl) ?_ _
                        go_wp2
                        go_meet
                        case rel => exact ⟨by simp, H19.out⟩
                      exact AllReady.nil
                    exact AllReady.nil
                  exact AllReady.nil
                exact AllReady.nil
              exact AllReady.nil
            exact AllReady.nil
          exact AllReady.nil
        exact AllReady.nil
      case rest =>
      obtain ⟨rfl, hb⟩ := hcut
      have H19 : Hid (Below wL.heap.size wL _) := (HCb.out _ (HW14.out _ hb)).2.2
      clear hb
      go_wp2
      go_round
      case rel => exact ⟨k + 1, by omega, by go_num, H19.out⟩
      case measure => simp [intOf]; omega
    · have h2 : k = 2 := by omega
      subst h2
      obtain ⟨x1, x2, x3, x4⟩ := HEx.out _ HR.out
      have HF : Hid (ExAt wr B p ds dn gD cD sF vs fs gm gI cI sn ns ha wa hn hc wn wc5 ∧ Below w0.heap.size w0 wr) := ⟨x1, x2⟩
      clear x1 x2
      go_wp2_with (go_at_call 18; refine (kept_any B _ p da dc ds dn gD cD sF vs fs gm HF.out.1.room HL.out.2.1 (HD.out _ (HW.out _ HF.out.2)) hd4 HL.out.2.2.2.2.1).mono ?_; rintro e w20 ⟨rfl, hb⟩; have H20 : Hid (Below w0.heap.size w0 w20) := HF.out.2.trans (hb.mono HF.out.2.size); clear hb)
      go_ret
      exact ⟨rfl, HW.out _ H20.out⟩
end Go.Proofs.YtpheajiepnjhdaaDoor
