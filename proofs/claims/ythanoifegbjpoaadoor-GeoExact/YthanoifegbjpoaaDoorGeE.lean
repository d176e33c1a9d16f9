import Derived.Test.YthanoifegbjpoaaDoorGeT
namespace Go.Proofs.YthanoifegbjpoaaDoor
open Go.RowKit Rec

/-- what lies while GeoExact asks: the numbers handed in, and the two answers of Of -/
structure GeAt (w wr : World) (gA gB : Nat) (t0 t1 : Int) (cs : Array Value) : Prop where
  bel : Below w.heap.size w wr
  box : wr.heap[w.heap.size]? = some (.cells #[.int .i64 t0, .int .i64 t1] 33 (0, 0))
  ga : wr.heap[gA]? = some (.cells cs 24 (0, 0))
  gb : wr.heap[gB]? = some (.cells cs 24 (0, 0))
theorem GeAt.on {w wr wq : World} {gA gB : Nat} {t0 t1 : Int} {cs : Array Value} (h : GeAt w wr gA gB t0 t1 cs) (hb : Below wr.heap.size wr wq) : GeAt w wq gA gB t0 t1 cs :=
  ⟨h.bel.trans (hb.mono h.bel.size), keepL hb h.box, keepL hb h.ga, keepL hb h.gb⟩
/-- the two rows that are read -/
def TwoAt (wr : World) (gR : Nat) : Prop := ∀ i : Nat, i < 2 → ∃ ax nx cx lx, wr.cell? ⟨gR, i, none⟩ = some (.slice ax nx cx) ∧ Bytes wr ax lx ∧ lx.length = nx ∧ nx ≤ cx ∧ (ax = Option.none → cx = 0) ∧ nx ≤ 140737488351232
theorem TwoAt.on {wr wq : World} {gR : Nat} (h : TwoAt wr gR) (hb : Below wr.heap.size wr wq) : TwoAt wq gR := fun i hi => by
  obtain ⟨ax, nx, cx, lx, h1, h2, h3⟩ := h i hi
  exact ⟨ax, nx, cx, lx, (below_fr hb (fun _ => False)).cell h1 (fun e => e), h2.on hb, h3⟩
theorem idx20 (w : World) (t0 t1 : Int) : (Instr.index 33 (.agg #[.int .i64 t0, .int .i64 t1]) (.int .i64 0)).run Tryd.prog w = .ok (.int .i64 t0) w := by kernel_rfl
theorem idx21 (w : World) (t0 t1 : Int) : (Instr.index 33 (.agg #[.int .i64 t0, .int .i64 t1]) (.int .i64 1)).run Tryd.prog w = .ok (.int .i64 t1) w := by kernel_rfl
theorem bytes_nil (w : World) : Bytes w none [] := ⟨by simp, fun i => by simp [nth], .inl rfl⟩
theorem bitA_is (n i : Int) : ∃ x y e : Int, bitA n i = #[.int .i64 x, .int .i64 y, .int .i64 e] := by
  by_cases h : 0 ≤ i ∧ i < n
  · exact ⟨_, _, _, bitA_in h⟩
  · exact ⟨_, _, _, bitA_out h⟩
theorem recA_is (n i : Int) : ∃ x y e : Int, recA n i = #[.int .i64 x, .int .i64 y, .int .i64 e] := by
  by_cases h : 1 ≤ i ∧ i < gC n
  · exact ⟨_, _, _, recA_in h⟩
  · exact ⟨_, _, _, recA_out h⟩
set_option maxRecDepth 100000 in
set_option maxHeartbeats 8000000 in
theorem exact_ok (w : World) (n t0 t1 : Int) (a : Option Addr) (k c : Nat) (l : List Int) (hB : Bytes w a l) (hn : l.length = k) (hz : a = none → c = 0) (hk : k ≤ 140737488351232) (hkc : k ≤ c) (hT : TabAt w) (hL : isLen n = true) (ht0 : -9223372036854775808 ≤ t0 ∧ t0 ≤ 9223372036854775807) (ht1 : -9223372036854775808 ≤ t1 ∧ t1 ≤ 9223372036854775807) :
    Calls Tryd.prog 7 #[.int .i64 n, .slice a k c, .agg #[.int .i64 t0, .int .i64 t1]] w fun e w' => e = .returned (.bool true) ∧ Below w.heap.size w w' := by
  have HT : Hid (TabAt w) := hT
  have HL : Hid (isLen n = true) := hL
  have HB : Hid (Bytes w a l ∧ l.length = k ∧ (a = none → c = 0)) := ⟨hB, hn, hz⟩
  clear hT hL hB hn hz
  have HBx : Hid (Below w.heap.size w (w.alloc (.cells #[.int .i64 t0, .int .i64 t1] 33))) := (Below.refl _ _).alloc (Nat.le_refl _) _
  have HRx : Hid ((w.alloc (.cells #[.int .i64 t0, .int .i64 t1] 33)).heap[w.heap.size]? = some (.cells #[.int .i64 t0, .int .i64 t1] 33 (0, 0))) := heap_alloc_new _ _
  go_enter Tryd.func7, Tryd.ntmps7
  go_upto_region 1 with fail
  generalize w.alloc (.cells #[.int .i64 t0, .int .i64 t1] 33) = wa at *
  go_upto_region 7 with (first
    | (go_at_call 8; refine (known7 _ (HT.out.on HBx.out)).mono ?_; rintro e w1 ⟨rfl, hb⟩; have HB1 : Hid (Below w.heap.size w w1) := HBx.out.trans (hb.mono HBx.out.size); have HR1 : Hid (w1.heap[w.heap.size]? = some (.cells #[.int .i64 t0, .int .i64 t1] 33 (0, 0))) := keepL hb HRx.out; clear hb HBx HRx)
    | (go_at_call 9; refine (gof_ok _ n HL.out).mono ?_; rintro e w2 ⟨rfl, hb⟩; rw [show geoV n = .agg #[.int .i64 n, .int .i64 98, .int .i64 (gI n), .int .i64 (gD n), .int .i64 (gC n)] from rfl]; have HB2 : Hid (Below w.heap.size w (w2.alloc (.cells #[.int .i64 n, .int .i64 98, .int .i64 (gI n), .int .i64 (gD n), .int .i64 (gC n)] 24))) := (HB1.out.trans (hb.mono HB1.out.size)).alloc (Nat.le_trans HB1.out.size hb.size) _; have HR2 : Hid ((w2.alloc (.cells #[.int .i64 n, .int .i64 98, .int .i64 (gI n), .int .i64 (gD n), .int .i64 (gC n)] 24)).heap[w.heap.size]? = some (.cells #[.int .i64 t0, .int .i64 t1] 33 (0, 0))) := keepL ((Below.refl _ _).alloc (Nat.le_refl _) _) (keepL hb HR1.out); have HA2 : Hid ((w2.alloc (.cells #[.int .i64 n, .int .i64 98, .int .i64 (gI n), .int .i64 (gD n), .int .i64 (gC n)] 24)).heap[w2.heap.size]? = some (.cells #[.int .i64 n, .int .i64 98, .int .i64 (gI n), .int .i64 (gD n), .int .i64 (gC n)] 24)) := heap_alloc_new _ _; clear hb HB1 HR1)
    | (go_at_call 15; refine (rof_ok _ n HL.out).mono ?_; rintro e w3 ⟨rfl, hb⟩; rw [show geoV n = .agg #[.int .i64 n, .int .i64 98, .int .i64 (gI n), .int .i64 (gD n), .int .i64 (gC n)] from rfl]; have HE3 : Hid (GeAt w (w3.alloc (.cells #[.int .i64 n, .int .i64 98, .int .i64 (gI n), .int .i64 (gD n), .int .i64 (gC n)] 24)) w2.heap.size w3.heap.size t0 t1 #[.int .i64 n, .int .i64 98, .int .i64 (gI n), .int .i64 (gD n), .int .i64 (gC n)]) := ⟨(HB2.out.trans (hb.mono HB2.out.size)).alloc (Nat.le_trans HB2.out.size hb.size) _, keepL ((Below.refl _ _).alloc (Nat.le_refl _) _) (keepL hb HR2.out), keepL ((Below.refl _ _).alloc (Nat.le_refl _) _) (keepL hb HA2.out), heap_alloc_new _ _⟩; clear hb HB2 HR2 HA2)
    | (go_at_call 10; refine (gsuper_ok _ n HL.out (HT.out.on HE3.out.bel)).mono ?_; rintro e w4 ⟨g1, rfl, hg, ho, hb⟩; have HE4 : Hid (GeAt w w4 w2.heap.size w3.heap.size t0 t1 #[.int .i64 n, .int .i64 98, .int .i64 (gI n), .int .i64 (gD n), .int .i64 (gC n)]) := HE3.out.on hb; have HO4 : Hid (OwnB w4 g1 512 (sup n)) := ho; clear hb ho hg HE3)
    | (go_at_call 16; refine (rsuper_ok _ n HL.out).mono ?_; rintro e w5 ⟨g2, cap2, rfl, hg, ho, hb⟩; have hE := HE4.out.on hb; generalize w2.heap.size = gA at *; generalize w3.heap.size = gB at *; have CA0 : w5.cell? ⟨gA, 0, none⟩ = some (.int .i64 n) := cell_of_row _ _ _ _ _ _ hE.ga; have CB0 : w5.cell? ⟨gB, 0, none⟩ = some (.int .i64 n) := cell_of_row _ _ _ _ _ _ hE.gb; have CA1 : w5.cell? ⟨gA, 1, none⟩ = some (.int .i64 98) := cell_of_row _ _ _ _ _ _ hE.ga; have CB1 : w5.cell? ⟨gB, 1, none⟩ = some (.int .i64 98) := cell_of_row _ _ _ _ _ _ hE.gb; have CA2 : w5.cell? ⟨gA, 2, none⟩ = some (.int .i64 (gI n)) := cell_of_row _ _ _ _ _ _ hE.ga; have CB2 : w5.cell? ⟨gB, 2, none⟩ = some (.int .i64 (gI n)) := cell_of_row _ _ _ _ _ _ hE.gb; have CA3 : w5.cell? ⟨gA, 3, none⟩ = some (.int .i64 (gD n)) := cell_of_row _ _ _ _ _ _ hE.ga; have CB3 : w5.cell? ⟨gB, 3, none⟩ = some (.int .i64 (gD n)) := cell_of_row _ _ _ _ _ _ hE.gb; have CA4 : w5.cell? ⟨gA, 4, none⟩ = some (.int .i64 (gC n)) := cell_of_row _ _ _ _ _ _ hE.ga; have CB4 : w5.cell? ⟨gB, 4, none⟩ = some (.int .i64 (gC n)) := cell_of_row _ _ _ _ _ _ hE.gb; have HE5 : Hid (GeAt w w5 gA gB t0 t1 #[.int .i64 n, .int .i64 98, .int .i64 (gI n), .int .i64 (gD n), .int .i64 (gC n)]) := hE; have S1 := str_opt (c := 512) (HO4.out.on hb).bytes (sup_len n); have S2 := str_opt (c := cap2) ho.bytes (sup_len n); generalize strOfNums (sup n) = s at *; have HX1 : Hid (Bytes w5 (some ⟨g2, 0, none⟩) (sup n) ∧ (sup n).length = 512 ∧ 512 ≤ cap2) := ⟨ho.bytes, sup_len n, by have := ho.room; rw [sup_len] at this; exact this⟩; clear hb ho hg HE4 HO4 hE))
  go_upto_region 10 with fail
  have hal : Below w5.heap.size w5 (w5.alloc (.cells #[.slice a k c, .slice (some ⟨g2, 0, none⟩) 512 cap2] 28)) := (Below.refl _ _).alloc (Nat.le_refl _) _
  have HW : Hid (TwoAt (w5.alloc (.cells #[.slice a k c, .slice (some ⟨g2, 0, none⟩) 512 cap2] 28)) w5.heap.size) := fun i hi => by
    have hc := fun j => cell_of_row (w5.alloc (.cells #[.slice a k c, .slice (some ⟨g2, 0, none⟩) 512 cap2] 28)) w5.heap.size j _ _ _ (heap_alloc_new _ _)
    obtain rfl | rfl : i = 0 ∨ i = 1 := by omega
    · exact ⟨_, _, _, l, hc 0, (HB.out.1.on HE5.out.bel).on hal, HB.out.2.1, hkc, HB.out.2.2, hk⟩
    · exact ⟨_, _, _, sup n, hc 1, HX1.out.1.on hal, HX1.out.2.1, HX1.out.2.2, (fun e => by cases e), by omega⟩
  have HE6 : Hid (GeAt w (w5.alloc (.cells #[.slice a k c, .slice (some ⟨g2, 0, none⟩) 512 cap2] 28)) gA gB t0 t1 #[.int .i64 n, .int .i64 98, .int .i64 (gI n), .int .i64 (gD n), .int .i64 (gC n)]) := HE5.out.on hal
  generalize w5.alloc (.cells #[.slice a k c, .slice (some ⟨g2, 0, none⟩) 512 cap2] 28) = w6 at *
  generalize w5.heap.size = gR at *
  clear CA0 CB0 CA1 CB1 CA2 CB2 CA3 CB3 CA4 CB4 S1 HE5 hal HB S2 HX1
  go_wp2_with fail
  go_loopw [76] (fun i wr => ∃ j : Nat, j ≤ 2 ∧ i = .int .i64 j ∧ GeAt w wr gA gB t0 t1 #[.int .i64 n, .int .i64 98, .int .i64 (gI n), .int .i64 (gD n), .int .i64 (gC n)] ∧ TwoAt wr gR) (fun i _ => (2 - intOf i).toNat)
  case atStart => exact ⟨0, by omega, rfl, HE6.out, HW.out⟩
  case round =>
    clear HE6 HW
    obtain ⟨j, hj, rfl, hE, hW⟩ := hrel
    have HE : Hid (GeAt w wr gA gB t0 t1 #[.int .i64 n, .int .i64 98, .int .i64 (gI n), .int .i64 (gD n), .int .i64 (gC n)]) := hE
    have HW : Hid (TwoAt wr gR) := hW
    by_cases hlt : j < 2
    · obtain ⟨ax, nx, cx, lx, hc1, hx1, hx2, hx3, hx4, hx5⟩ := hW j hlt
      have HX : Hid (Bytes wr ax lx ∧ lx.length = nx ∧ (ax = Option.none → cx = 0)) := ⟨hx1, hx2, hx4⟩
      have hlj : (j : Int) < 2 := by omega
      clear hE hW hx1 hx2 hx4
      have K0 : Hid (0 = 0) := rfl
      go_upto_region 15 with (first
        | (at_builtin; have hh := K0.out; clear hh K0; have HA := (Below.refl wr.heap.size wr).alloc (Nat.le_refl _) (.cells #[] 5); refine wp_app rfl (.tmp 80) (.tmp 81) rfl wr.heap.size wr.heap.size 0 0 [] lx rfl rfl (own_empty (heap_alloc_new _ _)) (Nat.le_refl _) HA.size ax nx cx rfl HX.out.2.1 (HX.out.1.on HA) HX.out.2.2 (by omega) ?_; intro g7 c7 w7 hg ho hgr; have hb4 := HA.grown hgr HA.size (by intro k hk; cases hk; exact Nat.le_refl _); have HC7 : Hid (wr.heap.size ≤ g7 ∧ OwnB w7 g7 c7 lx) := ⟨hg, ho⟩; have HB7 : Hid (Below wr.heap.size wr w7) := hb4; clear hg ho hgr hb4 HA; rw [Nat.zero_add]; have K1 : Hid (0 = 0) := rfl)
        | (at_builtin; have hh := K1.out; clear hh K1; have HA := (Below.refl w7.heap.size w7).alloc (Nat.le_refl _) (.cells #[.int .u8 71] 5); have HOb : OwnB (w7.alloc (.cells #[.int .u8 71] 5)) w7.heap.size 1 [71] := bytes7 w7 [71] (by simp) (wf_one 71 (by omega)); refine wp_app rfl (.tmp 82) (.tmp 83) rfl wr.heap.size g7 nx c7 lx [71] HX.out.2.1 rfl (HC7.out.2.on HA) HC7.out.1 (Nat.le_trans HB7.out.size HA.size) (some ⟨w7.heap.size, 0, none⟩) 1 1 rfl rfl HOb.bytes (fun h => by cases h) (by omega) ?_; intro g8 c8 w8 hg ho hgr; have HB8 : Hid (Below wr.heap.size wr w8) := (HB7.out.trans (HA.mono HB7.out.size)).grown hgr (Nat.le_trans HB7.out.size HA.size) (by intro k hk; cases hk; exact HC7.out.1); have hr8 := ho.room; rw [List.length_append, HX.out.2.1] at hr8; have hr8' : nx + 1 ≤ c8 := hr8; have hr8i : (nx : Int) ≤ (c8 : Int) := (by omega); have HC8 : Hid (OwnB w8 g8 c8 (lx ++ [71])) := ho; clear hg ho hgr HA HOb hr8; have K2 : Hid (0 = 0) := rfl)
        | (go_at_call 12; have hh := K2.out; clear hh K2; refine (gread_any _ _ nx c8 lx HX.out.2.1 (by have z := HC8.out.bytes.take nx; rw [← HX.out.2.1, List.take_left] at z; exact z) (by omega) (HT.out.on (HE.out.on HB8.out).bel)).mono ?_; rintro e w9 ⟨rfl, hb⟩; have HB9 : Hid (Below wr.heap.size wr w9) := HB8.out.trans (hb.mono HB8.out.size); have HC9 : Hid (OwnB w9 g8 c8 (lx ++ [71])) := HC8.out.on hb; clear hb; have K3 : Hid (0 = 0) := rfl)
        | (go_at_call 17; have hh := K3.out; clear hh K3; refine (rread_any _ ax nx cx lx HX.out.2.1 (HX.out.1.on HB9.out) hx3).mono ?_; rintro e w10 ⟨rfl, hb⟩; have HB10 : Hid (Below wr.heap.size wr w10) := HB9.out.trans (hb.mono HB9.out.size); have HC10 : Hid (OwnB w10 g8 c8 (lx ++ [71])) := HC9.out.on hb; clear hb))
      have hcell : w10.cell? ⟨g8, nx, none⟩ = some (.int .u8 71) := by
        have z := HC10.out.cell nx (by rw [List.length_append, HX.out.2.1]; simp)
        rw [show nth (lx ++ [71]) nx = 71 by rw [nth_app, if_neg (by rw [HX.out.2.1]; omega), HX.out.2.1, Nat.sub_self]; rfl] at z
        exact z
      have hcvA : ∀ q, (convert 28 9 (.slice (some ⟨g8, 0, none⟩) nx c8)).run Tryd.prog (w10.drewN q) = .ok (.string (strOfNums lx)) (w10.drewN q) := fun q => str_opt (by have z := (HC10.out.on (drew7 w10 q)).bytes.take nx; rw [← HX.out.2.1, List.take_left] at z; exact z) HX.out.2.1
      have hcvB : ∀ q, (convert 28 9 (.slice ax nx cx)).run Tryd.prog (w10.drewN q) = .ok (.string (strOfNums lx)) (w10.drewN q) := fun q => str_opt (HX.out.1.on (HB10.out.trans ((drew7 w10 q).mono HB10.out.size))) HX.out.2.1
      have HN : Hid (∀ q, GeAt w (w10.drewN q) gA gB t0 t1 #[.int .i64 n, .int .i64 98, .int .i64 (gI n), .int .i64 (gD n), .int .i64 (gC n)] ∧ TwoAt (w10.drewN q) gR) := fun q => ⟨HE.out.on (HB10.out.trans ((drew7 w10 q).mono HB10.out.size)), HW.out.on (HB10.out.trans ((drew7 w10 q).mono HB10.out.size))⟩
      clear HC7 HC8 HC9 HC10 HB7 HB8 HB9 HX HE HW hc1
      generalize rdV lx = rv
      generalize rdE lx = re
      generalize strOfNums lx = sx at *
      have hn1 : (nx : Int) < (nx : Int) + 1 := by omega
      go_quiet (fail)
      go_wp2
      exact ⟨⟨j + 1, by omega, by go_num, (HN.out _).1, (HN.out _).2⟩, by simp [intOf]; omega⟩
    · have hj2 : j = 2 := by omega
      subst hj2
      clear hW HW
      have B0 : wr.cell? ⟨w.heap.size, 0, none⟩ = some (.int .i64 t0) := cell_of_row _ _ _ _ _ _ hE.box
      have B1 : wr.cell? ⟨w.heap.size, 1, none⟩ = some (.int .i64 t1) := cell_of_row _ _ _ _ _ _ hE.box
      clear hE
      go_wp2_with (go_at_call 11; refine (num7_any _ _).mono ?_; rintro e w' ⟨rfl, rfl⟩)
      go_loopw [129] (fun i wq => ∃ j : Nat, j ≤ 2 ∧ i = .int .i64 j ∧ GeAt w wq gA gB t0 t1 #[.int .i64 n, .int .i64 98, .int .i64 (gI n), .int .i64 (gD n), .int .i64 (gC n)]) (fun i _ => (2 - intOf i).toNat)
      case atStart => exact ⟨0, by omega, rfl, HE.out⟩
      case round =>
        clear HE B0 B1
        rename World => wq
        obtain ⟨i, hi, rfl, hE⟩ := hrel
        have HE : Hid (GeAt w wq gA gB t0 t1 #[.int .i64 n, .int .i64 98, .int .i64 (gI n), .int .i64 (gD n), .int .i64 (gC n)]) := hE
        by_cases hlt : i < 2
        · have CA0 : wq.cell? ⟨gA, 0, none⟩ = some (.int .i64 n) := cell_of_row _ _ _ _ _ _ hE.ga; have CB0 : wq.cell? ⟨gB, 0, none⟩ = some (.int .i64 n) := cell_of_row _ _ _ _ _ _ hE.gb; have CA1 : wq.cell? ⟨gA, 1, none⟩ = some (.int .i64 98) := cell_of_row _ _ _ _ _ _ hE.ga; have CB1 : wq.cell? ⟨gB, 1, none⟩ = some (.int .i64 98) := cell_of_row _ _ _ _ _ _ hE.gb; have CA2 : wq.cell? ⟨gA, 2, none⟩ = some (.int .i64 (gI n)) := cell_of_row _ _ _ _ _ _ hE.ga; have CB2 : wq.cell? ⟨gB, 2, none⟩ = some (.int .i64 (gI n)) := cell_of_row _ _ _ _ _ _ hE.gb; have CA3 : wq.cell? ⟨gA, 3, none⟩ = some (.int .i64 (gD n)) := cell_of_row _ _ _ _ _ _ hE.ga; have CB3 : wq.cell? ⟨gB, 3, none⟩ = some (.int .i64 (gD n)) := cell_of_row _ _ _ _ _ _ hE.gb; have CA4 : wq.cell? ⟨gA, 4, none⟩ = some (.int .i64 (gC n)) := cell_of_row _ _ _ _ _ _ hE.ga; have CB4 : wq.cell? ⟨gB, 4, none⟩ = some (.int .i64 (gC n)) := cell_of_row _ _ _ _ _ _ hE.gb; clear hE
          rcases (show i = 0 ∨ i = 1 by omega) with rfl | rfl
          all_goals have K0 : Hid (0 = 0) := rfl
          case' inl => obtain ⟨b1, b2, b3, hbit⟩ := bitA_is n t0
          case' inl => obtain ⟨r1, r2, r3, hrec⟩ := recA_is n t0
          case' inl => have HW1 : Hid (∀ wx, Calls Tryd.prog 13 #[geoV n, .int .i64 t0] wx fun e w' => e = .returned (.tuple #[.int .i64 b1, .int .i64 b2, .int .i64 b3]) ∧ Below wx.heap.size wx w') := fun wx => hbit ▸ gbit_any wx n t0 HL.out ht0
          case' inl => have HW2 : Hid (∀ wx, Calls Tryd.prog 18 #[geoV n, .int .i64 t0] wx fun e w' => e = .returned (.tuple #[.int .i64 b1, .int .i64 b2, .int .i64 b3]) ∧ Below wx.heap.size wx w') := fun wx => hbit ▸ rbit_any wx n t0 HL.out ht0
          case' inl => have HW3 : Hid (∀ wx, Calls Tryd.prog 14 #[geoV n, .int .i64 t0] wx fun e w' => e = .returned (.tuple #[.int .i64 r1, .int .i64 r2, .int .i64 r3]) ∧ Below wx.heap.size wx w') := fun wx => hrec ▸ grec_any wx n t0 HL.out ht0
          case' inl => have HW4 : Hid (∀ wx, Calls Tryd.prog 19 #[geoV n, .int .i64 t0] wx fun e w' => e = .returned (.tuple #[.int .i64 r1, .int .i64 r2, .int .i64 r3]) ∧ Below wx.heap.size wx w') := fun wx => hrec ▸ rrec_any wx n t0 HL.out ht0
          case' inr => obtain ⟨b1, b2, b3, hbit⟩ := bitA_is n t1
          case' inr => obtain ⟨r1, r2, r3, hrec⟩ := recA_is n t1
          case' inr => have HW1 : Hid (∀ wx, Calls Tryd.prog 13 #[geoV n, .int .i64 t1] wx fun e w' => e = .returned (.tuple #[.int .i64 b1, .int .i64 b2, .int .i64 b3]) ∧ Below wx.heap.size wx w') := fun wx => hbit ▸ gbit_any wx n t1 HL.out ht1
          case' inr => have HW2 : Hid (∀ wx, Calls Tryd.prog 18 #[geoV n, .int .i64 t1] wx fun e w' => e = .returned (.tuple #[.int .i64 b1, .int .i64 b2, .int .i64 b3]) ∧ Below wx.heap.size wx w') := fun wx => hbit ▸ rbit_any wx n t1 HL.out ht1
          case' inr => have HW3 : Hid (∀ wx, Calls Tryd.prog 14 #[geoV n, .int .i64 t1] wx fun e w' => e = .returned (.tuple #[.int .i64 r1, .int .i64 r2, .int .i64 r3]) ∧ Below wx.heap.size wx w') := fun wx => hrec ▸ grec_any wx n t1 HL.out ht1
          case' inr => have HW4 : Hid (∀ wx, Calls Tryd.prog 19 #[geoV n, .int .i64 t1] wx fun e w' => e = .returned (.tuple #[.int .i64 r1, .int .i64 r2, .int .i64 r3]) ∧ Below wx.heap.size wx w') := fun wx => hrec ▸ rrec_any wx n t1 HL.out ht1
          all_goals
            clear hbit hrec
            have ix0 := fun wx : World => idx20 wx t0 t1
            have ix1 := fun wx : World => idx21 wx t0 t1
            go_wp2_with (first
              | (go_at_call 13; refine (HW1.out _).mono ?_; rintro e w1 ⟨rfl, hb⟩; clear CA0 CB0 CA1 CB1 CA2 CB2 CA3 CB3 CA4 CB4; have hE1 := HE.out.on hb; have CA0 : w1.cell? ⟨gA, 0, none⟩ = some (.int .i64 n) := cell_of_row _ _ _ _ _ _ hE1.ga; have CB0 : w1.cell? ⟨gB, 0, none⟩ = some (.int .i64 n) := cell_of_row _ _ _ _ _ _ hE1.gb; have CA1 : w1.cell? ⟨gA, 1, none⟩ = some (.int .i64 98) := cell_of_row _ _ _ _ _ _ hE1.ga; have CB1 : w1.cell? ⟨gB, 1, none⟩ = some (.int .i64 98) := cell_of_row _ _ _ _ _ _ hE1.gb; have CA2 : w1.cell? ⟨gA, 2, none⟩ = some (.int .i64 (gI n)) := cell_of_row _ _ _ _ _ _ hE1.ga; have CB2 : w1.cell? ⟨gB, 2, none⟩ = some (.int .i64 (gI n)) := cell_of_row _ _ _ _ _ _ hE1.gb; have CA3 : w1.cell? ⟨gA, 3, none⟩ = some (.int .i64 (gD n)) := cell_of_row _ _ _ _ _ _ hE1.ga; have CB3 : w1.cell? ⟨gB, 3, none⟩ = some (.int .i64 (gD n)) := cell_of_row _ _ _ _ _ _ hE1.gb; have CA4 : w1.cell? ⟨gA, 4, none⟩ = some (.int .i64 (gC n)) := cell_of_row _ _ _ _ _ _ hE1.ga; have CB4 : w1.cell? ⟨gB, 4, none⟩ = some (.int .i64 (gC n)) := cell_of_row _ _ _ _ _ _ hE1.gb; have HE1 : Hid (GeAt w w1 gA gB t0 t1 #[.int .i64 n, .int .i64 98, .int .i64 (gI n), .int .i64 (gD n), .int .i64 (gC n)]) := hE1; clear hb hE1)
              | (go_at_call 18; refine (HW2.out _).mono ?_; rintro e w2 ⟨rfl, hb⟩; clear CA0 CB0 CA1 CB1 CA2 CB2 CA3 CB3 CA4 CB4; have hE2 := HE1.out.on hb; have CA0 : w2.cell? ⟨gA, 0, none⟩ = some (.int .i64 n) := cell_of_row _ _ _ _ _ _ hE2.ga; have CB0 : w2.cell? ⟨gB, 0, none⟩ = some (.int .i64 n) := cell_of_row _ _ _ _ _ _ hE2.gb; have CA1 : w2.cell? ⟨gA, 1, none⟩ = some (.int .i64 98) := cell_of_row _ _ _ _ _ _ hE2.ga; have CB1 : w2.cell? ⟨gB, 1, none⟩ = some (.int .i64 98) := cell_of_row _ _ _ _ _ _ hE2.gb; have CA2 : w2.cell? ⟨gA, 2, none⟩ = some (.int .i64 (gI n)) := cell_of_row _ _ _ _ _ _ hE2.ga; have CB2 : w2.cell? ⟨gB, 2, none⟩ = some (.int .i64 (gI n)) := cell_of_row _ _ _ _ _ _ hE2.gb; have CA3 : w2.cell? ⟨gA, 3, none⟩ = some (.int .i64 (gD n)) := cell_of_row _ _ _ _ _ _ hE2.ga; have CB3 : w2.cell? ⟨gB, 3, none⟩ = some (.int .i64 (gD n)) := cell_of_row _ _ _ _ _ _ hE2.gb; have CA4 : w2.cell? ⟨gA, 4, none⟩ = some (.int .i64 (gC n)) := cell_of_row _ _ _ _ _ _ hE2.ga; have CB4 : w2.cell? ⟨gB, 4, none⟩ = some (.int .i64 (gC n)) := cell_of_row _ _ _ _ _ _ hE2.gb; have HE2 : Hid (GeAt w w2 gA gB t0 t1 #[.int .i64 n, .int .i64 98, .int .i64 (gI n), .int .i64 (gD n), .int .i64 (gC n)]) := hE2; clear hb hE2)
              | (go_at_call 14; refine (HW3.out _).mono ?_; rintro e w3 ⟨rfl, hb⟩; clear CA0 CB0 CA1 CB1 CA2 CB2 CA3 CB3 CA4 CB4; have hE3 := HE2.out.on hb; have CA0 : w3.cell? ⟨gA, 0, none⟩ = some (.int .i64 n) := cell_of_row _ _ _ _ _ _ hE3.ga; have CB0 : w3.cell? ⟨gB, 0, none⟩ = some (.int .i64 n) := cell_of_row _ _ _ _ _ _ hE3.gb; have CA1 : w3.cell? ⟨gA, 1, none⟩ = some (.int .i64 98) := cell_of_row _ _ _ _ _ _ hE3.ga; have CB1 : w3.cell? ⟨gB, 1, none⟩ = some (.int .i64 98) := cell_of_row _ _ _ _ _ _ hE3.gb; have CA2 : w3.cell? ⟨gA, 2, none⟩ = some (.int .i64 (gI n)) := cell_of_row _ _ _ _ _ _ hE3.ga; have CB2 : w3.cell? ⟨gB, 2, none⟩ = some (.int .i64 (gI n)) := cell_of_row _ _ _ _ _ _ hE3.gb; have CA3 : w3.cell? ⟨gA, 3, none⟩ = some (.int .i64 (gD n)) := cell_of_row _ _ _ _ _ _ hE3.ga; have CB3 : w3.cell? ⟨gB, 3, none⟩ = some (.int .i64 (gD n)) := cell_of_row _ _ _ _ _ _ hE3.gb; have CA4 : w3.cell? ⟨gA, 4, none⟩ = some (.int .i64 (gC n)) := cell_of_row _ _ _ _ _ _ hE3.ga; have CB4 : w3.cell? ⟨gB, 4, none⟩ = some (.int .i64 (gC n)) := cell_of_row _ _ _ _ _ _ hE3.gb; have HE3 : Hid (GeAt w w3 gA gB t0 t1 #[.int .i64 n, .int .i64 98, .int .i64 (gI n), .int .i64 (gD n), .int .i64 (gC n)]) := hE3; clear hb hE3)
              | (go_at_call 19; refine (HW4.out _).mono ?_; rintro e w4 ⟨rfl, hb⟩; clear CA0 CB0 CA1 CB1 CA2 CB2 CA3 CB3 CA4 CB4; have hE4 := HE3.out.on hb; have CA0 : w4.cell? ⟨gA, 0, none⟩ = some (.int .i64 n) := cell_of_row _ _ _ _ _ _ hE4.ga; have CB0 : w4.cell? ⟨gB, 0, none⟩ = some (.int .i64 n) := cell_of_row _ _ _ _ _ _ hE4.gb; have CA1 : w4.cell? ⟨gA, 1, none⟩ = some (.int .i64 98) := cell_of_row _ _ _ _ _ _ hE4.ga; have CB1 : w4.cell? ⟨gB, 1, none⟩ = some (.int .i64 98) := cell_of_row _ _ _ _ _ _ hE4.gb; have CA2 : w4.cell? ⟨gA, 2, none⟩ = some (.int .i64 (gI n)) := cell_of_row _ _ _ _ _ _ hE4.ga; have CB2 : w4.cell? ⟨gB, 2, none⟩ = some (.int .i64 (gI n)) := cell_of_row _ _ _ _ _ _ hE4.gb; have CA3 : w4.cell? ⟨gA, 3, none⟩ = some (.int .i64 (gD n)) := cell_of_row _ _ _ _ _ _ hE4.ga; have CB3 : w4.cell? ⟨gB, 3, none⟩ = some (.int .i64 (gD n)) := cell_of_row _ _ _ _ _ _ hE4.gb; have CA4 : w4.cell? ⟨gA, 4, none⟩ = some (.int .i64 (gC n)) := cell_of_row _ _ _ _ _ _ hE4.ga; have CB4 : w4.cell? ⟨gB, 4, none⟩ = some (.int .i64 (gC n)) := cell_of_row _ _ _ _ _ _ hE4.gb; have HE4 : Hid (GeAt w w4 gA gB t0 t1 #[.int .i64 n, .int .i64 98, .int .i64 (gI n), .int .i64 (gD n), .int .i64 (gC n)]) := hE4; clear hb hE4))
            first
              | exact ⟨⟨1, by omega, by go_num, HE4.out⟩, by simp [intOf]⟩
              | exact ⟨⟨2, by omega, by go_num, HE4.out⟩, by simp [intOf]⟩
        · have hi2 : i = 2 := by omega
          subst hi2
          clear hE
          go_wp2
          go_ret
          exact ⟨rfl, HE.out.bel⟩
set_option maxRecDepth 100000 in
set_option maxHeartbeats 8000000 in
theorem exact_no (w : World) (n t0 t1 : Int) (a : Option Addr) (k c : Nat) (l : List Int) (hB : Bytes w a l) (hn : l.length = k) (hz : a = none → c = 0) (hk : k ≤ 140737488351232) (hkc : k ≤ c) (hT : TabAt w) (hL : isLen n = false) (_ht0 : -9223372036854775808 ≤ t0 ∧ t0 ≤ 9223372036854775807) (_ht1 : -9223372036854775808 ≤ t1 ∧ t1 ≤ 9223372036854775807) :
    Calls Tryd.prog 7 #[.int .i64 n, .slice a k c, .agg #[.int .i64 t0, .int .i64 t1]] w fun e w' => e = .returned (.bool true) ∧ Below w.heap.size w w' := by
  have HT : Hid (TabAt w) := hT
  have HL : Hid (isLen n = false) := hL
  have HB : Hid (Bytes w a l ∧ l.length = k ∧ (a = none → c = 0)) := ⟨hB, hn, hz⟩
  clear hT hL hB hn hz
  have HBx : Hid (Below w.heap.size w (w.alloc (.cells #[.int .i64 t0, .int .i64 t1] 33))) := (Below.refl _ _).alloc (Nat.le_refl _) _
  have HRx : Hid ((w.alloc (.cells #[.int .i64 t0, .int .i64 t1] 33)).heap[w.heap.size]? = some (.cells #[.int .i64 t0, .int .i64 t1] 33 (0, 0))) := heap_alloc_new _ _
  go_enter Tryd.func7, Tryd.ntmps7
  go_upto_region 1 with fail
  generalize w.alloc (.cells #[.int .i64 t0, .int .i64 t1] 33) = wa at *
  go_upto_region 7 with (first
    | (go_at_call 8; refine (known7 _ (HT.out.on HBx.out)).mono ?_; rintro e w1 ⟨rfl, hb⟩; have HB1 : Hid (Below w.heap.size w w1) := HBx.out.trans (hb.mono HBx.out.size); have HR1 : Hid (w1.heap[w.heap.size]? = some (.cells #[.int .i64 t0, .int .i64 t1] 33 (0, 0))) := keepL hb HRx.out; clear hb HBx HRx)
    | (go_at_call 9; refine (gof_no _ n HL.out).mono ?_; rintro e w2 ⟨rfl, hb⟩; rw [show geo0 = .agg #[.int .i64 0, .int .i64 0, .int .i64 0, .int .i64 0, .int .i64 0] from rfl]; have HB2 : Hid (Below w.heap.size w (w2.alloc (.cells #[.int .i64 0, .int .i64 0, .int .i64 0, .int .i64 0, .int .i64 0] 24))) := (HB1.out.trans (hb.mono HB1.out.size)).alloc (Nat.le_trans HB1.out.size hb.size) _; have HR2 : Hid ((w2.alloc (.cells #[.int .i64 0, .int .i64 0, .int .i64 0, .int .i64 0, .int .i64 0] 24)).heap[w.heap.size]? = some (.cells #[.int .i64 t0, .int .i64 t1] 33 (0, 0))) := keepL ((Below.refl _ _).alloc (Nat.le_refl _) _) (keepL hb HR1.out); have HA2 : Hid ((w2.alloc (.cells #[.int .i64 0, .int .i64 0, .int .i64 0, .int .i64 0, .int .i64 0] 24)).heap[w2.heap.size]? = some (.cells #[.int .i64 0, .int .i64 0, .int .i64 0, .int .i64 0, .int .i64 0] 24)) := heap_alloc_new _ _; clear hb HB1 HR1)
    | (go_at_call 15; refine (rof_no _ n HL.out).mono ?_; rintro e w3 ⟨rfl, hb⟩; rw [show geo0 = .agg #[.int .i64 0, .int .i64 0, .int .i64 0, .int .i64 0, .int .i64 0] from rfl]; have HE3 : Hid (GeAt w (w3.alloc (.cells #[.int .i64 0, .int .i64 0, .int .i64 0, .int .i64 0, .int .i64 0] 24)) w2.heap.size w3.heap.size t0 t1 #[.int .i64 0, .int .i64 0, .int .i64 0, .int .i64 0, .int .i64 0]) := ⟨(HB2.out.trans (hb.mono HB2.out.size)).alloc (Nat.le_trans HB2.out.size hb.size) _, keepL ((Below.refl _ _).alloc (Nat.le_refl _) _) (keepL hb HR2.out), keepL ((Below.refl _ _).alloc (Nat.le_refl _) _) (keepL hb HA2.out), heap_alloc_new _ _⟩; clear hb HB2 HR2 HA2)
    | (go_at_call 10; refine (gsuper_no _ n HL.out).mono ?_; rintro e w4 ⟨rfl, rfl⟩)
    | (go_at_call 16; refine (rof_no' _ n HL.out).mono ?_; rintro e w5 ⟨rfl, hb⟩; have hE := HE3.out.on hb; generalize w2.heap.size = gA at *; generalize w3.heap.size = gB at *; have CA0 : w5.cell? ⟨gA, 0, none⟩ = some (.int .i64 0) := cell_of_row _ _ _ _ _ _ hE.ga; have CB0 : w5.cell? ⟨gB, 0, none⟩ = some (.int .i64 0) := cell_of_row _ _ _ _ _ _ hE.gb; have CA1 : w5.cell? ⟨gA, 1, none⟩ = some (.int .i64 0) := cell_of_row _ _ _ _ _ _ hE.ga; have CB1 : w5.cell? ⟨gB, 1, none⟩ = some (.int .i64 0) := cell_of_row _ _ _ _ _ _ hE.gb; have CA2 : w5.cell? ⟨gA, 2, none⟩ = some (.int .i64 0) := cell_of_row _ _ _ _ _ _ hE.ga; have CB2 : w5.cell? ⟨gB, 2, none⟩ = some (.int .i64 0) := cell_of_row _ _ _ _ _ _ hE.gb; have CA3 : w5.cell? ⟨gA, 3, none⟩ = some (.int .i64 0) := cell_of_row _ _ _ _ _ _ hE.ga; have CB3 : w5.cell? ⟨gB, 3, none⟩ = some (.int .i64 0) := cell_of_row _ _ _ _ _ _ hE.gb; have CA4 : w5.cell? ⟨gA, 4, none⟩ = some (.int .i64 0) := cell_of_row _ _ _ _ _ _ hE.ga; have CB4 : w5.cell? ⟨gB, 4, none⟩ = some (.int .i64 0) := cell_of_row _ _ _ _ _ _ hE.gb; have HE5 : Hid (GeAt w w5 gA gB t0 t1 #[.int .i64 0, .int .i64 0, .int .i64 0, .int .i64 0, .int .i64 0]) := hE; have S1 := str_opt (n := 0) (c := 0) (bytes_nil w5) rfl; clear hb HE3 hE))
  go_upto_region 10 with fail
  have hal : Below w5.heap.size w5 (w5.alloc (.cells #[.slice a k c, .slice none 0 0] 28)) := (Below.refl _ _).alloc (Nat.le_refl _) _
  have HW : Hid (TwoAt (w5.alloc (.cells #[.slice a k c, .slice none 0 0] 28)) w5.heap.size) := fun i hi => by
    have hc := fun j => cell_of_row (w5.alloc (.cells #[.slice a k c, .slice none 0 0] 28)) w5.heap.size j _ _ _ (heap_alloc_new _ _)
    obtain rfl | rfl : i = 0 ∨ i = 1 := by omega
    · exact ⟨_, _, _, l, hc 0, (HB.out.1.on HE5.out.bel).on hal, HB.out.2.1, hkc, HB.out.2.2, hk⟩
    · exact ⟨_, _, _, [], hc 1, bytes_nil _, rfl, Nat.le_refl _, (fun _ => rfl), by omega⟩
  have HE6 : Hid (GeAt w (w5.alloc (.cells #[.slice a k c, .slice none 0 0] 28)) gA gB t0 t1 #[.int .i64 0, .int .i64 0, .int .i64 0, .int .i64 0, .int .i64 0]) := HE5.out.on hal
  generalize w5.alloc (.cells #[.slice a k c, .slice none 0 0] 28) = w6 at *
  generalize w5.heap.size = gR at *
  clear CA0 CB0 CA1 CB1 CA2 CB2 CA3 CB3 CA4 CB4 S1 HE5 hal HB
  go_wp2_with fail
  go_loopw [76] (fun i wr => ∃ j : Nat, j ≤ 2 ∧ i = .int .i64 j ∧ GeAt w wr gA gB t0 t1 #[.int .i64 0, .int .i64 0, .int .i64 0, .int .i64 0, .int .i64 0] ∧ TwoAt wr gR) (fun i _ => (2 - intOf i).toNat)
  case atStart => exact ⟨0, by omega, rfl, HE6.out, HW.out⟩
  case round =>
    clear HE6 HW
    obtain ⟨j, hj, rfl, hE, hW⟩ := hrel
    have HE : Hid (GeAt w wr gA gB t0 t1 #[.int .i64 0, .int .i64 0, .int .i64 0, .int .i64 0, .int .i64 0]) := hE
    have HW : Hid (TwoAt wr gR) := hW
    by_cases hlt : j < 2
    · obtain ⟨ax, nx, cx, lx, hc1, hx1, hx2, hx3, hx4, hx5⟩ := hW j hlt
      have HX : Hid (Bytes wr ax lx ∧ lx.length = nx ∧ (ax = Option.none → cx = 0)) := ⟨hx1, hx2, hx4⟩
      have hlj : (j : Int) < 2 := by omega
      clear hE hW hx1 hx2 hx4
      have K0 : Hid (0 = 0) := rfl
      go_upto_region 15 with (first
        | (at_builtin; have hh := K0.out; clear hh K0; have HA := (Below.refl wr.heap.size wr).alloc (Nat.le_refl _) (.cells #[] 5); refine wp_app rfl (.tmp 80) (.tmp 81) rfl wr.heap.size wr.heap.size 0 0 [] lx rfl rfl (own_empty (heap_alloc_new _ _)) (Nat.le_refl _) HA.size ax nx cx rfl HX.out.2.1 (HX.out.1.on HA) HX.out.2.2 (by omega) ?_; intro g7 c7 w7 hg ho hgr; have hb4 := HA.grown hgr HA.size (by intro k hk; cases hk; exact Nat.le_refl _); have HC7 : Hid (wr.heap.size ≤ g7 ∧ OwnB w7 g7 c7 lx) := ⟨hg, ho⟩; have HB7 : Hid (Below wr.heap.size wr w7) := hb4; clear hg ho hgr hb4 HA; rw [Nat.zero_add]; have K1 : Hid (0 = 0) := rfl)
        | (at_builtin; have hh := K1.out; clear hh K1; have HA := (Below.refl w7.heap.size w7).alloc (Nat.le_refl _) (.cells #[.int .u8 71] 5); have HOb : OwnB (w7.alloc (.cells #[.int .u8 71] 5)) w7.heap.size 1 [71] := bytes7 w7 [71] (by simp) (wf_one 71 (by omega)); refine wp_app rfl (.tmp 82) (.tmp 83) rfl wr.heap.size g7 nx c7 lx [71] HX.out.2.1 rfl (HC7.out.2.on HA) HC7.out.1 (Nat.le_trans HB7.out.size HA.size) (some ⟨w7.heap.size, 0, none⟩) 1 1 rfl rfl HOb.bytes (fun h => by cases h) (by omega) ?_; intro g8 c8 w8 hg ho hgr; have HB8 : Hid (Below wr.heap.size wr w8) := (HB7.out.trans (HA.mono HB7.out.size)).grown hgr (Nat.le_trans HB7.out.size HA.size) (by intro k hk; cases hk; exact HC7.out.1); have hr8 := ho.room; rw [List.length_append, HX.out.2.1] at hr8; have hr8' : nx + 1 ≤ c8 := hr8; have hr8i : (nx : Int) ≤ (c8 : Int) := (by omega); have HC8 : Hid (OwnB w8 g8 c8 (lx ++ [71])) := ho; clear hg ho hgr HA HOb hr8; have K2 : Hid (0 = 0) := rfl)
        | (go_at_call 12; have hh := K2.out; clear hh K2; refine (gread_any _ _ nx c8 lx HX.out.2.1 (by have z := HC8.out.bytes.take nx; rw [← HX.out.2.1, List.take_left] at z; exact z) (by omega) (HT.out.on (HE.out.on HB8.out).bel)).mono ?_; rintro e w9 ⟨rfl, hb⟩; have HB9 : Hid (Below wr.heap.size wr w9) := HB8.out.trans (hb.mono HB8.out.size); have HC9 : Hid (OwnB w9 g8 c8 (lx ++ [71])) := HC8.out.on hb; clear hb; have K3 : Hid (0 = 0) := rfl)
        | (go_at_call 17; have hh := K3.out; clear hh K3; refine (rread_any _ ax nx cx lx HX.out.2.1 (HX.out.1.on HB9.out) hx3).mono ?_; rintro e w10 ⟨rfl, hb⟩; have HB10 : Hid (Below wr.heap.size wr w10) := HB9.out.trans (hb.mono HB9.out.size); have HC10 : Hid (OwnB w10 g8 c8 (lx ++ [71])) := HC9.out.on hb; clear hb))
      have hcell : w10.cell? ⟨g8, nx, none⟩ = some (.int .u8 71) := by
        have z := HC10.out.cell nx (by rw [List.length_append, HX.out.2.1]; simp)
        rw [show nth (lx ++ [71]) nx = 71 by rw [nth_app, if_neg (by rw [HX.out.2.1]; omega), HX.out.2.1, Nat.sub_self]; rfl] at z
        exact z
      have hcvA : ∀ q, (convert 28 9 (.slice (some ⟨g8, 0, none⟩) nx c8)).run Tryd.prog (w10.drewN q) = .ok (.string (strOfNums lx)) (w10.drewN q) := fun q => str_opt (by have z := (HC10.out.on (drew7 w10 q)).bytes.take nx; rw [← HX.out.2.1, List.take_left] at z; exact z) HX.out.2.1
      have hcvB : ∀ q, (convert 28 9 (.slice ax nx cx)).run Tryd.prog (w10.drewN q) = .ok (.string (strOfNums lx)) (w10.drewN q) := fun q => str_opt (HX.out.1.on (HB10.out.trans ((drew7 w10 q).mono HB10.out.size))) HX.out.2.1
      have HN : Hid (∀ q, GeAt w (w10.drewN q) gA gB t0 t1 #[.int .i64 0, .int .i64 0, .int .i64 0, .int .i64 0, .int .i64 0] ∧ TwoAt (w10.drewN q) gR) := fun q => ⟨HE.out.on (HB10.out.trans ((drew7 w10 q).mono HB10.out.size)), HW.out.on (HB10.out.trans ((drew7 w10 q).mono HB10.out.size))⟩
      clear HC7 HC8 HC9 HC10 HB7 HB8 HB9 HX HE HW hc1
      generalize rdV lx = rv
      generalize rdE lx = re
      generalize strOfNums lx = sx at *
      have hn1 : (nx : Int) < (nx : Int) + 1 := by omega
      go_quiet (fail)
      go_wp2
      exact ⟨⟨j + 1, by omega, by go_num, (HN.out _).1, (HN.out _).2⟩, by simp [intOf]; omega⟩
    · have hj2 : j = 2 := by omega
      subst hj2
      clear hW HW
      clear hE
      go_wp2_with (go_at_call 11; refine (num7_any _ _).mono ?_; rintro e w' ⟨rfl, rfl⟩)
      go_ret
      exact ⟨rfl, HE.out.bel⟩
theorem exact7_any (w : World) (n t0 t1 : Int) (a : Option Addr) (k c : Nat) (l : List Int) (hB : Bytes w a l) (hn : l.length = k) (hz : a = none → c = 0) (hk : k ≤ 140737488351232) (hT : TabAt w) (hkc : k ≤ c) (ht0 : -9223372036854775808 ≤ t0 ∧ t0 ≤ 9223372036854775807) (ht1 : -9223372036854775808 ≤ t1 ∧ t1 ≤ 9223372036854775807) :
    Calls Tryd.prog 7 #[.int .i64 n, .slice a k c, .agg #[.int .i64 t0, .int .i64 t1]] w fun e w' => e = .returned (.bool true) ∧ Below w.heap.size w w' := by
  cases h : isLen n with
  | true => exact exact_ok w n t0 t1 a k c l hB hn hz hk hkc hT h ht0 ht1
  | false => exact exact_no w n t0 t1 a k c l hB hn hz hk hkc hT h ht0 ht1
end Go.Proofs.YthanoifegbjpoaaDoor
