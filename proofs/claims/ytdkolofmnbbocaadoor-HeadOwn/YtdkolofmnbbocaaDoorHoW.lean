import Derived.Test.YtdkolofmnbbocaaDoorHoS
namespace Go.Proofs.YtdkolofmnbbocaaDoor
open Go.RowKit Rec

/-- the numbers asked for, the headers and empty ones that come, their texts -/
def nsX (st st2 : List Int) (i : Nat) : List Int := if i = 1 then planN st2 else planN st
def dsX (st sd st2 sd2 : List Int) (i : Nat) : List (List Int) := if i = 1 then planD st2 sd2 else planD st sd
def hX (st sd st2 sd2 : List Int) (i : Nat) : List Int := if i % 2 = 0 then made (nsX st st2 (i / 2)) (dsX st sd st2 sd2 (i / 2)) else zs
def kX (st st2 : List Int) (i : Nat) : Nat := (nsX st st2 i).length
def tX (st sd st2 sd2 : List Int) (i : Nat) : ByteArray := strOfNums (hX st sd st2 sd2 i)
theorem fitX (st sd st2 sd2 : List Int) (i : Nat) : Fit (nsX st st2 i) (dsX st sd st2 sd2 i) (kX st st2 i) := by
  unfold kX nsX dsX
  split
  · exact plan_fit st2 sd2
  · exact plan_fit st sd
theorem hX_len (st sd st2 sd2 : List Int) (i : Nat) : (hX st sd st2 sd2 i).length = 512 := by
  unfold hX
  split
  · exact hd_length _ _
  · exact zs_length
theorem hX_bd (st sd st2 sd2 : List Int) (i : Nat) : ∀ k, 0 ≤ nth (hX st sd st2 sd2 i) k ∧ nth (hX st sd st2 sd2 i) k < 256 := by
  unfold hX
  split
  · exact hd_bd _ _
  · exact zs_bd
theorem hX_even (st sd st2 sd2 : List Int) (j : Nat) : hX st sd st2 sd2 (2 * j) = made (nsX st st2 j) (dsX st sd st2 sd2 j) := by
  unfold hX
  rw [if_pos (by omega), show 2 * j / 2 = j by omega]
theorem hX_odd (st sd st2 sd2 : List Int) (j : Nat) : hX st sd st2 sd2 (2 * j + 1) = zs := by
  unfold hX
  rw [if_neg (by omega)]
/-- the first j are written full with marks of their own -/
def hfX (st sd st2 sd2 : List Int) (j i : Nat) : List Int := if i < j then List.replicate 512 (10 + (i : Int)) else hX st sd st2 sd2 i
def lfX (st st2 : List Int) (j i : Nat) : List Int := if i < j then List.replicate (kX st st2 i) (-10 - (i : Int)) else nsX st st2 i
theorem hfX_len (st sd st2 sd2 : List Int) (j i : Nat) : (hfX st sd st2 sd2 j i).length = 512 := by
  unfold hfX
  split
  · exact List.length_replicate
  · exact hX_len _ _ _ _ _
theorem lfX_len (st st2 : List Int) (j i : Nat) : (lfX st st2 j i).length = kX st st2 i := by
  unfold lfX
  split
  · exact List.length_replicate
  · rfl
def dhX (i : Nat) : List Int := List.replicate 512 (10 + (i : Int))
def ehX (i : Nat) : List Int := List.replicate 514 (10 + (i : Int))
def dlX (k : Nat → Nat) (i : Nat) : List Int := List.replicate (k i) (-10 - (i : Int))
def elX (k : Nat → Nat) (i : Nat) : List Int := List.replicate (k i + 2) (-10 - (i : Int))
theorem rep_two (n : Nat) (v : Int) : List.replicate n v ++ [v, v] = List.replicate (n + 2) v := by
  rw [show [v, v] = List.replicate 2 v from rfl, List.replicate_append_replicate]
theorem ehX_of (i : Nat) : dhX i ++ [10 + (i : Int), 10 + (i : Int)] = ehX i := rep_two 512 _
theorem elX_of (k : Nat → Nat) (i : Nat) : dlX k i ++ [-10 - (i : Int), -10 - (i : Int)] = elX k i := rep_two _ _
theorem keepH {w w' : World} {k : Nat} {o : Obj} (hb : Below w.heap.size w w') (h : w.heap[k]? = some o) : w'.heap[k]? = some o := (below_fr hb (fun _ => False)).heap h (fun e => e)
set_option maxRecDepth 100000 in
set_option maxHeartbeats 16000000 in
theorem hown_any (w : World) (sa : Option Addr) (sn sc : Nat) (ba : Option Addr) (bn bc : Nat) (st sd : List Int) (sa2 : Option Addr) (sn2 sc2 : Nat) (ba2 : Option Addr) (bn2 bc2 : Nat) (st2 sd2 : List Int) (hp : PlanAt w sa sn ba bn st sd) (hp2 : PlanAt w sa2 sn2 ba2 bn2 st2 sd2) (hT : TabAt w) :
    Calls Tryd.prog 3 #[.agg #[.slice sa sn sc, .slice ba bn bc], .agg #[.slice sa2 sn2 sc2, .slice ba2 bn2 bc2]] w fun e w' => e = .returned (.bool true) ∧ Below w.heap.size w w' := by
  have HT : Hid (TabAt w) := hT
  have HP : Hid (∀ wx, Below w.heap.size w wx → Calls Tryd.prog 5 #[.agg #[.slice sa sn sc, .slice ba bn bc]] wx fun e w' => ∃ g cap dg dcap, e = .returned (.tuple #[.slice (some ⟨g, 0, none⟩) (planN st).length cap, .slice (some ⟨dg, 0, none⟩) (planN st).length dcap]) ∧ OwnI w' g cap (planN st) ∧ Data w' (some ⟨dg, 0, none⟩) (planD st sd) ∧ (planN st).length ≤ dcap ∧ Below wx.heap.size wx w') := fun wx hx => made_fit wx sa sn sc ba bn bc st sd (hp.on hx)
  have HP2 : Hid (∀ wx, Below w.heap.size w wx → Calls Tryd.prog 5 #[.agg #[.slice sa2 sn2 sc2, .slice ba2 bn2 bc2]] wx fun e w' => ∃ g cap dg dcap, e = .returned (.tuple #[.slice (some ⟨g, 0, none⟩) (planN st2).length cap, .slice (some ⟨dg, 0, none⟩) (planN st2).length dcap]) ∧ OwnI w' g cap (planN st2) ∧ Data w' (some ⟨dg, 0, none⟩) (planD st2 sd2) ∧ (planN st2).length ≤ dcap ∧ Below wx.heap.size wx w') := fun wx hx => made_fit wx sa2 sn2 sc2 ba2 bn2 bc2 st2 sd2 (hp2.on hx)
  have HPf : Hid (PlanAt w sa sn ba bn st sd) := hp
  clear hT hp hp2
  have HB0 : Hid (Below w.heap.size w ((w.alloc (.cells #[.slice sa sn sc, .slice ba bn bc] 25)).alloc (.cells #[.slice sa2 sn2 sc2, .slice ba2 bn2 bc2] 25))) := ((Below.refl _ _).alloc (Nat.le_refl _) _).alloc (by simp) _
  have HX0 : Hid (((w.alloc (.cells #[.slice sa sn sc, .slice ba bn bc] 25)).alloc (.cells #[.slice sa2 sn2 sc2, .slice ba2 bn2 bc2] 25)).heap[w.heap.size]? = some (.cells #[.slice sa sn sc, .slice ba bn bc] 25 (0, 0))) := keepH ((Below.refl _ _).alloc (Nat.le_refl _) _) (heap_alloc_new _ _)
  have HY0 : Hid (((w.alloc (.cells #[.slice sa sn sc, .slice ba bn bc] 25)).alloc (.cells #[.slice sa2 sn2 sc2, .slice ba2 bn2 bc2] 25)).heap[w.heap.size + 1]? = some (.cells #[.slice sa2 sn2 sc2, .slice ba2 bn2 bc2] 25 (0, 0))) := by
    have z := heap_alloc_new (w.alloc (.cells #[.slice sa sn sc, .slice ba bn bc] 25)) (.cells #[.slice sa2 sn2 sc2, .slice ba2 bn2 bc2] 25)
    rw [show (w.alloc (.cells #[.slice sa sn sc, .slice ba bn bc] 25)).heap.size = w.heap.size + 1 by simp] at z
    exact z
  go_enter Tryd.func3, Tryd.ntmps3
  go_upto_region 1 with fail
  generalize (w.alloc (.cells #[.slice sa sn sc, .slice ba bn bc] 25)).alloc (.cells #[.slice sa2 sn2 sc2, .slice ba2 bn2 bc2] 25) = wa at *
  go_upto_region 3 with (go_at_call 4; refine (known_any _ (HT.out.on HB0.out)).mono ?_; rintro e w1 ⟨rfl, hb⟩; have HB1 : Hid (Below w.heap.size w w1) := HB0.out.trans (hb.mono HB0.out.size); have hX := keepH hb HX0.out; have hY := keepH hb HY0.out; have HX1 : Hid (w1.heap[w.heap.size]? = some (.cells #[.slice sa sn sc, .slice ba bn bc] 25 (0, 0))) := hX; have p0 : w1.cell? ⟨w.heap.size, 0, none⟩ = some (.slice sa sn sc) := cell_of_row _ _ _ _ _ _ hX; have p1 : w1.cell? ⟨w.heap.size, 1, none⟩ = some (.slice ba bn bc) := cell_of_row _ _ _ _ _ _ hX; have q0 : w1.cell? ⟨w.heap.size + 1, 0, none⟩ = some (.slice sa2 sn2 sc2) := cell_of_row _ _ _ _ _ _ hY; have q1 : w1.cell? ⟨w.heap.size + 1, 1, none⟩ = some (.slice ba2 bn2 bc2) := cell_of_row _ _ _ _ _ _ hY; clear hb hX hY HB0 HX0 HY0)
  go_upto_region 6 with fail
  have hal : Below w1.heap.size w1 (w1.alloc (.cells #[.slice sa sn sc, .slice ba bn bc, .slice sa2 sn2 sc2, .slice ba2 bn2 bc2, .slice sa sn sc, .slice ba bn bc] 25)) := (Below.refl _ _).alloc (Nat.le_refl _) _
  have HB2 : Hid (Below w.heap.size w (w1.alloc (.cells #[.slice sa sn sc, .slice ba bn bc, .slice sa2 sn2 sc2, .slice ba2 bn2 bc2, .slice sa sn sc, .slice ba bn bc] 25))) := HB1.out.trans (hal.mono HB1.out.size)
  have HX2 : Hid ((w1.alloc (.cells #[.slice sa sn sc, .slice ba bn bc, .slice sa2 sn2 sc2, .slice ba2 bn2 bc2, .slice sa sn sc, .slice ba bn bc] 25)).heap[w.heap.size]? = some (.cells #[.slice sa sn sc, .slice ba bn bc] 25 (0, 0))) := keepH hal HX1.out
  have HR2 : Hid ((w1.alloc (.cells #[.slice sa sn sc, .slice ba bn bc, .slice sa2 sn2 sc2, .slice ba2 bn2 bc2, .slice sa sn sc, .slice ba bn bc] 25)).heap[w1.heap.size]? = some (.cells #[.slice sa sn sc, .slice ba bn bc, .slice sa2 sn2 sc2, .slice ba2 bn2 bc2, .slice sa sn sc, .slice ba bn bc] 25 (0, 0))) := heap_alloc_new _ _
  clear hal p0 p1 q0 q1 HB1 HX1
  generalize w1.alloc (.cells #[.slice sa sn sc, .slice ba bn bc, .slice sa2 sn2 sc2, .slice ba2 bn2 bc2, .slice sa sn sc, .slice ba bn bc] 25) = wb at *
  generalize w1.heap.size = gP at *
  go_wp2_with fail
  go_loopw [5, 6, 49] (fun s5 s6 i wr => ∃ (j : Nat) (g gl : Nat → Nat), j ≤ 3 ∧ i = .int .i64 j ∧ Below w.heap.size w wr ∧ wr.heap[w.heap.size]? = some (.cells #[.slice sa sn sc, .slice ba bn bc] 25 (0, 0)) ∧ wr.heap[gP]? = some (.cells #[.slice sa sn sc, .slice ba bn bc, .slice sa2 sn2 sc2, .slice ba2 bn2 bc2, .slice sa sn sc, .slice ba bn bc] 25 (0, 0)) ∧ RowsAt w wr s5 (2 * j) g k512 (hX st sd st2 sd2) ∧ RowsI w wr s6 j gl (kX st st2) (nsX st st2)) (fun _ _ i _ => (3 - intOf i).toNat)
  case atStart => exact ⟨0, fun _ => 0, fun _ => 0, by omega, rfl, HB2.out, HX2.out, HR2.out, rows_none _ _ _ _ _, rowsI_none _ _ _ _ _⟩
  case round =>
    clear HB2 HX2 HR2
    obtain ⟨j, g, gl, hj, rfl, hb, hXb, hR, hA, hI⟩ := hrel
    have HB : Hid (Below w.heap.size w wr) := hb
    have HX : Hid (wr.heap[w.heap.size]? = some (.cells #[.slice sa sn sc, .slice ba bn bc] 25 (0, 0))) := hXb
    have HR : Hid (wr.heap[gP]? = some (.cells #[.slice sa sn sc, .slice ba bn bc, .slice sa2 sn2 sc2, .slice ba2 bn2 bc2, .slice sa sn sc, .slice ba bn bc] 25 (0, 0))) := hR
    have HA : Hid (RowsAt w wr u5 (2 * j) g k512 (hX st sd st2 sd2)) := hA
    have HI : Hid (RowsI w wr u6 j gl (kX st st2) (nsX st st2)) := hI
    clear hb hXb hA hI
    by_cases hlt : j < 3
    · have hlj : (j : Int) < 3 := by omega
      have HF : Hid (Fit (nsX st st2 j) (dsX st sd st2 sd2 j) (kX st st2 j)) := fitX st sd st2 sd2 j
      have HHe : Hid (made (nsX st st2 j) (dsX st sd st2 sd2 j) = hX st sd st2 sd2 (2 * j) ∧ zs = hX st sd st2 sd2 (2 * j + 1)) := ⟨(hX_even _ _ _ _ _).symm, (hX_odd _ _ _ _ _).symm⟩
      have HK : Hid (kX st st2 j = (nsX st st2 j).length) := rfl
      have HM : Hid (∃ (xa : Option Addr) (xn xc : Nat) (ya : Option Addr) (yn yc : Nat), wr.cell? ⟨gP, j * 2, none⟩ = some (.slice xa xn xc) ∧ wr.cell? ⟨gP, j * 2 + 1, none⟩ = some (.slice ya yn yc) ∧ ∀ wx, Below w.heap.size w wx → Calls Tryd.prog 5 #[.agg #[.slice xa xn xc, .slice ya yn yc]] wx fun e w' => ∃ g cap dg dcap, e = .returned (.tuple #[.slice (some ⟨g, 0, none⟩) (nsX st st2 j).length cap, .slice (some ⟨dg, 0, none⟩) (nsX st st2 j).length dcap]) ∧ OwnI w' g cap (nsX st st2 j) ∧ Data w' (some ⟨dg, 0, none⟩) (dsX st sd st2 sd2 j) ∧ (nsX st st2 j).length ≤ dcap ∧ Below wx.heap.size wx w') := by
        have hc := fun k => cell_of_row wr gP k _ _ _ hR
        obtain rfl | rfl | rfl : j = 0 ∨ j = 1 ∨ j = 2 := by omega
        · exact ⟨_, _, _, _, _, _, hc 0, hc 1, HP.out⟩
        · exact ⟨_, _, _, _, _, _, hc 2, hc 3, HP2.out⟩
        · exact ⟨_, _, _, _, _, _, hc 4, hc 5, HP.out⟩
      obtain ⟨xa, xn, xc, ya, yn, yc, x0, x1, hM⟩ := HM.out
      have HMd := hM
      have HMe : Hid (∀ wx, Below w.heap.size w wx → Calls Tryd.prog 5 #[.agg #[.slice xa xn xc, .slice ya yn yc]] wx fun e w' => ∃ g cap dg dcap, e = .returned (.tuple #[.slice (some ⟨g, 0, none⟩) (kX st st2 j) cap, .slice (some ⟨dg, 0, none⟩) (kX st st2 j) dcap]) ∧ OwnI w' g cap (nsX st st2 j) ∧ Data w' (some ⟨dg, 0, none⟩) (dsX st sd st2 sd2 j) ∧ (kX st st2 j) ≤ dcap ∧ Below wx.heap.size wx w') := hM
      clear HM hM HMd hR
      have K0 : Hid (0 = 0) := rfl
      go_wp2_with (first
        | (go_at_call 5; refine (HMe.out _ (HB.out.alloc HB.out.size _)).mono ?_; rintro e w2 ⟨gn, cn, dg, dc, rfl, hI, hD, hdc, hb⟩; have hal : Below wr.heap.size wr w2 := ((Below.refl _ _).alloc (Nat.le_refl _) _).trans (hb.mono (by simp)); have H2 : Hid (OwnI w2 gn cn (nsX st st2 j) ∧ Data w2 (some ⟨dg, 0, none⟩) (dsX st sd st2 sd2 j) ∧ Below wr.heap.size wr w2) := ⟨hI, hD, hal⟩; clear hI hD hb hal hdc)
        | (go_at_call 6; refine (HF.out.make _ gn cn dg 0 dc H2.out.1 H2.out.2.1 (HT.out.on (HB.out.trans (H2.out.2.2.mono HB.out.size)))).mono ?_; rintro e w3 ⟨gh, rfl, ho, hg, hb⟩; have H3 : Hid (OwnB w3 gh 512 (made (nsX st st2 j) (dsX st sd st2 sd2 j)) ∧ wr.heap.size ≤ gh ∧ Below wr.heap.size wr w3) := ⟨ho, Nat.le_trans H2.out.2.2.size hg, H2.out.2.2.trans (hb.mono H2.out.2.2.size)⟩; clear ho hg hb)
        | (go_at_call 7; refine (fit_nums HF.out _ gh 512 H3.out.1.bytes (by omega) (HT.out.on (HB.out.trans (H3.out.2.2.mono HB.out.size)))).mono ?_; rintro e w4 ⟨gi, rfl, hI, hg, hb⟩; have H4 : Hid (OwnB w4 gh 512 (made (nsX st st2 j) (dsX st sd st2 sd2 j)) ∧ OwnI w4 gi (kX st st2 j) (nsX st st2 j) ∧ w3.heap.size ≤ gi ∧ Below wr.heap.size wr w4) := ⟨H3.out.1.on hb, hI, hg, H3.out.2.2.trans (hb.mono H3.out.2.2.size)⟩; clear hI hg hb)
        | (go_at_call 8; refine (empty_any _).mono ?_; rintro e w5 ⟨ge, rfl, ho, hg, hb⟩; have H5 : Hid (OwnB w5 gh 512 (made (nsX st st2 j) (dsX st sd st2 sd2 j)) ∧ OwnI w5 gi (kX st st2 j) (nsX st st2 j) ∧ OwnB w5 ge 512 zs ∧ w4.heap.size ≤ ge ∧ Below wr.heap.size wr w5) := ⟨H4.out.1.on hb, H4.out.2.1.on hb, ho, hg, H4.out.2.2.2.trans (hb.mono H4.out.2.2.2.size)⟩; clear ho hg hb)
        | (at_builtin; have hh := K0.out; clear hh K0; refine wp_rows72 (wx := w5) rfl (.tmp 69) (.tmp 72) rfl w u5 (2 * j) g k512 (hX st sd st2 sd2) rfl rfl gh 512 512 ge 512 512 (hX st sd st2 sd2 (2 * j)) (hX st sd st2 sd2 (2 * j + 1)) (hX_len _ _ _ _ _) (hX_len _ _ _ _ _) (HA.out.on H5.out.2.2.2.2) (HHe.out.1 ▸ H5.out.1) (Nat.le_trans HB.out.size H3.out.2.1) (fun i hi => (by have := (HA.out.els i hi).1.lt; have := H3.out.2.1; omega)) (HHe.out.2 ▸ H5.out.2.2.1) (by have := H5.out.2.2.2.1; have := H4.out.2.2.2.size; have := HB.out.size; omega) (fun i hi => (by have := (HA.out.els i hi).1.lt; have := H5.out.2.2.2.1; have := H4.out.2.2.2.size; omega)) (by have := H3.out.1.lt; have := H4.out.1.lt; have := H5.out.2.2.2.1; omega) (Nat.le_trans HB.out.size H5.out.2.2.2.2.size) (by omega) ?_; intro b6 cap6 w6 hR6 hF6 hor; rw [up512, up_self, up512, up_self] at hR6; have hx := HA.out.on H5.out.2.2.2.2; have hy := HI.out.on H5.out.2.2.2.2; have hI6 := hy.fr hF6 (fun k hk => own_apartO hy.own hx.own (by decide) k hk) (fun i hi => own_apartI hx.own (hy.els i hi).1 (by decide)); have H6 : Hid (Below w.heap.size w w6 ∧ w6.heap[w.heap.size]? = some (.cells #[.slice sa sn sc, .slice ba bn bc] 25 (0, 0)) ∧ w6.heap[gP]? = some (.cells #[.slice sa sn sc, .slice ba bn bc, .slice sa2 sn2 sc2, .slice ba2 bn2 bc2, .slice sa sn sc, .slice ba bn bc] 25 (0, 0)) ∧ RowsAt w w6 (.slice (some ⟨b6, 0, none⟩) (2 * j + 2) cap6) (2 * j + 2) (up (up g (2 * j) gh) (2 * j + 1) ge) k512 (hX st sd st2 sd2) ∧ RowsI w w6 u6 j gl (kX st st2) (nsX st st2) ∧ OwnI w6 gi (kX st st2 j) (nsX st st2 j)) := ⟨(HB.out.trans (H5.out.2.2.2.2.mono HB.out.size)).trans (hF6.below w.heap.size (fun k hk => hx.top k hk) (Nat.le_trans HB.out.size H5.out.2.2.2.2.size)), hF6.heap (keepH H5.out.2.2.2.2 HX.out) (own_apartX hx.own (keepH H5.out.2.2.2.2 HX.out) (by decide)), hF6.heap (keepH H5.out.2.2.2.2 HR.out) (own_apartX hx.own (keepH H5.out.2.2.2.2 HR.out) (by decide)), hR6, hI6, H5.out.2.1.fr hF6 (own_apartI hx.own H5.out.2.1 (by decide))⟩; clear hR6 hF6 hor hx hy hI6; have K1 : Hid (0 = 0) := rfl)
        | (at_builtin; have hh := K1.out; clear hh K1; refine wp_rowsI (wx := w6) rfl (.tmp 74) (.tmp 76) rfl w u6 j gl (kX st st2) (nsX st st2) rfl rfl gi (kX st st2 j) (kX st st2 j) (nsX st st2 j) rfl H6.out.2.2.2.2.1 H6.out.2.2.2.2.2 (by have := H4.out.2.2.1; have := H3.out.2.2.size; have := HB.out.size; omega) (fun i hi => (by have := (HI.out.els i hi).1.lt; have := H4.out.2.2.1; have := H3.out.2.2.size; omega)) H6.out.1.size (by omega) ?_; intro b7 cap7 w7 hR7 hF7 hor; rw [up_self, up_self] at hR7; have hy := H6.out.2.2.2.2.1; have hx := H6.out.2.2.2.1; have H7 : Hid (Below w.heap.size w w7 ∧ w7.heap[w.heap.size]? = some (.cells #[.slice sa sn sc, .slice ba bn bc] 25 (0, 0)) ∧ w7.heap[gP]? = some (.cells #[.slice sa sn sc, .slice ba bn bc, .slice sa2 sn2 sc2, .slice ba2 bn2 bc2, .slice sa sn sc, .slice ba bn bc] 25 (0, 0)) ∧ RowsAt w w7 (.slice (some ⟨b6, 0, none⟩) (2 * j + 2) cap6) (2 * j + 2) (up (up g (2 * j) gh) (2 * j + 1) ge) k512 (hX st sd st2 sd2) ∧ RowsI w w7 (.slice (some ⟨b7, 0, none⟩) (j + 1) cap7) (j + 1) (up gl j gi) (kX st st2) (nsX st st2)) := ⟨H6.out.1.trans (hF7.below w.heap.size (fun k hk => hy.top k hk) H6.out.1.size), hF7.heap H6.out.2.1 (own_apartX hy.own H6.out.2.1 (by decide)), hF7.heap H6.out.2.2.1 (own_apartX hy.own H6.out.2.2.1 (by decide)), hx.fr hF7 (fun k hk => own_apartO hx.own hy.own (by decide) k hk) (fun i hi => own_apart7 hy.own (hx.els i hi).1 (by decide)), hR7⟩; clear hR7 hF7 hor hx hy))
      exact ⟨⟨j + 1, up (up g (2 * j) gh) (2 * j + 1) ge, up gl j gi, by omega, by go_num, H7.out.1, H7.out.2.1, H7.out.2.2.1, H7.out.2.2.2.1, H7.out.2.2.2.2⟩, by simp [intOf]; omega⟩
    · have hj3 : j = 3 := by omega
      subst hj3
      have hA6 : RowsAt w wr u5 6 g k512 (hX st sd st2 sd2) := HA.out
      have hI6 : RowsI w wr u6 3 gl (kX st st2) (nsX st st2) := HI.out
      obtain ⟨b, cap, rfl, _, _⟩ := owns_form hA6.own (by omega)
      obtain ⟨bl, capl, rfl, _, _⟩ := owns_form hI6.own (by omega)
      have HA6 : Hid (RowsAt w wr (.slice (some ⟨b, 0, none⟩) 6 cap) 6 g k512 (hX st sd st2 sd2)) := hA6
      have HI6 : Hid (RowsI w wr (.slice (some ⟨bl, 0, none⟩) 3 capl) 3 gl (kX st st2) (nsX st st2)) := hI6
      clear hR HR HA HI hA6 hI6
      go_wp2_with fail
      go_loopw [15, 81] (fun s15 i wq => ∃ (j : Nat), j ≤ 6 ∧ i = .int .i64 j ∧ Below w.heap.size w wq ∧ wq.heap[w.heap.size]? = some (.cells #[.slice sa sn sc, .slice ba bn bc] 25 (0, 0)) ∧ RowsAt w wq (.slice (some ⟨b, 0, none⟩) 6 cap) 6 g k512 (hX st sd st2 sd2) ∧ RowsI w wq (.slice (some ⟨bl, 0, none⟩) 3 capl) 3 gl (kX st st2) (nsX st st2) ∧ wq.ownsRow 0 9 1 s15 j ((List.range j).map fun i => .string (tX st sd st2 sd2 i)) ∧ (∀ k, s15.ownBlock = some k → w.heap.size ≤ k)) (fun _ i _ => (6 - intOf i).toNat)
      case atStart => exact ⟨0, by omega, rfl, HB.out, HX.out, HA6.out, HI6.out, World.ownsRow_nil _ _ _ _, fun k hk => by cases hk⟩
      case round =>
        clear HB HX HA6 HI6
        rename World => wB
        obtain ⟨j, hj, rfl, hb, hXb, hA, hI, hS, hS0⟩ := hrel
        have HB : Hid (Below w.heap.size w wB) := hb
        have HX : Hid (wB.heap[w.heap.size]? = some (.cells #[.slice sa sn sc, .slice ba bn bc] 25 (0, 0))) := hXb
        have HA : Hid (RowsAt w wB (.slice (some ⟨b, 0, none⟩) 6 cap) 6 g k512 (hX st sd st2 sd2)) := hA
        have HI : Hid (RowsI w wB (.slice (some ⟨bl, 0, none⟩) 3 capl) 3 gl (kX st st2) (nsX st st2)) := hI
        have HS : Hid (wB.ownsRow 0 9 1 u15 j ((List.range j).map fun i => .string (tX st sd st2 sd2 i)) ∧ ∀ k, u15.ownBlock = some k → w.heap.size ≤ k) := ⟨hS, hS0⟩
        clear hb hS hS0 hI
        by_cases hlt : j < 6
        · have hc := hA.is j hlt
          rw [hX_len, show k512 j = 512 from rfl] at hc
          have hlj : (j : Int) < 6 := by omega
          have hcv : (convert 23 9 (.slice (some ⟨g j, 0, none⟩) 512 512)).run Tryd.prog wB = .ok (.string (tX st sd st2 sd2 j)) wB := str_opt (hA.els j hlt).1.bytes (hX_len _ _ _ _ _)
          clear hA hXb
          generalize hgj : g j = gj at *
          generalize hts : tX st sd st2 sd2 j = tj at *
          clear hgj
          have HTj : Hid (tX st sd st2 sd2 j = tj) := hts
          clear hts
          go_wp2_with (at_builtin; refine wp_strs7 (wx := wB) rfl (.tmp 85) (.tmp 88) rfl u15 j _ rfl rfl tj HS.out.1 (by omega) ?_; intro b2 cap2 w3 hR3 hF3 hor; rw [← HTj.out, strs_up] at hR3; have HE : Hid (Below w.heap.size w w3 ∧ w3.heap[w.heap.size]? = some (.cells #[.slice sa sn sc, .slice ba bn bc] 25 (0, 0)) ∧ RowsAt w w3 (.slice (some ⟨b, 0, none⟩) 6 cap) 6 g k512 (hX st sd st2 sd2) ∧ RowsI w w3 (.slice (some ⟨bl, 0, none⟩) 3 capl) 3 gl (kX st st2) (nsX st st2) ∧ w3.ownsRow 0 9 1 (.slice (some ⟨b2, 0, none⟩) (j + 1) cap2) (j + 1) ((List.range (j + 1)).map fun i => .string (tX st sd st2 sd2 i)) ∧ ∀ k, (Value.slice (some ⟨b2, 0, none⟩) (j + 1) cap2).ownBlock = some k → w.heap.size ≤ k) := ⟨HB.out.trans (hF3.below w.heap.size (fun k hk => HS.out.2 k hk) HB.out.size), hF3.heap HX.out (own_apartX HS.out.1 HX.out (by decide)), HA.out.fr hF3 (fun k hk => own_apartO HA.out.own HS.out.1 (by decide) k hk) (fun i hi => own_apart7 HS.out.1 (HA.out.els i hi).1 (by decide)), HI.out.fr hF3 (fun k hk => own_apartO HI.out.own HS.out.1 (by decide) k hk) (fun i hi => own_apartI HS.out.1 (HI.out.els i hi).1 (by decide)), hR3, (fun k hk => (by have e : b2 = k := Option.some.inj hk; subst e; rcases hor with h | h; exact HS.out.2 _ h; exact Nat.le_trans HB.out.size h))⟩; clear hR3 hF3 hor)
          first
            | exact ⟨⟨j + 1, by omega, by go_num, HE.out.1, HE.out.2.1, HE.out.2.2.1, HE.out.2.2.2.1, HE.out.2.2.2.2.1, HE.out.2.2.2.2.2⟩, by simp [intOf]; omega⟩
            | (refine ⟨⟨_, _, _, _, _, _, _, _, _, _, _, _, ⟨j + 1, by omega, ?_, HE.out.1, HE.out.2.1, HE.out.2.2.1, HE.out.2.2.2.1, HE.out.2.2.2.2.1, HE.out.2.2.2.2.2⟩, rfl⟩, ?_⟩
               · go_num
               · simp [intOf]; omega)
        · have hj3 : j = 6 := by omega
          subst hj3
          obtain ⟨bw, capw, rfl, hcw, hcl⟩ := owns_form HS.out.1 (by omega)
          have p0 : wB.cell? ⟨w.heap.size, 0, none⟩ = some (.slice sa sn sc) := cell_of_row _ _ _ _ _ _ hXb
          have p1 : wB.cell? ⟨w.heap.size, 1, none⟩ = some (.slice ba bn bc) := cell_of_row _ _ _ _ _ _ hXb
          have HMf := made_far wB sa sn sc ba bn bc st sd (HPf.out.on HB.out)
          clear hXb HX hA hcw hcl
          go_upto_region 20 with (go_at_call 5; refine HMf.mono ?_; rintro e w20 ⟨g18, c18, dg, dc, K, hK, rfl, hfar, hdc, hb⟩; have HK : Hid (K = (planN st).length) := hK; have HFar : Hid (∀ wx, Fr (fun k => k < wB.heap.size) w20 wx → OwnI wx g18 c18 (planN st) ∧ Data wx (some ⟨dg, 0, none⟩) (planD st sd)) := hfar; have HB20 : Hid (Below wB.heap.size wB w20) := hb; clear hK hfar hb hdc)
          have hH : HoAt w w20 wB.heap.size b cap bl capl bw capw g gl (kX st st2) [.string (tX st sd st2 sd2 0), .string (tX st sd st2 sd2 1), .string (tX st sd st2 sd2 2), .string (tX st sd st2 sd2 3), .string (tX st sd st2 sd2 0), .string (tX st sd st2 sd2 5)] w20 (hX st sd st2 sd2) (nsX st st2) :=
            ⟨HB.out.trans (HB20.out.mono HB.out.size), HA.out.on HB20.out, HI.out.on HB20.out, owns_fr HS.out.1 (below_fr HB20.out (fun _ => False)) (fun _ _ e => e), Fr.refl _ _, HB.out.size, HB20.out.size, owns_block HA.out.own rfl, owns_block HI.out.own rfl, owns_block HS.out.1 rfl, fun i hi => (HA.out.els i hi).1.lt, fun i hi => (HI.out.els i hi).1.lt⟩
          have HH : Hid (HoAt w w20 wB.heap.size b cap bl capl bw capw g gl (kX st st2) [.string (tX st sd st2 sd2 0), .string (tX st sd st2 sd2 1), .string (tX st sd st2 sd2 2), .string (tX st sd st2 sd2 3), .string (tX st sd st2 sd2 0), .string (tX st sd st2 sd2 5)] w20 (hX st sd st2 sd2) (nsX st st2)) := hH
          obtain ⟨bw', capw', e9, hcw, hcl⟩ := owns_form hH.strs (by omega)
          cases e9
          have c0 := hcw 0 (.string (tX st sd st2 sd2 0)) rfl
          have c4 := hcw 4 (.string (tX st sd st2 sd2 0)) rfl
          have hsz : (tX st sd st2 sd2 0).size = 512 := by unfold tX; rw [str_size (hX st sd st2 sd2 0) (hX_bd _ _ _ _ _)]; exact hX_len _ _ _ _ _
          have l0 : w20.cell? ⟨bl, 0, none⟩ = some (.slice (some ⟨gl 0, 0, none⟩) K K) := by rw [HK.out]; exact hH.lists.is 0 (by omega)
          have l2 : w20.cell? ⟨bl, 2, none⟩ = some (.slice (some ⟨gl 2, 0, none⟩) K K) := by rw [HK.out]; exact hH.lists.is 2 (by omega)
          have hF0 := HFar.out w20 (Fr.refl _ _)
          have hfit := plan_fit st sd
          have HSm : Hid (∀ q x, x = gl 0 ∨ x = gl 2 → Calls Tryd.prog 9 #[.slice (some ⟨x, 0, none⟩) K K, .slice (some ⟨g18, 0, none⟩) K c18] (w20.drewN q) fun e w' => e = .returned (.bool true) ∧ ∃ m, w' = (w20.drewN q).drewN m) := fun q x hx => by
            refine same_q (w20.drewN q) x K g18 c18 K (planN st) (by have := hfit.k96; have := hfit.nl; rw [HK.out]; omega) (fun i hi => ?_) (fun i hi => hF0.1.cell i (by rw [← HK.out]; exact hi))
            rcases hx with rfl | rfl
            · exact (hH.lists.els 0 (by omega)).1.cell i (by rw [HK.out] at hi; exact hi)
            · exact (hH.lists.els 2 (by omega)).1.cell i (by rw [HK.out] at hi; exact hi)
          have HT0 : Hid (strOfNums (hX st sd st2 sd2 0) = tX st sd st2 sd2 0 ∧ strOfNums zs = tX st sd st2 sd2 1) := ⟨rfl, rfl⟩
          clear hcw hH hF0 HA HI HS HMf p0 p1
          generalize tX st sd st2 sd2 0 = t0 at *
          generalize tX st sd st2 sd2 1 = t1 at *
          generalize tX st sd st2 sd2 2 = t2 at *
          generalize tX st sd st2 sd2 3 = t3 at *
          generalize tX st sd st2 sd2 5 = t5 at *
          generalize hg0 : gl 0 = gl0 at l0
          generalize hg2 : gl 2 = gl2 at l2
          have HG : Hid (gl0 = gl 0 ∧ gl2 = gl 2) := ⟨hg0.symm, hg2.symm⟩
          clear hg0 hg2
          have hcl3 : 3 ≤ capl := by
            obtain ⟨_, _, e7, _, h7⟩ := owns_form HH.out.lists.own (by omega)
            cases e7; exact h7
          go_quiet (first | (go_at_call 9; refine Calls.quiet_of (HSm.out _ _ (by first | exact .inl HG.out.1 | exact .inr HG.out.2))))
          go_upto_region 22 with fail
          have HH2 : Hid (HoAt w w20 wB.heap.size b cap bl capl bw capw g gl (kX st st2) [.string t0, .string t1, .string t2, .string t3, .string t0, .string t5] (w20.drewN nq) (hfX st sd st2 sd2 0) (lfX st st2 0)) := (HH.out.on (drew7 w20 nq)).cong (fun i _ => (if_neg (Nat.not_lt_zero i)).symm) (fun i _ => (if_neg (Nat.not_lt_zero i)).symm)
          clear HH HSm HG l0 l2 c0 c4 hsz hcl HB HB20
          generalize wB.heap.size = N at *
          generalize w20.drewN nq = w21 at *
          go_wp2_with fail
          go_loopw [128] (fun i wq => ∃ (j : Nat), j ≤ 6 ∧ i = .int .i64 j ∧ HoAt w w20 N b cap bl capl bw capw g gl (kX st st2) [.string t0, .string t1, .string t2, .string t3, .string t0, .string t5] wq (hfX st sd st2 sd2 j) (lfX st st2 0)) (fun i _ => (6 - intOf i).toNat)
          case atStart => exact ⟨0, by omega, rfl, HH2.out⟩
          case round =>
            clear HH2
            rename World => wD
            obtain ⟨j, hj, rfl, hH⟩ := hrel
            have HH : Hid (HoAt w w20 N b cap bl capl bw capw g gl (kX st st2) [.string t0, .string t1, .string t2, .string t3, .string t0, .string t5] wD (hfX st sd st2 sd2 j) (lfX st st2 0)) := hH
            by_cases hlt : j < 6
            · have hc := hH.heads.is j hlt
              rw [hfX_len, show k512 j = 512 from rfl] at hc
              have hlj : (j : Int) < 6 := by omega
              clear hH
              have HJ : Hid (up (hfX st sd st2 sd2 j) j (ov (hX st sd st2 sd2 j) 0 0 (fun _ => 10 + (j : Int))) = (hfX st sd st2 sd2 j)) := by
                show _ = _
                rw [ov_zero, show hX st sd st2 sd2 j = hfX st sd st2 sd2 j j from (if_neg (by omega)).symm, up_self]
              go_wp2_with fail
              go_loopw [135] (fun i wq => ∃ (k : Nat), k ≤ 512 ∧ i = .int .i64 k ∧ HoAt w w20 N b cap bl capl bw capw g gl (kX st st2) [.string t0, .string t1, .string t2, .string t3, .string t0, .string t5] wq (up (hfX st sd st2 sd2 j) j (ov (hX st sd st2 sd2 j) 0 k (fun _ => 10 + (j : Int)))) (lfX st st2 0)) (fun i _ => (512 - intOf i).toNat)
              case atStart => exact ⟨0, by omega, rfl, by rw [HJ.out]; exact HH.out⟩
              case round =>
                clear HH HJ hc
                rename World => wE
                obtain ⟨k, hk, rfl, hH⟩ := hrel
                by_cases hk5 : k < 512
                · have hki : (k : Int) < 512 := by omega
                  have ho := (hH.heads.els j hlt).1
                  rw [up_at] at ho
                  have hd := ho.cell k (by rw [ov_length, hX_len]; exact hk5)
                  have hf := ho.frozen k
                  have hset := hH.setH j hlt k (10 + (j : Int)) (by rw [up_at, ov_length, hX_len]; exact hk5) (by omega)
                  rw [up_at, up_up, show (ov (hX st sd st2 sd2 j) 0 k (fun _ => 10 + (j : Int))).set k (10 + (j : Int)) = ov (hX st sd st2 sd2 j) 0 (k + 1) (fun _ => 10 + (j : Int)) from (by have z := ov_set (hX st sd st2 sd2 j) 0 k (fun _ => 10 + (j : Int)) (by rw [hX_len]; omega); rw [Nat.zero_add] at z; exact z)] at hset
                  have HE : Hid (HoAt w w20 N b cap bl capl bw capw g gl (kX st st2) [.string t0, .string t1, .string t2, .string t3, .string t0, .string t5] (wE.setCell ⟨g j, k, none⟩ (.int .u8 (10 + (j : Int)))) (up (hfX st sd st2 sd2 j) j (ov (hX st sd st2 sd2 j) 0 (k + 1) (fun _ => 10 + (j : Int)))) (lfX st st2 0)) := hset
                  clear hset ho hH
                  generalize g j = gj at *
                  go_wp2
                  exact ⟨⟨k + 1, by omega, by go_num, HE.out⟩, by simp [intOf]; omega⟩
                · have hk2 : k = 512 := by omega
                  subst hk2
                  have HH5 : Hid (HoAt w w20 N b cap bl capl bw capw g gl (kX st st2) [.string t0, .string t1, .string t2, .string t3, .string t0, .string t5] wE (hfX st sd st2 sd2 (j + 1)) (lfX st st2 0)) := hH.cong (fun i _ => by
                    by_cases e : i = j
                    · subst e; rw [up_at, ov_all _ _ 512 (hX_len _ _ _ _ _)]; exact (if_pos (Nat.lt_succ_self _)).symm
                    · rw [up_off _ _ e]; unfold hfX
                      by_cases e2 : i < j
                      · rw [if_pos e2, if_pos (by omega)]
                      · rw [if_neg e2, if_neg (by omega)]) (fun _ _ => rfl)
                  clear hH
                  go_wp2
                  exact ⟨⟨j + 1, by omega, by go_num, HH5.out⟩, by simp [intOf]; omega⟩
            · have hj3 : j = 6 := by omega
              subst hj3
              have HH6 : Hid (HoAt w w20 N b cap bl capl bw capw g gl (kX st st2) [.string t0, .string t1, .string t2, .string t3, .string t0, .string t5] wD dhX (lfX st st2 0)) := hH.cong (fun i hi => if_pos hi) (fun _ _ => rfl)
              clear hH HH
              go_wp2_with fail
              go_loopw [148] (fun i wq => ∃ (j : Nat), j ≤ 3 ∧ i = .int .i64 j ∧ HoAt w w20 N b cap bl capl bw capw g gl (kX st st2) [.string t0, .string t1, .string t2, .string t3, .string t0, .string t5] wq dhX (lfX st st2 j)) (fun i _ => (3 - intOf i).toNat)
              case atStart => exact ⟨0, by omega, rfl, HH6.out⟩
              case round =>
                clear HH6
                rename World => wF
                obtain ⟨j, hj, rfl, hH⟩ := hrel
                have HH : Hid (HoAt w w20 N b cap bl capl bw capw g gl (kX st st2) [.string t0, .string t1, .string t2, .string t3, .string t0, .string t5] wF dhX (lfX st st2 j)) := hH
                by_cases hlt : j < 3
                · have hc := hH.lists.is j hlt
                  rw [lfX_len] at hc
                  have hlj : (j : Int) < 3 := by omega
                  clear hH
                  have hKb : kX st st2 j ≤ 96 := (fitX st sd st2 sd2 j).k96
                  have HKn : Hid ((nsX st st2 j).length = kX st st2 j) := rfl
                  have HJ : Hid (up (lfX st st2 j) j (ov (nsX st st2 j) 0 0 (fun _ => -10 - (j : Int))) = (lfX st st2 j)) := by
                    show _ = _
                    rw [ov_zero, show nsX st st2 j = lfX st st2 j j from (if_neg (by omega)).symm, up_self]
                  obtain ⟨KJ, hKJ⟩ : ∃ KJ, kX st st2 j = KJ := ⟨_, rfl⟩
                  have HKJ : Hid (kX st st2 j = KJ) := hKJ
                  rw [hKJ] at hc hKb
                  clear hKJ
                  go_wp2_with fail
                  go_loopw [155] (fun i wq => ∃ (k : Nat), k ≤ KJ ∧ i = .int .i64 k ∧ HoAt w w20 N b cap bl capl bw capw g gl (kX st st2) [.string t0, .string t1, .string t2, .string t3, .string t0, .string t5] wq dhX (up (lfX st st2 j) j (ov (nsX st st2 j) 0 k (fun _ => -10 - (j : Int))))) (fun i _ => (KJ - intOf i).toNat)
                  case atStart => exact ⟨0, by omega, rfl, by rw [HJ.out]; exact HH.out⟩
                  case round =>
                    clear HH HJ hc
                    rename World => wG
                    obtain ⟨k, hk, rfl, hH⟩ := hrel
                    by_cases hk5 : k < KJ
                    · have hki : (k : Int) < KJ := by omega
                      have hkl : k < (ov (nsX st st2 j) 0 k (fun _ => -10 - (j : Int))).length := by rw [ov_length, HKn.out, HKJ.out]; exact hk5
                      have ho := (hH.lists.els j hlt).1
                      rw [up_at] at ho
                      have hd := ho.cell k hkl
                      have hf := ho.frozen k
                      have hset := hH.setL j hlt k (-10 - (j : Int)) (by rw [up_at]; exact hkl)
                      rw [up_at, up_up, show (ov (nsX st st2 j) 0 k (fun _ => -10 - (j : Int))).set k (-10 - (j : Int)) = ov (nsX st st2 j) 0 (k + 1) (fun _ => -10 - (j : Int)) from (by have z := ov_set (nsX st st2 j) 0 k (fun _ => -10 - (j : Int)) (by rw [HKn.out, HKJ.out]; omega); rw [Nat.zero_add] at z; exact z)] at hset
                      have HE : Hid (HoAt w w20 N b cap bl capl bw capw g gl (kX st st2) [.string t0, .string t1, .string t2, .string t3, .string t0, .string t5] (wG.setCell ⟨gl j, k, none⟩ (.int .i64 (-10 - (j : Int)))) dhX (up (lfX st st2 j) j (ov (nsX st st2 j) 0 (k + 1) (fun _ => -10 - (j : Int))))) := hset
                      clear hset ho hH hkl
                      generalize gl j = gj at *
                      go_wp2
                      exact ⟨⟨k + 1, by omega, by go_num, HE.out⟩, by simp [intOf]; omega⟩
                    · have hk2 : k = KJ := by omega
                      have HH5 : Hid (HoAt w w20 N b cap bl capl bw capw g gl (kX st st2) [.string t0, .string t1, .string t2, .string t3, .string t0, .string t5] wG dhX (lfX st st2 (j + 1))) := hH.cong (fun _ _ => rfl) (fun i _ => by
                        by_cases e : i = j
                        · subst e; rw [up_at, hk2, ov_all _ _ KJ (by rw [HKn.out, HKJ.out])]; unfold lfX; rw [if_pos (Nat.lt_succ_self _), HKJ.out]
                        · rw [up_off _ _ e]; unfold lfX
                          by_cases e2 : i < j
                          · rw [if_pos e2, if_pos (by omega)]
                          · rw [if_neg e2, if_neg (by omega)])
                      clear hH hk2
                      have hki : ¬ (k : Int) < KJ := by omega
                      go_wp2
                      exact ⟨⟨j + 1, by omega, by go_num, HH5.out⟩, by simp [intOf]; omega⟩
                · have hj3 : j = 3 := by omega
                  subst hj3
                  have HH6 : Hid (HoAt w w20 N b cap bl capl bw capw g gl (kX st st2) [.string t0, .string t1, .string t2, .string t3, .string t0, .string t5] wF dhX (dlX (kX st st2))) := hH.cong (fun _ _ => rfl) (fun i hi => if_pos hi)
                  clear hH HH
                  go_wp2_with fail
                  go_loopw [26, 167] (fun s26 i wq => ∃ (j : Nat) (g' c' : Nat → Nat), j ≤ 6 ∧ i = .int .i64 j ∧ HoAt w w20 N b cap bl capl bw capw g gl (kX st st2) [.string t0, .string t1, .string t2, .string t3, .string t0, .string t5] wq dhX (dlX (kX st st2)) ∧ RowsAt w20 wq s26 j g' c' ehX) (fun _ i _ => (6 - intOf i).toNat)
                  case atStart => exact ⟨0, fun _ => 0, fun _ => 0, by omega, rfl, HH6.out, rows_none _ _ _ _ _⟩
                  case round =>
                    clear HH6
                    rename World => wX
                    obtain ⟨j, g', c', hj, rfl, hH, hM⟩ := hrel
                    have HH : Hid (HoAt w w20 N b cap bl capl bw capw g gl (kX st st2) [.string t0, .string t1, .string t2, .string t3, .string t0, .string t5] wX dhX (dlX (kX st st2))) := hH
                    have HM : Hid (RowsAt w20 wX u26 j g' c' ehX) := hM
                    clear hM
                    by_cases hlt : j < 6
                    · have hc := hH.heads.is j hlt
                      rw [show (dhX j).length = 512 from List.length_replicate, show k512 j = 512 from rfl] at hc
                      have hlj : (j : Int) < 6 := by omega
                      have HOj : Hid (OwnB wX (g j) 512 (dhX j)) := (hH.heads.els j hlt).1
                      clear hH
                      generalize g j = gj at hc HOj
                      have K0 : Hid (0 = 0) := rfl
                      go_wp2_with (first
                        | (at_builtin; have hh := K0.out; clear hh K0; refine wp_full72 (w1 := wX) rfl (.tmp 173) (.tmp 180) rfl gj 512 (dhX j) (10 + (j : Int)) (by omega) List.length_replicate rfl rfl HOj.out (by omega) ?_; intro gx cx w4 hgx hox hbx; rw [ehX_of] at hox; have HX : Hid (wX.heap.size ≤ gx ∧ OwnB w4 gx cx (ehX j) ∧ Below wX.heap.size wX w4) := ⟨hgx, hox, hbx⟩; clear hgx hox hbx; have K1 : Hid (0 = 0) := rfl)
                        | (at_builtin; have hh := K1.out; clear hh K1; refine wp_rows7 (wx := w4) rfl (.tmp 172) (.tmp 182) rfl w20 u26 j g' c' ehX rfl rfl gx cx _ (ehX j) List.length_replicate (HM.out.on HX.out.2.2) HX.out.2.1 (Nat.le_trans HH.out.far.size HX.out.1) (fun i hi => (by have := (HM.out.els i hi).1.lt; have := HX.out.1; omega)) (Nat.le_trans HH.out.far.size HX.out.2.2.size) (by omega) ?_; intro b5 cap5 w5 hR5 hF5 hor; rw [up_self] at hR5; have hM4 := HM.out.on HX.out.2.2; have HE : Hid (HoAt w w20 N b cap bl capl bw capw g gl (kX st st2) [.string t0, .string t1, .string t2, .string t3, .string t0, .string t5] w5 dhX (dlX (kX st st2)) ∧ RowsAt w20 w5 (.slice (some ⟨b5, 0, none⟩) (j + 1) cap5) (j + 1) (up g' j gx) (up c' j cx) ehX) := ⟨(HH.out.on HX.out.2.2).fr hF5 (fun k hk => hM4.top k hk), hR5⟩; clear hR5 hF5 hor hM4))
                      first
                        | exact ⟨⟨j + 1, up g' j gx, up c' j cx, by omega, by go_num, HE.out.1, HE.out.2⟩, by simp [intOf]; omega⟩
                        | (refine ⟨⟨_, _, _, _, _, _, _, _, _, _, _, _, _, _, _, _, _, _, _, _, _, ⟨j + 1, up g' j gx, up c' j cx, by omega, ?_, HE.out.1, HE.out.2⟩, rfl⟩, ?_⟩
                           · go_num
                           · simp [intOf]; omega)
                    · have hj3 : j = 6 := by omega
                      subst hj3
                      obtain ⟨bm, capm, rfl, _, _⟩ := owns_form HM.out.own (by omega)
                      clear hH
                      go_wp2_with fail
                      go_loopw [27, 187] (fun s27 i wq => ∃ (j : Nat) (gk ck : Nat → Nat), j ≤ 3 ∧ i = .int .i64 j ∧ HoAt w w20 N b cap bl capl bw capw g gl (kX st st2) [.string t0, .string t1, .string t2, .string t3, .string t0, .string t5] wq dhX (dlX (kX st st2)) ∧ RowsAt w20 wq (.slice (some ⟨bm, 0, none⟩) 6 capm) 6 g' c' ehX ∧ RowsI w20 wq s27 j gk ck (elX (kX st st2))) (fun _ i _ => (3 - intOf i).toNat)
                      case atStart => exact ⟨0, fun _ => 0, fun _ => 0, by omega, rfl, HH.out, HM.out, rowsI_none _ _ _ _ _⟩
                      case round =>
                        clear HH HM
                        rename World => wY
                        obtain ⟨j, gk, ck, hj, rfl, hH, hM, hI⟩ := hrel
                        have HH : Hid (HoAt w w20 N b cap bl capl bw capw g gl (kX st st2) [.string t0, .string t1, .string t2, .string t3, .string t0, .string t5] wY dhX (dlX (kX st st2))) := hH
                        have HM : Hid (RowsAt w20 wY (.slice (some ⟨bm, 0, none⟩) 6 capm) 6 g' c' ehX) := hM
                        have HI : Hid (RowsI w20 wY u27 j gk ck (elX (kX st st2))) := hI
                        clear hM hI
                        by_cases hlt : j < 3
                        · have hc := hH.lists.is j hlt
                          rw [show (dlX (kX st st2) j).length = kX st st2 j from List.length_replicate] at hc
                          have hlj : (j : Int) < 3 := by omega
                          have hKb : kX st st2 j ≤ 96 := (fitX st sd st2 sd2 j).k96
                          have HOj : Hid (OwnI wY (gl j) (kX st st2 j) (dlX (kX st st2) j)) := (hH.lists.els j hlt).1
                          have HLj : Hid ((dlX (kX st st2) j).length = kX st st2 j ∧ (elX (kX st st2) j).length = kX st st2 j + 2) := ⟨List.length_replicate, List.length_replicate⟩
                          clear hH
                          generalize gl j = gj at hc HOj
                          generalize kX st st2 j = KJ at hc HOj HLj hKb
                          have K0 : Hid (0 = 0) := rfl
                          go_wp2_with (first
                            | (at_builtin; have hh := K0.out; clear hh K0; refine wp_fullI2 (w1 := wY) rfl (.tmp 193) (.tmp 198) rfl gj KJ (dlX (kX st st2) j) (-10 - (j : Int)) HLj.out.1 rfl rfl HOj.out (by omega) ?_; intro gx cx w4 hgx hox hbx; rw [elX_of] at hox; have HX : Hid (wY.heap.size ≤ gx ∧ OwnI w4 gx cx (elX (kX st st2) j) ∧ Below wY.heap.size wY w4) := ⟨hgx, hox, hbx⟩; clear hgx hox hbx; have K1 : Hid (0 = 0) := rfl)
                            | (at_builtin; have hh := K1.out; clear hh K1; refine wp_rowsI (wx := w4) rfl (.tmp 192) (.tmp 200) rfl w20 u27 j gk ck (elX (kX st st2)) rfl rfl gx cx _ (elX (kX st st2) j) HLj.out.2 (HI.out.on HX.out.2.2) HX.out.2.1 (Nat.le_trans HH.out.far.size HX.out.1) (fun i hi => (by have := (HI.out.els i hi).1.lt; have := HX.out.1; omega)) (Nat.le_trans HH.out.far.size HX.out.2.2.size) (by omega) ?_; intro b5 cap5 w5 hR5 hF5 hor; rw [up_self] at hR5; have hI4 := HI.out.on HX.out.2.2; have hM4 := HM.out.on HX.out.2.2; have HE : Hid (HoAt w w20 N b cap bl capl bw capw g gl (kX st st2) [.string t0, .string t1, .string t2, .string t3, .string t0, .string t5] w5 dhX (dlX (kX st st2)) ∧ RowsAt w20 w5 (.slice (some ⟨bm, 0, none⟩) 6 capm) 6 g' c' ehX ∧ RowsI w20 w5 (.slice (some ⟨b5, 0, none⟩) (j + 1) cap5) (j + 1) (up gk j gx) (up ck j cx) (elX (kX st st2))) := ⟨(HH.out.on HX.out.2.2).fr hF5 (fun k hk => hI4.top k hk), hM4.fr hF5 (fun k hk => own_apartO hM4.own hI4.own (by decide) k hk) (fun i hi => own_apart7 hI4.own (hM4.els i hi).1 (by decide)), hR5⟩; clear hR5 hF5 hor hM4 hI4))
                          first
                            | exact ⟨⟨j + 1, up gk j gx, up ck j cx, by omega, by go_num, HE.out.1, HE.out.2.1, HE.out.2.2⟩, by simp [intOf]; omega⟩
                            | (refine ⟨⟨_, _, _, _, _, _, _, _, _, _, _, _, _, _, _, _, _, _, _, ⟨j + 1, up gk j gx, up ck j cx, by omega, ?_, HE.out.1, HE.out.2.1, HE.out.2.2⟩, rfl⟩, ?_⟩
                               · go_num
                               · simp [intOf]; omega)
                        · have hj3 : j = 3 := by omega
                          subst hj3
                          obtain ⟨bi, capi, rfl, _, _⟩ := owns_form HI.out.own (by omega)
                          clear hH
                          go_wp2_with fail
                          go_loopw [205] (fun i wq => ∃ (j : Nat), j ≤ 6 ∧ i = .int .i64 j ∧ wY = wq) (fun i _ => (6 - intOf i).toNat)
                          case atStart => exact ⟨0, by omega, rfl, rfl⟩
                          case round =>
                            obtain ⟨j, hj, rfl, rfl⟩ := hrel
                            by_cases hlt : j < 6
                            · have hlj : (j : Int) < 6 := by omega
                              have hcm := HM.out.is j hlt
                              rw [show (ehX j).length = 514 from List.length_replicate] at hcm
                              have hcl := HH.out.heads.is j hlt
                              rw [show (dhX j).length = 512 from List.length_replicate, show k512 j = 512 from rfl] at hcl
                              have HOm : Hid (OwnB wY (g' j) (c' j) (ehX j)) := (HM.out.els j hlt).1
                              have HOl : Hid (OwnB wY (g j) 512 (dhX j)) := (HH.out.heads.els j hlt).1
                              generalize g' j = gm at hcm HOm
                              generalize c' j = cm at hcm HOm
                              generalize g j = gg at hcl HOl
                              go_wp2_with fail
                              go_loopw [212] (fun i wq => ∃ (k : Nat), k ≤ 514 ∧ i = .int .i64 k ∧ wY = wq) (fun i _ => (514 - intOf i).toNat)
                              case atStart => exact ⟨0, by omega, rfl, rfl⟩
                              case round =>
                                obtain ⟨k, hk, rfl, rfl⟩ := hrel
                                by_cases hk5 : k < 514
                                · have hki : (k : Int) < 514 := by omega
                                  have hd := HOm.out.cell k (by rw [show (ehX j).length = 514 from List.length_replicate]; exact hk5)
                                  rw [show nth (ehX j) k = 10 + (j : Int) from nth_rep _ _ _ hk5] at hd
                                  by_cases hk6 : k < 512
                                  · have hkj : (k : Int) < 512 := by omega
                                    have hl := HOl.out.cell k (by rw [show (dhX j).length = 512 from List.length_replicate]; exact hk6)
                                    rw [show nth (dhX j) k = 10 + (j : Int) from nth_rep _ _ _ hk6] at hl
                                    go_wp2
                                    exact ⟨⟨k + 1, by omega, by first | go_num | simp⟩, by simp [intOf]; omega⟩
                                  · have hkj : ¬ (k : Int) < 512 := by omega
                                    go_wp2
                                    exact ⟨⟨k + 1, by omega, by first | go_num | simp⟩, by simp [intOf]; omega⟩
                                · have hk2 : k = 514 := by omega
                                  subst hk2
                                  go_wp2
                                  exact ⟨⟨j + 1, by omega, by first | go_num | simp⟩, by simp [intOf]; omega⟩
                            · have hj3 : j = 6 := by omega
                              subst hj3
                              go_wp2_with fail
                              go_loopw [246] (fun i wq => ∃ (j : Nat), j ≤ 3 ∧ i = .int .i64 j ∧ wY = wq) (fun i _ => (3 - intOf i).toNat)
                              case atStart => exact ⟨0, by omega, rfl, rfl⟩
                              case round =>
                                obtain ⟨j, hj, rfl, rfl⟩ := hrel
                                by_cases hlt : j < 3
                                · have hlj : (j : Int) < 3 := by omega
                                  have hcm := HI.out.is j hlt
                                  rw [show (elX (kX st st2) j).length = kX st st2 j + 2 from List.length_replicate] at hcm
                                  have hcl := HH.out.lists.is j hlt
                                  rw [show (dlX (kX st st2) j).length = kX st st2 j from List.length_replicate] at hcl
                                  have hKb : kX st st2 j ≤ 96 := (fitX st sd st2 sd2 j).k96
                                  have HOm : Hid (OwnI wY (gk j) (ck j) (elX (kX st st2) j)) := (HI.out.els j hlt).1
                                  have HOl : Hid (OwnI wY (gl j) (kX st st2 j) (dlX (kX st st2) j)) := (HH.out.lists.els j hlt).1
                                  have HLj : Hid ((dlX (kX st st2) j).length = kX st st2 j ∧ (elX (kX st st2) j).length = kX st st2 j + 2 ∧ (∀ k, k < kX st st2 j + 2 → nth (elX (kX st st2) j) k = -10 - (j : Int)) ∧ ∀ k, k < kX st st2 j → nth (dlX (kX st st2) j) k = -10 - (j : Int)) := ⟨List.length_replicate, List.length_replicate, fun k hk => nth_rep _ _ _ hk, fun k hk => nth_rep _ _ _ hk⟩
                                  generalize gk j = gm at hcm HOm
                                  generalize ck j = cm at hcm HOm
                                  generalize gl j = gg at hcl HOl
                                  generalize kX st st2 j = KJ at hcm hcl HOl HLj hKb
                                  go_wp2_with fail
                                  go_loopw [253] (fun i wq => ∃ (k : Nat), k ≤ KJ + 2 ∧ i = .int .i64 k ∧ wY = wq) (fun i _ => (KJ + 2 - intOf i).toNat)
                                  case atStart => exact ⟨0, by omega, rfl, rfl⟩
                                  case round =>
                                    obtain ⟨k, hk, rfl, rfl⟩ := hrel
                                    by_cases hk5 : k < KJ + 2
                                    · have hki : (k : Int) < (KJ : Int) + 2 := by omega
                                      have hd := HOm.out.cell k (by rw [HLj.out.2.1]; exact hk5)
                                      rw [HLj.out.2.2.1 k hk5] at hd
                                      by_cases hk6 : k < KJ
                                      · have hkj : (k : Int) < KJ := by omega
                                        have hl := HOl.out.cell k (by rw [HLj.out.1]; exact hk6)
                                        rw [HLj.out.2.2.2 k hk6] at hl
                                        go_wp2
                                        exact ⟨⟨k + 1, by omega, by first | go_num | simp⟩, by simp [intOf]; omega⟩
                                      · have hkj : ¬ (k : Int) < KJ := by omega
                                        go_wp2
                                        exact ⟨⟨k + 1, by omega, by first | go_num | simp⟩, by simp [intOf]; omega⟩
                                    · have hkj : ¬ (k : Int) < (KJ : Int) + 2 := by omega
                                      go_wp2
                                      exact ⟨⟨j + 1, by omega, by first | go_num | simp⟩, by simp [intOf]; omega⟩
                                · have hj3 : j = 3 := by omega
                                  subst hj3
                                  have hfz := HFar.out wY HH.out.far
                                  have HFz : Hid (OwnI wY g18 c18 (planN st) ∧ Data wY (some ⟨dg, 0, none⟩) (planD st sd)) := hfz
                                  have HMk : Hid (Calls Tryd.prog 6 #[.slice (some ⟨g18, 0, none⟩) K c18, .slice (some ⟨dg, 0, none⟩) K dc] wY fun e w' => ∃ g, e = .returned (.tuple #[.slice (some ⟨g, 0, none⟩) 512 512, .int .i64 0]) ∧ OwnB w' g 512 (made (planN st) (planD st sd)) ∧ wY.heap.size ≤ g ∧ Below wY.heap.size wY w') := by
                                    rw [HK.out]
                                    exact (plan_fit st sd).make wY g18 c18 dg 0 dc hfz.1 hfz.2 (HT.out.on HH.out.bel)
                                  clear hfz HM HI
                                  go_upto_region 73 with (go_at_call 6; refine HMk.out.mono ?_; rintro e w8 ⟨gh, rfl, ho, hg, hb⟩; have hS8 := owns_fr HH.out.strs (below_fr hb (fun _ => False)) (fun _ _ e => e); have HO8 : Hid (OwnB w8 gh 512 (made (planN st) (planD st sd))) := ho; have HB8 : Hid (Below w.heap.size w w8) := HH.out.bel.trans (hb.mono HH.out.bel.size); have HS8 : Hid (w8.ownsRow 0 9 1 (.slice (some ⟨bw, 0, none⟩) 6 capw) 6 [.string t0, .string t1, .string t2, .string t3, .string t0, .string t5]) := hS8; clear ho hg hb hS8)
                                  have HD : Hid (Below w8.heap.size w8 w8.drew) := (Below.refl _ w8).drew
                                  have HW9 : Hid (∀ wx, Below w8.heap.size w8 wx → wx.cell? ⟨bw, 0, none⟩ = some (.string t0) ∧ wx.cell? ⟨bw, 1, none⟩ = some (.string t1)) := fun wx hx => by
                                    obtain ⟨_, _, e9, hcw, _⟩ := owns_form (owns_fr HS8.out (below_fr hx (fun _ => False)) (fun _ _ e => e)) (by omega)
                                    cases e9
                                    exact ⟨hcw 0 (.string t0) rfl, hcw 1 (.string t1) rfl⟩
                                  have HZ9 : Hid (∀ wx ge, OwnB wx ge 512 zs → (convert 23 9 (.slice (some ⟨ge, 0, none⟩) 512 512)).run Tryd.prog wx = .ok (.string t1) wx) := fun wx ge ho => by
                                    rw [← HT0.out.2]; exact str_opt ho.bytes zs_length
                                  have e0 : (convert 23 9 (.slice (some ⟨gh, 0, none⟩) 512 512)).run Tryd.prog w8.drew = .ok (.string t0) w8.drew := by
                                    rw [← HT0.out.1]; exact str_opt (HO8.out.on HD.out).bytes (hd_length _ _)
                                  have c80 := (HW9.out _ HD.out).1
                                  have c81 := (HW9.out _ HD.out).2
                                  clear HH HMk HFz
                                  refine wp_region_any (by as_aux_lemma => kernel_rfl) ?_
                                  try (change wpAny _ _ _ _ _ _ _ (World.drew _))
                                  refine wpAny_take (i := 0) (v := ?_) rfl (by as_aux_lemma => kernel_rfl) (by as_aux_lemma => kernel_rfl) (by as_aux_lemma => kernel_rfl) (fun _ _ _ h => h) (Or.inl ⟨by as_aux_lemma => kernel_rfl, ?_⟩) ?_
                                  rotate_left
                                  focus (intro w; go_simp; (try (with_reducible rfl)); done)
                                  go_simp
                                  refine wpAny_ready (rs := [1]) (by as_aux_lemma => kernel_rfl) (by simp) ?_
                                  refine AllReady.cons rfl (fun K hK => ?_) ?_
                                  · (go_simp; go_at_call 10; refine (num_any _ _).mono ?_; rintro e w' ⟨rfl, rfl⟩)
                                    try go_simp
                                    first
                                      | (refine hK _ _ ?_; clear hK K)
                                      | skip
                                    refine wpAny_take (i := 2) (v := ?_) rfl (by as_aux_lemma => kernel_rfl) (by as_aux_lemma => kernel_rfl) (by as_aux_lemma => kernel_rfl) (fun _ _ _ h => h) (Or.inl ⟨by as_aux_lemma => kernel_rfl, ?_⟩) ?_
                                    rotate_left
                                    focus (intro w; go_simp; (try (with_reducible rfl)); done)
                                    go_simp
                                    refine wpAny_take (i := 3) (v := ?_) rfl (by as_aux_lemma => kernel_rfl) (by as_aux_lemma => kernel_rfl) (by as_aux_lemma => kernel_rfl) (fun _ _ _ h => h) (Or.inl ⟨by as_aux_lemma => kernel_rfl, ?_⟩) ?_
                                    rotate_left
                                    focus (intro w; go_simp; (try (with_reducible rfl)); done)
                                    go_simp
                                    refine wpAny_take (i := 4) (v := ?_) rfl (by as_aux_lemma => kernel_rfl) (by as_aux_lemma => kernel_rfl) (by as_aux_lemma => kernel_rfl) (fun _ _ _ h => h) (Or.inl ⟨by as_aux_lemma => kernel_rfl, ?_⟩) ?_
                                    rotate_left
                                    focus (intro w; go_simp; (try (with_reducible rfl)); done)
                                    go_simp
                                    refine wpAny_take (i := 6) (v := ?_) rfl (by as_aux_lemma => kernel_rfl) (by as_aux_lemma => kernel_rfl) (by as_aux_lemma => kernel_rfl) (fun _ _ _ h => h) (Or.inl ⟨by as_aux_lemma => kernel_rfl, ?_⟩) ?_
                                    rotate_left
                                    focus (intro w; go_simp; (try (with_reducible rfl)); done)
                                    go_simp
                                    refine wpAny_take (i := 7) (v := ?_) rfl (by as_aux_lemma => kernel_rfl) (by as_aux_lemma => kernel_rfl) (by as_aux_lemma => kernel_rfl) (fun _ _ _ h => h) (Or.inl ⟨by as_aux_lemma => kernel_rfl, ?_⟩) ?_
                                    rotate_left
                                    focus (intro w; go_simp; (try (with_reducible rfl)); done)
                                    go_simp
                                    refine wpAny_ready (rs := [5, 8]) (by as_aux_lemma => kernel_rfl) (by simp) ?_
                                    refine AllReady.cons rfl (fun K hK => ?_) ?_
                                    · go_simp
                                      try go_simp
                                      first
                                        | (refine hK _ _ ?_; clear hK K)
                                        | skip
                                      refine wpAny_ready (rs := [8]) (by as_aux_lemma => kernel_rfl) (by simp) ?_
                                      refine AllReady.cons rfl (fun K hK => ?_) ?_
                                      · go_simp
                                        try go_simp
                                        first
                                          | (refine hK _ _ ?_; clear hK K)
                                          | skip
                                        refine wpAny_take (i := 9) (v := ?_) rfl (by as_aux_lemma => kernel_rfl) (by as_aux_lemma => kernel_rfl) (by as_aux_lemma => kernel_rfl) (fun _ _ _ h => h) (Or.inl ⟨by as_aux_lemma => kernel_rfl, ?_⟩) ?_
                                        rotate_left
                                        focus (intro w; go_simp; (try (with_reducible rfl)); done)
                                        go_simp
                                        refine wpAny_take (i := 10) (v := ?_) rfl (by as_aux_lemma => kernel_rfl) (by as_aux_lemma => kernel_rfl) (by as_aux_lemma => kernel_rfl) (fun _ _ _ h => h) (Or.inl ⟨by as_aux_lemma => kernel_rfl, ?_⟩) ?_
                                        rotate_left
                                        focus (intro w; go_simp; (try (with_reducible rfl)); done)
                                        go_simp
                                        refine wpAny_take (i := 11) (v := ?_) rfl (by as_aux_lemma => kernel_rfl) (by as_aux_lemma => kernel_rfl) (by as_aux_lemma => kernel_rfl) (fun _ _ _ h => h) (Or.inl ⟨by as_aux_lemma => kernel_rfl, ?_⟩) ?_
                                        rotate_left
                                        focus (intro w; go_simp; (try (with_reducible rfl)); done)
                                        go_simp
                                        refine wpAny_take (i := 14) (v := ?_) rfl (by as_aux_lemma => kernel_rfl) (by as_aux_lemma => kernel_rfl) (by as_aux_lemma => kernel_rfl) (fun _ _ _ h => h) (Or.inl ⟨by as_aux_lemma => kernel_rfl, ?_⟩) ?_
                                        rotate_left
                                        focus (intro w; go_simp; (try (with_reducible rfl)); done)
                                        go_simp
                                        refine wpAny_take (i := 15) (v := ?_) rfl (by as_aux_lemma => kernel_rfl) (by as_aux_lemma => kernel_rfl) (by as_aux_lemma => kernel_rfl) (fun _ _ _ h => h) (Or.inl ⟨by as_aux_lemma => kernel_rfl, ?_⟩) ?_
                                        rotate_left
                                        focus (intro w; go_simp; (try (with_reducible rfl)); done)
                                        go_simp
                                        refine wpAny_ready (rs := [12, 16]) (by as_aux_lemma => kernel_rfl) (by simp) ?_
                                        refine AllReady.cons rfl (fun K hK => ?_) ?_
                                        · (go_simp; go_at_call 8; refine (empty_any _).mono ?_; rintro e w9 ⟨ge, rfl, ho, hg, hb⟩; have H9 : Hid (Below w8.heap.size w8 w9) := HD.out.trans (hb.mono HD.out.size); have e9 := HZ9.out w9 ge ho; have c91 := (HW9.out w9 H9.out).2; clear ho hb hg)
                                          try go_simp
                                          first
                                            | (refine hK _ _ ?_; clear hK K)
                                            | skip
                                          refine wpAny_ready (rs := [13, 16]) (by as_aux_lemma => kernel_rfl) (by simp) ?_
                                          refine AllReady.cons rfl (fun K hK => ?_) ?_
                                          · go_simp
                                            try go_simp
                                            first
                                              | (refine hK _ _ ?_; clear hK K)
                                              | skip
                                            refine wpAny_ready (rs := [16]) (by as_aux_lemma => kernel_rfl) (by simp) ?_
                                            refine AllReady.cons rfl (fun K hK => ?_) ?_
                                            · go_simp
                                              try go_simp
                                              first
                                                | (refine hK _ _ ?_; clear hK K)
                                                | skip
                                              refine wpAny_take (i := 17) (v := ?_) rfl (by as_aux_lemma => kernel_rfl) (by as_aux_lemma => kernel_rfl) (by as_aux_lemma => kernel_rfl) (fun _ _ _ h => h) (Or.inl ⟨by as_aux_lemma => kernel_rfl, ?_⟩) ?_
                                              rotate_left
                                              focus (intro w; go_simp; (try (with_reducible rfl)); done)
                                              go_simp
                                              refine wpAny_take (i := 18) (v := ?_) rfl (by as_aux_lemma => kernel_rfl) (by as_aux_lemma => kernel_rfl) (by as_aux_lemma => kernel_rfl) (fun _ _ _ h => h) (Or.inl ⟨by as_aux_lemma => kernel_rfl, ?_⟩) ?_
                                              rotate_left
                                              focus (intro w; go_simp; (try (with_reducible rfl)); done)
                                              go_simp
                                              refine wpAny_take (i := 19) (v := ?_) rfl (by as_aux_lemma => kernel_rfl) (by as_aux_lemma => kernel_rfl) (by as_aux_lemma => kernel_rfl) (fun _ _ _ h => h) (Or.inl ⟨by as_aux_lemma => kernel_rfl, ?_⟩) ?_
                                              rotate_left
                                              focus (intro w; go_simp; (try (with_reducible rfl)); done)
                                              go_simp
                                              refine wpAny_done (by kernel_rfl) ?_ _
                                              go_wp2
                                              go_ret
                                              exact ⟨by simp, HB8.out.trans (H9.out.mono HB8.out.size)⟩
                                            exact AllReady.nil
                                          refine AllReady.cons rfl (fun K hK => ?_) ?_
                                          · go_simp
                                            try go_simp
                                            first
                                              | (refine hK _ _ ?_; clear hK K)
                                              | skip
                                            refine wpAny_ready (rs := [13]) (by as_aux_lemma => kernel_rfl) (by simp) ?_
                                            refine AllReady.cons rfl (fun K hK => ?_) ?_
                                            · go_simp
                                              try go_simp
                                              first
                                                | (refine hK _ _ ?_; clear hK K)
                                                | skip
                                              refine wpAny_take (i := 17) (v := ?_) rfl (by as_aux_lemma => kernel_rfl) (by as_aux_lemma => kernel_rfl) (by as_aux_lemma => kernel_rfl) (fun _ _ _ h => h) (Or.inl ⟨by as_aux_lemma => kernel_rfl, ?_⟩) ?_
                                              rotate_left
                                              focus (intro w; go_simp; (try (with_reducible rfl)); done)
                                              go_simp
                                              refine wpAny_take (i := 18) (v := ?_) rfl (by as_aux_lemma => kernel_rfl) (by as_aux_lemma => kernel_rfl) (by as_aux_lemma => kernel_rfl) (fun _ _ _ h => h) (Or.inl ⟨by as_aux_lemma => kernel_rfl, ?_⟩) ?_
                                              rotate_left
                                              focus (intro w; go_simp; (try (with_reducible rfl)); done)
                                              go_simp
                                              refine wpAny_take (i := 19) (v := ?_) rfl (by as_aux_lemma => kernel_rfl) (by as_aux_lemma => kernel_rfl) (by as_aux_lemma => kernel_rfl) (fun _ _ _ h => h) (Or.inl ⟨by as_aux_lemma => kernel_rfl, ?_⟩) ?_
                                              rotate_left
                                              focus (intro w; go_simp; (try (with_reducible rfl)); done)
                                              go_simp
                                              refine wpAny_done (by kernel_rfl) ?_ _
                                              go_wp2
                                              go_ret
                                              exact ⟨by simp, HB8.out.trans (H9.out.mono HB8.out.size)⟩
                                            exact AllReady.nil
                                          exact AllReady.nil
                                        refine AllReady.cons rfl (fun K hK => ?_) ?_
                                        · go_simp
                                          try go_simp
                                          first
                                            | (refine hK _ _ ?_; clear hK K)
                                            | skip
                                          refine wpAny_ready (rs := [12]) (by as_aux_lemma => kernel_rfl) (by simp) ?_
                                          refine AllReady.cons rfl (fun K hK => ?_) ?_
                                          · (go_simp; go_at_call 8; refine (empty_any _).mono ?_; rintro e w9 ⟨ge, rfl, ho, hg, hb⟩; have H9 : Hid (Below w8.heap.size w8 w9) := HD.out.trans (hb.mono HD.out.size); have e9 := HZ9.out w9 ge ho; have c91 := (HW9.out w9 H9.out).2; clear ho hb hg)
                                            try go_simp
                                            first
                                              | (refine hK _ _ ?_; clear hK K)
                                              | skip
                                            refine wpAny_ready (rs := [13]) (by as_aux_lemma => kernel_rfl) (by simp) ?_
                                            refine AllReady.cons rfl (fun K hK => ?_) ?_
                                            · go_simp
                                              try go_simp
                                              first
                                                | (refine hK _ _ ?_; clear hK K)
                                                | skip
                                              refine wpAny_take (i := 17) (v := ?_) rfl (by as_aux_lemma => kernel_rfl) (by as_aux_lemma => kernel_rfl) (by as_aux_lemma => kernel_rfl) (fun _ _ _ h => h) (Or.inl ⟨by as_aux_lemma => kernel_rfl, ?_⟩) ?_
                                              rotate_left
                                              focus (intro w; go_simp; (try (with_reducible rfl)); done)
                                              go_simp
                                              refine wpAny_take (i := 18) (v := ?_) rfl (by as_aux_lemma => kernel_rfl) (by as_aux_lemma => kernel_rfl) (by as_aux_lemma => kernel_rfl) (fun _ _ _ h => h) (Or.inl ⟨by as_aux_lemma => kernel_rfl, ?_⟩) ?_
                                              rotate_left
                                              focus (intro w; go_simp; (try (with_reducible rfl)); done)
                                              go_simp
                                              refine wpAny_take (i := 19) (v := ?_) rfl (by as_aux_lemma => kernel_rfl) (by as_aux_lemma => kernel_rfl) (by as_aux_lemma => kernel_rfl) (fun _ _ _ h => h) (Or.inl ⟨by as_aux_lemma => kernel_rfl, ?_⟩) ?_
                                              rotate_left
                                              focus (intro w; go_simp; (try (with_reducible rfl)); done)
                                              go_simp
                                              refine wpAny_done (by kernel_rfl) ?_ _
                                              go_wp2
                                              go_ret
                                              exact ⟨by simp, HB8.out.trans (H9.out.mono HB8.out.size)⟩
                                            exact AllReady.nil
                                          exact AllReady.nil
                                        exact AllReady.nil
                                      exact AllReady.nil
                                    refine AllReady.cons rfl (fun K hK => ?_) ?_
                                    · go_simp
                                      try go_simp
                                      first
                                        | (refine hK _ _ ?_; clear hK K)
                                        | skip
                                      refine wpAny_ready (rs := [5]) (by as_aux_lemma => kernel_rfl) (by simp) ?_
                                      refine AllReady.cons rfl (fun K hK => ?_) ?_
                                      · go_simp
                                        try go_simp
                                        first
                                          | (refine hK _ _ ?_; clear hK K)
                                          | skip
                                        refine wpAny_take (i := 9) (v := ?_) rfl (by as_aux_lemma => kernel_rfl) (by as_aux_lemma => kernel_rfl) (by as_aux_lemma => kernel_rfl) (fun _ _ _ h => h) (Or.inl ⟨by as_aux_lemma => kernel_rfl, ?_⟩) ?_
                                        rotate_left
                                        focus (intro w; go_simp; (try (with_reducible rfl)); done)
                                        go_simp
                                        refine wpAny_take (i := 10) (v := ?_) rfl (by as_aux_lemma => kernel_rfl) (by as_aux_lemma => kernel_rfl) (by as_aux_lemma => kernel_rfl) (fun _ _ _ h => h) (Or.inl ⟨by as_aux_lemma => kernel_rfl, ?_⟩) ?_
                                        rotate_left
                                        focus (intro w; go_simp; (try (with_reducible rfl)); done)
                                        go_simp
                                        refine wpAny_take (i := 11) (v := ?_) rfl (by as_aux_lemma => kernel_rfl) (by as_aux_lemma => kernel_rfl) (by as_aux_lemma => kernel_rfl) (fun _ _ _ h => h) (Or.inl ⟨by as_aux_lemma => kernel_rfl, ?_⟩) ?_
                                        rotate_left
                                        focus (intro w; go_simp; (try (with_reducible rfl)); done)
                                        go_simp
                                        refine wpAny_take (i := 14) (v := ?_) rfl (by as_aux_lemma => kernel_rfl) (by as_aux_lemma => kernel_rfl) (by as_aux_lemma => kernel_rfl) (fun _ _ _ h => h) (Or.inl ⟨by as_aux_lemma => kernel_rfl, ?_⟩) ?_
                                        rotate_left
                                        focus (intro w; go_simp; (try (with_reducible rfl)); done)
                                        go_simp
                                        refine wpAny_take (i := 15) (v := ?_) rfl (by as_aux_lemma => kernel_rfl) (by as_aux_lemma => kernel_rfl) (by as_aux_lemma => kernel_rfl) (fun _ _ _ h => h) (Or.inl ⟨by as_aux_lemma => kernel_rfl, ?_⟩) ?_
                                        rotate_left
                                        focus (intro w; go_simp; (try (with_reducible rfl)); done)
                                        go_simp
                                        refine wpAny_ready (rs := [12, 16]) (by as_aux_lemma => kernel_rfl) (by simp) ?_
                                        refine AllReady.cons rfl (fun K hK => ?_) ?_
                                        · (go_simp; go_at_call 8; refine (empty_any _).mono ?_; rintro e w9 ⟨ge, rfl, ho, hg, hb⟩; have H9 : Hid (Below w8.heap.size w8 w9) := HD.out.trans (hb.mono HD.out.size); have e9 := HZ9.out w9 ge ho; have c91 := (HW9.out w9 H9.out).2; clear ho hb hg)
                                          try go_simp
                                          first
                                            | (refine hK _ _ ?_; clear hK K)
                                            | skip
                                          refine wpAny_ready (rs := [13, 16]) (by as_aux_lemma => kernel_rfl) (by simp) ?_
                                          refine AllReady.cons rfl (fun K hK => ?_) ?_
                                          · go_simp
                                            try go_simp
                                            first
                                              | (refine hK _ _ ?_; clear hK K)
                                              | skip
                                            refine wpAny_ready (rs := [16]) (by as_aux_lemma => kernel_rfl) (by simp) ?_
                                            refine AllReady.cons rfl (fun K hK => ?_) ?_
                                            · go_simp
                                              try go_simp
                                              first
                                                | (refine hK _ _ ?_; clear hK K)
                                                | skip
                                              refine wpAny_take (i := 17) (v := ?_) rfl (by as_aux_lemma => kernel_rfl) (by as_aux_lemma => kernel_rfl) (by as_aux_lemma => kernel_rfl) (fun _ _ _ h => h) (Or.inl ⟨by as_aux_lemma => kernel_rfl, ?_⟩) ?_
                                              rotate_left
                                              focus (intro w; go_simp; (try (with_reducible rfl)); done)
                                              go_simp
                                              refine wpAny_take (i := 18) (v := ?_) rfl (by as_aux_lemma => kernel_rfl) (by as_aux_lemma => kernel_rfl) (by as_aux_lemma => kernel_rfl) (fun _ _ _ h => h) (Or.inl ⟨by as_aux_lemma => kernel_rfl, ?_⟩) ?_
                                              rotate_left
                                              focus (intro w; go_simp; (try (with_reducible rfl)); done)
                                              go_simp
                                              refine wpAny_take (i := 19) (v := ?_) rfl (by as_aux_lemma => kernel_rfl) (by as_aux_lemma => kernel_rfl) (by as_aux_lemma => kernel_rfl) (fun _ _ _ h => h) (Or.inl ⟨by as_aux_lemma => kernel_rfl, ?_⟩) ?_
                                              rotate_left
                                              focus (intro w; go_simp; (try (with_reducible rfl)); done)
                                              go_simp
                                              refine wpAny_done (by kernel_rfl) ?_ _
                                              go_wp2
                                              go_ret
                                              exact ⟨by simp, HB8.out.trans (H9.out.mono HB8.out.size)⟩
                                            exact AllReady.nil
                                          refine AllReady.cons rfl (fun K hK => ?_) ?_
                                          · go_simp
                                            try go_simp
                                            first
                                              | (refine hK _ _ ?_; clear hK K)
                                              | skip
                                            refine wpAny_ready (rs := [13]) (by as_aux_lemma => kernel_rfl) (by simp) ?_
                                            refine AllReady.cons rfl (fun K hK => ?_) ?_
                                            · go_simp
                                              try go_simp
                                              first
                                                | (refine hK _ _ ?_; clear hK K)
                                                | skip
                                              refine wpAny_take (i := 17) (v := ?_) rfl (by as_aux_lemma => kernel_rfl) (by as_aux_lemma => kernel_rfl) (by as_aux_lemma => kernel_rfl) (fun _ _ _ h => h) (Or.inl ⟨by as_aux_lemma => kernel_rfl, ?_⟩) ?_
                                              rotate_left
                                              focus (intro w; go_simp; (try (with_reducible rfl)); done)
                                              go_simp
                                              refine wpAny_take (i := 18) (v := ?_) rfl (by as_aux_lemma => kernel_rfl) (by as_aux_lemma => kernel_rfl) (by as_aux_lemma => kernel_rfl) (fun _ _ _ h => h) (Or.inl ⟨by as_aux_lemma => kernel_rfl, ?_⟩) ?_
                                              rotate_left
                                              focus (intro w; go_simp; (try (with_reducible rfl)); done)
                                              go_simp
                                              refine wpAny_take (i := 19) (v := ?_) rfl (by as_aux_lemma => kernel_rfl) (by as_aux_lemma => kernel_rfl) (by as_aux_lemma => kernel_rfl) (fun _ _ _ h => h) (Or.inl ⟨by as_aux_lemma => kernel_rfl, ?_⟩) ?_
                                              rotate_left
                                              focus (intro w; go_simp; (try (with_reducible rfl)); done)
                                              go_simp
                                              refine wpAny_done (by kernel_rfl) ?_ _
                                              go_wp2
                                              go_ret
                                              exact ⟨by simp, HB8.out.trans (H9.out.mono HB8.out.size)⟩
                                            exact AllReady.nil
                                          exact AllReady.nil
                                        refine AllReady.cons rfl (fun K hK => ?_) ?_
                                        · go_simp
                                          try go_simp
                                          first
                                            | (refine hK _ _ ?_; clear hK K)
                                            | skip
                                          refine wpAny_ready (rs := [12]) (by as_aux_lemma => kernel_rfl) (by simp) ?_
                                          refine AllReady.cons rfl (fun K hK => ?_) ?_
                                          · (go_simp; go_at_call 8; refine (empty_any _).mono ?_; rintro e w9 ⟨ge, rfl, ho, hg, hb⟩; have H9 : Hid (Below w8.heap.size w8 w9) := HD.out.trans (hb.mono HD.out.size); have e9 := HZ9.out w9 ge ho; have c91 := (HW9.out w9 H9.out).2; clear ho hb hg)
                                            try go_simp
                                            first
                                              | (refine hK _ _ ?_; clear hK K)
                                              | skip
                                            refine wpAny_ready (rs := [13]) (by as_aux_lemma => kernel_rfl) (by simp) ?_
                                            refine AllReady.cons rfl (fun K hK => ?_) ?_
                                            · go_simp
                                              try go_simp
                                              first
                                                | (refine hK _ _ ?_; clear hK K)
                                                | skip
                                              refine wpAny_take (i := 17) (v := ?_) rfl (by as_aux_lemma => kernel_rfl) (by as_aux_lemma => kernel_rfl) (by as_aux_lemma => kernel_rfl) (fun _ _ _ h => h) (Or.inl ⟨by as_aux_lemma => kernel_rfl, ?_⟩) ?_
                                              rotate_left
                                              focus (intro w; go_simp; (try (with_reducible rfl)); done)
                                              go_simp
                                              refine wpAny_take (i := 18) (v := ?_) rfl (by as_aux_lemma => kernel_rfl) (by as_aux_lemma => kernel_rfl) (by as_aux_lemma => kernel_rfl) (fun _ _ _ h => h) (Or.inl ⟨by as_aux_lemma => kernel_rfl, ?_⟩) ?_
                                              rotate_left
                                              focus (intro w; go_simp; (try (with_reducible rfl)); done)
                                              go_simp
                                              refine wpAny_take (i := 19) (v := ?_) rfl (by as_aux_lemma => kernel_rfl) (by as_aux_lemma => kernel_rfl) (by as_aux_lemma => kernel_rfl) (fun _ _ _ h => h) (Or.inl ⟨by as_aux_lemma => kernel_rfl, ?_⟩) ?_
                                              rotate_left
                                              focus (intro w; go_simp; (try (with_reducible rfl)); done)
                                              go_simp
                                              refine wpAny_done (by kernel_rfl) ?_ _
                                              go_wp2
                                              go_ret
                                              exact ⟨by simp, HB8.out.trans (H9.out.mono HB8.out.size)⟩
                                            exact AllReady.nil
                                          exact AllReady.nil
                                        exact AllReady.nil
                                      exact AllReady.nil
                                    exact AllReady.nil
                                  exact AllReady.nil
end Go.Proofs.YtdkolofmnbbocaaDoor
