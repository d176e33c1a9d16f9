import Derived.Test.YtipbflmonhlnjaaPoQ
namespace Go.Proofs.Ytipbflmonhlnjaa
open Go.RowKit Rec

set_option maxRecDepth 100000 in
set_option maxHeartbeats 16000000 in
theorem plays_all (w : World) (n : Int) (a : Option Addr) (len cap : Nat) (l : List Int) (hb : Bytes w a l) (hl : l.length = len) (h0 : a = none → cap = 0) (h47 : len ≤ 140737488351232) (sa : Option Addr) (sl sc : Nat) (L : List OpR) (hL : OpsAt w sa L) (hll : L.length = sl) (hsl : sl ≤ 174763) :
    Calls Try.prog 3 #[.int .i64 n, .slice a len cap, .slice sa sl sc] w fun e w' => e = .returned (.bool true) ∧ Below w.heap.size w w' := by
  have HI : Hid (Bytes w a l ∧ l.length = len ∧ (a = none → cap = 0)) := ⟨hb, hl, h0⟩
  have HS : Hid (OpsAt w sa L ∧ L.length = sl) := ⟨hL, hll⟩
  clear hb hl hL hll h0
  have hmb : -40 < n.tmod 40 ∧ n.tmod 40 < 40 := by
    have h1 := Int.tmod_lt_of_pos n (b := 40) (by omega)
    have h2 := Int.tmod_lt_of_pos (-n) (b := 40) (by omega)
    rw [Int.neg_tmod] at h2
    omega
  go_enter Try.func3, Try.ntmps3
  go_upto_if 25 with fail
  obtain ⟨m, hm⟩ : ∃ m, n.tmod 40 = m := ⟨_, rfl⟩
  rw [hm] at hmb ⊢
  clear hm
  go_cut [0, 26, 27] (fun s0 _ _ wx => ∃ nb : Nat, nb < 40 ∧ s0 = .int .i64 nb ∧ wx = w)
  case first =>
    by_cases hneg : m < 0
    · have hw : IntKind.i64.wrap (-m) = -m := IntWalk.i64_in _ (by omega)
      go_wp2
      go_meet
      exact ⟨(-m).toNat, by omega, by rw [show (((-m).toNat : Nat) : Int) = -m by omega], rfl⟩
    · go_wp2
      go_meet
      exact ⟨m.toNat, by omega, by rw [show ((m.toNat : Nat) : Int) = m by omega], rfl⟩
  case rest =>
  obtain ⟨nb, hnb, hu0, hwc⟩ := hcut
  rw [hu0, hwc]
  clear hu0 hwc
  obtain ⟨E, q, hN⟩ := pnew w nb hnb
  have HN : Hid (Calls Try.prog 4 #[.int .i64 nb] w fun e w1 => ∃ dp, e = .returned (.tuple #[.pointer dp, .int .i64 E]) ∧ Below w.heap.size w w1 ∧ dp.isNone = q ∧ Calls Try.prog 5 #[.int .i64 nb] w1 fun e w2 => ∃ rp, e = .returned (.tuple #[.pointer rp, .int .i64 E]) ∧ Below w1.heap.size w1 w2 ∧ rp.isNone = q ∧ ∃ o, dp = dpO o ∧ rp = rpO o ∧ PrO w2 o 0 ∧ ∀ k, prB o k → w.heap.size ≤ k) := hN
  clear hN
  go_upto_region 5 with (go_at_call 4; refine HN.out.mono ?_; rintro e w1 ⟨dp, rfl, h1, h2, h3⟩; have H1 : Hid (Below w.heap.size w w1 ∧ dp.isNone = q ∧ Calls Try.prog 5 #[.int .i64 nb] w1 fun e w2 => ∃ rp, e = .returned (.tuple #[.pointer rp, .int .i64 E]) ∧ Below w1.heap.size w1 w2 ∧ rp.isNone = q ∧ ∃ o, dp = dpO o ∧ rp = rpO o ∧ PrO w2 o 0 ∧ ∀ k, prB o k → w.heap.size ≤ k) := ⟨h1, h2, h3⟩; clear h1 h2 h3)
  go_upto_region 6 with (go_at_call 5; refine H1.out.2.2.mono ?_; rintro e w2 ⟨rp, rfl, h1, h2, o0, h3, h4, h5, h6⟩; have H2 : Hid (Below w1.heap.size w1 w2 ∧ rp.isNone = q ∧ dp = dpO o0 ∧ rp = rpO o0 ∧ PrO w2 o0 0 ∧ ∀ k, prB o0 k → w.heap.size ≤ k) := ⟨h1, h2, h3, h4, h5, h6⟩; clear h1 h2 h3 h4 h5 h6)
  have E1 := eqlD dp q H1.out.2.1
  have E2 := eqlR rp q H2.out.2.1
  go_upto_region 8 with fail
  clear E1 E2
  obtain ⟨P, hP⟩ : ∃ P, w2.heap.size = P := ⟨_, rfl⟩
  go_upto_region 10 with fail
  obtain ⟨wB, hwB⟩ : ∃ wB, w2.alloc (.cells #[.pointer dp, .pointer rp, .pointer none, .pointer none] 33) = wB := ⟨_, rfl⟩
  have HB2 : Hid (Below w2.heap.size w2 wB ∧ wB.heap[P]? = some (.cells #[.pointer (dpO o0), .pointer (rpO o0), .pointer none, .pointer none] 33 (0, 0))) := by
    rw [← hwB, ← hP, ← H2.out.2.2.1, ← H2.out.2.2.2.1]; exact ⟨(Below.refl _ _).alloc (Nat.le_refl _) _, heap_alloc_new _ _⟩
  rw [hwB]
  try rw [hP]
  clear hwB
  have HPe : Hid (w2.heap.size = P) := hP
  clear hP
  have HB0 : Hid (Below w.heap.size w w2) := H1.out.1.trans (H2.out.1.mono H1.out.1.size)
  have HBB : Hid (Below w.heap.size w wB) := HB0.out.trans (HB2.out.1.mono HB0.out.size)
  go_upto_region 11 with (go_at_call 6; refine (popened wB a len cap l (HI.out.1.on HBB.out) HI.out.2.1 HI.out.2.2 h47).mono ?_; rintro e w3 ⟨o1, rfl, h1, h2, h3⟩; have H3 : Hid (PrO w3 o1 0 ∧ (∀ k, prB o1 k → wB.heap.size ≤ k) ∧ Below wB.heap.size wB w3) := ⟨h1, h2, h3⟩; clear h1 h2 h3; generalize hd1 : dpO o1 = d1 at *; generalize hr1 : rpO o1 = r1 at *; have HE1 : Hid (dpO o1 = d1 ∧ rpO o1 = r1) := ⟨hd1, hr1⟩; clear hd1 hr1)
  obtain ⟨Q, hQ⟩ : ∃ Q, w3.heap.size = Q := ⟨_, rfl⟩
  obtain ⟨w4, hw4⟩ : ∃ w4, w3.alloc (.cells #[.pointer d1, .pointer r1] 32) = w4 := ⟨_, rfl⟩
  have H4 : Hid (Below w3.heap.size w3 w4 ∧ w4.heap[Q]? = some (.cells #[.pointer d1, .pointer r1] 32 (0, 0))) := by
    rw [← hw4, ← hQ]; exact ⟨(Below.refl _ _).alloc (Nat.le_refl _) _, heap_alloc_new _ _⟩
  rw [hw4]
  try rw [hQ]
  clear hw4 hQ
  have HA4 : Hid (w4.heap[P]? = some (.cells #[.pointer (dpO o0), .pointer (rpO o0), .pointer none, .pointer none] 33 (0, 0))) := (below_fr H4.out.1 (fun _ => False)).heap ((below_fr H3.out.2.2 (fun _ => False)).heap HB2.out.2 (fun e => e)) (fun e => e)
  have q0 : w4.cell? ⟨Q, 0, none⟩ = some (.pointer d1) := cell_of_row _ _ 0 _ _ _ H4.out.2
  have q1 : w4.cell? ⟨Q, 1, none⟩ = some (.pointer r1) := cell_of_row _ _ 1 _ _ _ H4.out.2
  have q2 : w4.cell? ⟨P, 2, none⟩ = some (.pointer none) := cell_of_row _ _ 2 _ _ _ HA4.out
  have q3 : w4.cell? ⟨P, 3, none⟩ = some (.pointer none) := cell_of_row _ _ 3 _ _ _ HA4.out
  have f2 := frozen_of_row _ _ 2 _ _ HA4.out
  have f3 := frozen_of_row _ _ 3 _ _ HA4.out
  go_upto_region 14 with fail
  clear q0 q1 q2 q3 f2 f3
  obtain ⟨w5, hw5⟩ : ∃ w5, (w4.setCell ⟨P, 2, none⟩ (.pointer d1)).setCell ⟨P, 3, none⟩ (.pointer r1) = w5 := ⟨_, rfl⟩
  rw [hw5]
  have HM0 : Hid (MS w (w5.alloc (.cells (K0 w5.heap.size).cells 41)) P o0 o1 (K0 w5.heap.size) w5.heap.size 0) := MS.init HB0.out H2.out.2.2.2.2.1 H2.out.2.2.2.2.2 HPe.out HB2.out.1 HB2.out.2 H3.out.2.2 H3.out.1 H3.out.2.1 H4.out.1 (by rw [HE1.out.1, HE1.out.2]; exact hw5)
  clear hw5
  obtain ⟨kb, hkb⟩ : ∃ kb, w5.heap.size = kb := ⟨_, rfl⟩
  go_upto_region 15 with fail
  try rw [hkb]
  obtain ⟨w6, hw6⟩ : ∃ w6, w5.alloc (.cells #[.slice none 0 0, .slice none 0 0, .slice none 0 0, .slice none 0 0, .slice none 0 0] 41) = w6 := ⟨_, rfl⟩
  have HM : Hid (MS w w6 P o0 o1 (K0 kb) kb 0) := by
    have := HM0.out
    rw [hkb] at this
    rw [← hw6]; exact this
  rw [hw6]
  clear hw6 hkb HM0 HE1 H4 HA4 H3 HBB HB0 HPe HB2 H2 H1 HN HI
  go_upto_block 0 with (fail)
  go_cut [16, 17, 18, 19, 65, 66, 67, 68, 69, 70, 71, 72, 73, 74, 75, 76, 77, 78, 79, 80, 81, 82, 83, 84, 85, 86, 87, 88, 89, 90, 91, 92, 93, 94, 95, 96, 97, 98, 99, 100, 101, 102, 103, 104, 105] (fun _ _ _ _ _ _ _ _ _ _ _ _ _ _ _ _ _ _ _ _ _ _ _ _ _ _ _ _ _ _ _ _ _ _ _ _ _ _ _ _ _ _ _ _ _ wx => ∃ o0 o1 K, MS w wx P o0 o1 K kb sl)
  case first =>
    go_wp2
    go_loopw [16, 17, 18, 19, 65, 66, 67, 68, 69, 70, 71, 72, 73, 74, 75, 76, 77, 78, 79, 80, 81, 82, 83, 84, 85, 86, 87, 88, 89, 90, 91, 92, 93, 94, 95, 96, 97, 98, 99, 100, 101, 102, 103, 104, 105] (fun _ _ _ _ i _ _ _ _ _ _ _ _ _ _ _ _ _ _ _ _ _ _ _ _ _ _ _ _ _ _ _ _ _ _ _ _ _ _ _ _ _ _ _ _ wr => ∃ k : Nat, k ≤ sl ∧ i = .int .i64 k ∧ ∃ o0 o1 K, MS w wr P o0 o1 K kb k) (fun _ _ _ _ i _ _ _ _ _ _ _ _ _ _ _ _ _ _ _ _ _ _ _ _ _ _ _ _ _ _ _ _ _ _ _ _ _ _ _ _ _ _ _ _ _ => sl - (intOf i).toNat)
    case atStart => exact ⟨0, Nat.zero_le _, rfl, _, _, _, HM.out⟩
    case round =>
      clear HM
      obtain ⟨k, hk, rfl, p0, p1, K, hM⟩ := hrel
      obtain ⟨wo, hwo⟩ : ∃ wo, wr = wo := ⟨_, rfl⟩
      rw [hwo] at hM ⊢
      clear hwo
      have HO : Hid (MS w wo P p0 p1 K kb k) := hM
      clear hM
      by_cases hlt : k < sl
      · have hkl : k < L.length := by rw [HS.out.2]; exact hlt
        obtain ⟨o, ho⟩ : ∃ o, L[k]? = some o := ⟨_, List.getElem?_eq_getElem hkl⟩
        obtain ⟨b, off, rfl, hc⟩ := HS.out.1.at_.resolve_left (by intro e; rw [e] at hkl; simp at hkl)
        have HOk : Hid (OpOk w o) := HS.out.1.ok o (List.mem_of_getElem? ho)
        have hcell : ∀ j, j < 5 → wo.cell? ⟨b, off + k * 5 + j, none⟩ = o.cells[j]? := fun j hj => by
          have e := hc k o ho j hj
          obtain ⟨v, hv⟩ : ∃ v, o.cells[j]? = some v := ⟨_, List.getElem?_eq_getElem (show j < o.cells.length from hj)⟩
          rw [hv] at e ⊢
          exact (below_fr HO.out.be (fun _ => False)).cell e (fun e => e)
        clear hc ho hkl
        obtain ⟨kd, tw, N, ba, bn, bc, bl, ka, kn, kc, keep⟩ := o
        have d0 : wo.cell? ⟨b, off + k * 5, none⟩ = some (.int .i64 kd) := hcell 0 (by omega)
        have d1 : wo.cell? ⟨b, off + k * 5 + 1, none⟩ = some (.bool tw) := hcell 1 (by omega)
        have d2 : wo.cell? ⟨b, off + k * 5 + 2, none⟩ = some (.int .i64 N) := hcell 2 (by omega)
        have d3 : wo.cell? ⟨b, off + k * 5 + 3, none⟩ = some (.slice ba bn bc) := hcell 3 (by omega)
        have d4 : wo.cell? ⟨b, off + k * 5 + 4, none⟩ = some (.slice ka kn kc) := hcell 4 (by omega)
        clear hcell
        obtain ⟨PO, hPO⟩ : ∃ PO, wo.heap.size = PO := ⟨_, rfl⟩
        go_upto_region 18 with fail
        obtain ⟨wA, hwA⟩ : ∃ wA, wo.alloc (.cells #[.int .i64 kd, .bool tw, .int .i64 N, .slice ba bn bc, .slice ka kn kc] 44) = wA := ⟨_, rfl⟩
        have HP : Hid (Below wo.heap.size wo wA ∧ wA.heap[PO]? = some (.cells #[.int .i64 kd, .bool tw, .int .i64 N, .slice ba bn bc, .slice ka kn kc] 44 (0, 0))) := by
          rw [← hwA, ← hPO]; exact ⟨(Below.refl _ _).alloc (Nat.le_refl _) _, heap_alloc_new _ _⟩
        try rw [hPO]
        rw [hwA]
        clear hwA hPO d0 d1 d2 d3 d4
        have HOA : Hid (MS w wA P p0 p1 K kb k) := HO.out.on HP.out.1
        have e0 : wA.cell? ⟨PO, 0, none⟩ = some (.int .i64 kd) := cell_of_row _ _ 0 _ _ _ HP.out.2
        have e1 : wA.cell? ⟨PO, 1, none⟩ = some (.bool tw) := cell_of_row _ _ 1 _ _ _ HP.out.2
        have e2 : wA.cell? ⟨PO, 2, none⟩ = some (.int .i64 N) := cell_of_row _ _ 2 _ _ _ HP.out.2
        have e3 : wA.cell? ⟨PO, 3, none⟩ = some (.slice ba bn bc) := cell_of_row _ _ 3 _ _ _ HP.out.2
        have e4 : wA.cell? ⟨PO, 4, none⟩ = some (.slice ka kn kc) := cell_of_row _ _ 4 _ _ _ HP.out.2
        clear HO
        cases tw
        · have x0 : wA.cell? ⟨P, 0, none⟩ = some (.pointer (dpO p0)) := cell_of_row _ _ 0 _ _ _ HOA.out.arr
          have x1 : wA.cell? ⟨P, 1, none⟩ = some (.pointer (rpO p0)) := cell_of_row _ _ 1 _ _ _ HOA.out.arr
          cases p0 with
          | none =>
            replace x0 : wA.cell? ⟨P, 0, none⟩ = some (.pointer none) := x0
            clear x1
            go_wp2
            exact ⟨⟨k + 1, hlt, rfl, none, p1, K, HOA.out.up⟩, by simp [intOf]; omega⟩
          | some pr =>
            obtain ⟨D, R⟩ := pr
            replace x0 : wA.cell? ⟨P, 0, none⟩ = some (.pointer (some ⟨D.d, 0, none⟩)) := x0
            replace x1 : wA.cell? ⟨P, 1, none⟩ = some (.pointer (some ⟨R.r, 0, none⟩)) := x1
            obtain ⟨d, hd⟩ : ∃ d, D.d = d := ⟨_, rfl⟩
            obtain ⟨r, hr⟩ : ∃ r, R.r = r := ⟨_, rfl⟩
            rw [hd] at x0
            rw [hr] at x1
            have HD : Hid (D.d = d ∧ R.r = r) := ⟨hd, hr⟩
            clear hd hr
            have E1 := eql_ptr1
            by_cases h10 : kd = 10
            · subst h10
              have HIm : Hid (Calls Try.prog 7 #[.pointer (some ⟨r, 0, none⟩)] wA fun e w1 => ∃ a n c, e = .returned (.slice a n c) ∧ Below wA.heap.size wA w1 ∧ Calls Try.prog 6 #[.slice a n c] w1 fun e w2 => ∃ o, e = .returned (.tuple #[.agg #[.pointer (dpO (some o)), .pointer (rpO (some o))], .bool true]) ∧ PrO w2 (some o) 0 ∧ (∀ k, prB (some o) k → w1.heap.size ≤ k) ∧ Below w1.heap.size w1 w2) := by
                have := img_open (HOA.out.p0 _ rfl)
                rw [HD.out.2] at this
                exact this
              go_upto_region 24 with (first
                | (go_at_call 7; refine HIm.out.mono ?_; rintro e w7 ⟨ia, il, ic, rfl, h1, h2⟩; have H7 : Hid (Below wA.heap.size wA w7 ∧ Calls Try.prog 6 #[.slice ia il ic] w7 fun e w2 => ∃ o, e = .returned (.tuple #[.agg #[.pointer (dpO (some o)), .pointer (rpO (some o))], .bool true]) ∧ PrO w2 (some o) 0 ∧ (∀ k, prB (some o) k → w7.heap.size ≤ k) ∧ Below w7.heap.size w7 w2) := ⟨h1, h2⟩; clear h1 h2 x0 x1)
                | (go_at_call 6; refine H7.out.2.mono ?_; rintro e w8 ⟨o', rfl, h1, h2, h3⟩; have H8 : Hid (PrO w8 (some o') 0 ∧ (∀ k, prB (some o') k → w7.heap.size ≤ k) ∧ Below w7.heap.size w7 w8) := ⟨h1, h2, h3⟩; clear h1 h2 h3; have hq2 : (dpO (some o')).isNone = false := rfl; generalize hd2 : dpO (some o') = d2 at *; generalize hr2 : rpO (some o') = r2 at *; have HE2 : Hid (dpO (some o') = d2 ∧ rpO (some o') = r2) := ⟨hd2, hr2⟩; have E2 := eqlD d2 false hq2; clear hd2 hr2 hq2))
              obtain ⟨Q9, hQ9⟩ : ∃ Q9, w8.heap.size = Q9 := ⟨_, rfl⟩
              obtain ⟨w9, hw9⟩ : ∃ w9, w8.alloc (.cells #[.pointer d2, .pointer r2] 32) = w9 := ⟨_, rfl⟩
              have H9 : Hid (Below w8.heap.size w8 w9 ∧ w9.heap[Q9]? = some (.cells #[.pointer d2, .pointer r2] 32 (0, 0))) := by
                rw [← hw9, ← hQ9]; exact ⟨(Below.refl _ _).alloc (Nat.le_refl _) _, heap_alloc_new _ _⟩
              rw [hw9]
              try rw [hQ9]
              clear hw9 hQ9
              have HB9 : Hid (Below wA.heap.size wA w9) := H7.out.1.trans ((H8.out.2.2.trans (H9.out.1.mono H8.out.2.2.size)).mono H7.out.1.size)
              have HM9 : Hid (MS w ((w9.setCell ⟨P, 0, none⟩ (.pointer d2)).setCell ⟨P, 1, none⟩ (.pointer r2)) P (some o') p1 K kb (k + 1)) := by
                have := HOA.out.put0 HB9.out (o := some o') (H8.out.1.fr (below_fr H9.out.1 (fun _ => False)) (fun _ _ e => e)) (fun b e => Nat.le_trans H7.out.1.size (H8.out.2.1 b e))
                rw [HE2.out.1, HE2.out.2] at this
                exact this
              have ha9 := (below_fr HB9.out (fun _ => False)).heap HOA.out.arr (fun e => e)
              have y0 : w9.cell? ⟨Q9, 0, none⟩ = some (.pointer d2) := cell_of_row _ _ 0 _ _ _ H9.out.2
              have y1 : w9.cell? ⟨Q9, 1, none⟩ = some (.pointer r2) := cell_of_row _ _ 1 _ _ _ H9.out.2
              have y2 : w9.cell? ⟨P, 0, none⟩ = some (.pointer (some ⟨d, 0, none⟩)) := by rw [← HD.out.1]; exact cell_of_row _ _ 0 _ _ _ ha9
              have y3 : w9.cell? ⟨P, 1, none⟩ = some (.pointer (some ⟨r, 0, none⟩)) := by rw [← HD.out.2]; exact cell_of_row _ _ 1 _ _ _ ha9
              have z2 := frozen_of_row _ _ 0 _ _ ha9
              have z3 := frozen_of_row _ _ 1 _ _ ha9
              clear ha9 e0 e1 e2 e3 e4
              go_wp2
              exact ⟨⟨k + 1, hlt, rfl, some o', p1, K, HM9.out⟩, by simp [intOf]; omega⟩
            · have h10b : (kd == 10) = false := beq_eq_false_iff_ne.2 h10
              clear h10
              have HPl : Hid (Calls Try.prog 8 #[.agg #[.pointer (some ⟨d, 0, none⟩), .pointer (some ⟨r, 0, none⟩)], .agg #[.int .i64 kd, .bool false, .int .i64 N, .slice ba bn bc, .slice ka kn kc], .pointer (some ⟨kb, 0, none⟩)] wA.drew fun e w' => e = .returned (.bool true) ∧ ∃ D' R' K', MS w w' P (some (D', R')) p1 K' kb (k + 1)) := by
                have := (HOA.out.on (Below.refl wA.heap.size wA).drew).plays0 (by omega) HOk.out
                rw [HD.out.1, HD.out.2] at this
                exact this
              go_upto_region 27 with fail
              go_region_law (go_simp; go_at_call 8; refine HPl.out.mono ?_; rintro e w7 ⟨rfl, D', R', K', hM'⟩; have HM' : Hid (MS w w7 P (some (D', R')) p1 K' kb (k + 1)) := hM'; clear hM' x0 x1 e0 e1 e2 e3 e4)
              all_goals
                go_wp2
                exact ⟨⟨k + 1, hlt, rfl, some (D', R'), p1, K', HM'.out⟩, by simp [intOf]; omega⟩
        · have x0 : wA.cell? ⟨P, 2, none⟩ = some (.pointer (dpO p1)) := cell_of_row _ _ 2 _ _ _ HOA.out.arr
          have x1 : wA.cell? ⟨P, 3, none⟩ = some (.pointer (rpO p1)) := cell_of_row _ _ 3 _ _ _ HOA.out.arr
          cases p1 with
          | none =>
            replace x0 : wA.cell? ⟨P, 2, none⟩ = some (.pointer none) := x0
            clear x1
            go_wp2
            exact ⟨⟨k + 1, hlt, rfl, p0, none, K, HOA.out.up⟩, by simp [intOf]; omega⟩
          | some pr =>
            obtain ⟨D, R⟩ := pr
            replace x0 : wA.cell? ⟨P, 2, none⟩ = some (.pointer (some ⟨D.d, 0, none⟩)) := x0
            replace x1 : wA.cell? ⟨P, 3, none⟩ = some (.pointer (some ⟨R.r, 0, none⟩)) := x1
            obtain ⟨d, hd⟩ : ∃ d, D.d = d := ⟨_, rfl⟩
            obtain ⟨r, hr⟩ : ∃ r, R.r = r := ⟨_, rfl⟩
            rw [hd] at x0
            rw [hr] at x1
            have HD : Hid (D.d = d ∧ R.r = r) := ⟨hd, hr⟩
            clear hd hr
            have E1 := eql_ptr1
            by_cases h10 : kd = 10
            · subst h10
              have HIm : Hid (Calls Try.prog 7 #[.pointer (some ⟨r, 0, none⟩)] wA fun e w1 => ∃ a n c, e = .returned (.slice a n c) ∧ Below wA.heap.size wA w1 ∧ Calls Try.prog 6 #[.slice a n c] w1 fun e w2 => ∃ o, e = .returned (.tuple #[.agg #[.pointer (dpO (some o)), .pointer (rpO (some o))], .bool true]) ∧ PrO w2 (some o) 0 ∧ (∀ k, prB (some o) k → w1.heap.size ≤ k) ∧ Below w1.heap.size w1 w2) := by
                have := img_open (HOA.out.p1 _ rfl)
                rw [HD.out.2] at this
                exact this
              go_upto_region 24 with (first
                | (go_at_call 7; refine HIm.out.mono ?_; rintro e w7 ⟨ia, il, ic, rfl, h1, h2⟩; have H7 : Hid (Below wA.heap.size wA w7 ∧ Calls Try.prog 6 #[.slice ia il ic] w7 fun e w2 => ∃ o, e = .returned (.tuple #[.agg #[.pointer (dpO (some o)), .pointer (rpO (some o))], .bool true]) ∧ PrO w2 (some o) 0 ∧ (∀ k, prB (some o) k → w7.heap.size ≤ k) ∧ Below w7.heap.size w7 w2) := ⟨h1, h2⟩; clear h1 h2 x0 x1)
                | (go_at_call 6; refine H7.out.2.mono ?_; rintro e w8 ⟨o', rfl, h1, h2, h3⟩; have H8 : Hid (PrO w8 (some o') 0 ∧ (∀ k, prB (some o') k → w7.heap.size ≤ k) ∧ Below w7.heap.size w7 w8) := ⟨h1, h2, h3⟩; clear h1 h2 h3; have hq2 : (dpO (some o')).isNone = false := rfl; generalize hd2 : dpO (some o') = d2 at *; generalize hr2 : rpO (some o') = r2 at *; have HE2 : Hid (dpO (some o') = d2 ∧ rpO (some o') = r2) := ⟨hd2, hr2⟩; have E2 := eqlD d2 false hq2; clear hd2 hr2 hq2))
              obtain ⟨Q9, hQ9⟩ : ∃ Q9, w8.heap.size = Q9 := ⟨_, rfl⟩
              obtain ⟨w9, hw9⟩ : ∃ w9, w8.alloc (.cells #[.pointer d2, .pointer r2] 32) = w9 := ⟨_, rfl⟩
              have H9 : Hid (Below w8.heap.size w8 w9 ∧ w9.heap[Q9]? = some (.cells #[.pointer d2, .pointer r2] 32 (0, 0))) := by
                rw [← hw9, ← hQ9]; exact ⟨(Below.refl _ _).alloc (Nat.le_refl _) _, heap_alloc_new _ _⟩
              rw [hw9]
              try rw [hQ9]
              clear hw9 hQ9
              have HB9 : Hid (Below wA.heap.size wA w9) := H7.out.1.trans ((H8.out.2.2.trans (H9.out.1.mono H8.out.2.2.size)).mono H7.out.1.size)
              have HM9 : Hid (MS w ((w9.setCell ⟨P, 2, none⟩ (.pointer d2)).setCell ⟨P, 3, none⟩ (.pointer r2)) P p0 (some o') K kb (k + 1)) := by
                have := HOA.out.put1 HB9.out (o := some o') (H8.out.1.fr (below_fr H9.out.1 (fun _ => False)) (fun _ _ e => e)) (fun b e => Nat.le_trans H7.out.1.size (H8.out.2.1 b e))
                rw [HE2.out.1, HE2.out.2] at this
                exact this
              have ha9 := (below_fr HB9.out (fun _ => False)).heap HOA.out.arr (fun e => e)
              have y0 : w9.cell? ⟨Q9, 0, none⟩ = some (.pointer d2) := cell_of_row _ _ 0 _ _ _ H9.out.2
              have y1 : w9.cell? ⟨Q9, 1, none⟩ = some (.pointer r2) := cell_of_row _ _ 1 _ _ _ H9.out.2
              have y2 : w9.cell? ⟨P, 2, none⟩ = some (.pointer (some ⟨d, 0, none⟩)) := by rw [← HD.out.1]; exact cell_of_row _ _ 2 _ _ _ ha9
              have y3 : w9.cell? ⟨P, 3, none⟩ = some (.pointer (some ⟨r, 0, none⟩)) := by rw [← HD.out.2]; exact cell_of_row _ _ 3 _ _ _ ha9
              have z2 := frozen_of_row _ _ 2 _ _ ha9
              have z3 := frozen_of_row _ _ 3 _ _ ha9
              clear ha9 e0 e1 e2 e3 e4
              go_wp2
              exact ⟨⟨k + 1, hlt, rfl, p0, some o', K, HM9.out⟩, by simp [intOf]; omega⟩
            · have h10b : (kd == 10) = false := beq_eq_false_iff_ne.2 h10
              clear h10
              have HPl : Hid (Calls Try.prog 8 #[.agg #[.pointer (some ⟨d, 0, none⟩), .pointer (some ⟨r, 0, none⟩)], .agg #[.int .i64 kd, .bool true, .int .i64 N, .slice ba bn bc, .slice ka kn kc], .pointer (some ⟨kb, 0, none⟩)] wA.drew fun e w' => e = .returned (.bool true) ∧ ∃ D' R' K', MS w w' P p0 (some (D', R')) K' kb (k + 1)) := by
                have := (HOA.out.on (Below.refl wA.heap.size wA).drew).plays1 (by omega) HOk.out
                rw [HD.out.1, HD.out.2] at this
                exact this
              go_upto_region 27 with fail
              go_region_law (go_simp; go_at_call 8; refine HPl.out.mono ?_; rintro e w7 ⟨rfl, D', R', K', hM'⟩; have HM' : Hid (MS w w7 P p0 (some (D', R')) K' kb (k + 1)) := hM'; clear hM' x0 x1 e0 e1 e2 e3 e4)
              all_goals
                go_wp2
                exact ⟨⟨k + 1, hlt, rfl, p0, some (D', R'), K', HM'.out⟩, by simp [intOf]; omega⟩
      · have hkn : k = sl := by omega
        subst hkn
        go_wp2
        go_meet
        exact ⟨_, _, _, HO.out⟩
  case rest =>
    obtain ⟨q0, q1, K, hM⟩ := hcut
    obtain ⟨w7, hw7⟩ : ∃ w7, wc = w7 := ⟨_, rfl⟩
    rw [hw7] at hM ⊢
    clear hw7 HM
    have x0 : w7.cell? ⟨P, 0, none⟩ = some (.pointer (dpO q0)) := cell_of_row _ _ 0 _ _ _ hM.arr
    have x1 : w7.cell? ⟨P, 1, none⟩ = some (.pointer (rpO q0)) := cell_of_row _ _ 1 _ _ _ hM.arr
    have x2 : w7.cell? ⟨P, 2, none⟩ = some (.pointer (dpO q1)) := cell_of_row _ _ 2 _ _ _ hM.arr
    have x3 : w7.cell? ⟨P, 3, none⟩ = some (.pointer (rpO q1)) := cell_of_row _ _ 3 _ _ _ hM.arr
    obtain ⟨d0, hd0⟩ : ∃ d0, dpO q0 = d0 := ⟨_, rfl⟩
    obtain ⟨r0, hr0⟩ : ∃ r0, rpO q0 = r0 := ⟨_, rfl⟩
    obtain ⟨d1', hd1⟩ : ∃ d1, dpO q1 = d1 := ⟨_, rfl⟩
    obtain ⟨r1', hr1⟩ : ∃ r1, rpO q1 = r1 := ⟨_, rfl⟩
    rw [hd0] at x0
    rw [hr0] at x1
    rw [hd1] at x2
    rw [hr1] at x3
    have HQ : Hid (dpO q0 = d0 ∧ rpO q0 = r0 ∧ dpO q1 = d1' ∧ rpO q1 = r1') := ⟨hd0, hr0, hd1, hr1⟩
    have HE : Hid (ME w w7 q0 q1 K kb sl 0) := hM.end
    clear hM hd0 hr0 hd1 hr1
    go_upto_block 2 with (fail)
    clear x0 x1 x2 x3
    go_wp2
    go_loopw [21, 107, 108, 109, 110, 111, 112, 113, 114, 115, 116, 117, 118, 119, 120, 121, 122, 123, 124, 125, 126, 127, 128, 129, 130, 131, 132, 133, 134, 135, 136, 137] (fun _ i _ _ _ _ _ _ _ _ _ _ _ _ _ _ _ _ _ _ _ _ _ _ _ _ _ _ _ _ _ _ wr => ∃ k : Nat, k ≤ 2 ∧ i = .int .i64 k ∧ ∃ K, ME w wr q0 q1 K kb sl (3 * k)) (fun _ i _ _ _ _ _ _ _ _ _ _ _ _ _ _ _ _ _ _ _ _ _ _ _ _ _ _ _ _ _ _ _ => 2 - (intOf i).toNat)
    case atStart => exact ⟨0, Nat.zero_le _, rfl, _, HE.out⟩
    case round =>
      clear HE
      obtain ⟨k, hk, rfl, K', hM⟩ := hrel
      obtain ⟨wo, hwo⟩ : ∃ wo, wr = wo := ⟨_, rfl⟩
      rw [hwo] at hM ⊢
      clear hwo
      by_cases hk0 : k = 0
      · subst hk0
        have HO : Hid (ME w wo q0 q1 K' kb sl 0) := hM
        clear hM
        cases q0 with
        | none =>
          obtain rfl : d0 = none := HQ.out.1.symm
          obtain rfl : r0 = none := HQ.out.2.1.symm
          have HAl : Hid (∀ o, Below wo.heap.size wo (wo.alloc o)) := fun o => (Below.refl _ _).alloc (Nat.le_refl _) o
          have I0 := idxP0 wo none none d1' r1'
          go_wp2
          exact ⟨⟨0 + 1, by omega, rfl, K', (HO.out.on (HAl.out _)).mono (by omega)⟩, by simp [intOf]⟩
        | some pr =>
          obtain ⟨D, R⟩ := pr
          obtain rfl : d0 = some ⟨D.d, 0, none⟩ := HQ.out.1.symm
          obtain rfl : r0 = some ⟨R.r, 0, none⟩ := HQ.out.2.1.symm
          obtain ⟨PO, hPO⟩ : ∃ PO, wo.heap.size = PO := ⟨_, rfl⟩
          have I0 := idxP0 wo (some ⟨D.d, 0, none⟩) (some ⟨R.r, 0, none⟩) d1' r1'
          go_upto_region 33 with fail
          obtain ⟨wA, hwA⟩ : ∃ wA, wo.alloc (.cells #[.pointer (some ⟨D.d, 0, none⟩), .pointer (some ⟨R.r, 0, none⟩)] 32) = wA := ⟨_, rfl⟩
          have HA : Hid (MP w wA (some (D, R)) q1 K' kb sl 0 PO #[.pointer (some ⟨D.d, 0, none⟩), .pointer (some ⟨R.r, 0, none⟩)]) := by
            have hb : Below wo.heap.size wo wA := by rw [← hwA]; exact (Below.refl _ _).alloc (Nat.le_refl _) _
            refine ⟨HO.out.on hb, by rw [← hwA, ← hPO]; exact heap_alloc_new _ _, fun e => ?_⟩
            have := HO.out.k.lt e; omega
          try rw [hPO]
          rw [hwA]
          clear hwA hPO
          obtain ⟨x0, x1⟩ := HA.out.cells
          have E1 := eql_ptr1
          have TK0 : Hid True := trivial
          go_wp2_with (first
            | (go_at_call 9; have hh := TK0.out; clear hh; refine (HA.out.asks (.inl rfl)).mono ?_; rintro e w8 ⟨rfl, h8⟩; have HM8 : Hid (MP w w8 (some (D, R)) q1 K' kb sl 0 PO #[.pointer (some ⟨D.d, 0, none⟩), .pointer (some ⟨R.r, 0, none⟩)]) := h8; clear h8 x0 x1 TK0; obtain ⟨x0, x1⟩ := HM8.out.cells; have TK1 : Hid True := trivial)
            | (go_at_call 10; have hh := TK1.out; clear hh; refine (HM8.out.looks hsl (by omega) (.inl rfl) 6).mono ?_; rintro e w9 ⟨rfl, K9, h9⟩; have HM9 : Hid (MP w w9 (some (D, R)) q1 K9 kb sl 1 PO #[.pointer (some ⟨D.d, 0, none⟩), .pointer (some ⟨R.r, 0, none⟩)]) := h9; clear h9 x0 x1 TK1; obtain ⟨x0, x1⟩ := HM9.out.cells; have TK2 : Hid True := trivial)
            | (go_at_call 10; have hh := TK2.out; clear hh; refine (HM9.out.looks hsl (by omega) (.inl rfl) 8).mono ?_; rintro e w10 ⟨rfl, K10, h10⟩; have HM10 : Hid (MP w w10 (some (D, R)) q1 K10 kb sl 2 PO #[.pointer (some ⟨D.d, 0, none⟩), .pointer (some ⟨R.r, 0, none⟩)]) := h10; clear h10 x0 x1 TK2; obtain ⟨x0, x1⟩ := HM10.out.cells; have TK3 : Hid True := trivial)
            | (go_at_call 10; have hh := TK3.out; clear hh; refine (HM10.out.looks hsl (by omega) (.inl rfl) 9).mono ?_; rintro e w11 ⟨rfl, K11, h11⟩; have HM11 : Hid (MP w w11 (some (D, R)) q1 K11 kb sl 3 PO #[.pointer (some ⟨D.d, 0, none⟩), .pointer (some ⟨R.r, 0, none⟩)]) := h11; clear h11 x0 x1 TK3))
          exact ⟨⟨0 + 1, by omega, rfl, K11, HM11.out.e⟩, by simp [intOf]⟩
      by_cases hk1 : k = 1
      · subst hk1
        have HO : Hid (ME w wo q0 q1 K' kb sl 3) := hM
        clear hM
        cases q1 with
        | none =>
          obtain rfl : d1' = none := HQ.out.2.2.1.symm
          obtain rfl : r1' = none := HQ.out.2.2.2.symm
          have HAl : Hid (∀ o, Below wo.heap.size wo (wo.alloc o)) := fun o => (Below.refl _ _).alloc (Nat.le_refl _) o
          have I0 := idxP1 wo d0 r0 none none
          go_wp2
          exact ⟨⟨1 + 1, by omega, rfl, K', (HO.out.on (HAl.out _)).mono (by omega)⟩, by simp [intOf]⟩
        | some pr =>
          obtain ⟨D, R⟩ := pr
          obtain rfl : d1' = some ⟨D.d, 0, none⟩ := HQ.out.2.2.1.symm
          obtain rfl : r1' = some ⟨R.r, 0, none⟩ := HQ.out.2.2.2.symm
          obtain ⟨PO, hPO⟩ : ∃ PO, wo.heap.size = PO := ⟨_, rfl⟩
          have I0 := idxP1 wo d0 r0 (some ⟨D.d, 0, none⟩) (some ⟨R.r, 0, none⟩)
          go_upto_region 33 with fail
          obtain ⟨wA, hwA⟩ : ∃ wA, wo.alloc (.cells #[.pointer (some ⟨D.d, 0, none⟩), .pointer (some ⟨R.r, 0, none⟩)] 32) = wA := ⟨_, rfl⟩
          have HA : Hid (MP w wA q0 (some (D, R)) K' kb sl 3 PO #[.pointer (some ⟨D.d, 0, none⟩), .pointer (some ⟨R.r, 0, none⟩)]) := by
            have hb : Below wo.heap.size wo wA := by rw [← hwA]; exact (Below.refl _ _).alloc (Nat.le_refl _) _
            refine ⟨HO.out.on hb, by rw [← hwA, ← hPO]; exact heap_alloc_new _ _, fun e => ?_⟩
            have := HO.out.k.lt e; omega
          try rw [hPO]
          rw [hwA]
          clear hwA hPO
          obtain ⟨x0, x1⟩ := HA.out.cells
          have E1 := eql_ptr1
          have TK0 : Hid True := trivial
          go_wp2_with (first
            | (go_at_call 9; have hh := TK0.out; clear hh; refine (HA.out.asks (.inr rfl)).mono ?_; rintro e w8 ⟨rfl, h8⟩; have HM8 : Hid (MP w w8 q0 (some (D, R)) K' kb sl 3 PO #[.pointer (some ⟨D.d, 0, none⟩), .pointer (some ⟨R.r, 0, none⟩)]) := h8; clear h8 x0 x1 TK0; obtain ⟨x0, x1⟩ := HM8.out.cells; have TK1 : Hid True := trivial)
            | (go_at_call 10; have hh := TK1.out; clear hh; refine (HM8.out.looks hsl (by omega) (.inr rfl) 6).mono ?_; rintro e w9 ⟨rfl, K9, h9⟩; have HM9 : Hid (MP w w9 q0 (some (D, R)) K9 kb sl 4 PO #[.pointer (some ⟨D.d, 0, none⟩), .pointer (some ⟨R.r, 0, none⟩)]) := h9; clear h9 x0 x1 TK1; obtain ⟨x0, x1⟩ := HM9.out.cells; have TK2 : Hid True := trivial)
            | (go_at_call 10; have hh := TK2.out; clear hh; refine (HM9.out.looks hsl (by omega) (.inr rfl) 8).mono ?_; rintro e w10 ⟨rfl, K10, h10⟩; have HM10 : Hid (MP w w10 q0 (some (D, R)) K10 kb sl 5 PO #[.pointer (some ⟨D.d, 0, none⟩), .pointer (some ⟨R.r, 0, none⟩)]) := h10; clear h10 x0 x1 TK2; obtain ⟨x0, x1⟩ := HM10.out.cells; have TK3 : Hid True := trivial)
            | (go_at_call 10; have hh := TK3.out; clear hh; refine (HM10.out.looks hsl (by omega) (.inr rfl) 9).mono ?_; rintro e w11 ⟨rfl, K11, h11⟩; have HM11 : Hid (MP w w11 q0 (some (D, R)) K11 kb sl 6 PO #[.pointer (some ⟨D.d, 0, none⟩), .pointer (some ⟨R.r, 0, none⟩)]) := h11; clear h11 x0 x1 TK3))
          exact ⟨⟨1 + 1, by omega, rfl, K11, HM11.out.e⟩, by simp [intOf]⟩
      · have hk2 : k = 2 := by omega
        subst hk2
        have HO : Hid (ME w wo q0 q1 K' kb sl 6) := hM
        clear hM
        go_wp2_with (go_at_call 11; refine HO.out.holds.mono ?_; rintro e w8 ⟨rfl, h8⟩; have H8 : Hid (Below w.heap.size w w8) := h8; clear h8)
        go_ret
        exact ⟨rfl, H8.out⟩

end Go.Proofs.Ytipbflmonhlnjaa
