import Derived.Test.YtipbflmonhlnjaaPoB
namespace Go.Proofs.Ytipbflmonhlnjaa
open Go.RowKit Rec

set_option maxRecDepth 100000 in
set_option maxHeartbeats 4000000 in
theorem looks_pending (w : World) (D : Dk) (R : RDk) (j : Nat) (h : Pr w D R j) (K : Bk) (hK : BkI w K) (hj : j ≤ 10000000) (hn : K.bn + 2 * j + 2 ≤ 1000000000000) (hm : K.im + 2 ≤ 1000000000000) (ha : K.am + 2 ≤ 1000000000000) (tw : Bool) (N : Int) (ba : Option Addr) (bn bc : Nat) (ka : Option Addr) (kn kc : Nat) :
    Calls Try.prog 10 #[.agg #[.pointer (some ⟨D.d, 0, none⟩), .pointer (some ⟨R.r, 0, none⟩)], .agg #[.int .i64 8, .bool tw, .int .i64 N, .slice ba bn bc, .slice ka kn kc], .pointer (some ⟨K.kb, 0, none⟩)] w fun e w' => e = .returned (.bool true) ∧ LkP w K j w' := by
  have hU := And.intro hj (And.intro hn (And.intro hm ha))
  clear hU
  have HX : Hid (Pr w D R j ∧ BkI w K) := ⟨h, hK⟩
  obtain ⟨d, hd⟩ : ∃ d, D.d = d := ⟨_, rfl⟩
  obtain ⟨r, hr⟩ : ∃ r, R.r = r := ⟨_, rfl⟩
  obtain ⟨kb, hkb⟩ : ∃ kb, K.kb = kb := ⟨_, rfl⟩
  rw [hd, hr, hkb]
  have HD : Hid (D.d = d ∧ R.r = r ∧ K.kb = kb) := ⟨hd, hr, hkb⟩
  clear h hK hd hr hkb
  obtain ⟨P0, hP0⟩ : ∃ P0, w.heap.size = P0 := ⟨_, rfl⟩
  obtain ⟨wa, hwa⟩ : ∃ wa, w.alloc (.cells #[.pointer (some ⟨d, 0, none⟩), .pointer (some ⟨r, 0, none⟩)] 32) = wa := ⟨_, rfl⟩
  obtain ⟨P1, hP1⟩ : ∃ P1, wa.heap.size = P1 := ⟨_, rfl⟩
  obtain ⟨wb, hwb⟩ : ∃ wb, wa.alloc (.cells #[.int .i64 8, .bool tw, .int .i64 N, .slice ba bn bc, .slice ka kn kc] 44) = wb := ⟨_, rfl⟩
  have hA1 : Below w.heap.size w wa := by rw [← hwa]; exact (Below.refl _ _).alloc (Nat.le_refl _) _
  have hA2 : Below wa.heap.size wa wb := by rw [← hwb]; exact (Below.refl _ _).alloc (Nat.le_refl _) _
  have HB : Hid (Below w.heap.size w wb) := hA1.trans (hA2.mono hA1.size)
  have HC : Hid (∀ wx, Below wb.heap.size wb wx → wx.cell? ⟨P0, 0, none⟩ = some (.pointer (some ⟨d, 0, none⟩)) ∧ wx.cell? ⟨P0, 1, none⟩ = some (.pointer (some ⟨r, 0, none⟩)) ∧ wx.cell? ⟨P1, 0, none⟩ = some (.int .i64 8) ∧ wx.cell? ⟨P1, 2, none⟩ = some (.int .i64 N)) := fun wx hx => by
    have z1 : wa.heap[P0]? = some (.cells #[.pointer (some ⟨d, 0, none⟩), .pointer (some ⟨r, 0, none⟩)] 32 (0, 0)) := by rw [← hwa, ← hP0]; exact heap_alloc_new _ _
    have z2 : wb.heap[P1]? = some (.cells #[.int .i64 8, .bool tw, .int .i64 N, .slice ba bn bc, .slice ka kn kc] 44 (0, 0)) := by rw [← hwb, ← hP1]; exact heap_alloc_new _ _
    have y1 := (below_fr hx (fun _ => False)).heap ((below_fr hA2 (fun _ => False)).heap z1 (fun e => e)) (fun e => e)
    have y2 := (below_fr hx (fun _ => False)).heap z2 (fun e => e)
    exact ⟨cell_of_row _ _ 0 _ _ _ y1, cell_of_row _ _ 1 _ _ _ y1, cell_of_row _ _ 0 _ _ _ y2, cell_of_row _ _ 2 _ _ _ y2⟩
  clear hA1 hA2
  go_enter Try.func10, Try.ntmps10
  go_upto_region 1 with fail
  try rw [hP0]
  try rw [hwa]
  try rw [hP1]
  try rw [hwb]
  clear hwa hwb hP0 hP1
  obtain ⟨c0, c1, c2, c3⟩ := HC.out wb (Below.refl _ _)
  obtain ⟨x, hx, hR1, hR2⟩ := ppending HX.out.1
  rw [HD.out.1] at hR1
  rw [HD.out.2.1] at hR2
  have HR1 : Hid (∀ wx, Below w.heap.size w wx → Calls Try.prog 37 #[.pointer (some ⟨d, 0, none⟩)] wx fun e w1 => ∃ v, e = .returned v ∧ w1.ownsRow 0 3 1 v x.length (x.map (Value.int .i64)) ∧ (∀ k, v.ownBlock = some k → wx.heap.size ≤ k) ∧ Below wx.heap.size wx w1) := hR1
  have HR2 : Hid (∀ wx, Below w.heap.size w wx → Calls Try.prog 38 #[.pointer (some ⟨r, 0, none⟩)] wx fun e w1 => ∃ v, e = .returned v ∧ w1.ownsRow 0 3 1 v x.length (x.map (Value.int .i64)) ∧ (∀ k, v.ownBlock = some k → wx.heap.size ≤ k) ∧ Below wx.heap.size wx w1) := hR2
  clear hR1 hR2
  go_upto_region 20 with (go_at_call 37; refine (HR1.out wb HB.out).mono ?_; rintro e w1 ⟨v, rfl, hv, hg, hb1⟩; obtain ⟨a1, e1, rfl, _⟩ := owns_slice hv; have V1 : Hid (w1.ownsRow 0 3 1 (.slice a1 x.length e1) x.length (x.map (Value.int .i64)) ∧ (∀ k, (Value.slice a1 x.length e1).ownBlock = some k → wb.heap.size ≤ k) ∧ Below wb.heap.size wb w1) := ⟨hv, hg, hb1⟩; clear hv hg hb1 c0 c1 c2 c3; obtain ⟨c0, c1, c2, c3⟩ := HC.out w1 V1.out.2.2)
  have HB1 : Hid (Below w.heap.size w w1) := HB.out.trans (V1.out.2.2.mono HB.out.size)
  go_upto_region 21 with (go_at_call 37; refine (HR1.out w1 HB1.out).mono ?_; rintro e w2 ⟨v, rfl, hv, hg, hb1⟩; obtain ⟨a2, e2, rfl, _⟩ := owns_slice hv; have V2 : Hid (w2.ownsRow 0 3 1 (.slice a2 x.length e2) x.length (x.map (Value.int .i64)) ∧ (∀ k, (Value.slice a2 x.length e2).ownBlock = some k → w1.heap.size ≤ k) ∧ Below w1.heap.size w1 w2) := ⟨hv, hg, hb1⟩; clear hv hg hb1 c0 c1 c2 c3; obtain ⟨c0, c1, c2, c3⟩ := HC.out w2 (V1.out.2.2.trans (V2.out.2.2.mono V1.out.2.2.size)))
  have HB2 : Hid (Below w.heap.size w w2) := HB1.out.trans (V2.out.2.2.mono HB1.out.size)
  go_upto_region 22 with (go_at_call 38; refine (HR2.out w2 HB2.out).mono ?_; rintro e w3 ⟨v, rfl, hv, hg, hb1⟩; obtain ⟨a3, e3, rfl, _⟩ := owns_slice hv; have V3 : Hid (w3.ownsRow 0 3 1 (.slice a3 x.length e3) x.length (x.map (Value.int .i64)) ∧ (∀ k, (Value.slice a3 x.length e3).ownBlock = some k → w2.heap.size ≤ k) ∧ Below w2.heap.size w2 w3) := ⟨hv, hg, hb1⟩; clear hv hg hb1 c0 c1 c2 c3)
  have HO : Hid (w3.ownsRow 0 3 1 (.slice a1 x.length e1) x.length (x.map (Value.int .i64)) ∧ w3.ownsRow 0 3 1 (.slice a2 x.length e2) x.length (x.map (Value.int .i64)) ∧ Below w.heap.size w w3) :=
    ⟨owns_fr (owns_fr V1.out.1 (below_fr V2.out.2.2 (fun _ => False)) (fun _ _ e => e)) (below_fr V3.out.2.2 (fun _ => False)) (fun _ _ e => e), owns_fr V2.out.1 (below_fr V3.out.2.2 (fun _ => False)) (fun _ _ e => e), HB2.out.trans (V3.out.2.2.mono HB2.out.size)⟩
  clear HR1 HR2
  have TK1 : Hid True := trivial
  go_upto_region 24 with (first
    | (go_at_call 39; have hh := TK1.out; clear hh; refine (sameI_any w3 _ _ _ x HO.out.1 V3.out.1 (by omega)).mono ?_; rintro e w4 ⟨rfl, m4, hm4⟩; have H4 : Hid (Below w3.heap.size w3 w4) := (by rw [hm4]; exact below_drewN (Below.refl _ _) _); clear hm4 TK1)
    | (go_at_call 39; refine (sameI_any w4 _ _ _ x (owns_fr HO.out.2.1 (below_fr H4.out (fun _ => False)) (fun _ _ e => e)) (owns_fr V3.out.1 (below_fr H4.out (fun _ => False)) (fun _ _ e => e)) (by omega)).mono ?_; rintro e w5 ⟨rfl, m5, hm5⟩; have H5 : Hid (Below w4.heap.size w4 w5) := (by rw [hm5]; exact below_drewN (Below.refl _ _) _); clear hm5))
  have HB5 : Hid (Below w3.heap.size w3 w5) := H4.out.trans (H5.out.mono H4.out.size)
  have HT : Hid (Calls Try.prog 40 #[.pointer (some ⟨kb, 0, none⟩), .slice a1 x.length e1] w5 fun e w1 => e = .returned (.tuple #[]) ∧ Calls Try.prog 40 #[.pointer (some ⟨kb, 0, none⟩), .slice a2 x.length e2] w1 fun e w2 => e = .returned (.tuple #[]) ∧ LkP w K j w2) := by
    have := two_ints (j := j) HX.out.2 (HO.out.2.2.trans (HB5.out.mono HO.out.2.2.size)) (owns_fr HO.out.1 (below_fr HB5.out (fun _ => False)) (fun _ _ e => e)) (owns_fr HO.out.2.1 (below_fr HB5.out (fun _ => False)) (fun _ _ e => e)) (by omega) (fun k e => Nat.le_trans HB.out.size (V1.out.2.1 k e)) (fun k e => ⟨Nat.le_trans HB1.out.size (V2.out.2.1 k e), fun e2 => by have := owns_block V1.out.1 e2; have := V2.out.2.1 k e; omega⟩) (by omega)
    rw [HD.out.2.2] at this
    exact this
  go_upto_region 25 with (go_at_call 40; refine HT.out.mono ?_; rintro e w6 ⟨rfl, h4⟩; have HT2 : Hid (Calls Try.prog 40 #[.pointer (some ⟨kb, 0, none⟩), .slice a2 x.length e2] w6 fun e w2 => e = .returned (.tuple #[]) ∧ LkP w K j w2) := h4; clear h4)
  go_wp2_with (go_at_call 40; refine HT2.out.mono ?_; rintro e w7 ⟨rfl, h5⟩; have HE : Hid (LkP w K j w7) := h5; clear h5)
  go_ret
  exact ⟨rfl, HE.out⟩
end Go.Proofs.Ytipbflmonhlnjaa
