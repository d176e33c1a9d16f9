import Derived.Test.YtamlbpbhlgmcoaaGreatDoorWpV
namespace Go.Proofs.YtamlbpbhlgmcoaaGreatDoor
open Go.RowKit Rec
set_option maxRecDepth 100000 in
set_option maxHeartbeats 8000000 in
theorem wstep2 (w0 w : World) (P : Nat) (D : Dk) (R : RDk) (j : Nat) (tv wv : Value) (B : List TB) (h : Pl w0 w P D R j tv wv B) (hT : TabAt w0) (hj : j + 200 ≤ 100000000) (la : Option Addr) (ln lc : Nat) (ot by_ : Int) (oa : Option Addr) (on_ oc : Nat) (ca : Int) (ka : Option Addr) (kn kc : Nat) :
    Calls Tryz.prog 8 #[.pointer (some ⟨P, 0, none⟩), .agg #[.int .i64 2, .slice la ln lc, .int .i64 ot, .int .u8 by_, .slice oa on_ oc, .int .i64 ca, .slice ka kn kc]] w (StP w0 P (j + 200)) := by
  have hnw : ∀ k, D.all k ∨ R.all k → k < w.heap.size := fun k e => h.s.lt e
  obtain ⟨d, hd⟩ : ∃ d, D.d = d := ⟨_, rfl⟩
  obtain ⟨r, hr⟩ : ∃ r, R.r = r := ⟨_, rfl⟩
  have HD : Hid (D.d = d ∧ R.r = r) := ⟨hd, hr⟩
  clear hd hr
  obtain ⟨P1, hP1⟩ : ∃ P1, w.heap.size = P1 := ⟨_, rfl⟩
  obtain ⟨wb, hwb⟩ : ∃ wb, w.alloc (.cells #[.int .i64 2, .slice la ln lc, .int .i64 ot, .int .u8 by_, .slice oa on_ oc, .int .i64 ca, .slice ka kn kc] 46) = wb := ⟨_, rfl⟩
  have hA1 : Below w.heap.size w wb := by rw [← hwb]; exact (Below.refl _ _).alloc (Nat.le_refl _) _
  have HPb : Hid (Pl w0 wb P D R j tv wv B) := h.on hA1
  have HT : Hid (∀ wx, Below w0.heap.size w0 wx → TabAt wx) := fun wx hx => hT.on hx
  have HC : Hid (∀ wx, Fr (fun k => D.all k ∨ R.all k) wb wx → (wx.cell? ⟨P, 0, none⟩ = some (.pointer (some ⟨d, 0, none⟩)) ∧ wx.cell? ⟨P, 1, none⟩ = some (.pointer (some ⟨r, 0, none⟩))) ∧ wx.cell? ⟨P1, 0, none⟩ = some (.int .i64 2) ∧ wx.cell? ⟨P1, 1, none⟩ = some (.slice la ln lc) ∧ wx.cell? ⟨P1, 2, none⟩ = some (.int .i64 ot) ∧ wx.cell? ⟨P1, 3, none⟩ = some (.int .u8 by_) ∧ wx.cell? ⟨P1, 4, none⟩ = some (.slice oa on_ oc) ∧ wx.cell? ⟨P1, 5, none⟩ = some (.int .i64 ca) ∧ wx.cell? ⟨P1, 6, none⟩ = some (.slice ka kn kc)) := fun wx hx => by
    have z2 : wb.heap[P1]? = some (.cells #[.int .i64 2, .slice la ln lc, .int .i64 ot, .int .u8 by_, .slice oa on_ oc, .int .i64 ca, .slice ka kn kc] 46 (0, 0)) := by rw [← hwb, ← hP1]; exact heap_alloc_new _ _
    have y1 := hx.heap HPb.out.box (fun e => e.elim h.pn.2.1 h.pn.2.2)
    rw [HD.out.1, HD.out.2] at y1
    have y2 := hx.heap z2 (fun e => by have := hnw _ e; omega)
    exact ⟨⟨cell_of_row _ _ 0 _ _ _ y1, cell_of_row _ _ 1 _ _ _ y1⟩, cell_of_row _ _ 0 _ _ _ y2, cell_of_row _ _ 1 _ _ _ y2, cell_of_row _ _ 2 _ _ _ y2, cell_of_row _ _ 3 _ _ _ y2, cell_of_row _ _ 4 _ _ _ y2, cell_of_row _ _ 5 _ _ _ y2, cell_of_row _ _ 6 _ _ _ y2⟩
  have HBh : Hid (Calls Tryz.prog 29 #[.pointer (some ⟨P, 0, none⟩)] wb (StP w0 P (j + 1))) := wbehind_any w0 wb P D R j tv wv B HPb.out hT hj
  clear h hT hA1 hnw
  go_enter Tryz.func8, Tryz.ntmps8
  go_upto_region 1 with fail
  try rw [hP1]
  try rw [hwb]
  clear hwb hP1
  obtain ⟨⟨c0, c1⟩, c2, c3, c4, c5, c6, c7, c8⟩ := HC.out wb (Fr.refl _ _)
  go_wp2_with (go_at_call 29; refine HBh.out.mono ?_; rintro e w1 ⟨rfl, hE⟩; have H1 : Hid (∃ D' R' tv' wv' B', Pl w0 w1 P D' R' (j + 1) tv' wv' B') := hE; clear hE)
  go_ret
  obtain ⟨D', R', tv', wv', B', hE⟩ := H1.out
  exact ⟨rfl, D', R', tv', wv', B', hE.up (by omega)⟩
set_option maxRecDepth 100000 in
set_option maxHeartbeats 8000000 in
theorem wstep7 (w0 w : World) (P : Nat) (D : Dk) (R : RDk) (j : Nat) (tv wv : Value) (B : List TB) (h : Pl w0 w P D R j tv wv B) (hT : TabAt w0) (_hj : j + 200 ≤ 100000000) (la : Option Addr) (ln lc : Nat) (ot by_ : Int) (oa : Option Addr) (on_ oc : Nat) (ca : Int) (ka : Option Addr) (kn kc : Nat) :
    Calls Tryz.prog 8 #[.pointer (some ⟨P, 0, none⟩), .agg #[.int .i64 7, .slice la ln lc, .int .i64 ot, .int .u8 by_, .slice oa on_ oc, .int .i64 ca, .slice ka kn kc]] w (StP w0 P (j + 200)) := by
  have hnw : ∀ k, D.all k ∨ R.all k → k < w.heap.size := fun k e => h.s.lt e
  obtain ⟨d, hd⟩ : ∃ d, D.d = d := ⟨_, rfl⟩
  obtain ⟨r, hr⟩ : ∃ r, R.r = r := ⟨_, rfl⟩
  have HD : Hid (D.d = d ∧ R.r = r) := ⟨hd, hr⟩
  clear hd hr
  obtain ⟨P1, hP1⟩ : ∃ P1, w.heap.size = P1 := ⟨_, rfl⟩
  obtain ⟨wb, hwb⟩ : ∃ wb, w.alloc (.cells #[.int .i64 7, .slice la ln lc, .int .i64 ot, .int .u8 by_, .slice oa on_ oc, .int .i64 ca, .slice ka kn kc] 46) = wb := ⟨_, rfl⟩
  have hA1 : Below w.heap.size w wb := by rw [← hwb]; exact (Below.refl _ _).alloc (Nat.le_refl _) _
  have HPb : Hid (Pl w0 wb P D R j tv wv B) := h.on hA1
  have HT : Hid (∀ wx, Below w0.heap.size w0 wx → TabAt wx) := fun wx hx => hT.on hx
  have HC : Hid (∀ wx, Fr (fun k => D.all k ∨ R.all k) wb wx → (wx.cell? ⟨P, 0, none⟩ = some (.pointer (some ⟨d, 0, none⟩)) ∧ wx.cell? ⟨P, 1, none⟩ = some (.pointer (some ⟨r, 0, none⟩))) ∧ wx.cell? ⟨P1, 0, none⟩ = some (.int .i64 7) ∧ wx.cell? ⟨P1, 1, none⟩ = some (.slice la ln lc) ∧ wx.cell? ⟨P1, 2, none⟩ = some (.int .i64 ot) ∧ wx.cell? ⟨P1, 3, none⟩ = some (.int .u8 by_) ∧ wx.cell? ⟨P1, 4, none⟩ = some (.slice oa on_ oc) ∧ wx.cell? ⟨P1, 5, none⟩ = some (.int .i64 ca) ∧ wx.cell? ⟨P1, 6, none⟩ = some (.slice ka kn kc)) := fun wx hx => by
    have z2 : wb.heap[P1]? = some (.cells #[.int .i64 7, .slice la ln lc, .int .i64 ot, .int .u8 by_, .slice oa on_ oc, .int .i64 ca, .slice ka kn kc] 46 (0, 0)) := by rw [← hwb, ← hP1]; exact heap_alloc_new _ _
    have y1 := hx.heap HPb.out.box (fun e => e.elim h.pn.2.1 h.pn.2.2)
    rw [HD.out.1, HD.out.2] at y1
    have y2 := hx.heap z2 (fun e => by have := hnw _ e; omega)
    exact ⟨⟨cell_of_row _ _ 0 _ _ _ y1, cell_of_row _ _ 1 _ _ _ y1⟩, cell_of_row _ _ 0 _ _ _ y2, cell_of_row _ _ 1 _ _ _ y2, cell_of_row _ _ 2 _ _ _ y2, cell_of_row _ _ 3 _ _ _ y2, cell_of_row _ _ 4 _ _ _ y2, cell_of_row _ _ 5 _ _ _ y2, cell_of_row _ _ 6 _ _ _ y2⟩
  have HBh : Hid (Calls Tryz.prog 38 #[.pointer (some ⟨P, 0, none⟩)] wb (StP w0 P (j + 1))) := wagain_any w0 wb P D R j tv wv B HPb.out
  clear h hT hA1 hnw
  go_enter Tryz.func8, Tryz.ntmps8
  go_upto_region 1 with fail
  try rw [hP1]
  try rw [hwb]
  clear hwb hP1
  obtain ⟨⟨c0, c1⟩, c2, c3, c4, c5, c6, c7, c8⟩ := HC.out wb (Fr.refl _ _)
  go_wp2_with (go_at_call 38; refine HBh.out.mono ?_; rintro e w1 ⟨rfl, hE⟩; have H1 : Hid (∃ D' R' tv' wv' B', Pl w0 w1 P D' R' (j + 1) tv' wv' B') := hE; clear hE)
  go_ret
  obtain ⟨D', R', tv', wv', B', hE⟩ := H1.out
  exact ⟨rfl, D', R', tv', wv', B', hE.up (by omega)⟩
end Go.Proofs.YtamlbpbhlgmcoaaGreatDoor
