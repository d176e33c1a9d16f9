import Derived.Test.YtamlbpbhlgmcoaaGreatDoorWpO
namespace Go.Proofs.YtamlbpbhlgmcoaaGreatDoor
open Go.RowKit Rec
theorem WS.up {w0 w : World} {D : Dk} {R : RDk} {j j' : Nat} (h : WS w0 w D R j) (hj : j ≤ j') : WS w0 w D R j' := ⟨h.d, h.t.up hj, h.ap, h.new, h.be, h.kd⟩
theorem Pl.up {w0 w : World} {P : Nat} {D : Dk} {R : RDk} {j j' : Nat} {tv wv : Value} {B : List TB} (h : Pl w0 w P D R j tv wv B) (hj : j ≤ j') : Pl w0 w P D R j' tv wv B := ⟨h.s.up hj, h.box, h.pn, h.told, h.was, h.tn, h.wn, h.each, Nat.le_trans h.bl hj⟩
theorem keep_armA (a : AD) (t : Int) (K : List Bool) : (armA a t K).keep = a.keep ∨ (armA a t K).keep = K := by
  unfold armA
  split
  · exact .inl rfl
  · exact .inr rfl
theorem Bools.on0 {w0 w : World} {v : Value} {K : List Bool} (h : Bools w0 v K) (hb : Below w0.heap.size w0 w) : Bools w v K := h.on hb
set_option maxRecDepth 100000 in
set_option maxHeartbeats 8000000 in
theorem wstep4 (w0 w : World) (P : Nat) (D : Dk) (R : RDk) (j : Nat) (tv wv : Value) (B : List TB) (h : Pl w0 w P D R j tv wv B) (hT : TabAt w0) (hj : j + 200 ≤ 100000000) (la : Option Addr) (ln lc : Nat) (ot by_ : Int) (oa : Option Addr) (on_ oc : Nat) (ca : Int) (ka : Option Addr) (kn kc : Nat) :
    Calls Tryz.prog 8 #[.pointer (some ⟨P, 0, none⟩), .agg #[.int .i64 4, .slice la ln lc, .int .i64 ot, .int .u8 by_, .slice oa on_ oc, .int .i64 ca, .slice ka kn kc]] w (StP w0 P (j + 200)) := by
  have hnw : ∀ k, D.all k ∨ R.all k → k < w.heap.size := fun k e => h.s.lt e
  obtain ⟨d, hd⟩ : ∃ d, D.d = d := ⟨_, rfl⟩
  obtain ⟨r, hr⟩ : ∃ r, R.r = r := ⟨_, rfl⟩
  have HD : Hid (D.d = d ∧ R.r = r) := ⟨hd, hr⟩
  clear hd hr
  obtain ⟨P1, hP1⟩ : ∃ P1, w.heap.size = P1 := ⟨_, rfl⟩
  obtain ⟨wb, hwb⟩ : ∃ wb, w.alloc (.cells #[.int .i64 4, .slice la ln lc, .int .i64 ot, .int .u8 by_, .slice oa on_ oc, .int .i64 ca, .slice ka kn kc] 46) = wb := ⟨_, rfl⟩
  have hA1 : Below w.heap.size w wb := by rw [← hwb]; exact (Below.refl _ _).alloc (Nat.le_refl _) _
  have HPb : Hid (Pl w0 wb P D R j tv wv B) := h.on hA1
  have HT : Hid (∀ wx, Below w0.heap.size w0 wx → TabAt wx) := fun wx hx => hT.on hx
  have HC : Hid (∀ wx, Fr (fun k => D.all k ∨ R.all k) wb wx → (wx.cell? ⟨P, 0, none⟩ = some (.pointer (some ⟨d, 0, none⟩)) ∧ wx.cell? ⟨P, 1, none⟩ = some (.pointer (some ⟨r, 0, none⟩))) ∧ wx.cell? ⟨P1, 0, none⟩ = some (.int .i64 4) ∧ wx.cell? ⟨P1, 1, none⟩ = some (.slice la ln lc) ∧ wx.cell? ⟨P1, 2, none⟩ = some (.int .i64 ot) ∧ wx.cell? ⟨P1, 3, none⟩ = some (.int .u8 by_) ∧ wx.cell? ⟨P1, 4, none⟩ = some (.slice oa on_ oc) ∧ wx.cell? ⟨P1, 5, none⟩ = some (.int .i64 ca) ∧ wx.cell? ⟨P1, 6, none⟩ = some (.slice ka kn kc)) := fun wx hx => by
    have z2 : wb.heap[P1]? = some (.cells #[.int .i64 4, .slice la ln lc, .int .i64 ot, .int .u8 by_, .slice oa on_ oc, .int .i64 ca, .slice ka kn kc] 46 (0, 0)) := by rw [← hwb, ← hP1]; exact heap_alloc_new _ _
    have y1 := hx.heap HPb.out.box (fun e => e.elim h.pn.2.1 h.pn.2.2)
    rw [HD.out.1, HD.out.2] at y1
    have y2 := hx.heap z2 (fun e => by have := hnw _ e; omega)
    exact ⟨⟨cell_of_row _ _ 0 _ _ _ y1, cell_of_row _ _ 1 _ _ _ y1⟩, cell_of_row _ _ 0 _ _ _ y2, cell_of_row _ _ 1 _ _ _ y2, cell_of_row _ _ 2 _ _ _ y2, cell_of_row _ _ 3 _ _ _ y2, cell_of_row _ _ 4 _ _ _ y2, cell_of_row _ _ 5 _ _ _ y2, cell_of_row _ _ 6 _ _ _ y2⟩
  clear h hT hA1 hnw
  go_enter Tryz.func8, Tryz.ntmps8
  go_upto_region 1 with fail
  try rw [hP1]
  try rw [hwb]
  clear hwb hP1
  obtain ⟨⟨c0, c1⟩, c2, c3, c4, c5, c6, c7, c8⟩ := HC.out wb (Fr.refl _ _)
  have hF := (HPb.out.s.t).flush (by omega)
  rw [HD.out.2] at hF
  obtain ⟨E, hE⟩ : ∃ E, fE D.abs = E := ⟨_, rfl⟩
  rw [hE] at hF
  have HE : Hid (fE D.abs = E) := hE
  have HF : Hid (Calls Tryz.prog 32 #[.pointer (some ⟨r, 0, none⟩)] wb fun e w' => e = .returned (.int .i64 E) ∧ ∃ R', RM wb R w' (fA D.abs) R' (j + 1)) := hF
  clear hF hE
  go_upto_region 28 with (go_at_call 32; refine HF.out.mono ?_; rintro e w1 ⟨rfl, R', hM⟩; have H1 : Hid (RM wb R w1 (fA D.abs) R' (j + 1)) := hM; clear hM)
  clear c0 c1 c2 c3 c4 c5 c6 c7 c8
  obtain ⟨⟨c0, c1⟩, c2, c3, c4, c5, c6, c7, c8⟩ := HC.out w1 (H1.out.fr.mono (fun k e => .inr e))
  have hG := pd_flush w1 D (HPb.out.s.mid H1.out (Below.refl _ _)) (HPb.out.s.room (by omega))
  rw [HD.out.1, HE.out] at hG
  have HG : Hid (Calls Tryz.prog 33 #[.pointer (some ⟨d, 0, none⟩)] w1 fun e w' => e = .returned (.int .i64 E) ∧ ∃ D', Disk w' D' ∧ Mv w1 D w' D' ∧ Al w1.heap.size D D' ∧ D'.abs = fA D.abs) := hG
  clear hG
  go_wp2_with (go_at_call 33; refine HG.out.mono ?_; rintro e w2 ⟨rfl, D', h1, h2, h3, h4⟩; have H2 : Hid (WM w0 wb D R w2 D' R' (j + 1)) := ws_step HPb.out.s H1.out (Below.refl _ _) h1 h2 h3 h4 (by rw [← abs_keep, h4, keep_fA]; exact HPb.out.s.kd); clear h1 h2 h3 h4)
  go_ret
  have := HPb.out.wm H2.out
  exact ⟨rfl, D', R', _, _, _, this.up (by omega)⟩
end Go.Proofs.YtamlbpbhlgmcoaaGreatDoor
