import Derived.Test.YtamlbpbhlgmcoaaGreatDoorWpP
namespace Go.Proofs.YtamlbpbhlgmcoaaGreatDoor
open Go.RowKit Rec
set_option maxRecDepth 100000 in
set_option maxHeartbeats 8000000 in
theorem wstep3 (w0 w : World) (P : Nat) (D : Dk) (R : RDk) (j : Nat) (tv wv : Value) (B : List TB) (h : Pl w0 w P D R j tv wv B) (hT : TabAt w0) (hj : j + 200 ≤ 100000000) (la : Option Addr) (ln lc : Nat) (ot by_ : Int) (oa : Option Addr) (on_ oc : Nat) (ca : Int) (ka : Option Addr) (kn kc : Nat) (hby : 0 ≤ by_ ∧ by_ < 256) (O : List Int) (hO : Bytes w0 oa O) (hOn : O.length = on_) :
    Calls Tryz.prog 8 #[.pointer (some ⟨P, 0, none⟩), .agg #[.int .i64 3, .slice la ln lc, .int .i64 ot, .int .u8 by_, .slice oa on_ oc, .int .i64 ca, .slice ka kn kc]] w (StP w0 P (j + 200)) := by
  have hnw : ∀ k, D.all k ∨ R.all k → k < w.heap.size := fun k e => h.s.lt e
  obtain ⟨d, hd⟩ : ∃ d, D.d = d := ⟨_, rfl⟩
  obtain ⟨r, hr⟩ : ∃ r, R.r = r := ⟨_, rfl⟩
  have HD : Hid (D.d = d ∧ R.r = r) := ⟨hd, hr⟩
  clear hd hr
  obtain ⟨P1, hP1⟩ : ∃ P1, w.heap.size = P1 := ⟨_, rfl⟩
  obtain ⟨wb, hwb⟩ : ∃ wb, w.alloc (.cells #[.int .i64 3, .slice la ln lc, .int .i64 ot, .int .u8 by_, .slice oa on_ oc, .int .i64 ca, .slice ka kn kc] 46) = wb := ⟨_, rfl⟩
  have hA1 : Below w.heap.size w wb := by rw [← hwb]; exact (Below.refl _ _).alloc (Nat.le_refl _) _
  have HPb : Hid (Pl w0 wb P D R j tv wv B) := h.on hA1
  have HT : Hid (∀ wx, Below w0.heap.size w0 wx → TabAt wx) := fun wx hx => hT.on hx
  have HC : Hid (∀ wx, Fr (fun k => D.all k ∨ R.all k) wb wx → (wx.cell? ⟨P, 0, none⟩ = some (.pointer (some ⟨d, 0, none⟩)) ∧ wx.cell? ⟨P, 1, none⟩ = some (.pointer (some ⟨r, 0, none⟩))) ∧ wx.cell? ⟨P1, 0, none⟩ = some (.int .i64 3) ∧ wx.cell? ⟨P1, 1, none⟩ = some (.slice la ln lc) ∧ wx.cell? ⟨P1, 2, none⟩ = some (.int .i64 ot) ∧ wx.cell? ⟨P1, 3, none⟩ = some (.int .u8 by_) ∧ wx.cell? ⟨P1, 4, none⟩ = some (.slice oa on_ oc) ∧ wx.cell? ⟨P1, 5, none⟩ = some (.int .i64 ca) ∧ wx.cell? ⟨P1, 6, none⟩ = some (.slice ka kn kc)) := fun wx hx => by
    have z2 : wb.heap[P1]? = some (.cells #[.int .i64 3, .slice la ln lc, .int .i64 ot, .int .u8 by_, .slice oa on_ oc, .int .i64 ca, .slice ka kn kc] 46 (0, 0)) := by rw [← hwb, ← hP1]; exact heap_alloc_new _ _
    have y1 := hx.heap HPb.out.box (fun e => e.elim h.pn.2.1 h.pn.2.2)
    rw [HD.out.1, HD.out.2] at y1
    have y2 := hx.heap z2 (fun e => by have := hnw _ e; omega)
    exact ⟨⟨cell_of_row _ _ 0 _ _ _ y1, cell_of_row _ _ 1 _ _ _ y1⟩, cell_of_row _ _ 0 _ _ _ y2, cell_of_row _ _ 1 _ _ _ y2, cell_of_row _ _ 2 _ _ _ y2, cell_of_row _ _ 3 _ _ _ y2, cell_of_row _ _ 4 _ _ _ y2, cell_of_row _ _ 5 _ _ _ y2, cell_of_row _ _ 6 _ _ _ y2⟩
  have HO : Hid (∀ wx, Below w0.heap.size w0 wx → Calls Tryz.prog 18 #[.slice oa on_ oc, .int .u8 by_] wx fun e w' => ∃ g cap, e = .returned (.slice (some ⟨g, 0, none⟩) 512 cap) ∧ OwnB w' g cap (blkOf O by_ 512) ∧ wx.heap.size ≤ g ∧ Below wx.heap.size wx w') := fun wx hx => wblock_any wx oa on_ oc O by_ (hO.on hx) hOn hby
  obtain ⟨l, hl⟩ : ∃ l, blkOf O by_ 512 = l := ⟨_, rfl⟩
  rw [hl] at HO
  have HLl : Hid (l.length = 512) := (by rw [← hl]; exact blkOf_length _ _ _)
  clear hO hOn hby hl
  clear h hT hA1 hnw
  go_enter Tryz.func8, Tryz.ntmps8
  go_upto_region 1 with fail
  try rw [hP1]
  try rw [hwb]
  clear hwb hP1
  obtain ⟨⟨c0, c1⟩, c2, c3, c4, c5, c6, c7, c8⟩ := HC.out wb (Fr.refl _ _)
  have HOb : Hid (Calls Tryz.prog 18 #[.slice oa on_ oc, .int .u8 by_] wb fun e w' => ∃ g cap, e = .returned (.slice (some ⟨g, 0, none⟩) 512 cap) ∧ OwnB w' g cap l ∧ wb.heap.size ≤ g ∧ Below wb.heap.size wb w') := HO.out wb HPb.out.s.be
  go_upto_region 24 with (go_at_call 18; refine HOb.out.mono ?_; rintro e w1 ⟨g, cap, rfl, h1, h2, h3⟩; have H1 : Hid (OwnB w1 g cap l ∧ wb.heap.size ≤ g ∧ Below wb.heap.size wb w1) := ⟨h1, h2, h3⟩; clear h1 h2 h3)
  clear c0 c1 c2 c3 c4 c5 c6 c7 c8
  have HBd : Hid (Below wb.heap.size wb w1.drew) := H1.out.2.2.trans ((Below.refl w1.heap.size w1).drew.mono H1.out.2.2.size)
  have HPd : Hid (Pl w0 w1.drew P D R j tv wv B) := HPb.out.on HBd.out
  have hF := HPd.out.s.t.write (by omega) ot (some ⟨g, 0, none⟩) 512 cap l (H1.out.1.on (Below.refl _ _).drew).bytes HLl.out (by omega)
  rw [HD.out.2] at hF
  obtain ⟨E, hE⟩ : ∃ E, wE D.abs ot 512 = E := ⟨_, rfl⟩
  rw [hE] at hF
  have HE : Hid (wE D.abs ot 512 = E) := hE
  have HF : Hid (Calls Tryz.prog 30 #[.pointer (some ⟨r, 0, none⟩), .int .i64 ot, .slice (some ⟨g, 0, none⟩) 512 cap] w1.drew fun e w' => e = .returned (.int .i64 E) ∧ ∃ R', RM w1.drew R w' (wA D.abs ot l) R' (j + 1)) := hF
  clear hF hE
  have HS0 : Hid ((w1.drew.cell? ⟨P, 0, none⟩ = some (.pointer (some ⟨d, 0, none⟩)) ∧ w1.drew.cell? ⟨P, 1, none⟩ = some (.pointer (some ⟨r, 0, none⟩))) ∧ w1.drew.cell? ⟨P1, 0, none⟩ = some (.int .i64 3) ∧ w1.drew.cell? ⟨P1, 1, none⟩ = some (.slice la ln lc) ∧ w1.drew.cell? ⟨P1, 2, none⟩ = some (.int .i64 ot) ∧ w1.drew.cell? ⟨P1, 3, none⟩ = some (.int .u8 by_) ∧ w1.drew.cell? ⟨P1, 4, none⟩ = some (.slice oa on_ oc) ∧ w1.drew.cell? ⟨P1, 5, none⟩ = some (.int .i64 ca) ∧ w1.drew.cell? ⟨P1, 6, none⟩ = some (.slice ka kn kc)) := HC.out w1.drew (below_fr HBd.out _)
  go_region_held3 (fun w' => (w'.cell? ⟨P, 0, none⟩ = some (.pointer (some ⟨d, 0, none⟩)) ∧ w'.cell? ⟨P, 1, none⟩ = some (.pointer (some ⟨r, 0, none⟩))) ∧ w'.cell? ⟨P1, 0, none⟩ = some (.int .i64 3) ∧ w'.cell? ⟨P1, 1, none⟩ = some (.slice la ln lc) ∧ w'.cell? ⟨P1, 2, none⟩ = some (.int .i64 ot) ∧ w'.cell? ⟨P1, 3, none⟩ = some (.int .u8 by_) ∧ w'.cell? ⟨P1, 4, none⟩ = some (.slice oa on_ oc) ∧ w'.cell? ⟨P1, 5, none⟩ = some (.int .i64 ca) ∧ w'.cell? ⟨P1, 6, none⟩ = some (.slice ka kn kc)) (first | exact HS0.out | exact HS1.out) (first
    | (go_at_call 30; refine HF.out.mono ?_; rintro e w2 ⟨rfl, R', hM⟩; have H2 : Hid (RM w1.drew R w2 (wA D.abs ot l) R' (j + 1)) := hM; have HS1 : Hid ((w2.cell? ⟨P, 0, none⟩ = some (.pointer (some ⟨d, 0, none⟩)) ∧ w2.cell? ⟨P, 1, none⟩ = some (.pointer (some ⟨r, 0, none⟩))) ∧ w2.cell? ⟨P1, 0, none⟩ = some (.int .i64 3) ∧ w2.cell? ⟨P1, 1, none⟩ = some (.slice la ln lc) ∧ w2.cell? ⟨P1, 2, none⟩ = some (.int .i64 ot) ∧ w2.cell? ⟨P1, 3, none⟩ = some (.int .u8 by_) ∧ w2.cell? ⟨P1, 4, none⟩ = some (.slice oa on_ oc) ∧ w2.cell? ⟨P1, 5, none⟩ = some (.int .i64 ca) ∧ w2.cell? ⟨P1, 6, none⟩ = some (.slice ka kn kc)) := HC.out w2 ((below_fr HBd.out _).trans (hM.fr.mono (fun k e => .inr e)) (fun k e => .inl e)); clear hM))
  have hG := pd_write w2.drew D (HPd.out.s.mid H2.out (Below.refl _ _).drew) (HPd.out.s.room (by omega)) ot (some ⟨g, 0, none⟩) 512 cap l ((bytes_frE (H1.out.1.on (Below.refl _ _).drew).bytes H2.out.fr (fun _ p e e2 => by cases e; have h1 := HPb.out.s.t.r.lt e2; have := H1.out.2.1; simp only at h1; omega)).on (Below.refl _ _).drew) HLl.out (fun _ p e e2 => by cases e; have h1 := HPb.out.s.d.ltAll (Dk.hasAll e2); have := H1.out.2.1; simp only at h1; omega)
  rw [HD.out.1, HE.out] at hG
  have HG : Hid (Calls Tryz.prog 31 #[.pointer (some ⟨d, 0, none⟩), .int .i64 ot, .slice (some ⟨g, 0, none⟩) 512 cap] w2.drew fun e w' => e = .returned (.int .i64 E) ∧ ∃ D', Disk w' D' ∧ Mv w2.drew D w' D' ∧ Al w2.drew.heap.size D D' ∧ D'.abs = wA D.abs ot l) := hG
  clear hG
  go_upto_region 25 with fail
  have HS2 : Hid ((w2.drew.cell? ⟨P, 0, none⟩ = some (.pointer (some ⟨d, 0, none⟩)) ∧ w2.drew.cell? ⟨P, 1, none⟩ = some (.pointer (some ⟨r, 0, none⟩))) ∧ w2.drew.cell? ⟨P1, 0, none⟩ = some (.int .i64 3) ∧ w2.drew.cell? ⟨P1, 1, none⟩ = some (.slice la ln lc) ∧ w2.drew.cell? ⟨P1, 2, none⟩ = some (.int .i64 ot) ∧ w2.drew.cell? ⟨P1, 3, none⟩ = some (.int .u8 by_) ∧ w2.drew.cell? ⟨P1, 4, none⟩ = some (.slice oa on_ oc) ∧ w2.drew.cell? ⟨P1, 5, none⟩ = some (.int .i64 ca) ∧ w2.drew.cell? ⟨P1, 6, none⟩ = some (.slice ka kn kc)) := HC.out w2.drew (((below_fr HBd.out _).trans (H2.out.fr.mono (fun k e => .inr e)) (fun k e => .inl e)).trans (below_fr (Below.refl w2.heap.size w2).drew _) (fun k e => .inl e))
  go_region_held3 (fun w' => (w'.cell? ⟨P, 0, none⟩ = some (.pointer (some ⟨d, 0, none⟩)) ∧ w'.cell? ⟨P, 1, none⟩ = some (.pointer (some ⟨r, 0, none⟩))) ∧ w'.cell? ⟨P1, 0, none⟩ = some (.int .i64 3) ∧ w'.cell? ⟨P1, 1, none⟩ = some (.slice la ln lc) ∧ w'.cell? ⟨P1, 2, none⟩ = some (.int .i64 ot) ∧ w'.cell? ⟨P1, 3, none⟩ = some (.int .u8 by_) ∧ w'.cell? ⟨P1, 4, none⟩ = some (.slice oa on_ oc) ∧ w'.cell? ⟨P1, 5, none⟩ = some (.int .i64 ca) ∧ w'.cell? ⟨P1, 6, none⟩ = some (.slice ka kn kc)) (first | exact HS2.out | exact HS3.out) (first
    | (go_at_call 31; refine HG.out.mono ?_; rintro e w3 ⟨rfl, D', h1, h2, h3, h4⟩; have H3 : Hid (WM w0 w1.drew D R w3 D' R' (j + 1)) := ws_step HPd.out.s H2.out (Below.refl _ _).drew h1 h2 h3 h4 (by rw [← abs_keep, h4, keep_wA]; exact HPd.out.s.kd); have HS3 : Hid ((w3.cell? ⟨P, 0, none⟩ = some (.pointer (some ⟨d, 0, none⟩)) ∧ w3.cell? ⟨P, 1, none⟩ = some (.pointer (some ⟨r, 0, none⟩))) ∧ w3.cell? ⟨P1, 0, none⟩ = some (.int .i64 3) ∧ w3.cell? ⟨P1, 1, none⟩ = some (.slice la ln lc) ∧ w3.cell? ⟨P1, 2, none⟩ = some (.int .i64 ot) ∧ w3.cell? ⟨P1, 3, none⟩ = some (.int .u8 by_) ∧ w3.cell? ⟨P1, 4, none⟩ = some (.slice oa on_ oc) ∧ w3.cell? ⟨P1, 5, none⟩ = some (.int .i64 ca) ∧ w3.cell? ⟨P1, 6, none⟩ = some (.slice ka kn kc)) := HC.out w3 ((below_fr HBd.out _).trans H3.out.fr (fun k e => .inl e)); clear h1 h2 h3 h4))
  all_goals
    go_wp2
    go_ret
    have := HPd.out.wm H3.out
    exact ⟨rfl, D', R', _, _, _, this.up (by omega)⟩
end Go.Proofs.YtamlbpbhlgmcoaaGreatDoor
