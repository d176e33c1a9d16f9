import Derived.Test.YtamlbpbhlgmcoaaGreatDoorWpP
namespace Go.Proofs.YtamlbpbhlgmcoaaGreatDoor
open Go.RowKit Rec
set_option maxRecDepth 100000 in
set_option maxHeartbeats 8000000 in
theorem wstep5 (w0 w : World) (P : Nat) (D : Dk) (R : RDk) (j : Nat) (tv wv : Value) (B : List TB) (h : Pl w0 w P D R j tv wv B) (hT : TabAt w0) (_hj : j + 200 ≤ 100000000) (la : Option Addr) (ln lc : Nat) (ot by_ : Int) (oa : Option Addr) (on_ oc : Nat) (ca : Int) (ka : Option Addr) (kn kc : Nat) (hca : ca ≤ 9223372036854775807) (K : List Bool) (hk : Bools w0 (.slice ka kn kc) K) (hkn : K.length = kn) (hk0 : ka = none → kc = 0) (hK : kn ≤ 140737488351232) :
    Calls Tryz.prog 8 #[.pointer (some ⟨P, 0, none⟩), .agg #[.int .i64 5, .slice la ln lc, .int .i64 ot, .int .u8 by_, .slice oa on_ oc, .int .i64 ca, .slice ka kn kc]] w (StP w0 P (j + 200)) := by
  have hnw : ∀ k, D.all k ∨ R.all k → k < w.heap.size := fun k e => h.s.lt e
  obtain ⟨d, hd⟩ : ∃ d, D.d = d := ⟨_, rfl⟩
  obtain ⟨r, hr⟩ : ∃ r, R.r = r := ⟨_, rfl⟩
  have HD : Hid (D.d = d ∧ R.r = r) := ⟨hd, hr⟩
  clear hd hr
  obtain ⟨P1, hP1⟩ : ∃ P1, w.heap.size = P1 := ⟨_, rfl⟩
  obtain ⟨wb, hwb⟩ : ∃ wb, w.alloc (.cells #[.int .i64 5, .slice la ln lc, .int .i64 ot, .int .u8 by_, .slice oa on_ oc, .int .i64 ca, .slice ka kn kc] 46) = wb := ⟨_, rfl⟩
  have hA1 : Below w.heap.size w wb := by rw [← hwb]; exact (Below.refl _ _).alloc (Nat.le_refl _) _
  have HPb : Hid (Pl w0 wb P D R j tv wv B) := h.on hA1
  have HT : Hid (∀ wx, Below w0.heap.size w0 wx → TabAt wx) := fun wx hx => hT.on hx
  have HC : Hid (∀ wx, Fr (fun k => D.all k ∨ R.all k) wb wx → (wx.cell? ⟨P, 0, none⟩ = some (.pointer (some ⟨d, 0, none⟩)) ∧ wx.cell? ⟨P, 1, none⟩ = some (.pointer (some ⟨r, 0, none⟩))) ∧ wx.cell? ⟨P1, 0, none⟩ = some (.int .i64 5) ∧ wx.cell? ⟨P1, 1, none⟩ = some (.slice la ln lc) ∧ wx.cell? ⟨P1, 2, none⟩ = some (.int .i64 ot) ∧ wx.cell? ⟨P1, 3, none⟩ = some (.int .u8 by_) ∧ wx.cell? ⟨P1, 4, none⟩ = some (.slice oa on_ oc) ∧ wx.cell? ⟨P1, 5, none⟩ = some (.int .i64 ca) ∧ wx.cell? ⟨P1, 6, none⟩ = some (.slice ka kn kc)) := fun wx hx => by
    have z2 : wb.heap[P1]? = some (.cells #[.int .i64 5, .slice la ln lc, .int .i64 ot, .int .u8 by_, .slice oa on_ oc, .int .i64 ca, .slice ka kn kc] 46 (0, 0)) := by rw [← hwb, ← hP1]; exact heap_alloc_new _ _
    have y1 := hx.heap HPb.out.box (fun e => e.elim h.pn.2.1 h.pn.2.2)
    rw [HD.out.1, HD.out.2] at y1
    have y2 := hx.heap z2 (fun e => by have := hnw _ e; omega)
    exact ⟨⟨cell_of_row _ _ 0 _ _ _ y1, cell_of_row _ _ 1 _ _ _ y1⟩, cell_of_row _ _ 0 _ _ _ y2, cell_of_row _ _ 1 _ _ _ y2, cell_of_row _ _ 2 _ _ _ y2, cell_of_row _ _ 3 _ _ _ y2, cell_of_row _ _ 4 _ _ _ y2, cell_of_row _ _ 5 _ _ _ y2, cell_of_row _ _ 6 _ _ _ y2⟩
  have HK : Hid (Bools w0 (.slice ka kn kc) K ∧ K.length = kn ∧ (ka = none → kc = 0)) := ⟨hk, hkn, hk0⟩
  have HKa : Hid (K ≠ [] → ∀ b off, ka = some ⟨b, off, none⟩ → b < w0.heap.size) := fun hne b off e => by
    obtain ⟨a', c', e1, e2⟩ := hk
    cases e1
    rcases e2 with e2 | ⟨b', off', e3, hc⟩
    · exact absurd e2 hne
    · rw [e] at e3; cases e3
      cases K with
      | nil => exact absurd rfl hne
      | cons x xs => exact block_lt_of_cell (hc 0 x rfl)
  clear hk hkn hk0
  clear h hT hA1 hnw
  go_enter Tryz.func8, Tryz.ntmps8
  go_upto_region 1 with fail
  try rw [hP1]
  try rw [hwb]
  clear hwb hP1
  obtain ⟨⟨c0, c1⟩, c2, c3, c4, c5, c6, c7, c8⟩ := HC.out wb (Fr.refl _ _)
  have HPd : Hid (Pl w0 wb.drew P D R j tv wv B) := HPb.out.on (Below.refl _ _).drew
  obtain ⟨E, hE⟩ : ∃ E, armE D.abs = E := ⟨_, rfl⟩
  have hF := HPd.out.s.t.arm ca hca ka kn kc K (HK.out.1.on0 HPd.out.s.be) HK.out.2.1 hK (fun hne b off e e2 => by have := HKa.out hne b off e; have := HPd.out.s.new b (.inr e2); omega)
  rw [HD.out.2, hE] at hF
  have HE : Hid (armE D.abs = E) := hE
  have HF : Hid (Calls Tryz.prog 34 #[.pointer (some ⟨r, 0, none⟩), .agg #[.int .i64 ca, .slice ka kn kc]] wb.drew fun e w' => e = .returned (.int .i64 E) ∧ ∃ R', RM wb.drew R w' (armA D.abs ca K) R' j) := hF
  clear hF hE
  go_upto_region 30 with fail
  clear c0 c1 c2 c3 c4 c5 c6 c7 c8
  have HS0 : Hid ((wb.drew.cell? ⟨P, 0, none⟩ = some (.pointer (some ⟨d, 0, none⟩)) ∧ wb.drew.cell? ⟨P, 1, none⟩ = some (.pointer (some ⟨r, 0, none⟩))) ∧ wb.drew.cell? ⟨P1, 0, none⟩ = some (.int .i64 5) ∧ wb.drew.cell? ⟨P1, 1, none⟩ = some (.slice la ln lc) ∧ wb.drew.cell? ⟨P1, 2, none⟩ = some (.int .i64 ot) ∧ wb.drew.cell? ⟨P1, 3, none⟩ = some (.int .u8 by_) ∧ wb.drew.cell? ⟨P1, 4, none⟩ = some (.slice oa on_ oc) ∧ wb.drew.cell? ⟨P1, 5, none⟩ = some (.int .i64 ca) ∧ wb.drew.cell? ⟨P1, 6, none⟩ = some (.slice ka kn kc)) := HC.out wb.drew (below_fr (Below.refl wb.heap.size wb).drew _)
  go_region_held3 (fun w' => (w'.cell? ⟨P, 0, none⟩ = some (.pointer (some ⟨d, 0, none⟩)) ∧ w'.cell? ⟨P, 1, none⟩ = some (.pointer (some ⟨r, 0, none⟩))) ∧ w'.cell? ⟨P1, 0, none⟩ = some (.int .i64 5) ∧ w'.cell? ⟨P1, 1, none⟩ = some (.slice la ln lc) ∧ w'.cell? ⟨P1, 2, none⟩ = some (.int .i64 ot) ∧ w'.cell? ⟨P1, 3, none⟩ = some (.int .u8 by_) ∧ w'.cell? ⟨P1, 4, none⟩ = some (.slice oa on_ oc) ∧ w'.cell? ⟨P1, 5, none⟩ = some (.int .i64 ca) ∧ w'.cell? ⟨P1, 6, none⟩ = some (.slice ka kn kc)) (first | exact HS0.out | exact HS1.out) (first
    | (go_at_call 34; refine HF.out.mono ?_; rintro e w1 ⟨rfl, R', hM⟩; have H1 : Hid (RM wb.drew R w1 (armA D.abs ca K) R' j) := hM; have HS1 : Hid ((w1.cell? ⟨P, 0, none⟩ = some (.pointer (some ⟨d, 0, none⟩)) ∧ w1.cell? ⟨P, 1, none⟩ = some (.pointer (some ⟨r, 0, none⟩))) ∧ w1.cell? ⟨P1, 0, none⟩ = some (.int .i64 5) ∧ w1.cell? ⟨P1, 1, none⟩ = some (.slice la ln lc) ∧ w1.cell? ⟨P1, 2, none⟩ = some (.int .i64 ot) ∧ w1.cell? ⟨P1, 3, none⟩ = some (.int .u8 by_) ∧ w1.cell? ⟨P1, 4, none⟩ = some (.slice oa on_ oc) ∧ w1.cell? ⟨P1, 5, none⟩ = some (.int .i64 ca) ∧ w1.cell? ⟨P1, 6, none⟩ = some (.slice ka kn kc)) := HC.out w1 ((below_fr (Below.refl wb.heap.size wb).drew _).trans (hM.fr.mono (fun k e => .inr e)) (fun k e => .inl e)); clear hM))
  have hG := pd_arm w1.drew D (HPd.out.s.mid H1.out (Below.refl _ _).drew) ca hca ka kn kc K (HK.out.1.on0 (HPd.out.s.be.trans ((H1.out.fr.below _ (fun k e => HPd.out.s.new k (.inr e)) HPd.out.s.be.size).trans ((Below.refl w1.heap.size w1).drew.mono (Nat.le_trans HPd.out.s.be.size H1.out.fr.size))))) HK.out.2.1 HK.out.2.2 hK
  rw [HD.out.1, HE.out] at hG
  have HG : Hid (Calls Tryz.prog 35 #[.pointer (some ⟨d, 0, none⟩), .agg #[.int .i64 ca, .slice ka kn kc]] w1.drew fun e w' => e = .returned (.int .i64 E) ∧ ∃ D', Disk w' D' ∧ Mv w1.drew D w' D' ∧ Al w1.drew.heap.size D D' ∧ D'.abs = (armA D.abs ca K)) := hG
  clear hG
  have HKB : Hid ((armA D.abs ca K).keep.length ≤ 1000000000000000) := by
    rcases keep_armA D.abs ca K with e | e
    · rw [e]; exact HPd.out.s.kd
    · rw [e, HK.out.2.1]; show kn ≤ 1000000000000000; omega
  go_upto_region 31 with fail
  have HS2 : Hid ((w1.drew.cell? ⟨P, 0, none⟩ = some (.pointer (some ⟨d, 0, none⟩)) ∧ w1.drew.cell? ⟨P, 1, none⟩ = some (.pointer (some ⟨r, 0, none⟩))) ∧ w1.drew.cell? ⟨P1, 0, none⟩ = some (.int .i64 5) ∧ w1.drew.cell? ⟨P1, 1, none⟩ = some (.slice la ln lc) ∧ w1.drew.cell? ⟨P1, 2, none⟩ = some (.int .i64 ot) ∧ w1.drew.cell? ⟨P1, 3, none⟩ = some (.int .u8 by_) ∧ w1.drew.cell? ⟨P1, 4, none⟩ = some (.slice oa on_ oc) ∧ w1.drew.cell? ⟨P1, 5, none⟩ = some (.int .i64 ca) ∧ w1.drew.cell? ⟨P1, 6, none⟩ = some (.slice ka kn kc)) := HC.out w1.drew (((below_fr (Below.refl wb.heap.size wb).drew _).trans (H1.out.fr.mono (fun k e => .inr e)) (fun k e => .inl e)).trans (below_fr (Below.refl w1.heap.size w1).drew _) (fun k e => .inl e))
  go_region_held3 (fun w' => (w'.cell? ⟨P, 0, none⟩ = some (.pointer (some ⟨d, 0, none⟩)) ∧ w'.cell? ⟨P, 1, none⟩ = some (.pointer (some ⟨r, 0, none⟩))) ∧ w'.cell? ⟨P1, 0, none⟩ = some (.int .i64 5) ∧ w'.cell? ⟨P1, 1, none⟩ = some (.slice la ln lc) ∧ w'.cell? ⟨P1, 2, none⟩ = some (.int .i64 ot) ∧ w'.cell? ⟨P1, 3, none⟩ = some (.int .u8 by_) ∧ w'.cell? ⟨P1, 4, none⟩ = some (.slice oa on_ oc) ∧ w'.cell? ⟨P1, 5, none⟩ = some (.int .i64 ca) ∧ w'.cell? ⟨P1, 6, none⟩ = some (.slice ka kn kc)) (first | exact HS2.out | exact HS3.out) (first
    | (go_at_call 35; refine HG.out.mono ?_; rintro e w2 ⟨rfl, D', h1, h2, h3, h4⟩; have H2 : Hid (WM w0 wb.drew D R w2 D' R' j) := ws_step HPd.out.s H1.out (Below.refl _ _).drew h1 h2 h3 h4 (by rw [← abs_keep, h4]; exact HKB.out); have HS3 : Hid ((w2.cell? ⟨P, 0, none⟩ = some (.pointer (some ⟨d, 0, none⟩)) ∧ w2.cell? ⟨P, 1, none⟩ = some (.pointer (some ⟨r, 0, none⟩))) ∧ w2.cell? ⟨P1, 0, none⟩ = some (.int .i64 5) ∧ w2.cell? ⟨P1, 1, none⟩ = some (.slice la ln lc) ∧ w2.cell? ⟨P1, 2, none⟩ = some (.int .i64 ot) ∧ w2.cell? ⟨P1, 3, none⟩ = some (.int .u8 by_) ∧ w2.cell? ⟨P1, 4, none⟩ = some (.slice oa on_ oc) ∧ w2.cell? ⟨P1, 5, none⟩ = some (.int .i64 ca) ∧ w2.cell? ⟨P1, 6, none⟩ = some (.slice ka kn kc)) := HC.out w2 ((below_fr (Below.refl wb.heap.size wb).drew _).trans H2.out.fr (fun k e => .inl e)); clear h1 h2 h3 h4))
  go_wp2
  go_ret
  have := HPd.out.wm H2.out
  exact ⟨rfl, D', R', _, _, _, this.up (by omega)⟩
set_option maxRecDepth 100000 in
set_option maxHeartbeats 8000000 in
theorem wstep6 (w0 w : World) (P : Nat) (D : Dk) (R : RDk) (j : Nat) (tv wv : Value) (B : List TB) (h : Pl w0 w P D R j tv wv B) (hT : TabAt w0) (_hj : j + 200 ≤ 100000000) (la : Option Addr) (ln lc : Nat) (ot by_ : Int) (oa : Option Addr) (on_ oc : Nat) (ca : Int) (ka : Option Addr) (kn kc : Nat) (_hca : ca ≤ 9223372036854775807) (K : List Bool) (hk : Bools w0 (.slice ka kn kc) K) (hkn : K.length = kn) (hk0 : ka = none → kc = 0) (hK : kn ≤ 140737488351232) :
    Calls Tryz.prog 8 #[.pointer (some ⟨P, 0, none⟩), .agg #[.int .i64 6, .slice la ln lc, .int .i64 ot, .int .u8 by_, .slice oa on_ oc, .int .i64 ca, .slice ka kn kc]] w (StP w0 P (j + 200)) := by
  have hnw : ∀ k, D.all k ∨ R.all k → k < w.heap.size := fun k e => h.s.lt e
  obtain ⟨d, hd⟩ : ∃ d, D.d = d := ⟨_, rfl⟩
  obtain ⟨r, hr⟩ : ∃ r, R.r = r := ⟨_, rfl⟩
  have HD : Hid (D.d = d ∧ R.r = r) := ⟨hd, hr⟩
  clear hd hr
  obtain ⟨P1, hP1⟩ : ∃ P1, w.heap.size = P1 := ⟨_, rfl⟩
  obtain ⟨wb, hwb⟩ : ∃ wb, w.alloc (.cells #[.int .i64 6, .slice la ln lc, .int .i64 ot, .int .u8 by_, .slice oa on_ oc, .int .i64 ca, .slice ka kn kc] 46) = wb := ⟨_, rfl⟩
  have hA1 : Below w.heap.size w wb := by rw [← hwb]; exact (Below.refl _ _).alloc (Nat.le_refl _) _
  have HPb : Hid (Pl w0 wb P D R j tv wv B) := h.on hA1
  have HT : Hid (∀ wx, Below w0.heap.size w0 wx → TabAt wx) := fun wx hx => hT.on hx
  have HC : Hid (∀ wx, Fr (fun k => D.all k ∨ R.all k) wb wx → (wx.cell? ⟨P, 0, none⟩ = some (.pointer (some ⟨d, 0, none⟩)) ∧ wx.cell? ⟨P, 1, none⟩ = some (.pointer (some ⟨r, 0, none⟩))) ∧ wx.cell? ⟨P1, 0, none⟩ = some (.int .i64 6) ∧ wx.cell? ⟨P1, 1, none⟩ = some (.slice la ln lc) ∧ wx.cell? ⟨P1, 2, none⟩ = some (.int .i64 ot) ∧ wx.cell? ⟨P1, 3, none⟩ = some (.int .u8 by_) ∧ wx.cell? ⟨P1, 4, none⟩ = some (.slice oa on_ oc) ∧ wx.cell? ⟨P1, 5, none⟩ = some (.int .i64 ca) ∧ wx.cell? ⟨P1, 6, none⟩ = some (.slice ka kn kc)) := fun wx hx => by
    have z2 : wb.heap[P1]? = some (.cells #[.int .i64 6, .slice la ln lc, .int .i64 ot, .int .u8 by_, .slice oa on_ oc, .int .i64 ca, .slice ka kn kc] 46 (0, 0)) := by rw [← hwb, ← hP1]; exact heap_alloc_new _ _
    have y1 := hx.heap HPb.out.box (fun e => e.elim h.pn.2.1 h.pn.2.2)
    rw [HD.out.1, HD.out.2] at y1
    have y2 := hx.heap z2 (fun e => by have := hnw _ e; omega)
    exact ⟨⟨cell_of_row _ _ 0 _ _ _ y1, cell_of_row _ _ 1 _ _ _ y1⟩, cell_of_row _ _ 0 _ _ _ y2, cell_of_row _ _ 1 _ _ _ y2, cell_of_row _ _ 2 _ _ _ y2, cell_of_row _ _ 3 _ _ _ y2, cell_of_row _ _ 4 _ _ _ y2, cell_of_row _ _ 5 _ _ _ y2, cell_of_row _ _ 6 _ _ _ y2⟩
  have HK : Hid (Bools w0 (.slice ka kn kc) K ∧ K.length = kn ∧ (ka = none → kc = 0)) := ⟨hk, hkn, hk0⟩
  have HKa : Hid (K ≠ [] → ∀ b off, ka = some ⟨b, off, none⟩ → b < w0.heap.size) := fun hne b off e => by
    obtain ⟨a', c', e1, e2⟩ := hk
    cases e1
    rcases e2 with e2 | ⟨b', off', e3, hc⟩
    · exact absurd e2 hne
    · rw [e] at e3; cases e3
      cases K with
      | nil => exact absurd rfl hne
      | cons x xs => exact block_lt_of_cell (hc 0 x rfl)
  clear hk hkn hk0
  clear h hT hA1 hnw
  go_enter Tryz.func8, Tryz.ntmps8
  go_upto_region 1 with fail
  try rw [hP1]
  try rw [hwb]
  clear hwb hP1
  obtain ⟨⟨c0, c1⟩, c2, c3, c4, c5, c6, c7, c8⟩ := HC.out wb (Fr.refl _ _)
  have HPd : Hid (Pl w0 wb.drew P D R j tv wv B) := HPb.out.on (Below.refl _ _).drew
  have hF := HPd.out.s.t.crash ka kn kc K (HK.out.1.on0 HPd.out.s.be) HK.out.2.1 hK (fun hne b off e e2 => by have := HKa.out hne b off e; have := HPd.out.s.new b (.inr e2); omega)
  rw [HD.out.2] at hF
  have HF : Hid (Calls Tryz.prog 36 #[.pointer (some ⟨r, 0, none⟩), .slice ka kn kc] wb.drew fun e w' => e = .returned (.tuple #[]) ∧ ∃ R', RM wb.drew R w' (D.abs.cut (kpOf K)) R' j) := hF
  clear hF
  go_upto_region 33 with fail
  clear c0 c1 c2 c3 c4 c5 c6 c7 c8
  have HS0 : Hid ((wb.drew.cell? ⟨P, 0, none⟩ = some (.pointer (some ⟨d, 0, none⟩)) ∧ wb.drew.cell? ⟨P, 1, none⟩ = some (.pointer (some ⟨r, 0, none⟩))) ∧ wb.drew.cell? ⟨P1, 0, none⟩ = some (.int .i64 6) ∧ wb.drew.cell? ⟨P1, 1, none⟩ = some (.slice la ln lc) ∧ wb.drew.cell? ⟨P1, 2, none⟩ = some (.int .i64 ot) ∧ wb.drew.cell? ⟨P1, 3, none⟩ = some (.int .u8 by_) ∧ wb.drew.cell? ⟨P1, 4, none⟩ = some (.slice oa on_ oc) ∧ wb.drew.cell? ⟨P1, 5, none⟩ = some (.int .i64 ca) ∧ wb.drew.cell? ⟨P1, 6, none⟩ = some (.slice ka kn kc)) := HC.out wb.drew (below_fr (Below.refl wb.heap.size wb).drew _)
  go_region_held3 (fun w' => (w'.cell? ⟨P, 0, none⟩ = some (.pointer (some ⟨d, 0, none⟩)) ∧ w'.cell? ⟨P, 1, none⟩ = some (.pointer (some ⟨r, 0, none⟩))) ∧ w'.cell? ⟨P1, 0, none⟩ = some (.int .i64 6) ∧ w'.cell? ⟨P1, 1, none⟩ = some (.slice la ln lc) ∧ w'.cell? ⟨P1, 2, none⟩ = some (.int .i64 ot) ∧ w'.cell? ⟨P1, 3, none⟩ = some (.int .u8 by_) ∧ w'.cell? ⟨P1, 4, none⟩ = some (.slice oa on_ oc) ∧ w'.cell? ⟨P1, 5, none⟩ = some (.int .i64 ca) ∧ w'.cell? ⟨P1, 6, none⟩ = some (.slice ka kn kc)) (first | exact HS0.out | exact HS1.out) (first
    | (go_at_call 36; refine HF.out.mono ?_; rintro e w1 ⟨rfl, R', hM⟩; have H1 : Hid (RM wb.drew R w1 (D.abs.cut (kpOf K)) R' j) := hM; have HS1 : Hid ((w1.cell? ⟨P, 0, none⟩ = some (.pointer (some ⟨d, 0, none⟩)) ∧ w1.cell? ⟨P, 1, none⟩ = some (.pointer (some ⟨r, 0, none⟩))) ∧ w1.cell? ⟨P1, 0, none⟩ = some (.int .i64 6) ∧ w1.cell? ⟨P1, 1, none⟩ = some (.slice la ln lc) ∧ w1.cell? ⟨P1, 2, none⟩ = some (.int .i64 ot) ∧ w1.cell? ⟨P1, 3, none⟩ = some (.int .u8 by_) ∧ w1.cell? ⟨P1, 4, none⟩ = some (.slice oa on_ oc) ∧ w1.cell? ⟨P1, 5, none⟩ = some (.int .i64 ca) ∧ w1.cell? ⟨P1, 6, none⟩ = some (.slice ka kn kc)) := HC.out w1 ((below_fr (Below.refl wb.heap.size wb).drew _).trans (hM.fr.mono (fun k e => .inr e)) (fun k e => .inl e)); clear hM))
  have hG := pd_crash w1.drew D (HPd.out.s.mid H1.out (Below.refl _ _).drew) ka kn kc K (HK.out.1.on0 (HPd.out.s.be.trans ((H1.out.fr.below _ (fun k e => HPd.out.s.new k (.inr e)) HPd.out.s.be.size).trans ((Below.refl w1.heap.size w1).drew.mono (Nat.le_trans HPd.out.s.be.size H1.out.fr.size))))) HK.out.2.1 hK (fun hne b off e e2 => by have := HKa.out hne b off e; have := HPd.out.s.new b (.inl (Dk.hasAll e2)); omega)
  rw [HD.out.1] at hG
  have HG : Hid (Calls Tryz.prog 37 #[.pointer (some ⟨d, 0, none⟩), .slice ka kn kc] w1.drew fun e w' => e = .returned (.tuple #[]) ∧ ∃ D', Disk w' D' ∧ Mv w1.drew D w' D' ∧ Al w1.drew.heap.size D D' ∧ D'.abs = (D.abs.cut (kpOf K))) := hG
  clear hG
  go_upto_region 34 with fail
  have HS2 : Hid ((w1.drew.cell? ⟨P, 0, none⟩ = some (.pointer (some ⟨d, 0, none⟩)) ∧ w1.drew.cell? ⟨P, 1, none⟩ = some (.pointer (some ⟨r, 0, none⟩))) ∧ w1.drew.cell? ⟨P1, 0, none⟩ = some (.int .i64 6) ∧ w1.drew.cell? ⟨P1, 1, none⟩ = some (.slice la ln lc) ∧ w1.drew.cell? ⟨P1, 2, none⟩ = some (.int .i64 ot) ∧ w1.drew.cell? ⟨P1, 3, none⟩ = some (.int .u8 by_) ∧ w1.drew.cell? ⟨P1, 4, none⟩ = some (.slice oa on_ oc) ∧ w1.drew.cell? ⟨P1, 5, none⟩ = some (.int .i64 ca) ∧ w1.drew.cell? ⟨P1, 6, none⟩ = some (.slice ka kn kc)) := HC.out w1.drew (((below_fr (Below.refl wb.heap.size wb).drew _).trans (H1.out.fr.mono (fun k e => .inr e)) (fun k e => .inl e)).trans (below_fr (Below.refl w1.heap.size w1).drew _) (fun k e => .inl e))
  go_region_held3 (fun w' => (w'.cell? ⟨P, 0, none⟩ = some (.pointer (some ⟨d, 0, none⟩)) ∧ w'.cell? ⟨P, 1, none⟩ = some (.pointer (some ⟨r, 0, none⟩))) ∧ w'.cell? ⟨P1, 0, none⟩ = some (.int .i64 6) ∧ w'.cell? ⟨P1, 1, none⟩ = some (.slice la ln lc) ∧ w'.cell? ⟨P1, 2, none⟩ = some (.int .i64 ot) ∧ w'.cell? ⟨P1, 3, none⟩ = some (.int .u8 by_) ∧ w'.cell? ⟨P1, 4, none⟩ = some (.slice oa on_ oc) ∧ w'.cell? ⟨P1, 5, none⟩ = some (.int .i64 ca) ∧ w'.cell? ⟨P1, 6, none⟩ = some (.slice ka kn kc)) (first | exact HS2.out | exact HS3.out) (first
    | (go_at_call 37; refine HG.out.mono ?_; rintro e w2 ⟨rfl, D', h1, h2, h3, h4⟩; have H2 : Hid (WM w0 wb.drew D R w2 D' R' j) := ws_step HPd.out.s H1.out (Below.refl _ _).drew h1 h2 h3 h4 (by rw [← abs_keep, h4, keep_cut]; exact HPd.out.s.kd); have HS3 : Hid ((w2.cell? ⟨P, 0, none⟩ = some (.pointer (some ⟨d, 0, none⟩)) ∧ w2.cell? ⟨P, 1, none⟩ = some (.pointer (some ⟨r, 0, none⟩))) ∧ w2.cell? ⟨P1, 0, none⟩ = some (.int .i64 6) ∧ w2.cell? ⟨P1, 1, none⟩ = some (.slice la ln lc) ∧ w2.cell? ⟨P1, 2, none⟩ = some (.int .i64 ot) ∧ w2.cell? ⟨P1, 3, none⟩ = some (.int .u8 by_) ∧ w2.cell? ⟨P1, 4, none⟩ = some (.slice oa on_ oc) ∧ w2.cell? ⟨P1, 5, none⟩ = some (.int .i64 ca) ∧ w2.cell? ⟨P1, 6, none⟩ = some (.slice ka kn kc)) := HC.out w2 ((below_fr (Below.refl wb.heap.size wb).drew _).trans H2.out.fr (fun k e => .inl e)); clear h1 h2 h3 h4))
  go_wp2
  go_ret
  have := HPd.out.wm H2.out
  exact ⟨rfl, D', R', _, _, _, this.up (by omega)⟩
end Go.Proofs.YtamlbpbhlgmcoaaGreatDoor
