import Derived.Test.YtamlbpbhlgmcoaaGreatDoorWpP
namespace Go.Proofs.YtamlbpbhlgmcoaaGreatDoor
open Go.RowKit Rec
/-- what was lent, the caller's own again -/
structure Scr (w4 wr : World) (g : Nat) (Q : List LnR) : Prop where
  row : ∃ cur, wr.heap[g]? = some (.cells cur 58 (0, 0)) ∧ ∀ i q, Q[i]? = some q → i * 2 < cur.size ∧ cur[i * 2 + 1]? = some (.slice (some ⟨q.g, 0, none⟩) q.x.length q.c)
  each : ∀ q ∈ Q, ∃ cur, wr.heap[q.g]? = some (.cells cur 5 (0, 0)) ∧ q.x.length ≤ cur.size
  fr : Fr (fun k => k = g ∨ ∃ q ∈ Q, k = q.g) w4 wr
theorem Scr.of {w : World} {g cap n : Nat} {Q : List LnR} (h : KpA w g cap n Q) : Scr w w g Q := by
  refine ⟨?_, fun q hq => ?_, Fr.refl _ _⟩
  · have hrow := h.row
    rcases hrow.2 with ⟨e, _⟩ | ⟨g', cap', cur, e, _, hg, h2, _, h4, h5⟩
    · cases e
    · cases e
      refine ⟨cur, hg, fun i q hq => ?_⟩
      obtain ⟨h6, h7⟩ := lnCells_get Q [.int .i64 (-7), .slice none 0 0] i q hq
      have hl := (List.getElem?_eq_some_iff.1 hq).1
      have hlen := h.len
      refine ⟨by rw [h4]; omega, ?_⟩
      rw [← h5] at h7
      rw [List.getElem?_take_of_lt (by omega)] at h7
      rw [Array.getElem?_toList] at h7
      exact h7
  · have ho := h.each q hq
    obtain ⟨cur, hg, h2, h3⟩ := ho.row
    have := ho.room
    rw [List.length_append] at this
    exact ⟨cur, hg, by omega⟩
theorem Scr.ne {w4 wr : World} {g : Nat} {Q : List LnR} (h : Scr w4 wr g Q) {q : LnR} (hq : q ∈ Q) : q.g ≠ g := fun e => by
  obtain ⟨c1, h1, _⟩ := h.row
  obtain ⟨c2, h2, _⟩ := h.each q hq
  rw [e, h1] at h2
  injection h2 with h2
  injection h2 with _ h2
  exact absurd h2 (by decide)
theorem Scr.byte {w4 wr : World} {g k : Nat} {Q : List LnR} (h : Scr w4 wr g Q) {q : LnR} (hq : q ∈ Q) (v : Value) : Scr w4 (wr.setCell ⟨q.g, k, none⟩ v) g Q := by
  have hne := h.ne hq
  refine ⟨?_, fun p hp => ?_, h.fr.trans Fr.set (fun b e => .inl (.inr ⟨q, hq, e⟩))⟩
  · obtain ⟨cur, h1, h2⟩ := h.row
    exact ⟨cur, (Fr.set (g := q.g)).heap h1 (fun e => hne e.symm), h2⟩
  · obtain ⟨cur, h1, h2⟩ := h.each p hp
    by_cases e : p.g = q.g
    · rw [e] at h1 ⊢
      exact ⟨_, heap_setCell_same _ _ _ _ _ _ h1, by simpa using h2⟩
    · exact ⟨cur, (Fr.set (g := q.g)).heap h1 e, h2⟩
theorem Scr.num {w4 wr : World} {g i : Nat} {Q : List LnR} (h : Scr w4 wr g Q) (v : Value) : Scr w4 (wr.setCell ⟨g, i * 2, none⟩ v) g Q := by
  refine ⟨?_, fun p hp => ?_, h.fr.trans Fr.set (fun b e => .inl (.inl e))⟩
  · obtain ⟨cur, h1, h2⟩ := h.row
    refine ⟨_, heap_setCell_same _ _ _ _ _ _ h1, fun j q hq => ⟨by simpa using (h2 j q hq).1, ?_⟩⟩
    rw [Array.getElem?_setIfInBounds, if_neg (by omega)]
    exact (h2 j q hq).2
  · obtain ⟨cur, h1, h2⟩ := h.each p hp
    exact ⟨cur, (Fr.set (g := g)).heap h1 (h.ne hp), h2⟩
theorem Scr.cell {w4 wr : World} {g i : Nat} {Q : List LnR} {q : LnR} (h : Scr w4 wr g Q) (hq : Q[i]? = some q) : (∃ v, wr.cell? ⟨g, i * 2, none⟩ = some v) ∧ wr.frozen? ⟨g, i * 2, none⟩ = false ∧ wr.cell? ⟨g, i * 2 + 1, none⟩ = some (.slice (some ⟨q.g, 0, none⟩) q.x.length q.c) := by
  obtain ⟨cur, h1, h2⟩ := h.row
  obtain ⟨h3, h4⟩ := h2 i q hq
  exact ⟨⟨cur[i * 2], by rw [cell_of_row _ _ _ _ _ _ h1]; exact Array.getElem?_eq_getElem h3⟩, frozen_of_row _ _ _ _ _ h1, by rw [cell_of_row _ _ _ _ _ _ h1]; exact h4⟩
theorem Scr.cellB {w4 wr : World} {g k : Nat} {Q : List LnR} {q : LnR} (h : Scr w4 wr g Q) (hq : q ∈ Q) (hk : k < q.x.length) : (∃ v, wr.cell? ⟨q.g, k, none⟩ = some v) ∧ wr.frozen? ⟨q.g, k, none⟩ = false := by
  obtain ⟨cur, h1, h2⟩ := h.each q hq
  exact ⟨⟨cur[k]'(by omega), by rw [cell_of_row _ _ _ _ _ _ h1]; exact Array.getElem?_eq_getElem (by omega)⟩, frozen_of_row _ _ _ _ _ h1⟩
set_option maxRecDepth 100000 in
set_option maxHeartbeats 8000000 in
theorem wstep0 (w0 w : World) (P : Nat) (D : Dk) (R : RDk) (j : Nat) (tv wv : Value) (B : List TB) (h : Pl w0 w P D R j tv wv B) (hT : TabAt w0) (hj : j + 200 ≤ 100000000) (la : Option Addr) (ln lc : Nat) (ot by_ : Int) (oa : Option Addr) (on_ oc : Nat) (ca : Int) (ka : Option Addr) (kn kc : Nat) (L : List BG) (hL : BGs w0 la L) (hn : L.length = ln) (hl : ln ≤ 4398046511000) (hx : ∀ q ∈ L, q.x.length ≤ 140737488351232) :
    Calls Tryz.prog 8 #[.pointer (some ⟨P, 0, none⟩), .agg #[.int .i64 0, .slice la ln lc, .int .i64 ot, .int .u8 by_, .slice oa on_ oc, .int .i64 ca, .slice ka kn kc]] w (StP w0 P (j + 200)) := by
  have hnw : ∀ k, D.all k ∨ R.all k → k < w.heap.size := fun k e => h.s.lt e
  obtain ⟨d, hd⟩ : ∃ d, D.d = d := ⟨_, rfl⟩
  obtain ⟨r, hr⟩ : ∃ r, R.r = r := ⟨_, rfl⟩
  have HD : Hid (D.d = d ∧ R.r = r) := ⟨hd, hr⟩
  clear hd hr
  obtain ⟨P1, hP1⟩ : ∃ P1, w.heap.size = P1 := ⟨_, rfl⟩
  obtain ⟨wb, hwb⟩ : ∃ wb, w.alloc (.cells #[.int .i64 0, .slice la ln lc, .int .i64 ot, .int .u8 by_, .slice oa on_ oc, .int .i64 ca, .slice ka kn kc] 46) = wb := ⟨_, rfl⟩
  have hA1 : Below w.heap.size w wb := by rw [← hwb]; exact (Below.refl _ _).alloc (Nat.le_refl _) _
  have HPb : Hid (Pl w0 wb P D R j tv wv B) := h.on hA1
  have HT : Hid (∀ wx, Below w0.heap.size w0 wx → TabAt wx) := fun wx hx => hT.on hx
  have HC : Hid (∀ wx, Fr (fun k => D.all k ∨ R.all k) wb wx → (wx.cell? ⟨P, 0, none⟩ = some (.pointer (some ⟨d, 0, none⟩)) ∧ wx.cell? ⟨P, 1, none⟩ = some (.pointer (some ⟨r, 0, none⟩))) ∧ wx.cell? ⟨P1, 0, none⟩ = some (.int .i64 0) ∧ wx.cell? ⟨P1, 1, none⟩ = some (.slice la ln lc) ∧ wx.cell? ⟨P1, 2, none⟩ = some (.int .i64 ot) ∧ wx.cell? ⟨P1, 3, none⟩ = some (.int .u8 by_) ∧ wx.cell? ⟨P1, 4, none⟩ = some (.slice oa on_ oc) ∧ wx.cell? ⟨P1, 5, none⟩ = some (.int .i64 ca) ∧ wx.cell? ⟨P1, 6, none⟩ = some (.slice ka kn kc)) := fun wx hx => by
    have z2 : wb.heap[P1]? = some (.cells #[.int .i64 0, .slice la ln lc, .int .i64 ot, .int .u8 by_, .slice oa on_ oc, .int .i64 ca, .slice ka kn kc] 46 (0, 0)) := by rw [← hwb, ← hP1]; exact heap_alloc_new _ _
    have y1 := hx.heap HPb.out.box (fun e => e.elim h.pn.2.1 h.pn.2.2)
    rw [HD.out.1, HD.out.2] at y1
    have y2 := hx.heap z2 (fun e => by have := hnw _ e; omega)
    exact ⟨⟨cell_of_row _ _ 0 _ _ _ y1, cell_of_row _ _ 1 _ _ _ y1⟩, cell_of_row _ _ 0 _ _ _ y2, cell_of_row _ _ 1 _ _ _ y2, cell_of_row _ _ 2 _ _ _ y2, cell_of_row _ _ 3 _ _ _ y2, cell_of_row _ _ 4 _ _ _ y2, cell_of_row _ _ 5 _ _ _ y2, cell_of_row _ _ 6 _ _ _ y2⟩
  have HL : Hid (BGs w0 la L ∧ L.length = ln ∧ ∀ q ∈ L, q.x.length ≤ 140737488351232) := ⟨hL, hn, hx⟩
  have HLa : Hid (∀ q ∈ L, q.x ≠ [] → ∀ p, q.a = some p → p.block < w0.heap.size) := fun q hq hne p e => by
    have := (hL.each q hq).1
    rw [e] at this
    exact bytes_ltB this hne
  clear hL hn hx
  clear h hT hA1 hnw
  go_enter Tryz.func8, Tryz.ntmps8
  go_upto_region 1 with fail
  try rw [hP1]
  try rw [hwb]
  clear hwb hP1
  obtain ⟨⟨c0, c1⟩, c2, c3, c4, c5, c6, c7, c8⟩ := HC.out wb (Fr.refl _ _)
  have HLt : Hid (Calls Tryz.prog 25 #[.slice la ln lc] wb (LtP wb ln L)) := wlent_any wb la ln lc L (HL.out.1.on HPb.out.s.be) HL.out.2.1 hl HL.out.2.2
  go_upto_region 4 with (go_at_call 25; refine HLt.out.mono ?_; rintro e w1 ⟨g, cap, Q, rfl, h1, h2⟩; have H1 : Hid (lnOf Q = bgOf L ∧ LnE wb w1 g cap ln Q) := ⟨h1, h2⟩; clear h1 h2)
  clear c0 c1 c2 c3 c4 c5 c6 c7 c8
  have HBd : Hid (Below wb.heap.size wb w1.drew) := H1.out.2.bel.trans ((Below.refl w1.heap.size w1).drew.mono H1.out.2.bel.size)
  have HPd : Hid (Pl w0 w1.drew P D R j tv wv B) := HPb.out.on HBd.out
  have HKd : Hid (KpA w1.drew g cap ln Q) := (⟨H1.out.2.row, H1.out.2.len, fun q hq => (H1.out.2.each q hq).1⟩ : KpA w1 g cap ln Q).on (Below.refl _ _).drew
  have hgl : ∀ k, D.all k ∨ R.all k → k < wb.heap.size := fun k e => HPb.out.s.lt e
  have HG : Hid ((¬ (D.all g ∨ R.all g)) ∧ ∀ q ∈ Q, ¬ (D.all q.g ∨ R.all q.g)) := ⟨fun e => by have := hgl _ e; have := H1.out.2.far; omega, fun q hq e => by have := hgl _ e; have := (H1.out.2.each q hq).2; omega⟩
  clear hgl
  have hF := rcommit_any w1.drew D.abs R j HPd.out.s.t la ln lc L (HL.out.1.on HPd.out.s.be) HL.out.2.1 (by omega) (by omega) (fun q hq hne p e e2 => by have := HLa.out q hq hne p e; have := HPd.out.s.new p.block (.inr e2); omega)
  rw [HD.out.2] at hF
  obtain ⟨E, hE⟩ : ∃ E, comE D.abs L = E := ⟨_, rfl⟩
  rw [hE] at hF
  have HE : Hid (comE D.abs L = E) := hE
  have HF : Hid (Calls Tryz.prog 26 #[.pointer (some ⟨r, 0, none⟩), .slice la ln lc] w1.drew fun e w' => e = .returned (.int .i64 E) ∧ ∃ R', RM w1.drew R w' (comT D.abs L) R' (j + 198)) := hF
  clear hF hE
  have HS0 : Hid ((w1.drew.cell? ⟨P, 0, none⟩ = some (.pointer (some ⟨d, 0, none⟩)) ∧ w1.drew.cell? ⟨P, 1, none⟩ = some (.pointer (some ⟨r, 0, none⟩))) ∧ w1.drew.cell? ⟨P1, 0, none⟩ = some (.int .i64 0) ∧ w1.drew.cell? ⟨P1, 1, none⟩ = some (.slice la ln lc) ∧ w1.drew.cell? ⟨P1, 2, none⟩ = some (.int .i64 ot) ∧ w1.drew.cell? ⟨P1, 3, none⟩ = some (.int .u8 by_) ∧ w1.drew.cell? ⟨P1, 4, none⟩ = some (.slice oa on_ oc) ∧ w1.drew.cell? ⟨P1, 5, none⟩ = some (.int .i64 ca) ∧ w1.drew.cell? ⟨P1, 6, none⟩ = some (.slice ka kn kc)) := HC.out w1.drew (below_fr HBd.out _)
  go_region_held3 (fun w' => (w'.cell? ⟨P, 0, none⟩ = some (.pointer (some ⟨d, 0, none⟩)) ∧ w'.cell? ⟨P, 1, none⟩ = some (.pointer (some ⟨r, 0, none⟩))) ∧ w'.cell? ⟨P1, 0, none⟩ = some (.int .i64 0) ∧ w'.cell? ⟨P1, 1, none⟩ = some (.slice la ln lc) ∧ w'.cell? ⟨P1, 2, none⟩ = some (.int .i64 ot) ∧ w'.cell? ⟨P1, 3, none⟩ = some (.int .u8 by_) ∧ w'.cell? ⟨P1, 4, none⟩ = some (.slice oa on_ oc) ∧ w'.cell? ⟨P1, 5, none⟩ = some (.int .i64 ca) ∧ w'.cell? ⟨P1, 6, none⟩ = some (.slice ka kn kc)) (first | exact HS0.out | exact HS1.out) (first
    | (go_at_call 26; refine HF.out.mono ?_; rintro e w2 ⟨rfl, R', hM⟩; have H2 : Hid (RM w1.drew R w2 (comT D.abs L) R' (j + 198)) := hM; have HS1 : Hid ((w2.cell? ⟨P, 0, none⟩ = some (.pointer (some ⟨d, 0, none⟩)) ∧ w2.cell? ⟨P, 1, none⟩ = some (.pointer (some ⟨r, 0, none⟩))) ∧ w2.cell? ⟨P1, 0, none⟩ = some (.int .i64 0) ∧ w2.cell? ⟨P1, 1, none⟩ = some (.slice la ln lc) ∧ w2.cell? ⟨P1, 2, none⟩ = some (.int .i64 ot) ∧ w2.cell? ⟨P1, 3, none⟩ = some (.int .u8 by_) ∧ w2.cell? ⟨P1, 4, none⟩ = some (.slice oa on_ oc) ∧ w2.cell? ⟨P1, 5, none⟩ = some (.int .i64 ca) ∧ w2.cell? ⟨P1, 6, none⟩ = some (.slice ka kn kc)) := HC.out w2 ((below_fr HBd.out _).trans (hM.fr.mono (fun k e => .inr e)) (fun k e => .inl e)); clear hM))
  have HK2 : Hid (KpA w2 g cap ln Q) := HKd.out.fr H2.out.fr (fun e => HG.out.1 (.inr e)) (fun q hq e => HG.out.2 q hq (.inr e))
  have hG := pcommit_any w2 D (HPd.out.s.mid H2.out (Below.refl _ _)) (HT.out w2 (HPd.out.s.be.trans (H2.out.fr.below _ (fun k e => HPd.out.s.new k (.inr e)) HPd.out.s.be.size))) g cap ln Q L HK2.out H1.out.1 HL.out.2.1 hl (fun q hq e => HG.out.2 q hq (.inl (Dk.hasAll e))) (HPd.out.s.roomN (by omega) 198 (by omega))
  rw [HD.out.1, HE.out] at hG
  have HGc : Hid (Calls Tryz.prog 19 #[.pointer (some ⟨d, 0, none⟩), .slice (some ⟨g, 0, none⟩) ln cap] w2 fun e w' => e = .returned (.int .i64 E) ∧ ∃ D', Disk w' D' ∧ Mv w2 D w' D' ∧ Al w2.heap.size D D' ∧ D'.abs = comT D.abs L) := hG
  clear hG
  obtain ⟨⟨c0, c1⟩, c2, c3, c4, c5, c6, c7, c8⟩ := HS1.out
  go_upto_region 6 with (go_at_call 19; refine HGc.out.mono ?_; rintro e w3 ⟨rfl, D', h1, h2, h3, h4⟩; have HK3 : Hid (KpA w3 g cap ln Q) := HK2.out.fr h2.fr (fun e => HG.out.1 (.inl (Dk.hasAll e))) (fun q hq e => HG.out.2 q hq (.inl (Dk.hasAll e))); have H3 : Hid (WM w0 w1.drew D R w3 D' R' (j + 198)) := ws_step HPd.out.s H2.out (Below.refl _ _) h1 h2 h3 h4 (by rw [← abs_keep, h4, keep_com]; exact HPd.out.s.kd); clear h1 h2 h3 h4)
  clear c0 c1 c2 c3 c4 c5 c6 c7 c8
  obtain ⟨⟨c0, c1⟩, c2, c3, c4, c5, c6, c7, c8⟩ := HC.out w3 ((below_fr HBd.out _).trans H3.out.fr (fun k e => .inl e))
  have HKp : Hid (Calls Tryz.prog 27 #[.slice (some ⟨g, 0, none⟩) ln cap, .slice la ln lc] w3 fun e w' => e = .returned (.bool true) ∧ Below w3.heap.size w3 w') := wkept_any w3 g cap ln lc la Q L HK3.out (HL.out.1.on H3.out.s.be) HL.out.2.1 H1.out.1 hl HL.out.2.2
  go_upto_region 7 with (go_at_call 27; refine HKp.out.mono ?_; rintro e w4 ⟨rfl, hb⟩; have H4 : Hid (Below w3.heap.size w3 w4) := hb; clear hb)
  clear c0 c1 c2 c3 c4 c5 c6 c7 c8
  have HSc : Hid (Scr w4 w4 g Q ∧ Q.length = ln) := ⟨Scr.of (HK3.out.on H4.out), HK3.out.len⟩
  go_wp2
  go_loopw [9, 10] (fun s9 _ wr => ∃ i : Nat, i ≤ ln ∧ s9 = .int .i64 i ∧ Scr w4 wr g Q) (fun s9 _ _ => ln - (intOf s9).toNat)
  case atStart => exact ⟨0, Nat.zero_le _, rfl, HSc.out.1⟩
  case round =>
    obtain ⟨i, hi, rfl, hA⟩ := hrel
    have HA : Hid (Scr w4 wr g Q) := hA
    clear hA
    by_cases hlt : i < ln
    · obtain ⟨q, hq⟩ : ∃ q, Q[i]? = some q := ⟨_, List.getElem?_eq_getElem (by rw [HSc.out.2]; exact hlt)⟩
      have HQ : Hid (Q[i]? = some q ∧ q ∈ Q) := ⟨hq, List.mem_of_getElem? hq⟩
      obtain ⟨_, _, x1⟩ := HA.out.cell hq
      clear hq
      obtain ⟨m, hm⟩ : ∃ m, q.x.length = m := ⟨_, rfl⟩
      have HM : Hid (q.x.length = m) := hm
      have hmb : m ≤ 1000000000000000 := by have := (HKd.out.each q HQ.out.2).len; rw [List.length_append] at this; omega
      rw [hm] at x1
      obtain ⟨qg, hqg⟩ : ∃ qg, q.g = qg := ⟨_, rfl⟩
      rw [hqg] at x1
      have HQg : Hid (q.g = qg) := hqg
      clear hm hqg
      go_upto_region 11 with fail
      clear x1
      go_wp2
      go_loopw [10] (fun s10 wy => ∃ k : Nat, k ≤ m ∧ s10 = .int .i64 k ∧ Scr w4 wy g Q) (fun s10 _ => m - (intOf s10).toNat)
      case atStart => exact ⟨0, Nat.zero_le _, rfl, HA.out⟩
      case round =>
        obtain ⟨k, hk, rfl, hA⟩ := hrel
        obtain ⟨wy, hwy⟩ : ∃ wy, wr = wy := ⟨_, rfl⟩
        rw [hwy] at hA ⊢
        clear hwy
        have HY : Hid (Scr w4 wy g Q) := hA
        clear hA
        obtain ⟨⟨v0, y0⟩, y1, x1⟩ := HY.out.cell HQ.out.1
        rw [HM.out, HQg.out] at x1
        by_cases hlk : k < m
        · obtain ⟨⟨v1, z0⟩, z1⟩ := HY.out.cellB HQ.out.2 (k := k) (by rw [HM.out]; exact hlk)
          rw [HQg.out] at z0 z1
          have HN : Hid (Scr w4 (wy.setCell ⟨qg, k, none⟩ (.int .u8 98)) g Q) := by rw [← HQg.out]; exact HY.out.byte HQ.out.2 _
          clear y0 y1
          go_wp2
          exact ⟨⟨k + 1, hlk, rfl, HN.out⟩, by simp [intOf]; omega⟩
        · have HN : Hid (Scr w4 (wy.setCell ⟨g, i * 2, none⟩ (.int .i64 0)) g Q) := HY.out.num _
          go_wp2
          exact ⟨⟨i + 1, hlt, rfl, HN.out⟩, by simp [intOf]; omega⟩
    · go_wp2
      go_ret
      have HB4 : Below w3.heap.size w3 w4 := H4.out
      have hP4 := (HPd.out.wm H3.out).on HB4
      have hap : ∀ k, D'.all k ∨ R'.all k → ¬ (k = g ∨ ∃ q ∈ Q, k = q.g) := fun k e e2 => by
        have hlo : ∀ k, (k = g ∨ ∃ q ∈ Q, k = q.g) → ¬ (D.all k ∨ R.all k) ∧ k < w1.drew.heap.size := fun k e => by
          rcases e with rfl | ⟨q, hq, rfl⟩
          · exact ⟨HG.out.1, owns_block HKd.out.row rfl⟩
          · exact ⟨HG.out.2 q hq, (HKd.out.each q hq).lt⟩
        rcases H3.out.al k e with e3 | e3
        · exact (hlo k e2).1 e3
        · have := (hlo k e2).2; omega
      have hn0 : ∀ k, (k = g ∨ ∃ q ∈ Q, k = q.g) → wb.heap.size ≤ k := fun k e => by
        rcases e with rfl | ⟨q, hq, rfl⟩
        · exact H1.out.2.far
        · exact (H1.out.2.each q hq).2
      have hS := hP4.s.fr HA.out.fr hap (fun k e => Nat.le_trans HPb.out.s.be.size (hn0 k e))
      have hfr : Fr (fun k => D.all k ∨ R.all k) wb wr := (((below_fr HBd.out _).trans H3.out.fr (fun k e => .inl e)).trans (below_fr HB4 (fun _ => False)) (fun k e => e.elim)).trans HA.out.fr (fun k e => .inr (hn0 k e))
      exact ⟨rfl, D', R', _, _, _, (HPb.out.move hS hfr (fun k e => (H3.out.al k e).imp id (fun e => Nat.le_trans HBd.out.size e)) H3.out.d H3.out.r).up (by omega)⟩
end Go.Proofs.YtamlbpbhlgmcoaaGreatDoor
