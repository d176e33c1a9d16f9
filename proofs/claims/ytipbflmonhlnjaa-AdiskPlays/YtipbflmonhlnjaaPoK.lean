import Derived.Test.YtipbflmonhlnjaaPoH
namespace Go.Proofs.Ytipbflmonhlnjaa
open Go.RowKit Rec

set_option maxRecDepth 100000 in
set_option maxHeartbeats 4000000 in
theorem plays_write (w : World) (D : Dk) (R : RDk) (j : Nat) (h : Pr w D R j) (K : Bk) (hK : BkI w K) (hap : ∀ k, PrA D R k → ¬ K.all k) (hj : j ≤ 10000000) (hn : K.bn + 2 * j + 2 ≤ 1000000000000) (hm : K.im + 2 ≤ 1000000000000) (ha : K.am + 2 ≤ 1000000000000) (tw : Bool) (N : Int) (hN : N ≤ 9223372036854775807) (ba : Option Addr) (bn bc : Nat) (l : List Int) (hl : Bytes w ba l) (hll : l.length = bn) (hbn : bn ≤ 1048576) (hb0 : ba = none → bc = 0) (hbl : l ≠ [] → ∀ p, ba = some p → ¬ PrA D R p.block) (ka : Option Addr) (kn kc : Nat) (keep : List Bool) (hk : Bools w (.slice ka kn kc) keep) (hkl : keep.length = kn) (hkn : kn ≤ 1048576) (hk0 : ka = none → kc = 0) (hkr : keep ≠ [] → ∀ b off, ka = some ⟨b, off, none⟩ → ¬ PrA D R b) :
    Calls Try.prog 8 #[.agg #[.pointer (some ⟨D.d, 0, none⟩), .pointer (some ⟨R.r, 0, none⟩)], .agg #[.int .i64 2, .bool tw, .int .i64 N, .slice ba bn bc, .slice ka kn kc], .pointer (some ⟨K.kb, 0, none⟩)] w fun e w' => e = .returned (.bool true) ∧ PlP w D R K j w' := by
  have hU := And.intro hj (And.intro hn (And.intro hm ha))
  clear hU
  have HX : Hid (Pr w D R j ∧ BkI w K ∧ ∀ k, PrA D R k → ¬ K.all k) := ⟨h, hK, hap⟩
  have HL : Hid (Bytes w ba l ∧ l.length = bn ∧ (l ≠ [] → ∀ p, ba = some p → ¬ PrA D R p.block)) := ⟨hl, hll, hbl⟩
  have HKp : Hid (Bools w (.slice ka kn kc) keep ∧ keep.length = kn ∧ (keep ≠ [] → ∀ b off, ka = some ⟨b, off, none⟩ → ¬ PrA D R b)) := ⟨hk, hkl, hkr⟩
  have hU := And.intro hN (And.intro hbn (And.intro hkn (And.intro hb0 hk0)))
  clear hl hll hbl hk hkl hkr hU
  obtain ⟨d, hd⟩ : ∃ d, D.d = d := ⟨_, rfl⟩
  obtain ⟨r, hr⟩ : ∃ r, R.r = r := ⟨_, rfl⟩
  obtain ⟨kb, hkb⟩ : ∃ kb, K.kb = kb := ⟨_, rfl⟩
  rw [hd, hr, hkb]
  have HD : Hid (D.d = d ∧ R.r = r ∧ K.kb = kb) := ⟨hd, hr, hkb⟩
  clear h hK hap hd hr hkb
  obtain ⟨P0, hP0⟩ : ∃ P0, w.heap.size = P0 := ⟨_, rfl⟩
  obtain ⟨wa, hwa⟩ : ∃ wa, w.alloc (.cells #[.pointer (some ⟨d, 0, none⟩), .pointer (some ⟨r, 0, none⟩)] 32) = wa := ⟨_, rfl⟩
  obtain ⟨P1, hP1⟩ : ∃ P1, wa.heap.size = P1 := ⟨_, rfl⟩
  obtain ⟨wb, hwb⟩ : ∃ wb, wa.alloc (.cells #[.int .i64 2, .bool tw, .int .i64 N, .slice ba bn bc, .slice ka kn kc] 44) = wb := ⟨_, rfl⟩
  have hA1 : Below w.heap.size w wa := by rw [← hwa]; exact (Below.refl _ _).alloc (Nat.le_refl _) _
  have hA2 : Below wa.heap.size wa wb := by rw [← hwb]; exact (Below.refl _ _).alloc (Nat.le_refl _) _
  have HB : Hid (Below w.heap.size w wb) := hA1.trans (hA2.mono hA1.size)
  have HC : Hid (∀ wx, Fr (fun k => k < w.heap.size) wb wx → (wx.cell? ⟨P0, 0, none⟩ = some (.pointer (some ⟨d, 0, none⟩)) ∧ wx.cell? ⟨P0, 1, none⟩ = some (.pointer (some ⟨r, 0, none⟩))) ∧ wx.cell? ⟨P1, 0, none⟩ = some (.int .i64 2) ∧ wx.cell? ⟨P1, 1, none⟩ = some (.bool tw) ∧ wx.cell? ⟨P1, 2, none⟩ = some (.int .i64 N) ∧ wx.cell? ⟨P1, 3, none⟩ = some (.slice ba bn bc) ∧ wx.cell? ⟨P1, 4, none⟩ = some (.slice ka kn kc)) := fun wx hx => by
    have z1 : wa.heap[P0]? = some (.cells #[.pointer (some ⟨d, 0, none⟩), .pointer (some ⟨r, 0, none⟩)] 32 (0, 0)) := by rw [← hwa, ← hP0]; exact heap_alloc_new _ _
    have z2 : wb.heap[P1]? = some (.cells #[.int .i64 2, .bool tw, .int .i64 N, .slice ba bn bc, .slice ka kn kc] 44 (0, 0)) := by rw [← hwb, ← hP1]; exact heap_alloc_new _ _
    have hs := hA1.size
    have y1 := hx.heap ((below_fr hA2 (fun _ => False)).heap z1 (fun e => e)) (by omega)
    have y2 := hx.heap z2 (by omega)
    exact ⟨⟨cell_of_row _ _ 0 _ _ _ y1, cell_of_row _ _ 1 _ _ _ y1⟩, cell_of_row _ _ 0 _ _ _ y2, cell_of_row _ _ 1 _ _ _ y2, cell_of_row _ _ 2 _ _ _ y2, cell_of_row _ _ 3 _ _ _ y2, cell_of_row _ _ 4 _ _ _ y2⟩
  clear hA1 hA2
  go_enter Try.func8, Try.ntmps8
  go_upto_region 1 with fail
  try rw [hP0]
  try rw [hwa]
  try rw [hP1]
  try rw [hwb]
  clear hwa hwb hP0 hP1
  obtain ⟨⟨c0, c1⟩, c2, c3, c4, c5, c6⟩ := HC.out wb (Fr.refl _ _)
  go_upto_region 4 with (go_at_call 14; refine (lent_any wb ba bn bc l (HL.out.1.on HB.out) HL.out.2.1 hb0 (by omega)).mono ?_; rintro e w1 ⟨g, cap, rfl, hg, ho, hb⟩; have H1 : Hid (wb.heap.size ≤ g ∧ OwnB w1 g cap (l ++ [165]) ∧ Below wb.heap.size wb w1) := ⟨hg, ho, hb⟩; clear hg ho hb)
  clear c0 c1 c2 c3 c4 c5 c6
  have HB1 : Hid (Below w.heap.size w w1) := HB.out.trans (H1.out.2.2.mono HB.out.size)
  have HBd : Hid (Below w.heap.size w w1.drew) := HB1.out.trans (((Below.refl w1.heap.size w1).drew).mono HB1.out.size)
  have HFd : Hid (Fr (fun k => k < w.heap.size) wb w1.drew) := (below_fr H1.out.2.2 _).trans (below_fr (Below.refl w1.heap.size w1).drew (fun _ => False)) (fun _ e => e.elim)
  have HOd : Hid (OwnB w1.drew g cap (l ++ [165])) := H1.out.2.1.on (Below.refl w1.heap.size w1).drew
  have HGn : Hid (¬ PrA D R g) := fun e => by have := HX.out.1.lt e; have := H1.out.1; have := HB.out.size; omega
  obtain ⟨E, hW⟩ := pwrite (HX.out.1.on HBd.out) (by omega) N (some ⟨g, 0, none⟩) bn cap l (by have z := HOd.out.bytes.take bn; have e : (l ++ [165]).take bn = l := (by rw [← HL.out.2.1]; exact List.take_left); rw [e] at z; exact z) (fun p e => by cases e; exact HGn.out) ba bc (HL.out.1.on HBd.out) HL.out.2.2 HL.out.2.1 hbn
  rw [HD.out.1, HD.out.2.1] at hW
  have HW : Hid (Calls Try.prog 19 #[.pointer (some ⟨d, 0, none⟩), .int .i64 N, .slice (some ⟨g, 0, none⟩) bn cap] w1.drew fun e w2 => e = .returned (.int .i64 E) ∧ Fr (PrA D R) w1.drew w2 ∧ ∀ wx, Below w2.heap.size w2 wx → Calls Try.prog 20 #[.pointer (some ⟨r, 0, none⟩), .int .i64 N, .slice ba bn bc] wx fun e w3 => e = .returned (.int .i64 E) ∧ ∃ D' R', PrM w1.drew D R w3 D' R' (j + 1)) := hW
  clear hW
  have hS0 := HC.out w1.drew HFd.out
  go_region_held3 (fun w' => (w'.cell? ⟨P0, 0, none⟩ = some (.pointer (some ⟨d, 0, none⟩)) ∧ w'.cell? ⟨P0, 1, none⟩ = some (.pointer (some ⟨r, 0, none⟩))) ∧ w'.cell? ⟨P1, 0, none⟩ = some (.int .i64 2) ∧ w'.cell? ⟨P1, 1, none⟩ = some (.bool tw) ∧ w'.cell? ⟨P1, 2, none⟩ = some (.int .i64 N) ∧ w'.cell? ⟨P1, 3, none⟩ = some (.slice ba bn bc) ∧ w'.cell? ⟨P1, 4, none⟩ = some (.slice ka kn kc)) (first | exact hS0 | exact hS1 | exact HS2.out) (first
    | (go_at_call 19; refine HW.out.mono ?_; rintro e w2 ⟨rfl, hf, hn2⟩; have H2 : Hid (∀ wx, Below w2.heap.size w2 wx → Calls Try.prog 20 #[.pointer (some ⟨r, 0, none⟩), .int .i64 N, .slice ba bn bc] wx fun e w3 => e = .returned (.int .i64 E) ∧ ∃ D' R', PrM w1.drew D R w3 D' R' (j + 1)) := hn2; have hS1 := HC.out w2 (HFd.out.trans hf (fun k e => .inl ((HX.out.1.lt e)))); clear hf hn2)
    | (go_at_call 20; refine (H2.out _ (Below.refl _ _)).mono ?_; rintro e w3 ⟨rfl, D', R', hM⟩; have H3 : Hid (PrM w1.drew D R w3 D' R' (j + 1)) := hM; have HS2 : Hid ((fun w' => (w'.cell? ⟨P0, 0, none⟩ = some (.pointer (some ⟨d, 0, none⟩)) ∧ w'.cell? ⟨P0, 1, none⟩ = some (.pointer (some ⟨r, 0, none⟩))) ∧ w'.cell? ⟨P1, 0, none⟩ = some (.int .i64 2) ∧ w'.cell? ⟨P1, 1, none⟩ = some (.bool tw) ∧ w'.cell? ⟨P1, 2, none⟩ = some (.int .i64 N) ∧ w'.cell? ⟨P1, 3, none⟩ = some (.slice ba bn bc) ∧ w'.cell? ⟨P1, 4, none⟩ = some (.slice ka kn kc)) w3) := HC.out w3 (HFd.out.trans hM.fr (fun k e => .inl ((HX.out.1.lt e)))); clear hM))
  obtain ⟨⟨c0, c1⟩, c2, c3, c4, c5, c6⟩ := HS2.out
  have HF3 : Hid (Fr (PrA D R) w w3) := (below_fr HBd.out _).trans H3.out.fr (fun k e => .inl e)
  have HL3 : Hid (Bytes w3 ba l) := by
    have z := HL.out.1
    refine ⟨z.len, z.wf, ?_⟩
    rcases z.at_ with e | ⟨b, off, e, hc⟩
    · exact .inl e
    · exact .inr ⟨b, off, e, fun i hi => HF3.out.cell (hc i hi) (show ¬ PrA D R b from HL.out.2.2 (fun e2 => by rw [e2] at hi; simp at hi) ⟨b, off, none⟩ e)⟩
  go_wp2_with (go_at_call 17; refine (kept_any w3 g cap bn bc ba l (HOd.out.fr H3.out.fr HGn.out) HL3.out HL.out.2.1 (by omega)).mono ?_; rintro e w4 ⟨rfl, hf⟩; have H4 : Hid (Fr (fun k => k = g) w3 w4) := hf; clear hf)
  go_ret
  exact ⟨rfl, PlP.of HX.out.1 HX.out.2.1 HX.out.2.2 HBd.out H3.out (Nat.le_refl _) (H4.out.mono (fun k e => by have := H1.out.1; have := HB.out.size; have := HOd.out.lt; omega))⟩
end Go.Proofs.Ytipbflmonhlnjaa
