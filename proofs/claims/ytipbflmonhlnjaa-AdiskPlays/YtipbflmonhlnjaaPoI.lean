import Derived.Test.YtipbflmonhlnjaaPoH
namespace Go.Proofs.Ytipbflmonhlnjaa
open Go.RowKit Rec

set_option maxRecDepth 100000 in
set_option maxHeartbeats 4000000 in
theorem plays_ask (w : World) (D : Dk) (R : RDk) (j : Nat) (h : Pr w D R j) (K : Bk) (hK : BkI w K) (hap : ∀ k, PrA D R k → ¬ K.all k) (hj : j ≤ 10000000) (hn : K.bn + 2 * j + 2 ≤ 1000000000000) (hm : K.im + 2 ≤ 1000000000000) (ha : K.am + 2 ≤ 1000000000000) (tw : Bool) (N : Int) (hN : N ≤ 9223372036854775807) (ba : Option Addr) (bn bc : Nat) (l : List Int) (hl : Bytes w ba l) (hll : l.length = bn) (hbn : bn ≤ 1048576) (hb0 : ba = none → bc = 0) (hbl : l ≠ [] → ∀ p, ba = some p → ¬ PrA D R p.block) (ka : Option Addr) (kn kc : Nat) (keep : List Bool) (hk : Bools w (.slice ka kn kc) keep) (hkl : keep.length = kn) (hkn : kn ≤ 1048576) (hk0 : ka = none → kc = 0) (hkr : keep ≠ [] → ∀ b off, ka = some ⟨b, off, none⟩ → ¬ PrA D R b) :
    Calls Try.prog 8 #[.agg #[.pointer (some ⟨D.d, 0, none⟩), .pointer (some ⟨R.r, 0, none⟩)], .agg #[.int .i64 7, .bool tw, .int .i64 N, .slice ba bn bc, .slice ka kn kc], .pointer (some ⟨K.kb, 0, none⟩)] w fun e w' => e = .returned (.bool true) ∧ PlP w D R K j w' := by
  have hU := And.intro hj (And.intro hn (And.intro hm ha))
  clear hU
  have HX : Hid (Pr w D R j ∧ BkI w K ∧ ∀ k, PrA D R k → ¬ K.all k) := ⟨h, hK, hap⟩
  have HL : Hid (Bytes w ba l ∧ l.length = bn ∧ (l ≠ [] → ∀ p, ba = some p → ¬ PrA D R p.block)) := ⟨hl, hll, hbl⟩
  have HKp : Hid (Bools w (.slice ka kn kc) keep ∧ keep.length = kn ∧ (keep ≠ [] → ∀ b off, ka = some ⟨b, off, none⟩ → ¬ PrA D R b)) := ⟨hk, hkl, hkr⟩
  have hU := And.intro hN (And.intro hbn (And.intro hkn (And.intro hb0 hk0)))
  clear hl hll hbl hk hkl hkr hU
  obtain ⟨d, hd⟩ : ∃ d, D.d = d := ⟨_, rfl⟩
  obtain ⟨r, hr⟩ : ∃ r, R.r = r := ⟨_, rfl⟩
  obtain ⟨kb, hkb⟩ : ∃ kb, K.kb = kb := ⟨_, rfl⟩
  rw [hd, hr, hkb]
  have HD : Hid (D.d = d ∧ R.r = r ∧ K.kb = kb) := ⟨hd, hr, hkb⟩
  clear h hK hap hd hr hkb
  obtain ⟨P0, hP0⟩ : ∃ P0, w.heap.size = P0 := ⟨_, rfl⟩
  obtain ⟨wa, hwa⟩ : ∃ wa, w.alloc (.cells #[.pointer (some ⟨d, 0, none⟩), .pointer (some ⟨r, 0, none⟩)] 32) = wa := ⟨_, rfl⟩
  obtain ⟨P1, hP1⟩ : ∃ P1, wa.heap.size = P1 := ⟨_, rfl⟩
  obtain ⟨wb, hwb⟩ : ∃ wb, wa.alloc (.cells #[.int .i64 7, .bool tw, .int .i64 N, .slice ba bn bc, .slice ka kn kc] 44) = wb := ⟨_, rfl⟩
  have hA1 : Below w.heap.size w wa := by rw [← hwa]; exact (Below.refl _ _).alloc (Nat.le_refl _) _
  have hA2 : Below wa.heap.size wa wb := by rw [← hwb]; exact (Below.refl _ _).alloc (Nat.le_refl _) _
  have HB : Hid (Below w.heap.size w wb) := hA1.trans (hA2.mono hA1.size)
  have HC : Hid (∀ wx, Fr (fun k => k < w.heap.size) wb wx → (wx.cell? ⟨P0, 0, none⟩ = some (.pointer (some ⟨d, 0, none⟩)) ∧ wx.cell? ⟨P0, 1, none⟩ = some (.pointer (some ⟨r, 0, none⟩))) ∧ wx.cell? ⟨P1, 0, none⟩ = some (.int .i64 7) ∧ wx.cell? ⟨P1, 1, none⟩ = some (.bool tw) ∧ wx.cell? ⟨P1, 2, none⟩ = some (.int .i64 N) ∧ wx.cell? ⟨P1, 3, none⟩ = some (.slice ba bn bc) ∧ wx.cell? ⟨P1, 4, none⟩ = some (.slice ka kn kc)) := fun wx hx => by
    have z1 : wa.heap[P0]? = some (.cells #[.pointer (some ⟨d, 0, none⟩), .pointer (some ⟨r, 0, none⟩)] 32 (0, 0)) := by rw [← hwa, ← hP0]; exact heap_alloc_new _ _
    have z2 : wb.heap[P1]? = some (.cells #[.int .i64 7, .bool tw, .int .i64 N, .slice ba bn bc, .slice ka kn kc] 44 (0, 0)) := by rw [← hwb, ← hP1]; exact heap_alloc_new _ _
    have hs := hA1.size
    have y1 := hx.heap ((below_fr hA2 (fun _ => False)).heap z1 (fun e => e)) (by omega)
    have y2 := hx.heap z2 (by omega)
    exact ⟨⟨cell_of_row _ _ 0 _ _ _ y1, cell_of_row _ _ 1 _ _ _ y1⟩, cell_of_row _ _ 0 _ _ _ y2, cell_of_row _ _ 1 _ _ _ y2, cell_of_row _ _ 2 _ _ _ y2, cell_of_row _ _ 3 _ _ _ y2, cell_of_row _ _ 4 _ _ _ y2⟩
  clear hA1 hA2
  go_enter Try.func8, Try.ntmps8
  go_upto_region 1 with fail
  try rw [hP0]
  try rw [hwa]
  try rw [hP1]
  try rw [hwb]
  clear hwa hwb hP0 hP1
  obtain ⟨⟨c0, c1⟩, c2, c3, c4, c5, c6⟩ := HC.out wb (Fr.refl _ _)
  have HT : Hid (Calls Try.prog 9 #[.agg #[.pointer (some ⟨d, 0, none⟩), .pointer (some ⟨r, 0, none⟩)]] wb fun e w' => e = .returned (.bool true) ∧ Below wb.heap.size wb w') := by
    have := pasks wb D R j (HX.out.1.on HB.out)
    rw [HD.out.1, HD.out.2.1] at this
    exact this
  go_wp2_with (go_at_call 9; refine HT.out.mono ?_; rintro e w1 ⟨rfl, h1⟩; have HE : Hid (Below wb.heap.size wb w1) := h1; clear h1)
  go_ret
  exact ⟨rfl, PlP.look HX.out.1 HX.out.2.2 (LkP.zero HX.out.2.1 (HB.out.trans (HE.out.mono HB.out.size)))⟩
set_option maxRecDepth 100000 in
set_option maxHeartbeats 4000000 in
theorem plays_other (w : World) (D : Dk) (R : RDk) (j : Nat) (h : Pr w D R j) (K : Bk) (hK : BkI w K) (hap : ∀ k, PrA D R k → ¬ K.all k) (hj : j ≤ 10000000) (hn : K.bn + 2 * j + 2 ≤ 1000000000000) (hm : K.im + 2 ≤ 1000000000000) (ha : K.am + 2 ≤ 1000000000000) (kd : Int) (tw : Bool) (N : Int) (hN : N ≤ 9223372036854775807) (ba : Option Addr) (bn bc : Nat) (l : List Int) (hl : Bytes w ba l) (hll : l.length = bn) (hbn : bn ≤ 1048576) (hb0 : ba = none → bc = 0) (hbl : l ≠ [] → ∀ p, ba = some p → ¬ PrA D R p.block) (ka : Option Addr) (kn kc : Nat) (keep : List Bool) (hk : Bools w (.slice ka kn kc) keep) (hkl : keep.length = kn) (hkn : kn ≤ 1048576) (hk0 : ka = none → kc = 0) (hkr : keep ≠ [] → ∀ b off, ka = some ⟨b, off, none⟩ → ¬ PrA D R b) (h2 : (kd == 2) = false) (h3 : (kd == 3) = false) (h4 : (kd == 4) = false) (h5 : (kd == 5) = false) (h7 : (kd == 7) = false) :
    Calls Try.prog 8 #[.agg #[.pointer (some ⟨D.d, 0, none⟩), .pointer (some ⟨R.r, 0, none⟩)], .agg #[.int .i64 kd, .bool tw, .int .i64 N, .slice ba bn bc, .slice ka kn kc], .pointer (some ⟨K.kb, 0, none⟩)] w fun e w' => e = .returned (.bool true) ∧ PlP w D R K j w' := by
  have hU := And.intro hj (And.intro hn (And.intro hm ha))
  clear hU
  have HX : Hid (Pr w D R j ∧ BkI w K ∧ ∀ k, PrA D R k → ¬ K.all k) := ⟨h, hK, hap⟩
  have HL : Hid (Bytes w ba l ∧ l.length = bn ∧ (l ≠ [] → ∀ p, ba = some p → ¬ PrA D R p.block)) := ⟨hl, hll, hbl⟩
  have HKp : Hid (Bools w (.slice ka kn kc) keep ∧ keep.length = kn ∧ (keep ≠ [] → ∀ b off, ka = some ⟨b, off, none⟩ → ¬ PrA D R b)) := ⟨hk, hkl, hkr⟩
  have hU := And.intro hN (And.intro hbn (And.intro hkn (And.intro hb0 hk0)))
  clear hl hll hbl hk hkl hkr hU
  obtain ⟨d, hd⟩ : ∃ d, D.d = d := ⟨_, rfl⟩
  obtain ⟨r, hr⟩ : ∃ r, R.r = r := ⟨_, rfl⟩
  obtain ⟨kb, hkb⟩ : ∃ kb, K.kb = kb := ⟨_, rfl⟩
  rw [hd, hr, hkb]
  have HD : Hid (D.d = d ∧ R.r = r ∧ K.kb = kb) := ⟨hd, hr, hkb⟩
  clear h hK hap hd hr hkb
  obtain ⟨P0, hP0⟩ : ∃ P0, w.heap.size = P0 := ⟨_, rfl⟩
  obtain ⟨wa, hwa⟩ : ∃ wa, w.alloc (.cells #[.pointer (some ⟨d, 0, none⟩), .pointer (some ⟨r, 0, none⟩)] 32) = wa := ⟨_, rfl⟩
  obtain ⟨P1, hP1⟩ : ∃ P1, wa.heap.size = P1 := ⟨_, rfl⟩
  obtain ⟨wb, hwb⟩ : ∃ wb, wa.alloc (.cells #[.int .i64 kd, .bool tw, .int .i64 N, .slice ba bn bc, .slice ka kn kc] 44) = wb := ⟨_, rfl⟩
  have hA1 : Below w.heap.size w wa := by rw [← hwa]; exact (Below.refl _ _).alloc (Nat.le_refl _) _
  have hA2 : Below wa.heap.size wa wb := by rw [← hwb]; exact (Below.refl _ _).alloc (Nat.le_refl _) _
  have HB : Hid (Below w.heap.size w wb) := hA1.trans (hA2.mono hA1.size)
  have HC : Hid (∀ wx, Fr (fun k => k < w.heap.size) wb wx → (wx.cell? ⟨P0, 0, none⟩ = some (.pointer (some ⟨d, 0, none⟩)) ∧ wx.cell? ⟨P0, 1, none⟩ = some (.pointer (some ⟨r, 0, none⟩))) ∧ wx.cell? ⟨P1, 0, none⟩ = some (.int .i64 kd) ∧ wx.cell? ⟨P1, 1, none⟩ = some (.bool tw) ∧ wx.cell? ⟨P1, 2, none⟩ = some (.int .i64 N) ∧ wx.cell? ⟨P1, 3, none⟩ = some (.slice ba bn bc) ∧ wx.cell? ⟨P1, 4, none⟩ = some (.slice ka kn kc)) := fun wx hx => by
    have z1 : wa.heap[P0]? = some (.cells #[.pointer (some ⟨d, 0, none⟩), .pointer (some ⟨r, 0, none⟩)] 32 (0, 0)) := by rw [← hwa, ← hP0]; exact heap_alloc_new _ _
    have z2 : wb.heap[P1]? = some (.cells #[.int .i64 kd, .bool tw, .int .i64 N, .slice ba bn bc, .slice ka kn kc] 44 (0, 0)) := by rw [← hwb, ← hP1]; exact heap_alloc_new _ _
    have hs := hA1.size
    have y1 := hx.heap ((below_fr hA2 (fun _ => False)).heap z1 (fun e => e)) (by omega)
    have y2 := hx.heap z2 (by omega)
    exact ⟨⟨cell_of_row _ _ 0 _ _ _ y1, cell_of_row _ _ 1 _ _ _ y1⟩, cell_of_row _ _ 0 _ _ _ y2, cell_of_row _ _ 1 _ _ _ y2, cell_of_row _ _ 2 _ _ _ y2, cell_of_row _ _ 3 _ _ _ y2, cell_of_row _ _ 4 _ _ _ y2⟩
  clear hA1 hA2
  go_enter Try.func8, Try.ntmps8
  go_upto_region 1 with fail
  try rw [hP0]
  try rw [hwa]
  try rw [hP1]
  try rw [hwb]
  clear hwa hwb hP0 hP1
  obtain ⟨⟨c0, c1⟩, c2, c3, c4, c5, c6⟩ := HC.out wb (Fr.refl _ _)
  have HT : Hid (Calls Try.prog 10 #[.agg #[.pointer (some ⟨d, 0, none⟩), .pointer (some ⟨r, 0, none⟩)], .agg #[.int .i64 kd, .bool tw, .int .i64 N, .slice ba bn bc, .slice ka kn kc], .pointer (some ⟨kb, 0, none⟩)] wb fun e w' => e = .returned (.bool true) ∧ LkP wb K j w') := by
    have := plooks wb D R j (HX.out.1.on HB.out) K (HX.out.2.1.on HB.out) hj hn hm ha kd tw N ba bn bc ka kn kc
    rw [HD.out.1, HD.out.2.1, HD.out.2.2] at this
    exact this
  go_wp2_with (go_at_call 10; refine HT.out.mono ?_; rintro e w1 ⟨rfl, h1⟩; have HE : Hid (LkP wb K j w1) := h1; clear h1)
  go_ret
  exact ⟨rfl, PlP.look HX.out.1 HX.out.2.2 (HE.out.from HB.out)⟩
end Go.Proofs.Ytipbflmonhlnjaa
