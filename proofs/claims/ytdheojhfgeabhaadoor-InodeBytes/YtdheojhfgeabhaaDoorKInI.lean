import Derived.Test.YtdheojhfgeabhaaDoorInH
namespace Go.Proofs.YtdheojhfgeabhaaDoor
open Go.RowKit Go.Maps Rec

set_option maxRecDepth 100000 in
set_option maxHeartbeats 4000000 in
theorem lowf_any (w0 w : World) (D : Dk) (T : Tx) (n : Nat) (h : Spc w0 w D T n) (hT : TabAt w) (good : ∀ k, 1 ≤ k → k < nC n → decE (rc D T n k) = 0) :
    Calls Tryd.prog 32 #[.pointer (some ⟨T.t, 0, none⟩), geoV n] w fun e w' => ∃ m : Nat, e = .returned (.tuple #[.int .i64 (m : Int), .int .i64 (if m = 0 then 90 else 0)]) ∧ Lw (fun k => isFr (decX (rc D T n k))) (nC n) m ∧ Below w.heap.size w w' := by
  have HE : Hid (∀ (wb : World) (S : Nat), Below w.heap.size w wb → w.heap.size ≤ S → wb.heap[S]? = some (.cells #[.int .i64 0] 3 (0, 0)) → Calls Tryd.prog 33 #[.pointer (some ⟨T.t, 0, none⟩), .agg #[.int .i64 (n : Int), .int .i64 98, .int .i64 (gI n), .int .i64 (gD n), .int .i64 (gC n)], .func (.func 49) #[] #[.pointer (some ⟨S, 0, none⟩)]] wb fun e w' => e = .returned (.int .i64 0) ∧ Below w.heap.size w w' ∧ ∃ m : Nat, w'.heap[S]? = some (.cells #[.int .i64 (m : Int)] 3 (0, 0)) ∧ Lw (fun k => isFr (decX (rc D T n k))) (nC n) m) := fun wb S hb hS hx => each_low w0 w D T n h hT good wb hb S hS hx
  clear h hT good
  generalize (fun k => isFr (decX (rc D T n k))) = f at *
  generalize nC n = C at *
  unfold geoV
  go_enter Tryd.func32, Tryd.ntmps32
  go_upto_region 2 with (fail)
  obtain ⟨P, hP⟩ : ∃ P, w.heap.size = P := ⟨_, rfl⟩
  obtain ⟨wa, hwa⟩ : ∃ wa, (w.alloc (.cells #[.int .i64 (n : Int), .int .i64 98, .int .i64 (gI n), .int .i64 (gD n), .int .i64 (gC n)] 40)).alloc (.cells #[.int .i64 0] 3) = wa := ⟨_, rfl⟩
  have HA : Hid (Below w.heap.size w wa) := by rw [← hwa]; exact ((Below.refl _ _).alloc (Nat.le_refl _) _).alloc (by simp) _
  have HA0 : Hid (wa.heap[P + 1]? = some (.cells #[.int .i64 0] 3 (0, 0))) := by
    have := heap_alloc_new (w.alloc (.cells #[.int .i64 (n : Int), .int .i64 98, .int .i64 (gI n), .int .i64 (gD n), .int .i64 (gC n)] 40)) (.cells #[.int .i64 0] 3)
    rw [World.size_alloc] at this
    rw [← hwa, ← hP]; exact this
  have HAg : Hid (GeoAt wa P n) := by rw [← hwa, ← hP]; exact (Below.heap_alloc _ _ _ (by simp)).trans (heap_alloc_new _ _)
  obtain ⟨g0, g1, g2, g3, g4⟩ := HAg.out.cells
  rw [hwa, hP]
  clear hwa
  go_upto_region 3 with (go_at_call 33; refine (HE.out _ (P + 1) HA.out (by omega) HA0.out).mono ?_; rintro e w1 ⟨rfl, h1, m, h2, h3⟩; have H1 : Hid (Below w.heap.size w w1 ∧ Lw f C m) := ⟨h1, h3⟩; have c0 : w1.cell? ⟨P + 1, 0, none⟩ = some (.int .i64 (m : Int)) := cell_of_row _ _ 0 _ _ _ h2; clear h1 h2 h3 HE)
  by_cases hm : m = 0
  · subst hm
    go_wp2
    go_ret2
    exact ⟨0, rfl, H1.out.2, H1.out.1⟩
  · have hm' : ¬ (m : Int) = 0 := by omega
    have HM : Hid (¬ m = 0) := hm
    go_wp2
    go_ret2
    exact ⟨m, by rw [if_neg HM.out]; rfl, H1.out.2, H1.out.1⟩
set_option maxRecDepth 100000 in
set_option maxHeartbeats 4000000 in
theorem ifree_any (w0 w : World) (D : Dk) (T : Tx) (n : Nat) (h : Spc w0 w D T n) (hT : TabAt w) (good : ∀ k, 1 ≤ k → k < nC n → decE (rc D T n k) = 0) :
    Calls Tryd.prog 17 #[.pointer (some ⟨T.t, 0, none⟩), geoV n] w fun e w' => e = .returned (.tuple #[.int .i64 ((cf (fun k => isFr (decX (rc D T n k))) (nC n) : Nat) : Int), .int .i64 0]) ∧ Below w.heap.size w w' := by
  have HE : Hid (∀ (wb : World) (S : Nat), Below w.heap.size w wb → w.heap.size ≤ S → wb.heap[S]? = some (.cells #[.int .i64 0] 3 (0, 0)) → Calls Tryd.prog 33 #[.pointer (some ⟨T.t, 0, none⟩), .agg #[.int .i64 (n : Int), .int .i64 98, .int .i64 (gI n), .int .i64 (gD n), .int .i64 (gC n)], .func (.func 34) #[] #[.pointer (some ⟨S, 0, none⟩)]] wb fun e w' => e = .returned (.int .i64 0) ∧ Below w.heap.size w w' ∧ w'.heap[S]? = some (.cells #[.int .i64 ((cf (fun k => isFr (decX (rc D T n k))) (nC n) : Nat) : Int)] 3 (0, 0))) := fun wb S hb hS hx => each_cnt w0 w D T n h hT good wb hb S hS hx
  clear h hT good
  generalize cf (fun k => isFr (decX (rc D T n k))) (nC n) = m at *
  unfold geoV
  go_enter Tryd.func17, Tryd.ntmps17
  go_upto_region 2 with (fail)
  obtain ⟨P, hP⟩ : ∃ P, w.heap.size = P := ⟨_, rfl⟩
  obtain ⟨wa, hwa⟩ : ∃ wa, (w.alloc (.cells #[.int .i64 (n : Int), .int .i64 98, .int .i64 (gI n), .int .i64 (gD n), .int .i64 (gC n)] 40)).alloc (.cells #[.int .i64 0] 3) = wa := ⟨_, rfl⟩
  have HA : Hid (Below w.heap.size w wa) := by rw [← hwa]; exact ((Below.refl _ _).alloc (Nat.le_refl _) _).alloc (by simp) _
  have HA0 : Hid (wa.heap[P + 1]? = some (.cells #[.int .i64 0] 3 (0, 0))) := by
    have := heap_alloc_new (w.alloc (.cells #[.int .i64 (n : Int), .int .i64 98, .int .i64 (gI n), .int .i64 (gD n), .int .i64 (gC n)] 40)) (.cells #[.int .i64 0] 3)
    rw [World.size_alloc] at this
    rw [← hwa, ← hP]; exact this
  have HAg : Hid (GeoAt wa P n) := by rw [← hwa, ← hP]; exact (Below.heap_alloc _ _ _ (by simp)).trans (heap_alloc_new _ _)
  obtain ⟨g0, g1, g2, g3, g4⟩ := HAg.out.cells
  rw [hwa, hP]
  clear hwa
  go_wp2_with (go_at_call 33; refine (HE.out _ (P + 1) HA.out (by omega) HA0.out).mono ?_; rintro e w1 ⟨rfl, h1, h2⟩; have H1 : Hid (Below w.heap.size w w1) := h1; have c0 : w1.cell? ⟨P + 1, 0, none⟩ = some (.int .i64 (m : Int)) := cell_of_row _ _ 0 _ _ _ h2; clear h1 h2 HE)
  go_ret2
  exact ⟨rfl, H1.out⟩
set_option maxRecDepth 100000 in
set_option maxHeartbeats 4000000 in
theorem itake_no (w0 w : World) (D : Dk) (T : Tx) (n : Nat) (x : Nat → Int) (hx : ∀ i, -9223372036854775808 ≤ x i ∧ x i ≤ 9223372036854775807) (hm : inUs x = true) (h : Spc w0 w D T n) (hT : TabAt w) (good : ∀ k, 1 ≤ k → k < nC n → decE (rc D T n k) = 0) (none9 : Lw (fun k => isFr (decX (rc D T n k))) (nC n) 0) :
    Calls Tryd.prog 15 #[.pointer (some ⟨T.t, 0, none⟩), geoV n, inV x] w fun e w' => e = .returned (.tuple #[.int .i64 0, .int .i64 90]) ∧ Below w.heap.size w w' := by
  have HU : Hid (∀ wx, Calls Tryd.prog 31 #[.agg #[.int .i64 (x 0), .int .i64 (x 1), .int .i64 (x 2), .int .i64 (x 3), .int .i64 (x 4), .int .i64 (x 5), .int .i64 (x 6), .int .i64 (x 7), .int .i64 (x 8), .int .i64 (x 9), .int .i64 (x 10), .int .i64 (x 11), .int .i64 (x 12), .int .i64 (x 13), .int .i64 (x 14)]] wx fun e w' => e = .returned (.bool true) ∧ Below wx.heap.size wx w') := fun wx => by
    have := inUse_any wx x hx
    rw [hm] at this
    exact this
  have HL : Hid (∀ wx, Below w.heap.size w wx → Calls Tryd.prog 32 #[.pointer (some ⟨T.t, 0, none⟩), .agg #[.int .i64 (n : Int), .int .i64 98, .int .i64 (gI n), .int .i64 (gD n), .int .i64 (gC n)]] wx fun e w' => e = .returned (.tuple #[.int .i64 0, .int .i64 90]) ∧ Below wx.heap.size wx w') := fun wx hb => by
    refine (lowf_any w0 wx D T n (h.on hb) (hT.on hb) good).mono ?_
    rintro e w' ⟨m, rfl, h1, h2⟩
    obtain rfl := h1.uniq none9
    exact ⟨rfl, h2⟩
  clear h hT good none9 hx hm
  unfold geoV inV
  obtain ⟨P, hP⟩ : ∃ P, w.heap.size = P := ⟨_, rfl⟩
  obtain ⟨wa, hwa⟩ : ∃ wa, (w.alloc (.cells #[.int .i64 (n : Int), .int .i64 98, .int .i64 (gI n), .int .i64 (gD n), .int .i64 (gC n)] 40)).alloc (.cells #[.int .i64 (x 0), .int .i64 (x 1), .int .i64 (x 2), .int .i64 (x 3), .int .i64 (x 4), .int .i64 (x 5), .int .i64 (x 6), .int .i64 (x 7), .int .i64 (x 8), .int .i64 (x 9), .int .i64 (x 10), .int .i64 (x 11), .int .i64 (x 12), .int .i64 (x 13), .int .i64 (x 14)] 24) = wa := ⟨_, rfl⟩
  have HA : Hid (Below w.heap.size w wa) := by rw [← hwa]; exact ((Below.refl _ _).alloc (Nat.le_refl _) _).alloc (by simp) _
  have HA0 : Hid (wa.heap[P + 1]? = some (.cells (inC x) 24 (0, 0))) := by
    have := heap_alloc_new (w.alloc (.cells #[.int .i64 (n : Int), .int .i64 98, .int .i64 (gI n), .int .i64 (gD n), .int .i64 (gC n)] 40)) (.cells #[.int .i64 (x 0), .int .i64 (x 1), .int .i64 (x 2), .int .i64 (x 3), .int .i64 (x 4), .int .i64 (x 5), .int .i64 (x 6), .int .i64 (x 7), .int .i64 (x 8), .int .i64 (x 9), .int .i64 (x 10), .int .i64 (x 11), .int .i64 (x 12), .int .i64 (x 13), .int .i64 (x 14)] 24)
    rw [World.size_alloc] at this
    rw [← hwa, ← hP]; exact this
  have HAg : Hid (GeoAt wa P n) := by rw [← hwa, ← hP]; exact (Below.heap_alloc _ _ _ (by simp)).trans (heap_alloc_new _ _)
  have q0 : wa.cell? ⟨P + 1, 0, none⟩ = some (.int .i64 (x 0)) := cell_of_row _ _ 0 _ _ _ HA0.out
  have q1 : wa.cell? ⟨P + 1, 1, none⟩ = some (.int .i64 (x 1)) := cell_of_row _ _ 1 _ _ _ HA0.out
  have q2 : wa.cell? ⟨P + 1, 2, none⟩ = some (.int .i64 (x 2)) := cell_of_row _ _ 2 _ _ _ HA0.out
  have q3 : wa.cell? ⟨P + 1, 3, none⟩ = some (.int .i64 (x 3)) := cell_of_row _ _ 3 _ _ _ HA0.out
  have q4 : wa.cell? ⟨P + 1, 4, none⟩ = some (.int .i64 (x 4)) := cell_of_row _ _ 4 _ _ _ HA0.out
  have q5 : wa.cell? ⟨P + 1, 5, none⟩ = some (.int .i64 (x 5)) := cell_of_row _ _ 5 _ _ _ HA0.out
  have q6 : wa.cell? ⟨P + 1, 6, none⟩ = some (.int .i64 (x 6)) := cell_of_row _ _ 6 _ _ _ HA0.out
  have q7 : wa.cell? ⟨P + 1, 7, none⟩ = some (.int .i64 (x 7)) := cell_of_row _ _ 7 _ _ _ HA0.out
  have q8 : wa.cell? ⟨P + 1, 8, none⟩ = some (.int .i64 (x 8)) := cell_of_row _ _ 8 _ _ _ HA0.out
  have q9 : wa.cell? ⟨P + 1, 9, none⟩ = some (.int .i64 (x 9)) := cell_of_row _ _ 9 _ _ _ HA0.out
  have q10 : wa.cell? ⟨P + 1, 10, none⟩ = some (.int .i64 (x 10)) := cell_of_row _ _ 10 _ _ _ HA0.out
  have q11 : wa.cell? ⟨P + 1, 11, none⟩ = some (.int .i64 (x 11)) := cell_of_row _ _ 11 _ _ _ HA0.out
  have q12 : wa.cell? ⟨P + 1, 12, none⟩ = some (.int .i64 (x 12)) := cell_of_row _ _ 12 _ _ _ HA0.out
  have q13 : wa.cell? ⟨P + 1, 13, none⟩ = some (.int .i64 (x 13)) := cell_of_row _ _ 13 _ _ _ HA0.out
  have q14 : wa.cell? ⟨P + 1, 14, none⟩ = some (.int .i64 (x 14)) := cell_of_row _ _ 14 _ _ _ HA0.out
  go_enter Tryd.func15, Tryd.ntmps15
  go_wp2_with (first
    | (go_at_call 31; refine (HU.out _).mono ?_; rintro e w1 ⟨rfl, h1⟩; have H1 : Hid (Below wa.heap.size wa w1) := h1; obtain ⟨g0, g1, g2, g3, g4⟩ := (HAg.out.on h1).cells; clear h1 HU)
    | (go_at_call 32; refine (HL.out _ (HA.out.trans (H1.out.mono HA.out.size))).mono ?_; rintro e w2 ⟨rfl, h2⟩; have H2 : Hid (Below wa.heap.size wa w2) := H1.out.trans (h2.mono H1.out.size); clear h2 HL))
  go_ret2
  exact ⟨rfl, HA.out.trans (H2.out.mono HA.out.size)⟩
set_option maxRecDepth 100000 in
set_option maxHeartbeats 4000000 in
theorem itake_ok (w0 w : World) (D : Dk) (T : Tx) (n m : Nat) (x : Nat → Int) (hx : ∀ i, -9223372036854775808 ≤ x i ∧ x i ≤ 9223372036854775807) (hm : inUs x = true) (h : Spc w0 w D T n) (hT : TabAt w) (good : ∀ k, 1 ≤ k → k < nC n → decE (rc D T n k) = 0) (low9 : Lw (fun k => isFr (decX (rc D T n k))) (nC n) m) (h1 : 1 ≤ m) (h2 : m < nC n) (hr : (T.c (rI n m)).isSome = true ∨ (lst T.c n).length < 96) (hu : T.us.length + 1 ≤ 1000000) :
    Calls Tryd.prog 15 #[.pointer (some ⟨T.t, 0, none⟩), geoV n, inV x] w fun e w' => e = .returned (.tuple #[.int .i64 (m : Int), .int .i64 0]) ∧ ∃ T', WrE w0 w w' D T T' n (rI n m) (ov (tv D T (rI n m)) (rA m) 64 (nth (rby x))) := by
  have HU : Hid (∀ wx, Calls Tryd.prog 31 #[.agg #[.int .i64 (x 0), .int .i64 (x 1), .int .i64 (x 2), .int .i64 (x 3), .int .i64 (x 4), .int .i64 (x 5), .int .i64 (x 6), .int .i64 (x 7), .int .i64 (x 8), .int .i64 (x 9), .int .i64 (x 10), .int .i64 (x 11), .int .i64 (x 12), .int .i64 (x 13), .int .i64 (x 14)]] wx fun e w' => e = .returned (.bool true) ∧ Below wx.heap.size wx w') := fun wx => by
    have := inUse_any wx x hx
    rw [hm] at this
    exact this
  have HL : Hid (∀ wx, Below w.heap.size w wx → Calls Tryd.prog 32 #[.pointer (some ⟨T.t, 0, none⟩), .agg #[.int .i64 (n : Int), .int .i64 98, .int .i64 (gI n), .int .i64 (gD n), .int .i64 (gC n)]] wx fun e w' => e = .returned (.tuple #[.int .i64 (m : Int), .int .i64 0]) ∧ Below wx.heap.size wx w') := fun wx hb => by
    refine (lowf_any w0 wx D T n (h.on hb) (hT.on hb) good).mono ?_
    rintro e w' ⟨m', rfl, g1, g2⟩
    obtain rfl := g1.uniq low9
    exact ⟨by rw [if_neg (by omega)], g2⟩
  have HP : Hid (∀ wx, Below w.heap.size w wx → Calls Tryd.prog 14 #[.pointer (some ⟨T.t, 0, none⟩), .agg #[.int .i64 (n : Int), .int .i64 98, .int .i64 (gI n), .int .i64 (gD n), .int .i64 (gC n)], .int .i64 (m : Int), .agg #[.int .i64 (x 0), .int .i64 (x 1), .int .i64 (x 2), .int .i64 (x 3), .int .i64 (x 4), .int .i64 (x 5), .int .i64 (x 6), .int .i64 (x 7), .int .i64 (x 8), .int .i64 (x 9), .int .i64 (x 10), .int .i64 (x 11), .int .i64 (x 12), .int .i64 (x 13), .int .i64 (x 14)]] wx fun e w' => e = .returned (.int .i64 0) ∧ ∃ T', WrE w0 w w' D T T' n (rI n m) (ov (tv D T (rI n m)) (rA m) 64 (nth (rby x)))) := fun wx hb => by
    refine (iput_ok w0 wx D T n m x hx (by unfold rMay; rw [hm, Bool.or_true]) (h.on hb) (hT.on hb) h1 h2 hr hu).mono ?_
    rintro e w' ⟨rfl, T', hw⟩
    exact ⟨rfl, T', (TMv.on hb).trans hw.mv, hw.spc, hw.t, hw.c, hw.u⟩
  clear h hT good low9 hx hm hr hu h1 h2
  generalize rI n m = B at *
  generalize ov (tv D T B) (rA m) 64 (nth (rby x)) = L at *
  unfold geoV inV
  obtain ⟨P, hP⟩ : ∃ P, w.heap.size = P := ⟨_, rfl⟩
  obtain ⟨wa, hwa⟩ : ∃ wa, (w.alloc (.cells #[.int .i64 (n : Int), .int .i64 98, .int .i64 (gI n), .int .i64 (gD n), .int .i64 (gC n)] 40)).alloc (.cells #[.int .i64 (x 0), .int .i64 (x 1), .int .i64 (x 2), .int .i64 (x 3), .int .i64 (x 4), .int .i64 (x 5), .int .i64 (x 6), .int .i64 (x 7), .int .i64 (x 8), .int .i64 (x 9), .int .i64 (x 10), .int .i64 (x 11), .int .i64 (x 12), .int .i64 (x 13), .int .i64 (x 14)] 24) = wa := ⟨_, rfl⟩
  have HA : Hid (Below w.heap.size w wa) := by rw [← hwa]; exact ((Below.refl _ _).alloc (Nat.le_refl _) _).alloc (by simp) _
  have HA0 : Hid (wa.heap[P + 1]? = some (.cells (inC x) 24 (0, 0))) := by
    have := heap_alloc_new (w.alloc (.cells #[.int .i64 (n : Int), .int .i64 98, .int .i64 (gI n), .int .i64 (gD n), .int .i64 (gC n)] 40)) (.cells #[.int .i64 (x 0), .int .i64 (x 1), .int .i64 (x 2), .int .i64 (x 3), .int .i64 (x 4), .int .i64 (x 5), .int .i64 (x 6), .int .i64 (x 7), .int .i64 (x 8), .int .i64 (x 9), .int .i64 (x 10), .int .i64 (x 11), .int .i64 (x 12), .int .i64 (x 13), .int .i64 (x 14)] 24)
    rw [World.size_alloc] at this
    rw [← hwa, ← hP]; exact this
  have HAg : Hid (GeoAt wa P n) := by rw [← hwa, ← hP]; exact (Below.heap_alloc _ _ _ (by simp)).trans (heap_alloc_new _ _)
  have q0 : wa.cell? ⟨P + 1, 0, none⟩ = some (.int .i64 (x 0)) := cell_of_row _ _ 0 _ _ _ HA0.out
  have q1 : wa.cell? ⟨P + 1, 1, none⟩ = some (.int .i64 (x 1)) := cell_of_row _ _ 1 _ _ _ HA0.out
  have q2 : wa.cell? ⟨P + 1, 2, none⟩ = some (.int .i64 (x 2)) := cell_of_row _ _ 2 _ _ _ HA0.out
  have q3 : wa.cell? ⟨P + 1, 3, none⟩ = some (.int .i64 (x 3)) := cell_of_row _ _ 3 _ _ _ HA0.out
  have q4 : wa.cell? ⟨P + 1, 4, none⟩ = some (.int .i64 (x 4)) := cell_of_row _ _ 4 _ _ _ HA0.out
  have q5 : wa.cell? ⟨P + 1, 5, none⟩ = some (.int .i64 (x 5)) := cell_of_row _ _ 5 _ _ _ HA0.out
  have q6 : wa.cell? ⟨P + 1, 6, none⟩ = some (.int .i64 (x 6)) := cell_of_row _ _ 6 _ _ _ HA0.out
  have q7 : wa.cell? ⟨P + 1, 7, none⟩ = some (.int .i64 (x 7)) := cell_of_row _ _ 7 _ _ _ HA0.out
  have q8 : wa.cell? ⟨P + 1, 8, none⟩ = some (.int .i64 (x 8)) := cell_of_row _ _ 8 _ _ _ HA0.out
  have q9 : wa.cell? ⟨P + 1, 9, none⟩ = some (.int .i64 (x 9)) := cell_of_row _ _ 9 _ _ _ HA0.out
  have q10 : wa.cell? ⟨P + 1, 10, none⟩ = some (.int .i64 (x 10)) := cell_of_row _ _ 10 _ _ _ HA0.out
  have q11 : wa.cell? ⟨P + 1, 11, none⟩ = some (.int .i64 (x 11)) := cell_of_row _ _ 11 _ _ _ HA0.out
  have q12 : wa.cell? ⟨P + 1, 12, none⟩ = some (.int .i64 (x 12)) := cell_of_row _ _ 12 _ _ _ HA0.out
  have q13 : wa.cell? ⟨P + 1, 13, none⟩ = some (.int .i64 (x 13)) := cell_of_row _ _ 13 _ _ _ HA0.out
  have q14 : wa.cell? ⟨P + 1, 14, none⟩ = some (.int .i64 (x 14)) := cell_of_row _ _ 14 _ _ _ HA0.out
  go_enter Tryd.func15, Tryd.ntmps15
  go_wp2_with (first
    | (go_at_call 31; refine (HU.out _).mono ?_; rintro e w1 ⟨rfl, h1⟩; have H1 : Hid (Below wa.heap.size wa w1) := h1; obtain ⟨g0, g1, g2, g3, g4⟩ := (HAg.out.on h1).cells; clear h1 HU)
    | (go_at_call 32; refine (HL.out _ (HA.out.trans (H1.out.mono HA.out.size))).mono ?_; rintro e w2 ⟨rfl, h2⟩; have H2 : Hid (Below wa.heap.size wa w2) := H1.out.trans (h2.mono H1.out.size); have hr2 := (H2.out.block _ (heap_lt HA0.out)).trans HA0.out; have w2q0 : w2.cell? ⟨P + 1, 0, none⟩ = some (.int .i64 (x 0)) := cell_of_row _ _ 0 _ _ _ hr2; have w2q1 : w2.cell? ⟨P + 1, 1, none⟩ = some (.int .i64 (x 1)) := cell_of_row _ _ 1 _ _ _ hr2; have w2q2 : w2.cell? ⟨P + 1, 2, none⟩ = some (.int .i64 (x 2)) := cell_of_row _ _ 2 _ _ _ hr2; have w2q3 : w2.cell? ⟨P + 1, 3, none⟩ = some (.int .i64 (x 3)) := cell_of_row _ _ 3 _ _ _ hr2; have w2q4 : w2.cell? ⟨P + 1, 4, none⟩ = some (.int .i64 (x 4)) := cell_of_row _ _ 4 _ _ _ hr2; have w2q5 : w2.cell? ⟨P + 1, 5, none⟩ = some (.int .i64 (x 5)) := cell_of_row _ _ 5 _ _ _ hr2; have w2q6 : w2.cell? ⟨P + 1, 6, none⟩ = some (.int .i64 (x 6)) := cell_of_row _ _ 6 _ _ _ hr2; have w2q7 : w2.cell? ⟨P + 1, 7, none⟩ = some (.int .i64 (x 7)) := cell_of_row _ _ 7 _ _ _ hr2; have w2q8 : w2.cell? ⟨P + 1, 8, none⟩ = some (.int .i64 (x 8)) := cell_of_row _ _ 8 _ _ _ hr2; have w2q9 : w2.cell? ⟨P + 1, 9, none⟩ = some (.int .i64 (x 9)) := cell_of_row _ _ 9 _ _ _ hr2; have w2q10 : w2.cell? ⟨P + 1, 10, none⟩ = some (.int .i64 (x 10)) := cell_of_row _ _ 10 _ _ _ hr2; have w2q11 : w2.cell? ⟨P + 1, 11, none⟩ = some (.int .i64 (x 11)) := cell_of_row _ _ 11 _ _ _ hr2; have w2q12 : w2.cell? ⟨P + 1, 12, none⟩ = some (.int .i64 (x 12)) := cell_of_row _ _ 12 _ _ _ hr2; have w2q13 : w2.cell? ⟨P + 1, 13, none⟩ = some (.int .i64 (x 13)) := cell_of_row _ _ 13 _ _ _ hr2; have w2q14 : w2.cell? ⟨P + 1, 14, none⟩ = some (.int .i64 (x 14)) := cell_of_row _ _ 14 _ _ _ hr2; obtain ⟨k0, k1, k2, k3, k4⟩ := (HAg.out.on H2.out).cells; clear h2 HL hr2)
    | (go_at_call 14; refine (HP.out _ (HA.out.trans (H2.out.mono HA.out.size))).mono ?_; rintro e w3 ⟨rfl, T', hw⟩; have H3 : Hid (WrE w0 w w3 D T T' n B L) := hw; clear hw HP))
  go_ret2
  exact ⟨rfl, T', H3.out⟩
end Go.Proofs.YtdheojhfgeabhaaDoor

namespace Go.Proofs.YtdheojhfgeabhaaDoor
open Go.RowKit Go.Maps Rec

theorem inV_sm {x y : Nat → Int} (h : Sm x y) : inV x = inV y := by
  unfold inV
  rw [h 0 (by omega), h 1 (by omega), h 2 (by omega), h 3 (by omega), h 4 (by omega), h 5 (by omega), h 6 (by omega), h 7 (by omega), h 8 (by omega), h 9 (by omega), h 10 (by omega), h 11 (by omega), h 12 (by omega), h 13 (by omega), h 14 (by omega)]
/-- another record at one number -/
def upR (H : Nat → Nat → Int) (k : Nat) (x : Nat → Int) : Nat → Nat → Int := fun j => if j = k then x else H j
theorem upR_same (H : Nat → Nat → Int) (k : Nat) (x : Nat → Int) : upR H k x k = x := if_pos rfl
theorem upR_other (H : Nat → Nat → Int) {k j : Nat} (x : Nat → Int) (h : j ≠ k) : upR H k x j = H j := if_neg h
/-- what a table holds -/
def Tbl (D : Dk) (T : Tx) (n : Nat) (H : Nat → Nat → Int) : Prop := ∀ k, 1 ≤ k → k < nC n → rMay (H k) = true ∧ rc D T n k = rby (H k)
theorem Tbl.good {D : Dk} {T : Tx} {n : Nat} {H : Nat → Nat → Int} (h : Tbl D T n H) (k : Nat) (h1 : 1 ≤ k) (h2 : k < nC n) : decE (rc D T n k) = 0 := by
  rw [(h k h1 h2).2]; exact decE_rby (h k h1 h2).1
theorem Tbl.sm {D : Dk} {T : Tx} {n : Nat} {H : Nat → Nat → Int} (h : Tbl D T n H) (k : Nat) (h1 : 1 ≤ k) (h2 : k < nC n) : Sm (decX (rc D T n k)) (H k) := by
  rw [(h k h1 h2).2]; exact decX_rby (h k h1 h2).1
theorem Tbl.fr {D : Dk} {T : Tx} {n : Nat} {H : Nat → Nat → Int} (h : Tbl D T n H) (k : Nat) (h1 : 1 ≤ k) (h2 : k < nC n) : isFr (decX (rc D T n k)) = isFr (H k) := (h.sm k h1 h2).isFr
theorem Lw.cong {f g : Nat → Bool} {C m : Nat} (h : Lw f C m) (e : ∀ k, 1 ≤ k → k < C → f k = g k) : Lw g C m := by
  rcases h with ⟨rfl, h⟩ | ⟨h1, h2, h3, h4⟩
  · exact .inl ⟨rfl, fun j j1 j2 => by rw [← e j j1 j2]; exact h j j1 j2⟩
  · exact .inr ⟨h1, h2, by rw [← e m h1 h2]; exact h3, fun j j1 j2 => by rw [← e j j1 (by omega)]; exact h4 j j1 j2⟩
theorem cf_cong {f g : Nat → Bool} : ∀ {C : Nat}, (∀ k, 1 ≤ k → k < C → f k = g k) → cf f C = cf g C
  | 0, _ => rfl
  | k + 1, e => by
    show cf f k + _ = cf g k + _
    rw [cf_cong (C := k) (fun j h1 h2 => e j h1 (by omega))]
    by_cases h : 1 ≤ k
    · rw [e k h (by omega)]
    · rw [if_neg (fun c => h c.1), if_neg (fun c => h c.1)]
theorem fld_ov_in (B : List Int) (A : Nat) (R : List Int) (hR : R.length = 64) (hB : A + 64 ≤ B.length) : fld (ov B A 64 (nth R)) A 64 = R := by
  refine ext_nth (by rw [fld_length _ _ _ (by rw [ov_length]; exact hB), hR]) fun i hi => ?_
  rw [fld_length _ _ _ (by rw [ov_length]; exact hB)] at hi
  rw [nth_fld _ _ _ _ hi, nth_ov _ _ _ _ _ (by omega), if_pos (by omega), Nat.add_sub_cancel_left]
theorem fld_ov_out (B : List Int) (A A' : Nat) (f : Nat → Int) (hB : A' + 64 ≤ B.length) (h : A' + 64 ≤ A ∨ A + 64 ≤ A') : fld (ov B A 64 f) A' 64 = fld B A' 64 := by
  refine ext_nth (by rw [fld_length _ _ _ (by rw [ov_length]; exact hB), fld_length _ _ _ hB]) fun i hi => ?_
  rw [fld_length _ _ _ (by rw [ov_length]; exact hB)] at hi
  rw [nth_fld _ _ _ _ hi, nth_fld _ _ _ _ hi, nth_ov _ _ _ _ _ (by omega), if_neg (by omega)]
/-- a session on a table -/
structure Tb (w0 w : World) (D : Dk) (T : Tx) (n : Nat) (H : Nat → Nat → Int) (U : Nat) : Prop where
  spc : Spc w0 w D T n
  t0 : TabAt w0
  tbl : Tbl D T n H
  room : ∀ i q, T.c i = some q → 98 + nM n ≤ i ∧ i < nD n
  us : T.us.length ≤ U
theorem Tb.on {w0 w w' : World} {D : Dk} {T : Tx} {n U : Nat} {H : Nat → Nat → Int} (h : Tb w0 w D T n H U) (hb : Below w.heap.size w w') : Tb w0 w' D T n H U := ⟨h.spc.on hb, h.t0, h.tbl, h.room, h.us⟩
theorem Tb.tab {w0 w : World} {D : Dk} {T : Tx} {n U : Nat} {H : Nat → Nat → Int} (h : Tb w0 w D T n H U) : TabAt w := h.t0.on h.spc.ses.bel
theorem lst_room (c : Cm) (lo hi : Nat) (h : ∀ i q, c i = some q → lo ≤ i ∧ i < hi) : ∀ n, (lst c n).length ≤ min n hi - lo
  | 0 => by simp [lst]
  | n + 1 => by
    have ih := lst_room c lo hi h n
    have e : lst c (n + 1) = lst c n ++ (c n).toList := by
      unfold lst
      rw [List.range_succ, List.filterMap_append]
      cases hc : c n <;> simp [hc]
    rw [e, List.length_append]
    cases hc : c n with
    | none => simp; omega
    | some q =>
      have := h n q hc
      simp
      omega
theorem Tb.cnt {w0 w : World} {D : Dk} {T : Tx} {n U : Nat} {H : Nat → Nat → Int} (h : Tb w0 w D T n H U) (hn : n ≤ 6000) : (lst T.c n).length < 96 := by
  have := lst_room T.c _ _ h.room n
  have := nM_bd h.spc.lo h.spc.hi
  unfold nD at *
  omega
theorem Tb.wr {w0 w w' : World} {D : Dk} {T T' : Tx} {n k U : Nat} {H : Nat → Nat → Int} {x : Nat → Int} (h : Tb w0 w D T n H U) (h2 : k < nC n) (hm : rMay x = true) (hw : WrE w0 w w' D T T' n (rI n k) (ov (tv D T (rI n k)) (rA k) 64 (nth (rby x)))) : Tb w0 w' D T' n (upR H k x) (U + 1) := by
  obtain ⟨q, hc, hq⟩ := hw.c
  obtain ⟨u, hu, _⟩ := hw.u
  have hI := rI_bd h.spc.lo h.spc.hi h2
  have hA := rA_bd k
  refine ⟨hw.spc, h.t0, fun j j1 j2 => ?_, fun i p hp => ?_, by rw [hu, List.length_append]; have := h.us; simp; omega⟩
  · have hJ := rI_bd h.spc.lo h.spc.hi j2
    have hJA := rA_bd j
    have hl := (h.spc.ok (rI n j) hJ.2.1).1
    by_cases e : j = k
    · subst e
      rw [upR_same]
      refine ⟨hm, ?_⟩
      rw [rc, tv_ups hc, if_pos rfl, hq]
      exact fld_ov_in _ _ _ (rby_length x) (by omega)
    · rw [upR_other _ _ e]
      refine ⟨(h.tbl j j1 j2).1, ?_⟩
      rw [← (h.tbl j j1 j2).2, rc, rc, tv_ups hc]
      by_cases e2 : rI n j = rI n k
      · rw [if_pos e2, hq, ← e2]
        refine fld_ov_out _ _ _ _ (by omega) ?_
        unfold rI at e2
        unfold rA
        omega
      · rw [if_neg e2]
  · rw [hc] at hp
    by_cases e : i = rI n k
    · subst e; exact ⟨hI.2.2.1, hI.2.2.2⟩
    · rw [ups_other _ _ e] at hp; exact h.room i p hp
theorem tget (w0 w : World) (D : Dk) (T : Tx) (n U : Nat) (H : Nat → Nat → Int) (h : Tb w0 w D T n H U) (k : Nat) (h1 : 1 ≤ k) (h2 : k < nC n) :
    Calls Tryd.prog 16 #[.pointer (some ⟨T.t, 0, none⟩), geoV n, .int .i64 (k : Int)] w fun e w' => e = .returned (.tuple #[inV (H k), .int .i64 0]) ∧ Below w.heap.size w w' := by
  have := iget_ok w0 w D T n k h.spc h.tab h1 h2
  rw [h.tbl.good k h1 h2, inV_sm (h.tbl.sm k h1 h2)] at this
  exact this
theorem tput (w0 w : World) (D : Dk) (T : Tx) (n U : Nat) (H : Nat → Nat → Int) (h : Tb w0 w D T n H U) (k : Nat) (h1 : 1 ≤ k) (h2 : k < nC n) (x : Nat → Int) (hx : ∀ i, -9223372036854775808 ≤ x i ∧ x i ≤ 9223372036854775807) (hm : rMay x = true) (hn : n ≤ 6000) (hU : U + 1 ≤ 1000000) :
    Calls Tryd.prog 14 #[.pointer (some ⟨T.t, 0, none⟩), geoV n, .int .i64 (k : Int), inV x] w fun e w' => e = .returned (.int .i64 0) ∧ ∃ T', T'.t = T.t ∧ Tb w0 w' D T' n (upR H k x) (U + 1) ∧ TMv w T w' T' := by
  refine (iput_ok w0 w D T n k x hx hm h.spc h.tab h1 h2 (.inr (h.cnt hn)) (by have := h.us; omega)).mono ?_
  rintro e w' ⟨rfl, T', hw⟩
  exact ⟨rfl, T', hw.t, h.wr h2 hm hw, hw.mv⟩
theorem ttake_ok (w0 w : World) (D : Dk) (T : Tx) (n U : Nat) (H : Nat → Nat → Int) (h : Tb w0 w D T n H U) (m : Nat) (hL : Lw (fun k => isFr (H k)) (nC n) m) (h1 : 1 ≤ m) (h2 : m < nC n) (x : Nat → Int) (hx : ∀ i, -9223372036854775808 ≤ x i ∧ x i ≤ 9223372036854775807) (hm : inUs x = true) (hn : n ≤ 6000) (hU : U + 1 ≤ 1000000) :
    Calls Tryd.prog 15 #[.pointer (some ⟨T.t, 0, none⟩), geoV n, inV x] w fun e w' => e = .returned (.tuple #[.int .i64 (m : Int), .int .i64 0]) ∧ ∃ T', T'.t = T.t ∧ Tb w0 w' D T' n (upR H m x) (U + 1) ∧ TMv w T w' T' := by
  refine (itake_ok w0 w D T n m x hx hm h.spc h.tab h.tbl.good (hL.cong fun k k1 k2 => (h.tbl.fr k k1 k2).symm) h1 h2 (.inr (h.cnt hn)) (by have := h.us; omega)).mono ?_
  rintro e w' ⟨rfl, T', hw⟩
  exact ⟨rfl, T', hw.t, h.wr h2 (by unfold rMay; rw [hm, Bool.or_true]) hw, hw.mv⟩
theorem ttake_no (w0 w : World) (D : Dk) (T : Tx) (n U : Nat) (H : Nat → Nat → Int) (h : Tb w0 w D T n H U) (hL : Lw (fun k => isFr (H k)) (nC n) 0) (x : Nat → Int) (hx : ∀ i, -9223372036854775808 ≤ x i ∧ x i ≤ 9223372036854775807) (hm : inUs x = true) :
    Calls Tryd.prog 15 #[.pointer (some ⟨T.t, 0, none⟩), geoV n, inV x] w fun e w' => e = .returned (.tuple #[.int .i64 0, .int .i64 90]) ∧ Below w.heap.size w w' :=
  itake_no w0 w D T n x hx hm h.spc h.tab h.tbl.good (hL.cong fun k k1 k2 => (h.tbl.fr k k1 k2).symm)
theorem tfree (w0 w : World) (D : Dk) (T : Tx) (n U : Nat) (H : Nat → Nat → Int) (h : Tb w0 w D T n H U) :
    Calls Tryd.prog 17 #[.pointer (some ⟨T.t, 0, none⟩), geoV n] w fun e w' => e = .returned (.tuple #[.int .i64 ((cf (fun k => isFr (H k)) (nC n) : Nat) : Int), .int .i64 0]) ∧ Below w.heap.size w w' := by
  have := ifree_any w0 w D T n h.spc h.tab h.tbl.good
  rw [cf_cong (g := fun k => isFr (H k)) (fun k k1 k2 => h.tbl.fr k k1 k2)] at this
  exact this
/-- a table of zeros -/
theorem tb_start {w0 w : World} {D : Dk} {T : Tx} {n : Nat} (t0 : TabAt w0) (hs : Ses w0 w D T) (hf : D.full = zsA (512 * n)) (hd : D.down = false) (hc : T.c = fun _ => none) (hu : T.us = []) (hn : T.nb = n) (h0 : 128 ≤ n) (h1 : n ≤ 16384) : Tb w0 w D T n (fun _ => z15) 0 := by
  have htv : ∀ i, i < n → tv D T i = zs := fun i hi => by rw [tv, hc, hf]; exact zsA_block n i hi
  refine ⟨⟨hs, hd, hn, h0, h1, fun i hi => ?_⟩, t0, fun k k1 k2 => ⟨rMay_z15, ?_⟩, fun i q hq => (by rw [hc] at hq; cases hq), by rw [hu]; simp⟩
  · rw [htv i hi]
    exact ⟨zs_length, fun j => by rw [nth_zs]; omega⟩
  · have hI := rI_bd h0 h1 k2
    have hA := rA_bd k
    rw [rc, htv _ hI.2.1, ← zs64_rby]
    refine ext_nth (by rw [fld_length _ _ _ (by rw [zs_length]; omega), zs64_length]) fun i hi => ?_
    rw [fld_length _ _ _ (by rw [zs_length]; omega)] at hi
    rw [nth_fld _ _ _ _ hi, nth_zs, nth_zs64]
end Go.Proofs.YtdheojhfgeabhaaDoor
