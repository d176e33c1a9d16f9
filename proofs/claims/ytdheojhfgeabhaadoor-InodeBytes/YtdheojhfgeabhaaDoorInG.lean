import Derived.Test.YtdheojhfgeabhaaDoorInF
namespace Go.Proofs.YtdheojhfgeabhaaDoor
open Go.RowKit Go.Maps Rec

/-- how many inodes; where a record stands -/
def nC (n : Nat) : Nat := n / 64 * 8
theorem gC_nat (n : Nat) : gC (n : Int) = ((nC n : Nat) : Int) := by unfold gC nC; omega
def rI (n k : Nat) : Nat := 98 + nM n + k / 8
def rA (k : Nat) : Nat := k % 8 * 64
theorem rI_bd {n k : Nat} (h0 : 128 ≤ n) (h1 : n ≤ 16384) (hk : k < nC n) : 98 ≤ rI n k ∧ rI n k < n ∧ 98 + nM n ≤ rI n k ∧ rI n k < nD n := by
  have := nM_bd h0 h1
  unfold nC at hk
  unfold rI nD at *
  omega
theorem rA_bd (k : Nat) : rA k + 64 ≤ 512 := by unfold rA; omega
/-- a record's bytes, as a transaction reads them -/
def rc (D : Dk) (T : Tx) (n k : Nat) : List Int := fld (tv D T (rI n k)) (rA k) 64
theorem rc_len {w0 w : World} {D : Dk} {T : Tx} {n k : Nat} (h : Spc w0 w D T n) (hk : k < nC n) : (rc D T n k).length = 64 := by
  have := rI_bd h.lo h.hi hk
  have := rA_bd k
  exact fld_length _ _ _ (by rw [(h.ok _ (by omega)).1]; omega)
theorem record_ok (w : World) (n k : Nat) (h0 : 128 ≤ n) (h1 : n ≤ 16384) (hk0 : 1 ≤ k) (hk : k < nC n) : Calls Tryd.prog 28 #[geoV n, .int .i64 (k : Int)] w fun e w' => e = .returned (.tuple #[.int .i64 ((rI n k : Nat) : Int), .int .i64 ((rA k : Nat) : Int), .int .i64 0]) ∧ Below w.heap.size w w' := by
  have hc := gC_nat n
  unfold nC at hk
  have := grec_any w (n : Int) (k : Int) (isLen_yes (by omega)) (by omega)
  rw [recA_in (by rw [hc]; unfold nC; omega), gI_nat, show ((98 + nM n : Nat) : Int) + (k : Int) / 8 = ((rI n k : Nat) : Int) by unfold rI; omega, show (k : Int) % 8 * 64 = ((rA k : Nat) : Int) by unfold rA; omega] at this
  exact this
set_option maxRecDepth 100000 in
set_option maxHeartbeats 4000000 in
theorem iget_ok (w0 w : World) (D : Dk) (T : Tx) (n k : Nat) (h : Spc w0 w D T n) (hT : TabAt w) (hk0 : 1 ≤ k) (hk : k < nC n) :
    Calls Tryd.prog 16 #[.pointer (some ⟨T.t, 0, none⟩), geoV n, .int .i64 (k : Int)] w fun e w' => e = .returned (.tuple #[inV (decX (rc D T n k)), .int .i64 (decE (rc D T n k))]) ∧ Below w.heap.size w w' := by
  have hI := rI_bd h.lo h.hi hk
  have hA := rA_bd k
  have HG : Hid (∀ wx, Calls Tryd.prog 28 #[.agg #[.int .i64 (n : Int), .int .i64 98, .int .i64 (gI n), .int .i64 (gD n), .int .i64 (gC n)], .int .i64 (k : Int)] wx fun e w' => e = .returned (.tuple #[.int .i64 ((rI n k : Nat) : Int), .int .i64 ((rA k : Nat) : Int), .int .i64 0]) ∧ Below wx.heap.size wx w') := fun wx => record_ok wx n k h.lo h.hi hk0 hk
  have HR : Hid (∀ wx, Below w.heap.size w wx → Calls Tryd.prog 29 #[.pointer (some ⟨T.t, 0, none⟩), .int .i64 ((rI n k : Nat) : Int)] wx fun e w' => ∃ g cap, e = .returned (.tuple #[.slice (some ⟨g, 0, none⟩) 512 cap, .int .i64 0]) ∧ wx.heap.size ≤ g ∧ OwnB w' g cap (tv D T (rI n k)) ∧ Below wx.heap.size wx w') := fun wx hb => (h.on hb).read _ hI.2.1
  have HLn : Hid ((tv D T (rI n k)).length = 512) := (h.ok _ hI.2.1).1
  have HT : Hid (TabAt w) := hT
  have HDc : Hid (∀ wx g cap, Below w.heap.size w wx → OwnB wx g cap (tv D T (rI n k)) → Calls Tryd.prog 9 #[.slice (some ⟨g, rA k, none⟩) 64 (cap - rA k)] wx fun e w' => e = .returned (.tuple #[inV (decX (rc D T n k)), .int .i64 (decE (rc D T n k))]) ∧ Below wx.heap.size wx w') := fun wx g cap hb ho => by
    have hr := ho.room
    have hl := HLn.out
    exact dec_any wx _ 64 _ _ (fld_length _ _ _ (by omega)) (ho.bytes.field (by omega) _ (.inl (by omega))) (by omega) (HT.out.on hb)
  clear h hT hk hk0
  generalize decX (rc D T n k) = y at *
  generalize decE (rc D T n k) = de at *
  generalize hB : rI n k = B at *
  generalize hAA : rA k = A at *
  clear hB hAA
  unfold inV at HDc
  obtain ⟨P, hP⟩ : ∃ P, w.heap.size = P := ⟨_, rfl⟩
  obtain ⟨wa, hwa⟩ : ∃ wa, (w.alloc (.cells #[.int .i64 (n : Int), .int .i64 98, .int .i64 (gI n), .int .i64 (gD n), .int .i64 (gC n)] 40)).alloc (.cells #[.int .i64 0, .int .i64 0, .int .i64 0, .int .i64 0, .int .i64 0, .int .i64 0, .int .i64 0, .int .i64 0, .int .i64 0, .int .i64 0, .int .i64 0, .int .i64 0, .int .i64 0, .int .i64 0, .int .i64 0] 24) = wa := ⟨_, rfl⟩
  have HA : Hid (Below w.heap.size w wa) := by rw [← hwa]; exact ((Below.refl _ _).alloc (Nat.le_refl _) _).alloc (by simp) _
  have HA0 : Hid (wa.heap[P + 1]? = some (.cells #[.int .i64 0, .int .i64 0, .int .i64 0, .int .i64 0, .int .i64 0, .int .i64 0, .int .i64 0, .int .i64 0, .int .i64 0, .int .i64 0, .int .i64 0, .int .i64 0, .int .i64 0, .int .i64 0, .int .i64 0] 24 (0, 0))) := by
    have := heap_alloc_new (w.alloc (.cells #[.int .i64 (n : Int), .int .i64 98, .int .i64 (gI n), .int .i64 (gD n), .int .i64 (gC n)] 40)) (.cells #[.int .i64 0, .int .i64 0, .int .i64 0, .int .i64 0, .int .i64 0, .int .i64 0, .int .i64 0, .int .i64 0, .int .i64 0, .int .i64 0, .int .i64 0, .int .i64 0, .int .i64 0, .int .i64 0, .int .i64 0] 24)
    rw [World.size_alloc] at this
    rw [← hwa, ← hP]; exact this
  have HAg : Hid (GeoAt wa P n) := by rw [← hwa, ← hP]; exact (Below.heap_alloc _ _ _ (by simp)).trans (heap_alloc_new _ _)
  obtain ⟨g0, g1, g2, g3, g4⟩ := HAg.out.cells
  go_enter Tryd.func16, Tryd.ntmps16
  unfold geoV
  go_wp2_with (first
    | (go_at_call 28; refine (HG.out _).mono ?_; rintro e w1 ⟨rfl, h1⟩; have H1 : Hid (Below wa.heap.size wa w1) := h1; clear h1 HG)
    | (go_at_call 29; refine (HR.out _ (HA.out.trans (H1.out.mono HA.out.size))).mono ?_; rintro e w2 ⟨g, cap, rfl, h1, h2, h3⟩; have H2 : Hid (Below wa.heap.size wa w2 ∧ OwnB w2 g cap (tv D T B)) := ⟨H1.out.trans (h3.mono H1.out.size), h2⟩; have hcap : 512 ≤ cap := (by have := h2.room; have := HLn.out; omega); have hcA : ¬ cap = A := (by omega); clear h1 h2 h3)
    | (go_at_call 9; refine (HDc.out _ g cap (HA.out.trans (H2.out.1.mono HA.out.size)) H2.out.2).mono ?_; rintro e w3 ⟨rfl, h1⟩; have H3 : Hid (Below wa.heap.size wa w3) := H2.out.1.trans (h1.mono H2.out.1.size); have H0 : Hid (w3.heap[P + 1]? = some (.cells #[.int .i64 0, .int .i64 0, .int .i64 0, .int .i64 0, .int .i64 0, .int .i64 0, .int .i64 0, .int .i64 0, .int .i64 0, .int .i64 0, .int .i64 0, .int .i64 0, .int .i64 0, .int .i64 0, .int .i64 0] 24 (0, 0))) := (H3.out.block _ (heap_lt HA0.out)).trans HA0.out; have d0 : w3.cell? ⟨P + 1, 0, none⟩ = some (.int .i64 0) := cell_of_row _ _ 0 _ _ _ H0.out; have f0 : w3.frozen? ⟨P + 1, 0, none⟩ = false := frozen_of_row _ _ _ _ _ H0.out; have d1 : w3.cell? ⟨P + 1, 1, none⟩ = some (.int .i64 0) := cell_of_row _ _ 1 _ _ _ H0.out; have f1 : w3.frozen? ⟨P + 1, 1, none⟩ = false := frozen_of_row _ _ _ _ _ H0.out; have d2 : w3.cell? ⟨P + 1, 2, none⟩ = some (.int .i64 0) := cell_of_row _ _ 2 _ _ _ H0.out; have f2 : w3.frozen? ⟨P + 1, 2, none⟩ = false := frozen_of_row _ _ _ _ _ H0.out; have d3 : w3.cell? ⟨P + 1, 3, none⟩ = some (.int .i64 0) := cell_of_row _ _ 3 _ _ _ H0.out; have f3 : w3.frozen? ⟨P + 1, 3, none⟩ = false := frozen_of_row _ _ _ _ _ H0.out; have d4 : w3.cell? ⟨P + 1, 4, none⟩ = some (.int .i64 0) := cell_of_row _ _ 4 _ _ _ H0.out; have f4 : w3.frozen? ⟨P + 1, 4, none⟩ = false := frozen_of_row _ _ _ _ _ H0.out; have d5 : w3.cell? ⟨P + 1, 5, none⟩ = some (.int .i64 0) := cell_of_row _ _ 5 _ _ _ H0.out; have f5 : w3.frozen? ⟨P + 1, 5, none⟩ = false := frozen_of_row _ _ _ _ _ H0.out; have d6 : w3.cell? ⟨P + 1, 6, none⟩ = some (.int .i64 0) := cell_of_row _ _ 6 _ _ _ H0.out; have f6 : w3.frozen? ⟨P + 1, 6, none⟩ = false := frozen_of_row _ _ _ _ _ H0.out; have d7 : w3.cell? ⟨P + 1, 7, none⟩ = some (.int .i64 0) := cell_of_row _ _ 7 _ _ _ H0.out; have f7 : w3.frozen? ⟨P + 1, 7, none⟩ = false := frozen_of_row _ _ _ _ _ H0.out; have d8 : w3.cell? ⟨P + 1, 8, none⟩ = some (.int .i64 0) := cell_of_row _ _ 8 _ _ _ H0.out; have f8 : w3.frozen? ⟨P + 1, 8, none⟩ = false := frozen_of_row _ _ _ _ _ H0.out; have d9 : w3.cell? ⟨P + 1, 9, none⟩ = some (.int .i64 0) := cell_of_row _ _ 9 _ _ _ H0.out; have f9 : w3.frozen? ⟨P + 1, 9, none⟩ = false := frozen_of_row _ _ _ _ _ H0.out; have d10 : w3.cell? ⟨P + 1, 10, none⟩ = some (.int .i64 0) := cell_of_row _ _ 10 _ _ _ H0.out; have f10 : w3.frozen? ⟨P + 1, 10, none⟩ = false := frozen_of_row _ _ _ _ _ H0.out; have d11 : w3.cell? ⟨P + 1, 11, none⟩ = some (.int .i64 0) := cell_of_row _ _ 11 _ _ _ H0.out; have f11 : w3.frozen? ⟨P + 1, 11, none⟩ = false := frozen_of_row _ _ _ _ _ H0.out; have d12 : w3.cell? ⟨P + 1, 12, none⟩ = some (.int .i64 0) := cell_of_row _ _ 12 _ _ _ H0.out; have f12 : w3.frozen? ⟨P + 1, 12, none⟩ = false := frozen_of_row _ _ _ _ _ H0.out; have d13 : w3.cell? ⟨P + 1, 13, none⟩ = some (.int .i64 0) := cell_of_row _ _ 13 _ _ _ H0.out; have f13 : w3.frozen? ⟨P + 1, 13, none⟩ = false := frozen_of_row _ _ _ _ _ H0.out; have d14 : w3.cell? ⟨P + 1, 14, none⟩ = some (.int .i64 0) := cell_of_row _ _ 14 _ _ _ H0.out; have f14 : w3.frozen? ⟨P + 1, 14, none⟩ = false := frozen_of_row _ _ _ _ _ H0.out; clear h1))
  refine bodyPost_ret (results_row_tmp7 rfl _ _ (P + 1) (inC y) rfl ?_) rfl ?_
  · refine load15 _ (P + 1) (y 0) (y 1) (y 2) (y 3) (y 4) (y 5) (y 6) (y 7) (y 8) (y 9) (y 10) (y 11) (y 12) (y 13) (y 14) ?_
    exact set15 _ (P + 1) (.int .i64 0) (.int .i64 0) (.int .i64 0) (.int .i64 0) (.int .i64 0) (.int .i64 0) (.int .i64 0) (.int .i64 0) (.int .i64 0) (.int .i64 0) (.int .i64 0) (.int .i64 0) (.int .i64 0) (.int .i64 0) (.int .i64 0) (.int .i64 (y 0)) (.int .i64 (y 1)) (.int .i64 (y 2)) (.int .i64 (y 3)) (.int .i64 (y 4)) (.int .i64 (y 5)) (.int .i64 (y 6)) (.int .i64 (y 7)) (.int .i64 (y 8)) (.int .i64 (y 9)) (.int .i64 (y 10)) (.int .i64 (y 11)) (.int .i64 (y 12)) (.int .i64 (y 13)) (.int .i64 (y 14)) H0.out
  · refine ⟨rfl, ?_⟩
    iterate 15 refine below_put ?_ (Nat.le_refl _) (by omega)
    exact HA.out.trans (H3.out.mono HA.out.size)
set_option maxRecDepth 100000 in
set_option maxHeartbeats 4000000 in
theorem iput_ok (w0 w : World) (D : Dk) (T : Tx) (n k : Nat) (x : Nat → Int) (hx : ∀ i, -9223372036854775808 ≤ x i ∧ x i ≤ 9223372036854775807) (hm : rMay x = true) (h : Spc w0 w D T n) (hT : TabAt w) (hk0 : 1 ≤ k) (hk : k < nC n) (hr : (T.c (rI n k)).isSome = true ∨ (lst T.c n).length < 96) (hu : T.us.length + 1 ≤ 1000000) :
    Calls Tryd.prog 14 #[.pointer (some ⟨T.t, 0, none⟩), geoV n, .int .i64 (k : Int), inV x] w fun e w' => e = .returned (.int .i64 0) ∧ ∃ T', WrE w0 w w' D T T' n (rI n k) (ov (tv D T (rI n k)) (rA k) 64 (nth (rby x))) := by
  have hI := rI_bd h.lo h.hi hk
  have hA := rA_bd k
  have HG : Hid (∀ wx, Calls Tryd.prog 28 #[.agg #[.int .i64 (n : Int), .int .i64 98, .int .i64 (gI n), .int .i64 (gD n), .int .i64 (gC n)], .int .i64 (k : Int)] wx fun e w' => e = .returned (.tuple #[.int .i64 ((rI n k : Nat) : Int), .int .i64 ((rA k : Nat) : Int), .int .i64 0]) ∧ Below wx.heap.size wx w') := fun wx => record_ok wx n k h.lo h.hi hk0 hk
  have HR : Hid (∀ wx, Below w.heap.size w wx → Calls Tryd.prog 29 #[.pointer (some ⟨T.t, 0, none⟩), .int .i64 ((rI n k : Nat) : Int)] wx fun e w' => ∃ g cap, e = .returned (.tuple #[.slice (some ⟨g, 0, none⟩) 512 cap, .int .i64 0]) ∧ wx.heap.size ≤ g ∧ OwnB w' g cap (tv D T (rI n k)) ∧ Below wx.heap.size wx w') := fun wx hb => (h.on hb).read _ hI.2.1
  have HEn : Hid (∀ wx, Below w.heap.size w wx → Calls Tryd.prog 6 #[.agg #[.int .i64 (x 0), .int .i64 (x 1), .int .i64 (x 2), .int .i64 (x 3), .int .i64 (x 4), .int .i64 (x 5), .int .i64 (x 6), .int .i64 (x 7), .int .i64 (x 8), .int .i64 (x 9), .int .i64 (x 10), .int .i64 (x 11), .int .i64 (x 12), .int .i64 (x 13), .int .i64 (x 14)]] wx fun e w' => ∃ g, e = .returned (.tuple #[.slice (some ⟨g, 0, none⟩) 64 64, .int .i64 0]) ∧ wx.heap.size ≤ g ∧ OwnB w' g 64 (rby x) ∧ Below wx.heap.size wx w') := fun wx hb => enc_ok wx x hx hm (hT.on hb)
  have HLn : Hid ((tv D T (rI n k)).length = 512) := (h.ok _ hI.2.1).1
  have HWr : Hid (∀ wx g cap, Below w.heap.size w wx → OwnB wx g cap (ov (tv D T (rI n k)) (rA k) 64 (nth (rby x))) → Calls Tryd.prog 30 #[.pointer (some ⟨T.t, 0, none⟩), .int .i64 ((rI n k : Nat) : Int), .slice (some ⟨g, 0, none⟩) 512 cap] wx fun e w' => e = .returned (.int .i64 0) ∧ ∃ T', WrE w0 w w' D T T' n (rI n k) (ov (tv D T (rI n k)) (rA k) 64 (nth (rby x)))) := fun wx g cap hb ho => by
    refine ((h.on hb).write _ hI.1 hI.2.1 ⟨g, 0, none⟩ cap _ ho.bytes (by rw [ov_length]; exact HLn.out) hr hu).mono ?_
    rintro e w' ⟨rfl, T', hw⟩
    exact ⟨rfl, T', (TMv.on hb).trans hw.mv, hw.spc, hw.t, hw.c, hw.u⟩
  have HRl : Hid ((rby x).length = 64) := rby_length x
  clear h hT hk hk0 hx hm hr hu
  unfold inV geoV
  generalize hB : rI n k = B at *
  generalize hAA : rA k = A at *
  generalize rby x = R at *
  clear hB hAA
  obtain ⟨P, hP⟩ : ∃ P, w.heap.size = P := ⟨_, rfl⟩
  obtain ⟨wa, hwa⟩ : ∃ wa, (w.alloc (.cells #[.int .i64 (n : Int), .int .i64 98, .int .i64 (gI n), .int .i64 (gD n), .int .i64 (gC n)] 40)).alloc (.cells #[.int .i64 (x 0), .int .i64 (x 1), .int .i64 (x 2), .int .i64 (x 3), .int .i64 (x 4), .int .i64 (x 5), .int .i64 (x 6), .int .i64 (x 7), .int .i64 (x 8), .int .i64 (x 9), .int .i64 (x 10), .int .i64 (x 11), .int .i64 (x 12), .int .i64 (x 13), .int .i64 (x 14)] 24) = wa := ⟨_, rfl⟩
  have HA : Hid (Below w.heap.size w wa) := by rw [← hwa]; exact ((Below.refl _ _).alloc (Nat.le_refl _) _).alloc (by simp) _
  have HA0 : Hid (wa.heap[P + 1]? = some (.cells (inC x) 24 (0, 0))) := by
    have := heap_alloc_new (w.alloc (.cells #[.int .i64 (n : Int), .int .i64 98, .int .i64 (gI n), .int .i64 (gD n), .int .i64 (gC n)] 40)) (.cells #[.int .i64 (x 0), .int .i64 (x 1), .int .i64 (x 2), .int .i64 (x 3), .int .i64 (x 4), .int .i64 (x 5), .int .i64 (x 6), .int .i64 (x 7), .int .i64 (x 8), .int .i64 (x 9), .int .i64 (x 10), .int .i64 (x 11), .int .i64 (x 12), .int .i64 (x 13), .int .i64 (x 14)] 24)
    rw [World.size_alloc] at this
    rw [← hwa, ← hP]; exact this
  have HAg : Hid (GeoAt wa P n) := by rw [← hwa, ← hP]; exact (Below.heap_alloc _ _ _ (by simp)).trans (heap_alloc_new _ _)
  obtain ⟨g0, g1, g2, g3, g4⟩ := HAg.out.cells
  go_enter Tryd.func14, Tryd.ntmps14
  go_wp2_with (first
    | (go_at_call 28; refine (HG.out _).mono ?_; rintro e w1 ⟨rfl, h1⟩; have H1 : Hid (Below wa.heap.size wa w1) := h1; have H0 : Hid (w1.heap[P + 1]? = some (.cells (inC x) 24 (0, 0))) := (h1.block _ (heap_lt HA0.out)).trans HA0.out; have q0 : w1.cell? ⟨P + 1, 0, none⟩ = some (.int .i64 (x 0)) := cell_of_row _ _ 0 _ _ _ H0.out; have q1 : w1.cell? ⟨P + 1, 1, none⟩ = some (.int .i64 (x 1)) := cell_of_row _ _ 1 _ _ _ H0.out; have q2 : w1.cell? ⟨P + 1, 2, none⟩ = some (.int .i64 (x 2)) := cell_of_row _ _ 2 _ _ _ H0.out; have q3 : w1.cell? ⟨P + 1, 3, none⟩ = some (.int .i64 (x 3)) := cell_of_row _ _ 3 _ _ _ H0.out; have q4 : w1.cell? ⟨P + 1, 4, none⟩ = some (.int .i64 (x 4)) := cell_of_row _ _ 4 _ _ _ H0.out; have q5 : w1.cell? ⟨P + 1, 5, none⟩ = some (.int .i64 (x 5)) := cell_of_row _ _ 5 _ _ _ H0.out; have q6 : w1.cell? ⟨P + 1, 6, none⟩ = some (.int .i64 (x 6)) := cell_of_row _ _ 6 _ _ _ H0.out; have q7 : w1.cell? ⟨P + 1, 7, none⟩ = some (.int .i64 (x 7)) := cell_of_row _ _ 7 _ _ _ H0.out; have q8 : w1.cell? ⟨P + 1, 8, none⟩ = some (.int .i64 (x 8)) := cell_of_row _ _ 8 _ _ _ H0.out; have q9 : w1.cell? ⟨P + 1, 9, none⟩ = some (.int .i64 (x 9)) := cell_of_row _ _ 9 _ _ _ H0.out; have q10 : w1.cell? ⟨P + 1, 10, none⟩ = some (.int .i64 (x 10)) := cell_of_row _ _ 10 _ _ _ H0.out; have q11 : w1.cell? ⟨P + 1, 11, none⟩ = some (.int .i64 (x 11)) := cell_of_row _ _ 11 _ _ _ H0.out; have q12 : w1.cell? ⟨P + 1, 12, none⟩ = some (.int .i64 (x 12)) := cell_of_row _ _ 12 _ _ _ H0.out; have q13 : w1.cell? ⟨P + 1, 13, none⟩ = some (.int .i64 (x 13)) := cell_of_row _ _ 13 _ _ _ H0.out; have q14 : w1.cell? ⟨P + 1, 14, none⟩ = some (.int .i64 (x 14)) := cell_of_row _ _ 14 _ _ _ H0.out; clear h1 HG)
    | (go_at_call 6; refine (HEn.out _ (HA.out.trans (H1.out.mono HA.out.size))).mono ?_; rintro e w2 ⟨gr, rfl, h1, h2, h3⟩; have H2 : Hid (Below wa.heap.size wa w2 ∧ OwnB w2 gr 64 R) := ⟨H1.out.trans (h3.mono H1.out.size), h2⟩; clear h1 h2 h3 HEn)
    | (go_at_call 29; refine (HR.out _ (HA.out.trans (H2.out.1.mono HA.out.size))).mono ?_; rintro e w3 ⟨g, cap, rfl, h1, h2, h3⟩; have H3 : Hid (Below w.heap.size w w3 ∧ OwnB w3 g cap (tv D T B) ∧ w.heap.size ≤ g) := ⟨HA.out.trans ((H2.out.1.trans (h3.mono H2.out.1.size)).mono HA.out.size), h2, (by have := H2.out.1.size; have := HA.out.size; omega)⟩; have hcap : 512 ≤ cap := (by have := h2.room; have := HLn.out; omega); have hcA : ¬ cap = A := (by omega); obtain ⟨w4, E4, h4, hf4⟩ := copyB_run (w := w3) (g := g) (cap := cap) (off := A) (dLen := 512 - A) (dCap := cap - A) (l := tv D T B) 3 ⟨gr, 0, none⟩ 64 64 R h2 (H2.out.2.on h3).bytes HRl.out (by omega) (by have := HLn.out; omega); have H4 : Hid (Below w.heap.size w w4 ∧ OwnB w4 g cap (ov (tv D T B) A 64 (nth R))) := ⟨H3.out.1.trans (hf4.below _ (fun k hk => by have hk : k = g := hk; have := H3.out.2.2; omega) H3.out.1.size), h4⟩; clear h1 h2 h3 h4 hf4)
    | (go_at_call 30; refine (HWr.out _ g cap H4.out.1 H4.out.2).mono ?_; rintro e w5 ⟨rfl, T', hw⟩; have H5 : Hid (WrE w0 w w5 D T T' n B (ov (tv D T B) A 64 (nth R))) := hw; clear hw))
  go_ret
  exact ⟨rfl, T', H5.out⟩
end Go.Proofs.YtdheojhfgeabhaaDoor
