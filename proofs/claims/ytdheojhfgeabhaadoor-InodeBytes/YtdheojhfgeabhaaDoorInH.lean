import Derived.Test.YtdheojhfgeabhaaDoorInG
namespace Go.Proofs.YtdheojhfgeabhaaDoor
open Go.RowKit Go.Maps Rec

theorem lowf1_any (w : World) (S : Nat) (z f : Int) (hc : w.cell? ⟨S, 0, none⟩ = some (.int .i64 z)) (hf : w.frozen? ⟨S, 0, none⟩ = false) : Calls Tryd.prog 49 #[.int .i64 f, .pointer (some ⟨S, 0, none⟩)] w fun e w' => e = .returned (.bool false) ∧ w' = w.setCell ⟨S, 0, none⟩ (.int .i64 f) := by
  go_enter Tryd.func49, Tryd.ntmps49
  go_wp2
  go_ret
  exact ⟨rfl, rfl⟩
theorem cntf1_any (w : World) (S : Nat) (z f y : Int) (hc : w.cell? ⟨S, 0, none⟩ = some (.int .i64 z)) (hf : w.frozen? ⟨S, 0, none⟩ = false) (hz : 0 ≤ z ∧ z ≤ 1000000000) (hy : z + 1 = y) : Calls Tryd.prog 34 #[.int .i64 f, .pointer (some ⟨S, 0, none⟩)] w fun e w' => e = .returned (.bool true) ∧ w' = w.setCell ⟨S, 0, none⟩ (.int .i64 y) := by
  go_enter Tryd.func34, Tryd.ntmps34
  go_wp2
  go_ret
  exact ⟨rfl, rfl⟩
/-- the lowest of those from 1 on, or 0 -/
def Lw (f : Nat → Bool) (C m : Nat) : Prop := (m = 0 ∧ ∀ j, 1 ≤ j → j < C → f j = false) ∨ (1 ≤ m ∧ m < C ∧ f m = true ∧ ∀ j, 1 ≤ j → j < m → f j = false)
theorem Lw.uniq {f : Nat → Bool} {C a b : Nat} (h : Lw f C a) (g : Lw f C b) : a = b := by
  rcases h with ⟨rfl, h⟩ | ⟨h1, h2, h3, h4⟩
  · rcases g with ⟨rfl, _⟩ | ⟨g1, g2, g3, _⟩
    · rfl
    · rw [h b g1 g2] at g3; cases g3
  · rcases g with ⟨rfl, g⟩ | ⟨g1, g2, g3, g4⟩
    · rw [g a h1 h2] at h3; cases h3
    · rcases Nat.lt_trichotomy a b with c | c | c
      · rw [g4 a h1 c] at h3; cases h3
      · exact c
      · rw [h4 b g1 c] at g3; cases g3
/-- how many from 1 on, below k -/
def cf (f : Nat → Bool) : Nat → Nat
  | 0 => 0
  | k + 1 => cf f k + if 1 ≤ k ∧ f k = true then 1 else 0
theorem cf_le (f : Nat → Bool) : ∀ k, cf f k ≤ k
  | 0 => Nat.le_refl _
  | k + 1 => by have := cf_le f k; unfold cf; split <;> omega
theorem cf_yes {f : Nat → Bool} {k : Nat} (h : 1 ≤ k) (hf : f k = true) : cf f (k + 1) = cf f k + 1 := by show cf f k + (if 1 ≤ k ∧ f k = true then 1 else 0) = _; rw [if_pos ⟨h, hf⟩]
theorem cf_no {f : Nat → Bool} {k : Nat} (hf : f k = false) : cf f (k + 1) = cf f k := by show cf f k + (if 1 ≤ k ∧ f k = true then 1 else 0) = _; rw [if_neg (fun e => by rw [hf] at e; cases e.2)]; rfl
/-- the boxes of a going through -/
structure EaI (w wr : World) (P S n : Nat) (z : Int) : Prop where
  bel : Below w.heap.size w wr
  geo : GeoAt wr P n
  box : wr.heap[S]? = some (.cells #[.int .i64 z] 3 (0, 0))
  lo : w.heap.size ≤ P ∧ w.heap.size ≤ S ∧ P ≠ S
theorem EaI.on {w wr w' : World} {P S n : Nat} {z : Int} (h : EaI w wr P S n z) (hb : Below wr.heap.size wr w') : EaI w w' P S n z :=
  ⟨h.bel.trans (hb.mono h.bel.size), h.geo.on hb, (hb.block _ (heap_lt h.box)).trans h.box, h.lo⟩
theorem EaI.set {w wr : World} {P S n : Nat} {z : Int} (h : EaI w wr P S n z) (z' : Int) : EaI w (wr.setCell ⟨S, 0, none⟩ (.int .i64 z')) P S n z' :=
  ⟨below_put h.bel (Nat.le_refl _) h.lo.2.1, Fr.set.heap h.geo h.lo.2.2, heap_setCell_same _ _ 0 _ _ _ h.box, h.lo⟩
set_option maxRecDepth 100000 in
set_option maxHeartbeats 4000000 in
theorem each_low (w0 w : World) (D : Dk) (T : Tx) (n : Nat) (h : Spc w0 w D T n) (hT : TabAt w) (good : ∀ k, 1 ≤ k → k < nC n → decE (rc D T n k) = 0) (wb : World) (hb : Below w.heap.size w wb) (S : Nat) (hS : w.heap.size ≤ S) (hbx : wb.heap[S]? = some (.cells #[.int .i64 0] 3 (0, 0))) :
    Calls Tryd.prog 33 #[.pointer (some ⟨T.t, 0, none⟩), geoV n, .func (.func 49) #[] #[.pointer (some ⟨S, 0, none⟩)]] wb fun e w' => e = .returned (.int .i64 0) ∧ Below w.heap.size w w' ∧ ∃ m : Nat, w'.heap[S]? = some (.cells #[.int .i64 (m : Int)] 3 (0, 0)) ∧ Lw (fun k => isFr (decX (rc D T n k))) (nC n) m := by
  have HG : Hid (∀ (wx : World) (k : Nat), Below w.heap.size w wx → 1 ≤ k → k < nC n → Calls Tryd.prog 16 #[.pointer (some ⟨T.t, 0, none⟩), .agg #[.int .i64 (n : Int), .int .i64 98, .int .i64 (gI n), .int .i64 (gD n), .int .i64 (gC n)], .int .i64 (k : Int)] wx fun e w' => e = .returned (.tuple #[inV (decX (rc D T n k)), .int .i64 0]) ∧ Below wx.heap.size wx w') := fun wx k hb h1 h2 => by
    have := iget_ok w0 wx D T n k (h.on hb) (hT.on hb) h1 h2
    rw [good k h1 h2] at this
    exact this
  have HFx : Hid (∀ (wx : World) (y : Nat → Int), Calls Tryd.prog 37 #[.agg #[.int .i64 (y 0), .int .i64 (y 1), .int .i64 (y 2), .int .i64 (y 3), .int .i64 (y 4), .int .i64 (y 5), .int .i64 (y 6), .int .i64 (y 7), .int .i64 (y 8), .int .i64 (y 9), .int .i64 (y 10), .int .i64 (y 11), .int .i64 (y 12), .int .i64 (y 13), .int .i64 (y 14)]] wx fun e w' => e = .returned (.bool (isFr y)) ∧ Below wx.heap.size wx w') := fun wx y => isFree_any wx y
  have hC := gC_nat n
  have hC0 : 1 ≤ nC n ∧ nC n ≤ 10000 := by have := h.lo; have := h.hi; unfold nC; omega
  obtain ⟨f, hf⟩ : ∃ f : Nat → Bool, f = fun k => isFr (decX (rc D T n k)) := ⟨_, rfl⟩
  have HFf : Hid (∀ k, isFr (decX (rc D T n k)) = f k) := fun k => by rw [hf]
  rw [← hf]
  clear hf good
  generalize nC n = C at *
  obtain ⟨P, hP⟩ : ∃ P, wb.heap.size = P := ⟨_, rfl⟩
  obtain ⟨wa, hwa⟩ : ∃ wa, wb.alloc (.cells #[.int .i64 (n : Int), .int .i64 98, .int .i64 (gI n), .int .i64 (gD n), .int .i64 (C : Int)] 40) = wa := ⟨_, rfl⟩
  have HA : Hid (EaI w wa P S n 0) := by
    have hn : Below wb.heap.size wb wa := by rw [← hwa]; exact (Below.refl _ _).alloc (Nat.le_refl _) _
    have := heap_lt hbx
    have := hb.size
    refine ⟨hb.trans (hn.mono hb.size), ?_, (hn.block _ (heap_lt hbx)).trans hbx, by omega, hS, by omega⟩
    rw [← hwa, ← hP]; unfold GeoAt; rw [hC]; exact heap_alloc_new _ _
  clear h hT hb hS hbx
  unfold geoV
  rw [hC]
  have HC : Hid (gC (n : Int) = (C : Int)) := hC
  clear hC
  go_enter Tryd.func33, Tryd.ntmps33
  go_wp2
  clear hwa
  go_loopw [7] (fun i wr => ∃ k : Nat, 1 ≤ k ∧ k ≤ C ∧ i = .int .i64 k ∧ (∀ j, 1 ≤ j → j < k → f j = false) ∧ EaI w wr P S n 0) (fun i _ => C - (intOf i).toNat)
  case atStart => exact ⟨1, Nat.le_refl _, hC0.1, rfl, fun j h1 h2 => by omega, HA.out⟩
  case round =>
    obtain ⟨k, hk1, hk, rfl, hnf, hI⟩ := hrel
    have HI : Hid (EaI w wr P S n 0) := hI
    have HNf : Hid (∀ j, 1 ≤ j → j < k → f j = false) := hnf
    clear hnf
    clear hI
    obtain ⟨g0, g1, g2, g3, g4⟩ := HI.out.geo.cells
    rw [HC.out] at g4
    by_cases hlt : k < C
    · have HGk : Hid (Calls Tryd.prog 16 #[.pointer (some ⟨T.t, 0, none⟩), .agg #[.int .i64 (n : Int), .int .i64 98, .int .i64 (gI n), .int .i64 (gD n), .int .i64 (C : Int)], .int .i64 (k : Int)] wr fun e w' => e = .returned (.tuple #[inV (decX (rc D T n k)), .int .i64 0]) ∧ Below wr.heap.size wr w') := by
        have := HG.out wr k HI.out.bel hk1 hlt
        rw [HC.out] at this
        exact this
      have HY := HFf.out k
      generalize decX (rc D T n k) = y at *
      unfold inV at HGk
      have HFy : Hid (∀ wx, Calls Tryd.prog 37 #[.agg #[.int .i64 (y 0), .int .i64 (y 1), .int .i64 (y 2), .int .i64 (y 3), .int .i64 (y 4), .int .i64 (y 5), .int .i64 (y 6), .int .i64 (y 7), .int .i64 (y 8), .int .i64 (y 9), .int .i64 (y 10), .int .i64 (y 11), .int .i64 (y 12), .int .i64 (y 13), .int .i64 (y 14)]] wx fun e w' => e = .returned (.bool (f k)) ∧ Below wx.heap.size wx w') := fun wx => by
        have := HFx.out wx y
        rw [HY] at this
        exact this
      clear HY
      cases hfk : f k
      · rw [hfk] at HFy
        have HN2 : Hid (∀ j, 1 ≤ j → j < k + 1 → f j = false) := fun j h1 h2 => by
          by_cases e : j = k
          · subst e; exact hfk
          · exact HNf.out j h1 (by omega)
        clear hfk
        go_wp2_with (first
          | (go_at_call 16; refine HGk.out.mono ?_; rintro e w1 ⟨rfl, h1⟩; have H1 : Hid (EaI w w1 P S n 0) := HI.out.on h1; have HAl : Hid (∀ o, EaI w (w1.alloc o) P S n 0) := (fun o => H1.out.on ((Below.refl _ _).alloc (Nat.le_refl _) o)); clear h1)
          | (go_at_call 37; refine (HFy.out _).mono ?_; rintro e w2 ⟨rfl, h2⟩; have H2 : Hid (EaI w w2 P S n 0) := (HAl.out _).on h2; clear h2))
        exact ⟨⟨k + 1, by omega, hlt, rfl, HN2.out, H2.out⟩, by simp [intOf]; omega⟩
      · rw [hfk] at HFy
        have HK : Hid (f k = true) := hfk
        clear hfk
        go_wp2_with (first
          | (go_at_call 16; refine HGk.out.mono ?_; rintro e w1 ⟨rfl, h1⟩; have H1 : Hid (EaI w w1 P S n 0) := HI.out.on h1; have HAl : Hid (∀ o, EaI w (w1.alloc o) P S n 0) := (fun o => H1.out.on ((Below.refl _ _).alloc (Nat.le_refl _) o)); clear h1)
          | (go_at_call 37; refine (HFy.out _).mono ?_; rintro e w2 ⟨rfl, h2⟩; have H2 : Hid (EaI w w2 P S n 0) := (HAl.out _).on h2; clear h2)
          | (go_at_call 49; refine (lowf1_any _ S 0 (k : Int) (cell_of_row _ _ 0 _ _ _ H2.out.box) (frozen_of_row _ _ _ _ _ H2.out.box)).mono ?_; rintro e w3 ⟨rfl, h3⟩; have H3 : Hid (EaI w w3 P S n (k : Int)) := (by rw [h3]; exact H2.out.set _); clear h3))
        go_ret
        exact ⟨rfl, H3.out.bel, k, H3.out.box, .inr ⟨hk1, hlt, HK.out, HNf.out⟩⟩
    · obtain rfl : k = C := by omega
      go_wp2
      go_ret
      exact ⟨rfl, HI.out.bel, 0, HI.out.box, .inl ⟨rfl, HNf.out⟩⟩
set_option maxRecDepth 100000 in
set_option maxHeartbeats 4000000 in
theorem each_cnt (w0 w : World) (D : Dk) (T : Tx) (n : Nat) (h : Spc w0 w D T n) (hT : TabAt w) (good : ∀ k, 1 ≤ k → k < nC n → decE (rc D T n k) = 0) (wb : World) (hb : Below w.heap.size w wb) (S : Nat) (hS : w.heap.size ≤ S) (hbx : wb.heap[S]? = some (.cells #[.int .i64 0] 3 (0, 0))) :
    Calls Tryd.prog 33 #[.pointer (some ⟨T.t, 0, none⟩), geoV n, .func (.func 34) #[] #[.pointer (some ⟨S, 0, none⟩)]] wb fun e w' => e = .returned (.int .i64 0) ∧ Below w.heap.size w w' ∧ w'.heap[S]? = some (.cells #[.int .i64 ((cf (fun k => isFr (decX (rc D T n k))) (nC n) : Nat) : Int)] 3 (0, 0)) := by
  have HG : Hid (∀ (wx : World) (k : Nat), Below w.heap.size w wx → 1 ≤ k → k < nC n → Calls Tryd.prog 16 #[.pointer (some ⟨T.t, 0, none⟩), .agg #[.int .i64 (n : Int), .int .i64 98, .int .i64 (gI n), .int .i64 (gD n), .int .i64 (gC n)], .int .i64 (k : Int)] wx fun e w' => e = .returned (.tuple #[inV (decX (rc D T n k)), .int .i64 0]) ∧ Below wx.heap.size wx w') := fun wx k hb h1 h2 => by
    have := iget_ok w0 wx D T n k (h.on hb) (hT.on hb) h1 h2
    rw [good k h1 h2] at this
    exact this
  have HFx : Hid (∀ (wx : World) (y : Nat → Int), Calls Tryd.prog 37 #[.agg #[.int .i64 (y 0), .int .i64 (y 1), .int .i64 (y 2), .int .i64 (y 3), .int .i64 (y 4), .int .i64 (y 5), .int .i64 (y 6), .int .i64 (y 7), .int .i64 (y 8), .int .i64 (y 9), .int .i64 (y 10), .int .i64 (y 11), .int .i64 (y 12), .int .i64 (y 13), .int .i64 (y 14)]] wx fun e w' => e = .returned (.bool (isFr y)) ∧ Below wx.heap.size wx w') := fun wx y => isFree_any wx y
  have hC := gC_nat n
  have hC0 : 1 ≤ nC n ∧ nC n ≤ 10000 := by have := h.lo; have := h.hi; unfold nC; omega
  obtain ⟨f, hf⟩ : ∃ f : Nat → Bool, f = fun k => isFr (decX (rc D T n k)) := ⟨_, rfl⟩
  have HFf : Hid (∀ k, isFr (decX (rc D T n k)) = f k) := fun k => by rw [hf]
  rw [← hf]
  clear hf good
  generalize nC n = C at *
  obtain ⟨P, hP⟩ : ∃ P, wb.heap.size = P := ⟨_, rfl⟩
  obtain ⟨wa, hwa⟩ : ∃ wa, wb.alloc (.cells #[.int .i64 (n : Int), .int .i64 98, .int .i64 (gI n), .int .i64 (gD n), .int .i64 (C : Int)] 40) = wa := ⟨_, rfl⟩
  have HA : Hid (EaI w wa P S n 0) := by
    have hn : Below wb.heap.size wb wa := by rw [← hwa]; exact (Below.refl _ _).alloc (Nat.le_refl _) _
    have := heap_lt hbx
    have := hb.size
    refine ⟨hb.trans (hn.mono hb.size), ?_, (hn.block _ (heap_lt hbx)).trans hbx, by omega, hS, by omega⟩
    rw [← hwa, ← hP]; unfold GeoAt; rw [hC]; exact heap_alloc_new _ _
  clear h hT hb hS hbx
  unfold geoV
  rw [hC]
  have HC : Hid (gC (n : Int) = (C : Int)) := hC
  clear hC
  go_enter Tryd.func33, Tryd.ntmps33
  go_wp2
  clear hwa
  go_loopw [7] (fun i wr => ∃ k : Nat, 1 ≤ k ∧ k ≤ C ∧ i = .int .i64 k ∧ EaI w wr P S n ((cf f k : Nat) : Int)) (fun i _ => C - (intOf i).toNat)
  case atStart => exact ⟨1, Nat.le_refl _, hC0.1, rfl, by rw [show cf f 1 = 0 from by simp [cf]]; exact HA.out⟩
  case round =>
    obtain ⟨k, hk1, hk, rfl, hI⟩ := hrel
    have HI : Hid (EaI w wr P S n ((cf f k : Nat) : Int)) := hI
    have HCk : Hid (cf f k ≤ k) := cf_le f k
    clear hI
    obtain ⟨g0, g1, g2, g3, g4⟩ := HI.out.geo.cells
    rw [HC.out] at g4
    by_cases hlt : k < C
    · have HGk : Hid (Calls Tryd.prog 16 #[.pointer (some ⟨T.t, 0, none⟩), .agg #[.int .i64 (n : Int), .int .i64 98, .int .i64 (gI n), .int .i64 (gD n), .int .i64 (C : Int)], .int .i64 (k : Int)] wr fun e w' => e = .returned (.tuple #[inV (decX (rc D T n k)), .int .i64 0]) ∧ Below wr.heap.size wr w') := by
        have := HG.out wr k HI.out.bel hk1 hlt
        rw [HC.out] at this
        exact this
      have HY := HFf.out k
      generalize decX (rc D T n k) = y at *
      unfold inV at HGk
      have HFy : Hid (∀ wx, Calls Tryd.prog 37 #[.agg #[.int .i64 (y 0), .int .i64 (y 1), .int .i64 (y 2), .int .i64 (y 3), .int .i64 (y 4), .int .i64 (y 5), .int .i64 (y 6), .int .i64 (y 7), .int .i64 (y 8), .int .i64 (y 9), .int .i64 (y 10), .int .i64 (y 11), .int .i64 (y 12), .int .i64 (y 13), .int .i64 (y 14)]] wx fun e w' => e = .returned (.bool (f k)) ∧ Below wx.heap.size wx w') := fun wx => by
        have := HFx.out wx y
        rw [HY] at this
        exact this
      clear HY
      cases hfk : f k
      · rw [hfk] at HFy
        have HN2 : Hid (cf f (k + 1) = cf f k) := cf_no hfk
        clear hfk
        go_wp2_with (first
          | (go_at_call 16; refine HGk.out.mono ?_; rintro e w1 ⟨rfl, h1⟩; have H1 : Hid (EaI w w1 P S n ((cf f k : Nat) : Int)) := HI.out.on h1; have HAl : Hid (∀ o, EaI w (w1.alloc o) P S n ((cf f k : Nat) : Int)) := (fun o => H1.out.on ((Below.refl _ _).alloc (Nat.le_refl _) o)); clear h1)
          | (go_at_call 37; refine (HFy.out _).mono ?_; rintro e w2 ⟨rfl, h2⟩; have H2 : Hid (EaI w w2 P S n ((cf f k : Nat) : Int)) := (HAl.out _).on h2; clear h2))
        exact ⟨⟨k + 1, by omega, hlt, rfl, HN2.out.symm ▸ H2.out⟩, by simp [intOf]; omega⟩
      · rw [hfk] at HFy
        have HN2 : Hid (cf f (k + 1) = cf f k + 1) := cf_yes hk1 hfk
        clear hfk
        go_wp2_with (first
          | (go_at_call 16; refine HGk.out.mono ?_; rintro e w1 ⟨rfl, h1⟩; have H1 : Hid (EaI w w1 P S n ((cf f k : Nat) : Int)) := HI.out.on h1; have HAl : Hid (∀ o, EaI w (w1.alloc o) P S n ((cf f k : Nat) : Int)) := (fun o => H1.out.on ((Below.refl _ _).alloc (Nat.le_refl _) o)); clear h1)
          | (go_at_call 37; refine (HFy.out _).mono ?_; rintro e w2 ⟨rfl, h2⟩; have H2 : Hid (EaI w w2 P S n ((cf f k : Nat) : Int)) := (HAl.out _).on h2; clear h2)
          | (go_at_call 34; refine (cntf1_any _ S ((cf f k : Nat) : Int) (k : Int) ((cf f (k + 1) : Nat) : Int) (cell_of_row _ _ 0 _ _ _ H2.out.box) (frozen_of_row _ _ _ _ _ H2.out.box) (by have := HCk.out; omega) (by have := HN2.out; omega)).mono ?_; rintro e w3 ⟨rfl, h3⟩; have H3 : Hid (EaI w w3 P S n ((cf f (k + 1) : Nat) : Int)) := (by rw [h3]; exact H2.out.set _); clear h3))
        exact ⟨⟨k + 1, by omega, hlt, rfl, H3.out⟩, by simp [intOf]; omega⟩
    · obtain rfl : k = C := by omega
      go_wp2
      go_ret
      exact ⟨rfl, HI.out.bel, HI.out.box⟩
end Go.Proofs.YtdheojhfgeabhaaDoor
