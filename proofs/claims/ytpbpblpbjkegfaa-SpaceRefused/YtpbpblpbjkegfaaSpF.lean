import Derived.Test.YtpbpblpbjkegfaaSpE
namespace Go.Proofs.Ytpbpblpbjkegfaa
open Go.RowKit Go.Maps Rec

set_option maxRecDepth 100000 in
set_option maxHeartbeats 4000000 in
theorem eachFrF (w0 wq w : World) (D : Dk) (T : Tx) (n : Nat) (h : Spc w0 wq D T n) (hq : Below wq.heap.size wq w) (S : Nat) (z : Int) (hc : w.cell? ⟨S, 0, none⟩ = some (.int .i64 z)) (hf : w.frozen? ⟨S, 0, none⟩ = false) (hS : wq.heap.size ≤ S) (hz : 0 ≤ z ∧ z ≤ 1000) :
    Calls Try.prog 32 #[.pointer (some ⟨T.t, 0, none⟩), geoV n, .func (.func 33) #[] #[.pointer (some ⟨S, 0, none⟩)]] w fun e w' => e = .returned (.int .i64 0) ∧ BoxI w S (z + (ct (fd (nD n) n (bmp D T)) (4096 * nM n) : Nat)) w' := by
  have hSl := block_lt_of_cell hc
  dsimp only at hSl
  have HE : Hid (∀ wx, wx = (w.alloc (.cells #[.int .i64 (n : Int), .int .i64 98, .int .i64 (gI n), .int .i64 (gD n), .int .i64 (gC n)] 28)).alloc (.cells #[.func (.func 33) #[] #[.pointer (some ⟨S, 0, none⟩)]] 71) → Calls Try.prog 49 #[.pointer (some ⟨T.t, 0, none⟩), geoV n, .func (.func 50) #[] #[.pointer (some ⟨w.heap.size, 0, none⟩), .pointer (some ⟨w.heap.size + 1, 0, none⟩)]] wx fun e w' => e = .returned (.int .i64 0) ∧ BoxI w S (z + (ct (fd (nD n) n (bmp D T)) (4096 * nM n) : Nat)) w') := fun wx hx => by
    have hb1 : Below w.heap.size w wx := by rw [hx]; exact ((Below.refl _ _).alloc (Nat.le_refl _) _).alloc (by simp) _
    have r1 : wx.heap[w.heap.size]? = some (.cells #[.int .i64 (n : Int), .int .i64 98, .int .i64 (gI n), .int .i64 (gD n), .int .i64 (gC n)] 28 (0, 0)) := by rw [hx]; exact (Below.heap_alloc _ _ _ (by simp)).trans (heap_alloc_new _ _)
    have r2 : wx.heap[w.heap.size + 1]? = some (.cells #[.func (.func 33) #[] #[.pointer (some ⟨S, 0, none⟩)]] 71 (0, 0)) := by
      have := heap_alloc_new (w.alloc (.cells #[.int .i64 (n : Int), .int .i64 98, .int .i64 (gI n), .int .i64 (gD n), .int .i64 (gC n)] 28)) (.cells #[.func (.func 33) #[] #[.pointer (some ⟨S, 0, none⟩)]] 71)
      rw [World.size_alloc] at this
      rw [hx]
      exact this
    have hC : Cau wx w.heap.size (w.heap.size + 1) S 33 (nD n) n z := ⟨by rw [cell_of_row _ _ _ _ _ _ r1]; rfl, by rw [cell_of_row _ _ _ _ _ _ r1, ← gD_nat]; rfl, by rw [cell_of_row _ _ _ _ _ _ r2]; rfl, (hb1.cell (p := ⟨S, 0, none⟩) hSl).trans hc, (frozen_blk (hb1.block S hSl)).trans hf, by omega, by omega⟩
    have hsz := hb1.size
    refine (eachBmF w0 wq wx D T n h (hq.trans (hb1.mono hq.size)) _ _ S z hC hS hz).mono ?_
    rintro e w' ⟨rfl, hy⟩
    exact ⟨rfl, ⟨hy.cell, hy.frozen, (below_fr hb1 _).trans hy.fr (fun k hk => by rcases hk with e | e; exact .inl (.inl e); exact .inr (by omega))⟩⟩
  clear h hq hc hf hz hS
  go_enter Try.func32, Try.ntmps32
  unfold geoV
  unfold geoV at HE
  go_wp2_with (go_at_call 49; refine (HE.out _ rfl).mono ?_; rintro e w3 ⟨rfl, hx⟩; clear HE; have HX : Hid (BoxI w S (z + (ct (fd (nD n) n (bmp D T)) (4096 * nM n) : Nat)) w3) := hx; clear hx)
  go_ret
  exact ⟨rfl, HX.out⟩
set_option maxRecDepth 100000 in
set_option maxHeartbeats 4000000 in
theorem eachFrL (w0 wq w : World) (D : Dk) (T : Tx) (n : Nat) (h : Spc w0 wq D T n) (hq : Below wq.heap.size wq w) (S : Nat) (z : Int) (hc : w.cell? ⟨S, 0, none⟩ = some (.int .i64 z)) (hf : w.frozen? ⟨S, 0, none⟩ = false) (hS : wq.heap.size ≤ S) (hz : 0 ≤ z ∧ z ≤ 1000) :
    Calls Try.prog 32 #[.pointer (some ⟨T.t, 0, none⟩), geoV n, .func (.func 40) #[] #[.pointer (some ⟨S, 0, none⟩)]] w fun e w' => e = .returned (.int .i64 0) ∧ ((ct (fd (nD n) n (bmp D T)) (4096 * nM n) = 0 ∧ BoxI w S z w') ∨ ∃ i : Nat, IsLo (fd (nD n) n (bmp D T)) i ∧ BoxI w S (i : Int) w') := by
  have hSl := block_lt_of_cell hc
  dsimp only at hSl
  have HE : Hid (∀ wx, wx = (w.alloc (.cells #[.int .i64 (n : Int), .int .i64 98, .int .i64 (gI n), .int .i64 (gD n), .int .i64 (gC n)] 28)).alloc (.cells #[.func (.func 40) #[] #[.pointer (some ⟨S, 0, none⟩)]] 71) → Calls Try.prog 49 #[.pointer (some ⟨T.t, 0, none⟩), geoV n, .func (.func 50) #[] #[.pointer (some ⟨w.heap.size, 0, none⟩), .pointer (some ⟨w.heap.size + 1, 0, none⟩)]] wx fun e w' => e = .returned (.int .i64 0) ∧ ((ct (fd (nD n) n (bmp D T)) (4096 * nM n) = 0 ∧ BoxI w S z w') ∨ ∃ i : Nat, IsLo (fd (nD n) n (bmp D T)) i ∧ BoxI w S (i : Int) w')) := fun wx hx => by
    have hb1 : Below w.heap.size w wx := by rw [hx]; exact ((Below.refl _ _).alloc (Nat.le_refl _) _).alloc (by simp) _
    have r1 : wx.heap[w.heap.size]? = some (.cells #[.int .i64 (n : Int), .int .i64 98, .int .i64 (gI n), .int .i64 (gD n), .int .i64 (gC n)] 28 (0, 0)) := by rw [hx]; exact (Below.heap_alloc _ _ _ (by simp)).trans (heap_alloc_new _ _)
    have r2 : wx.heap[w.heap.size + 1]? = some (.cells #[.func (.func 40) #[] #[.pointer (some ⟨S, 0, none⟩)]] 71 (0, 0)) := by
      have := heap_alloc_new (w.alloc (.cells #[.int .i64 (n : Int), .int .i64 98, .int .i64 (gI n), .int .i64 (gD n), .int .i64 (gC n)] 28)) (.cells #[.func (.func 40) #[] #[.pointer (some ⟨S, 0, none⟩)]] 71)
      rw [World.size_alloc] at this
      rw [hx]
      exact this
    have hC : Cau wx w.heap.size (w.heap.size + 1) S 40 (nD n) n z := ⟨by rw [cell_of_row _ _ _ _ _ _ r1]; rfl, by rw [cell_of_row _ _ _ _ _ _ r1, ← gD_nat]; rfl, by rw [cell_of_row _ _ _ _ _ _ r2]; rfl, (hb1.cell (p := ⟨S, 0, none⟩) hSl).trans hc, (frozen_blk (hb1.block S hSl)).trans hf, by omega, by omega⟩
    have hsz := hb1.size
    refine (eachBmL w0 wq wx D T n h (hq.trans (hb1.mono hq.size)) _ _ S z hC hS hz).mono ?_
    rintro e w' ⟨rfl, ⟨h4, hy⟩ | ⟨i, hi, hy⟩⟩
    · exact ⟨rfl, .inl ⟨h4, ⟨hy.cell, hy.frozen, (below_fr hb1 _).trans hy.fr (fun k hk => by rcases hk with e | e; exact .inl (.inl e); exact .inr (by omega))⟩⟩⟩
    · exact ⟨rfl, .inr ⟨i, hi, ⟨hy.cell, hy.frozen, (below_fr hb1 _).trans hy.fr (fun k hk => by rcases hk with e | e; exact .inl (.inl e); exact .inr (by omega))⟩⟩⟩
  clear h hq hc hf hz hS
  go_enter Try.func32, Try.ntmps32
  unfold geoV
  unfold geoV at HE
  go_wp2_with (go_at_call 49; refine (HE.out _ rfl).mono ?_; rintro e w3 ⟨rfl, hx⟩; clear HE; have HX : Hid (((ct (fd (nD n) n (bmp D T)) (4096 * nM n) = 0 ∧ BoxI w S z w3) ∨ ∃ i : Nat, IsLo (fd (nD n) n (bmp D T)) i ∧ BoxI w S (i : Int) w3)) := hx; clear hx)
  go_ret
  exact ⟨rfl, HX.out⟩
set_option maxRecDepth 100000 in
set_option maxHeartbeats 4000000 in
theorem low_no (w0 w : World) (D : Dk) (T : Tx) (n : Nat) (h : Spc w0 w D T n) (hct : ct (fd (nD n) n (bmp D T)) n = 0) :
    Calls Try.prog 23 #[.pointer (some ⟨T.t, 0, none⟩), geoV n] w fun e w' => e = .returned (.tuple #[.int .i64 0, .int .i64 90]) ∧ Below w.heap.size w w' := by
  have hN := nM_bd h.lo h.hi
  have HE : Hid (∀ wx, wx = (w.alloc (.cells #[.int .i64 (n : Int), .int .i64 98, .int .i64 (gI n), .int .i64 (gD n), .int .i64 (gC n)] 28)).alloc (.cells #[.int .i64 0] 3) → Calls Try.prog 32 #[.pointer (some ⟨T.t, 0, none⟩), geoV n, .func (.func 40) #[] #[.pointer (some ⟨w.heap.size + 1, 0, none⟩)]] wx fun e w' => e = .returned (.int .i64 0) ∧ Below w.heap.size w w' ∧ w'.cell? ⟨w.heap.size + 1, 0, none⟩ = some (.int .i64 0)) := fun wx hx => by
    have hb1 : Below w.heap.size w wx := by rw [hx]; exact ((Below.refl _ _).alloc (Nat.le_refl _) _).alloc (by simp) _
    have r2 : wx.heap[w.heap.size + 1]? = some (.cells #[.int .i64 0] 3 (0, 0)) := by
      have := heap_alloc_new (w.alloc (.cells #[.int .i64 (n : Int), .int .i64 98, .int .i64 (gI n), .int .i64 (gD n), .int .i64 (gC n)] 28)) (.cells #[.int .i64 0] 3)
      rw [World.size_alloc] at this
      rw [hx]
      exact this
    have hsz := hb1.size
    refine (eachFrL w0 w wx D T n h hb1 (w.heap.size + 1) 0 (by rw [cell_of_row _ _ _ _ _ _ r2]; rfl) (frozen_of_row _ _ _ _ _ r2) (by omega) (by omega)).mono ?_
    rintro e w' ⟨rfl, ⟨_, hy⟩ | ⟨i, hi, _⟩⟩
    · exact ⟨rfl, hb1.trans (hy.fr.below _ (fun k hk => by rcases hk with e | e <;> omega) (by omega)), hy.cell⟩
    · have h1 := fd_bd hi.1
      have h2 := ct_zero.1 hct i h1.2
      rw [hi.1] at h2
      cases h2
  clear hct
  clear h
  go_enter Try.func23, Try.ntmps23
  unfold geoV
  unfold geoV at HE
  go_wp2_with (go_at_call 32; refine (HE.out _ rfl).mono ?_; rintro e w3 ⟨rfl, hx, hcl⟩; clear HE; have HX : Hid (Below w.heap.size w w3) := hx; clear hx)
  go_ret2
  exact ⟨rfl, HX.out⟩
set_option maxRecDepth 100000 in
set_option maxHeartbeats 4000000 in
theorem low_yes (w0 w : World) (D : Dk) (T : Tx) (n : Nat) (h : Spc w0 w D T n) (i : Nat) (hi : IsLo (fd (nD n) n (bmp D T)) i) :
    Calls Try.prog 23 #[.pointer (some ⟨T.t, 0, none⟩), geoV n] w fun e w' => e = .returned (.tuple #[.int .i64 (i : Int), .int .i64 0]) ∧ Below w.heap.size w w' := by
  have hN := nM_bd h.lo h.hi
  have HE : Hid (∀ wx, wx = (w.alloc (.cells #[.int .i64 (n : Int), .int .i64 98, .int .i64 (gI n), .int .i64 (gD n), .int .i64 (gC n)] 28)).alloc (.cells #[.int .i64 0] 3) → Calls Try.prog 32 #[.pointer (some ⟨T.t, 0, none⟩), geoV n, .func (.func 40) #[] #[.pointer (some ⟨w.heap.size + 1, 0, none⟩)]] wx fun e w' => e = .returned (.int .i64 0) ∧ Below w.heap.size w w' ∧ w'.cell? ⟨w.heap.size + 1, 0, none⟩ = some (.int .i64 (i : Int))) := fun wx hx => by
    have hb1 : Below w.heap.size w wx := by rw [hx]; exact ((Below.refl _ _).alloc (Nat.le_refl _) _).alloc (by simp) _
    have r2 : wx.heap[w.heap.size + 1]? = some (.cells #[.int .i64 0] 3 (0, 0)) := by
      have := heap_alloc_new (w.alloc (.cells #[.int .i64 (n : Int), .int .i64 98, .int .i64 (gI n), .int .i64 (gD n), .int .i64 (gC n)] 28)) (.cells #[.int .i64 0] 3)
      rw [World.size_alloc] at this
      rw [hx]
      exact this
    have hsz := hb1.size
    refine (eachFrL w0 w wx D T n h hb1 (w.heap.size + 1) 0 (by rw [cell_of_row _ _ _ _ _ _ r2]; rfl) (frozen_of_row _ _ _ _ _ r2) (by omega) (by omega)).mono ?_
    have h1 := fd_bd hi.1
    rintro e w' ⟨rfl, ⟨h2, _⟩ | ⟨j, hj, hy⟩⟩
    · rw [ct_tail hN.2.2.1] at h2
      have h3 := ct_zero.1 h2 i h1.2
      rw [hi.1] at h3
      cases h3
    · obtain rfl := hi.eq hj
      exact ⟨rfl, hb1.trans (hy.fr.below _ (fun k hk => by rcases hk with e | e <;> omega) (by omega)), hy.cell⟩
  have hi0 : ((i : Int) == 0) = false := (by have := fd_bd hi.1; simp; omega)
  clear hi
  clear h
  go_enter Try.func23, Try.ntmps23
  unfold geoV
  unfold geoV at HE
  go_wp2_with (go_at_call 32; refine (HE.out _ rfl).mono ?_; rintro e w3 ⟨rfl, hx, hcl⟩; clear HE; have HX : Hid (Below w.heap.size w w3) := hx; clear hx)
  go_ret2
  exact ⟨rfl, HX.out⟩
set_option maxRecDepth 100000 in
set_option maxHeartbeats 4000000 in
theorem free_any (w0 w : World) (D : Dk) (T : Tx) (n : Nat) (h : Spc w0 w D T n) :
    Calls Try.prog 13 #[.pointer (some ⟨T.t, 0, none⟩), geoV n] w fun e w' => e = .returned (.tuple #[.int .i64 (ct (fd (nD n) n (bmp D T)) n : Nat), .int .i64 0]) ∧ Below w.heap.size w w' := by
  have hN := nM_bd h.lo h.hi
  have HE : Hid (∀ wx, wx = (w.alloc (.cells #[.int .i64 (n : Int), .int .i64 98, .int .i64 (gI n), .int .i64 (gD n), .int .i64 (gC n)] 28)).alloc (.cells #[.int .i64 0] 3) → Calls Try.prog 32 #[.pointer (some ⟨T.t, 0, none⟩), geoV n, .func (.func 33) #[] #[.pointer (some ⟨w.heap.size + 1, 0, none⟩)]] wx fun e w' => e = .returned (.int .i64 0) ∧ Below w.heap.size w w' ∧ w'.cell? ⟨w.heap.size + 1, 0, none⟩ = some (.int .i64 (ct (fd (nD n) n (bmp D T)) n : Nat))) := fun wx hx => by
    have hb1 : Below w.heap.size w wx := by rw [hx]; exact ((Below.refl _ _).alloc (Nat.le_refl _) _).alloc (by simp) _
    have r2 : wx.heap[w.heap.size + 1]? = some (.cells #[.int .i64 0] 3 (0, 0)) := by
      have := heap_alloc_new (w.alloc (.cells #[.int .i64 (n : Int), .int .i64 98, .int .i64 (gI n), .int .i64 (gD n), .int .i64 (gC n)] 28)) (.cells #[.int .i64 0] 3)
      rw [World.size_alloc] at this
      rw [hx]
      exact this
    have hsz := hb1.size
    refine (eachFrF w0 w wx D T n h hb1 (w.heap.size + 1) 0 (by rw [cell_of_row _ _ _ _ _ _ r2]; rfl) (frozen_of_row _ _ _ _ _ r2) (by omega) (by omega)).mono ?_
    rintro e w' ⟨rfl, hy⟩
    have hcy := hy.cell
    rw [Int.zero_add, ct_tail hN.2.2.1] at hcy
    exact ⟨rfl, hb1.trans (hy.fr.below _ (fun k hk => by rcases hk with e | e <;> omega) (by omega)), hcy⟩
  obtain ⟨c, hc⟩ : ∃ c, ct (fd (nD n) n (bmp D T)) n = c := ⟨_, rfl⟩
  rw [hc] at HE
  rw [hc]
  clear hc
  clear h
  go_enter Try.func13, Try.ntmps13
  unfold geoV
  unfold geoV at HE
  go_wp2_with (go_at_call 32; refine (HE.out _ rfl).mono ?_; rintro e w3 ⟨rfl, hx, hcl⟩; clear HE; have HX : Hid (Below w.heap.size w w3) := hx; clear hx)
  go_ret2
  exact ⟨rfl, HX.out⟩
end Go.Proofs.Ytpbpblpbjkegfaa
