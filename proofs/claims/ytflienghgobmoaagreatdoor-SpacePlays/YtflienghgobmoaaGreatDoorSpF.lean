import Derived.Test.YtflienghgobmoaaGreatDoorKSpH
namespace Go.Proofs.YtflienghgobmoaaGreatDoor
open Go.RowKit Go.Maps Rec

set_option maxRecDepth 100000 in
set_option maxHeartbeats 4000000 in
theorem eachFrF (w0 wq w : World) (D : Dk) (T : Tx) (n : Nat) (h : Spc w0 wq D T n) (hq : Below wq.heap.size wq w) (S : Nat) (z : Int) (hc : w.cell? ⟨S, 0, none⟩ = some (.int .i64 z)) (hf : w.frozen? ⟨S, 0, none⟩ = false) (hS : wq.heap.size ≤ S) (hz : 0 ≤ z ∧ z ≤ 1000) (K : Nat) (hK : Kpre D T n K) :
    Calls Tryz.prog 75 #[.pointer (some ⟨T.t, 0, none⟩), geoV n, .func (.func 76) #[] #[.pointer (some ⟨S, 0, none⟩)]] w fun e w' => e = .returned (.int .i64 (eK n K)) ∧ BoxI w S (z + (ct (fd (nD n) n (bmp D T)) (4096 * K) : Nat)) w' := by
  have hSl := block_lt_of_cell hc
  dsimp only at hSl
  have HE : Hid (∀ wx, wx = (w.alloc (.cells #[.int .i64 (n : Int), .int .i64 98, .int .i64 (gI n), .int .i64 (gD n), .int .i64 (gC n)] 36)).alloc (.cells #[.func (.func 76) #[] #[.pointer (some ⟨S, 0, none⟩)]] 127) → Calls Tryz.prog 111 #[.pointer (some ⟨T.t, 0, none⟩), geoV n, .func (.func 112) #[] #[.pointer (some ⟨w.heap.size, 0, none⟩), .pointer (some ⟨w.heap.size + 1, 0, none⟩)]] wx fun e w' => e = .returned (.int .i64 (eK n K)) ∧ BoxI w S (z + (ct (fd (nD n) n (bmp D T)) (4096 * K) : Nat)) w') := fun wx hx => by
    have hb1 : Below w.heap.size w wx := by rw [hx]; exact ((Below.refl _ _).alloc (Nat.le_refl _) _).alloc (by simp) _
    have r1 : wx.heap[w.heap.size]? = some (.cells #[.int .i64 (n : Int), .int .i64 98, .int .i64 (gI n), .int .i64 (gD n), .int .i64 (gC n)] 36 (0, 0)) := by rw [hx]; exact (Below.heap_alloc _ _ _ (by simp)).trans (heap_alloc_new _ _)
    have r2 : wx.heap[w.heap.size + 1]? = some (.cells #[.func (.func 76) #[] #[.pointer (some ⟨S, 0, none⟩)]] 127 (0, 0)) := by
      have := heap_alloc_new (w.alloc (.cells #[.int .i64 (n : Int), .int .i64 98, .int .i64 (gI n), .int .i64 (gD n), .int .i64 (gC n)] 36)) (.cells #[.func (.func 76) #[] #[.pointer (some ⟨S, 0, none⟩)]] 127)
      rw [World.size_alloc] at this
      rw [hx]
      exact this
    have hC : Cau wx w.heap.size (w.heap.size + 1) S 76 (nD n) n z := ⟨by rw [cell_of_row _ _ _ _ _ _ r1]; rfl, by rw [cell_of_row _ _ _ _ _ _ r1, ← gD_nat]; rfl, by rw [cell_of_row _ _ _ _ _ _ r2]; rfl, (hb1.cell (p := ⟨S, 0, none⟩) hSl).trans hc, (frozen_blk (hb1.block S hSl)).trans hf, by omega, by omega⟩
    have hsz := hb1.size
    refine (eachBmF w0 wq wx D T n h (hq.trans (hb1.mono hq.size)) _ _ S z hC hS hz K hK).mono ?_
    rintro e w' ⟨rfl, hy⟩
    exact ⟨rfl, ⟨hy.cell, hy.frozen, (below_fr hb1 _).trans hy.fr (fun k hk => by rcases hk with e | e; exact .inl (.inl e); exact .inr (by omega))⟩⟩
  clear h hq hc hf hz hS hK
  go_enter Tryz.func75, Tryz.ntmps75
  unfold geoV
  unfold geoV at HE
  go_wp2_with (go_at_call 111; refine (HE.out _ rfl).mono ?_; rintro e w3 ⟨rfl, hx⟩; clear HE; have HX : Hid (BoxI w S (z + (ct (fd (nD n) n (bmp D T)) (4096 * K) : Nat)) w3) := hx; clear hx)
  go_ret
  exact ⟨rfl, HX.out⟩
set_option maxRecDepth 100000 in
set_option maxHeartbeats 4000000 in
theorem eachFrL (w0 wq w : World) (D : Dk) (T : Tx) (n : Nat) (h : Spc w0 wq D T n) (hq : Below wq.heap.size wq w) (S : Nat) (z : Int) (hc : w.cell? ⟨S, 0, none⟩ = some (.int .i64 z)) (hf : w.frozen? ⟨S, 0, none⟩ = false) (hS : wq.heap.size ≤ S) (hz : 0 ≤ z ∧ z ≤ 1000) (K : Nat) (hK : Kpre D T n K) :
    Calls Tryz.prog 75 #[.pointer (some ⟨T.t, 0, none⟩), geoV n, .func (.func 106) #[] #[.pointer (some ⟨S, 0, none⟩)]] w fun e w' => ∃ ev : Int, e = .returned (.int .i64 ev) ∧ ((ev = eK n K ∧ ct (fd (nD n) n (bmp D T)) (4096 * K) = 0 ∧ BoxI w S z w') ∨ (ev = 0 ∧ ∃ i : Nat, IsLo (fd (nD n) n (bmp D T)) i ∧ i < 4096 * K ∧ BoxI w S (i : Int) w')) := by
  have hSl := block_lt_of_cell hc
  dsimp only at hSl
  have HE : Hid (∀ wx, wx = (w.alloc (.cells #[.int .i64 (n : Int), .int .i64 98, .int .i64 (gI n), .int .i64 (gD n), .int .i64 (gC n)] 36)).alloc (.cells #[.func (.func 106) #[] #[.pointer (some ⟨S, 0, none⟩)]] 127) → Calls Tryz.prog 111 #[.pointer (some ⟨T.t, 0, none⟩), geoV n, .func (.func 112) #[] #[.pointer (some ⟨w.heap.size, 0, none⟩), .pointer (some ⟨w.heap.size + 1, 0, none⟩)]] wx fun e w' => ∃ ev : Int, e = .returned (.int .i64 ev) ∧ ((ev = eK n K ∧ ct (fd (nD n) n (bmp D T)) (4096 * K) = 0 ∧ BoxI w S z w') ∨ (ev = 0 ∧ ∃ i : Nat, IsLo (fd (nD n) n (bmp D T)) i ∧ i < 4096 * K ∧ BoxI w S (i : Int) w'))) := fun wx hx => by
    have hb1 : Below w.heap.size w wx := by rw [hx]; exact ((Below.refl _ _).alloc (Nat.le_refl _) _).alloc (by simp) _
    have r1 : wx.heap[w.heap.size]? = some (.cells #[.int .i64 (n : Int), .int .i64 98, .int .i64 (gI n), .int .i64 (gD n), .int .i64 (gC n)] 36 (0, 0)) := by rw [hx]; exact (Below.heap_alloc _ _ _ (by simp)).trans (heap_alloc_new _ _)
    have r2 : wx.heap[w.heap.size + 1]? = some (.cells #[.func (.func 106) #[] #[.pointer (some ⟨S, 0, none⟩)]] 127 (0, 0)) := by
      have := heap_alloc_new (w.alloc (.cells #[.int .i64 (n : Int), .int .i64 98, .int .i64 (gI n), .int .i64 (gD n), .int .i64 (gC n)] 36)) (.cells #[.func (.func 106) #[] #[.pointer (some ⟨S, 0, none⟩)]] 127)
      rw [World.size_alloc] at this
      rw [hx]
      exact this
    have hC : Cau wx w.heap.size (w.heap.size + 1) S 106 (nD n) n z := ⟨by rw [cell_of_row _ _ _ _ _ _ r1]; rfl, by rw [cell_of_row _ _ _ _ _ _ r1, ← gD_nat]; rfl, by rw [cell_of_row _ _ _ _ _ _ r2]; rfl, (hb1.cell (p := ⟨S, 0, none⟩) hSl).trans hc, (frozen_blk (hb1.block S hSl)).trans hf, by omega, by omega⟩
    have hsz := hb1.size
    refine (eachBmL w0 wq wx D T n h (hq.trans (hb1.mono hq.size)) _ _ S z hC hS hz K hK).mono ?_
    rintro e w' (⟨rfl, h4, hy⟩ | ⟨rfl, i, hi, hi2, hy⟩)
    · exact ⟨_, rfl, .inl ⟨rfl, h4, ⟨hy.cell, hy.frozen, (below_fr hb1 _).trans hy.fr (fun k hk => by rcases hk with e | e; exact .inl (.inl e); exact .inr (by omega))⟩⟩⟩
    · exact ⟨_, rfl, .inr ⟨rfl, i, hi, hi2, ⟨hy.cell, hy.frozen, (below_fr hb1 _).trans hy.fr (fun k hk => by rcases hk with e | e; exact .inl (.inl e); exact .inr (by omega))⟩⟩⟩
  clear h hq hc hf hz hS hK
  go_enter Tryz.func75, Tryz.ntmps75
  unfold geoV
  unfold geoV at HE
  go_wp2_with (go_at_call 111; refine (HE.out _ rfl).mono ?_; rintro e w3 ⟨ev, rfl, hx⟩; clear HE; have HX : Hid ((ev = eK n K ∧ ct (fd (nD n) n (bmp D T)) (4096 * K) = 0 ∧ BoxI w S z w3) ∨ (ev = 0 ∧ ∃ i : Nat, IsLo (fd (nD n) n (bmp D T)) i ∧ i < 4096 * K ∧ BoxI w S (i : Int) w3)) := hx; clear hx)
  go_ret
  exact ⟨ev, rfl, HX.out⟩
set_option maxRecDepth 100000 in
set_option maxHeartbeats 4000000 in
theorem low_no (w0 w : World) (D : Dk) (T : Tx) (n : Nat) (h : Spc w0 w D T n) (K : Nat) (hK : Kpre D T n K) (hct : ct (fd (nD n) n (bmp D T)) (4096 * K) = 0) :
    Calls Tryz.prog 67 #[.pointer (some ⟨T.t, 0, none⟩), geoV n] w fun e w' => e = .returned (.tuple #[.int .i64 0, .int .i64 (if K = nM n then 90 else 30)]) ∧ Below w.heap.size w w' := by
  have hN := nM_bd h.lo h.hi
  have HE : Hid (∀ wx, wx = (w.alloc (.cells #[.int .i64 (n : Int), .int .i64 98, .int .i64 (gI n), .int .i64 (gD n), .int .i64 (gC n)] 36)).alloc (.cells #[.int .i64 0] 3) → Calls Tryz.prog 75 #[.pointer (some ⟨T.t, 0, none⟩), geoV n, .func (.func 106) #[] #[.pointer (some ⟨w.heap.size + 1, 0, none⟩)]] wx fun e w' => e = .returned (.int .i64 (eK n K)) ∧ Below w.heap.size w w' ∧ w'.cell? ⟨w.heap.size + 1, 0, none⟩ = some (.int .i64 0)) := fun wx hx => by
    have hb1 : Below w.heap.size w wx := by rw [hx]; exact ((Below.refl _ _).alloc (Nat.le_refl _) _).alloc (by simp) _
    have r2 : wx.heap[w.heap.size + 1]? = some (.cells #[.int .i64 0] 3 (0, 0)) := by
      have := heap_alloc_new (w.alloc (.cells #[.int .i64 (n : Int), .int .i64 98, .int .i64 (gI n), .int .i64 (gD n), .int .i64 (gC n)] 36)) (.cells #[.int .i64 0] 3)
      rw [World.size_alloc] at this
      rw [hx]
      exact this
    have hsz := hb1.size
    refine (eachFrL w0 w wx D T n h hb1 (w.heap.size + 1) 0 (by rw [cell_of_row _ _ _ _ _ _ r2]; rfl) (frozen_of_row _ _ _ _ _ r2) (by omega) (by omega) K hK).mono ?_
    rintro e w' ⟨ev, rfl, ⟨rfl, _, hy⟩ | ⟨_, i, hi, hi2, _⟩⟩
    · exact ⟨rfl, hb1.trans (hy.fr.below _ (fun k hk => by rcases hk with e | e <;> omega) (by omega)), hy.cell⟩
    · have h2 := ct_zero.1 hct i hi2
      rw [hi.1] at h2
      cases h2
  clear hct hK
  clear h
  by_cases hKM : K = nM n
  rotate_left
  · have e1 : eK n K = 30 := by unfold eK; rw [if_neg hKM]
    rw [e1] at HE
    rw [if_neg hKM]
    clear e1 hKM hN
    go_enter Tryz.func67, Tryz.ntmps67
    unfold geoV
    unfold geoV at HE
    go_wp2_with (go_at_call 75; refine (HE.out _ rfl).mono ?_; rintro e w3 ⟨rfl, hx, hcl⟩; clear HE; have HX : Hid (Below w.heap.size w w3) := hx; clear hx)
    go_ret2
    exact ⟨rfl, HX.out⟩
  have e1 : eK n K = 0 := by unfold eK; rw [if_pos hKM]
  rw [e1] at HE
  rw [if_pos hKM]
  clear e1 hKM hN
  go_enter Tryz.func67, Tryz.ntmps67
  unfold geoV
  unfold geoV at HE
  go_wp2_with (go_at_call 75; refine (HE.out _ rfl).mono ?_; rintro e w3 ⟨rfl, hx, hcl⟩; clear HE; have HX : Hid (Below w.heap.size w w3) := hx; clear hx)
  go_ret2
  exact ⟨rfl, HX.out⟩
set_option maxRecDepth 100000 in
set_option maxHeartbeats 4000000 in
theorem low_yes (w0 w : World) (D : Dk) (T : Tx) (n : Nat) (h : Spc w0 w D T n) (i : Nat) (hi : IsLo (fd (nD n) n (bmp D T)) i) (K : Nat) (hK : Kpre D T n K) (hiK : i < 4096 * K) :
    Calls Tryz.prog 67 #[.pointer (some ⟨T.t, 0, none⟩), geoV n] w fun e w' => e = .returned (.tuple #[.int .i64 (i : Int), .int .i64 0]) ∧ Below w.heap.size w w' := by
  have hN := nM_bd h.lo h.hi
  have HE : Hid (∀ wx, wx = (w.alloc (.cells #[.int .i64 (n : Int), .int .i64 98, .int .i64 (gI n), .int .i64 (gD n), .int .i64 (gC n)] 36)).alloc (.cells #[.int .i64 0] 3) → Calls Tryz.prog 75 #[.pointer (some ⟨T.t, 0, none⟩), geoV n, .func (.func 106) #[] #[.pointer (some ⟨w.heap.size + 1, 0, none⟩)]] wx fun e w' => e = .returned (.int .i64 0) ∧ Below w.heap.size w w' ∧ w'.cell? ⟨w.heap.size + 1, 0, none⟩ = some (.int .i64 (i : Int))) := fun wx hx => by
    have hb1 : Below w.heap.size w wx := by rw [hx]; exact ((Below.refl _ _).alloc (Nat.le_refl _) _).alloc (by simp) _
    have r2 : wx.heap[w.heap.size + 1]? = some (.cells #[.int .i64 0] 3 (0, 0)) := by
      have := heap_alloc_new (w.alloc (.cells #[.int .i64 (n : Int), .int .i64 98, .int .i64 (gI n), .int .i64 (gD n), .int .i64 (gC n)] 36)) (.cells #[.int .i64 0] 3)
      rw [World.size_alloc] at this
      rw [hx]
      exact this
    have hsz := hb1.size
    refine (eachFrL w0 w wx D T n h hb1 (w.heap.size + 1) 0 (by rw [cell_of_row _ _ _ _ _ _ r2]; rfl) (frozen_of_row _ _ _ _ _ r2) (by omega) (by omega) K hK).mono ?_
    have h1 := fd_bd hi.1
    rintro e w' ⟨ev, rfl, ⟨_, h2, _⟩ | ⟨rfl, j, hj, hj2, hy⟩⟩
    · have h3 := ct_zero.1 h2 i hiK
      rw [hi.1] at h3
      cases h3
    · obtain rfl := hi.eq hj
      exact ⟨rfl, hb1.trans (hy.fr.below _ (fun k hk => by rcases hk with e | e <;> omega) (by omega)), hy.cell⟩
  have hi0 : ((i : Int) == 0) = false := (by have := fd_bd hi.1; simp; omega)
  clear hi hK hiK
  clear h
  go_enter Tryz.func67, Tryz.ntmps67
  unfold geoV
  unfold geoV at HE
  go_wp2_with (go_at_call 75; refine (HE.out _ rfl).mono ?_; rintro e w3 ⟨rfl, hx, hcl⟩; clear HE; have HX : Hid (Below w.heap.size w w3) := hx; clear hx)
  go_ret2
  exact ⟨rfl, HX.out⟩
set_option maxRecDepth 100000 in
set_option maxHeartbeats 4000000 in
theorem free_any (w0 w : World) (D : Dk) (T : Tx) (n : Nat) (h : Spc w0 w D T n) (K : Nat) (hK : Kpre D T n K) :
    Calls Tryz.prog 31 #[.pointer (some ⟨T.t, 0, none⟩), geoV n] w fun e w' => e = .returned (.tuple #[.int .i64 (if K = nM n then (ct (fd (nD n) n (bmp D T)) n : Nat) else 0 : Nat), .int .i64 (eK n K)]) ∧ Below w.heap.size w w' := by
  have hN := nM_bd h.lo h.hi
  have HE : Hid (∀ wx, wx = (w.alloc (.cells #[.int .i64 (n : Int), .int .i64 98, .int .i64 (gI n), .int .i64 (gD n), .int .i64 (gC n)] 36)).alloc (.cells #[.int .i64 0] 3) → Calls Tryz.prog 75 #[.pointer (some ⟨T.t, 0, none⟩), geoV n, .func (.func 76) #[] #[.pointer (some ⟨w.heap.size + 1, 0, none⟩)]] wx fun e w' => e = .returned (.int .i64 (eK n K)) ∧ Below w.heap.size w w' ∧ w'.cell? ⟨w.heap.size + 1, 0, none⟩ = some (.int .i64 (ct (fd (nD n) n (bmp D T)) (4096 * K) : Nat))) := fun wx hx => by
    have hb1 : Below w.heap.size w wx := by rw [hx]; exact ((Below.refl _ _).alloc (Nat.le_refl _) _).alloc (by simp) _
    have r2 : wx.heap[w.heap.size + 1]? = some (.cells #[.int .i64 0] 3 (0, 0)) := by
      have := heap_alloc_new (w.alloc (.cells #[.int .i64 (n : Int), .int .i64 98, .int .i64 (gI n), .int .i64 (gD n), .int .i64 (gC n)] 36)) (.cells #[.int .i64 0] 3)
      rw [World.size_alloc] at this
      rw [hx]
      exact this
    have hsz := hb1.size
    refine (eachFrF w0 w wx D T n h hb1 (w.heap.size + 1) 0 (by rw [cell_of_row _ _ _ _ _ _ r2]; rfl) (frozen_of_row _ _ _ _ _ r2) (by omega) (by omega) K hK).mono ?_
    rintro e w' ⟨rfl, hy⟩
    have hcy := hy.cell
    rw [Int.zero_add] at hcy
    exact ⟨rfl, hb1.trans (hy.fr.below _ (fun k hk => by rcases hk with e | e <;> omega) (by omega)), hcy⟩
  by_cases hKM : K = nM n
  · have e1 : eK n K = 0 := by unfold eK; rw [if_pos hKM]
    rw [e1, if_pos hKM]
    rw [e1, hKM, ct_tail hN.2.2.1] at HE
    obtain ⟨c, hc⟩ : ∃ c, ct (fd (nD n) n (bmp D T)) n = c := ⟨_, rfl⟩
    rw [hc] at HE
    rw [hc]
    clear hc h hK hKM e1 hN
    go_enter Tryz.func31, Tryz.ntmps31
    unfold geoV
    unfold geoV at HE
    go_wp2_with (go_at_call 75; refine (HE.out _ rfl).mono ?_; rintro e w3 ⟨rfl, hx, hcl⟩; clear HE; have HX : Hid (Below w.heap.size w w3) := hx; clear hx)
    go_ret2
    exact ⟨rfl, HX.out⟩
  · have e1 : eK n K = 30 := by unfold eK; rw [if_neg hKM]
    rw [e1, if_neg hKM]
    rw [e1] at HE
    obtain ⟨c, hc⟩ : ∃ c, ct (fd (nD n) n (bmp D T)) (4096 * K) = c := ⟨_, rfl⟩
    rw [hc] at HE
    clear hc h hK hKM e1 hN
    go_enter Tryz.func31, Tryz.ntmps31
    unfold geoV
    unfold geoV at HE
    go_wp2_with (go_at_call 75; refine (HE.out _ rfl).mono ?_; rintro e w3 ⟨rfl, hx, hcl⟩; clear HE; have HX : Hid (Below w.heap.size w w3) := hx; clear hx)
    go_ret2
    exact ⟨rfl, HX.out⟩
end Go.Proofs.YtflienghgobmoaaGreatDoor
