import Derived.Test.YtflienghgobmoaaGreatDoorKSpP
import Derived.Test.YtflienghgobmoaaGreatDoorKYqA
namespace Go.Proofs.YtflienghgobmoaaGreatDoor
open Go.RowKit Go.Maps Rec
/-- a Read that is refused -/
def RdNo (w : World) (t : Nat) (i : Int) (er : Int) : Prop := ∀ wx, Below w.heap.size w wx → Calls Tryz.prog 65 #[.pointer (some ⟨t, 0, none⟩), .int .i64 i] wx fun e w' => ∃ a c, e = .returned (.tuple #[.slice a 0 c, .int .i64 er]) ∧ Below wx.heap.size wx w'
theorem RdNo.on {w wb : World} {t : Nat} {i er : Int} (h : RdNo w t i er) (hb : Below w.heap.size w wb) : RdNo wb t i er := fun wx hx => h wx (hb.trans (hx.mono hb.size))
theorem rdNo_over {w : World} {t : Nat} (h : OverAt w t) (i : Int) : RdNo w t i 61 := fun wx hb => by
  refine (read_over wx t ((hb.block _ (heap_lt h)).trans h) i).mono ?_
  rintro e w' ⟨rfl, rfl⟩
  exact ⟨none, 0, rfl, Below.refl _ _⟩
theorem rdNo_down {w0 w : World} {D : Dk} {T : Tx} {n : Nat} (h : Spc w0 w D T n) (i : Nat) (hi : i < n) (hr : ¬ rdb D T i) : RdNo w T.t (i : Int) 30 := fun _ hb => (h.on hb).read_no i hi hr
def pl0 : Value := .agg #[.int .i64 0, .slice none 0 0, .int .i64 0]
set_option maxRecDepth 100000 in
set_option maxHeartbeats 4000000 in
theorem find_err (w : World) (t n : Nat) (h0 : 128 ≤ n) (h1 : n ≤ 16384) (er : Int) (he : er ≠ 0) (i : Nat) (hi : i < n) (hR : RdNo w t ((98 + i / 4096 : Nat) : Int) er) :
    Calls Tryz.prog 72 #[.pointer (some ⟨t, 0, none⟩), geoV n, .int .i64 (i : Int)] w fun e w' => e = .returned (.tuple #[pl0, .int .i64 er]) ∧ Below w.heap.size w w' := by
  have HG : Hid (∀ wx, Calls Tryz.prog 108 #[geoV n, .int .i64 (i : Int)] wx fun e w' => e = .returned (.tuple #[.int .i64 ((98 + i / 4096 : Nat) : Int), .int .i64 ((i % 4096 : Nat) : Int), .int .i64 0]) ∧ Below wx.heap.size wx w') := fun wx => by
    have := gbit_any wx (n : Int) (i : Int) (isLen_yes (by omega)) (by omega)
    rw [bitA_in (by omega)] at this
    exact this
  obtain ⟨A, hA⟩ : ∃ A, 98 + i / 4096 = A := ⟨_, rfl⟩
  obtain ⟨J, hJ⟩ : ∃ J, i % 4096 = J := ⟨_, rfl⟩
  rw [hA] at hR
  have HR : Hid (RdNo w t (A : Int) er) := hR
  unfold pl0
  rw [hA, hJ] at HG
  have he' : ((er : Int) == 0) = false := by simp; exact he
  clear hA hJ hR he
  obtain ⟨wz, hwz⟩ : ∃ wz, (w.alloc (.cells #[.int .i64 (n : Int), .int .i64 98, .int .i64 (gI n), .int .i64 (gD n), .int .i64 (gC n)] 36)).alloc (.cells #[.int .i64 0, .slice none 0 0, .int .i64 0] 122) = wz := ⟨_, rfl⟩
  have HZ : Hid (Below w.heap.size w wz ∧ wz.heap.size = w.heap.size + 2 ∧ wz.heap[w.heap.size + 1]? = some (.cells #[.int .i64 0, .slice none 0 0, .int .i64 0] 122 (0, 0))) := by
    rw [← hwz]
    have h9 := heap_alloc_new (w.alloc (.cells #[.int .i64 (n : Int), .int .i64 98, .int .i64 (gI n), .int .i64 (gD n), .int .i64 (gC n)] 36)) (.cells #[.int .i64 0, .slice none 0 0, .int .i64 0] 122)
    rw [World.size_alloc] at h9
    exact ⟨((Below.refl _ _).alloc (Nat.le_refl _) _).alloc (by simp) _, by simp, h9⟩
  have hzr : wz.heap[w.heap.size]? = some (.cells #[.int .i64 (n : Int), .int .i64 98, .int .i64 (gI n), .int .i64 (gD n), .int .i64 (gC n)] 36 (0, 0)) := by
    rw [← hwz]; exact (Below.heap_alloc _ _ _ (by simp)).trans (heap_alloc_new _ _)
  have HZC : Hid (∀ j, wz.cell? ⟨w.heap.size, j, none⟩ = #[.int .i64 (n : Int), .int .i64 98, .int .i64 (gI n), .int .i64 (gD n), .int .i64 (gC n)][j]?) := fun j => cell_of_row _ _ _ _ _ _ hzr
  have hz0 : wz.cell? ⟨w.heap.size, 0, none⟩ = some (.int .i64 (n : Int)) := HZC.out 0
  have hz1 : wz.cell? ⟨w.heap.size, 1, none⟩ = some (.int .i64 98) := HZC.out 1
  have hz2 : wz.cell? ⟨w.heap.size, 2, none⟩ = some (.int .i64 (gI n)) := HZC.out 2
  have hz3 : wz.cell? ⟨w.heap.size, 3, none⟩ = some (.int .i64 (gD n)) := HZC.out 3
  have hz4 : wz.cell? ⟨w.heap.size, 4, none⟩ = some (.int .i64 (gC n)) := HZC.out 4
  clear hzr
  go_enter Tryz.func72, Tryz.ntmps72
  unfold geoV
  unfold geoV at HG
  go_wp2_with (first
    | (go_at_call 108; refine (HG.out _).mono ?_; rintro e w1 ⟨rfl, hb⟩; have H1 : Hid (Below wz.heap.size wz w1) := hb; clear hb HG)
    | (go_at_call 65; refine (HR.out _ (HZ.out.1.trans (H1.out.mono HZ.out.1.size))).mono ?_; rintro e w2 ⟨ra, rc, rfl, h3⟩; have HRr : Hid (w2.heap[w.heap.size + 1]? = some (.cells #[.int .i64 0, .slice none 0 0, .int .i64 0] 122 (0, 0)) ∧ Below w1.heap.size w1 w2) := ⟨(h3.block _ (by have := H1.out.size; have := HZ.out.2.1; omega)).trans ((H1.out.block _ (by have := HZ.out.2.1; omega)).trans HZ.out.2.2), h3⟩; have f0 : w2.frozen? ⟨w.heap.size + 1, 0, none⟩ = false := frozen_of_row _ _ 0 _ _ HRr.out.1; have f1 : w2.frozen? ⟨w.heap.size + 1, 1, none⟩ = false := frozen_of_row _ _ 1 _ _ HRr.out.1; have f2 : w2.frozen? ⟨w.heap.size + 1, 2, none⟩ = false := frozen_of_row _ _ 2 _ _ HRr.out.1; have p0 : w2.cell? ⟨w.heap.size + 1, 0, none⟩ = some (.int .i64 0) := cell_of_row _ _ 0 _ _ _ HRr.out.1; have p1 : w2.cell? ⟨w.heap.size + 1, 1, none⟩ = some (.slice none 0 0) := cell_of_row _ _ 1 _ _ _ HRr.out.1; have p2 : w2.cell? ⟨w.heap.size + 1, 2, none⟩ = some (.int .i64 0) := cell_of_row _ _ 2 _ _ _ HRr.out.1; clear h3))
  have h1 := heap_setCell_same _ _ 0 _ _ (.int .i64 0) HRr.out.1
  have h2 := heap_setCell_same _ _ 1 _ _ (.slice none 0 0) h1
  have h3 := heap_setCell_same _ _ 2 _ _ (.int .i64 0) h2
  have c0 := cell_of_row _ _ 0 _ _ _ h3
  have c1 := cell_of_row _ _ 1 _ _ _ h3
  have c2 := cell_of_row _ _ 2 _ _ _ h3
  refine bodyPost_ret (results_row_tmp7 rfl _ _ (w.heap.size + 1) #[.int .i64 0, .slice none 0 0, .int .i64 0] rfl (by simp [go_sem, c0, c1, c2])) rfl ?_
  have hs := HZ.out.2.1
  have hs2 := HRr.out.2.size
  have hs1 := H1.out.size
  have hFr : Fr (fun k => k = w.heap.size + 1) w2 (((w2.setCell ⟨w.heap.size + 1, 0, none⟩ (.int .i64 0)).setCell ⟨w.heap.size + 1, 1, none⟩ (.slice none 0 0)).setCell ⟨w.heap.size + 1, 2, none⟩ (.int .i64 0)) := (Fr.set.trans Fr.set (fun _ hk => .inl hk)).trans Fr.set (fun _ hk => .inl hk)
  have hb2 : Below w.heap.size w w2 := HZ.out.1.trans ((H1.out.mono HZ.out.1.size).trans (HRr.out.2.mono (Nat.le_trans HZ.out.1.size H1.out.size)))
  exact ⟨rfl, hb2.trans (hFr.below _ (fun k hk => by have hk : k = w.heap.size + 1 := hk; omega) (by omega))⟩
set_option maxRecDepth 100000 in
set_option maxHeartbeats 4000000 in
theorem find_out (w : World) (t n : Nat) (h0 : 128 ≤ n) (h1 : n ≤ 16384) (i : Int) (hi : ¬ (0 ≤ i ∧ i < (n : Int))) (hb : -9223372036854775808 ≤ i ∧ i ≤ 9223372036854775807) :
    Calls Tryz.prog 72 #[.pointer (some ⟨t, 0, none⟩), geoV n, .int .i64 i] w fun e w' => e = .returned (.tuple #[pl0, .int .i64 31]) ∧ Below w.heap.size w w' := by
  have HG : Hid (∀ wx, Calls Tryz.prog 108 #[geoV n, .int .i64 i] wx fun e w' => e = .returned (.tuple #[.int .i64 0, .int .i64 0, .int .i64 31]) ∧ Below wx.heap.size wx w') := fun wx => by
    have := gbit_any wx (n : Int) i (isLen_yes (by omega)) hb
    rw [bitA_out hi] at this
    exact this
  unfold pl0
  clear hi hb
  obtain ⟨wz, hwz⟩ : ∃ wz, (w.alloc (.cells #[.int .i64 (n : Int), .int .i64 98, .int .i64 (gI n), .int .i64 (gD n), .int .i64 (gC n)] 36)).alloc (.cells #[.int .i64 0, .slice none 0 0, .int .i64 0] 122) = wz := ⟨_, rfl⟩
  have HZ : Hid (Below w.heap.size w wz ∧ wz.heap.size = w.heap.size + 2 ∧ wz.heap[w.heap.size + 1]? = some (.cells #[.int .i64 0, .slice none 0 0, .int .i64 0] 122 (0, 0))) := by
    rw [← hwz]
    have h9 := heap_alloc_new (w.alloc (.cells #[.int .i64 (n : Int), .int .i64 98, .int .i64 (gI n), .int .i64 (gD n), .int .i64 (gC n)] 36)) (.cells #[.int .i64 0, .slice none 0 0, .int .i64 0] 122)
    rw [World.size_alloc] at h9
    exact ⟨((Below.refl _ _).alloc (Nat.le_refl _) _).alloc (by simp) _, by simp, h9⟩
  have hzr : wz.heap[w.heap.size]? = some (.cells #[.int .i64 (n : Int), .int .i64 98, .int .i64 (gI n), .int .i64 (gD n), .int .i64 (gC n)] 36 (0, 0)) := by
    rw [← hwz]; exact (Below.heap_alloc _ _ _ (by simp)).trans (heap_alloc_new _ _)
  have HZC : Hid (∀ j, wz.cell? ⟨w.heap.size, j, none⟩ = #[.int .i64 (n : Int), .int .i64 98, .int .i64 (gI n), .int .i64 (gD n), .int .i64 (gC n)][j]?) := fun j => cell_of_row _ _ _ _ _ _ hzr
  have hz0 : wz.cell? ⟨w.heap.size, 0, none⟩ = some (.int .i64 (n : Int)) := HZC.out 0
  have hz1 : wz.cell? ⟨w.heap.size, 1, none⟩ = some (.int .i64 98) := HZC.out 1
  have hz2 : wz.cell? ⟨w.heap.size, 2, none⟩ = some (.int .i64 (gI n)) := HZC.out 2
  have hz3 : wz.cell? ⟨w.heap.size, 3, none⟩ = some (.int .i64 (gD n)) := HZC.out 3
  have hz4 : wz.cell? ⟨w.heap.size, 4, none⟩ = some (.int .i64 (gC n)) := HZC.out 4
  clear hzr
  go_enter Tryz.func72, Tryz.ntmps72
  unfold geoV
  unfold geoV at HG
  go_wp2_with (go_at_call 108; refine (HG.out _).mono ?_; rintro e w2 ⟨rfl, h3⟩; have HRr : Hid (w2.heap[w.heap.size + 1]? = some (.cells #[.int .i64 0, .slice none 0 0, .int .i64 0] 122 (0, 0)) ∧ Below wz.heap.size wz w2) := ⟨(h3.block _ (by have := HZ.out.2.1; omega)).trans HZ.out.2.2, h3⟩; have f0 : w2.frozen? ⟨w.heap.size + 1, 0, none⟩ = false := frozen_of_row _ _ 0 _ _ HRr.out.1; have f1 : w2.frozen? ⟨w.heap.size + 1, 1, none⟩ = false := frozen_of_row _ _ 1 _ _ HRr.out.1; have f2 : w2.frozen? ⟨w.heap.size + 1, 2, none⟩ = false := frozen_of_row _ _ 2 _ _ HRr.out.1; have p0 : w2.cell? ⟨w.heap.size + 1, 0, none⟩ = some (.int .i64 0) := cell_of_row _ _ 0 _ _ _ HRr.out.1; have p1 : w2.cell? ⟨w.heap.size + 1, 1, none⟩ = some (.slice none 0 0) := cell_of_row _ _ 1 _ _ _ HRr.out.1; have p2 : w2.cell? ⟨w.heap.size + 1, 2, none⟩ = some (.int .i64 0) := cell_of_row _ _ 2 _ _ _ HRr.out.1; clear h3)
  have h1 := heap_setCell_same _ _ 0 _ _ (.int .i64 0) HRr.out.1
  have h2 := heap_setCell_same _ _ 1 _ _ (.slice none 0 0) h1
  have h3 := heap_setCell_same _ _ 2 _ _ (.int .i64 0) h2
  have c0 := cell_of_row _ _ 0 _ _ _ h3
  have c1 := cell_of_row _ _ 1 _ _ _ h3
  have c2 := cell_of_row _ _ 2 _ _ _ h3
  refine bodyPost_ret (results_row_tmp7 rfl _ _ (w.heap.size + 1) #[.int .i64 0, .slice none 0 0, .int .i64 0] rfl (by simp [go_sem, c0, c1, c2])) rfl ?_
  have hs := HZ.out.2.1
  have hs2 := HRr.out.2.size
  have hFr : Fr (fun k => k = w.heap.size + 1) w2 (((w2.setCell ⟨w.heap.size + 1, 0, none⟩ (.int .i64 0)).setCell ⟨w.heap.size + 1, 1, none⟩ (.slice none 0 0)).setCell ⟨w.heap.size + 1, 2, none⟩ (.int .i64 0)) := (Fr.set.trans Fr.set (fun _ hk => .inl hk)).trans Fr.set (fun _ hk => .inl hk)
  have hb2 : Below w.heap.size w w2 := HZ.out.1.trans (HRr.out.2.mono HZ.out.1.size)
  exact ⟨rfl, hb2.trans (hFr.below _ (fun k hk => by have hk : k = w.heap.size + 1 := hk; omega) (by omega))⟩
set_option maxRecDepth 100000 in
set_option maxHeartbeats 4000000 in
theorem used_err (w : World) (t n : Nat) (h0 : 128 ≤ n) (h1 : n ≤ 16384) (er : Int) (he : er ≠ 0) (i : Nat) (hi : i < n) (hR : RdNo w t ((98 + i / 4096 : Nat) : Int) er) :
    Calls Tryz.prog 29 #[.pointer (some ⟨t, 0, none⟩), geoV n, .int .i64 (i : Int)] w fun e w' => e = .returned (.tuple #[.bool false, .int .i64 er]) ∧ Below w.heap.size w w' := by
  have HF : Hid (∀ wx, Below w.heap.size w wx → Calls Tryz.prog 72 #[.pointer (some ⟨t, 0, none⟩), geoV n, .int .i64 (i : Int)] wx fun e w' => e = .returned (.tuple #[pl0, .int .i64 er]) ∧ Below wx.heap.size wx w') := fun wx hb => find_err wx t n h0 h1 er he i hi (hR.on hb)
  have HA : Hid (∀ o, Below w.heap.size w (w.alloc o)) := fun o => (Below.refl _ _).alloc (Nat.le_refl _) o
  have he' : ((er : Int) == 0) = false := by simp; exact he
  clear he hR hi
  unfold pl0 at HF
  go_enter Tryz.func29, Tryz.ntmps29
  unfold geoV
  unfold geoV at HF
  go_wp2_with (go_at_call 72; refine (HF.out _ (HA.out _)).mono ?_; rintro e w1 ⟨rfl, h3⟩; have H1 : Hid (Below w.heap.size w w1) := (HA.out _).trans (h3.mono (HA.out _).size); clear h3 HF)
  go_ret2
  exact ⟨rfl, H1.out.alloc H1.out.size _⟩
set_option maxRecDepth 100000 in
set_option maxHeartbeats 4000000 in
theorem used_out (w : World) (t n : Nat) (h0 : 128 ≤ n) (h1 : n ≤ 16384) (i : Int) (hi : ¬ (0 ≤ i ∧ i < (n : Int))) (hbi : -9223372036854775808 ≤ i ∧ i ≤ 9223372036854775807) :
    Calls Tryz.prog 29 #[.pointer (some ⟨t, 0, none⟩), geoV n, .int .i64 i] w fun e w' => e = .returned (.tuple #[.bool false, .int .i64 31]) ∧ Below w.heap.size w w' := by
  have HF : Hid (∀ wx, Below w.heap.size w wx → Calls Tryz.prog 72 #[.pointer (some ⟨t, 0, none⟩), geoV n, .int .i64 i] wx fun e w' => e = .returned (.tuple #[pl0, .int .i64 31]) ∧ Below wx.heap.size wx w') := fun wx _ => find_out wx t n h0 h1 i hi hbi
  have HA : Hid (∀ o, Below w.heap.size w (w.alloc o)) := fun o => (Below.refl _ _).alloc (Nat.le_refl _) o
  clear hi hbi
  unfold pl0 at HF
  go_enter Tryz.func29, Tryz.ntmps29
  unfold geoV
  unfold geoV at HF
  go_wp2_with (go_at_call 72; refine (HF.out _ (HA.out _)).mono ?_; rintro e w1 ⟨rfl, h3⟩; have H1 : Hid (Below w.heap.size w w1) := (HA.out _).trans (h3.mono (HA.out _).size); clear h3 HF)
  go_ret2
  exact ⟨rfl, H1.out.alloc H1.out.size _⟩
set_option maxRecDepth 100000 in
set_option maxHeartbeats 4000000 in
theorem give_err (w : World) (t n : Nat) (h0 : 128 ≤ n) (h1 : n ≤ 16384) (er : Int) (he : er ≠ 0) (i : Nat) (hi0 : nD n ≤ i) (hi : i < n) (hR : RdNo w t ((98 + i / 4096 : Nat) : Int) er) :
    Calls Tryz.prog 27 #[.pointer (some ⟨t, 0, none⟩), geoV n, .int .i64 (i : Int)] w fun e w' => e = .returned (.int .i64 er) ∧ Below w.heap.size w w' := by
  have HF : Hid (∀ wx, Below w.heap.size w wx → Calls Tryz.prog 72 #[.pointer (some ⟨t, 0, none⟩), geoV n, .int .i64 (i : Int)] wx fun e w' => e = .returned (.tuple #[pl0, .int .i64 er]) ∧ Below wx.heap.size wx w') := fun wx hb => find_err wx t n h0 h1 er he i hi (hR.on hb)
  have HD : Hid (∀ wx, Calls Tryz.prog 71 #[geoV n, .int .i64 (i : Int)] wx fun e w' => e = .returned (.bool true) ∧ Below wx.heap.size wx w') := fun wx => isData_yes wx n (i : Int) (by omega) (by omega)
  have HA : Hid (∀ o, Below w.heap.size w (w.alloc o)) := fun o => (Below.refl _ _).alloc (Nat.le_refl _) o
  have he' : ((er : Int) == 0) = false := by simp; exact he
  clear he hR hi hi0
  unfold pl0 at HF
  go_enter Tryz.func27, Tryz.ntmps27
  unfold geoV
  unfold geoV at HF HD
  obtain ⟨wz, hwz⟩ : ∃ wz, w.alloc (.cells #[.int .i64 (n : Int), .int .i64 98, .int .i64 (gI n), .int .i64 (gD n), .int .i64 (gC n)] 36) = wz := ⟨_, rfl⟩
  have HZ : Hid (Below w.heap.size w wz ∧ GeoAt wz w.heap.size n) := by
    rw [← hwz]; exact ⟨HA.out _, heap_alloc_new _ _⟩
  obtain ⟨z0, z1, z2, z3, z4⟩ := HZ.out.2.cells
  clear HA
  go_wp2_with (first
    | (go_at_call 71; refine (HD.out _).mono ?_; rintro e w1 ⟨rfl, h1⟩; have H1 : Hid (Below w.heap.size w w1) := HZ.out.1.trans (h1.mono HZ.out.1.size); obtain ⟨y0, y1, y2, y3, y4⟩ := (HZ.out.2.on h1).cells; clear h1 HD)
    | (go_at_call 72; refine (HF.out _ H1.out).mono ?_; rintro e w2 ⟨rfl, h3⟩; have H2 : Hid (Below w.heap.size w w2) := H1.out.trans (h3.mono H1.out.size); clear h3 HF))
  go_ret
  exact ⟨rfl, H2.out.alloc H2.out.size _⟩
end Go.Proofs.YtflienghgobmoaaGreatDoor

namespace Go.Proofs.YtflienghgobmoaaGreatDoor
open Go.RowKit Go.Maps Rec
set_option maxRecDepth 100000 in
set_option maxHeartbeats 4000000 in
theorem bm_err (w : World) (t n : Nat) (h0 : 128 ≤ n) (h1 : n ≤ 16384) (er : Int) (he : er ≠ 0) (hR : RdNo w t 98 er) (fv : Value) :
    Calls Tryz.prog 111 #[.pointer (some ⟨t, 0, none⟩), geoV n, fv] w fun e w' => e = .returned (.int .i64 er) ∧ Below w.heap.size w w' := by
  have HR : Hid (RdNo w t 98 er) := hR
  have he' : ((er : Int) == 0) = false := by simp; exact he
  have HN := nM_bd h0 h1
  obtain ⟨M, hM⟩ : ∃ M, nM n = M := ⟨_, rfl⟩
  rw [hM] at HN
  obtain ⟨gi, hgi⟩ : ∃ gi : Int, gI (n : Int) = gi := ⟨_, rfl⟩
  have hgi' : gi - 98 = (M : Int) := by rw [← hgi, gI_nat, hM]; omega
  have hM0 : (0 : Int) < (M : Int) := by omega
  have hM2 : 0 < M ∧ M ≤ 4 := by omega
  obtain ⟨gd, hgd⟩ : ∃ gd : Int, gD (n : Int) = gd := ⟨_, rfl⟩
  obtain ⟨gc, hgc⟩ : ∃ gc : Int, gC (n : Int) = gc := ⟨_, rfl⟩
  unfold geoV
  rw [hgi, hgd, hgc]
  obtain ⟨hM2, hM4⟩ := hM2
  clear hgi hgd hgc hM he hR HN
  obtain ⟨w1, hw1⟩ : ∃ w1, w.alloc (.cells #[.int .i64 (n : Int), .int .i64 98, .int .i64 gi, .int .i64 gd, .int .i64 gc] 36) = w1 := ⟨_, rfl⟩
  have H1 : Hid (Below w.heap.size w w1 ∧ w1.heap[w.heap.size]? = some (.cells #[.int .i64 (n : Int), .int .i64 98, .int .i64 gi, .int .i64 gd, .int .i64 gc] 36 (0, 0))) := by
    rw [← hw1]; exact ⟨(Below.refl _ _).alloc (Nat.le_refl _) _, heap_alloc_new _ _⟩
  have hcc : ∀ j, w1.cell? ⟨w.heap.size, j, none⟩ = #[.int .i64 (n : Int), .int .i64 98, .int .i64 gi, .int .i64 gd, .int .i64 gc][j]? := fun j => cell_of_row _ _ _ _ _ _ H1.out.2
  have hcA : w1.cell? ⟨w.heap.size, 1, none⟩ = some (.int .i64 98) := hcc 1
  have hcB : w1.cell? ⟨w.heap.size, 2, none⟩ = some (.int .i64 gi) := hcc 2
  clear hcc
  go_enter Tryz.func111, Tryz.ntmps111
  go_wp2
  go_loopw [15] (fun s15 wr => ∃ k : Nat, k < 1 ∧ s15 = .int .i64 (k : Int) ∧ wr = w1) (fun _ _ => 0)
  case atStart => exact ⟨0, by decide, rfl, rfl⟩
  case round =>
    obtain ⟨k, hk, rfl, rfl⟩ := hrel
    have hlt' : (k : Int) < (M : Int) := by omega
    have e98 : (98 : Int) + (k : Int) = 98 := by omega
    clear hk
    go_wp2_with (go_at_call 65; refine (HR.out _ H1.out.1).mono ?_; rintro e w2 ⟨ra, rc, rfl, h3⟩; have H3 : Hid (Below w.heap.size w w2) := H1.out.1.trans (h3.mono H1.out.1.size); clear h3)
    go_ret
    exact ⟨rfl, H3.out⟩
set_option maxRecDepth 100000 in
set_option maxHeartbeats 4000000 in
theorem fr_err (w : World) (t n : Nat) (h0 : 128 ≤ n) (h1 : n ≤ 16384) (er : Int) (he : er ≠ 0) (hR : RdNo w t 98 er) (fv : Value) :
    Calls Tryz.prog 75 #[.pointer (some ⟨t, 0, none⟩), geoV n, fv] w fun e w' => e = .returned (.int .i64 er) ∧ Below w.heap.size w w' := by
  have HA : Hid (∀ a b, Below w.heap.size w ((w.alloc a).alloc b)) := fun a b => ((Below.refl _ _).alloc (Nat.le_refl _) _).alloc (by simp) _
  have HE : Hid (∀ wx gv, Below w.heap.size w wx → Calls Tryz.prog 111 #[.pointer (some ⟨t, 0, none⟩), geoV n, gv] wx fun e w' => e = .returned (.int .i64 er) ∧ Below wx.heap.size wx w') := fun wx gv hb => bm_err wx t n h0 h1 er he (hR.on hb) gv
  clear he hR
  go_enter Tryz.func75, Tryz.ntmps75
  unfold geoV
  unfold geoV at HE
  go_wp2_with (go_at_call 111; refine (HE.out _ _ (HA.out _ _)).mono ?_; rintro e w3 ⟨rfl, hx⟩; have HX : Hid (Below w.heap.size w w3) := (HA.out _ _).trans (hx.mono (HA.out _ _).size); clear HE hx)
  go_ret
  exact ⟨rfl, HX.out⟩
set_option maxRecDepth 100000 in
set_option maxHeartbeats 4000000 in
theorem low_err (w : World) (t n : Nat) (h0 : 128 ≤ n) (h1 : n ≤ 16384) (er : Int) (he : er ≠ 0) (hR : RdNo w t 98 er) :
    Calls Tryz.prog 67 #[.pointer (some ⟨t, 0, none⟩), geoV n] w fun e w' => e = .returned (.tuple #[.int .i64 0, .int .i64 er]) ∧ Below w.heap.size w w' := by
  have he' : ((er : Int) == 0) = false := by simp; exact he
  have HE : Hid (∀ wx gv, wx = (w.alloc (.cells #[.int .i64 (n : Int), .int .i64 98, .int .i64 (gI n), .int .i64 (gD n), .int .i64 (gC n)] 36)).alloc (.cells #[.int .i64 0] 3) → Calls Tryz.prog 75 #[.pointer (some ⟨t, 0, none⟩), geoV n, gv] wx fun e w' => e = .returned (.int .i64 er) ∧ Below w.heap.size w w' ∧ w'.cell? ⟨w.heap.size + 1, 0, none⟩ = some (.int .i64 0)) := fun wx gv hx => by
    have hb1 : Below w.heap.size w wx := by rw [hx]; exact ((Below.refl _ _).alloc (Nat.le_refl _) _).alloc (by simp) _
    have r2 : wx.heap[w.heap.size + 1]? = some (.cells #[.int .i64 0] 3 (0, 0)) := by
      have := heap_alloc_new (w.alloc (.cells #[.int .i64 (n : Int), .int .i64 98, .int .i64 (gI n), .int .i64 (gD n), .int .i64 (gC n)] 36)) (.cells #[.int .i64 0] 3)
      rw [World.size_alloc] at this
      rw [hx]
      exact this
    have hsz : w.heap.size + 1 < wx.heap.size := by rw [hx]; simp
    refine (fr_err wx t n h0 h1 er he (hR.on hb1) gv).mono ?_
    rintro e w' ⟨rfl, hy⟩
    exact ⟨rfl, hb1.trans (hy.mono hb1.size), (hy.cell (p := ⟨w.heap.size + 1, 0, none⟩) hsz).trans (by rw [cell_of_row _ _ _ _ _ _ r2]; rfl)⟩
  clear he hR
  go_enter Tryz.func67, Tryz.ntmps67
  unfold geoV
  unfold geoV at HE
  go_wp2_with (go_at_call 75; refine (HE.out _ _ rfl).mono ?_; rintro e w3 ⟨rfl, hx, hcl⟩; clear HE; have HX : Hid (Below w.heap.size w w3) := hx; clear hx)
  go_ret2
  exact ⟨rfl, HX.out⟩
set_option maxRecDepth 100000 in
set_option maxHeartbeats 4000000 in
theorem free_err (w : World) (t n : Nat) (h0 : 128 ≤ n) (h1 : n ≤ 16384) (er : Int) (he : er ≠ 0) (hR : RdNo w t 98 er) :
    Calls Tryz.prog 31 #[.pointer (some ⟨t, 0, none⟩), geoV n] w fun e w' => e = .returned (.tuple #[.int .i64 0, .int .i64 er]) ∧ Below w.heap.size w w' := by
  have he' : ((er : Int) == 0) = false := by simp; exact he
  have HE : Hid (∀ wx gv, wx = (w.alloc (.cells #[.int .i64 (n : Int), .int .i64 98, .int .i64 (gI n), .int .i64 (gD n), .int .i64 (gC n)] 36)).alloc (.cells #[.int .i64 0] 3) → Calls Tryz.prog 75 #[.pointer (some ⟨t, 0, none⟩), geoV n, gv] wx fun e w' => e = .returned (.int .i64 er) ∧ Below w.heap.size w w' ∧ w'.cell? ⟨w.heap.size + 1, 0, none⟩ = some (.int .i64 0)) := fun wx gv hx => by
    have hb1 : Below w.heap.size w wx := by rw [hx]; exact ((Below.refl _ _).alloc (Nat.le_refl _) _).alloc (by simp) _
    have r2 : wx.heap[w.heap.size + 1]? = some (.cells #[.int .i64 0] 3 (0, 0)) := by
      have := heap_alloc_new (w.alloc (.cells #[.int .i64 (n : Int), .int .i64 98, .int .i64 (gI n), .int .i64 (gD n), .int .i64 (gC n)] 36)) (.cells #[.int .i64 0] 3)
      rw [World.size_alloc] at this
      rw [hx]
      exact this
    have hsz : w.heap.size + 1 < wx.heap.size := by rw [hx]; simp
    refine (fr_err wx t n h0 h1 er he (hR.on hb1) gv).mono ?_
    rintro e w' ⟨rfl, hy⟩
    exact ⟨rfl, hb1.trans (hy.mono hb1.size), (hy.cell (p := ⟨w.heap.size + 1, 0, none⟩) hsz).trans (by rw [cell_of_row _ _ _ _ _ _ r2]; rfl)⟩
  clear he hR
  go_enter Tryz.func31, Tryz.ntmps31
  unfold geoV
  unfold geoV at HE
  go_wp2_with (go_at_call 75; refine (HE.out _ _ rfl).mono ?_; rintro e w3 ⟨rfl, hx, hcl⟩; clear HE; have HX : Hid (Below w.heap.size w w3) := hx; clear hx)
  go_ret2
  exact ⟨rfl, HX.out⟩
set_option maxRecDepth 100000 in
set_option maxHeartbeats 4000000 in
theorem take_low (w : World) (t n : Nat) (er : Int) (he : er ≠ 0) (hL : ∀ wx, Below w.heap.size w wx → Calls Tryz.prog 67 #[.pointer (some ⟨t, 0, none⟩), geoV n] wx fun e w' => e = .returned (.tuple #[.int .i64 0, .int .i64 er]) ∧ Below wx.heap.size wx w') :
    Calls Tryz.prog 24 #[.pointer (some ⟨t, 0, none⟩), geoV n] w fun e w' => e = .returned (.tuple #[.int .i64 0, .int .i64 er]) ∧ Below w.heap.size w w' := by
  have HL : Hid (∀ wx, Below w.heap.size w wx → Calls Tryz.prog 67 #[.pointer (some ⟨t, 0, none⟩), geoV n] wx fun e w' => e = .returned (.tuple #[.int .i64 0, .int .i64 er]) ∧ Below wx.heap.size wx w') := hL
  have HA : Hid (∀ o, Below w.heap.size w (w.alloc o)) := fun o => (Below.refl _ _).alloc (Nat.le_refl _) o
  have he' : ((er : Int) == 0) = false := by simp; exact he
  clear he hL
  go_enter Tryz.func24, Tryz.ntmps24
  unfold geoV
  unfold geoV at HL
  go_wp2_with (go_at_call 67; refine (HL.out _ (HA.out _)).mono ?_; rintro e w1 ⟨rfl, hx⟩; have HX : Hid (Below w.heap.size w w1) := (HA.out _).trans (hx.mono (HA.out _).size); clear HL hx)
  go_ret2
  exact ⟨rfl, HX.out⟩
end Go.Proofs.YtflienghgobmoaaGreatDoor

namespace Go.Proofs.YtflienghgobmoaaGreatDoor
open Go.RowKit Rec
variable {w w' w1 : World} {a : AD} {R : RDk} {j n : Nat} {U U' U1 : RTx}
set_option maxRecDepth 100000 in
set_option maxHeartbeats 4000000 in
theorem rused_any {u : Nat} {E : Nat → Int} {B : Nat → List Int} (h : RR w u n E B) (i : Int) :
    Calls Tryz.prog 30 #[.pointer (some ⟨u, 0, none⟩), geoV n, .int .i64 i] w fun e w' => e = .returned (.tuple #[.bool (if 0 ≤ i ∧ i < n then (if E (98 + i.toNat / 4096) = 0 then bt (B (98 + i.toNat / 4096)) (i.toNat % 4096) else false) else false), .int .i64 (if 0 ≤ i ∧ i < n then E (98 + i.toNat / 4096) else 31)]) ∧ Below w.heap.size w w' := by
  obtain ⟨wz, hwz⟩ : ∃ wz, w.alloc (.cells #[.int .i64 (n : Int), .int .i64 98, .int .i64 (gI n), .int .i64 (gD n), .int .i64 (gC n)] 36) = wz := ⟨_, rfl⟩
  have HZ : Hid (Below w.heap.size w wz) := by rw [← hwz]; exact (Below.refl _ _).alloc (Nat.le_refl _) _
  have HZr : Hid (GeoAt wz w.heap.size n) := by rw [← hwz]; exact heap_alloc_new _ _
  obtain ⟨z0, z1, z2, z3, z4⟩ := HZr.out.cells
  by_cases hin : 0 ≤ i ∧ i < (n : Int)
  · obtain ⟨m, rfl⟩ : ∃ m : Nat, i = (m : Int) := ⟨i.toNat, by omega⟩
    have hm : m < n := by omega
    rw [if_pos hin, if_pos hin, Int.toNat_natCast]
    have HB : Hid (Calls Tryz.prog 69 #[.pointer (some ⟨u, 0, none⟩), geoV n, .int .i64 (m : Int)] wz fun e w' => e = .returned (.tuple #[.bool (if E (98 + m / 4096) = 0 then bt (B (98 + m / 4096)) (m % 4096) else false), .int .i64 (E (98 + m / 4096))]) ∧ Below wz.heap.size wz w') := rbit_any wz u n E B (h.on HZ.out) m hm
    obtain ⟨b, hb⟩ : ∃ b, (if E (98 + m / 4096) = 0 then bt (B (98 + m / 4096)) (m % 4096) else false) = b := ⟨_, rfl⟩
    obtain ⟨er, her⟩ : ∃ er, E (98 + m / 4096) = er := ⟨_, rfl⟩
    rw [hb, her] at HB
    rw [hb, her]
    have h0' : ¬ (m : Int) < 0 := by omega
    have h1' : ¬ (n : Int) ≤ (m : Int) := by omega
    clear hb her h hin
    unfold geoV at HB
    go_enter Tryz.func30, Tryz.ntmps30
    unfold geoV
    go_wp2_with (go_at_call 69; refine HB.out.mono ?_; rintro e w2 ⟨rfl, hb2⟩; have H2 : Hid (Below w.heap.size w w2) := HZ.out.trans (hb2.mono HZ.out.size); clear hb2)
    go_ret2
    exact ⟨rfl, H2.out⟩
  · rw [if_neg hin, if_neg hin]
    clear h
    by_cases h0 : i < 0
    · clear hin
      go_enter Tryz.func30, Tryz.ntmps30
      unfold geoV
      go_wp2
      go_ret2
      exact ⟨rfl, HZ.out⟩
    · have h1 : (n : Int) ≤ i := by omega
      clear hin
      go_enter Tryz.func30, Tryz.ntmps30
      unfold geoV
      go_wp2
      go_ret2
      exact ⟨rfl, HZ.out⟩
/-- Give -/
def rgE (U : RTx) (n : Nat) (E : Nat → Int) (B : Nat → List Int) (i : Int) : Int := if (nD n : Int) ≤ i ∧ i < n then (if E (98 + i.toNat / 4096) = 0 then (if bt (B (98 + i.toNat / 4096)) (i.toNat % 4096) then rwE U n ((98 + i.toNat / 4096 : Nat) : Int) 512 else 91) else E (98 + i.toNat / 4096)) else 91
theorem RwP.same {E : Int} {row' : List Dn} (h : RTxAt w U) (hb : Below w.heap.size w w') (hE : E ≠ 0) : RwP w U E row' (.returned (.int .i64 E)) w' := ⟨rfl, U, h.on hb, UMv.on hb, rfl, by rw [if_neg hE]⟩
theorem RwP.after {E : Int} {row' : List Dn} {e : Ending} (hb : Below w.heap.size w w1) (h : RwP w1 U E row' e w') : RwP w U E row' e w' := by
  obtain ⟨e1, U', h1, h2, h3, h4⟩ := h
  exact ⟨e1, U', h1, (UMv.on hb).trans h2, h3, h4⟩
set_option maxRecDepth 100000 in
set_option maxHeartbeats 4000000 in
theorem rgive_any (h : RS w a R j U n) (hl : U.row.length + 1 ≤ 4000000) (i : Int) :
    Calls Tryz.prog 28 #[.pointer (some ⟨U.u, 0, none⟩), geoV n, .int .i64 i] w (RwP w U (rgE U n (fun k => rxE a U (k : Int)) (fun k => rxB a U (k : Int)) i) (U.row ++ [⟨((98 + i.toNat / 4096 : Nat) : Int), bput (rxB a U ((98 + i.toNat / 4096 : Nat) : Int)) (i.toNat % 4096) false⟩])) := by
  have hlo := h.lo
  have hhi := h.hi
  obtain ⟨wz, hwz⟩ : ∃ wz, w.alloc (.cells #[.int .i64 (n : Int), .int .i64 98, .int .i64 (gI n), .int .i64 (gD n), .int .i64 (gC n)] 36) = wz := ⟨_, rfl⟩
  have HZ : Hid (Below w.heap.size w wz) := by rw [← hwz]; exact (Below.refl _ _).alloc (Nat.le_refl _) _
  have HZr : Hid (GeoAt wz w.heap.size n) := by rw [← hwz]; exact heap_alloc_new _ _
  have HS : Hid (RS w a R j U n) := h
  obtain ⟨z0, z1, z2, z3, z4⟩ := HZr.out.cells
  rw [gD_nat] at z3
  by_cases hin : (nD n : Int) ≤ i ∧ i < (n : Int)
  · obtain ⟨m, rfl⟩ : ∃ m : Nat, i = (m : Int) := ⟨i.toNat, by omega⟩
    have hm : m < n := by omega
    have HE : Hid (rgE U n (fun k => rxE a U (k : Int)) (fun k => rxB a U (k : Int)) (m : Int) = if rxE a U ((98 + m / 4096 : Nat) : Int) = 0 then (if bt (rxB a U ((98 + m / 4096 : Nat) : Int)) (m % 4096) then rwE U n ((98 + m / 4096 : Nat) : Int) 512 else 91) else rxE a U ((98 + m / 4096 : Nat) : Int)) := by
      show rgE _ _ _ _ _ = _
      unfold rgE
      rw [if_pos hin, Int.toNat_natCast]
    rw [Int.toNat_natCast, HE.out]
    have HB : Hid (∀ wx, Below w.heap.size w wx → Calls Tryz.prog 69 #[.pointer (some ⟨U.u, 0, none⟩), geoV n, .int .i64 (m : Int)] wx fun e w' => e = .returned (.tuple #[.bool (if rxE a U ((98 + m / 4096 : Nat) : Int) = 0 then bt (rxB a U ((98 + m / 4096 : Nat) : Int)) (m % 4096) else false), .int .i64 (rxE a U ((98 + m / 4096 : Nat) : Int))]) ∧ Below wx.heap.size wx w') := fun wx hb => rbit_any wx U.u n _ _ (h.on hb).rr m hm
    have HSt : Hid (rxE a U ((98 + m / 4096 : Nat) : Int) = 0 → ∀ wx, Below w.heap.size w wx → Calls Tryz.prog 70 #[.pointer (some ⟨U.u, 0, none⟩), geoV n, .int .i64 (m : Int)] wx (RwP wx U (rwE U n ((98 + m / 4096 : Nat) : Int) 512) (U.row ++ [⟨((98 + m / 4096 : Nat) : Int), bput (rxB a U ((98 + m / 4096 : Nat) : Int)) (m % 4096) (!bt (rxB a U ((98 + m / 4096 : Nat) : Int)) (m % 4096))⟩]))) := fun hE wx hb => rset_any (h.on hb) hl m hm hE
    obtain ⟨er, her⟩ : ∃ er, rxE a U ((98 + m / 4096 : Nat) : Int) = er := ⟨_, rfl⟩
    obtain ⟨L, hL⟩ : ∃ L, rxB a U ((98 + m / 4096 : Nat) : Int) = L := ⟨_, rfl⟩
    obtain ⟨b, hb⟩ : ∃ b, bt L (m % 4096) = b := ⟨_, rfl⟩
    obtain ⟨rw_, hrw⟩ : ∃ x, rwE U n ((98 + m / 4096 : Nat) : Int) 512 = x := ⟨_, rfl⟩
    rw [her, hL, hb] at HB
    rw [her, hL, hb, hrw] at HSt
    rw [her, hL, hb, hrw]
    have h0' : ¬ (m : Int) < ((nD n : Nat) : Int) := by omega
    have h1' : ¬ (n : Int) ≤ (m : Int) := by omega
    unfold geoV at HB HSt
    clear her hL hb hrw h hin HE
    by_cases hE : er = 0
    · subst hE
      rw [if_pos rfl] at HB
      rw [if_pos rfl]
      cases b with
      | true =>
        rw [if_pos rfl]
        rw [Bool.not_true] at HSt
        obtain ⟨rr, hrr⟩ : ∃ rr, U.row ++ [(⟨((98 + m / 4096 : Nat) : Int), bput L (m % 4096) false⟩ : Dn)] = rr := ⟨_, rfl⟩
        rw [hrr] at HSt
        rw [hrr]
        clear hrr
        go_enter Tryz.func28, Tryz.ntmps28
        unfold geoV
        go_wp2_with (first
          | (go_at_call 69; refine (HB.out _ HZ.out).mono ?_; rintro e w2 ⟨rfl, hb2⟩; have H2 : Hid (Below w.heap.size w w2) := HZ.out.trans (hb2.mono HZ.out.size); obtain ⟨y0, y1, y2, y3, y4⟩ := (HZr.out.on hb2).cells; clear hb2)
          | (go_at_call 70; refine (HSt.out (by trivial) _ H2.out).mono ?_; rintro e w3 ⟨rfl, h9⟩; have H3 : Hid (RwP w2 U rw_ rr (.returned (.int .i64 rw_)) w3) := ⟨rfl, h9⟩; clear h9))
        go_ret
        exact RwP.after H2.out H3.out
      | false =>
        rw [if_neg (by decide)]
        go_enter Tryz.func28, Tryz.ntmps28
        unfold geoV
        go_wp2_with (go_at_call 69; refine (HB.out _ HZ.out).mono ?_; rintro e w2 ⟨rfl, hb2⟩; have H2 : Hid (Below w.heap.size w w2) := HZ.out.trans (hb2.mono HZ.out.size); clear hb2)
        go_ret
        exact RwP.same HS.out.x H2.out (by decide)
    · rw [if_neg hE] at HB
      rw [if_neg hE]
      have hE' : ((er : Int) == 0) = false := by simp; exact hE
      have HN : Hid (er ≠ 0) := hE
      clear hE HSt
      go_enter Tryz.func28, Tryz.ntmps28
      unfold geoV
      go_wp2_with (go_at_call 69; refine (HB.out _ HZ.out).mono ?_; rintro e w2 ⟨rfl, hb2⟩; have H2 : Hid (Below w.heap.size w w2) := HZ.out.trans (hb2.mono HZ.out.size); clear hb2)
      go_ret
      exact RwP.same HS.out.x H2.out HN.out
  · have e1 : rgE U n (fun k => rxE a U (k : Int)) (fun k => rxB a U (k : Int)) i = 91 := by unfold rgE; rw [if_neg hin]
    rw [e1]
    clear e1 h
    by_cases h0 : i < ((nD n : Nat) : Int)
    · clear hin
      go_enter Tryz.func28, Tryz.ntmps28
      unfold geoV
      go_wp2
      go_ret
      exact RwP.same HS.out.x HZ.out (by decide)
    · have h1 : (n : Int) ≤ i := by omega
      clear hin
      go_enter Tryz.func28, Tryz.ntmps28
      unfold geoV
      go_wp2
      go_ret
      exact RwP.same HS.out.x HZ.out (by decide)
end Go.Proofs.YtflienghgobmoaaGreatDoor
