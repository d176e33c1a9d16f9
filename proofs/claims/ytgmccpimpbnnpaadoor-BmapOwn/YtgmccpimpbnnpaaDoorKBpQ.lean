import Derived.Test.YtgmccpimpbnnpaaDoorKBpH
import Derived.Test.YtgmccpimpbnnpaaDoorKBpP
import Derived.Test.YtgmccpimpbnnpaaDoorBpO
namespace Go.Proofs.YtgmccpimpbnnpaaDoor
open Go.RowKit Go.Maps Rec
theorem heap_drew {W : World} {k : Nat} {o : Obj} (h : W.heap[k]? = some o) : W.drew.heap[k]? = some o := ((Below.refl W.heap.size W).drew.block k (heap_lt h)).trans h
theorem own10 {w : World} {g cap : Nat} {ν : Nat → Nat} (h : OwnI w g cap (ownN ν)) (y : Nat → Int) (hy : ∀ p, p < 12 → y (3 + p) = (ν p : Int)) : ∀ j v, (inD y)[j]? = some v → w.cell? ((⟨g, 0, none⟩ : Addr).add j) = some v := fun j v hj => by
  have hc := fun i (hi : i < 12) => (h.cell i (by rw [ownN_length]; exact hi)).trans (by rw [nth_ownN _ _ hi, ← hy i hi])
  match j, hj with
  | 0, hj => cases hj; rw [Addr.add_lit]; exact hc 0 (by omega)
  | 1, hj => cases hj; rw [Addr.add_lit]; exact hc 1 (by omega)
  | 2, hj => cases hj; rw [Addr.add_lit]; exact hc 2 (by omega)
  | 3, hj => cases hj; rw [Addr.add_lit]; exact hc 3 (by omega)
  | 4, hj => cases hj; rw [Addr.add_lit]; exact hc 4 (by omega)
  | 5, hj => cases hj; rw [Addr.add_lit]; exact hc 5 (by omega)
  | 6, hj => cases hj; rw [Addr.add_lit]; exact hc 6 (by omega)
  | 7, hj => cases hj; rw [Addr.add_lit]; exact hc 7 (by omega)
  | 8, hj => cases hj; rw [Addr.add_lit]; exact hc 8 (by omega)
  | 9, hj => cases hj; rw [Addr.add_lit]; exact hc 9 (by omega)
set_option maxRecDepth 100000 in
set_option maxHeartbeats 4000000 in
theorem in_any (w : World) (x : Nat → Int) (ν : Nat → Nat) (g cap : Nat) (tb : Int) (ho : OwnI w g cap (ownN ν)) :
    Calls Tryd.prog 26 #[.agg #[.int .i64 tb, .slice (some ⟨g, 0, none⟩) 12 cap], inV x] w fun e w' => e = .returned (inV (withN x ν)) ∧ Below w.heap.size w w' := by
  obtain ⟨y, hy⟩ : ∃ y, withN x ν = y := ⟨_, rfl⟩
  have hy0 : y 0 = x 0 ∧ y 1 = x 1 ∧ y 2 = x 2 := by rw [← hy]; exact ⟨rfl, rfl, rfl⟩
  have hyp : ∀ p, p < 12 → y (3 + p) = (ν p : Int) := fun p hp => by rw [← hy]; exact withN_own x ν p hp
  rw [hy]
  unfold inV
  obtain ⟨P, hP⟩ : ∃ P, w.heap.size = P := ⟨_, rfl⟩
  have hgP : g < P := by rw [← hP]; exact ho.lt
  obtain ⟨wz, hwz⟩ : ∃ wz, ((w.alloc (.cells #[.int .i64 tb, .slice (some ⟨g, 0, none⟩) 12 cap] 69)).alloc (.cells #[.int .i64 (x 0), .int .i64 (x 1), .int .i64 (x 2), .int .i64 (x 3), .int .i64 (x 4), .int .i64 (x 5), .int .i64 (x 6), .int .i64 (x 7), .int .i64 (x 8), .int .i64 (x 9), .int .i64 (x 10), .int .i64 (x 11), .int .i64 (x 12), .int .i64 (x 13), .int .i64 (x 14)] 35)).alloc (.cells #[.int .i64 0, .int .i64 0, .int .i64 0, .int .i64 0, .int .i64 0, .int .i64 0, .int .i64 0, .int .i64 0, .int .i64 0, .int .i64 0, .int .i64 0, .int .i64 0, .int .i64 0, .int .i64 0, .int .i64 0] 35) = wz := ⟨_, rfl⟩
  have HZ : Hid (Below w.heap.size w wz ∧ wz.heap.size = P + 1 + 1 + 1 ∧ wz.heap[P]? = some (.cells #[.int .i64 tb, .slice (some ⟨g, 0, none⟩) 12 cap] 69 (0, 0)) ∧ wz.heap[P + 1]? = some (.cells #[.int .i64 (x 0), .int .i64 (x 1), .int .i64 (x 2), .int .i64 (x 3), .int .i64 (x 4), .int .i64 (x 5), .int .i64 (x 6), .int .i64 (x 7), .int .i64 (x 8), .int .i64 (x 9), .int .i64 (x 10), .int .i64 (x 11), .int .i64 (x 12), .int .i64 (x 13), .int .i64 (x 14)] 35 (0, 0)) ∧ wz.heap[P + 1 + 1]? = some (.cells #[.int .i64 0, .int .i64 0, .int .i64 0, .int .i64 0, .int .i64 0, .int .i64 0, .int .i64 0, .int .i64 0, .int .i64 0, .int .i64 0, .int .i64 0, .int .i64 0, .int .i64 0, .int .i64 0, .int .i64 0] 35 (0, 0))) := by
    rw [← hwz, ← hP]
    refine ⟨(((Below.refl _ _).alloc (Nat.le_refl _) _).alloc (by simp) _).alloc (by simp; omega) _, by simp, ?_, ?_, ?_⟩
    · exact (Below.heap_alloc _ _ _ (by simp; omega)).trans ((Below.heap_alloc _ _ _ (by simp)).trans (heap_alloc_new _ _))
    · refine (Below.heap_alloc _ _ _ (by simp)).trans ?_
      have := heap_alloc_new (w.alloc (.cells #[.int .i64 tb, .slice (some ⟨g, 0, none⟩) 12 cap] 69)) (.cells #[.int .i64 (x 0), .int .i64 (x 1), .int .i64 (x 2), .int .i64 (x 3), .int .i64 (x 4), .int .i64 (x 5), .int .i64 (x 6), .int .i64 (x 7), .int .i64 (x 8), .int .i64 (x 9), .int .i64 (x 10), .int .i64 (x 11), .int .i64 (x 12), .int .i64 (x 13), .int .i64 (x 14)] 35)
      rw [World.size_alloc] at this
      exact this
    · have := heap_alloc_new ((w.alloc (.cells #[.int .i64 tb, .slice (some ⟨g, 0, none⟩) 12 cap] 69)).alloc (.cells #[.int .i64 (x 0), .int .i64 (x 1), .int .i64 (x 2), .int .i64 (x 3), .int .i64 (x 4), .int .i64 (x 5), .int .i64 (x 6), .int .i64 (x 7), .int .i64 (x 8), .int .i64 (x 9), .int .i64 (x 10), .int .i64 (x 11), .int .i64 (x 12), .int .i64 (x 13), .int .i64 (x 14)] 35)) (.cells #[.int .i64 0, .int .i64 0, .int .i64 0, .int .i64 0, .int .i64 0, .int .i64 0, .int .i64 0, .int .i64 0, .int .i64 0, .int .i64 0, .int .i64 0, .int .i64 0, .int .i64 0, .int .i64 0, .int .i64 0] 35)
      rw [World.size_alloc, World.size_alloc] at this
      exact this
  have HD : Hid (Below wz.heap.size wz wz.drew) := (Below.refl _ _).drew
  have HOw : Hid (OwnI wz.drew g cap (ownN ν)) := (ho.on HZ.out.1).on HD.out
  obtain ⟨w3, E3, h3, hf3⟩ := copyI_run (w := wz.drew) (g := P + 1) (off := 3) (dLen := 10) (dCap := 10) 3 ⟨g, 0, none⟩ 12 cap 10 (inD y) ((HD.out.block _ (heap_lt HZ.out.2.2.2.1)).trans HZ.out.2.2.2.1) rfl rfl (own10 HOw.out y hyp) (by simp) (inD_one _)
  have HF : Hid (Fr (fun k => k = P + 1) wz.drew w3) := hf3
  have H3 : Hid (w3.heap[P + 1]? = some (.cells #[.int .i64 (x 0), .int .i64 (x 1), .int .i64 (x 2), .int .i64 (y 3), .int .i64 (y 4), .int .i64 (y 5), .int .i64 (y 6), .int .i64 (y 7), .int .i64 (y 8), .int .i64 (y 9), .int .i64 (y 10), .int .i64 (y 11), .int .i64 (y 12), .int .i64 (x 13), .int .i64 (x 14)] 35 (0, 0))) := h3
  have HR : Hid (w3.heap[P]? = some (.cells #[.int .i64 tb, .slice (some ⟨g, 0, none⟩) 12 cap] 69 (0, 0)) ∧ w3.heap[P + 1 + 1]? = some (.cells #[.int .i64 0, .int .i64 0, .int .i64 0, .int .i64 0, .int .i64 0, .int .i64 0, .int .i64 0, .int .i64 0, .int .i64 0, .int .i64 0, .int .i64 0, .int .i64 0, .int .i64 0, .int .i64 0, .int .i64 0] 35 (0, 0)) ∧ OwnI w3 g cap (ownN ν)) := ⟨HF.out.heap ((HD.out.block _ (heap_lt HZ.out.2.2.1)).trans HZ.out.2.2.1) (show ¬ P = P + 1 by omega), HF.out.heap ((HD.out.block _ (heap_lt HZ.out.2.2.2.2)).trans HZ.out.2.2.2.2) (show ¬ P + 1 + 1 = P + 1 by omega), HOw.out.fr HF.out (show ¬ g = P + 1 by omega)⟩
  clear h3 hf3
  have z0 : wz.cell? ⟨P, 1, none⟩ = some (.slice (some ⟨g, 0, none⟩) 12 cap) := by rw [cell_of_row _ _ _ _ _ _ HZ.out.2.2.1]; rfl
  have r1 : w3.cell? ⟨P, 1, none⟩ = some (.slice (some ⟨g, 0, none⟩) 12 cap) := by rw [cell_of_row _ _ _ _ _ _ HR.out.1]; rfl
  have g10 : w3.cell? ⟨g, 10, none⟩ = some (.int .i64 (y 13)) := (HR.out.2.2.cell 10 (by rw [ownN_length]; omega)).trans (by rw [nth_ownN _ _ (by omega), ← hyp 10 (by omega)])
  have g11 : w3.cell? ⟨g, 11, none⟩ = some (.int .i64 (y 14)) := (HR.out.2.2.cell 11 (by rw [ownN_length]; omega)).trans (by rw [nth_ownN _ _ (by omega), ← hyp 11 (by omega)])
  have c13 : w3.cell? ⟨P + 1, 13, none⟩ = some (.int .i64 (x 13)) := by rw [cell_of_row _ _ _ _ _ _ H3.out]; rfl
  have c14 : w3.cell? ⟨P + 1, 14, none⟩ = some (.int .i64 (x 14)) := by rw [cell_of_row _ _ _ _ _ _ H3.out]; rfl
  have f13 : w3.frozen? ⟨P + 1, 13, none⟩ = false := frozen_of_row _ _ _ _ _ H3.out
  have f14 : w3.frozen? ⟨P + 1, 14, none⟩ = false := frozen_of_row _ _ _ _ _ H3.out
  have HB : Hid (Below w.heap.size w w3) := HZ.out.1.trans ((HD.out.mono HZ.out.1.size).trans (HF.out.below _ (fun k hk => by have hk : k = P + 1 := hk; omega) (by have := HD.out.size; have := HZ.out.1.size; omega)))
  obtain ⟨w4, hw4⟩ : ∃ w4, (w3.setCell ⟨P + 1, 13, none⟩ (.int .i64 (y 13))).setCell ⟨P + 1, 14, none⟩ (.int .i64 (y 14)) = w4 := ⟨_, rfl⟩
  have H4 : Hid (w4.heap[P + 1]? = some (.cells #[.int .i64 (y 0), .int .i64 (y 1), .int .i64 (y 2), .int .i64 (y 3), .int .i64 (y 4), .int .i64 (y 5), .int .i64 (y 6), .int .i64 (y 7), .int .i64 (y 8), .int .i64 (y 9), .int .i64 (y 10), .int .i64 (y 11), .int .i64 (y 12), .int .i64 (y 13), .int .i64 (y 14)] 35 (0, 0)) ∧ w4.heap[P + 1 + 1]? = some (.cells #[.int .i64 0, .int .i64 0, .int .i64 0, .int .i64 0, .int .i64 0, .int .i64 0, .int .i64 0, .int .i64 0, .int .i64 0, .int .i64 0, .int .i64 0, .int .i64 0, .int .i64 0, .int .i64 0, .int .i64 0] 35 (0, 0)) ∧ Below w.heap.size w w4) := by
    rw [← hw4]
    refine ⟨?_, (Fr.set (g := P + 1)).heap ((Fr.set (g := P + 1)).heap HR.out.2.1 (show ¬ P + 1 + 1 = P + 1 by omega)) (show ¬ P + 1 + 1 = P + 1 by omega), below_put (below_put HB.out (Nat.le_refl _) (by omega)) (Nat.le_refl _) (by omega)⟩
    have e1 : (w3.setCell ⟨P + 1, 13, none⟩ (.int .i64 (y 13))).heap[P + 1]? = some (.cells #[.int .i64 (x 0), .int .i64 (x 1), .int .i64 (x 2), .int .i64 (y 3), .int .i64 (y 4), .int .i64 (y 5), .int .i64 (y 6), .int .i64 (y 7), .int .i64 (y 8), .int .i64 (y 9), .int .i64 (y 10), .int .i64 (y 11), .int .i64 (y 12), .int .i64 (y 13), .int .i64 (x 14)] 35 (0, 0)) := heap_setCell_same _ _ _ _ _ _ H3.out
    have e2 := heap_setCell_same _ _ 14 _ _ (.int .i64 (y 14)) e1
    rw [hy0.1, hy0.2.1, hy0.2.2]
    exact e2
  have a0 : w4.cell? ⟨P + 1, 0, none⟩ = some (.int .i64 (y 0)) := cell_of_row _ _ 0 _ _ _ H4.out.1
  have d0 : w4.cell? ⟨P + 1 + 1, 0, none⟩ = some (.int .i64 0) := cell_of_row _ _ 0 _ _ _ H4.out.2.1
  have e0 : w4.frozen? ⟨P + 1 + 1, 0, none⟩ = false := frozen_of_row _ _ _ _ _ H4.out.2.1
  have a1 : w4.cell? ⟨P + 1, 1, none⟩ = some (.int .i64 (y 1)) := cell_of_row _ _ 1 _ _ _ H4.out.1
  have d1 : w4.cell? ⟨P + 1 + 1, 1, none⟩ = some (.int .i64 0) := cell_of_row _ _ 1 _ _ _ H4.out.2.1
  have e1 : w4.frozen? ⟨P + 1 + 1, 1, none⟩ = false := frozen_of_row _ _ _ _ _ H4.out.2.1
  have a2 : w4.cell? ⟨P + 1, 2, none⟩ = some (.int .i64 (y 2)) := cell_of_row _ _ 2 _ _ _ H4.out.1
  have d2 : w4.cell? ⟨P + 1 + 1, 2, none⟩ = some (.int .i64 0) := cell_of_row _ _ 2 _ _ _ H4.out.2.1
  have e2 : w4.frozen? ⟨P + 1 + 1, 2, none⟩ = false := frozen_of_row _ _ _ _ _ H4.out.2.1
  have a3 : w4.cell? ⟨P + 1, 3, none⟩ = some (.int .i64 (y 3)) := cell_of_row _ _ 3 _ _ _ H4.out.1
  have d3 : w4.cell? ⟨P + 1 + 1, 3, none⟩ = some (.int .i64 0) := cell_of_row _ _ 3 _ _ _ H4.out.2.1
  have e3 : w4.frozen? ⟨P + 1 + 1, 3, none⟩ = false := frozen_of_row _ _ _ _ _ H4.out.2.1
  have a4 : w4.cell? ⟨P + 1, 4, none⟩ = some (.int .i64 (y 4)) := cell_of_row _ _ 4 _ _ _ H4.out.1
  have d4 : w4.cell? ⟨P + 1 + 1, 4, none⟩ = some (.int .i64 0) := cell_of_row _ _ 4 _ _ _ H4.out.2.1
  have e4 : w4.frozen? ⟨P + 1 + 1, 4, none⟩ = false := frozen_of_row _ _ _ _ _ H4.out.2.1
  have a5 : w4.cell? ⟨P + 1, 5, none⟩ = some (.int .i64 (y 5)) := cell_of_row _ _ 5 _ _ _ H4.out.1
  have d5 : w4.cell? ⟨P + 1 + 1, 5, none⟩ = some (.int .i64 0) := cell_of_row _ _ 5 _ _ _ H4.out.2.1
  have e5 : w4.frozen? ⟨P + 1 + 1, 5, none⟩ = false := frozen_of_row _ _ _ _ _ H4.out.2.1
  have a6 : w4.cell? ⟨P + 1, 6, none⟩ = some (.int .i64 (y 6)) := cell_of_row _ _ 6 _ _ _ H4.out.1
  have d6 : w4.cell? ⟨P + 1 + 1, 6, none⟩ = some (.int .i64 0) := cell_of_row _ _ 6 _ _ _ H4.out.2.1
  have e6 : w4.frozen? ⟨P + 1 + 1, 6, none⟩ = false := frozen_of_row _ _ _ _ _ H4.out.2.1
  have a7 : w4.cell? ⟨P + 1, 7, none⟩ = some (.int .i64 (y 7)) := cell_of_row _ _ 7 _ _ _ H4.out.1
  have d7 : w4.cell? ⟨P + 1 + 1, 7, none⟩ = some (.int .i64 0) := cell_of_row _ _ 7 _ _ _ H4.out.2.1
  have e7 : w4.frozen? ⟨P + 1 + 1, 7, none⟩ = false := frozen_of_row _ _ _ _ _ H4.out.2.1
  have a8 : w4.cell? ⟨P + 1, 8, none⟩ = some (.int .i64 (y 8)) := cell_of_row _ _ 8 _ _ _ H4.out.1
  have d8 : w4.cell? ⟨P + 1 + 1, 8, none⟩ = some (.int .i64 0) := cell_of_row _ _ 8 _ _ _ H4.out.2.1
  have e8 : w4.frozen? ⟨P + 1 + 1, 8, none⟩ = false := frozen_of_row _ _ _ _ _ H4.out.2.1
  have a9 : w4.cell? ⟨P + 1, 9, none⟩ = some (.int .i64 (y 9)) := cell_of_row _ _ 9 _ _ _ H4.out.1
  have d9 : w4.cell? ⟨P + 1 + 1, 9, none⟩ = some (.int .i64 0) := cell_of_row _ _ 9 _ _ _ H4.out.2.1
  have e9 : w4.frozen? ⟨P + 1 + 1, 9, none⟩ = false := frozen_of_row _ _ _ _ _ H4.out.2.1
  have a10 : w4.cell? ⟨P + 1, 10, none⟩ = some (.int .i64 (y 10)) := cell_of_row _ _ 10 _ _ _ H4.out.1
  have d10 : w4.cell? ⟨P + 1 + 1, 10, none⟩ = some (.int .i64 0) := cell_of_row _ _ 10 _ _ _ H4.out.2.1
  have e10 : w4.frozen? ⟨P + 1 + 1, 10, none⟩ = false := frozen_of_row _ _ _ _ _ H4.out.2.1
  have a11 : w4.cell? ⟨P + 1, 11, none⟩ = some (.int .i64 (y 11)) := cell_of_row _ _ 11 _ _ _ H4.out.1
  have d11 : w4.cell? ⟨P + 1 + 1, 11, none⟩ = some (.int .i64 0) := cell_of_row _ _ 11 _ _ _ H4.out.2.1
  have e11 : w4.frozen? ⟨P + 1 + 1, 11, none⟩ = false := frozen_of_row _ _ _ _ _ H4.out.2.1
  have a12 : w4.cell? ⟨P + 1, 12, none⟩ = some (.int .i64 (y 12)) := cell_of_row _ _ 12 _ _ _ H4.out.1
  have d12 : w4.cell? ⟨P + 1 + 1, 12, none⟩ = some (.int .i64 0) := cell_of_row _ _ 12 _ _ _ H4.out.2.1
  have e12 : w4.frozen? ⟨P + 1 + 1, 12, none⟩ = false := frozen_of_row _ _ _ _ _ H4.out.2.1
  have a13 : w4.cell? ⟨P + 1, 13, none⟩ = some (.int .i64 (y 13)) := cell_of_row _ _ 13 _ _ _ H4.out.1
  have d13 : w4.cell? ⟨P + 1 + 1, 13, none⟩ = some (.int .i64 0) := cell_of_row _ _ 13 _ _ _ H4.out.2.1
  have e13 : w4.frozen? ⟨P + 1 + 1, 13, none⟩ = false := frozen_of_row _ _ _ _ _ H4.out.2.1
  have a14 : w4.cell? ⟨P + 1, 14, none⟩ = some (.int .i64 (y 14)) := cell_of_row _ _ 14 _ _ _ H4.out.1
  have d14 : w4.cell? ⟨P + 1 + 1, 14, none⟩ = some (.int .i64 0) := cell_of_row _ _ 14 _ _ _ H4.out.2.1
  have e14 : w4.frozen? ⟨P + 1 + 1, 14, none⟩ = false := frozen_of_row _ _ _ _ _ H4.out.2.1
  clear hy0 hyp hy
  go_enter Tryd.func26, Tryd.ntmps26
  go_upto_region 2 with (fail)
  go_region
  go_upto_region 3 with (fail)
  all_goals go_region
  all_goals go_wp2
  refine bodyPost_ret (v := .agg #[.int .i64 (y 0), .int .i64 (y 1), .int .i64 (y 2), .int .i64 (y 3), .int .i64 (y 4), .int .i64 (y 5), .int .i64 (y 6), .int .i64 (y 7), .int .i64 (y 8), .int .i64 (y 9), .int .i64 (y 10), .int .i64 (y 11), .int .i64 (y 12), .int .i64 (y 13), .int .i64 (y 14)]) (res_row9 (fn := Tryd.f26) (p := 4) (ty := 35) rfl _ _ (P + 1 + 1) #[.int .i64 (y 0), .int .i64 (y 1), .int .i64 (y 2), .int .i64 (y 3), .int .i64 (y 4), .int .i64 (y 5), .int .i64 (y 6), .int .i64 (y 7), .int .i64 (y 8), .int .i64 (y 9), .int .i64 (y 10), .int .i64 (y 11), .int .i64 (y 12), .int .i64 (y 13), .int .i64 (y 14)] rfl ?_) rfl ?_
  · refine load15 _ (P + 1 + 1) (y 0) (y 1) (y 2) (y 3) (y 4) (y 5) (y 6) (y 7) (y 8) (y 9) (y 10) (y 11) (y 12) (y 13) (y 14) ?_
    refine heap_drew ?_
    exact set15 w4 (P + 1 + 1) (.int .i64 0) (.int .i64 0) (.int .i64 0) (.int .i64 0) (.int .i64 0) (.int .i64 0) (.int .i64 0) (.int .i64 0) (.int .i64 0) (.int .i64 0) (.int .i64 0) (.int .i64 0) (.int .i64 0) (.int .i64 0) (.int .i64 0) (.int .i64 (y 0)) (.int .i64 (y 1)) (.int .i64 (y 2)) (.int .i64 (y 3)) (.int .i64 (y 4)) (.int .i64 (y 5)) (.int .i64 (y 6)) (.int .i64 (y 7)) (.int .i64 (y 8)) (.int .i64 (y 9)) (.int .i64 (y 10)) (.int .i64 (y 11)) (.int .i64 (y 12)) (.int .i64 (y 13)) (.int .i64 (y 14)) H4.out.2.1
  · refine ⟨rfl, ?_⟩
    refine Below.drew ?_
    iterate 15 refine below_put ?_ (Nat.le_refl _) (by omega)
    exact H4.out.2.2
end Go.Proofs.YtgmccpimpbnnpaaDoor

namespace Go.Proofs.YtgmccpimpbnnpaaDoor
open Go.RowKit Go.Maps Rec
structure AdP (D : Dk) (T T' : Tx) (n k : Nat) (x0 : Nat → Int) (ν0 ν' : Nat → Nat) (N : Nat) : Prop where
  cnt : (lst T'.c n).length ≤ (lst T.c n).length + 9
  tks : Tks ν0 (fd (nD n) n (bmp D T)) (wayP k) ν' (fd (nD n) n (bmp D T'))
  wd : Wd D T' n (withN x0 ν') ν'
  tvO : ∀ b, ¬ (98 ≤ b ∧ b < 98 + nM n) → (∀ q, ν' q ≠ b) → tv D T' b = tv D T b
  nE : ν' (ixP k) = N
  N0 : N ≠ 0
  un : (∃ q, q ∈ wayP k ∧ ν0 q = 0) ∨ T' = T
  inn : ∀ q, ν' q ≠ ν0 q → (T'.c (ν' q)).isSome = true ∧ (T'.c (98 + ν' q / 4096)).isSome = true
  ext : ∃ m, Ext T T' m ∧ m ≤ 9
theorem AdR.pure {w0 w w' : World} {D : Dk} {T T' : Tx} {n k g0 cap0 : Nat} {x0 : Nat → Int} {ν0 ν' : Nat → Nat} {N : Nat} (h : AdR w0 w w' D T T' n k g0 cap0 x0 ν0 ν' N) : AdP D T T' n k x0 ν0 ν' N := ⟨h.cnt, h.tks, h.wd, h.tvO, h.nE, h.N0, h.un, h.inn, h.ext⟩
def AdA (D : Dk) (T : Tx) (n k g0 cap0 Nb : Nat) (x0 : Nat → Int) (ν0 : Nat → Nat) (z : Nat) (T' : Tx) (w' : World) : Prop :=
  (z = 0 ∧ ∃ ν' N, AdP D T T' n k x0 ν0 ν' N ∧ OwnI w' g0 cap0 (ownN ν') ∧ w'.cell? ⟨Nb, 0, none⟩ = some (.int .i64 (N : Int))) ∨ (z ≠ 0 ∧ AdZ T n k ν0 (fd (nD n) n (bmp D T)) z)
set_option maxRecDepth 100000 in
set_option maxHeartbeats 4000000 in
theorem add1_any (w0 w : World) (D : Dk) (T : Tx) (n : Nat) (h : Spc w0 w D T n) (hT : TabAt w0) (k : Nat) (hk : k < 16522) (g0 cap0 : Nat) (x0 : Nat → Int) (ν0 : Nat → Nat) (ho : OwnI w g0 cap0 (ownN ν0)) (hO : Out w0 w D T g0) (hw : Wd D T n (withN x0 ν0) ν0) (hu : T.us.length + 100 ≤ 1000000) (Tb Gb Rb Kb Nb : Nat) (ht : w.cell? ⟨Tb, 0, none⟩ = some (.pointer (some ⟨T.t, 0, none⟩))) (hg : GeoAt w Gb n) (hr : w.heap[Rb]? = some (.cells #[.int .i64 0, .slice (some ⟨g0, 0, none⟩) 12 cap0] 69 (0, 0))) (hkc : w.cell? ⟨Kb, 0, none⟩ = some (.int .i64 (k : Int))) (hn : w.heap[Nb]? = some (.cells #[.int .i64 0] 3 (0, 0))) (hTb : Out w0 w D T Tb ∧ Tb ≠ g0) (hGb : Out w0 w D T Gb ∧ Gb ≠ g0) (hNb : Out w0 w D T Nb ∧ Nb ≠ g0) :
    Calls Tryd.prog 22 #[.pointer (some ⟨Tb, 0, none⟩), .pointer (some ⟨Gb, 0, none⟩), .pointer (some ⟨Rb, 0, none⟩), .pointer (some ⟨Kb, 0, none⟩), .pointer (some ⟨Nb, 0, none⟩)] w fun e w' => ∃ (z : Nat) (T' : Tx), e = .returned (.int .i64 (z : Int)) ∧ Gon w0 w w' D T T' n (fun i => i = g0 ∨ i = Nb) ∧ (∃ m, Ext T T' m) ∧ AdA D T n k g0 cap0 Nb x0 ν0 z T' w' := by
  have HF := follow_add w0 w D T n h hT k hk g0 cap0 x0 ν0 ho hO hw hu Tb Gb ht hg hTb hGb
  obtain ⟨z0, z1, z2, z3, z4⟩ := hg.cells
  have r0 : w.cell? ⟨Rb, 0, none⟩ = some (.int .i64 0) := by rw [cell_of_row _ _ _ _ _ _ hr]; rfl
  have r1 : w.cell? ⟨Rb, 1, none⟩ = some (.slice (some ⟨g0, 0, none⟩) 12 cap0) := by rw [cell_of_row _ _ _ _ _ _ hr]; rfl
  have HN : Hid (w.heap[Nb]? = some (.cells #[.int .i64 0] 3 (0, 0)) ∧ Out w0 w D T Nb ∧ Nb ≠ g0) := ⟨hn, hNb⟩
  obtain ⟨tt, htt⟩ : ∃ tt, T.t = tt := ⟨_, rfl⟩
  rw [htt] at HF ht
  unfold geoV at HF
  have HFo : Hid (Calls Tryd.prog 23 #[.pointer (some ⟨tt, 0, none⟩), .agg #[.int .i64 (n : Int), .int .i64 98, .int .i64 (gI n), .int .i64 (gD n), .int .i64 (gC n)], .agg #[.int .i64 0, .slice (some ⟨g0, 0, none⟩) 12 cap0], .int .i64 (k : Int), .func (.func 24) #[] #[.pointer (some ⟨Tb, 0, none⟩), .pointer (some ⟨Gb, 0, none⟩)]] w fun e w' => ∃ (N z : Nat) (T' : Tx), e = .returned (.tuple #[.int .i64 (N : Int), .int .i64 (z : Int)]) ∧ ((z = 0 ∧ ∃ ν', AdR w0 w w' D T T' n k g0 cap0 x0 ν0 ν' N) ∨ (z ≠ 0 ∧ AdX w0 w w' D T T' n k g0 ν0 z))) := HF
  clear HF h hT ho hO hw hu hg hr hn hTb hGb hNb htt hk
  go_enter Tryd.func22, Tryd.ntmps22
  go_wp2_with (go_at_call 23; refine HFo.out.mono ?_; rintro e w1 ⟨N, z, T1, rfl, hor⟩; have H1 : Hid ((z = 0 ∧ ∃ ν', AdR w0 w w1 D T T1 n k g0 cap0 x0 ν0 ν' N) ∨ (z ≠ 0 ∧ AdX w0 w w1 D T T1 n k g0 ν0 z)) := hor; have HG : Hid (Gon w0 w w1 D T T1 n (fun i => i = g0)) := (by rcases hor with ⟨_, _, e⟩ | ⟨_, e⟩; exact e.gon; exact e.gon); have hnb := HG.out.mv.fr.heap HN.out.1 (fun e => e.elim (fun e => HN.out.2.1.no e) HN.out.2.2); have HNb : Hid (w1.heap[Nb]? = some (.cells #[.int .i64 0] 3 (0, 0))) := hnb; have n0 : w1.cell? ⟨Nb, 0, none⟩ = some (.int .i64 0) := (by rw [cell_of_row _ _ _ _ _ _ hnb]; rfl); have n1 : w1.frozen? ⟨Nb, 0, none⟩ = false := frozen_of_row _ _ _ _ _ hnb; clear hor hnb HFo)
  go_ret
  have oN := HN.out.2.1.mv HG.out.mv
  have hf : Fr (fun i => i = Nb) w1 (w1.setCell ⟨Nb, 0, none⟩ (.int .i64 (N : Int))) := Fr.set
  have hsp : Spc w0 (w1.setCell ⟨Nb, 0, none⟩ (.int .i64 (N : Int))) D T1 n := HG.out.spc.frG hf (fun i hi => by have hi : i = Nb := hi; subst hi; exact .inr oN)
  have hgo : Gon w0 w (w1.setCell ⟨Nb, 0, none⟩ (.int .i64 (N : Int))) D T T1 n (fun i => i = g0 ∨ i = Nb) := ⟨(SMv.trans (S := fun i => i = g0 ∨ i = Nb) ⟨HG.out.mv.fr.mono (fun i hi => hi.elim .inl (fun e => .inr (.inl e))), HG.out.mv.al, HG.out.mv.has, HG.out.mv.t, HG.out.mv.d, HG.out.mv.nb⟩ (SMv.fr_ hf) (fun i hi => .inl (.inr hi))), hsp, HG.out.dom⟩
  rcases H1.out with ⟨rfl, ν', hR⟩ | ⟨hz, hX⟩
  · refine ⟨0, T1, rfl, hgo, ⟨_, hR.ext.choose_spec.1⟩, .inl ⟨rfl, ν', N, hR.pure, hR.og.fr hf (fun e => HN.out.2.2 e.symm), ?_⟩⟩
    rw [cell_of_row _ _ _ _ _ _ (heap_setCell_same _ _ 0 _ _ (.int .i64 (N : Int)) HNb.out)]
    rfl
  · exact ⟨z, T1, rfl, hgo, hX.ext, .inr ⟨hz, hX.z⟩⟩
end Go.Proofs.YtgmccpimpbnnpaaDoor
