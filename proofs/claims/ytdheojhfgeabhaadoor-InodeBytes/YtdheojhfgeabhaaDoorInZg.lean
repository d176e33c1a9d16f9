import Derived.Test.YtdheojhfgeabhaaDoorKInY
import Derived.Deep.RegionHeld3
namespace Go.Proofs.YtdheojhfgeabhaaDoor
open Go.RowKit Go.Maps Rec

/-- the first three fields -/
def rd3 (l : List Int) : Nat → Int := fun i => match i with
  | 0 => num l 0 1
  | 1 => num l 2 2
  | 2 => num l 4 4
  | _ => 0
/-- and so many numbers -/
def rdk (l : List Int) (j : Nat) : Nat → Int := fun i => if i < 3 + j then rdf l i else 0
theorem rnum_at {w wx : World} {b off : Nat} {l : List Int} (hn : l.length = 64) (hO : Bytes w (some ⟨b, off, none⟩) l) (hB : Below w.heap.size w wx) (o m cc A : Nat) (hA : A = off + o) (hm : m ≤ 4) (ho : o + m ≤ 64) : Calls Tryd.prog 23 #[.slice (some ⟨b, A, none⟩) m cc] wx fun e w' => e = .returned (.int .i64 (num l o m)) ∧ wx = w' := by
  subst hA
  have h := rnum_any wx b (off + o) m cc ((List.range m).map fun i => nth l (o + i)) hm (fun i => by
    by_cases c : i < m
    · rw [nth_mapR _ _ _ c]; exact hO.wf _
    · rw [nth_out _ _ (by simp; omega)]; omega) (fun i hi => by
    rw [nth_mapR _ _ _ hi]
    have h1 := hO.cell (i := o + i) (by omega)
    rw [Nat.add_assoc]
    exact (hB.cell (block_lt_of_cell h1)).trans h1)
  rw [num_cong64 m (a := (List.range m).map fun i => nth l (o + i)) (p := 0) (b := l) (q := o) (fun i hi => by rw [Nat.zero_add, nth_mapR _ _ _ hi])] at h
  exact h
theorem rdk_zero (l : List Int) : inC (rd3 l) = inC (rdk l 0) := rfl
theorem rdk_set {w : World} {X : Nat} {l : List Int} (j : Nat) (hj : j < 12) (h : w.heap[X]? = some (.cells (inC (rdk l j)) 24 (0, 0))) : (w.setCell ⟨X, 3 + j, none⟩ (.int .i64 (rdf l (3 + j)))).heap[X]? = some (.cells (inC (rdk l (j + 1))) 24 (0, 0)) := by
  rcases (show j = 0 ∨ j = 1 ∨ j = 2 ∨ j = 3 ∨ j = 4 ∨ j = 5 ∨ j = 6 ∨ j = 7 ∨ j = 8 ∨ j = 9 ∨ j = 10 ∨ j = 11 by omega) with rfl | rfl | rfl | rfl | rfl | rfl | rfl | rfl | rfl | rfl | rfl | rfl
  · have := heap_setCell_same _ X (3 + 0) _ _ (.int .i64 (rdf l (3 + 0))) h
    simpa [inC, rdk] using this
  · have := heap_setCell_same _ X (3 + 1) _ _ (.int .i64 (rdf l (3 + 1))) h
    simpa [inC, rdk] using this
  · have := heap_setCell_same _ X (3 + 2) _ _ (.int .i64 (rdf l (3 + 2))) h
    simpa [inC, rdk] using this
  · have := heap_setCell_same _ X (3 + 3) _ _ (.int .i64 (rdf l (3 + 3))) h
    simpa [inC, rdk] using this
  · have := heap_setCell_same _ X (3 + 4) _ _ (.int .i64 (rdf l (3 + 4))) h
    simpa [inC, rdk] using this
  · have := heap_setCell_same _ X (3 + 5) _ _ (.int .i64 (rdf l (3 + 5))) h
    simpa [inC, rdk] using this
  · have := heap_setCell_same _ X (3 + 6) _ _ (.int .i64 (rdf l (3 + 6))) h
    simpa [inC, rdk] using this
  · have := heap_setCell_same _ X (3 + 7) _ _ (.int .i64 (rdf l (3 + 7))) h
    simpa [inC, rdk] using this
  · have := heap_setCell_same _ X (3 + 8) _ _ (.int .i64 (rdf l (3 + 8))) h
    simpa [inC, rdk] using this
  · have := heap_setCell_same _ X (3 + 9) _ _ (.int .i64 (rdf l (3 + 9))) h
    simpa [inC, rdk] using this
  · have := heap_setCell_same _ X (3 + 10) _ _ (.int .i64 (rdf l (3 + 10))) h
    simpa [inC, rdk] using this
  · have := heap_setCell_same _ X (3 + 11) _ _ (.int .i64 (rdf l (3 + 11))) h
    simpa [inC, rdk] using this
theorem rdk_sm (l : List Int) : Sm (rdk l 12) (rdf l) := fun i hi => by unfold rdk; rw [if_pos (by omega)]
set_option maxRecDepth 100000 in
set_option maxHeartbeats 4000000 in
theorem rdec_64 (w : World) (b off c : Nat) (l : List Int) (hn : l.length = 64) (hO : Bytes w (some ⟨b, off, none⟩) l) (hc : 64 ≤ c) : Calls Tryd.prog 8 #[.slice (some ⟨b, off, none⟩) 64 c] w fun e w' => e = .returned (.tuple #[inV (decX l), .int .i64 (decE l)]) ∧ Below w.heap.size w w' := by
  have HNum : Hid (∀ wx o m cc A : Nat, True) := fun _ _ _ _ _ => trivial
  clear HNum
  have HNu : Hid (∀ (wx : World) (o m cc A : Nat), Below w.heap.size w wx → A = off + o → m ≤ 4 → o + m ≤ 64 → Calls Tryd.prog 23 #[.slice (some ⟨b, A, none⟩) m cc] wx fun e w' => e = .returned (.int .i64 (num l o m)) ∧ wx = w') := fun wx o m cc A hB hA hm ho => rnum_at hn hO hB o m cc A hA hm ho
  obtain ⟨P, hP⟩ : ∃ P, w.heap.size = P := ⟨_, rfl⟩
  obtain ⟨wa, hwa⟩ : ∃ wa, w.alloc (.cells #[.int .i64 0, .int .i64 0, .int .i64 0, .int .i64 0, .int .i64 0, .int .i64 0, .int .i64 0, .int .i64 0, .int .i64 0, .int .i64 0, .int .i64 0, .int .i64 0, .int .i64 0, .int .i64 0, .int .i64 0] 24) = wa := ⟨_, rfl⟩
  have HA : Hid (Below w.heap.size w wa) := by rw [← hwa]; exact (Below.refl _ _).alloc (Nat.le_refl _) _
  have HP : Hid (wa.heap[P]? = some (.cells #[.int .i64 0, .int .i64 0, .int .i64 0, .int .i64 0, .int .i64 0, .int .i64 0, .int .i64 0, .int .i64 0, .int .i64 0, .int .i64 0, .int .i64 0, .int .i64 0, .int .i64 0, .int .i64 0, .int .i64 0] 24 (0, 0)) ∧ P < wa.heap.size) := by
    have : wa.heap[P]? = some (.cells #[.int .i64 0, .int .i64 0, .int .i64 0, .int .i64 0, .int .i64 0, .int .i64 0, .int .i64 0, .int .i64 0, .int .i64 0, .int .i64 0, .int .i64 0, .int .i64 0, .int .i64 0, .int .i64 0, .int .i64 0] 24 (0, 0)) := by rw [← hwa, ← hP]; exact heap_alloc_new _ _
    exact ⟨this, heap_lt this⟩
  have HOO : Hid (Bytes w (some ⟨b, off, none⟩) l ∧ l.length = 64) := ⟨hO, hn⟩
  clear hO hn
  have k1 : (1 : Int) ≤ (c : Int) := by omega
  have k4 : (4 : Int) ≤ (c : Int) := by omega
  have k8 : (8 : Int) ≤ (c : Int) := by omega
  have j1 : 1 ≤ c := by omega
  have j4 : 4 ≤ c := by omega
  have j8 : 8 ≤ c := by omega
  go_enter Tryd.func8, Tryd.ntmps8
  go_upto_region 1 with (fail)
  (try rw [hwa])
  (try rw [hP])
  clear hwa
  go_upto_region 3 with (fail)
  obtain ⟨X, hX⟩ : ∃ X, wa.heap.size = X := ⟨_, rfl⟩
  obtain ⟨wz, hwz⟩ : ∃ wz, (wa.alloc (.cells #[.int .i64 0, .int .i64 0, .int .i64 0, .int .i64 0, .int .i64 0, .int .i64 0, .int .i64 0, .int .i64 0, .int .i64 0, .int .i64 0, .int .i64 0, .int .i64 0, .int .i64 0, .int .i64 0, .int .i64 0] 24)).drew = wz := ⟨_, rfl⟩
  have hz : Below wa.heap.size wa wz ∧ wz.heap[X]? = some (.cells #[.int .i64 0, .int .i64 0, .int .i64 0, .int .i64 0, .int .i64 0, .int .i64 0, .int .i64 0, .int .i64 0, .int .i64 0, .int .i64 0, .int .i64 0, .int .i64 0, .int .i64 0, .int .i64 0, .int .i64 0] 24 (0, 0)) := by
    rw [← hwz, ← hX]
    exact ⟨((Below.refl _ _).alloc (Nat.le_refl _) _).drew, heap_alloc_new wa _⟩
  have HRb : Hid (∀ i, -9223372036854775808 ≤ rdk l 12 i ∧ rdk l 12 i ≤ 9223372036854775807) := fun i => by
    unfold rdk; split
    · exact rdf_bd HOO.out.1.wf i
    · omega
  go_cut [4] (fun s4 wx => ∃ X : Nat, s4 = .pointer (some ⟨X, 0, none⟩) ∧ wa.heap.size ≤ X ∧ Below wa.heap.size wa wx ∧ wx.heap[X]? = some (.cells (inC (rd3 l)) 24 (0, 0)))
  case first => as_aux_lemma =>
    obtain ⟨q1, q2, q3, q4, q5, q6, q7, q8, q9, q10, q11, q12, q13, q14, q15, d0, e0, y0, d1, e1, y1, d2, e2, y2, d3, e3, y3, d4, e4, y4, d5, e5, y5, d6, e6, y6, d7, e7, y7, d8, e8, y8, d9, e9, y9, d10, e10, y10, d11, e11, y11, d12, e12, y12, d13, e13, y13, d14, e14, y14, h8, h9⟩ := chain15 wa wz X (rd3 l) hz.2 hz.1 hX
    have z0 : wz.setCell ⟨X, 0, none⟩ (.int .i64 (num l 0 1)) = q1 := y0; have z1 : q1.setCell ⟨X, 1, none⟩ (.int .i64 (num l 2 2)) = q2 := y1; have z2 : q2.setCell ⟨X, 2, none⟩ (.int .i64 (num l 4 4)) = q3 := y2; have z3 : q3.setCell ⟨X, 3, none⟩ (.int .i64 (0)) = q4 := y3; have z4 : q4.setCell ⟨X, 4, none⟩ (.int .i64 (0)) = q5 := y4; have z5 : q5.setCell ⟨X, 5, none⟩ (.int .i64 (0)) = q6 := y5; have z6 : q6.setCell ⟨X, 6, none⟩ (.int .i64 (0)) = q7 := y6; have z7 : q7.setCell ⟨X, 7, none⟩ (.int .i64 (0)) = q8 := y7; have z8 : q8.setCell ⟨X, 8, none⟩ (.int .i64 (0)) = q9 := y8; have z9 : q9.setCell ⟨X, 9, none⟩ (.int .i64 (0)) = q10 := y9; have z10 : q10.setCell ⟨X, 10, none⟩ (.int .i64 (0)) = q11 := y10; have z11 : q11.setCell ⟨X, 11, none⟩ (.int .i64 (0)) = q12 := y11; have z12 : q12.setCell ⟨X, 12, none⟩ (.int .i64 (0)) = q13 := y12; have z13 : q13.setCell ⟨X, 13, none⟩ (.int .i64 (0)) = q14 := y13; have z14 : q14.setCell ⟨X, 14, none⟩ (.int .i64 (0)) = q15 := y14
    have H9 : Hid (Below wa.heap.size wa q15 ∧ q15.heap[X]? = some (.cells (inC (rd3 l)) 24 (0, 0))) := ⟨h8, h9⟩
    clear y0 y1 y2 y3 y4 y5 y6 y7 y8 y9 y10 y11 y12 y13 y14 h8 h9 hz
    have HZ : Hid (Below wa.heap.size wa wz) := by rw [← hwz]; exact ((Below.refl _ _).alloc (Nat.le_refl _) _).drew
    have HD : Hid (Below wa.heap.size wa wa.drew) := (Below.refl _ _).drew
    go_region_held3 (fun w' => Below wa.heap.size wa w') (first | exact HD.out | exact Below.refl _ _ | exact H9.out.1 | exact HZ.out | assumption | exact (Below.refl _ _).alloc (Nat.le_refl _) _ | exact HD.out.alloc HD.out.size _)
      (first
        | (go_at_call 23; (with_reducible show Calls _ _ #[.slice _ 1 _] _ _); refine (HNu.out _ 0 1 _ _ (by first | exact HA.out.trans (HD.out.mono HA.out.size) | exact HA.out.trans (HZ.out.mono HA.out.size)) rfl (by omega) (by omega)).mono ?_; rintro e w' ⟨rfl, rfl⟩)
        | (go_at_call 23; (with_reducible show Calls _ _ #[.slice _ 2 _] _ _); refine (HNu.out _ 2 2 _ _ (by first | exact HA.out.trans (HD.out.mono HA.out.size) | exact HA.out.trans (HZ.out.mono HA.out.size)) rfl (by omega) (by omega)).mono ?_; rintro e w' ⟨rfl, rfl⟩)
        | (go_at_call 23; (with_reducible show Calls _ _ #[.slice _ 4 _] _ _); refine (HNu.out _ 4 4 _ _ (by first | exact HA.out.trans (HD.out.mono HA.out.size) | exact HA.out.trans (HZ.out.mono HA.out.size)) rfl (by omega) (by omega)).mono ?_; rintro e w' ⟨rfl, rfl⟩)
        | fail)
    all_goals
      go_wp2
      first
        | (go_meet
           case rel => exact ⟨X, rfl, Nat.le_of_eq hX, H9.out.1, H9.out.2⟩)
        | (obtain ⟨w6, hw6⟩ : ∃ w6, (wa.alloc (.cells #[.int .i64 (num l 0 1), .int .i64 (num l 2 2), .int .i64 (num l 4 4), .int .i64 (0), .int .i64 (0), .int .i64 (0), .int .i64 (0), .int .i64 (0), .int .i64 (0), .int .i64 (0), .int .i64 (0), .int .i64 (0), .int .i64 (0), .int .i64 (0), .int .i64 (0)] 24)).drew = w6 := ⟨_, rfl⟩
           have H6 : Hid (Below wa.heap.size wa w6 ∧ w6.heap[X]? = some (.cells (inC (rd3 l)) 24 (0, 0))) := (by rw [← hw6, ← hX]; exact ⟨((Below.refl _ _).alloc (Nat.le_refl _) _).drew, heap_alloc_new wa _⟩)
           rw [hw6]
           (try rw [hX])
           go_meet
           case rel => exact ⟨X, rfl, Nat.le_of_eq hX, H6.out.1, H6.out.2⟩)
        | trace_state
  case rest =>
  clear hz hwz hX
  obtain ⟨X, rfl, hXa, hB, hr⟩ := hcut
  generalize wc = w1 at *
  have HXa : Hid (wa.heap.size ≤ X) := hXa
  rw [rdk_zero] at hr
  have H1 : Hid (Below wa.heap.size wa w1 ∧ w1.heap[X]? = some (.cells (inC (rdk l 0)) 24 (0, 0))) := ⟨hB, hr⟩
  clear hXa hB hr
  go_wp2
  go_loopw [5] (fun s5 wr => ∃ j : Nat, j ≤ 10 ∧ s5 = .int .i64 (j : Int) ∧ Below wa.heap.size wa wr ∧ wr.heap[X]? = some (.cells (inC (rdk l j)) 24 (0, 0))) (fun s5 _ => 10 - (intOf s5).toNat)
  case atStart => exact ⟨0, by omega, rfl, H1.out⟩
  case round =>
    clear H1
    obtain ⟨j, hj, rfl, hI⟩ := hrel
    have HI : Hid (Below wa.heap.size wa wr ∧ wr.heap[X]? = some (.cells (inC (rdk l j)) 24 (0, 0))) := hI
    clear hI
    by_cases hlt : j < 10
    · have hlt' : (j : Int) < 10 := by omega
      have hj0 : (0 : Int) ≤ (j : Int) := by omega
      obtain ⟨A8, hA8⟩ : ∃ A, 8 + 4 * j = A := ⟨_, rfl⟩
      obtain ⟨A12, hA12⟩ : ∃ A, 12 + 4 * j = A := ⟨_, rfl⟩
      have m8 : (8 : Int) + 4 * (j : Int) = (A8 : Int) := by omega
      have m12 : (12 : Int) + 4 * (j : Int) = (A12 : Int) := by omega
      have w8 : IntKind.i64.wrap (A8 : Int) = (A8 : Int) := IntWalk.i64_in _ (by omega)
      have w12 : IntKind.i64.wrap (A12 : Int) = (A12 : Int) := IntWalk.i64_in _ (by omega)
      have l8 : (A8 : Int) ≤ (A12 : Int) := by omega
      have l12 : (A12 : Int) ≤ (c : Int) := by omega
      have l0 : (0 : Int) ≤ (A8 : Int) := by omega
      have HA8 : Hid (8 + 4 * j = A8 ∧ A12 = A8 + 4) := ⟨hA8, by omega⟩
      have HNj : Hid (∀ (wx : World) (m cc A : Nat), Below w.heap.size w wx → A = off + A8 → m = 4 → Calls Tryd.prog 23 #[.slice (some ⟨b, A, none⟩) m cc] wx fun e w' => e = .returned (.int .i64 (rdf l (3 + j))) ∧ wx = w') := fun wx m cc A hB hA hm => by
        subst hm
        have := HNu.out wx (8 + 4 * j) 4 cc A hB (by rw [HA8.out.1]; exact hA) (by omega) (by omega)
        rw [show num l (8 + 4 * j) 4 = rdf l (3 + j) by unfold rdf; rw [if_neg (by omega), if_neg (by omega), if_neg (by omega), show 3 + j - 3 = j by omega]] at this
        exact this
      clear hA8 hA12
      have d0 : wr.cell? ⟨X, 3 + j, none⟩ = some (.int .i64 (rdk l j (3 + j))) := box15 HI.out.2 (3 + j) (by omega)
      have e0 : wr.frozen? ⟨X, 3 + j, none⟩ = false := frozen_of_row _ _ _ _ _ HI.out.2
      obtain ⟨u, hu⟩ : ∃ u, wr.setCell ⟨X, 3 + j, none⟩ (.int .i64 (rdf l (3 + j))) = u := ⟨_, rfl⟩
      have HU : Hid (Below wa.heap.size wa u ∧ u.heap[X]? = some (.cells (inC (rdk l (j + 1))) 24 (0, 0))) := by
        rw [← hu]
        exact ⟨below_put HI.out.1 (Nat.le_refl _) HXa.out, rdk_set j (by omega) HI.out.2⟩
      go_wp2_with (first
        | (go_at_call 23; refine (HNj.out _ _ _ _ (HA.out.trans (HI.out.1.mono HA.out.size)) (by first | rfl | omega) (by have := HA8.out.2; omega)).mono ?_; rintro e w' ⟨rfl, rfl⟩)
        | fail)
      exact ⟨⟨j + 1, by omega, rfl, HU.out⟩, by simp [intOf]; omega⟩
    · have hj0 : j = 10 := by omega
      subst hj0
      have n52 : (52 : Int) ≤ (c : Int) := by omega
      have n56 : (56 : Int) ≤ (c : Int) := by omega
      have n64 : (64 : Int) ≤ (c : Int) := by omega
      have HR10 := HI
      have d10 : wr.cell? ⟨X, 13, none⟩ = some (.int .i64 (rdk l 10 13)) := box15 HR10.out.2 13 (by omega)
      have e10 : wr.frozen? ⟨X, 13, none⟩ = false := frozen_of_row _ _ _ _ _ HR10.out.2
      go_upto_region 9 with (first
        | (go_at_call 23; refine (HNu.out _ 48 4 _ _ (HA.out.trans (HR10.out.1.mono HA.out.size)) rfl (by omega) (by omega)).mono ?_; rintro e w' ⟨rfl, rfl⟩)
        | fail)
      obtain ⟨v11, hv11⟩ : ∃ v, wr.setCell ⟨X, 13, none⟩ (.int .i64 (num l 48 4)) = v := ⟨_, rfl⟩
      have HR11 : Hid (Below wa.heap.size wa v11 ∧ v11.heap[X]? = some (.cells (inC (rdk l 11)) 24 (0, 0))) := by
        rw [← hv11]
        exact ⟨below_put HR10.out.1 (Nat.le_refl _) HXa.out, rdk_set 10 (by omega) HR10.out.2⟩
      rw [hv11]
      clear hv11 d10 e10
      have d11 : v11.cell? ⟨X, 14, none⟩ = some (.int .i64 (rdk l 11 14)) := box15 HR11.out.2 14 (by omega)
      have e11 : v11.frozen? ⟨X, 14, none⟩ = false := frozen_of_row _ _ _ _ _ HR11.out.2
      go_upto_region 10 with (first
        | (go_at_call 23; refine (HNu.out _ 52 4 _ _ (HA.out.trans (HR11.out.1.mono HA.out.size)) rfl (by omega) (by omega)).mono ?_; rintro e w' ⟨rfl, rfl⟩)
        | fail)
      obtain ⟨v12, hv12⟩ : ∃ v, v11.setCell ⟨X, 14, none⟩ (.int .i64 (num l 52 4)) = v := ⟨_, rfl⟩
      have HR12 : Hid (Below wa.heap.size wa v12 ∧ v12.heap[X]? = some (.cells (inC (rdk l 12)) 24 (0, 0))) := by
        rw [← hv12]
        exact ⟨below_put HR11.out.1 (Nat.le_refl _) HXa.out, rdk_set 11 (by omega) HR11.out.2⟩
      rw [hv12]
      clear hv12 d11 e11

      have HPw : Hid (∀ wx, Below wa.heap.size wa wx → wx.heap[P]? = some (.cells #[.int .i64 0, .int .i64 0, .int .i64 0, .int .i64 0, .int .i64 0, .int .i64 0, .int .i64 0, .int .i64 0, .int .i64 0, .int .i64 0, .int .i64 0, .int .i64 0, .int .i64 0, .int .i64 0, .int .i64 0] 24 (0, 0))) := fun wx hB => (hB.block _ HP.out.2).trans HP.out.1
      have HDe : Hid ((rMay (rdk l 12) = false → decE l = 111 ∧ decX l = z15) ∧ (rMay (rdk l 12) = true → rby (rdk l 12) = l → decE l = 0 ∧ inV (decX l) = .agg (inC (rdk l 12))) ∧ (rMay (rdk l 12) = true → ¬ rby (rdk l 12) = l → decE l = 111 ∧ decX l = z15)) := by
        rw [(rdk_sm l).rMay, (rdk_sm l).rby]
        have h0 : decE l = if isRec l then 0 else 111 := if_pos HOO.out.2
        refine ⟨fun h => ?_, fun h1 h2 => ?_, fun h1 h2 => ?_⟩
        · have : isRec l = false := by unfold isRec; rw [h, Bool.and_false]
          rw [this] at h0
          exact ⟨h0, decX_ne (by rw [h0]; decide)⟩
        · have hg : gz l = true := by rw [← h2]; exact gz_rby _
          have : isRec l = true := by unfold isRec; rw [h1, hg]; rfl
          rw [this] at h0
          refine ⟨h0, ?_⟩
          have h00 : decE l = 0 := h0
          have h01 : decX l = rdf l := by unfold decX; rw [if_pos h00]
          rw [h01]
          rfl
        · have hg : gz l = false := by
            cases c : gz l
            · rfl
            · exact absurd (rby_rdf HOO.out.2 HOO.out.1.wf c) h2
          have : isRec l = false := by unfold isRec; rw [hg]; rfl
          rw [this] at h0
          exact ⟨h0, decX_ne (by rw [h0]; decide)⟩
      have HEn : Hid (∀ wx, Calls Tryd.prog 5 #[.agg #[.int .i64 ((rdk l 12) 0), .int .i64 ((rdk l 12) 1), .int .i64 ((rdk l 12) 2), .int .i64 ((rdk l 12) 3), .int .i64 ((rdk l 12) 4), .int .i64 ((rdk l 12) 5), .int .i64 ((rdk l 12) 6), .int .i64 ((rdk l 12) 7), .int .i64 ((rdk l 12) 8), .int .i64 ((rdk l 12) 9), .int .i64 ((rdk l 12) 10), .int .i64 ((rdk l 12) 11), .int .i64 ((rdk l 12) 12), .int .i64 ((rdk l 12) 13), .int .i64 ((rdk l 12) 14)]] wx fun e w' => Below wx.heap.size wx w' ∧ ((rMay (rdk l 12) = false ∧ e = .returned (.tuple #[.slice none 0 0, .int .i64 111])) ∨ (rMay (rdk l 12) = true ∧ ∃ g cap, e = .returned (.tuple #[.slice (some ⟨g, 0, none⟩) 64 cap, .int .i64 0]) ∧ OwnB w' g cap (rby (rdk l 12)) ∧ wx.heap.size ≤ g))) := fun wx => renc_any wx (rdk l 12) HRb.out
      generalize rdk l 12 = x at *
      have x0 : v12.cell? ⟨X, 0, none⟩ = some (.int .i64 (x 0)) := box15 HR12.out.2 0 (by omega); have x1 : v12.cell? ⟨X, 1, none⟩ = some (.int .i64 (x 1)) := box15 HR12.out.2 1 (by omega); have x2 : v12.cell? ⟨X, 2, none⟩ = some (.int .i64 (x 2)) := box15 HR12.out.2 2 (by omega); have x3 : v12.cell? ⟨X, 3, none⟩ = some (.int .i64 (x 3)) := box15 HR12.out.2 3 (by omega); have x4 : v12.cell? ⟨X, 4, none⟩ = some (.int .i64 (x 4)) := box15 HR12.out.2 4 (by omega); have x5 : v12.cell? ⟨X, 5, none⟩ = some (.int .i64 (x 5)) := box15 HR12.out.2 5 (by omega); have x6 : v12.cell? ⟨X, 6, none⟩ = some (.int .i64 (x 6)) := box15 HR12.out.2 6 (by omega); have x7 : v12.cell? ⟨X, 7, none⟩ = some (.int .i64 (x 7)) := box15 HR12.out.2 7 (by omega); have x8 : v12.cell? ⟨X, 8, none⟩ = some (.int .i64 (x 8)) := box15 HR12.out.2 8 (by omega); have x9 : v12.cell? ⟨X, 9, none⟩ = some (.int .i64 (x 9)) := box15 HR12.out.2 9 (by omega); have x10 : v12.cell? ⟨X, 10, none⟩ = some (.int .i64 (x 10)) := box15 HR12.out.2 10 (by omega); have x11 : v12.cell? ⟨X, 11, none⟩ = some (.int .i64 (x 11)) := box15 HR12.out.2 11 (by omega); have x12 : v12.cell? ⟨X, 12, none⟩ = some (.int .i64 (x 12)) := box15 HR12.out.2 12 (by omega); have x13 : v12.cell? ⟨X, 13, none⟩ = some (.int .i64 (x 13)) := box15 HR12.out.2 13 (by omega); have x14 : v12.cell? ⟨X, 14, none⟩ = some (.int .i64 (x 14)) := box15 HR12.out.2 14 (by omega)
      have HE2 : Hid (Below w.heap.size w v12) := HA.out.trans (HR12.out.1.mono HA.out.size)
      clear HNu HRb HI HR10 HR11 k1 k4 k8 j1 j4 j8 n52 n56 n64
      cases hm : rMay x
      · as_aux_lemma =>
        have HD := HDe.out.1 hm
        have HDD : Hid (decE l = 111 ∧ decX l = z15) := HD
        have HEo : Hid (∀ wx, Calls Tryd.prog 5 #[.agg #[.int .i64 (x 0), .int .i64 (x 1), .int .i64 (x 2), .int .i64 (x 3), .int .i64 (x 4), .int .i64 (x 5), .int .i64 (x 6), .int .i64 (x 7), .int .i64 (x 8), .int .i64 (x 9), .int .i64 (x 10), .int .i64 (x 11), .int .i64 (x 12), .int .i64 (x 13), .int .i64 (x 14)]] wx fun e w' => e = .returned (.tuple #[.slice none 0 0, .int .i64 111]) ∧ Below wx.heap.size wx w') := fun wx => (HEn.out wx).mono fun e w' h => by
          rcases h.2 with ⟨_, h2⟩ | ⟨h2, _⟩
          · exact ⟨h2, h.1⟩
          · rw [hm] at h2; cases h2
        clear HD HDe HEn hm
        go_upto_region 12 with (go_at_call 5; refine (HEo.out _).mono ?_; rintro e w3 ⟨rfl, h1⟩; have H3 : Hid (Below w.heap.size w w3) := HE2.out.trans (h1.mono HE2.out.size); have HP3 : Hid (w3.heap[P]? = some (.cells #[.int .i64 0, .int .i64 0, .int .i64 0, .int .i64 0, .int .i64 0, .int .i64 0, .int .i64 0, .int .i64 0, .int .i64 0, .int .i64 0, .int .i64 0, .int .i64 0, .int .i64 0, .int .i64 0, .int .i64 0] 24 (0, 0))) := HPw.out _ (HR12.out.1.trans (h1.mono HR12.out.1.size)); clear h1)
        clear HPw
        have HPw := HP3
        obtain ⟨q1, q2, q3, q4, q5, q6, q7, q8, q9, q10, q11, q12, q13, q14, q15, d0, e0, y0, d1, e1, y1, d2, e2, y2, d3, e3, y3, d4, e4, y4, d5, e5, y5, d6, e6, y6, d7, e7, y7, d8, e8, y8, d9, e9, y9, d10, e10, y10, d11, e11, y11, d12, e12, y12, d13, e13, y13, d14, e14, y14, h8, h9⟩ := chain15 w w3 P (z15) HPw.out H3.out hP
        have z0 : w3.setCell ⟨P, 0, none⟩ (.int .i64 (0)) = q1 := y0; have z1 : q1.setCell ⟨P, 1, none⟩ (.int .i64 (0)) = q2 := y1; have z2 : q2.setCell ⟨P, 2, none⟩ (.int .i64 (0)) = q3 := y2; have z3 : q3.setCell ⟨P, 3, none⟩ (.int .i64 (0)) = q4 := y3; have z4 : q4.setCell ⟨P, 4, none⟩ (.int .i64 (0)) = q5 := y4; have z5 : q5.setCell ⟨P, 5, none⟩ (.int .i64 (0)) = q6 := y5; have z6 : q6.setCell ⟨P, 6, none⟩ (.int .i64 (0)) = q7 := y6; have z7 : q7.setCell ⟨P, 7, none⟩ (.int .i64 (0)) = q8 := y7; have z8 : q8.setCell ⟨P, 8, none⟩ (.int .i64 (0)) = q9 := y8; have z9 : q9.setCell ⟨P, 9, none⟩ (.int .i64 (0)) = q10 := y9; have z10 : q10.setCell ⟨P, 10, none⟩ (.int .i64 (0)) = q11 := y10; have z11 : q11.setCell ⟨P, 11, none⟩ (.int .i64 (0)) = q12 := y11; have z12 : q12.setCell ⟨P, 12, none⟩ (.int .i64 (0)) = q13 := y12; have z13 : q13.setCell ⟨P, 13, none⟩ (.int .i64 (0)) = q14 := y13; have z14 : q14.setCell ⟨P, 14, none⟩ (.int .i64 (0)) = q15 := y14
        have H9 : Hid (Below w.heap.size w q15 ∧ q15.heap[P]? = some (.cells (inC (z15)) 24 (0, 0))) := ⟨h8, h9⟩
        clear y0 y1 y2 y3 y4 y5 y6 y7 y8 y9 y10 y11 y12 y13 y14 h8 h9
        go_wp2
        refine bodyPost_ret (results_row_tmp7 rfl _ _ P (inC (z15)) rfl ?_) rfl ?_
        · exact load15 _ P 0 0 0 0 0 0 0 0 0 0 0 0 0 0 0 H9.out.2
        · exact ⟨by rw [HDD.out.1, HDD.out.2]; rfl, H9.out.1⟩
      · as_aux_lemma =>
        have HEo : Hid (∀ wx, Calls Tryd.prog 5 #[.agg #[.int .i64 (x 0), .int .i64 (x 1), .int .i64 (x 2), .int .i64 (x 3), .int .i64 (x 4), .int .i64 (x 5), .int .i64 (x 6), .int .i64 (x 7), .int .i64 (x 8), .int .i64 (x 9), .int .i64 (x 10), .int .i64 (x 11), .int .i64 (x 12), .int .i64 (x 13), .int .i64 (x 14)]] wx fun e w' => ∃ g cap, e = .returned (.tuple #[.slice (some ⟨g, 0, none⟩) 64 cap, .int .i64 0]) ∧ OwnB w' g cap (rby x) ∧ Below wx.heap.size wx w') := fun wx => (HEn.out wx).mono fun e w' h => by
          rcases h.2 with ⟨h2, _⟩ | ⟨_, g, cap, h2, h3, _⟩
          · rw [hm] at h2; cases h2
          · exact ⟨g, cap, h2, h3, h.1⟩
        go_upto_region 11 with (go_at_call 5; refine (HEo.out _).mono ?_; rintro e w3 ⟨g, cap, rfl, h0, h1⟩; have H3 : Hid (Below w.heap.size w w3) := HE2.out.trans (h1.mono HE2.out.size); have HP3 : Hid (w3.heap[P]? = some (.cells #[.int .i64 0, .int .i64 0, .int .i64 0, .int .i64 0, .int .i64 0, .int .i64 0, .int .i64 0, .int .i64 0, .int .i64 0, .int .i64 0, .int .i64 0, .int .i64 0, .int .i64 0, .int .i64 0, .int .i64 0] 24 (0, 0))) := HPw.out _ (HR12.out.1.trans (h1.mono HR12.out.1.size)); have HG : Hid (OwnB w3 g cap (rby x) ∧ w3.heap[X]? = some (.cells (inC x) 24 (0, 0))) := ⟨h0, (h1.block _ (heap_lt HR12.out.2)).trans HR12.out.2⟩; clear h0 h1)
        clear x0 x1 x2 x3 x4 x5 x6 x7 x8 x9 x10 x11 x12 x13 x14 HEn HEo HPw
        have HPw := HP3
        obtain ⟨S1, hS1⟩ : ∃ S1, strOfNums (rby x) = S1 := ⟨_, rfl⟩
        obtain ⟨S2, hS2⟩ : ∃ S2, strOfNums l = S2 := ⟨_, rfl⟩
        have cv1 : (convert 25 9 (.slice (some ⟨g, 0, none⟩) 64 cap)).run Tryd.prog w3 = .ok (.string S1) w3 := by rw [← hS1]; exact str_opt HG.out.1.bytes (rby_length x)
        have cv2 : (convert 25 9 (.slice (some ⟨b, off, none⟩) 64 c)).run Tryd.prog w3 = .ok (.string S2) w3 := by rw [← hS2]; exact str_opt (HOO.out.1.on H3.out) HOO.out.2
        by_cases hq : rby x = l
        · have HDD : Hid (decE l = 0 ∧ inV (decX l) = .agg (inC x)) := HDe.out.2.1 hm hq
          have hSS : S1 = S2 := by rw [← hS1, ← hS2, hq]
          clear hS1 hS2 hq HDe hm
          subst hSS
          have x0 : w3.cell? ⟨X, 0, none⟩ = some (.int .i64 (x 0)) := box15 HG.out.2 0 (by omega); have x1 : w3.cell? ⟨X, 1, none⟩ = some (.int .i64 (x 1)) := box15 HG.out.2 1 (by omega); have x2 : w3.cell? ⟨X, 2, none⟩ = some (.int .i64 (x 2)) := box15 HG.out.2 2 (by omega); have x3 : w3.cell? ⟨X, 3, none⟩ = some (.int .i64 (x 3)) := box15 HG.out.2 3 (by omega); have x4 : w3.cell? ⟨X, 4, none⟩ = some (.int .i64 (x 4)) := box15 HG.out.2 4 (by omega); have x5 : w3.cell? ⟨X, 5, none⟩ = some (.int .i64 (x 5)) := box15 HG.out.2 5 (by omega); have x6 : w3.cell? ⟨X, 6, none⟩ = some (.int .i64 (x 6)) := box15 HG.out.2 6 (by omega); have x7 : w3.cell? ⟨X, 7, none⟩ = some (.int .i64 (x 7)) := box15 HG.out.2 7 (by omega); have x8 : w3.cell? ⟨X, 8, none⟩ = some (.int .i64 (x 8)) := box15 HG.out.2 8 (by omega); have x9 : w3.cell? ⟨X, 9, none⟩ = some (.int .i64 (x 9)) := box15 HG.out.2 9 (by omega); have x10 : w3.cell? ⟨X, 10, none⟩ = some (.int .i64 (x 10)) := box15 HG.out.2 10 (by omega); have x11 : w3.cell? ⟨X, 11, none⟩ = some (.int .i64 (x 11)) := box15 HG.out.2 11 (by omega); have x12 : w3.cell? ⟨X, 12, none⟩ = some (.int .i64 (x 12)) := box15 HG.out.2 12 (by omega); have x13 : w3.cell? ⟨X, 13, none⟩ = some (.int .i64 (x 13)) := box15 HG.out.2 13 (by omega); have x14 : w3.cell? ⟨X, 14, none⟩ = some (.int .i64 (x 14)) := box15 HG.out.2 14 (by omega)
          obtain ⟨q1, q2, q3, q4, q5, q6, q7, q8, q9, q10, q11, q12, q13, q14, q15, d0, e0, y0, d1, e1, y1, d2, e2, y2, d3, e3, y3, d4, e4, y4, d5, e5, y5, d6, e6, y6, d7, e7, y7, d8, e8, y8, d9, e9, y9, d10, e10, y10, d11, e11, y11, d12, e12, y12, d13, e13, y13, d14, e14, y14, h8, h9⟩ := chain15 w w3 P (x) HPw.out H3.out hP
          have z0 : w3.setCell ⟨P, 0, none⟩ (.int .i64 (x 0)) = q1 := y0; have z1 : q1.setCell ⟨P, 1, none⟩ (.int .i64 (x 1)) = q2 := y1; have z2 : q2.setCell ⟨P, 2, none⟩ (.int .i64 (x 2)) = q3 := y2; have z3 : q3.setCell ⟨P, 3, none⟩ (.int .i64 (x 3)) = q4 := y3; have z4 : q4.setCell ⟨P, 4, none⟩ (.int .i64 (x 4)) = q5 := y4; have z5 : q5.setCell ⟨P, 5, none⟩ (.int .i64 (x 5)) = q6 := y5; have z6 : q6.setCell ⟨P, 6, none⟩ (.int .i64 (x 6)) = q7 := y6; have z7 : q7.setCell ⟨P, 7, none⟩ (.int .i64 (x 7)) = q8 := y7; have z8 : q8.setCell ⟨P, 8, none⟩ (.int .i64 (x 8)) = q9 := y8; have z9 : q9.setCell ⟨P, 9, none⟩ (.int .i64 (x 9)) = q10 := y9; have z10 : q10.setCell ⟨P, 10, none⟩ (.int .i64 (x 10)) = q11 := y10; have z11 : q11.setCell ⟨P, 11, none⟩ (.int .i64 (x 11)) = q12 := y11; have z12 : q12.setCell ⟨P, 12, none⟩ (.int .i64 (x 12)) = q13 := y12; have z13 : q13.setCell ⟨P, 13, none⟩ (.int .i64 (x 13)) = q14 := y13; have z14 : q14.setCell ⟨P, 14, none⟩ (.int .i64 (x 14)) = q15 := y14
          have H9 : Hid (Below w.heap.size w q15 ∧ q15.heap[P]? = some (.cells (inC (x)) 24 (0, 0))) := ⟨h8, h9⟩
          clear y0 y1 y2 y3 y4 y5 y6 y7 y8 y9 y10 y11 y12 y13 y14 h8 h9
          go_wp2
          refine bodyPost_ret (results_row_tmp7 rfl _ _ P (inC (x)) rfl ?_) rfl ?_
          · exact load15 _ P (x 0) (x 1) (x 2) (x 3) (x 4) (x 5) (x 6) (x 7) (x 8) (x 9) (x 10) (x 11) (x 12) (x 13) (x 14) H9.out.2
          · exact ⟨by rw [HDD.out.1, HDD.out.2]; rfl, H9.out.1⟩
        · have HDD : Hid (decE l = 111 ∧ decX l = z15) := HDe.out.2.2 hm hq
          have t1 : (S1.toList == S2.toList) = false := by rw [← hS1, ← hS2, str_same (rby_bd x) HOO.out.1.wf]; exact decide_eq_false hq
          have t2 : ¬ S1 = S2 := by rw [← hS1, ← hS2]; exact fun e => hq ((str_inj (rby_bd x) HOO.out.1.wf).1 e)
          clear hS1 hS2 hq HDe hm
          obtain ⟨q1, q2, q3, q4, q5, q6, q7, q8, q9, q10, q11, q12, q13, q14, q15, d0, e0, y0, d1, e1, y1, d2, e2, y2, d3, e3, y3, d4, e4, y4, d5, e5, y5, d6, e6, y6, d7, e7, y7, d8, e8, y8, d9, e9, y9, d10, e10, y10, d11, e11, y11, d12, e12, y12, d13, e13, y13, d14, e14, y14, h8, h9⟩ := chain15 w w3 P (z15) HPw.out H3.out hP
          have z0 : w3.setCell ⟨P, 0, none⟩ (.int .i64 (0)) = q1 := y0; have z1 : q1.setCell ⟨P, 1, none⟩ (.int .i64 (0)) = q2 := y1; have z2 : q2.setCell ⟨P, 2, none⟩ (.int .i64 (0)) = q3 := y2; have z3 : q3.setCell ⟨P, 3, none⟩ (.int .i64 (0)) = q4 := y3; have z4 : q4.setCell ⟨P, 4, none⟩ (.int .i64 (0)) = q5 := y4; have z5 : q5.setCell ⟨P, 5, none⟩ (.int .i64 (0)) = q6 := y5; have z6 : q6.setCell ⟨P, 6, none⟩ (.int .i64 (0)) = q7 := y6; have z7 : q7.setCell ⟨P, 7, none⟩ (.int .i64 (0)) = q8 := y7; have z8 : q8.setCell ⟨P, 8, none⟩ (.int .i64 (0)) = q9 := y8; have z9 : q9.setCell ⟨P, 9, none⟩ (.int .i64 (0)) = q10 := y9; have z10 : q10.setCell ⟨P, 10, none⟩ (.int .i64 (0)) = q11 := y10; have z11 : q11.setCell ⟨P, 11, none⟩ (.int .i64 (0)) = q12 := y11; have z12 : q12.setCell ⟨P, 12, none⟩ (.int .i64 (0)) = q13 := y12; have z13 : q13.setCell ⟨P, 13, none⟩ (.int .i64 (0)) = q14 := y13; have z14 : q14.setCell ⟨P, 14, none⟩ (.int .i64 (0)) = q15 := y14
          have H9 : Hid (Below w.heap.size w q15 ∧ q15.heap[P]? = some (.cells (inC (z15)) 24 (0, 0))) := ⟨h8, h9⟩
          clear y0 y1 y2 y3 y4 y5 y6 y7 y8 y9 y10 y11 y12 y13 y14 h8 h9
          go_wp2
          refine bodyPost_ret (results_row_tmp7 rfl _ _ P (inC (z15)) rfl ?_) rfl ?_
          · exact load15 _ P 0 0 0 0 0 0 0 0 0 0 0 0 0 0 0 H9.out.2
          · exact ⟨by rw [HDD.out.1, HDD.out.2]; rfl, H9.out.1⟩
end Go.Proofs.YtdheojhfgeabhaaDoor
