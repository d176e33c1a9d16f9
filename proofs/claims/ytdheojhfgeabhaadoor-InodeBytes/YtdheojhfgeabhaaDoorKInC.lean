import Derived.Test.YtdheojhfgeabhaaDoorInB
import Derived.Test.YtdheojhfgeabhaaDoorASettle
namespace Go.Proofs.YtdheojhfgeabhaaDoor
open Go.RowKit Rec

theorem kFit_1 {x : Nat → Int} (h : x 0 = 1) : kFit x = (wth (x 1) 0 1000 && wth (x 2) 0 8459264) := by
  unfold kFit wth; rw [← Bool.decide_and]; refine decide_eq_decide.2 ?_; omega
theorem kFit_2 {x : Nat → Int} (h : x 0 = 2) : kFit x = (wth (x 1) 2 65535 && wth (x 2) 0 8459264 && decide (x 2 % 512 = 0)) := by
  unfold kFit wth; rw [← Bool.decide_and, ← Bool.decide_and]; refine decide_eq_decide.2 ?_; omega
theorem kFit_3 {x : Nat → Int} (h : x 0 = 3) : kFit x = (wth (x 1) 1 1000 && wth (x 2) 1 1024) := by
  unfold kFit wth; rw [← Bool.decide_and]; refine decide_eq_decide.2 ?_; omega
theorem kFit_0 {x : Nat → Int} (h1 : ¬ x 0 = 1) (h2 : ¬ x 0 = 2) (h3 : ¬ x 0 = 3) : kFit x = false := by
  unfold kFit; exact decide_eq_false (by omega)
set_option maxRecDepth 100000 in
set_option maxHeartbeats 1600000 in
theorem kindFits_any (w : World) (x : Nat → Int) (hx : ∀ i, -9223372036854775808 ≤ x i ∧ x i ≤ 9223372036854775807) : Calls Tryd.prog 47 #[inV x] w fun e w' => e = .returned (.bool (kFit x)) ∧ Below w.heap.size w w' := by
  have hA : Hid (∀ o, Below w.heap.size w (w.alloc o)) := fun o => (Below.refl _ _).alloc (Nat.le_refl _) o
  have HK : Hid ((x 0 = 1 → kFit x = (wth (x 1) 0 1000 && wth (x 2) 0 8459264)) ∧ (x 0 = 2 → kFit x = (wth (x 1) 2 65535 && wth (x 2) 0 8459264 && decide (x 2 % 512 = 0))) ∧ (x 0 = 3 → kFit x = (wth (x 1) 1 1000 && wth (x 2) 1 1024)) ∧ (¬ x 0 = 1 → ¬ x 0 = 2 → ¬ x 0 = 3 → kFit x = false)) := ⟨kFit_1, kFit_2, kFit_3, kFit_0⟩
  have HX2 : Hid (∀ lo hi, wth (x 2) lo hi = true → lo ≤ x 2 ∧ x 2 ≤ hi) := fun lo hi h => of_decide_eq_true h
  unfold inV
  generalize kFit x = R at *
  have b2 := hx 2
  clear hx
  go_enter Tryd.func47, Tryd.ntmps47
  generalize x 0 = k at *
  by_cases k1 : k = 1
  · have e := HK.out.1 k1
    clear HK
    subst k1
    cases h1 : wth (x 1) 0 1000 <;> rw [h1] at e <;> clear HX2 <;> subst e
    all_goals
      go_wp2_with (go_at_call 55; refine (within_any _ _ _ _).mono ?_; rintro e w' ⟨rfl, rfl⟩)
      go_ret
      exact ⟨rfl, hA.out _⟩
  · by_cases k2 : k = 2
    · have e := HK.out.2.1 k2
      clear HK
      subst k2
      cases h1 : wth (x 1) 2 65535
      · rw [h1] at e
        clear HX2
        subst e
        go_wp2_with (go_at_call 55; refine (within_any _ _ _ _).mono ?_; rintro e w' ⟨rfl, rfl⟩)
        go_ret
        exact ⟨rfl, hA.out _⟩
      · cases h2 : wth (x 2) 0 8459264
        · rw [h1, h2] at e
          clear HX2
          subst e
          go_wp2_with (go_at_call 55; refine (within_any _ _ _ _).mono ?_; rintro e w' ⟨rfl, rfl⟩)
          go_ret
          exact ⟨rfl, hA.out _⟩
        · have b := HX2.out _ _ h2
          rw [h1, h2] at e
          clear HX2
          subst e
          go_wp2_with (go_at_call 55; refine (within_any _ _ _ _).mono ?_; rintro e w' ⟨rfl, rfl⟩)
          go_ret
          exact ⟨rfl, hA.out _⟩
    · by_cases k3 : k = 3
      · have e := HK.out.2.2.1 k3
        clear HK
        subst k3
        cases h1 : wth (x 1) 1 1000 <;> rw [h1] at e <;> clear HX2 <;> subst e
        all_goals
          go_wp2_with (go_at_call 55; refine (within_any _ _ _ _).mono ?_; rintro e w' ⟨rfl, rfl⟩)
          go_ret
          exact ⟨rfl, hA.out _⟩
      · have e := HK.out.2.2.2 k1 k2 k3
        subst e
        clear HK HX2
        go_wp2
        go_ret
        exact ⟨rfl, hA.out _⟩
set_option maxRecDepth 100000 in
set_option maxHeartbeats 1600000 in
theorem numbersFit_any (w : World) (x : Nat → Int) : Calls Tryd.prog 48 #[inV x] w fun e w' => e = .returned (.bool (nFit x)) ∧ Below w.heap.size w w' := by
  have HN : Hid (∀ wx, Calls Tryd.prog 22 #[.agg #[.int .i64 (x 0), .int .i64 (x 1), .int .i64 (x 2), .int .i64 (x 3), .int .i64 (x 4), .int .i64 (x 5), .int .i64 (x 6), .int .i64 (x 7), .int .i64 (x 8), .int .i64 (x 9), .int .i64 (x 10), .int .i64 (x 11), .int .i64 (x 12), .int .i64 (x 13), .int .i64 (x 14)]] wx fun e w' => e = .returned (nmV x) ∧ Below wx.heap.size wx w') := fun wx => numbers_any wx x
  unfold inV
  obtain ⟨wa, hwa⟩ : ∃ wa, w.alloc (.cells #[.int .i64 (x 0), .int .i64 (x 1), .int .i64 (x 2), .int .i64 (x 3), .int .i64 (x 4), .int .i64 (x 5), .int .i64 (x 6), .int .i64 (x 7), .int .i64 (x 8), .int .i64 (x 9), .int .i64 (x 10), .int .i64 (x 11), .int .i64 (x 12), .int .i64 (x 13), .int .i64 (x 14)] 24) = wa := ⟨_, rfl⟩
  have HA : Hid (Below w.heap.size w wa) := by rw [← hwa]; exact (Below.refl _ _).alloc (Nat.le_refl _) _
  have hra : wa.heap[w.heap.size]? = some (.cells (inC x) 24 (0, 0)) := by rw [← hwa]; exact heap_alloc_new _ _
  have q0 : wa.cell? ⟨w.heap.size, 0, none⟩ = some (.int .i64 (x 0)) := cell_of_row _ _ 0 _ _ _ hra
  have q1 : wa.cell? ⟨w.heap.size, 1, none⟩ = some (.int .i64 (x 1)) := cell_of_row _ _ 1 _ _ _ hra
  have q2 : wa.cell? ⟨w.heap.size, 2, none⟩ = some (.int .i64 (x 2)) := cell_of_row _ _ 2 _ _ _ hra
  have q3 : wa.cell? ⟨w.heap.size, 3, none⟩ = some (.int .i64 (x 3)) := cell_of_row _ _ 3 _ _ _ hra
  have q4 : wa.cell? ⟨w.heap.size, 4, none⟩ = some (.int .i64 (x 4)) := cell_of_row _ _ 4 _ _ _ hra
  have q5 : wa.cell? ⟨w.heap.size, 5, none⟩ = some (.int .i64 (x 5)) := cell_of_row _ _ 5 _ _ _ hra
  have q6 : wa.cell? ⟨w.heap.size, 6, none⟩ = some (.int .i64 (x 6)) := cell_of_row _ _ 6 _ _ _ hra
  have q7 : wa.cell? ⟨w.heap.size, 7, none⟩ = some (.int .i64 (x 7)) := cell_of_row _ _ 7 _ _ _ hra
  have q8 : wa.cell? ⟨w.heap.size, 8, none⟩ = some (.int .i64 (x 8)) := cell_of_row _ _ 8 _ _ _ hra
  have q9 : wa.cell? ⟨w.heap.size, 9, none⟩ = some (.int .i64 (x 9)) := cell_of_row _ _ 9 _ _ _ hra
  have q10 : wa.cell? ⟨w.heap.size, 10, none⟩ = some (.int .i64 (x 10)) := cell_of_row _ _ 10 _ _ _ hra
  have q11 : wa.cell? ⟨w.heap.size, 11, none⟩ = some (.int .i64 (x 11)) := cell_of_row _ _ 11 _ _ _ hra
  have q12 : wa.cell? ⟨w.heap.size, 12, none⟩ = some (.int .i64 (x 12)) := cell_of_row _ _ 12 _ _ _ hra
  have q13 : wa.cell? ⟨w.heap.size, 13, none⟩ = some (.int .i64 (x 13)) := cell_of_row _ _ 13 _ _ _ hra
  have q14 : wa.cell? ⟨w.heap.size, 14, none⟩ = some (.int .i64 (x 14)) := cell_of_row _ _ 14 _ _ _ hra
  clear hra
  go_enter Tryd.func48, Tryd.ntmps48
  go_wp2_with (go_at_call 22; refine (HN.out _).mono ?_; rintro e w1 ⟨rfl, h1⟩; have H1 : Hid (Below w.heap.size w w1) := HA.out.trans (h1.mono HA.out.size); clear h1)
  go_loop [7] (fun i => ∃ k : Nat, k ≤ 12 ∧ i = .int .i64 k ∧ ∀ j, j < k → 0 ≤ x (3 + j) ∧ x (3 + j) ≤ 4294967295) (fun i => 12 - (intOf i).toNat)
  case atStart => exact ⟨0, Nat.zero_le _, rfl, fun j hj => absurd hj (by omega)⟩
  case round =>
    obtain ⟨k, hk, rfl, hj⟩ := hrel
    have HJ : Hid (∀ j, j < k → 0 ≤ x (3 + j) ∧ x (3 + j) ≤ 4294967295) := hj
    clear hj
    by_cases hlt : k < 12
    · have E := fun w => nm_index w x k hlt
      have HW : Hid (∀ b, wth (x (3 + k)) 0 4294967295 = b → if b = true then 0 ≤ x (3 + k) ∧ x (3 + k) ≤ 4294967295 else ¬ (0 ≤ x (3 + k) ∧ x (3 + k) ≤ 4294967295)) := fun b hb => by
        cases b
        · exact of_decide_eq_false hb
        · exact of_decide_eq_true hb
      cases hw : wth (x (3 + k)) 0 4294967295
      · have hn := HW.out _ hw
        have HNf : Hid (nFit x = false) := by
          cases e : nFit x with
          | false => rfl
          | true => exact absurd (nFit_iff.1 e k hlt) hn
        clear hn HW
        go_wp2_with (go_at_call 55; refine (within_any _ _ _ _).mono ?_; rintro e w' ⟨rfl, rfl⟩)
        go_ret
        exact ⟨by rw [HNf.out]; rfl, H1.out⟩
      · have hn := HW.out _ hw
        have HNt : Hid (∀ j, j < k + 1 → 0 ≤ x (3 + j) ∧ x (3 + j) ≤ 4294967295) := fun j hj => by
          by_cases e : j = k
          · subst e; exact hn
          · exact HJ.out j (by omega)
        clear hn HW
        go_wp2_with (go_at_call 55; refine (within_any _ _ _ _).mono ?_; rintro e w' ⟨rfl, rfl⟩)
        exact ⟨⟨k + 1, hlt, rfl, HNt.out⟩, by simp [intOf]; omega⟩
    · obtain rfl : k = 12 := by omega
      have HNt : Hid (nFit x = true) := nFit_iff.2 HJ.out
      go_wp2
      go_ret
      exact ⟨by rw [HNt.out]; rfl, H1.out⟩
set_option maxRecDepth 100000 in
set_option maxHeartbeats 1600000 in
theorem inUse_any (w : World) (x : Nat → Int) (hx : ∀ i, -9223372036854775808 ≤ x i ∧ x i ≤ 9223372036854775807) : Calls Tryd.prog 31 #[inV x] w fun e w' => e = .returned (.bool (inUs x)) ∧ Below w.heap.size w w' := by
  have HK : Hid (∀ wx, Calls Tryd.prog 47 #[.agg #[.int .i64 (x 0), .int .i64 (x 1), .int .i64 (x 2), .int .i64 (x 3), .int .i64 (x 4), .int .i64 (x 5), .int .i64 (x 6), .int .i64 (x 7), .int .i64 (x 8), .int .i64 (x 9), .int .i64 (x 10), .int .i64 (x 11), .int .i64 (x 12), .int .i64 (x 13), .int .i64 (x 14)]] wx fun e w' => e = .returned (.bool (kFit x)) ∧ Below wx.heap.size wx w') := fun wx => kindFits_any wx x hx
  have HN : Hid (∀ wx, Calls Tryd.prog 48 #[.agg #[.int .i64 (x 0), .int .i64 (x 1), .int .i64 (x 2), .int .i64 (x 3), .int .i64 (x 4), .int .i64 (x 5), .int .i64 (x 6), .int .i64 (x 7), .int .i64 (x 8), .int .i64 (x 9), .int .i64 (x 10), .int .i64 (x 11), .int .i64 (x 12), .int .i64 (x 13), .int .i64 (x 14)]] wx fun e w' => e = .returned (.bool (nFit x)) ∧ Below wx.heap.size wx w') := fun wx => numbersFit_any wx x
  have HU : Hid (inUs x = (kFit x && nFit x)) := rfl
  clear hx
  unfold inV
  generalize inUs x = R at *
  obtain ⟨P, hP⟩ : ∃ P, w.heap.size = P := ⟨_, rfl⟩
  obtain ⟨wa, hwa⟩ : ∃ wa, w.alloc (.cells #[.int .i64 (x 0), .int .i64 (x 1), .int .i64 (x 2), .int .i64 (x 3), .int .i64 (x 4), .int .i64 (x 5), .int .i64 (x 6), .int .i64 (x 7), .int .i64 (x 8), .int .i64 (x 9), .int .i64 (x 10), .int .i64 (x 11), .int .i64 (x 12), .int .i64 (x 13), .int .i64 (x 14)] 24) = wa := ⟨_, rfl⟩
  have HA : Hid (Below P w wa) := by rw [← hwa, ← hP]; exact (Below.refl _ _).alloc (Nat.le_refl _) _
  have hra : wa.heap[P]? = some (.cells (inC x) 24 (0, 0)) := by rw [← hwa, ← hP]; exact heap_alloc_new _ _
  have HX : Hid (∀ wx, Below wa.heap.size wa wx → wx.heap[P]? = some (.cells (inC x) 24 (0, 0))) := fun wx hb => (hb.block _ (heap_lt hra)).trans hra
  have q0 : wa.cell? ⟨P, 0, none⟩ = some (.int .i64 (x 0)) := cell_of_row _ _ 0 _ _ _ hra
  have q1 : wa.cell? ⟨P, 1, none⟩ = some (.int .i64 (x 1)) := cell_of_row _ _ 1 _ _ _ hra
  have q2 : wa.cell? ⟨P, 2, none⟩ = some (.int .i64 (x 2)) := cell_of_row _ _ 2 _ _ _ hra
  have q3 : wa.cell? ⟨P, 3, none⟩ = some (.int .i64 (x 3)) := cell_of_row _ _ 3 _ _ _ hra
  have q4 : wa.cell? ⟨P, 4, none⟩ = some (.int .i64 (x 4)) := cell_of_row _ _ 4 _ _ _ hra
  have q5 : wa.cell? ⟨P, 5, none⟩ = some (.int .i64 (x 5)) := cell_of_row _ _ 5 _ _ _ hra
  have q6 : wa.cell? ⟨P, 6, none⟩ = some (.int .i64 (x 6)) := cell_of_row _ _ 6 _ _ _ hra
  have q7 : wa.cell? ⟨P, 7, none⟩ = some (.int .i64 (x 7)) := cell_of_row _ _ 7 _ _ _ hra
  have q8 : wa.cell? ⟨P, 8, none⟩ = some (.int .i64 (x 8)) := cell_of_row _ _ 8 _ _ _ hra
  have q9 : wa.cell? ⟨P, 9, none⟩ = some (.int .i64 (x 9)) := cell_of_row _ _ 9 _ _ _ hra
  have q10 : wa.cell? ⟨P, 10, none⟩ = some (.int .i64 (x 10)) := cell_of_row _ _ 10 _ _ _ hra
  have q11 : wa.cell? ⟨P, 11, none⟩ = some (.int .i64 (x 11)) := cell_of_row _ _ 11 _ _ _ hra
  have q12 : wa.cell? ⟨P, 12, none⟩ = some (.int .i64 (x 12)) := cell_of_row _ _ 12 _ _ _ hra
  have q13 : wa.cell? ⟨P, 13, none⟩ = some (.int .i64 (x 13)) := cell_of_row _ _ 13 _ _ _ hra
  have q14 : wa.cell? ⟨P, 14, none⟩ = some (.int .i64 (x 14)) := cell_of_row _ _ 14 _ _ _ hra
  clear hra
  have HS : Hid (P ≤ wa.heap.size) := by rw [← hP]; exact HA.out.size
  go_enter Tryd.func31, Tryd.ntmps31
  cases hk : kFit x
  · have e := HU.out
    rw [hk] at e
    subst e
    clear HU
    go_wp2_with (go_at_call 47; refine (HK.out _).mono ?_; rintro e w1 ⟨rfl, h1⟩; have H1 : Hid (Below P w w1) := HA.out.trans (h1.mono HS.out); clear h1)
    go_ret
    exact ⟨rfl, by rw [hP]; exact H1.out⟩
  · have e := HU.out
    rw [hk, Bool.true_and] at e
    subst e
    clear HU
    go_wp2_with (first
      | (go_at_call 47; refine (HK.out _).mono ?_; rintro e w1 ⟨rfl, h1⟩; have H1 : Hid (Below wa.heap.size wa w1) := h1; have hr := HX.out _ h1; have r0 : w1.cell? ⟨P, 0, none⟩ = some (.int .i64 (x 0)) := cell_of_row _ _ 0 _ _ _ hr; have r1 : w1.cell? ⟨P, 1, none⟩ = some (.int .i64 (x 1)) := cell_of_row _ _ 1 _ _ _ hr; have r2 : w1.cell? ⟨P, 2, none⟩ = some (.int .i64 (x 2)) := cell_of_row _ _ 2 _ _ _ hr; have r3 : w1.cell? ⟨P, 3, none⟩ = some (.int .i64 (x 3)) := cell_of_row _ _ 3 _ _ _ hr; have r4 : w1.cell? ⟨P, 4, none⟩ = some (.int .i64 (x 4)) := cell_of_row _ _ 4 _ _ _ hr; have r5 : w1.cell? ⟨P, 5, none⟩ = some (.int .i64 (x 5)) := cell_of_row _ _ 5 _ _ _ hr; have r6 : w1.cell? ⟨P, 6, none⟩ = some (.int .i64 (x 6)) := cell_of_row _ _ 6 _ _ _ hr; have r7 : w1.cell? ⟨P, 7, none⟩ = some (.int .i64 (x 7)) := cell_of_row _ _ 7 _ _ _ hr; have r8 : w1.cell? ⟨P, 8, none⟩ = some (.int .i64 (x 8)) := cell_of_row _ _ 8 _ _ _ hr; have r9 : w1.cell? ⟨P, 9, none⟩ = some (.int .i64 (x 9)) := cell_of_row _ _ 9 _ _ _ hr; have r10 : w1.cell? ⟨P, 10, none⟩ = some (.int .i64 (x 10)) := cell_of_row _ _ 10 _ _ _ hr; have r11 : w1.cell? ⟨P, 11, none⟩ = some (.int .i64 (x 11)) := cell_of_row _ _ 11 _ _ _ hr; have r12 : w1.cell? ⟨P, 12, none⟩ = some (.int .i64 (x 12)) := cell_of_row _ _ 12 _ _ _ hr; have r13 : w1.cell? ⟨P, 13, none⟩ = some (.int .i64 (x 13)) := cell_of_row _ _ 13 _ _ _ hr; have r14 : w1.cell? ⟨P, 14, none⟩ = some (.int .i64 (x 14)) := cell_of_row _ _ 14 _ _ _ hr; clear h1 hr)
      | (go_at_call 48; refine (HN.out _).mono ?_; rintro e w2 ⟨rfl, h2⟩; have H2 : Hid (Below P w w2) := HA.out.trans ((H1.out.trans (h2.mono H1.out.size)).mono HS.out); clear h2))
    go_ret
    exact ⟨rfl, by rw [hP]; exact H2.out⟩
set_option maxRecDepth 100000 in
set_option maxHeartbeats 1600000 in
theorem imayBe_any (w : World) (x : Nat → Int) (hx : ∀ i, -9223372036854775808 ≤ x i ∧ x i ≤ 9223372036854775807) : Calls Tryd.prog 20 #[inV x] w fun e w' => e = .returned (.bool (rMay x)) ∧ Below w.heap.size w w' := by
  have HK : Hid (∀ wx, Calls Tryd.prog 37 #[.agg #[.int .i64 (x 0), .int .i64 (x 1), .int .i64 (x 2), .int .i64 (x 3), .int .i64 (x 4), .int .i64 (x 5), .int .i64 (x 6), .int .i64 (x 7), .int .i64 (x 8), .int .i64 (x 9), .int .i64 (x 10), .int .i64 (x 11), .int .i64 (x 12), .int .i64 (x 13), .int .i64 (x 14)]] wx fun e w' => e = .returned (.bool (isFr x)) ∧ Below wx.heap.size wx w') := fun wx => isFree_any wx x
  have HN : Hid (∀ wx, Calls Tryd.prog 31 #[.agg #[.int .i64 (x 0), .int .i64 (x 1), .int .i64 (x 2), .int .i64 (x 3), .int .i64 (x 4), .int .i64 (x 5), .int .i64 (x 6), .int .i64 (x 7), .int .i64 (x 8), .int .i64 (x 9), .int .i64 (x 10), .int .i64 (x 11), .int .i64 (x 12), .int .i64 (x 13), .int .i64 (x 14)]] wx fun e w' => e = .returned (.bool (inUs x)) ∧ Below wx.heap.size wx w') := fun wx => inUse_any wx x hx
  have HU : Hid (rMay x = (isFr x || inUs x)) := rfl
  clear hx
  unfold inV
  generalize rMay x = R at *
  obtain ⟨P, hP⟩ : ∃ P, w.heap.size = P := ⟨_, rfl⟩
  obtain ⟨wa, hwa⟩ : ∃ wa, w.alloc (.cells #[.int .i64 (x 0), .int .i64 (x 1), .int .i64 (x 2), .int .i64 (x 3), .int .i64 (x 4), .int .i64 (x 5), .int .i64 (x 6), .int .i64 (x 7), .int .i64 (x 8), .int .i64 (x 9), .int .i64 (x 10), .int .i64 (x 11), .int .i64 (x 12), .int .i64 (x 13), .int .i64 (x 14)] 24) = wa := ⟨_, rfl⟩
  have HA : Hid (Below P w wa) := by rw [← hwa, ← hP]; exact (Below.refl _ _).alloc (Nat.le_refl _) _
  have hra : wa.heap[P]? = some (.cells (inC x) 24 (0, 0)) := by rw [← hwa, ← hP]; exact heap_alloc_new _ _
  have HX : Hid (∀ wx, Below wa.heap.size wa wx → wx.heap[P]? = some (.cells (inC x) 24 (0, 0))) := fun wx hb => (hb.block _ (heap_lt hra)).trans hra
  have q0 : wa.cell? ⟨P, 0, none⟩ = some (.int .i64 (x 0)) := cell_of_row _ _ 0 _ _ _ hra
  have q1 : wa.cell? ⟨P, 1, none⟩ = some (.int .i64 (x 1)) := cell_of_row _ _ 1 _ _ _ hra
  have q2 : wa.cell? ⟨P, 2, none⟩ = some (.int .i64 (x 2)) := cell_of_row _ _ 2 _ _ _ hra
  have q3 : wa.cell? ⟨P, 3, none⟩ = some (.int .i64 (x 3)) := cell_of_row _ _ 3 _ _ _ hra
  have q4 : wa.cell? ⟨P, 4, none⟩ = some (.int .i64 (x 4)) := cell_of_row _ _ 4 _ _ _ hra
  have q5 : wa.cell? ⟨P, 5, none⟩ = some (.int .i64 (x 5)) := cell_of_row _ _ 5 _ _ _ hra
  have q6 : wa.cell? ⟨P, 6, none⟩ = some (.int .i64 (x 6)) := cell_of_row _ _ 6 _ _ _ hra
  have q7 : wa.cell? ⟨P, 7, none⟩ = some (.int .i64 (x 7)) := cell_of_row _ _ 7 _ _ _ hra
  have q8 : wa.cell? ⟨P, 8, none⟩ = some (.int .i64 (x 8)) := cell_of_row _ _ 8 _ _ _ hra
  have q9 : wa.cell? ⟨P, 9, none⟩ = some (.int .i64 (x 9)) := cell_of_row _ _ 9 _ _ _ hra
  have q10 : wa.cell? ⟨P, 10, none⟩ = some (.int .i64 (x 10)) := cell_of_row _ _ 10 _ _ _ hra
  have q11 : wa.cell? ⟨P, 11, none⟩ = some (.int .i64 (x 11)) := cell_of_row _ _ 11 _ _ _ hra
  have q12 : wa.cell? ⟨P, 12, none⟩ = some (.int .i64 (x 12)) := cell_of_row _ _ 12 _ _ _ hra
  have q13 : wa.cell? ⟨P, 13, none⟩ = some (.int .i64 (x 13)) := cell_of_row _ _ 13 _ _ _ hra
  have q14 : wa.cell? ⟨P, 14, none⟩ = some (.int .i64 (x 14)) := cell_of_row _ _ 14 _ _ _ hra
  clear hra
  have HS : Hid (P ≤ wa.heap.size) := by rw [← hP]; exact HA.out.size
  go_enter Tryd.func20, Tryd.ntmps20
  cases hk : isFr x
  · have e := HU.out
    rw [hk, Bool.false_or] at e
    subst e
    clear HU
    go_wp2_with (first
      | (go_at_call 37; refine (HK.out _).mono ?_; rintro e w1 ⟨rfl, h1⟩; have H1 : Hid (Below wa.heap.size wa w1) := h1; have hr := HX.out _ h1; have r0 : w1.cell? ⟨P, 0, none⟩ = some (.int .i64 (x 0)) := cell_of_row _ _ 0 _ _ _ hr; have r1 : w1.cell? ⟨P, 1, none⟩ = some (.int .i64 (x 1)) := cell_of_row _ _ 1 _ _ _ hr; have r2 : w1.cell? ⟨P, 2, none⟩ = some (.int .i64 (x 2)) := cell_of_row _ _ 2 _ _ _ hr; have r3 : w1.cell? ⟨P, 3, none⟩ = some (.int .i64 (x 3)) := cell_of_row _ _ 3 _ _ _ hr; have r4 : w1.cell? ⟨P, 4, none⟩ = some (.int .i64 (x 4)) := cell_of_row _ _ 4 _ _ _ hr; have r5 : w1.cell? ⟨P, 5, none⟩ = some (.int .i64 (x 5)) := cell_of_row _ _ 5 _ _ _ hr; have r6 : w1.cell? ⟨P, 6, none⟩ = some (.int .i64 (x 6)) := cell_of_row _ _ 6 _ _ _ hr; have r7 : w1.cell? ⟨P, 7, none⟩ = some (.int .i64 (x 7)) := cell_of_row _ _ 7 _ _ _ hr; have r8 : w1.cell? ⟨P, 8, none⟩ = some (.int .i64 (x 8)) := cell_of_row _ _ 8 _ _ _ hr; have r9 : w1.cell? ⟨P, 9, none⟩ = some (.int .i64 (x 9)) := cell_of_row _ _ 9 _ _ _ hr; have r10 : w1.cell? ⟨P, 10, none⟩ = some (.int .i64 (x 10)) := cell_of_row _ _ 10 _ _ _ hr; have r11 : w1.cell? ⟨P, 11, none⟩ = some (.int .i64 (x 11)) := cell_of_row _ _ 11 _ _ _ hr; have r12 : w1.cell? ⟨P, 12, none⟩ = some (.int .i64 (x 12)) := cell_of_row _ _ 12 _ _ _ hr; have r13 : w1.cell? ⟨P, 13, none⟩ = some (.int .i64 (x 13)) := cell_of_row _ _ 13 _ _ _ hr; have r14 : w1.cell? ⟨P, 14, none⟩ = some (.int .i64 (x 14)) := cell_of_row _ _ 14 _ _ _ hr; clear h1 hr)
      | (go_at_call 31; refine (HN.out _).mono ?_; rintro e w2 ⟨rfl, h2⟩; have H2 : Hid (Below P w w2) := HA.out.trans ((H1.out.trans (h2.mono H1.out.size)).mono HS.out); clear h2))
    go_ret
    exact ⟨rfl, by rw [hP]; exact H2.out⟩
  · have e := HU.out
    rw [hk, Bool.true_or] at e
    subst e
    clear HU
    go_wp2_with (go_at_call 37; refine (HK.out _).mono ?_; rintro e w1 ⟨rfl, h1⟩; have H1 : Hid (Below P w w1) := HA.out.trans (h1.mono HS.out); clear h1)
    go_ret
    exact ⟨rfl, by rw [hP]; exact H1.out⟩
end Go.Proofs.YtdheojhfgeabhaaDoor

namespace Go.Proofs.YtdheojhfgeabhaaDoor
open Go.RowKit Rec

/-- a row, empty again -/
def pv0 : Value → Value
  | .slice a _ c => .slice a 0 c
  | v => v
theorem pv0_block (v : Value) : (pv0 v).ownBlock = v.ownBlock := by
  cases v <;> first | rfl | (rename_i a _ _; cases a <;> rfl)
/-- the disk behind a settling -/
def Dk.settled (D : Dk) (kp : Nat → Bool) : Dk := { D with las := lay kp D.f D.X D.las D.pen.length, pv := pv0 D.pv, pen := [] }
/-- within the settling -/
structure Mid (w wr : World) (D : Dk) (kp : Nat → Bool) (j k : Nat) : Prop where
  las : OwnB wr D.L D.capL (lay kp D.f D.X D.las j)
  nws : wr.ownsRow 0 3 1 (.slice (some ⟨D.nw, 0, none⟩) D.nb D.capN) D.nb ((nz D.f (newest D.f D.nb D.pen.length) k).map (Value.int .i64))
  fr : Fr (fun j => j = D.L ∨ j = D.nw) w wr
theorem Mid.start {w : World} {D : Dk} (h : Disk w D) (kp : Nat → Bool) : Mid w w D kp 0 0 := ⟨h.las, h.nws, Fr.refl _ _⟩
theorem Mid.has {w wr : World} {D : Dk} {kp : Nat → Bool} {j k : Nat} (m : Mid w wr D kp j k) : Fr D.has w wr := m.fr.mono (fun _ hj => hj.elim (fun e => .inr (.inl e)) (fun e => .inr (.inr (.inl e))))
theorem Mid.row {w wr : World} {D : Dk} {kp : Nat → Bool} {j k : Nat} (m : Mid w wr D kp j k) (h : Disk w D) : wr.heap[D.d]? = some (.cells D.cells 85 (0, 0)) :=
  m.fr.heap h.row (fun e => e.elim h.ap.dL h.ap.dn)
theorem Mid.pen {w wr : World} {D : Dk} {kp : Nat → Bool} {j k : Nat} (m : Mid w wr D kp j k) (h : Disk w D) : wr.ownsRow 0 95 2 D.pv D.pen.length (D.pen.flatMap It.cells) :=
  owns_fr h.pen m.fr (fun j hj e => by have := h.ap.p j hj; exact e.elim this.2.1 this.2.2.1)
theorem Mid.on {w wr wa : World} {D : Dk} {kp : Nat → Bool} {j k : Nat} (m : Mid w wr D kp j k) (x : Below wr.heap.size wr wa) : Mid w wa D kp j k :=
  ⟨m.las.on x, owns_fr m.nws (below_fr x (fun j => wr.heap.size ≤ j)) (fun j hj => by cases hj; exact Nat.not_le.2 (owns_block m.nws rfl)), m.fr.trans (below_fr x (fun j => wr.heap.size ≤ j)) (fun j hj => .inr (Nat.le_trans m.fr.size hj))⟩
theorem Mid.item {w wr : World} {D : Dk} {kp : Nat → Bool} {j k : Nat} (m : Mid w wr D kp j k) (h : Disk w D) {p : It} (hp : p ∈ D.pen) : OwnB wr p.g p.cap p.x :=
  (h.penb p hp).2.2.1.fr m.fr (fun e => (h.penb p hp).2.2.2 (e.elim (fun e => .inr (.inl e)) (fun e => .inr (.inr (.inl e)))))
theorem Mid.facts {w wr : World} {D : Dk} {kp : Nat → Bool} {j k : Nat} (m : Mid w wr D kp j k) (h : Disk w D) (b : Nat) (hb : b < D.nb) : wr.cell? ⟨D.d, 2, none⟩ = some (.slice (some ⟨D.nw, 0, none⟩) D.nb D.capN) ∧ (∃ u, wr.cell? ⟨D.nw, b, none⟩ = some (.int .i64 u)) ∧ wr.frozen? ⟨D.nw, b, none⟩ = false := by
  obtain ⟨a, c, hv, _, _, hc⟩ := owns_slice m.nws
  cases hv
  refine ⟨cell_of_row _ _ _ _ _ _ (m.row h), ⟨nth (nz D.f (newest D.f D.nb D.pen.length) k) b, (hc _ _ rfl).2.1 b _ ?_⟩, (hc _ _ rfl).2.2 b⟩
  have : b < (nz D.f (newest D.f D.nb D.pen.length) k).length := by rw [nz_length, newest_length]; exact hb
  simp [nth, List.getD, this]
theorem Mid.laid {w wa wx w3 : World} {D : Dk} {kp : Nat → Bool} {k : Nat} {p : It} (m : Mid w wa D kp k k) (hk : kp k = true) (hf : D.f k = p.b) (hX : D.X k = p.x) (hx : Below wa.heap.size wa wx) (ho : OwnB w3 D.L D.capL (ov (lay kp D.f D.X D.las k) (512 * p.b) 512 (nth p.x))) (f3 : Fr (fun k => k = D.L) wx w3) (h : Disk w D) : Mid w w3 D kp (k + 1) k := by
  have mx := m.on hx
  refine ⟨?_, owns_fr mx.nws f3 (fun j hj e => by cases hj; exact h.ap.Ln e.symm), mx.fr.trans f3 (fun j e => .inl (.inl e))⟩
  rw [lay, if_pos hk, hf, hX]; exact ho
theorem Mid.left {w wa : World} {D : Dk} {kp : Nat → Bool} {k : Nat} (m : Mid w wa D kp k k) (hk : kp k = false) : Mid w wa D kp (k + 1) k := by
  refine ⟨?_, m.nws, m.fr⟩
  rw [lay, if_neg (by rw [hk]; decide)]; exact m.las
theorem Mid.zeroed {w wa : World} {D : Dk} {kp : Nat → Bool} {j k : Nat} {b : Nat} (m : Mid w wa D kp j k) (hf : D.f k = b) (h : Disk w D) : Mid w (wa.setCell ⟨D.nw, b, none⟩ (.int .i64 0)) D kp j (k + 1) := by
  refine ⟨m.las.fr Fr.set (fun e => h.ap.Ln e), ?_, m.fr.trans Fr.set (fun j e => .inl (.inr e))⟩
  have := owns_set m.nws b (.int .i64 0)
  rw [← List.map_set, ← hf] at this
  rw [nz, ← hf]; exact this
/-- at the end -/
theorem settled_disk {w wr : World} {D : Dk} {kp : Nat → Bool} (h : Disk w D) (m : Mid w wr D kp D.pen.length D.pen.length) (w' : World) (hw' : w' = wr.setCell ⟨D.d, 1, none⟩ (pv0 D.pv)) : Disk w' (D.settled kp) ∧ Fr D.has w w' := by
  subst hw'
  have fs : Fr (fun i => i = D.d) wr (wr.setCell ⟨D.d, 1, none⟩ (pv0 D.pv)) := Fr.set
  have hfr : Fr D.has w (wr.setCell ⟨D.d, 1, none⟩ (pv0 D.pv)) := m.has.trans fs (fun k e => .inl (.inl e))
  have hsame : ∀ k, (D.settled kp).has k ↔ D.has k := fun k => by
    simp only [Dk.has, Dk.settled, pv0_block]
  refine ⟨?_, hfr⟩
  exact {
    row := by
      exact heap_setCell_same _ _ _ _ _ _ (m.row h)
    las := m.las.fr fs (fun e => h.ap.dL e.symm)
    lasl := by show (lay _ _ _ _ _).length = _; rw [lay_length]; exact h.lasl
    nb0 := h.nb0
    nb1 := h.nb1
    nws := by
      have e : newest (D.settled kp).f D.nb 0 = List.replicate D.nb 0 := newest_zero _ _
      have e2 : nz D.f (newest D.f D.nb D.pen.length) D.pen.length = List.replicate D.nb 0 := nz_newest _ _ _ (fun j hj => by
        obtain ⟨p, _, hp, hf, _⟩ := penX D j hj
        rw [hf]; exact (h.penb p hp).1)
      have := owns_fr m.nws fs (fun k hk e => by cases hk; exact h.ap.dn e.symm)
      rw [e2, ← e] at this
      exact this
    pen := by
      refine ⟨rfl, ?_⟩
      rcases h.pen.2 with ⟨hv, _⟩ | ⟨g, cap, cur, hv, h1, hg, h2, h3, h4, h5⟩
      · exact .inl ⟨by show pv0 D.pv = _; rw [hv]; rfl, rfl⟩
      · refine .inr ⟨g, cap, cur, by show pv0 D.pv = _; rw [hv]; rfl, h1, ?_, Nat.zero_le _, h3, h4, by simp [Dk.settled]⟩
        have hn := h.ap.p g (by rw [hv]; rfl)
        exact fs.heap (m.fr.heap hg (fun e => e.elim hn.2.1 hn.2.2.1)) hn.1
    penb := fun p hp => by cases hp
    tap := owns_fr (owns_fr h.tap m.fr (fun j hj e => e.elim (h.ap.t j hj).2.1 (h.ap.t j hj).2.2.1)) fs (fun j hj => (h.ap.t j hj).1)
    tapb := fun a ha => by
      rcases h.tapb a ha with ⟨h1, h2, h3, h4, g, cap, h5, h6, h7⟩ | h'
      · exact .inl ⟨h1, h2, h3, h4, g, cap, h5, h6.fr hfr h7, fun e => h7 ((hsame g).1 e)⟩
      · exact .inr h'
    kee := h.kee.fr hfr (fun _ => h.keb)
    keb := fun k hk e => h.keb k hk ((hsame k).1 e)
    kel := fun k hk => Nat.lt_of_lt_of_le (h.kel k hk) hfr.size
    ap := ⟨h.ap.dL, h.ap.dn, h.ap.Ln, (fun k hk => h.ap.p k (by rw [← pv0_block]; exact hk)), (fun k hk => by
      have := h.ap.t k hk
      exact ⟨this.1, this.2.1, this.2.2.1, by show (pv0 D.pv).ownBlock ≠ _; rw [pv0_block]; exact this.2.2.2⟩)⟩
    dn := fun _ => rfl
    pl := by show 0 ≤ _; omega
    tl := h.tl
    wrs := h.wrs
    fls := h.fls
    at1 := h.at1 }
end Go.Proofs.YtdheojhfgeabhaaDoor

namespace Go.Proofs.YtdheojhfgeabhaaDoor
open Go.RowKit Rec

end Go.Proofs.YtdheojhfgeabhaaDoor

namespace Go.Proofs.YtdheojhfgeabhaaDoor
open Go.RowKit Rec

/-- the disk behind a power cut -/
def Dk.cut (D : Dk) (kp : Nat → Bool) : Dk := { D.settled kp with down := true }
/-- what was done to a disk -/
structure Mv (w : World) (D : Dk) (w' : World) (D' : Dk) : Prop where
  fr : Fr D.has w w'
  has : ∀ k, D'.has k → D.has k ∨ w.heap.size ≤ k
  d : D'.d = D.d
  nb : D'.nb = D.nb
theorem Mv.trans {w w' w'' : World} {D D' D'' : Dk} (x : Mv w D w' D') (y : Mv w' D' w'' D'') : Mv w D w'' D'' :=
  ⟨x.fr.trans y.fr x.has, fun k hk => (y.has k hk).elim (x.has k) (fun h => .inr (Nat.le_trans x.fr.size h)), y.d.trans x.d, y.nb.trans x.nb⟩
theorem Mv.refl (w : World) (D : Dk) : Mv w D w D := ⟨Fr.refl _ _, fun _ h => .inl h, rfl, rfl⟩
theorem Mv.below {w w' : World} {D D' : Dk} (x : Mv w D w' D') (B : Nat) (hB : B ≤ w.heap.size) (h : ∀ k, D.has k → B ≤ k) : Below B w w' ∧ ∀ k, D'.has k → B ≤ k :=
  ⟨x.fr.below B h hB, fun k hk => (x.has k hk).elim (h k) (fun h2 => Nat.le_trans hB h2)⟩
theorem mv_on (w w' : World) (D : Dk) (x : Below w.heap.size w w') : Mv w D w' D := ⟨below_fr x _, fun _ h => .inl h, rfl, rfl⟩
theorem settled_has (D : Dk) (kp : Nat → Bool) (k : Nat) : (D.settled kp).has k ↔ D.has k := by simp only [Dk.has, Dk.settled, pv0_block]
/-- a field of the disk's own changes: what does not lie elsewhere -/
theorem Disk.put1 {w : World} {D D' : Dk} (h : Disk w D) (j : Nat) (v : Value) (hv : D'.cells = D.cells.setIfInBounds j v)
    (e : D' = { D with wr := D'.wr, fl := D'.fl, at_ := D'.at_, down := D'.down }) (hd : D'.down = true → D'.pen = []) (h1 : D'.wr ≤ 4294967296) (h2 : D'.fl ≤ 4294967296) (h3 : D'.at_ ≤ 9223372036854775807) :
    Disk (w.setCell ⟨D.d, j, none⟩ v) D' ∧ Mv w D (w.setCell ⟨D.d, j, none⟩ v) D' := by
  have fs : Fr (fun i => i = D.d) w (w.setCell ⟨D.d, j, none⟩ v) := Fr.set
  have hfr : Fr D.has w (w.setCell ⟨D.d, j, none⟩ v) := fs.mono (fun _ e => .inl e)
  generalize D'.wr = x1 at *
  generalize D'.fl = x2 at *
  generalize D'.at_ = x3 at *
  generalize D'.down = x4 at *
  subst e
  refine ⟨?_, hfr, fun _ hk => .inl hk, rfl, rfl⟩
  exact {
    row := by rw [hv]; exact heap_setCell_same _ _ _ _ _ _ h.row
    las := h.las.fr fs (fun e => h.ap.dL e.symm)
    lasl := h.lasl
    nb0 := h.nb0
    nb1 := h.nb1
    nws := owns_fr h.nws fs (fun k hk e => by cases hk; exact h.ap.dn e.symm)
    pen := owns_fr h.pen fs (fun k hk => (h.ap.p k hk).1)
    penb := fun p hp => ⟨(h.penb p hp).1, (h.penb p hp).2.1, (h.penb p hp).2.2.1.fr hfr (h.penb p hp).2.2.2, (h.penb p hp).2.2.2⟩
    tap := owns_fr h.tap fs (fun k hk => (h.ap.t k hk).1)
    tapb := fun a ha => by
      rcases h.tapb a ha with ⟨h1, h2, h3, h4, g, cap, h5, h6, h7⟩ | h'
      · exact .inl ⟨h1, h2, h3, h4, g, cap, h5, h6.fr hfr h7, h7⟩
      · exact .inr h'
    kee := h.kee.fr hfr (fun _ => h.keb)
    keb := h.keb
    kel := fun k hk => Nat.lt_of_lt_of_le (h.kel k hk) hfr.size
    ap := ⟨h.ap.dL, h.ap.dn, h.ap.Ln, h.ap.p, h.ap.t⟩
    dn := hd
    pl := h.pl
    tl := h.tl
    wrs := h1
    fls := h2
    at1 := h3 }
theorem Disk.frozen {w : World} {D : Dk} (h : Disk w D) (j : Nat) : w.frozen? ⟨D.d, j, none⟩ = false := frozen_of_row _ _ _ _ _ h.row
/-- may the power go at this step? what is left then -/
def Dk.ticked (D : Dk) : Dk := if 0 < D.at_ then { D with at_ := D.at_ - 1 } else D
def Dk.goes (D : Dk) : Bool := decide (D.at_ = 1)
end Go.Proofs.YtdheojhfgeabhaaDoor

namespace Go.Proofs.YtdheojhfgeabhaaDoor
open Go.RowKit Rec

/-- a disk that is put together anew -/
theorem Disk.anew {w w' : World} {D D' : Dk} (h : Disk w D) (hfr : Fr D.has w w') (hhas : ∀ k, D'.has k → D.has k ∨ w.heap.size ≤ k) (hd : D'.d = D.d) (hL : D'.L = D.L) (hcL : D'.capL = D.capL) (hnb : D'.nb = D.nb) (hkv : D'.kv = D.kv) (hke : D'.keep = D.keep) (hwr : D'.wr = D.wr) (hfl : D'.fl = D.fl) (hat : D'.at_ = D.at_) (hlas : D'.las = D.las)
    (row : w'.heap[D'.d]? = some (.cells D'.cells 85 (0, 0))) (las : OwnB w' D.L D.capL D.las)
    (nws : w'.ownsRow 0 3 1 (.slice (some ⟨D'.nw, 0, none⟩) D'.nb D'.capN) D'.nb ((newest D'.f D'.nb D'.pen.length).map (Value.int .i64)))
    (pen : w'.ownsRow 0 95 2 D'.pv D'.pen.length (D'.pen.flatMap It.cells))
    (penb : ∀ p ∈ D'.pen, p ∈ D.pen ∨ (p.b < D.nb ∧ p.x.length = 512 ∧ OwnB w' p.g p.cap p.x ∧ ¬ D'.has p.g))
    (tap : w'.ownsRow 0 113 3 D'.tv D'.tap.length (D'.tap.flatMap Ac.cells)) (tapb : ∀ a ∈ D'.tap, a ∈ D.tap ∨ AcOk w' D' a) (ap : Apart D') (dn : D'.down = true → D'.pen = []) (pl : D'.pen.length ≤ 4294967296) (tl : D'.tap.length ≤ 4294967296) : Disk w' D' ∧ Mv w D w' D' := by
  have hno : ∀ k, k < w.heap.size → ¬ D.has k → ¬ D'.has k := fun k hk hn e => (hhas k e).elim hn (fun h => by omega)
  refine ⟨?_, hfr, hhas, hd, hnb⟩
  exact {
    row := row
    las := by rw [hL, hcL, hlas]; exact las
    lasl := by rw [hlas, hnb]; exact h.lasl
    nb0 := by rw [hnb]; exact h.nb0
    nb1 := by rw [hnb]; exact h.nb1
    nws := nws
    pen := pen
    penb := fun p hp => by
      rcases penb p hp with h' | h'
      · obtain ⟨h1, h2, h3, h4⟩ := h.penb p h'
        exact ⟨by rw [hnb]; exact h1, h2, h3.fr hfr h4, hno _ h3.lt h4⟩
      · rw [hnb]; exact h'
    tap := tap
    tapb := fun a ha => by
      rcases tapb a ha with h' | h'
      · rcases h.tapb a h' with ⟨h1, h2, h3, h4, g, cap, h5, h6, h7⟩ | h'
        · exact .inl ⟨h1, h2, by rw [hnb]; exact h3, h4, g, cap, h5, h6.fr hfr h7, hno _ h6.lt h7⟩
        · exact .inr h'
      · exact h'
    kee := by rw [hkv, hke]; exact h.kee.fr hfr (fun _ => h.keb)
    keb := fun k hk => by rw [hkv] at hk; exact hno k (h.kel k hk) (h.keb k hk)
    kel := fun k hk => by rw [hkv] at hk; exact Nat.lt_of_lt_of_le (h.kel k hk) hfr.size
    ap := ap
    dn := dn
    pl := pl
    tl := tl
    wrs := by rw [hwr]; exact h.wrs
    fls := by rw [hfl]; exact h.fls
    at1 := by rw [hat]; exact h.at1 }
/-- an act more -/
def Dk.act (D : Dk) (gt capt : Nat) (a : Ac) : Dk := { D with tv := .slice (some ⟨gt, 0, none⟩) (D.tap.length + 1) capt, tap := D.tap ++ [a] }
theorem Disk.taped {w wb w1 : World} {D : Dk} {gt capt : Nat} {a : Ac} (h : Disk w D) (hb : Below w.heap.size w wb)
    (ha : (a.kind = 1 ∧ 0 ≤ a.b ∧ a.b < D.nb ∧ a.x.length = 512 ∧ ∃ g cap, a.v = .slice (some ⟨g, 0, none⟩) 512 cap ∧ OwnB w g cap a.x ∧ ¬ D.has g) ∨ (a.kind = 2 ∧ a.b = 0 ∧ a.v = .slice none 0 0 ∧ a.x = []))
    (ho : w1.ownsRow 0 113 3 (.slice (some ⟨gt, 0, none⟩) (D.tap.length + 1) capt) (D.tap.length + 1) (D.tap.flatMap Ac.cells ++ a.cells)) (hf : Fr (fun k => D.tv.ownBlock = some k) wb w1) (hg : D.tv.ownBlock = some gt ∨ wb.heap.size ≤ gt) (hl : D.tap.length + 1 ≤ 4294967296) :
    Disk (w1.setCell ⟨D.d, 3, none⟩ (.slice (some ⟨gt, 0, none⟩) (D.tap.length + 1) capt)) (D.act gt capt a) ∧ Mv w D (w1.setCell ⟨D.d, 3, none⟩ (.slice (some ⟨gt, 0, none⟩) (D.tap.length + 1) capt)) (D.act gt capt a) := by
  have hbs := hb.size
  have fs : Fr (fun i => i = D.d) w1 (w1.setCell ⟨D.d, 3, none⟩ (.slice (some ⟨gt, 0, none⟩) (D.tap.length + 1) capt)) := Fr.set
  have f1 : Fr (fun k => D.tv.ownBlock = some k) w w1 := (below_fr hb _).trans hf (fun _ e => .inl e)
  have hfr : Fr D.has w (w1.setCell ⟨D.d, 3, none⟩ (.slice (some ⟨gt, 0, none⟩) (D.tap.length + 1) capt)) := (f1.mono (fun _ e => .inr (.inr (.inr (.inr e))))).trans fs (fun _ e => .inl (.inl e))
  have hg' : D.tv.ownBlock = some gt ∨ w.heap.size ≤ gt := hg.imp id (fun h => Nat.le_trans hbs h)
  have hhas : ∀ k, (D.act gt capt a).has k → D.has k ∨ w.heap.size ≤ k := fun k hk => by
    rcases hk with e | e | e | e | e
    · exact .inl (.inl e)
    · exact .inl (.inr (.inl e))
    · exact .inl (.inr (.inr (.inl e)))
    · exact .inl (.inr (.inr (.inr (.inl e))))
    · cases e
      exact hg'.elim (fun e => .inl (.inr (.inr (.inr (.inr e))))) .inr
  have hdg : gt ≠ D.d ∧ gt ≠ D.L ∧ gt ≠ D.nw ∧ D.pv.ownBlock ≠ some gt := by
    rcases hg' with e | e
    · exact h.ap.t gt e
    · refine ⟨fun x => ?_, fun x => ?_, fun x => ?_, fun x => ?_⟩
      · have := h.lt; omega
      · have := h.las.lt; omega
      · have : D.nw < w.heap.size := owns_block h.nws rfl; omega
      · have := owns_block h.pen x; omega
  refine h.anew hfr hhas rfl rfl rfl rfl rfl rfl rfl rfl rfl rfl ?_ ?_ ?_ ?_ (fun p hp => .inl hp) ?_ ?_ ?_ h.dn h.pl ?_
  · exact heap_setCell_same _ _ _ _ _ _ (f1.heap h.row (fun e => (h.ap.t _ e).1 rfl))
  · exact (h.las.fr f1 (fun e => (h.ap.t _ e).2.1 rfl)).fr fs (fun e => h.ap.dL e.symm)
  · exact owns_fr (owns_fr h.nws f1 (fun k hk e => by cases hk; exact (h.ap.t _ e).2.2.1 rfl)) fs (fun k hk e => by cases hk; exact h.ap.dn e.symm)
  · exact owns_fr (owns_fr h.pen f1 (fun k hk e => (h.ap.t _ e).2.2.2 hk)) fs (fun k hk => (h.ap.p k hk).1)
  · have := owns_fr ho fs (fun k hk => by cases hk; exact hdg.1)
    simp only [Dk.act, List.flatMap_append, List.flatMap_cons, List.flatMap_nil, List.append_nil, List.length_append, List.length_cons, List.length_nil]
    exact this
  · intro b hb
    rcases List.mem_append.1 hb with hb | hb
    · exact .inl hb
    · rw [List.mem_singleton] at hb
      subst hb
      right
      rcases ha with ⟨h1, h2, h3, h4, g, cap, h5, h6, h7⟩ | h'
      · exact .inl ⟨h1, h2, h3, h4, g, cap, h5, h6.fr hfr h7, fun e => (hhas g e).elim h7 (fun x => by have := h6.lt; omega)⟩
      · exact .inr h'
  · exact ⟨h.ap.dL, h.ap.dn, h.ap.Ln, (fun k hk => ⟨(h.ap.p k hk).1, (h.ap.p k hk).2.1, (h.ap.p k hk).2.2.1, fun e => by cases e; exact hdg.2.2.2 hk⟩), (fun k hk => by cases hk; exact hdg)⟩
  · simp only [Dk.act, List.length_append, List.length_cons, List.length_nil]; exact hl
/-- a write more -/
def Dk.pend (D : Dk) (gp capp : Nat) (p : It) : Dk := { D with pv := .slice (some ⟨gp, 0, none⟩) (D.pen.length + 1) capp, pen := D.pen ++ [p] }
theorem pend_f (D : Dk) (gp capp : Nat) (p : It) (k : Nat) (hk : k < D.pen.length) : (D.pend gp capp p).f k = D.f k := by
  simp [Dk.f, Dk.pend, List.getD, List.getElem?_append, hk]
theorem pend_f1 (D : Dk) (gp capp : Nat) (p : It) : (D.pend gp capp p).f D.pen.length = p.b := by
  simp [Dk.f, Dk.pend, List.getD]
theorem Disk.pended {w wb w1 w2 : World} {D : Dk} {gp capp : Nat} {p : It} (h : Disk w D) (hb : Below w.heap.size w wb) (hp1 : p.b < D.nb) (hp2 : p.x.length = 512) (hp3 : OwnB w p.g p.cap p.x) (hp4 : ¬ D.has p.g) (hdn : D.down = false)
    (ho : w1.ownsRow 0 95 2 (.slice (some ⟨gp, 0, none⟩) (D.pen.length + 1) capp) (D.pen.length + 1) (D.pen.flatMap It.cells ++ p.cells)) (hf : Fr (fun k => D.pv.ownBlock = some k) wb w1) (hg : D.pv.ownBlock = some gp ∨ wb.heap.size ≤ gp) (hl : D.pen.length + 1 ≤ 4294967296)
    (h2 : w2 = w1.setCell ⟨D.d, 1, none⟩ (.slice (some ⟨gp, 0, none⟩) (D.pen.length + 1) capp)) {w3 : World} (h3 : Below w2.heap.size w2 w3) :
    Disk (w3.setCell ⟨D.nw, p.b, none⟩ (.int .i64 ((D.pen.length : Int) + 1))) (D.pend gp capp p) ∧ Mv w D (w3.setCell ⟨D.nw, p.b, none⟩ (.int .i64 ((D.pen.length : Int) + 1))) (D.pend gp capp p) := by
  have hbs := hb.size
  have fs : Fr (fun i => i = D.d) w1 w2 := h2 ▸ Fr.set
  have ft : Fr (fun i => i = D.nw) w3 (w3.setCell ⟨D.nw, p.b, none⟩ (.int .i64 ((D.pen.length : Int) + 1))) := Fr.set
  have f1 : Fr (fun k => D.pv.ownBlock = some k) w w1 := (below_fr hb _).trans hf (fun _ e => .inl e)
  have f2 : Fr (fun k => D.pv.ownBlock = some k ∨ k = D.d) w w2 := (f1.mono (fun _ e => .inl e)).trans fs (fun _ e => .inl (.inr e))
  have f3 : Fr (fun k => D.pv.ownBlock = some k ∨ k = D.d) w w3 := f2.trans (below_fr h3 (fun _ => False)) (fun _ e => e.elim)
  have hfr : Fr D.has w (w3.setCell ⟨D.nw, p.b, none⟩ (.int .i64 ((D.pen.length : Int) + 1))) := (f3.mono (fun _ e => e.elim (fun e => .inr (.inr (.inr (.inl e)))) .inl)).trans ft (fun _ e => .inl (.inr (.inr (.inl e))))
  have hg' : D.pv.ownBlock = some gp ∨ w.heap.size ≤ gp := hg.imp id (fun h => Nat.le_trans hbs h)
  have hhas : ∀ k, (D.pend gp capp p).has k → D.has k ∨ w.heap.size ≤ k := fun k hk => by
    rcases hk with e | e | e | e | e
    · exact .inl (.inl e)
    · exact .inl (.inr (.inl e))
    · exact .inl (.inr (.inr (.inl e)))
    · cases e
      exact hg'.elim (fun e => .inl (.inr (.inr (.inr (.inl e))))) .inr
    · exact .inl (.inr (.inr (.inr (.inr e))))
  have hdg : gp ≠ D.d ∧ gp ≠ D.L ∧ gp ≠ D.nw ∧ D.tv.ownBlock ≠ some gp := by
    rcases hg' with e | e
    · exact h.ap.p gp e
    · refine ⟨fun x => ?_, fun x => ?_, fun x => ?_, fun x => ?_⟩
      · have := h.lt; omega
      · have := h.las.lt; omega
      · have : D.nw < w.heap.size := owns_block h.nws rfl; omega
      · have := owns_block h.tap x; omega
  have hn1 := owns_fr h.nws f3 (fun k hk e => by cases hk; exact e.elim (fun e => (h.ap.p _ e).2.2.1 rfl) (fun e => h.ap.dn e.symm))
  refine h.anew hfr hhas rfl rfl rfl rfl rfl rfl rfl rfl rfl rfl ?_ ?_ ?_ ?_ ?_ ?_ (fun a ha => .inl ha) ?_ (fun e => by rw [show (D.pend gp capp p).down = D.down from rfl, hdn] at e; cases e) ?_ h.tl
  · have r1 := f1.heap h.row (fun e => (h.ap.p _ e).1 rfl)
    have r2 : w2.heap[D.d]? = some (.cells (D.pend gp capp p).cells 85 (0, 0)) := by rw [h2]; exact heap_setCell_same _ _ _ _ _ _ r1
    exact ft.heap ((below_fr h3 (fun _ => False)).heap r2 (fun e => e)) (fun e => h.ap.dn e)
  · exact (h.las.fr f3 (fun e => e.elim (fun e => (h.ap.p _ e).2.1 rfl) (fun e => h.ap.dL e.symm))).fr ft (fun e => h.ap.Ln e)
  · have := owns_set hn1 p.b (.int .i64 ((D.pen.length : Int) + 1))
    rw [← List.map_set] at this
    have e : (newest D.f D.nb D.pen.length).set p.b ((D.pen.length : Int) + 1) = newest (D.pend gp capp p).f D.nb (D.pen.length + 1) := by
      rw [newest_congr (f := D.f) (f' := (D.pend gp capp p).f) _ _ (fun k hk => (pend_f D gp capp p k hk).symm)]
      have e3 := newest_set (D.pend gp capp p).f D.nb D.pen.length (by rw [pend_f1]; exact hp1)
      rw [pend_f1] at e3
      exact e3
    rw [e] at this
    have e2 : (D.pend gp capp p).pen.length = D.pen.length + 1 := by simp [Dk.pend]
    rw [e2]
    exact this
  · have := owns_fr (owns_fr (owns_fr ho fs (fun k hk => by cases hk; exact hdg.1)) (below_fr h3 (fun _ => False)) (fun _ _ e => e)) ft (fun k hk => by cases hk; exact hdg.2.2.1)
    simp only [Dk.pend, List.flatMap_append, List.flatMap_cons, List.flatMap_nil, List.append_nil, List.length_append, List.length_cons, List.length_nil]
    exact this
  · intro q hq
    rcases List.mem_append.1 hq with hq | hq
    · exact .inl hq
    · rw [List.mem_singleton] at hq
      subst hq
      exact .inr ⟨hp1, hp2, hp3.fr hfr hp4, fun e => (hhas _ e).elim hp4 (fun x => by have := hp3.lt; omega)⟩
  · exact owns_fr (owns_fr h.tap f3 (fun k hk e => e.elim (fun e => (h.ap.p _ e).2.2.2 hk) (fun e => (h.ap.t k hk).1 e))) ft (fun k hk => (h.ap.t k hk).2.2.1)
  · exact ⟨h.ap.dL, h.ap.dn, h.ap.Ln, (fun k hk => by cases hk; exact hdg), (fun k hk => ⟨(h.ap.t k hk).1, (h.ap.t k hk).2.1, (h.ap.t k hk).2.2.1, fun e => by cases e; exact hdg.2.2.2 hk⟩)⟩
  · simp only [Dk.pend, List.length_append, List.length_cons, List.length_nil]; exact hl
theorem infoAct : (Tryd.prog.info? 113).map (fun i => (i.zero, i.size, i.bytes)) = some (some (.agg #[.int .i64 0, .int .i64 0, .slice none 0 0]), 3, 40) := by kernel_rfl
theorem infoWr : (Tryd.prog.info? 95).map (fun i => (i.zero, i.size, i.bytes)) = some (some (.agg #[.int .i64 0, .slice none 0 0]), 2, 32) := by kernel_rfl
theorem news_of {w : World} {b : Nat} {arr : Array Value} {t : TypeId} (h : w.heap[b]? = some (.cells arr t (0, 0))) (xs : List Value) (hx : arr.toList = xs) : ∀ j u, xs[j]? = some u → w.cell? ((⟨b, 0, none⟩ : Addr).add j) = some u := by
  intro j u hj
  rw [Addr.add_lit, Nat.zero_add, cell_of_row _ _ _ _ _ _ h, ← hj, ← hx, Array.getElem?_toList]
end Go.Proofs.YtdheojhfgeabhaaDoor
