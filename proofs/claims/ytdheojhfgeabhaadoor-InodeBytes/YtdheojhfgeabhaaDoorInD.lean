import Derived.Test.YtdheojhfgeabhaaDoorKInC
import Derived.Test.YtdheojhfgeabhaaDoorTvD
namespace Go.Proofs.YtdheojhfgeabhaaDoor
open Go.RowKit Rec

/-- a record as it is written -/
structure EncI (w : World) (P g : Nat) (x : Nat → Int) (wr : World) (L : List Int) : Prop where
  bel : Below w.heap.size w wr
  row : wr.heap[P]? = some (.cells (inC x) 24 (0, 0))
  own : OwnB wr g 64 L
  lo : w.heap.size ≤ P
  far : P < g
theorem EncI.put {w wr w' : World} {P g : Nat} {x : Nat → Int} {L L' : List Int} (h : EncI w P g x wr L) (ho : OwnB w' g 64 L') (hg : wr.grownBy w' (some g)) : EncI w P g x w' L' := by
  have := h.far
  have := h.lo
  exact ⟨h.bel.trans (below_of hg (by omega) h.bel.size), (grown_fr hg).heap h.row (fun e => by injection e with e; omega), ho, h.lo, h.far⟩
theorem EncI.on {w wr w' : World} {P g : Nat} {x : Nat → Int} {L : List Int} (h : EncI w P g x wr L) (hb : Below wr.heap.size wr w') : EncI w P g x w' L := by
  exact ⟨h.bel.trans (hb.mono h.bel.size), (hb.block _ (heap_lt h.row)).trans h.row, h.own.on hb, h.lo, h.far⟩
theorem hasW9 {v : Int} {n : Nat} (h : v < 256 ^ n) : has v (n : Int) = true := by
  unfold has; exact decide_eq_true (by simpa using h)
set_option maxRecDepth 100000 in
set_option maxHeartbeats 1600000 in
theorem enc_no (w : World) (x : Nat → Int) (hx : ∀ i, -9223372036854775808 ≤ x i ∧ x i ≤ 9223372036854775807) (hm : rMay x = false) : Calls Tryd.prog 6 #[inV x] w fun e w' => e = .returned (.tuple #[.slice none 0 0, .int .i64 111]) ∧ Below w.heap.size w w' := by
  have HM : Hid (∀ wx, Calls Tryd.prog 20 #[.agg #[.int .i64 (x 0), .int .i64 (x 1), .int .i64 (x 2), .int .i64 (x 3), .int .i64 (x 4), .int .i64 (x 5), .int .i64 (x 6), .int .i64 (x 7), .int .i64 (x 8), .int .i64 (x 9), .int .i64 (x 10), .int .i64 (x 11), .int .i64 (x 12), .int .i64 (x 13), .int .i64 (x 14)]] wx fun e w' => e = .returned (.bool false) ∧ Below wx.heap.size wx w') := fun wx => by
    have := imayBe_any wx x hx
    rw [hm] at this
    exact this
  clear hx hm
  unfold inV
  have HA : Hid (∀ o, Below w.heap.size w (w.alloc o)) := fun o => (Below.refl _ _).alloc (Nat.le_refl _) o
  go_enter Tryd.func6, Tryd.ntmps6
  go_wp2_with (go_at_call 20; refine (HM.out _).mono ?_; rintro e w1 ⟨rfl, h1⟩; have H1 : Hid (Below w.heap.size w w1) := (HA.out _).trans (h1.mono (HA.out _).size); clear h1)
  go_ret2
  exact ⟨rfl, H1.out⟩
set_option maxRecDepth 100000 in
set_option maxHeartbeats 4000000 in
theorem enc_ok (w : World) (x : Nat → Int) (hx : ∀ i, -9223372036854775808 ≤ x i ∧ x i ≤ 9223372036854775807) (hm : rMay x = true) (hT : TabAt w) : Calls Tryd.prog 6 #[inV x] w fun e w' => ∃ g, e = .returned (.tuple #[.slice (some ⟨g, 0, none⟩) 64 64, .int .i64 0]) ∧ w.heap.size ≤ g ∧ OwnB w' g 64 (rby x) ∧ Below w.heap.size w w' := by
  have HM : Hid (∀ wx, Calls Tryd.prog 20 #[.agg #[.int .i64 (x 0), .int .i64 (x 1), .int .i64 (x 2), .int .i64 (x 3), .int .i64 (x 4), .int .i64 (x 5), .int .i64 (x 6), .int .i64 (x 7), .int .i64 (x 8), .int .i64 (x 9), .int .i64 (x 10), .int .i64 (x 11), .int .i64 (x 12), .int .i64 (x 13), .int .i64 (x 14)]] wx fun e w' => e = .returned (.bool true) ∧ Below wx.heap.size wx w') := fun wx => by
    have := imayBe_any wx x hx
    rw [hm] at this
    exact this
  have HN : Hid (∀ wx, Calls Tryd.prog 22 #[.agg #[.int .i64 (x 0), .int .i64 (x 1), .int .i64 (x 2), .int .i64 (x 3), .int .i64 (x 4), .int .i64 (x 5), .int .i64 (x 6), .int .i64 (x 7), .int .i64 (x 8), .int .i64 (x 9), .int .i64 (x 10), .int .i64 (x 11), .int .i64 (x 12), .int .i64 (x 13), .int .i64 (x 14)]] wx fun e w' => e = .returned (nmV x) ∧ Below wx.heap.size wx w') := fun wx => numbers_any wx x
  have HB : Hid (∀ i, i < 15 → 0 ≤ x i ∧ x i < fBd i) := fun i hi => rMay_bd hm i hi
  have b0 : 0 ≤ x 0 ∧ x 0 < 256 := HB.out 0 (by omega)
  have b1 : 0 ≤ x 1 ∧ x 1 < 65536 := HB.out 1 (by omega)
  have b2 : 0 ≤ x 2 ∧ x 2 < 4294967296 := HB.out 2 (by omega)
  have HT : Hid (TabAt w) := hT
  have HH : Hid (has (x 0) ((1 : Nat) : Int) = true ∧ has (x 1) ((2 : Nat) : Int) = true ∧ has (x 2) ((4 : Nat) : Int) = true) := ⟨hasW9 (by omega), hasW9 (by omega), hasW9 (by omega)⟩
  obtain ⟨o, E2a, ho⟩ := makeN 64 (by omega)
  have E2 : ∀ w : World, (Instr.makeSlice 25 (.int .i64 64) (.int .i64 64)).run Tryd.prog w = .ok (.slice (some ⟨w.heap.size, 0, none⟩) 64 64) (w.alloc o) := E2a
  clear E2a
  have HO : Hid (∀ w : World, OwnB (w.alloc o) w.heap.size 64 zs64) := ho
  clear hx hm hT ho
  unfold inV
  obtain ⟨P, hP⟩ : ∃ P, w.heap.size = P := ⟨_, rfl⟩
  obtain ⟨wa, hwa⟩ : ∃ wa, w.alloc (.cells #[.int .i64 (x 0), .int .i64 (x 1), .int .i64 (x 2), .int .i64 (x 3), .int .i64 (x 4), .int .i64 (x 5), .int .i64 (x 6), .int .i64 (x 7), .int .i64 (x 8), .int .i64 (x 9), .int .i64 (x 10), .int .i64 (x 11), .int .i64 (x 12), .int .i64 (x 13), .int .i64 (x 14)] 24) = wa := ⟨_, rfl⟩
  have HA : Hid (Below w.heap.size w wa) := by rw [← hwa]; exact (Below.refl _ _).alloc (Nat.le_refl _) _
  have hra : wa.heap[P]? = some (.cells (inC x) 24 (0, 0)) := by rw [← hwa, ← hP]; exact heap_alloc_new _ _
  have HR : Hid (wa.heap[P]? = some (.cells (inC x) 24 (0, 0))) := hra
  have q0 : wa.cell? ⟨P, 0, none⟩ = some (.int .i64 (x 0)) := cell_of_row _ _ 0 _ _ _ hra
  have q1 : wa.cell? ⟨P, 1, none⟩ = some (.int .i64 (x 1)) := cell_of_row _ _ 1 _ _ _ hra
  have q2 : wa.cell? ⟨P, 2, none⟩ = some (.int .i64 (x 2)) := cell_of_row _ _ 2 _ _ _ hra
  have q3 : wa.cell? ⟨P, 3, none⟩ = some (.int .i64 (x 3)) := cell_of_row _ _ 3 _ _ _ hra
  have q4 : wa.cell? ⟨P, 4, none⟩ = some (.int .i64 (x 4)) := cell_of_row _ _ 4 _ _ _ hra
  have q5 : wa.cell? ⟨P, 5, none⟩ = some (.int .i64 (x 5)) := cell_of_row _ _ 5 _ _ _ hra
  have q6 : wa.cell? ⟨P, 6, none⟩ = some (.int .i64 (x 6)) := cell_of_row _ _ 6 _ _ _ hra
  have q7 : wa.cell? ⟨P, 7, none⟩ = some (.int .i64 (x 7)) := cell_of_row _ _ 7 _ _ _ hra
  have q8 : wa.cell? ⟨P, 8, none⟩ = some (.int .i64 (x 8)) := cell_of_row _ _ 8 _ _ _ hra
  have q9 : wa.cell? ⟨P, 9, none⟩ = some (.int .i64 (x 9)) := cell_of_row _ _ 9 _ _ _ hra
  have q10 : wa.cell? ⟨P, 10, none⟩ = some (.int .i64 (x 10)) := cell_of_row _ _ 10 _ _ _ hra
  have q11 : wa.cell? ⟨P, 11, none⟩ = some (.int .i64 (x 11)) := cell_of_row _ _ 11 _ _ _ hra
  have q12 : wa.cell? ⟨P, 12, none⟩ = some (.int .i64 (x 12)) := cell_of_row _ _ 12 _ _ _ hra
  have q13 : wa.cell? ⟨P, 13, none⟩ = some (.int .i64 (x 13)) := cell_of_row _ _ 13 _ _ _ hra
  have q14 : wa.cell? ⟨P, 14, none⟩ = some (.int .i64 (x 14)) := cell_of_row _ _ 14 _ _ _ hra
  clear hra
  go_enter Tryd.func6, Tryd.ntmps6
  go_upto_region 3 with (go_at_call 20; refine (HM.out _).mono ?_; rintro e w1 ⟨rfl, h1⟩; have H1 : Hid (Below wa.heap.size wa w1) := h1; clear h1 HM)
  obtain ⟨g, hg⟩ : ∃ g, w1.heap.size = g := ⟨_, rfl⟩
  obtain ⟨wb, hwb⟩ : ∃ wb, w1.alloc o = wb := ⟨_, rfl⟩
  have E0 : Hid (EncI w P g x wb zs64) := by
    have hb : Below wa.heap.size wa wb := by rw [← hwb]; exact H1.out.alloc H1.out.size _
    have h2 := heap_lt HR.out
    have h3 := H1.out.size
    refine ⟨HA.out.trans (hb.mono HA.out.size), (hb.block _ h2).trans HR.out, ?_, by omega, by omega⟩
    rw [← hwb, ← hg]; exact HO.out _
  have hr := E0.out.row
  have r0 : wb.cell? ⟨P, 0, none⟩ = some (.int .i64 (x 0)) := cell_of_row _ _ 0 _ _ _ hr
  clear hr HO
  go_wp2_with (first
    | (go_at_call 21; have hh := E0.out; clear hh; refine (put_in _ g 64 64 64 0 1 (x 0) zs64 E0.out.own (by rw [zs64_length]; omega) (by omega) (HT.out.on E0.out.bel) (by omega) rfl HH.out.1 (by omega)).mono ?_; rintro e w2 ⟨rfl, h1, h2⟩; have E1 : Hid (EncI w P g x w2 (ov zs64 0 1 (dig (x 0)))) := E0.out.put h1 h2; have hr := E1.out.row; have s1 : w2.cell? ⟨P, 1, none⟩ = some (.int .i64 (x 1)) := cell_of_row _ _ 1 _ _ _ hr; clear h1 h2 hr E0)
    | (go_at_call 21; have hh := E1.out; clear hh; refine (put_in _ g 64 64 64 2 2 (x 1) _ E1.out.own (by rw [ov_length, zs64_length]; omega) (by omega) (HT.out.on E1.out.bel) (by omega) rfl HH.out.2.1 (by omega)).mono ?_; rintro e w3 ⟨rfl, h1, h2⟩; have E2' : Hid (EncI w P g x w3 (ov (ov zs64 0 1 (dig (x 0))) 2 2 (dig (x 1)))) := E1.out.put h1 h2; have hr := E2'.out.row; have t2 : w3.cell? ⟨P, 2, none⟩ = some (.int .i64 (x 2)) := cell_of_row _ _ 2 _ _ _ hr; clear h1 h2 hr E1)
    | (go_at_call 21; have hh := E2'.out; clear hh; refine (put_in _ g 64 64 64 4 4 (x 2) _ E2'.out.own (by rw [ov_length, ov_length, zs64_length]; omega) (by omega) (HT.out.on E2'.out.bel) (by omega) rfl HH.out.2.2 (by omega)).mono ?_; rintro e w4 ⟨rfl, h1, h2⟩; have E3 : Hid (EncI w P g x w4 (rbj x 0)) := E2'.out.put (by rw [← rbj_zero]; exact h1) h2; have hr := E3.out.row; have v0 : w4.cell? ⟨P, 0, none⟩ = some (.int .i64 (x 0)) := cell_of_row _ _ 0 _ _ _ hr; have v1 : w4.cell? ⟨P, 1, none⟩ = some (.int .i64 (x 1)) := cell_of_row _ _ 1 _ _ _ hr; have v2 : w4.cell? ⟨P, 2, none⟩ = some (.int .i64 (x 2)) := cell_of_row _ _ 2 _ _ _ hr; have v3 : w4.cell? ⟨P, 3, none⟩ = some (.int .i64 (x 3)) := cell_of_row _ _ 3 _ _ _ hr; have v4 : w4.cell? ⟨P, 4, none⟩ = some (.int .i64 (x 4)) := cell_of_row _ _ 4 _ _ _ hr; have v5 : w4.cell? ⟨P, 5, none⟩ = some (.int .i64 (x 5)) := cell_of_row _ _ 5 _ _ _ hr; have v6 : w4.cell? ⟨P, 6, none⟩ = some (.int .i64 (x 6)) := cell_of_row _ _ 6 _ _ _ hr; have v7 : w4.cell? ⟨P, 7, none⟩ = some (.int .i64 (x 7)) := cell_of_row _ _ 7 _ _ _ hr; have v8 : w4.cell? ⟨P, 8, none⟩ = some (.int .i64 (x 8)) := cell_of_row _ _ 8 _ _ _ hr; have v9 : w4.cell? ⟨P, 9, none⟩ = some (.int .i64 (x 9)) := cell_of_row _ _ 9 _ _ _ hr; have v10 : w4.cell? ⟨P, 10, none⟩ = some (.int .i64 (x 10)) := cell_of_row _ _ 10 _ _ _ hr; have v11 : w4.cell? ⟨P, 11, none⟩ = some (.int .i64 (x 11)) := cell_of_row _ _ 11 _ _ _ hr; have v12 : w4.cell? ⟨P, 12, none⟩ = some (.int .i64 (x 12)) := cell_of_row _ _ 12 _ _ _ hr; have v13 : w4.cell? ⟨P, 13, none⟩ = some (.int .i64 (x 13)) := cell_of_row _ _ 13 _ _ _ hr; have v14 : w4.cell? ⟨P, 14, none⟩ = some (.int .i64 (x 14)) := cell_of_row _ _ 14 _ _ _ hr; clear h1 h2 hr E2')
    | (go_at_call 22; refine (HN.out _).mono ?_; rintro e w5 ⟨rfl, h1⟩; have E5 : Hid (EncI w P g x w5 (rbj x 0)) := E3.out.on h1; clear h1 HN))
  go_loopw [28] (fun i wr => ∃ k : Nat, k ≤ 12 ∧ i = .int .i64 k ∧ EncI w P g x wr (rbj x k)) (fun i _ => 12 - (intOf i).toNat)
  case atStart => exact ⟨0, Nat.zero_le _, rfl, E5.out⟩
  case round =>
    obtain ⟨k, hk, rfl, hI⟩ := hrel
    have HI : Hid (EncI w P g x wr (rbj x k)) := hI
    clear hI
    by_cases hlt : k < 12
    · have E := fun w => nm_index w x k hlt
      have hb3 := HB.out (3 + k) (by omega)
      unfold fBd at hb3
      rw [if_neg (by omega), if_neg (by omega)] at hb3
      have HS : Hid (ov (rbj x k) (8 + 4 * k) 4 (dig (x (3 + k))) = rbj x (k + 1)) := rbj_succ x k hlt
      have HH4 : Hid (has (x (3 + k)) ((4 : Nat) : Int) = true) := hasW9 (by omega)
      generalize x (3 + k) = y at *
      obtain ⟨A, hA⟩ : ∃ A, 8 + 4 * k = A := ⟨_, rfl⟩
      have hA' : (8 : Int) + (k : Int) * 4 = (A : Int) := by omega
      rw [hA] at HS
      have hA9 : A + 4 ≤ 64 := by omega
      clear hA
      go_wp2_with (go_at_call 21; refine (put_in _ g 64 64 64 A 4 y _ HI.out.own (by rw [rbj_length]; omega) (by omega) (HT.out.on HI.out.bel) (by omega) rfl HH4.out (by omega)).mono ?_; rintro e w6 ⟨rfl, h1, h2⟩; have E6 : Hid (EncI w P g x w6 (rbj x (k + 1))) := HI.out.put (by rw [← HS.out]; exact h1) h2; clear h1 h2 HI)
      exact ⟨⟨k + 1, hlt, rfl, E6.out⟩, by simp [intOf]; omega⟩
    · obtain rfl : k = 12 := by omega
      go_wp2
      go_ret2
      have h := HI.out
      rw [rbj_all] at h
      have := h.lo
      have := h.far
      exact ⟨g, rfl, by omega, h.own, h.bel⟩
end Go.Proofs.YtdheojhfgeabhaaDoor
