import Derived.Test.YtklgjagkgfbcfaaDoorRefA
namespace Go.Proofs.YtklgjagkgfbcfaaDoor
open Go.RowKit Rec

set_option maxRecDepth 100000 in
set_option maxHeartbeats 800000 in
theorem rget_in (w : World) (g cap n c A W : Nat) (l r : List Int) (hn : l.length = n) (hO : OwnB w g cap (l ++ r)) (_hc : n ≤ c) (hw : isW W = true) (hA : A + W ≤ n) :
    Calls Tryd.prog 23 #[.slice (some ⟨g, 0, none⟩) n c, .int .i64 A, .int .i64 W] w fun e w' => e = .returned (.tuple #[.int .u64 (num l A W), .int .i64 0]) ∧ Below w.heap.size w w' := by
  have hlen := hO.len
  rw [List.length_append, hn] at hlen
  have hWc := isW_cases hw
  have HW : Hid (isW W = true) := hw
  have HC : Hid (∀ wr : World, Below w.heap.size w wr → ∀ i, i < n → wr.cell? ⟨g, i, none⟩ = some (.int .u8 (nth l i))) := fun wr hb i hi => by
    rw [(hO.on hb).cell i (by rw [List.length_append]; omega)]
    simp [nth, List.getD, List.getElem?_append, hn, hi]
  have HF : Hid (∀ i, 0 ≤ nth l i ∧ nth l i < 256) := hO.wf_left
  have hl : Hid (lies n A W = true) := by unfold lies; exact decide_eq_true (by omega)
  clear hO hw hn
  have hW1 : 1 ≤ W ∧ W ≤ 8 := by omega
  clear hWc
  go_enter Tryd.func23, Tryd.ntmps23
  go_wp2_with (go_at_call 30; refine (rwidth _ _).mono ?_; rintro e w' ⟨rfl, rfl⟩; rw [HW.out])
  go_wp2_with (go_at_call 27; refine (rlie _ _ _ _ (by omega) (by omega) (by omega)).mono ?_; rintro e w' ⟨rfl, rfl⟩; rw [hl.out])
  rename World => w0
  go_loopw [8, 9] (fun v i wr => ∃ k : Nat, k ≤ W ∧ i = .int .i64 k ∧ v = .int .u64 (num l A k) ∧ Below w0.heap.size w0 wr) (fun _ i _ => W - (intOf i).toNat)
  case atStart => exact ⟨0, Nat.zero_le _, rfl, rfl, Below.refl _ _⟩
  case round =>
    obtain ⟨k, hk, rfl, rfl, hb⟩ := hrel
    have HB : Hid (Below w0.heap.size w0 wr) := hb
    clear hb
    by_cases hlt : k < W
    · have d := HC.out wr HB.out (A + k) (by omega)
      have cb := HF.out (A + k)
      have nb := num_bd l A k HF.out
      have nb1 := num_bd l A (k + 1) HF.out
      have HS : Hid (num l A (k + 1) = num l A k + nth l (A + k) * 256 ^ k) := rfl
      have p0 := pow_pos k
      have p1 := pow_le7 k (by omega)
      have m0 : 0 ≤ nth l (A + k) * 256 ^ k := Int.mul_nonneg cb.1 (Int.le_of_lt p0)
      have m1 : nth l (A + k) * 256 ^ k ≤ 255 * 256 ^ k := Int.mul_le_mul_of_nonneg_right (by omega) (Int.le_of_lt p0)
      have HP : Hid (∀ wx, Calls Tryd.prog 31 #[.int .i64 k] wx fun e w' => e = .returned (.int .u64 (256 ^ k)) ∧ w' = wx) := fun wx => rpower wx k (by omega)
      clear nb1
      go_wp2
      go_quiet ((go_at_call 31; exact Calls.quiet_of_same (HP.out _)))
      go_wp2
      exact ⟨⟨k + 1, by omega, by go_num, rfl, below_drewN HB.out _⟩, by simp [intOf]; omega⟩
    · go_wp2
      obtain rfl : k = W := by omega
      go_ret2
      exact ⟨rfl, HB.out⟩
set_option maxRecDepth 100000 in
set_option maxHeartbeats 800000 in
theorem rget_no (w : World) (a : Option Addr) (n c : Nat) (at_ W : Int) (hw : isW W = false) :
    Calls Tryd.prog 23 #[.slice a n c, .int .i64 at_, .int .i64 W] w fun e w' => e = .returned (.tuple #[.int .u64 0, .int .i64 1]) ∧ w' = w := by
  have HW : Hid (isW W = false) := hw
  clear hw
  go_enter Tryd.func23, Tryd.ntmps23
  go_wp2_with (go_at_call 30; refine (rwidth _ _).mono ?_; rintro e w' ⟨rfl, rfl⟩; rw [HW.out])
  go_ret2
  exact ⟨rfl, rfl⟩
set_option maxRecDepth 100000 in
set_option maxHeartbeats 800000 in
theorem rget_out (w : World) (a : Option Addr) (n c : Nat) (at_ W : Int) (hn : n ≤ 1000000000000000) (hw : isW W = true) (hl : lies n at_ W = false) :
    Calls Tryd.prog 23 #[.slice a n c, .int .i64 at_, .int .i64 W] w fun e w' => e = .returned (.tuple #[.int .u64 0, .int .i64 20]) ∧ w' = w := by
  have hc := isW_cases hw
  have HW : Hid (isW W = true) := hw
  have HL : Hid (lies n at_ W = false) := hl
  clear hw hl
  go_enter Tryd.func23, Tryd.ntmps23
  go_wp2_with (go_at_call 30; refine (rwidth _ _).mono ?_; rintro e w' ⟨rfl, rfl⟩; rw [HW.out])
  go_wp2_with (go_at_call 27; refine (rlie _ _ _ _ (by omega) (by omega) (by omega)).mono ?_; rintro e w' ⟨rfl, rfl⟩; rw [HL.out])
  go_ret2
  exact ⟨rfl, rfl⟩
/-- boleref02.Get -/
theorem rget_any (w : World) (g cap n c : Nat) (at_ W : Int) (l r : List Int) (hn : l.length = n) (hO : OwnB w g cap (l ++ r)) (hc : n ≤ c) :
    Calls Tryd.prog 23 #[.slice (some ⟨g, 0, none⟩) n c, .int .i64 at_, .int .i64 W] w fun e w' => e = .returned (.tuple #[.int .u64 (getV l at_ W), .int .i64 (getE l at_ W)]) ∧ Below w.heap.size w w' := by
  have hlen := hO.len
  rw [List.length_append, hn] at hlen
  unfold getV getE
  rw [hn]
  cases hw : isW W with
  | false => exact (rget_no w _ n c at_ W hw).mono fun e w' h => ⟨h.1, h.2 ▸ Below.refl _ _⟩
  | true =>
    cases hl : lies n at_ W with
    | false => exact (rget_out w _ n c at_ W (by omega) hw hl).mono fun e w' h => ⟨h.1, h.2 ▸ Below.refl _ _⟩
    | true =>
      have h2 := of_decide_eq_true hl
      have h3 := isW_cases hw
      obtain ⟨A, rfl⟩ := Int.eq_ofNat_of_zero_le h2.1
      obtain ⟨V, rfl⟩ := Int.eq_ofNat_of_zero_le (show 0 ≤ W by omega)
      exact rget_in w g cap n c A V l r hn hO hc hw (by omega)

set_option maxRecDepth 100000 in
set_option maxHeartbeats 1000000 in
theorem rput_in (w : World) (g cap n c A W : Nat) (v : Int) (L : List Int) (hO : OwnB w g cap L) (hn : n ≤ L.length) (_hc : n ≤ c) (hv : 0 ≤ v ∧ v < 18446744073709551616) (hw : isW W = true) (hh : has v W = true) (hA : A + W ≤ n) :
    Calls Tryd.prog 24 #[.slice (some ⟨g, 0, none⟩) n c, .int .i64 A, .int .i64 W, .int .u64 v] w fun e w' => e = .returned (.int .i64 0) ∧ OwnB w' g cap (ov L A W (dig v)) ∧ w.grownBy w' (some g) := by
  have hlen := hO.len
  have hWc := isW_cases hw
  have HW : Hid (isW W = true) := hw
  have HH : Hid (has v W = true) := hh
  have HO : Hid (OwnB w g cap L) := hO
  have hl : Hid (lies n A W = true) := by unfold lies; exact decide_eq_true (by omega)
  clear hO hw hh
  have hW1 : 1 ≤ W ∧ W ≤ 8 := by omega
  clear hWc
  go_enter Tryd.func24, Tryd.ntmps24
  go_wp2_with (go_at_call 30; refine (rwidth _ _).mono ?_; rintro e w' ⟨rfl, rfl⟩; rw [HW.out])
  go_wp2_with (go_at_call 32; refine (rhas _ _ _ HW.out hv.1 hv.2).mono ?_; rintro e w' ⟨rfl, rfl⟩; rw [HH.out])
  go_wp2_with (go_at_call 27; refine (rlie _ _ _ _ (by omega) (by omega) (by omega)).mono ?_; rintro e w' ⟨rfl, rfl⟩; rw [hl.out])
  rename World => w0
  go_loopw [9] (fun i wr => ∃ k : Nat, k ≤ W ∧ i = .int .i64 k ∧ OwnB wr g cap (ov L A k (dig v)) ∧ w0.grownBy wr (some g)) (fun i _ => W - (intOf i).toNat)
  case atStart => exact ⟨0, Nat.zero_le _, rfl, by rw [ov_zero]; exact HO.out, grown_refl _ _⟩
  case round =>
    obtain ⟨k, hk, rfl, how, hgr⟩ := hrel
    have HP : Hid (OwnB wr g cap (ov L A k (dig v))) := how
    have HG : Hid (w0.grownBy wr (some g)) := hgr
    clear how hgr
    by_cases hlt : k < W
    · have d := HP.out.cell (A + k) (by rw [ov_length]; omega)
      have f := HP.out.frozen (A + k)
      have HQ : Hid (OwnB (wr.setCell ⟨g, A + k, none⟩ (.int .u8 (v / 256 ^ k % 256))) g cap (ov L A (k + 1) (dig v))) := HP.out.ovs (by omega) (dig_bd v k)
      have hdb : 0 ≤ v / 256 ^ k % 256 ∧ v / 256 ^ k % 256 < 256 := dig_bd v k
      have p0 := pow_pos k
      have q0 : 0 ≤ v / 256 ^ k := Int.ediv_nonneg hv.1 (Int.le_of_lt p0)
      have q1 : v / 256 ^ k ≤ v := Int.ediv_le_self _ hv.1
      have pne : ¬ (256 : Int) ^ k = 0 := Int.ne_of_gt p0
      clear HP
      go_wp2_with (go_at_call 31; refine (rpower _ k (by omega)).mono ?_; rintro e w' ⟨rfl, rfl⟩)
      exact ⟨⟨k + 1, by omega, by go_num, HQ.out, grown_trans HG.out grown_set⟩, by simp [intOf]; omega⟩
    · go_wp2
      obtain rfl : k = W := by omega
      go_ret
      exact ⟨rfl, HP.out, HG.out⟩
set_option maxRecDepth 100000 in
set_option maxHeartbeats 800000 in
theorem rput_no (w : World) (a : Option Addr) (n c : Nat) (at_ W v : Int) (hv : 0 ≤ v ∧ v < 18446744073709551616) (hw : (isW W && has v W) = false) :
    Calls Tryd.prog 24 #[.slice a n c, .int .i64 at_, .int .i64 W, .int .u64 v] w fun e w' => e = .returned (.int .i64 1) ∧ w' = w := by
  cases h : isW W with
  | false =>
    have HW : Hid (isW W = false) := h
    clear hw h
    go_enter Tryd.func24, Tryd.ntmps24
    go_wp2_with (go_at_call 30; refine (rwidth _ _).mono ?_; rintro e w' ⟨rfl, rfl⟩; rw [HW.out])
    go_ret
    exact ⟨rfl, rfl⟩
  | true =>
    rw [h, Bool.true_and] at hw
    have HW : Hid (isW W = true) := h
    have HH : Hid (has v W = false) := hw
    clear hw h
    go_enter Tryd.func24, Tryd.ntmps24
    go_wp2_with (go_at_call 30; refine (rwidth _ _).mono ?_; rintro e w' ⟨rfl, rfl⟩; rw [HW.out])
    go_wp2_with (go_at_call 32; refine (rhas _ _ _ HW.out hv.1 hv.2).mono ?_; rintro e w' ⟨rfl, rfl⟩; rw [HH.out])
    go_ret
    exact ⟨rfl, rfl⟩
set_option maxRecDepth 100000 in
set_option maxHeartbeats 800000 in
theorem rput_out (w : World) (a : Option Addr) (n c : Nat) (at_ W v : Int) (hn : n ≤ 1000000000000000) (hv : 0 ≤ v ∧ v < 18446744073709551616) (hw : isW W = true) (hh : has v W = true) (hl : lies n at_ W = false) :
    Calls Tryd.prog 24 #[.slice a n c, .int .i64 at_, .int .i64 W, .int .u64 v] w fun e w' => e = .returned (.int .i64 20) ∧ w' = w := by
  have hc := isW_cases hw
  have HW : Hid (isW W = true) := hw
  have HH : Hid (has v W = true) := hh
  have HL : Hid (lies n at_ W = false) := hl
  clear hw hl hh
  go_enter Tryd.func24, Tryd.ntmps24
  go_wp2_with (go_at_call 30; refine (rwidth _ _).mono ?_; rintro e w' ⟨rfl, rfl⟩; rw [HW.out])
  go_wp2_with (go_at_call 32; refine (rhas _ _ _ HW.out hv.1 hv.2).mono ?_; rintro e w' ⟨rfl, rfl⟩; rw [HH.out])
  go_wp2_with (go_at_call 27; refine (rlie _ _ _ _ (by omega) (by omega) (by omega)).mono ?_; rintro e w' ⟨rfl, rfl⟩; rw [HL.out])
  go_ret
  exact ⟨rfl, rfl⟩
/-- boleref02.Put -/
theorem rput_any (w : World) (g cap n c : Nat) (at_ W v : Int) (l r : List Int) (hn : l.length = n) (hO : OwnB w g cap (l ++ r)) (hc : n ≤ c) (hv : 0 ≤ v ∧ v < 18446744073709551616) :
    Calls Tryd.prog 24 #[.slice (some ⟨g, 0, none⟩) n c, .int .i64 at_, .int .i64 W, .int .u64 v] w fun e w' => e = .returned (.int .i64 (putE l at_ W v)) ∧ OwnB w' g cap (putL l at_ W v ++ r) ∧ w.grownBy w' (some g) := by
  have hlen := hO.len
  rw [List.length_append, hn] at hlen
  unfold putL putE
  rw [hn]
  cases hw : (isW W && has v W) with
  | false =>
    refine (rput_no w _ n c at_ W v hv hw).mono ?_
    rintro e w' ⟨rfl, rfl⟩
    exact ⟨rfl, hO, grown_refl _ _⟩
  | true =>
    have hw1 : isW W = true := by simp at hw; exact hw.1
    have hw2 : has v W = true := by simp at hw; exact hw.2
    cases hl : lies n at_ W with
    | false =>
      refine (rput_out w _ n c at_ W v (by omega) hv hw1 hw2 hl).mono ?_
      rintro e w' ⟨rfl, rfl⟩
      exact ⟨rfl, hO, grown_refl _ _⟩
    | true =>
      have h2 := of_decide_eq_true hl
      have h3 := isW_cases hw1
      obtain ⟨A, rfl⟩ := Int.eq_ofNat_of_zero_le h2.1
      obtain ⟨V, rfl⟩ := Int.eq_ofNat_of_zero_le (show 0 ≤ W by omega)
      refine (rput_in w g cap n c A V v (l ++ r) hO (by rw [List.length_append]; omega) hc hv hw1 hw2 (by omega)).mono ?_
      rintro e w' ⟨rfl, h4, h5⟩
      refine ⟨rfl, ?_, h5⟩
      rw [ov_append _ _ _ _ _ (by omega)] at h4
      exact h4
end Go.Proofs.YtklgjagkgfbcfaaDoor
