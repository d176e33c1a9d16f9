import Derived.Test.YtlgjkmfekkegbaaBtA
namespace Go.Proofs.Ytlgjkmfekkegbaa
open Go.RowKit Rec

/-- Count -/
theorem count_yes (w : World) (a : Option Addr) (n c f k : Nat) (l : List Int) (hb : Bytes w a l) (hn : l.length = n) (hk : f + k ≤ 8 * n) : Calls Try.prog 10 #[.slice a n c, .int .i64 (f : Int), .int .i64 ((f + k : Nat) : Int)] w fun e w' => e = .returned (.tuple #[.int .i64 (cn l f k), .int .i64 0]) ∧ ∃ m, w' = w.drewN m := by
  have hn' : n ≤ 1000000000000000 := by rw [← hn]; exact hb.len
  have HB : Hid (Bytes w a l ∧ l.length = n) := ⟨hb, hn⟩
  clear hb hn
  obtain ⟨t, ht⟩ : ∃ t, f + k = t := ⟨_, rfl⟩
  rw [ht] at hk ⊢
  have h1 : ¬ ((f : Int) < 0) := by omega
  have h2 : decide (8 * (n : Int) < (t : Int)) = false := by simp; omega
  have h3 : decide (t < f) = false := by simp; omega
  have HT : Hid (f + k = t) := ht
  clear ht
  go_enter Try.func10, Try.ntmps10
  go_wp2_with (go_at_call 22; refine (length_any _ _ n c hn').mono ?_; rintro e w' ⟨rfl, rfl⟩)
  go_loopw [8, 9] (fun s8 s9 wr => ∃ (j : Nat) (q : Int), s9 = .int .i64 ((f + j : Nat) : Int) ∧ s8 = .int .i64 q ∧ q = cn l f j ∧ f + j ≤ t ∧ ∃ m, wr = w.drewN m) (fun _ s _ => t - (intOf s).toNat)
  case atStart => exact ⟨0, 0, rfl, rfl, rfl, by have := HT.out; omega, 0, rfl⟩
  case round =>
    obtain ⟨j, q, rfl, rfl, hq, hj, m, rfl⟩ := hrel
    have hqb := cn_bd l f j
    rw [← hq] at hqb
    have HQ : Hid (q = cn l f j) := hq
    clear hq
    obtain ⟨z, hz⟩ : ∃ z, f + j = z := ⟨_, rfl⟩
    rw [hz] at hj ⊢
    have HZ : Hid (f + j = z) := hz
    have hqz : q ≤ (z : Int) := by omega
    clear hz
    by_cases hlt : z < t
    · have hlt' : (z : Int) < (t : Int) := by omega
      obtain ⟨p, rfl⟩ : ∃ p, a = some p := by
        cases a with
        | some p => exact ⟨p, rfl⟩
        | none => have := HB.out.1.nil; have h2 := HB.out.2; rw [this] at h2; simp at h2; omega
      rcases hbit : bt l z with _ | _
      · go_wp2_with (go_at_call 21; refine (isOn_any _ p n c z l (HB.out.1.drewN m) HB.out.2 (by omega)).mono ?_; rw [hbit]; rintro e w' ⟨rfl, m2, rfl⟩)
        go_round
        case rel => exact ⟨j + 1, q, by have := HZ.out; go_num, rfl, by have := (bt_not l z).1 hbit; rw [cn, HZ.out, this, ← HQ.out]; omega, by have := HZ.out; omega, m + m2, rfl⟩
        case measure => have := HZ.out; simp [intOf]; omega
      · go_wp2_with (go_at_call 21; refine (isOn_any _ p n c z l (HB.out.1.drewN m) HB.out.2 (by omega)).mono ?_; rw [hbit]; rintro e w' ⟨rfl, m2, rfl⟩)
        go_round
        case rel => exact ⟨j + 1, q + 1, by have := HZ.out; go_num, by go_num, by have := (bt_iff l z).1 hbit; rw [cn, HZ.out, this, ← HQ.out], by have := HZ.out; omega, m + m2, rfl⟩
        case measure => have := HZ.out; simp [intOf]; omega
    · have hlt' : ¬ (z : Int) < (t : Int) := by omega
      go_wp2
      go_ret2
      refine ⟨?_, m, rfl⟩
      have e : j = k := by have := HZ.out; have := HT.out; omega
      subst e
      rw [← HQ.out]; rfl
theorem count_no (w : World) (a : Option Addr) (n c : Nat) (f t : Int) (hn : n ≤ 1000000000000000) (hk : ¬ (0 ≤ f ∧ t ≤ (8 * n : Nat) ∧ f ≤ t)) : Calls Try.prog 10 #[.slice a n c, .int .i64 f, .int .i64 t] w fun e w' => e = .returned (.tuple #[.int .i64 0, .int .i64 80]) ∧ w = w' := by
  go_enter Try.func10, Try.ntmps10
  by_cases h0 : f < 0
  · clear hk
    go_wp2
    go_ret2
    exact ⟨rfl, rfl⟩
  · by_cases h1 : ((8 * n : Nat) : Int) < t
    · clear hk
      go_wp2_with (go_at_call 22; refine (length_any _ _ n c hn).mono ?_; rintro e w' ⟨rfl, rfl⟩)
      go_ret2
      exact ⟨rfl, rfl⟩
    · have h2 : t < f := by omega
      clear hk
      go_wp2_with (go_at_call 22; refine (length_any _ _ n c hn).mono ?_; rintro e w' ⟨rfl, rfl⟩)
      go_ret2
      exact ⟨rfl, rfl⟩
theorem put_no (w : World) (a : Option Addr) (n c : Nat) (i : Int) (on : Bool) (hn : n ≤ 1000000000000000) (hi : ¬ (0 ≤ i ∧ i < (8 * n : Nat))) : Calls Try.prog 13 #[.slice a n c, .int .i64 i, .bool on] w fun e w' => e = .returned (.int .i64 80) ∧ w = w' := by
  have hd : decide (0 ≤ i ∧ i < ((8 * n : Nat) : Int)) = false := decide_eq_false hi
  clear hi
  go_enter Try.func13, Try.ntmps13
  go_wp2_with (go_at_call 23; refine (isBit_any _ _ n c i hn).mono ?_; rw [hd]; rintro e w' ⟨rfl, rfl⟩)
  go_ret
  exact ⟨rfl, rfl⟩
/-- Put: at an owned row's beginning -/
theorem put_raw (w : World) (g n c i : Nat) (x : Int) (on : Bool) (hc : w.cell? ⟨g, i / 8, none⟩ = some (.int .u8 x)) (hf : w.frozen? ⟨g, i / 8, none⟩ = false) (hx : 0 ≤ x ∧ x < 256) (hn : n ≤ 1000000000000000) (hi : i < 8 * n) : Calls Try.prog 13 #[.slice (some ⟨g, 0, none⟩) n c, .int .i64 (i : Int), .bool on] w fun e w' => e = .returned (.int .i64 0) ∧ ∃ m, w' = (w.setCell ⟨g, i / 8, none⟩ (.int .u8 (byt x (i % 8) on))).drewN m := by
  have hd : decide ((0 : Int) ≤ (i : Int) ∧ (i : Int) < ((8 * n : Nat) : Int)) = true := by simp; omega
  obtain ⟨q, hq⟩ : ∃ q, i / 8 = q := ⟨_, rfl⟩
  rw [hq] at hc hf ⊢
  have hqi : (i : Int) / 8 = (q : Int) := by omega
  have hqn : q < n := by omega
  have hqn' : (q : Int) < (n : Int) := by omega
  have hwr : IntKind.i64.wrap (q : Int) = (q : Int) := by rw [IntKind.wrap_i64]; omega
  have hb1 := (bits_u8 x (i % 8) hx (by omega)).2
  go_enter Try.func13, Try.ntmps13
  cases on with
  | true =>
    go_upto_region 4 with (go_at_call 23; refine (isBit_any _ _ n c i hn).mono ?_; rw [hd]; rintro e w' ⟨rfl, rfl⟩)
    go_region_with (go_at_call 24; refine (mask_any _ i (by omega)).mono ?_; rintro e w' ⟨rfl, rfl⟩)
    all_goals (try go_wp2)
    all_goals (go_ret; exact ⟨rfl, 1, rfl⟩)
  | false =>
    go_upto_region 5 with (go_at_call 23; refine (isBit_any _ _ n c i hn).mono ?_; rw [hd]; rintro e w' ⟨rfl, rfl⟩)
    go_region_with (go_at_call 24; refine (mask_any _ i (by omega)).mono ?_; rintro e w' ⟨rfl, rfl⟩)
    all_goals (try go_wp2)
    all_goals (go_ret; exact ⟨rfl, 1, rfl⟩)
end Go.Proofs.Ytlgjkmfekkegbaa
