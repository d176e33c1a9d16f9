import Derived.Test.YtlgjkmfekkegbaaZero
import Derived.Test.YtlgjkmfekkegbaaBtM
import Derived.Deep.DeepCutAuto
import Derived.BigRegion
namespace Go.Proofs.Ytlgjkmfekkegbaa
open Go.RowKit Rec

theorem length_any (w : World) (a : Option Addr) (n c : Nat) (hn : n ≤ 1000000000000000) : Calls Try.prog 22 #[.slice a n c] w fun e w' => e = .returned (.int .i64 ((8 * n : Nat) : Int)) ∧ w = w' := by
  go_enter Try.func22, Try.ntmps22
  go_wp2
  go_ret
  exact ⟨by go_num, rfl⟩
theorem pow_256 (n : Nat) : ((2 : Int) ^ (n % 8)) % 256 = 2 ^ (n % 8) := by
  rcases pow2 (n % 8) (by omega) with e | e | e | e | e | e | e | e <;> rw [e] <;> rfl
theorem mask_any (w : World) (n : Nat) (hn : n ≤ 9000000000000000000) : Calls Try.prog 24 #[.int .i64 (n : Int)] w fun e w' => e = .returned (.int .u8 (2 ^ (n % 8))) ∧ w = w' := by
  go_enter Try.func24, Try.ntmps24
  go_wp2
  go_ret
  refine ⟨?_, rfl⟩
  have := pow_256 n
  simp [this]
theorem isBit_any (w : World) (a : Option Addr) (n c : Nat) (i : Int) (hn : n ≤ 1000000000000000) : Calls Try.prog 23 #[.slice a n c, .int .i64 i] w fun e w' => e = .returned (.bool (decide (0 ≤ i ∧ i < (8 * n : Nat)))) ∧ w = w' := by
  go_enter Try.func23, Try.ntmps23
  by_cases h0 : 0 ≤ i
  · go_wp2_with (go_at_call 22; refine (length_any _ a n c hn).mono ?_; rintro e w' ⟨rfl, rfl⟩)
    go_ret
    simp [h0]
  · have h0' : i < 0 := by omega
    go_wp2
    go_ret
    simp; omega
theorem bits_u8 (x : Int) (k : Nat) (hx : 0 ≤ x ∧ x < 256) (hk : k < 8) : bits .and .u8 x (2 ^ k) = x / 2 ^ k % 2 * 2 ^ k ∧ bits .or .u8 x (2 ^ k) = byt x k true ∧ bits .andNot .u8 x (2 ^ k) = byt x k false := by
  have H : ∀ k, k < 8 → ∀ x, x < 256 → bits .and .u8 ((x : Nat) : Int) (2 ^ k) = ((x : Nat) : Int) / 2 ^ k % 2 * 2 ^ k ∧ bits .or .u8 (x : Nat) (2 ^ k) = byt (x : Nat) k true ∧ bits .andNot .u8 (x : Nat) (2 ^ k) = byt (x : Nat) k false := by decide +kernel
  obtain ⟨n, rfl⟩ := Int.eq_ofNat_of_zero_le hx.1
  exact H k hk n (by omega)
theorem on_is (x : Int) (k : Nat) (hx : 0 ≤ x ∧ x < 256) (hk : k < 8) : (bits .and .u8 x (2 ^ k) != 0) = (x / 2 ^ k % 2 == 1) := by
  rw [(bits_u8 x k hx hk).1]
  have h1 : x / 2 ^ k % 2 = 0 ∨ x / 2 ^ k % 2 = 1 := by omega
  rcases h1 with e | e
  · rw [e, Int.zero_mul]; rfl
  · rw [e]
    rcases pow2 k hk with e | e | e | e | e | e | e | e <;> rw [e] <;> rfl
theorem isOn_any (w : World) (a : Addr) (n c i : Nat) (l : List Int) (hb : Bytes w (some a) l) (hn : l.length = n) (hi : i < 8 * n) : Calls Try.prog 21 #[.slice (some a) n c, .int .i64 (i : Int)] w fun e w' => e = .returned (.bool (bt l i)) ∧ ∃ m, w' = w.drewN m := by
  obtain ⟨b, off, rfl, hc⟩ : ∃ b off, a = ⟨b, off, none⟩ ∧ w.cell? ⟨b, off + i / 8, none⟩ = some (.int .u8 (nth l (i / 8))) := by
    rcases hb.at_ with e | ⟨b, off, e, hc⟩
    · subst e; simp at hn; omega
    · cases e; exact ⟨b, off, rfl, hc _ (by omega)⟩
  have hx := hb.wf (i / 8)
  have hlen := hb.len
  obtain ⟨x, hxe⟩ : ∃ x, nth l (i / 8) = x := ⟨_, rfl⟩
  rw [hxe] at hc hx
  have HB : Hid (nth l (i / 8) = x ∧ l.length ≤ 1000000000000000) := ⟨hxe, hlen⟩
  have hn' : n ≤ 1000000000000000 := by omega
  clear hb hn hxe hlen
  obtain ⟨q, hq⟩ : ∃ q, i / 8 = q := ⟨_, rfl⟩
  have hqi : (i : Int) / 8 = (q : Int) := by omega
  rw [hq] at hc
  have hqn : q < n := by omega
  have hqn' : (q : Int) < (n : Int) := by omega
  have hwr : IntKind.i64.wrap (q : Int) = (q : Int) := by have := HB.out.2; have := hn'; rw [IntKind.wrap_i64]; omega
  go_enter Try.func21, Try.ntmps21
  go_upto_region 1 with (fail)
  go_quiet (first | (go_at_call 24; refine Calls.quiet_of_same ((mask_any _ i (by omega)).mono (fun e w' h => ⟨h.1, h.2.symm⟩))))
  (try go_wp2)
  go_ret
  refine ⟨?_, nq, rfl⟩
  show Ending.returned (Value.bool (bits BinOp.and IntKind.u8 x (2 ^ (i % 8)) != 0)) = _
  rw [on_is x (i % 8) hx (by omega), ← HB.out.1]
  rfl
theorem drewN_below (w : World) (n : Nat) : Below w.heap.size w (w.drewN n) := ⟨rfl, rfl, rfl, Nat.le_refl _, fun _ _ => rfl⟩
theorem Bytes.drewN {w : World} {a : Option Addr} {l : List Int} (h : Bytes w a l) (m : Nat) : Bytes (w.drewN m) a l := h.on (drewN_below _ _)
/-- Get -/
theorem get_yes (w : World) (a : Addr) (n c i : Nat) (l : List Int) (hb : Bytes w (some a) l) (hn : l.length = n) (hi : i < 8 * n) : Calls Try.prog 11 #[.slice (some a) n c, .int .i64 (i : Int)] w fun e w' => e = .returned (.tuple #[.bool (bt l i), .int .i64 0]) ∧ ∃ m, w' = w.drewN m := by
  have hn' : n ≤ 1000000000000000 := by rw [← hn]; exact hb.len
  have HB : Hid (Bytes w (some a) l ∧ l.length = n) := ⟨hb, hn⟩
  clear hb hn
  have hd : decide ((0 : Int) ≤ (i : Int) ∧ (i : Int) < ((8 * n : Nat) : Int)) = true := by simp; omega
  go_enter Try.func11, Try.ntmps11
  go_wp2_with (first
    | (go_at_call 23; refine (isBit_any _ _ n c i hn').mono ?_; rw [hd]; rintro e w' ⟨rfl, rfl⟩)
    | (go_at_call 21; refine (isOn_any _ a n c i l HB.out.1 HB.out.2 hi).mono ?_; rintro e w' ⟨rfl, m, rfl⟩))
  go_ret2
  exact ⟨rfl, _, rfl⟩
theorem get_no (w : World) (a : Option Addr) (n c : Nat) (i : Int) (hn : n ≤ 1000000000000000) (hi : ¬ (0 ≤ i ∧ i < (8 * n : Nat))) : Calls Try.prog 11 #[.slice a n c, .int .i64 i] w fun e w' => e = .returned (.tuple #[.bool false, .int .i64 80]) ∧ w = w' := by
  have hd : decide (0 ≤ i ∧ i < ((8 * n : Nat) : Int)) = false := decide_eq_false hi
  clear hi
  go_enter Try.func11, Try.ntmps11
  go_wp2_with (go_at_call 23; refine (isBit_any _ _ n c i hn).mono ?_; rw [hd]; rintro e w' ⟨rfl, rfl⟩)
  go_ret2
  exact ⟨rfl, rfl⟩
/-- Lowest -/
theorem low_any (w : World) (a : Option Addr) (n c : Nat) (i : Int) (l : List Int) (hb : Bytes w a l) (hn : l.length = n) (hi : i ≤ 9223372036854775807) : Calls Try.prog 12 #[.slice a n c, .int .i64 i] w fun e w' => e = .returned (.int .i64 (low l i.toNat)) ∧ ∃ m, w' = w.drewN m := by
  have hn' : n ≤ 1000000000000000 := by rw [← hn]; exact hb.len
  have HB : Hid (Bytes w a l ∧ l.length = n) := ⟨hb, hn⟩
  clear hb hn
  go_enter Try.func12, Try.ntmps12
  by_cases h0 : i < 0
  · have h1 : ¬ (0 ≤ i) := by omega
    go_wp2
    go_loopw [5] (fun s wr => ∃ j : Nat, s = .int .i64 (j : Int) ∧ i.toNat ≤ j ∧ (j : Int) ≤ 9223372036854775807 ∧ low l i.toNat = low l j ∧ ∃ m, wr = w.drewN m) (fun s _ => 8 * n - (intOf s).toNat)
    case atStart =>
      refine ⟨i.toNat, ?_, Nat.le_refl _, by omega, rfl, 0, rfl⟩
      congr 1
      omega
    case round =>
      obtain ⟨j, rfl, hij, hj, hl, m, rfl⟩ := hrel
      have HL : Hid (low l i.toNat = low l j) := hl
      clear hl
      by_cases hlt : j < 8 * n
      · have hlt' : (j : Int) < ((8 * n : Nat) : Int) := by omega
        obtain ⟨p, rfl⟩ : ∃ p, a = some p := by
          cases a with
          | some p => exact ⟨p, rfl⟩
          | none => have := HB.out.1.nil; have h2 := HB.out.2; rw [this] at h2; simp at h2; omega
        rcases hbit : bt l j with _ | _
        · go_wp2_with (first
            | (go_at_call 22; refine (length_any _ _ n c hn').mono ?_; rintro e w' ⟨rfl, rfl⟩)
            | (go_at_call 21; refine (isOn_any _ p n c j l (HB.out.1.drewN m) HB.out.2 hlt).mono ?_; rw [hbit]; rintro e w' ⟨rfl, m2, rfl⟩))
          go_ret
          refine ⟨?_, m + m2, rfl⟩
          rw [HL.out, low_here ((bt_not l j).1 hbit) (by rw [HB.out.2]; exact hlt)]
          rfl
        · go_wp2_with (first
            | (go_at_call 22; refine (length_any _ _ n c hn').mono ?_; rintro e w' ⟨rfl, rfl⟩)
            | (go_at_call 21; refine (isOn_any _ p n c j l (HB.out.1.drewN m) HB.out.2 hlt).mono ?_; rw [hbit]; rintro e w' ⟨rfl, m2, rfl⟩))
          go_round
          case rel => exact ⟨j + 1, by go_num, by omega, by omega, by rw [HL.out]; exact low_step ((bt_iff l j).1 hbit), m + m2, rfl⟩
          case measure => simp [intOf]; omega
      · have hlt' : ¬ (j : Int) < ((8 * n : Nat) : Int) := by omega
        go_wp2_with (go_at_call 22; refine (length_any _ _ n c hn').mono ?_; rintro e w' ⟨rfl, rfl⟩)
        go_ret
        refine ⟨?_, m, rfl⟩
        rw [HL.out, low_end (by rw [HB.out.2]; omega)]
        rfl
  · have h1 : 0 ≤ i := by omega
    go_wp2
    go_loopw [5] (fun s wr => ∃ j : Nat, s = .int .i64 (j : Int) ∧ i.toNat ≤ j ∧ (j : Int) ≤ 9223372036854775807 ∧ low l i.toNat = low l j ∧ ∃ m, wr = w.drewN m) (fun s _ => 8 * n - (intOf s).toNat)
    case atStart =>
      refine ⟨i.toNat, ?_, Nat.le_refl _, by omega, rfl, 0, rfl⟩
      congr 1
      omega
    case round =>
      obtain ⟨j, rfl, hij, hj, hl, m, rfl⟩ := hrel
      have HL : Hid (low l i.toNat = low l j) := hl
      clear hl
      by_cases hlt : j < 8 * n
      · have hlt' : (j : Int) < ((8 * n : Nat) : Int) := by omega
        obtain ⟨p, rfl⟩ : ∃ p, a = some p := by
          cases a with
          | some p => exact ⟨p, rfl⟩
          | none => have := HB.out.1.nil; have h2 := HB.out.2; rw [this] at h2; simp at h2; omega
        rcases hbit : bt l j with _ | _
        · go_wp2_with (first
            | (go_at_call 22; refine (length_any _ _ n c hn').mono ?_; rintro e w' ⟨rfl, rfl⟩)
            | (go_at_call 21; refine (isOn_any _ p n c j l (HB.out.1.drewN m) HB.out.2 hlt).mono ?_; rw [hbit]; rintro e w' ⟨rfl, m2, rfl⟩))
          go_ret
          refine ⟨?_, m + m2, rfl⟩
          rw [HL.out, low_here ((bt_not l j).1 hbit) (by rw [HB.out.2]; exact hlt)]
          rfl
        · go_wp2_with (first
            | (go_at_call 22; refine (length_any _ _ n c hn').mono ?_; rintro e w' ⟨rfl, rfl⟩)
            | (go_at_call 21; refine (isOn_any _ p n c j l (HB.out.1.drewN m) HB.out.2 hlt).mono ?_; rw [hbit]; rintro e w' ⟨rfl, m2, rfl⟩))
          go_round
          case rel => exact ⟨j + 1, by go_num, by omega, by omega, by rw [HL.out]; exact low_step ((bt_iff l j).1 hbit), m + m2, rfl⟩
          case measure => simp [intOf]; omega
      · have hlt' : ¬ (j : Int) < ((8 * n : Nat) : Int) := by omega
        go_wp2_with (go_at_call 22; refine (length_any _ _ n c hn').mono ?_; rintro e w' ⟨rfl, rfl⟩)
        go_ret
        refine ⟨?_, m, rfl⟩
        rw [HL.out, low_end (by rw [HB.out.2]; omega)]
        rfl
end Go.Proofs.Ytlgjkmfekkegbaa
