import Derived.Test.YtpbpblpbjkegfaaKZero
import Derived.Test.YtpbpblpbjkegfaaBzM
import Derived.Deep.DeepCutAuto
import Derived.BigRegion
namespace Go.Proofs.Ytpbpblpbjkegfaa
open Go.RowKit Rec

theorem length_any (w : World) (a : Option Addr) (n c : Nat) (hn : n ≤ 1000000000000000) : Calls Try.prog 75 #[.slice a n c] w fun e w' => e = .returned (.int .i64 ((8 * n : Nat) : Int)) ∧ w = w' := by
  go_enter Try.func75, Try.ntmps75
  go_wp2
  go_ret
  exact ⟨by go_num, rfl⟩
theorem pow_256 (n : Nat) : ((2 : Int) ^ (n % 8)) % 256 = 2 ^ (n % 8) := by
  rcases pow2 (n % 8) (by omega) with e | e | e | e | e | e | e | e <;> rw [e] <;> rfl
theorem mask_any (w : World) (n : Nat) (hn : n ≤ 9000000000000000000) : Calls Try.prog 62 #[.int .i64 (n : Int)] w fun e w' => e = .returned (.int .u8 (2 ^ (n % 8))) ∧ w = w' := by
  go_enter Try.func62, Try.ntmps62
  go_wp2
  go_ret
  refine ⟨?_, rfl⟩
  have := pow_256 n
  simp [this]
theorem isBit_any (w : World) (a : Option Addr) (n c : Nat) (i : Int) (hn : n ≤ 1000000000000000) : Calls Try.prog 61 #[.slice a n c, .int .i64 i] w fun e w' => e = .returned (.bool (decide (0 ≤ i ∧ i < (8 * n : Nat)))) ∧ w = w' := by
  go_enter Try.func61, Try.ntmps61
  by_cases h0 : 0 ≤ i
  · go_wp2_with (go_at_call 75; refine (length_any _ a n c hn).mono ?_; rintro e w' ⟨rfl, rfl⟩)
    go_ret
    simp [h0]
  · have h0' : i < 0 := by omega
    go_wp2
    go_ret
    simp; omega
theorem bits_u8 (x : Int) (k : Nat) (hx : 0 ≤ x ∧ x < 256) (hk : k < 8) : bits .and .u8 x (2 ^ k) = x / 2 ^ k % 2 * 2 ^ k ∧ bits .or .u8 x (2 ^ k) = byt x k true ∧ bits .andNot .u8 x (2 ^ k) = byt x k false := by
  have H : ∀ k, k < 8 → ∀ x, x < 256 → bits .and .u8 ((x : Nat) : Int) (2 ^ k) = ((x : Nat) : Int) / 2 ^ k % 2 * 2 ^ k ∧ bits .or .u8 (x : Nat) (2 ^ k) = byt (x : Nat) k true ∧ bits .andNot .u8 (x : Nat) (2 ^ k) = byt (x : Nat) k false := by decide +kernel
  obtain ⟨n, rfl⟩ := Int.eq_ofNat_of_zero_le hx.1
  exact H k hk n (by omega)
theorem on_is (x : Int) (k : Nat) (hx : 0 ≤ x ∧ x < 256) (hk : k < 8) : (bits .and .u8 x (2 ^ k) != 0) = (x / 2 ^ k % 2 == 1) := by
  rw [(bits_u8 x k hx hk).1]
  have h1 : x / 2 ^ k % 2 = 0 ∨ x / 2 ^ k % 2 = 1 := by omega
  rcases h1 with e | e
  · rw [e, Int.zero_mul]; rfl
  · rw [e]
    rcases pow2 k hk with e | e | e | e | e | e | e | e <;> rw [e] <;> rfl
theorem isOn_any (w : World) (a : Addr) (n c i : Nat) (l : List Int) (hb : Bytes w (some a) l) (hn : l.length = n) (hi : i < 8 * n) : Calls Try.prog 60 #[.slice (some a) n c, .int .i64 (i : Int)] w fun e w' => e = .returned (.bool (bt l i)) ∧ ∃ m, w' = w.drewN m := by
  obtain ⟨b, off, rfl, hc⟩ : ∃ b off, a = ⟨b, off, none⟩ ∧ w.cell? ⟨b, off + i / 8, none⟩ = some (.int .u8 (nth l (i / 8))) := by
    rcases hb.at_ with e | ⟨b, off, e, hc⟩
    · subst e; simp at hn; omega
    · cases e; exact ⟨b, off, rfl, hc _ (by omega)⟩
  have hx := hb.wf (i / 8)
  have hlen := hb.len
  obtain ⟨x, hxe⟩ : ∃ x, nth l (i / 8) = x := ⟨_, rfl⟩
  rw [hxe] at hc hx
  have HB : Hid (nth l (i / 8) = x ∧ l.length ≤ 1000000000000000) := ⟨hxe, hlen⟩
  have hn' : n ≤ 1000000000000000 := by omega
  clear hb hn hxe hlen
  obtain ⟨q, hq⟩ : ∃ q, i / 8 = q := ⟨_, rfl⟩
  have hqi : (i : Int) / 8 = (q : Int) := by omega
  rw [hq] at hc
  have hqn : q < n := by omega
  have hqn' : (q : Int) < (n : Int) := by omega
  have hwr : IntKind.i64.wrap (q : Int) = (q : Int) := by have := HB.out.2; have := hn'; rw [IntKind.wrap_i64]; omega
  go_enter Try.func60, Try.ntmps60
  go_upto_region 1 with (fail)
  go_quiet (first | (go_at_call 62; refine Calls.quiet_of_same ((mask_any _ i (by omega)).mono (fun e w' h => ⟨h.1, h.2.symm⟩))))
  (try go_wp2)
  go_ret
  refine ⟨?_, nq, rfl⟩
  show Ending.returned (Value.bool (bits BinOp.and IntKind.u8 x (2 ^ (i % 8)) != 0)) = _
  rw [on_is x (i % 8) hx (by omega), ← HB.out.1]
  rfl
theorem drewN_below (w : World) (n : Nat) : Below w.heap.size w (w.drewN n) := ⟨rfl, rfl, rfl, Nat.le_refl _, fun _ _ => rfl⟩
theorem Bytes.drewN {w : World} {a : Option Addr} {l : List Int} (h : Bytes w a l) (m : Nat) : Bytes (w.drewN m) a l := h.on (drewN_below _ _)
/-- Get -/
theorem get_yes (w : World) (a : Addr) (n c i : Nat) (l : List Int) (hb : Bytes w (some a) l) (hn : l.length = n) (hi : i < 8 * n) : Calls Try.prog 53 #[.slice (some a) n c, .int .i64 (i : Int)] w fun e w' => e = .returned (.tuple #[.bool (bt l i), .int .i64 0]) ∧ ∃ m, w' = w.drewN m := by
  have hn' : n ≤ 1000000000000000 := by rw [← hn]; exact hb.len
  have HB : Hid (Bytes w (some a) l ∧ l.length = n) := ⟨hb, hn⟩
  clear hb hn
  have hd : decide ((0 : Int) ≤ (i : Int) ∧ (i : Int) < ((8 * n : Nat) : Int)) = true := by simp; omega
  go_enter Try.func53, Try.ntmps53
  go_wp2_with (first
    | (go_at_call 61; refine (isBit_any _ _ n c i hn').mono ?_; rw [hd]; rintro e w' ⟨rfl, rfl⟩)
    | (go_at_call 60; refine (isOn_any _ a n c i l HB.out.1 HB.out.2 hi).mono ?_; rintro e w' ⟨rfl, m, rfl⟩))
  go_ret2
  exact ⟨rfl, _, rfl⟩
theorem get_no (w : World) (a : Option Addr) (n c : Nat) (i : Int) (hn : n ≤ 1000000000000000) (hi : ¬ (0 ≤ i ∧ i < (8 * n : Nat))) : Calls Try.prog 53 #[.slice a n c, .int .i64 i] w fun e w' => e = .returned (.tuple #[.bool false, .int .i64 80]) ∧ w = w' := by
  have hd : decide (0 ≤ i ∧ i < ((8 * n : Nat) : Int)) = false := decide_eq_false hi
  clear hi
  go_enter Try.func53, Try.ntmps53
  go_wp2_with (go_at_call 61; refine (isBit_any _ _ n c i hn).mono ?_; rw [hd]; rintro e w' ⟨rfl, rfl⟩)
  go_ret2
  exact ⟨rfl, rfl⟩
end Go.Proofs.Ytpbpblpbjkegfaa

namespace Go.Proofs.Ytpbpblpbjkegfaa
open Go.RowKit Rec

theorem put_no (w : World) (a : Option Addr) (n c : Nat) (i : Int) (on : Bool) (hn : n ≤ 1000000000000000) (hi : ¬ (0 ≤ i ∧ i < (8 * n : Nat))) : Calls Try.prog 54 #[.slice a n c, .int .i64 i, .bool on] w fun e w' => e = .returned (.int .i64 80) ∧ w = w' := by
  have hd : decide (0 ≤ i ∧ i < ((8 * n : Nat) : Int)) = false := decide_eq_false hi
  clear hi
  go_enter Try.func54, Try.ntmps54
  go_wp2_with (go_at_call 61; refine (isBit_any _ _ n c i hn).mono ?_; rw [hd]; rintro e w' ⟨rfl, rfl⟩)
  go_ret
  exact ⟨rfl, rfl⟩
/-- Put: at an owned row's beginning -/
theorem put_raw (w : World) (g n c i : Nat) (x : Int) (on : Bool) (hc : w.cell? ⟨g, i / 8, none⟩ = some (.int .u8 x)) (hf : w.frozen? ⟨g, i / 8, none⟩ = false) (hx : 0 ≤ x ∧ x < 256) (hn : n ≤ 1000000000000000) (hi : i < 8 * n) : Calls Try.prog 54 #[.slice (some ⟨g, 0, none⟩) n c, .int .i64 (i : Int), .bool on] w fun e w' => e = .returned (.int .i64 0) ∧ ∃ m, w' = (w.setCell ⟨g, i / 8, none⟩ (.int .u8 (byt x (i % 8) on))).drewN m := by
  have hd : decide ((0 : Int) ≤ (i : Int) ∧ (i : Int) < ((8 * n : Nat) : Int)) = true := by simp; omega
  obtain ⟨q, hq⟩ : ∃ q, i / 8 = q := ⟨_, rfl⟩
  rw [hq] at hc hf ⊢
  have hqi : (i : Int) / 8 = (q : Int) := by omega
  have hqn : q < n := by omega
  have hqn' : (q : Int) < (n : Int) := by omega
  have hwr : IntKind.i64.wrap (q : Int) = (q : Int) := by rw [IntKind.wrap_i64]; omega
  have hb1 := (bits_u8 x (i % 8) hx (by omega)).2
  go_enter Try.func54, Try.ntmps54
  cases on with
  | true =>
    go_upto_region 4 with (go_at_call 61; refine (isBit_any _ _ n c i hn).mono ?_; rw [hd]; rintro e w' ⟨rfl, rfl⟩)
    go_region_with (go_at_call 62; refine (mask_any _ i (by omega)).mono ?_; rintro e w' ⟨rfl, rfl⟩)
    all_goals (try go_wp2)
    all_goals (go_ret; exact ⟨rfl, 1, rfl⟩)
  | false =>
    go_upto_region 5 with (go_at_call 61; refine (isBit_any _ _ n c i hn).mono ?_; rw [hd]; rintro e w' ⟨rfl, rfl⟩)
    go_region_with (go_at_call 62; refine (mask_any _ i (by omega)).mono ?_; rintro e w' ⟨rfl, rfl⟩)
    all_goals (try go_wp2)
    all_goals (go_ret; exact ⟨rfl, 1, rfl⟩)
end Go.Proofs.Ytpbpblpbjkegfaa
