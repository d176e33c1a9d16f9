import Derived.Test.YtlgjkmfekkegbaaBtE
namespace Go.Proofs.Ytlgjkmfekkegbaa
open Go.RowKit Rec

theorem div_succ (x : Int) (j : Nat) : x / 2 ^ j / 2 = x / 2 ^ (j + 1) := by
  rw [Int.pow_succ, Int.ediv_ediv_of_nonneg (Int.le_of_lt (Int.pow_pos (by decide)))]
theorem div_bd (x : Int) (j : Nat) (h : 0 ≤ x ∧ x < 256) : 0 ≤ x / 2 ^ j ∧ x / 2 ^ j < 256 := by
  have hp : (0 : Int) < 2 ^ j := Int.pow_pos (by decide)
  have h1 := Int.ediv_nonneg h.1 (Int.le_of_lt hp)
  have h2 := Int.ediv_le_self (2 ^ j) h.1
  omega
/-- the document's bit -/
theorem one_any (w : World) (a : Addr) (n c i : Nat) (l : List Int) (hb : Bytes w (some a) l) (hn : l.length = n) (hi : i < 8 * n) : Calls Try.prog 31 #[.slice (some a) n c, .int .i64 (i : Int)] w fun e w' => e = .returned (.int .i64 (bn l i)) ∧ w = w' := by
  obtain ⟨b, off, rfl, hc⟩ : ∃ b off, a = ⟨b, off, none⟩ ∧ w.cell? ⟨b, off + i / 8, none⟩ = some (.int .u8 (nth l (i / 8))) := by
    rcases hb.at_ with e | ⟨b, off, e, hc⟩
    · subst e; simp at hn; omega
    · cases e; exact ⟨b, off, rfl, hc _ (by omega)⟩
  have hx := hb.wf (i / 8)
  have hn' : n ≤ 1000000000000000 := by rw [← hn]; exact hb.len
  obtain ⟨x, hxe⟩ : ∃ x, nth l (i / 8) = x := ⟨_, rfl⟩
  rw [hxe] at hc hx
  have HB : Hid (nth l (i / 8) = x) := hxe
  clear hb hn hxe
  obtain ⟨q, hq⟩ : ∃ q, i / 8 = q := ⟨_, rfl⟩
  have hqi : (i : Int) / 8 = (q : Int) := by omega
  rw [hq] at hc
  have hqn : q < n := by omega
  obtain ⟨d, hd⟩ : ∃ d, i % 8 = d := ⟨_, rfl⟩
  have hdi : (i : Int) % 8 = (d : Int) := by omega
  have hd8 : d < 8 := by omega
  have HQ : Hid (i / 8 = q ∧ i % 8 = d) := ⟨hq, hd⟩
  clear hq hd
  have hwr : IntKind.i64.wrap (q : Int) = (q : Int) := by rw [IntKind.wrap_i64]; omega
  go_enter Try.func31, Try.ntmps31
  go_wp2
  go_loop [5, 6] (fun s5 s6 => ∃ (j : Nat) (z : Int), j ≤ d ∧ s6 = .int .i64 (j : Int) ∧ s5 = .int .i64 z ∧ z = x / 2 ^ j) (fun _ s => d - (intOf s).toNat)
  case atStart => exact ⟨0, x, Nat.zero_le _, rfl, rfl, by simp⟩
  case round =>
    obtain ⟨j, z, hj, rfl, rfl, hz⟩ := hrel
    have hzb : 0 ≤ z ∧ z < 256 := by rw [hz]; exact div_bd x j hx
    have HZ : Hid (z = x / 2 ^ j) := hz
    clear hz
    by_cases hlt : j < d
    · have hlt' : (j : Int) < (d : Int) := by omega
      go_wp2
      go_round
      case rel => exact ⟨j + 1, z / 2, by omega, by go_num, by go_num, by rw [HZ.out]; exact div_succ x j⟩
      case measure => simp [intOf]; omega
    · have hlt' : ¬ ((j : Int) < (d : Int)) := by omega
      obtain rfl : j = d := by omega
      go_wp2
      go_ret
      refine ⟨?_, rfl⟩
      unfold bn
      rw [HQ.out.1, HQ.out.2]
      have := HB.out
      rw [HQ.out.1] at this
      rw [this, ← HZ.out]
      rfl
theorem rget_yes (w : World) (a : Addr) (n c i : Nat) (l : List Int) (hb : Bytes w (some a) l) (hn : l.length = n) (hi : i < 8 * n) : Calls Try.prog 26 #[.slice (some a) n c, .int .i64 (i : Int)] w fun e w' => e = .returned (.tuple #[.bool (bt l i), .int .i64 0]) ∧ w = w' := by
  have hn' : n ≤ 1000000000000000 := by rw [← hn]; exact hb.len
  have cO := one_any w a n c i l hb hn hi
  clear hb hn
  have h1 : ¬ ((i : Int) < 0) := by omega
  have h2 : ¬ (8 * (n : Int) ≤ (i : Int)) := by omega
  go_enter Try.func26, Try.ntmps26
  go_wp2_with (go_at_call 31; refine cO.mono ?_; rintro e w' ⟨rfl, rfl⟩)
  go_ret2
  exact ⟨rfl, rfl⟩
theorem rget_no (w : World) (a : Option Addr) (n c : Nat) (i : Int) (hn : n ≤ 1000000000000000) (hi : ¬ (0 ≤ i ∧ i < (8 * n : Nat))) : Calls Try.prog 26 #[.slice a n c, .int .i64 i] w fun e w' => e = .returned (.tuple #[.bool false, .int .i64 80]) ∧ w = w' := by
  go_enter Try.func26, Try.ntmps26
  by_cases h0 : i < 0
  · clear hi
    go_wp2
    go_ret2
    exact ⟨rfl, rfl⟩
  · have h1 : 8 * (n : Int) ≤ i := by omega
    clear hi
    go_wp2
    go_ret2
    exact ⟨rfl, rfl⟩
theorem rlow_any (w : World) (a : Option Addr) (n c : Nat) (i : Int) (l : List Int) (hb : Bytes w a l) (hn : l.length = n) (hi : i ≤ 9223372036854775807) : Calls Try.prog 28 #[.slice a n c, .int .i64 i] w fun e w' => e = .returned (.int .i64 (low l i.toNat)) ∧ w = w' := by
  have hn' : n ≤ 1000000000000000 := by rw [← hn]; exact hb.len
  have HB : Hid (Bytes w a l ∧ l.length = n) := ⟨hb, hn⟩
  clear hb hn
  go_enter Try.func28, Try.ntmps28
  go_upto_if 7 with (fail)
  go_cut [1] (fun s wx => s = .int .i64 ((i.toNat : Nat) : Int) ∧ w = wx)
  case first =>
    by_cases h0 : i < 0
    · go_wp2
      go_meet
      case rel => exact ⟨by congr 1; omega, rfl⟩
    · go_wp2
      go_meet
      case rel => exact ⟨by congr 1; omega, rfl⟩
  case rest =>
  obtain ⟨rfl, rfl⟩ := hcut
  obtain ⟨f, hf⟩ : ∃ f, i.toNat = f := ⟨_, rfl⟩
  have hfb : (f : Int) ≤ 9223372036854775807 := by omega
  rw [hf]
  have HF : Hid (i.toNat = f) := hf
  clear hf
  go_wp2
  go_loop [5] (fun s => ∃ j : Nat, s = .int .i64 (j : Int) ∧ (j : Int) ≤ 9223372036854775807 ∧ low l f = low l j) (fun s => 8 * n - (intOf s).toNat)
  case atStart => exact ⟨f, rfl, hfb, rfl⟩
  case round =>
    obtain ⟨j, rfl, hj, hl⟩ := hrel
    have HL : Hid (low l f = low l j) := hl
    clear hl
    by_cases hlt : j < 8 * n
    · have hlt' : (j : Int) < 8 * (n : Int) := by omega
      obtain ⟨p, rfl⟩ : ∃ p, a = some p := by
        cases a with
        | some p => exact ⟨p, rfl⟩
        | none => have := HB.out.1.nil; have h2 := HB.out.2; rw [this] at h2; simp at h2; omega
      have cO := one_any w p n c j l HB.out.1 HB.out.2 hlt
      rcases bn_or l j with hbit | hbit
      · rw [hbit] at cO
        go_wp2_with (go_at_call 31; refine cO.mono ?_; rintro e w' ⟨rfl, rfl⟩)
        go_ret
        refine ⟨?_, rfl⟩
        rw [HF.out, HL.out, low_here hbit (by rw [HB.out.2]; exact hlt)]
        rfl
      · rw [hbit] at cO
        go_wp2_with (go_at_call 31; refine cO.mono ?_; rintro e w' ⟨rfl, rfl⟩)
        go_round
        case rel => exact ⟨j + 1, by go_num, by omega, by rw [HL.out]; exact low_step hbit⟩
        case measure => simp [intOf]; omega
    · have hlt' : ¬ ((j : Int) < 8 * (n : Int)) := by omega
      go_wp2
      go_ret
      refine ⟨?_, rfl⟩
      rw [HF.out, HL.out, low_end (by rw [HB.out.2]; omega)]
      rfl
theorem rcount_yes (w : World) (a : Option Addr) (n c f k : Nat) (l : List Int) (hb : Bytes w a l) (hn : l.length = n) (hk : f + k ≤ 8 * n) : Calls Try.prog 29 #[.slice a n c, .int .i64 (f : Int), .int .i64 ((f + k : Nat) : Int)] w fun e w' => e = .returned (.tuple #[.int .i64 (cn l f k), .int .i64 0]) ∧ w = w' := by
  have hn' : n ≤ 1000000000000000 := by rw [← hn]; exact hb.len
  have HB : Hid (Bytes w a l ∧ l.length = n) := ⟨hb, hn⟩
  clear hb hn
  obtain ⟨t, ht⟩ : ∃ t, f + k = t := ⟨_, rfl⟩
  rw [ht] at hk ⊢
  have h1 : ¬ ((f : Int) < 0) := by omega
  have h2 : decide (8 * (n : Int) < (t : Int)) = false := by simp; omega
  have h3 : decide (t < f) = false := by simp; omega
  have HT : Hid (f + k = t) := ht
  clear ht
  go_enter Try.func29, Try.ntmps29
  go_wp2
  go_loop [8, 9] (fun s8 s9 => ∃ (j : Nat) (q : Int), s9 = .int .i64 ((f + j : Nat) : Int) ∧ s8 = .int .i64 q ∧ q = cn l f j ∧ f + j ≤ t) (fun _ s => t - (intOf s).toNat)
  case atStart => exact ⟨0, 0, rfl, rfl, rfl, by have := HT.out; omega⟩
  case round =>
    obtain ⟨j, q, rfl, rfl, hq, hj⟩ := hrel
    have hqb := cn_bd l f j
    rw [← hq] at hqb
    have HQ : Hid (q = cn l f j) := hq
    clear hq
    obtain ⟨z, hz⟩ : ∃ z, f + j = z := ⟨_, rfl⟩
    rw [hz] at hj ⊢
    have HZ : Hid (f + j = z) := hz
    have hqz : q ≤ (z : Int) := by omega
    clear hz
    by_cases hlt : z < t
    · have hlt' : (z : Int) < (t : Int) := by omega
      obtain ⟨p, rfl⟩ : ∃ p, a = some p := by
        cases a with
        | some p => exact ⟨p, rfl⟩
        | none => have := HB.out.1.nil; have h2 := HB.out.2; rw [this] at h2; simp at h2; omega
      have cO := one_any w p n c z l HB.out.1 HB.out.2 (by omega)
      have hbb := bn_bd l z
      obtain ⟨y, hy⟩ : ∃ y, bn l z = y := ⟨_, rfl⟩
      rw [hy] at cO hbb
      have HY : Hid (bn l z = y) := hy
      clear hy
      go_wp2_with (go_at_call 31; refine cO.mono ?_; rintro e w' ⟨rfl, rfl⟩)
      go_round
      case rel => exact ⟨j + 1, q + y, by have := HZ.out; go_num, by go_num, by rw [cn, HZ.out, HY.out, ← HQ.out], by have := HZ.out; omega⟩
      case measure => have := HZ.out; simp [intOf]; omega
    · have hlt' : ¬ (z : Int) < (t : Int) := by omega
      go_wp2
      go_ret2
      refine ⟨?_, rfl⟩
      have e : j = k := by have := HZ.out; have := HT.out; omega
      subst e
      rw [← HQ.out]; rfl
theorem rcount_no (w : World) (a : Option Addr) (n c : Nat) (f t : Int) (hn : n ≤ 1000000000000000) (hk : ¬ (0 ≤ f ∧ t ≤ (8 * n : Nat) ∧ f ≤ t)) : Calls Try.prog 29 #[.slice a n c, .int .i64 f, .int .i64 t] w fun e w' => e = .returned (.tuple #[.int .i64 0, .int .i64 80]) ∧ w = w' := by
  go_enter Try.func29, Try.ntmps29
  by_cases h0 : f < 0
  · clear hk
    go_wp2
    go_ret2
    exact ⟨rfl, rfl⟩
  · by_cases h1 : 8 * (n : Int) < t
    · clear hk
      go_wp2
      go_ret2
      exact ⟨rfl, rfl⟩
    · have h2 : t < f := by omega
      clear hk
      go_wp2
      go_ret2
      exact ⟨rfl, rfl⟩
theorem rput_no (w : World) (a : Option Addr) (n c : Nat) (i : Int) (on : Bool) (hn : n ≤ 1000000000000000) (hi : ¬ (0 ≤ i ∧ i < (8 * n : Nat))) : Calls Try.prog 27 #[.slice a n c, .int .i64 i, .bool on] w fun e w' => e = .returned (.int .i64 80) ∧ w = w' := by
  go_enter Try.func27, Try.ntmps27
  by_cases h0 : i < 0
  · clear hi
    go_wp2
    go_ret
    exact ⟨rfl, rfl⟩
  · have h1 : 8 * (n : Int) ≤ i := by omega
    clear hi
    go_wp2
    go_ret
    exact ⟨rfl, rfl⟩
theorem byt_id (x : Int) (k : Nat) (on : Bool) (h : x / 2 ^ k % 2 = if on then 1 else 0) : byt x k on = x := by
  unfold byt
  rw [h]
  cases on
  · simp
  · simp
theorem bput_id (l : List Int) (i : Nat) (on : Bool) (h : bn l i = if on then 1 else 0) : bput l i on = l := by
  unfold bput
  rw [byt_id _ _ _ h]
  refine ext_nth (by simp) fun j hj => ?_
  have hj' : j < l.length := by simpa using hj
  by_cases e : i / 8 < l.length
  · rw [nth_set _ _ _ _ e]
    split
    · next h => rw [h]
    · rfl
  · rw [List.set_eq_of_length_le (by omega)]
set_option maxRecDepth 100000 in
set_option maxHeartbeats 2000000 in
theorem rput_own (w : World) (g n c cap i : Nat) (l : List Int) (on : Bool) (h : OwnB w g cap l) (hn : l.length = n) (hi : i < 8 * n) : Calls Try.prog 27 #[.slice (some ⟨g, 0, none⟩) n c, .int .i64 (i : Int), .bool on] w fun e w' => e = .returned (.int .i64 0) ∧ OwnB w' g cap (bput l i on) ∧ Fr (fun k => k = g) w w' := by
  have hn' : n ≤ 1000000000000000 := by rw [← hn]; exact h.len
  have hc := h.cell (i / 8) (by omega)
  have hf := h.frozen (i / 8)
  have hx := h.wf (i / 8)
  have cO := one_any w ⟨g, 0, none⟩ n c i l h.bytes hn hi
  have hset := fun y hy => (h.set (i / 8) y (by omega) hy)
  obtain ⟨x, hxe⟩ : ∃ x, nth l (i / 8) = x := ⟨_, rfl⟩
  rw [hxe] at hc hx
  have HE : Hid (nth l (i / 8) = x ∧ OwnB w g cap l ∧ ∀ y, (0 ≤ y ∧ y < 256) → OwnB (w.setCell ⟨g, i / 8, none⟩ (.int .u8 y)) g cap (l.set (i / 8) y)) := ⟨hxe, h, hset⟩
  clear h hset
  obtain ⟨q, hq⟩ : ∃ q, i / 8 = q := ⟨_, rfl⟩
  have hqi : (i : Int) / 8 = (q : Int) := by omega
  have hqn : q < n := by omega
  rw [hq] at hc hf
  obtain ⟨d, hd⟩ : ∃ d, i % 8 = d := ⟨_, rfl⟩
  have hdi : (i : Int) % 8 = (d : Int) := by omega
  have hd8 : d < 8 := by omega
  have hwr : IntKind.i64.wrap (q : Int) = (q : Int) := by rw [IntKind.wrap_i64]; omega
  have h1 : ¬ ((i : Int) < 0) := by omega
  have h2 : ¬ (8 * (n : Int) ≤ (i : Int)) := by omega
  have hbe : bn l i = x / 2 ^ d % 2 := by unfold bn; rw [hxe, hd]
  have HQ : Hid (i / 8 = q ∧ i % 8 = d ∧ bn l i = x / 2 ^ d % 2) := ⟨hq, hd, hbe⟩
  clear hq hd hbe hxe hn hi
  go_enter Try.func27, Try.ntmps27
  go_wp2
  go_loop [7, 8] (fun s7 s8 => ∃ (j : Nat) (z : Int), j ≤ d ∧ s8 = .int .i64 (j : Int) ∧ s7 = .int .i64 z ∧ z = 2 ^ j) (fun _ s => d - (intOf s).toNat)
  case atStart => exact ⟨0, 1, Nat.zero_le _, rfl, rfl, rfl⟩
  case round =>
    obtain ⟨j, z, hj, rfl, rfl, hz⟩ := hrel
    have hzb : 1 ≤ z ∧ z ≤ 128 := by
      rw [hz]
      rcases pow2 j (by omega) with e | e | e | e | e | e | e | e <;> rw [e] <;> omega
    have HZ : Hid (z = 2 ^ j) := hz
    clear hz
    by_cases hlt : j < d
    · have hlt' : (j : Int) < (d : Int) := by omega
      go_wp2
      go_round
      case rel => exact ⟨j + 1, 2 * z, by omega, by go_num, by go_num, by rw [HZ.out, Int.pow_succ, Int.mul_comm]⟩
      case measure => simp [intOf]; omega
    · have hlt' : ¬ ((j : Int) < (d : Int)) := by omega
      obtain rfl : j = d := by omega
      have hbw := bn_or l i
      rcases hbw with hbit | hbit
      · rw [hbit] at cO
        cases on with
        | true =>
          have hby : byt x j true = x + z := by
            have := HQ.out.2.2
            rw [hbit] at this
            unfold byt
            rw [← this, HZ.out]; simp
          have hb2 := byt_bd x j true hd8 hx
          rw [hby] at hb2
          have hw8 : (x + z) % 256 = x + z := by omega
          have HY : Hid (byt x j true = x + z) := hby
          clear hby
          go_wp2_with (go_at_call 31; refine cO.mono ?_; rintro e w' ⟨rfl, rfl⟩)
          go_ret
          refine ⟨rfl, ?_, Fr.set⟩
          have h3 := HE.out.2.2 (x + z) hb2
          unfold bput
          rw [HQ.out.1] at h3
          rw [HQ.out.1, HQ.out.2.1]
          have h4 := HE.out.1
          rw [HQ.out.1] at h4
          rw [h4, HY.out]
          exact h3
        | false =>
          go_wp2_with (go_at_call 31; refine cO.mono ?_; rintro e w' ⟨rfl, rfl⟩)
          go_ret
          exact ⟨rfl, by rw [bput_id l i false hbit]; exact HE.out.2.1, Fr.refl _ _⟩
      · rw [hbit] at cO
        cases on with
        | true =>
          go_wp2_with (go_at_call 31; refine cO.mono ?_; rintro e w' ⟨rfl, rfl⟩)
          go_ret
          exact ⟨rfl, by rw [bput_id l i true hbit]; exact HE.out.2.1, Fr.refl _ _⟩
        | false =>
          have hby : byt x j false = x - z := by
            have := HQ.out.2.2
            rw [hbit] at this
            unfold byt
            rw [← this, HZ.out]; simp
          have hb2 := byt_bd x j false hd8 hx
          rw [hby] at hb2
          have hw8 : (x - z) % 256 = x - z := by omega
          have HY : Hid (byt x j false = x - z) := hby
          clear hby
          go_wp2_with (go_at_call 31; refine cO.mono ?_; rintro e w' ⟨rfl, rfl⟩)
          go_ret
          refine ⟨rfl, ?_, Fr.set⟩
          have h3 := HE.out.2.2 (x - z) hb2
          unfold bput
          rw [HQ.out.1] at h3
          rw [HQ.out.1, HQ.out.2.1]
          have h4 := HE.out.1
          rw [HQ.out.1] at h4
          rw [h4, HY.out]
          exact h3
/-- 'same' of the same bytes -/
theorem same8_yes (w : World) (a1 a2 : Option Addr) (n c1 c2 : Nat) (l : List Int) (h1 : Bytes w a1 l) (h2 : Bytes w a2 l) (hn : l.length = n) : Calls Try.prog 16 #[.slice a1 n c1, .slice a2 n c2] w fun e w' => e = .returned (.bool true) ∧ ∃ m, w' = w.drewN m := by
  have hn' : n ≤ 1000000000000000 := by rw [← hn]; exact h1.len
  have HB : Hid (Bytes w a1 l ∧ Bytes w a2 l ∧ l.length = n) := ⟨h1, h2, hn⟩
  clear h1 h2 hn
  go_enter Try.func16, Try.ntmps16
  go_wp2
  go_loopw [5] (fun s wr => ∃ j : Nat, s = .int .i64 (j : Int) ∧ j ≤ n ∧ ∃ m, wr = w.drewN m) (fun s _ => n - (intOf s).toNat)
  case atStart => exact ⟨0, rfl, Nat.zero_le _, 0, rfl⟩
  case round =>
    obtain ⟨j, rfl, hj, m, rfl⟩ := hrel
    by_cases hlt : j < n
    · have hlt' : (j : Int) < (n : Int) := by omega
      obtain ⟨b1, o1, rfl, hc1⟩ : ∃ b1 o1, a1 = some ⟨b1, o1, none⟩ ∧ w.cell? ⟨b1, o1 + j, none⟩ = some (.int .u8 (nth l j)) := by
        rcases HB.out.1.at_ with e | ⟨b, off, e, hc⟩
        · have := HB.out.2.2; rw [e] at this; simp at this; omega
        · exact ⟨b, off, e, hc j (by rw [HB.out.2.2]; exact hlt)⟩
      obtain ⟨b2, o2, rfl, hc2⟩ : ∃ b1 o1, a2 = some ⟨b1, o1, none⟩ ∧ w.cell? ⟨b1, o1 + j, none⟩ = some (.int .u8 (nth l j)) := by
        rcases HB.out.2.1.at_ with e | ⟨b, off, e, hc⟩
        · have := HB.out.2.2; rw [e] at this; simp at this; omega
        · exact ⟨b, off, e, hc j (by rw [HB.out.2.2]; exact hlt)⟩
      obtain ⟨x, hx⟩ : ∃ x, nth l j = x := ⟨_, rfl⟩
      rw [hx] at hc1 hc2
      clear hx
      go_upto_region 6 with (fail)
      go_quiet (fail)
      (try go_wp2)
      go_round
      case rel => exact ⟨j + 1, by go_num, by omega, _, rfl⟩
      case measure => simp [intOf]; omega
    · have hlt' : ¬ ((j : Int) < (n : Int)) := by omega
      go_wp2
      go_ret
      exact ⟨rfl, m, rfl⟩
end Go.Proofs.Ytlgjkmfekkegbaa
