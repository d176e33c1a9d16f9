import Derived.Test.YtklgjagkgfbcfaaDoorZeros
namespace Go.Proofs.YtklgjagkgfbcfaaDoor
open Go.RowKit Rec

/-- the bytes with the number in them -/
def bk (la lb : List Int) (W : Nat) (v : Int) : List Int := ov (la ++ zs W ++ lb) la.length W (dig v)
structure Bk (la lb : List Int) (W : Nat) (v : Int) (L : List Int) : Prop where
  len : L.length = la.length + W + lb.length
  put : putE (la ++ zs W ++ lb) la.length W v = 0 ∧ putL (la ++ zs W ++ lb) la.length W v = L
  get : getE L la.length W = 0 ∧ getV L la.length W = v
  one : ∀ i : Nat, i < W → getE L (la.length + i) 1 = 0 ∧ getV L (la.length + i) 1 = dig v i
  fore : L.take la.length = la
  aft : L.drop (la.length + W) = lb
  big : ∀ u, has u W = false → putE L la.length W u = 1 ∧ putL L la.length W u = L
  out : putE L (L.length - W + 1) W v = 20 ∧ putL L (L.length - W + 1) W v = L
  neg : putE L (-1) W v = 20 ∧ putL L (-1) W v = L

theorem lies_true {s a n : Int} (h : 0 ≤ a ∧ a + n ≤ s) : lies s a n = true := by unfold lies; exact decide_eq_true h
theorem lies_false {s a n : Int} (h : ¬ (0 ≤ a ∧ a + n ≤ s)) : lies s a n = false := by unfold lies; exact decide_eq_false h
theorem take_app {a b : List Int} : (a ++ b).take a.length = a := List.take_left
theorem bk_mk (la lb : List Int) (W : Nat) (v : Int) (hW : isW W = true) (h0 : 0 ≤ v) (hv : v < 256 ^ W) : Bk la lb W v (bk la lb W v) := by
  have hw := isW_cases hW
  have hL : (bk la lb W v).length = la.length + W + lb.length := by rw [bk, ov_length, List.length_append, List.length_append, zs_length]
  have hh : has v W = true := by unfold has; exact decide_eq_true (by simpa using hv)
  have hl0 : (la ++ zs W ++ lb).length = la.length + W + lb.length := by rw [List.length_append, List.length_append, zs_length]
  have hp : putE (la ++ zs W ++ lb) la.length W v = 0 := by
    unfold putE
    rw [hW, hh, lies_true (by rw [hl0]; omega)]; rfl
  have one : isW 1 = true := rfl
  refine ⟨hL, ⟨hp, ?_⟩, ⟨?_, ?_⟩, ?_, ?_, ?_, ?_, ⟨?_, ?_⟩, ⟨?_, ?_⟩⟩
  · unfold putL; rw [if_pos hp]; simp [bk]
  · unfold getE; rw [hW, lies_true (by omega)]; rfl
  · unfold getV; rw [hW, lies_true (by omega)]
    show num (bk la lb W v) (la.length : Int).toNat (W : Int).toNat = v
    rw [Int.toNat_natCast, Int.toNat_natCast, bk, num_ov _ _ _ _ _ (by omega) (Nat.le_refl _), Int.emod_eq_of_lt h0 hv]
  · intro i hi
    refine ⟨?_, ?_⟩
    · unfold getE; rw [one, lies_true (by omega)]; rfl
    · unfold getV; rw [one, lies_true (by omega)]
      have e : ((la.length : Int) + (i : Int)).toNat = la.length + i := by omega
      show num (bk la lb W v) ((la.length : Int) + i).toNat 1 = dig v i
      rw [e]
      show 0 + nth (bk la lb W v) (la.length + i + 0) * 256 ^ 0 = dig v i
      rw [Nat.add_zero, bk, nth_ov _ _ _ _ _ (by omega), if_pos (by omega), Nat.add_sub_cancel_left]; simp
  · rw [bk, List.append_assoc, ov_append2 _ _ _ _ _ rfl]; exact List.take_left
  · rw [bk, ov_append _ _ _ _ _ (by simp [zs_length])]
    have : la.length + W = (ov (la ++ zs W) la.length W (dig v)).length := by simp [ov_length, zs_length]
    rw [this]; exact List.drop_left
  · intro u hu
    have e : putE (bk la lb W v) la.length W u = 1 := by unfold putE; rw [hW, hu]; rfl
    exact ⟨e, by unfold putL; rw [e]; rfl⟩
  · unfold putE; rw [hW, hh, lies_false (by omega)]; rfl
  · unfold putL putE; rw [hW, hh, lies_false (by omega)]; rfl
  · unfold putE; rw [hW, hh, lies_false (by omega)]; rfl
  · unfold putL putE; rw [hW, hh, lies_false (by omega)]; rfl
/-- the same, as a walk has it -/
structure Bw (la lb : List Int) (n1 n2 W : Nat) (Wi v : Int) (L : List Int) : Prop where
  len : L.length = n1 + W + n2
  put : putE (la ++ zs W ++ lb) n1 Wi v = 0 ∧ putL (la ++ zs W ++ lb) n1 Wi v = L
  get : getE L n1 Wi = 0 ∧ getV L n1 Wi = v
  one : ∀ (a : Int) (i : Nat), i < W → a = n1 + i → getE L a 1 = 0 ∧ getV L a 1 = dig v i
  fore : L.take n1 = la
  aft : L.drop (n1 + W) = lb
  big : ∀ u, has u Wi = false → putE L n1 Wi u = 1 ∧ putL L n1 Wi u = L
  out : ∀ a : Int, a = n1 + n2 + 1 → putE L a Wi v = 20 ∧ putL L a Wi v = L
  neg : putE L (-1) Wi v = 20 ∧ putL L (-1) Wi v = L
theorem bw_mk (la lb : List Int) (n1 n2 W : Nat) (Wi v : Int) (h1 : la.length = n1) (h2 : lb.length = n2) (hi : Wi = W) (hW : isW W = true) (h0 : 0 ≤ v) (hv : v < 256 ^ W) : ∃ L, Bw la lb n1 n2 W Wi v L := by
  subst h1 h2 hi
  have h := bk_mk la lb W v hW h0 hv
  refine ⟨_, h.len, h.put, h.get, fun a i hi ha => by rw [ha]; exact h.one i hi, h.fore, h.aft, h.big, fun a ha => ?_, h.neg⟩
  have e : a = ((bk la lb W v).length : Int) - W + 1 := by rw [h.len, ha]; omega
  rw [e]; exact h.out
theorem Bw.aft_bytes {la lb : List Int} {n1 n2 W : Nat} {Wi v : Int} {L : List Int} (h : Bw la lb n1 n2 W Wi v L) (h2 : lb.length = n2) {w : World} {g cap B : Nat} (hO : OwnB w g cap (L ++ [])) (hB : B = n1 + W ∨ n2 = 0) : Bytes w (some ⟨g, B, none⟩) lb := by
  have := hO.field (A := n1 + W) (N := n2) (by rw [h.len]; omega) hB
  unfold fld at this
  rw [h.aft, List.take_of_length_le (by omega)] at this
  exact this
theorem Bw.fore_bytes {la lb : List Int} {n1 n2 W : Nat} {Wi v : Int} {L : List Int} (h : Bw la lb n1 n2 W Wi v L) {w : World} {g cap : Nat} (hO : OwnB w g cap (L ++ [])) : Bytes w (some ⟨g, 0, none⟩) la := by
  have := hO.bytes.take n1
  rw [List.append_nil, h.fore] at this
  exact this
theorem back_step (v : Int) (i : Nat) : v / 256 ^ (i + 1) * 256 + dig v i = v / 256 ^ i := by
  unfold dig
  rw [Int.pow_succ, ← Int.ediv_ediv_of_nonneg (Int.le_of_lt (pow_pos i))]
  omega
theorem dig_le (v : Int) (i : Nat) : ¬ 255 < dig v i := by have := dig_bd v i; omega

theorem tm_facts (k n : Int) (hn : 0 < n) : (k.tmod n < 0 → k.tmod n + n = k % n) ∧ (0 ≤ k.tmod n → k.tmod n = k % n) ∧ -n < k.tmod n ∧ k.tmod n < n := by
  have e0 := Int.emod_nonneg k (Int.ne_of_gt hn)
  have e1 := Int.emod_lt_of_pos k hn
  have hb : n.natAbs = n := by omega
  rw [Int.tmod_eq_emod]
  split
  · refine ⟨fun h => ?_, fun _ => ?_, ?_, ?_⟩ <;> simp_all <;> omega
  · rename_i h
    have hne : k % n ≠ 0 := fun e => h (.inr (Int.dvd_of_emod_eq_zero e))
    refine ⟨fun h => ?_, fun _ => ?_, ?_, ?_⟩ <;> omega
set_option maxRecDepth 100000 in
theorem mod_any (w : World) (k n : Int) (hn : 0 < n ∧ n < 100) (_hk : -9223372036854775808 ≤ k ∧ k ≤ 9223372036854775807) : Calls Tryd.prog 8 #[.int .i64 k, .int .i64 n] w fun e w' => e = .returned (.int .i64 (k % n)) ∧ w' = w := by
  have hn0 : ¬ n = 0 := by omega
  obtain ⟨f1, f2, f3, f4⟩ := tm_facts k n hn.1
  have F1 : Hid (k.tmod n < 0 → k.tmod n + n = k % n) := f1
  have F2 : Hid (0 ≤ k.tmod n → k.tmod n = k % n) := f2
  clear f1 f2
  go_enter Tryd.func8, Tryd.ntmps8
  go_wp2
  · rename_i h
    have e := F1.out h
    go_ret
    exact ⟨congrArg (fun x => Ending.returned (Value.int .i64 x)) e, rfl⟩
  · rename_i h
    have e := F2.out h
    go_ret
    exact ⟨congrArg (fun x => Ending.returned (Value.int .i64 x)) e, rfl⟩
end Go.Proofs.YtklgjagkgfbcfaaDoor
