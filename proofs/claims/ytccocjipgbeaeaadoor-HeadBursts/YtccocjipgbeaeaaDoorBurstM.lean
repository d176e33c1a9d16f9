import Derived.Test.YtccocjipgbeaeaaDoorBackM
namespace Go.Proofs.YtccocjipgbeaeaaDoor
open Go.RowKit Rec
open Crc (W)

/-- the bits that are turned -/
def acc (T : Nat → Bool) : Nat → W
  | 0 => 0#32
  | k + 1 => acc T k ^^^ (if T k = true then 1#32 <<< k else 0#32)
theorem acc_bit (T : Nat → Bool) (j : Nat) (hj : j < 32) : ∀ k, (acc T k).getLsbD j = (decide (j < k) && T j)
  | 0 => by simp [acc]
  | k + 1 => by
    rw [acc, BitVec.getLsbD_xor, acc_bit T j hj k]
    by_cases ht : T k = true
    · rw [if_pos ht, Crc.one_bit k j hj]
      by_cases e : j = k
      · subst e; simp [ht]
      · have : decide (j < k + 1) = decide (j < k) := decide_eq_decide.2 (by omega)
        rw [this, decide_eq_false e, Bool.xor_false]
    · rw [if_neg ht, BitVec.getLsbD_zero, Bool.xor_false]
      by_cases e : j = k
      · subst e; simp [ht]
      · have : decide (j < k + 1) = decide (j < k) := decide_eq_decide.2 (by omega)
        rw [this]
theorem acc_zero (T : Nat → Bool) (k : Nat) (hk : k ≤ 32) : acc T k = 0#32 ↔ ∀ j, j < k → T j = false := by
  constructor
  · intro h j hj
    have := acc_bit T j (by omega) k
    rw [h, BitVec.getLsbD_zero, decide_eq_true hj, Bool.true_and] at this
    exact this.symm
  · intro h
    apply BitVec.eq_of_getLsbD_eq
    intro j hj
    rw [acc_bit T j hj k, BitVec.getLsbD_zero]
    by_cases e : j < k
    · rw [h j e, Bool.and_false]
    · rw [decide_eq_false e, Bool.false_and]
theorem acc_nz (T : Nat → Bool) (k j : Nat) (hk : k ≤ 32) (hj : j < k) (ht : T j = true) : acc T k ≠ 0#32 := fun e => by
  have := (acc_zero T k hk).1 e j hj
  rw [ht] at this; cases this
theorem acc_skip (T : Nat → Bool) (k : Nat) (h : T k = false) : acc T (k + 1) = acc T k := by rw [acc, h, if_neg (by decide), BitVec.xor_zero]
theorem split_at (own : List Int) (i : Nat) (h : i < own.length) : own = own.take i ++ nth own i :: own.drop (i + 1) := by
  have e : nth own i = own[i] := by simp [nth, List.getD, h]
  rw [e, List.getElem_cons_drop]; simp
theorem set_at (own : List Int) (i : Nat) (d : Int) (h : i < own.length) : own.set i d = own.take i ++ d :: own.drop (i + 1) := List.set_eq_take_append_cons_drop .. |>.trans (by rw [if_pos h])
/-- bytes with some bits turned -/
structure Fl (T : Nat → Bool) (A k : Nat) (l own : List Int) : Prop where
  len : own.length = l.length
  wf : ∀ i, 0 ≤ nth own i ∧ nth own i < 256
  zero : (∀ j, j < k → T j = false) → own = l
  crc : ∀ P S, Crc.crc (P ++ own ++ S) = Crc.crc (P ++ l ++ S) ^^^ Crc.pw Crc.pl (8 * S.length + (8 * l.length - A)) (acc T k)
  out : ∀ i, (∀ j, j < k → T j = true → (A + j) / 8 ≠ i) → nth own i = nth l i
theorem Fl.start (T : Nat → Bool) (A : Nat) (l : List Int) (hw : ∀ i, 0 ≤ nth l i ∧ nth l i < 256) : Fl T A 0 l l :=
  ⟨rfl, hw, fun _ => rfl, fun P S => by rw [acc, (Crc.pl_lin.pw _).zero, BitVec.xor_zero], fun i _ => rfl⟩
theorem Fl.skip {T : Nat → Bool} {A k : Nat} {l own : List Int} (h : Fl T A k l own) (ht : T k = false) : Fl T A (k + 1) l own :=
  ⟨h.len, h.wf, fun e => h.zero (fun j hj => e j (by omega)), fun P S => by rw [acc_skip T k ht]; exact h.crc P S, fun i e => h.out i (fun j hj => e j (by omega))⟩
theorem Fl.turn {T : Nat → Bool} {A k i r : Nat} {l own : List Int} {d : Int} (h : Fl T A k l own) (hk : k < 32) (ht : T k = true) (hi : (A + k) / 8 = i) (hr : (A + k) % 8 = r) (hil : i < l.length) (hd : 0 ≤ d ∧ d < 256)
    (hx : BitVec.ofInt 32 d = BitVec.ofInt 32 (nth own i) ^^^ (1#32 <<< r)) : Fl T A (k + 1) l (own.set i d) := by
  have hl := h.len
  refine ⟨by rw [List.length_set]; exact hl, fun j => ?_, fun e => ?_, fun P S => ?_, fun j e => ?_⟩
  · rw [nth_set _ _ _ _ (by omega)]; split
    · exact hd
    · exact h.wf j
  · have := e k (by omega); rw [ht] at this; cases this
  · rw [set_at own i d (by omega)]
    have e1 : P ++ (own.take i ++ d :: own.drop (i + 1)) ++ S = (P ++ own.take i) ++ d :: (own.drop (i + 1) ++ S) := by simp
    have e2 : (P ++ own.take i) ++ nth own i :: (own.drop (i + 1) ++ S) = P ++ own ++ S := by
      conv => rhs; rw [split_at own i (by omega)]
      simp
    rw [e1, Crc.flip _ _ (nth own i) d r (by omega) hx, e2, h.crc P S, acc, if_pos ht, (Crc.pl_lin.pw _), BitVec.xor_assoc]
    congr 1
    congr 1
    have hN : 8 * ((own.drop (i + 1) ++ S).length + 1) - r = (8 * S.length + (8 * l.length - A)) - k := by
      rw [List.length_append, List.length_drop, hl]; omega
    rw [hN, Crc.pw_pull _ k hk (by omega)]
  · rw [nth_set _ _ _ _ (by omega), if_neg (fun c => e k (by omega) ht (by omega))]
    exact h.out j (fun m hm => e m (by omega))
theorem crc_cancel (C D : W) (h : C ^^^ D = C) : D = 0#32 := by
  have : C ^^^ (C ^^^ D) = C ^^^ C := by rw [h]
  rwa [← BitVec.xor_assoc, BitVec.xor_self, BitVec.zero_xor] at this
/-- a burst is told by the sum -/
theorem Fl.told {T : Nat → Bool} {A k : Nat} {l own : List Int} (h : Fl T A k l own) (hk : k ≤ 32) (hT : ¬ ∀ j, j < k → T j = false) (P S : List Int) : Crc.crc (P ++ l ++ S) ≠ Crc.crc (P ++ own ++ S) := by
  intro e
  have := h.crc P S
  rw [← e] at this
  exact hT ((acc_zero T k hk).1 (Crc.pw_zero _ _ (crc_cancel _ _ this.symm)))
theorem Fl.ne {T : Nat → Bool} {A k : Nat} {l own : List Int} (h : Fl T A k l own) (hk : k ≤ 32) (hT : ¬ ∀ j, j < k → T j = false) : own ≠ l := by
  intro e
  have := h.told hk hT [] []
  rw [e] at this
  exact this rfl
end Go.Proofs.YtccocjipgbeaeaaDoor
