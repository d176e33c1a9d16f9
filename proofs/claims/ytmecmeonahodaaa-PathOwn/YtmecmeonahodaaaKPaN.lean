import Derived.Test.YtmecmeonahodaaaPaL
import Derived.Maps.OwnOps
import Derived.Maps.OwnSet
namespace Go.Proofs.Ytmecmeonahodaaa
open Go.RowKit Go.Shelf Pa

theorem pE_one {l : Tx} (h : (!sl1 l || hasZ l) = true) : pE l = 1 := by unfold pE; rw [if_pos h]
theorem pE_130 {l : Tx} (h : (!sl1 l || hasZ l) = false) (h2 : tooLong l = true) : pE l = 130 := by unfold pE; rw [if_neg (by simp [h]), if_pos h2]
theorem pE_zero {l : Tx} (h : (!sl1 l || hasZ l) = false) (h2 : tooLong l = false) : pE l = 0 := by unfold pE; rw [if_neg (by simp [h]), if_neg (by simp [h2])]
theorem tL_ok {l : Tx} (h2 : tooLong l = false) : l.length ≤ 1024 ∧ Ok32 (cps l) := by
  unfold tooLong at h2
  rw [Bool.or_eq_false_iff, Bool.or_eq_false_iff, List.any_eq_false] at h2
  exact ⟨by simpa using h2.1, fun p hp => by simpa using h2.2.1 p hp, by simpa using h2.2.2⟩
/-- Parse's answer -/
def ParseR (w : World) (l : Tx) (e : Ending) (w' : World) : Prop := (∃ v xs, e = .returned (.tuple #[v, .int .i64 (pE l)]) ∧ Sl w' w.heap.size v xs ∧ xs.map tx = pL l) ∧ Below w.heap.size w w'
theorem ParseR.bad {w w' : World} {l : Tx} {n : Int} (h : pE l = n) (hn : n ≠ 0) (hb : Below w.heap.size w w') : ParseR w l (.returned (.tuple #[.slice none 0 0, .int .i64 n])) w' := by
  refine ⟨⟨_, [], by rw [h], Sl.nil0 _ _, ?_⟩, hb⟩
  rw [pL, h, if_neg hn]; rfl
theorem ParseR.good {w w' : World} {l : Tx} (h : pE l = 0) {v : Value} {xs : List ByteArray} (hv : Sl w' w.heap.size v xs) (hx : xs.map tx = cps l) (hb : Below w.heap.size w w') : ParseR w l (.returned (.tuple #[v, .int .i64 0])) w' := by
  refine ⟨⟨_, xs, by rw [h], hv, ?_⟩, hb⟩
  rw [pL, h, if_pos rfl]; exact hx
set_option maxHeartbeats 2000000 in
theorem parse_any (w : World) (s : ByteArray) (hs : s.size ≤ 9223372036854775807) : Calls Try.prog 5 #[.string s] w fun e w' => ParseR w (tx s) e w' := by
  have CL := fun w (h : tooLong (tx s) = false) => list_any w s (by rw [size_tx]; exact (tL_ok h).1) (tL_ok h).2
  cases h1 : sl1 (tx s) with
  | false =>
    have e1 : Hid (pE (tx s) = 1) := pE_one (l := tx s) (by rw [h1]; rfl)
    go_enter Try.func5, Try.ntmps5
    go_wp2_with (go_at_call 14; refine (hasPrefix_any _ _).mono ?_; rintro e w' ⟨rfl, rfl⟩; rw [h1])
    go_ret2
    exact ParseR.bad e1.out (by decide) (Below.refl _ _)
  | true =>
    cases h2 : hasZ (tx s) with
    | true =>
      have e1 : Hid (pE (tx s) = 1) := pE_one (l := tx s) (by rw [h1, h2]; rfl)
      go_enter Try.func5, Try.ntmps5
      go_wp2_with (first | (go_at_call 14; refine (hasPrefix_any _ _).mono ?_; rintro e w' ⟨rfl, rfl⟩; rw [h1]) | (go_at_call 15; refine (hasZero_any _ _).mono ?_; rintro e w' ⟨rfl, rfl⟩; rw [h2]))
      go_ret2
      exact ParseR.bad e1.out (by decide) (Below.refl _ _)
    | false =>
      cases h3 : tooLong (tx s) with
      | true =>
        have e1 : Hid (pE (tx s) = 130) := pE_130 (l := tx s) (by rw [h1, h2]; rfl) h3
        go_enter Try.func5, Try.ntmps5
        go_wp2_with (first | (go_at_call 14; refine (hasPrefix_any _ _).mono ?_; rintro e w' ⟨rfl, rfl⟩; rw [h1]) | (go_at_call 15; refine (hasZero_any _ _).mono ?_; rintro e w' ⟨rfl, rfl⟩; rw [h2]) | (go_at_call 16; refine (isTooLong_any _ _ hs).mono ?_; rintro e w' ⟨rfl, hb⟩; rw [h3]))
        go_ret2
        exact ParseR.bad e1.out (by decide) hb
      | false =>
        have e1 : Hid (pE (tx s) = 0) := pE_zero (l := tx s) (by rw [h1, h2]; rfl) h3
        have CL' := fun w => CL w h3
        go_enter Try.func5, Try.ntmps5
        go_wp2_with (first | (go_at_call 14; refine (hasPrefix_any _ _).mono ?_; rintro e w' ⟨rfl, rfl⟩; rw [h1]) | (go_at_call 15; refine (hasZero_any _ _).mono ?_; rintro e w' ⟨rfl, rfl⟩; rw [h2]) | (go_at_call 16; refine (isTooLong_any _ _ hs).mono ?_; rintro e w' ⟨rfl, hb⟩; rw [h3]) | (go_at_call 17; refine (CL' _).mono ?_; rintro e w' ⟨⟨v, xs, rfl, hv, hx⟩, hb2⟩))
        go_ret2
        exact ParseR.good e1.out (hv.base hb.size) hx (hb.trans (hb2.mono hb.size))
end Go.Proofs.Ytmecmeonahodaaa

namespace Go.Proofs.Ytmecmeonahodaaa
open Go.RowKit Go.Shelf Pa
theorem tE_one {l : Tx} (h : (l == [] || hasZ l) = true) : tE l = 1 := by unfold tE; rw [if_pos h]
theorem tE_130 {l : Tx} (h : (l == [] || hasZ l) = false) (h2 : tooLong l = true) : tE l = 130 := by unfold tE; rw [if_neg (by rw [h]; simp), if_pos h2]
theorem tE_zero {l : Tx} (h : (l == [] || hasZ l) = false) (h2 : tooLong l = false) : tE l = 0 := by unfold tE; rw [if_neg (by rw [h]; simp), if_neg (by rw [h2]; simp)]
/-- Text's answer -/
def TextR (w : World) (l : Tx) (e : Ending) (w' : World) : Prop := (∃ v xs, e = .returned (.tuple #[v, .bool (tT l), .int .i64 (tE l)]) ∧ Sl w' w.heap.size v xs ∧ xs.map tx = tL l) ∧ Below w.heap.size w w'
theorem TextR.bad {w w' : World} {l : Tx} {n : Int} (h : tE l = n) (hn : n ≠ 0) (hb : Below w.heap.size w w') : TextR w l (.returned (.tuple #[.slice none 0 0, .bool false, .int .i64 n])) w' := by
  refine ⟨⟨_, [], by rw [tT, h, if_neg hn], Sl.nil0 _ _, ?_⟩, hb⟩
  rw [tL, h, if_neg hn]; rfl
theorem TextR.good {w w' : World} {l : Tx} (h : tE l = 0) {v : Value} {xs : List ByteArray} (hv : Sl w' w.heap.size v xs) (hx : xs.map tx = cps l) (hb : Below w.heap.size w w') : TextR w l (.returned (.tuple #[v, .bool (sl1 l), .int .i64 0])) w' := by
  refine ⟨⟨_, xs, by rw [tT, h, if_pos rfl], hv, ?_⟩, hb⟩
  rw [tL, h, if_pos rfl]; exact hx
theorem eq_nil {s : ByteArray} (h : tx s = []) : s = ⟨#[]⟩ := tx_inj (by rw [h]; rfl)
set_option maxHeartbeats 2000000 in
theorem text_any (w : World) (s : ByteArray) (hs : s.size ≤ 9223372036854775807) : Calls Try.prog 6 #[.string s] w fun e w' => TextR w (tx s) e w' := by
  have CL := fun w (h : tooLong (tx s) = false) => list_any w s (by rw [size_tx]; exact (tL_ok h).1) (tL_ok h).2
  by_cases h1 : tx s = []
  · have e1 : Hid (tE (tx s) = 1) := tE_one (l := tx s) (by rw [h1]; rfl)
    have h1' : s.toList = [] := by rw [toList_tx]; exact h1
    go_enter Try.func6, Try.ntmps6
    go_wp2
    go_ret3
    exact TextR.bad e1.out (by decide) (Below.refl _ _)
  · have h1' : s.toList.isEmpty = false := by rw [toList_tx]; simpa using h1
    have h0 : (tx s == []) = false := by simpa using h1
    cases h2 : hasZ (tx s) with
    | true =>
      have e1 : Hid (tE (tx s) = 1) := tE_one (l := tx s) (by rw [h2]; simp)
      go_enter Try.func6, Try.ntmps6
      go_wp2_with (go_at_call 15; refine (hasZero_any _ _).mono ?_; rintro e w' ⟨rfl, rfl⟩; rw [h2])
      go_ret3
      exact TextR.bad e1.out (by decide) (Below.refl _ _)
    | false =>
      by_cases hlen : 1024 < s.size
      · have hlen' : (1024 : Int) < (s.size : Int) := by omega
        have h3 : tooLong (tx s) = true := by unfold tooLong; rw [← size_tx]; simp [hlen]
        have e1 : Hid (tE (tx s) = 130) := tE_130 (l := tx s) (by rw [h2, h0]; rfl) h3
        clear h3
        go_enter Try.func6, Try.ntmps6
        go_wp2_with (go_at_call 15; refine (hasZero_any _ _).mono ?_; rintro e w' ⟨rfl, rfl⟩; rw [h2])
        go_ret3
        exact TextR.bad e1.out (by decide) (Below.refl _ _)
      · have hlen' : ¬ (1024 : Int) < (s.size : Int) := by omega
        cases h3 : tooLong (tx s) with
        | true =>
          have e1 : Hid (tE (tx s) = 130) := tE_130 (l := tx s) (by rw [h2, h0]; rfl) h3
          go_enter Try.func6, Try.ntmps6
          go_wp2_with (first | (go_at_call 15; refine (hasZero_any _ _).mono ?_; rintro e w' ⟨rfl, rfl⟩; rw [h2]) | (go_at_call 16; refine (isTooLong_any _ _ hs).mono ?_; rintro e w' ⟨rfl, hb⟩; rw [h3]))
          go_ret3
          exact TextR.bad e1.out (by decide) hb
        | false =>
          have e1 : Hid (tE (tx s) = 0) := tE_zero (l := tx s) (by rw [h2, h0]; rfl) h3
          have CL' := fun w => CL w h3
          go_enter Try.func6, Try.ntmps6
          go_wp2_with (first | (go_at_call 15; refine (hasZero_any _ _).mono ?_; rintro e w' ⟨rfl, rfl⟩; rw [h2]) | (go_at_call 16; refine (isTooLong_any _ _ hs).mono ?_; rintro e w' ⟨rfl, hb⟩; rw [h3]) | (go_at_call 17; refine (CL' _).mono ?_; rintro e w' ⟨⟨v, xs, rfl, hv, hx⟩, hb2⟩) | (go_at_call 14; refine (hasPrefix_any _ _).mono ?_; rintro e w' ⟨rfl, rfl⟩))
          go_ret3
          exact TextR.good e1.out (hv.base hb.size) hx (hb.trans (hb2.mono hb.size))
end Go.Proofs.Ytmecmeonahodaaa

namespace Go.Proofs.Ytmecmeonahodaaa
open Go.RowKit Go.Shelf Pa
/-- what '.' and '..' do -/
def D0 : DataW Unit := ((DataW.map []).put (.string [46]) (.lit (.int .i64 0))).put (.string [46, 46]) (.lit (.int .i64 1))
def TkAt (w : World) (b : Nat) : Prop := w.ownsMap Try.prog 9 (plainElem Try.prog 3) b 2 D0
theorem keyedS : Maps.Keyed Try.prog 9 := Maps.string_keyed Try.underlying9
theorem key_st {s : ByteArray} (hs : s.size ≤ 9223372036854775807) : keyOf Try.prog 9 (.string s) = some (.string (tx s)) := by
  simp [keyOf, Try.underlying9, mapKey, tx]
  unfold maxLen; omega
theorem D0_eq : D0 = .map [(.string [46], .lit (.int .i64 0)), (.string [46, 46], .lit (.int .i64 1))] := by
  have h : (Lit.string [46, 46]).before (Lit.string [46]) = false := by decide
  simp [D0, DataW.put, DataW.insert, Lit.sameKey, h]
theorem beq_swap (a b : Tx) : (a == b) = (b == a) := by rw [Bool.eq_iff_iff, beq_iff_eq, beq_iff_eq]; exact eq_comm
def upN (l : Tx) : Int := if l = [46, 46] then 1 else 0
theorem D0_has (l : Tx) : Maps.has D0 (.string l) = goes l := by
  rw [D0_eq]
  simp only [Maps.has, List.any_cons, List.any_nil, Lit.sameKey, Bool.or_false, goes]
  rw [beq_swap [46] l, beq_swap [46, 46] l]
theorem D0_at (l : Tx) : D0.atKey (.string l) (.lit (.int .i64 0)) = .lit (.int .i64 (upN l)) := by
  rw [D0_eq, upN]
  simp only [DataW.atKey, List.find?_cons, List.find?_nil, Lit.sameKey]
  by_cases h1 : l = [46]
  · subst h1; rfl
  · have e1 : (([46] : Tx) == l) = false := by simp; exact fun e => h1 e.symm
    rw [e1]
    by_cases h2 : l = [46, 46]
    · subst h2; rfl
    · have e2 : (([46, 46] : Tx) == l) = false := by simp; exact fun e => h2 e.symm
      rw [e2, if_neg h2]
theorem TkAt.on {w w' : World} {b : Nat} (h : TkAt w b) (hb : Below w.heap.size w w') : TkAt w' b := World.ownsMap.kept h (grown_of hb none) (by simp)
theorem TkAt.kept {w w' : World} {b : Nat} {row : Option Nat} (h : TkAt w b) (hg : w.grownBy w' row) (hne : some b ≠ row) : TkAt w' b := World.ownsMap.kept h hg hne
theorem TkAt.look {w : World} {b : Nat} (h : TkAt w b) {s : ByteArray} (hs : s.size ≤ 9223372036854775807) :
    (Instr.lookup 45 (.map (some b)) (.string s) true).run Try.prog w = .ok (.tuple #[.int .i64 (upN (tx s)), .bool (goes (tx s))]) w := by
  obtain ⟨v, ps, hr, hv⟩ := World.ownsMap.look_ok h keyedS Try.underlying45 (Try.zeroValue3 w) (plainElem_int Try.underlying3 (by decide)) (key_st hs)
  obtain ⟨a, rfl, ha, _⟩ := plainElem_int_inv Try.underlying3 hv
  rw [D0_at] at ha
  simp only [Prod.mk.injEq, DataW.lit.injEq, Lit.int.injEq, true_and] at ha
  rw [hr, D0_has, ← ha.1]
set_option maxHeartbeats 2000000 in
theorem takes_any (w : World) : Calls Try.prog 24 #[] w fun e w' => e = .returned (.map (some w.heap.size)) ∧ TkAt w' w.heap.size ∧ Below w.heap.size w w' := by
  have h0 := World.ownsMap_made (H := Unit) w Try.prog 9 (plainElem Try.prog 3)
  obtain ⟨w1, r1, h1, g1⟩ := World.ownsMap.update h0 keyedS Try.underlying45 (by unfold maxLen; omega) (key := .string ⟨#[46]⟩) (val := .int .i64 0) (key_st (by decide)) (plainElem_int Try.underlying3 (by decide))
  obtain ⟨w2, r2, h2, g2⟩ := World.ownsMap.update h1 keyedS Try.underlying45 (by unfold maxLen; omega) (key := .string ⟨#[46, 46]⟩) (val := .int .i64 1) (key_st (by decide)) (plainElem_int Try.underlying3 (by decide))
  have hb : Below w.heap.size w w2 := (((Below.refl _ w).alloc (Nat.le_refl _) (.map #[] 0)).grown g1 (by simp) (fun k e => by cases e; exact Nat.le_refl _)).grown g2 (by have := g1.size; simp at this; omega) (fun k e => by cases e; exact Nat.le_refl _)
  have HH : Hid (TkAt w2 w.heap.size ∧ Below w.heap.size w w2) := ⟨h2, hb⟩
  clear h0 h1 h2 hb g1 g2
  have hmm := @run_makeMap Try.prog
  go_enter Try.func24, Try.ntmps24
  go_wp2
  go_ret
  exact ⟨rfl, HH.out⟩
theorem goes_any (w : World) (s : ByteArray) (hs : s.size ≤ 9223372036854775807) : Calls Try.prog 18 #[.string s] w fun e w' => e = .returned (.bool (goes (tx s))) ∧ Below w.heap.size w w' := by
  go_enter Try.func18, Try.ntmps18
  go_wp2_with (go_at_call 24; refine (takes_any _).mono ?_; rintro e w' ⟨rfl, ht, hb⟩; have hlk := ht.look hs)
  go_ret
  exact ⟨rfl, hb⟩
set_option maxHeartbeats 2000000 in
theorem name_any (w : World) (s : ByteArray) (hs : s.size ≤ 9223372036854775807) : Calls Try.prog 13 #[.string s] w fun e w' => e = .returned (.bool (name (tx s))) ∧ Below w.heap.size w w' := by
  unfold name
  cases h1 : noPart (tx s) with
  | true =>
    go_enter Try.func13, Try.ntmps13
    go_wp2_with (first | (go_at_call 21; refine (isNoPart_any _ _).mono ?_; rintro e w' ⟨rfl, rfl⟩; rw [h1]))
    go_ret
    exact ⟨rfl, Below.refl _ _⟩
  | false =>
    cases h2 : long (tx s) with
    | true =>
      go_enter Try.func13, Try.ntmps13
      go_wp2_with (first | (go_at_call 21; refine (isNoPart_any _ _).mono ?_; rintro e w' ⟨rfl, rfl⟩; rw [h1]) | (go_at_call 22; refine (isLong_any _ _).mono ?_; rintro e w' ⟨rfl, rfl⟩; rw [h2]))
      go_ret
      exact ⟨rfl, Below.refl _ _⟩
    | false =>
      go_enter Try.func13, Try.ntmps13
      go_wp2_with (first | (go_at_call 21; refine (isNoPart_any _ _).mono ?_; rintro e w' ⟨rfl, rfl⟩; rw [h1]) | (go_at_call 22; refine (isLong_any _ _).mono ?_; rintro e w' ⟨rfl, rfl⟩; rw [h2]) | (go_at_call 18; refine (goes_any _ _ hs).mono ?_; rintro e w' ⟨rfl, hb⟩))
      go_ret
      exact ⟨by simp, hb⟩
end Go.Proofs.Ytmecmeonahodaaa
