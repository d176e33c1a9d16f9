import Derived.Test.YtaaeahpmnfifiaaDoorPaS
import Derived.Test.YtaaeahpmnfifiaaDoorKMathR
import Derived.Maps.OwnOps
import Derived.Maps.OwnSet
namespace Go.Proofs.YtaaeahpmnfifiaaDoor
open Go.RowKit Go.Shelf Pa
/-- what '.' and '..' do -/
def D0 : DataW Unit := ((DataW.map []).put (.string [46]) (.lit (.int .i64 0))).put (.string [46, 46]) (.lit (.int .i64 1))
def TkAt (w : World) (b : Nat) : Prop := w.ownsMap Tryd.prog 9 (plainElem Tryd.prog 3) b 2 D0
theorem keyedS : Maps.Keyed Tryd.prog 9 := Maps.string_keyed Tryd.underlying9
theorem key_st {s : ByteArray} (hs : s.size ≤ 9223372036854775807) : keyOf Tryd.prog 9 (.string s) = some (.string (tx s)) := by
  simp [keyOf, Tryd.underlying9, mapKey, tx]
  unfold maxLen; omega
theorem D0_eq : D0 = .map [(.string [46], .lit (.int .i64 0)), (.string [46, 46], .lit (.int .i64 1))] := by
  have h : (Lit.string [46, 46]).before (Lit.string [46]) = false := by decide
  simp [D0, DataW.put, DataW.insert, Lit.sameKey, h]
theorem beq_swap (a b : Tx) : (a == b) = (b == a) := by rw [Bool.eq_iff_iff, beq_iff_eq, beq_iff_eq]; exact eq_comm
def upN (l : Tx) : Int := if l = [46, 46] then 1 else 0
theorem D0_has (l : Tx) : Maps.has D0 (.string l) = goes l := by
  rw [D0_eq]
  simp only [Maps.has, List.any_cons, List.any_nil, Lit.sameKey, Bool.or_false, goes]
  rw [beq_swap [46] l, beq_swap [46, 46] l]
theorem D0_at (l : Tx) : D0.atKey (.string l) (.lit (.int .i64 0)) = .lit (.int .i64 (upN l)) := by
  rw [D0_eq, upN]
  simp only [DataW.atKey, List.find?_cons, List.find?_nil, Lit.sameKey]
  by_cases h1 : l = [46]
  · subst h1; rfl
  · have e1 : (([46] : Tx) == l) = false := by simp; exact fun e => h1 e.symm
    rw [e1]
    by_cases h2 : l = [46, 46]
    · subst h2; rfl
    · have e2 : (([46, 46] : Tx) == l) = false := by simp; exact fun e => h2 e.symm
      rw [e2, if_neg h2]
theorem TkAt.on {w w' : World} {b : Nat} (h : TkAt w b) (hb : Below w.heap.size w w') : TkAt w' b := World.ownsMap.kept h (grown_of hb none) (by simp)
theorem TkAt.kept {w w' : World} {b : Nat} {row : Option Nat} (h : TkAt w b) (hg : w.grownBy w' row) (hne : some b ≠ row) : TkAt w' b := World.ownsMap.kept h hg hne
theorem TkAt.look {w : World} {b : Nat} (h : TkAt w b) {s : ByteArray} (hs : s.size ≤ 9223372036854775807) :
    (Instr.lookup 92 (.map (some b)) (.string s) true).run Tryd.prog w = .ok (.tuple #[.int .i64 (upN (tx s)), .bool (goes (tx s))]) w := by
  obtain ⟨v, ps, hr, hv⟩ := World.ownsMap.look_ok h keyedS Tryd.underlying92 (Tryd.zeroValue3 w) (plainElem_int Tryd.underlying3 (by decide)) (key_st hs)
  obtain ⟨a, rfl, ha, _⟩ := plainElem_int_inv Tryd.underlying3 hv
  rw [D0_at] at ha
  simp only [Prod.mk.injEq, DataW.lit.injEq, Lit.int.injEq, true_and] at ha
  rw [hr, D0_has, ← ha.1]
set_option maxHeartbeats 2000000 in
theorem takes_any (w : World) : Calls Tryd.prog 54 #[] w fun e w' => e = .returned (.map (some w.heap.size)) ∧ TkAt w' w.heap.size ∧ Below w.heap.size w w' := by
  have h0 := World.ownsMap_made (H := Unit) w Tryd.prog 9 (plainElem Tryd.prog 3)
  obtain ⟨w1, r1, h1, g1⟩ := World.ownsMap.update h0 keyedS Tryd.underlying92 (by unfold maxLen; omega) (key := .string ⟨#[46]⟩) (val := .int .i64 0) (key_st (by decide)) (plainElem_int Tryd.underlying3 (by decide))
  obtain ⟨w2, r2, h2, g2⟩ := World.ownsMap.update h1 keyedS Tryd.underlying92 (by unfold maxLen; omega) (key := .string ⟨#[46, 46]⟩) (val := .int .i64 1) (key_st (by decide)) (plainElem_int Tryd.underlying3 (by decide))
  have hb : Below w.heap.size w w2 := (((Below.refl _ w).alloc (Nat.le_refl _) (.map #[] 0)).grown g1 (by simp) (fun k e => by cases e; exact Nat.le_refl _)).grown g2 (by have := g1.size; simp at this; omega) (fun k e => by cases e; exact Nat.le_refl _)
  have HH : Hid (TkAt w2 w.heap.size ∧ Below w.heap.size w w2) := ⟨h2, hb⟩
  clear h0 h1 h2 hb g1 g2
  have hmm := @run_makeMap Tryd.prog
  go_enter Tryd.func54, Tryd.ntmps54
  go_wp2
  go_ret
  exact ⟨rfl, HH.out⟩
theorem goes_any (w : World) (s : ByteArray) (hs : s.size ≤ 9223372036854775807) : Calls Tryd.prog 46 #[.string s] w fun e w' => e = .returned (.bool (goes (tx s))) ∧ Below w.heap.size w w' := by
  go_enter Tryd.func46, Tryd.ntmps46
  go_wp2_with (go_at_call 54; refine (takes_any _).mono ?_; rintro e w' ⟨rfl, ht, hb⟩; have hlk := ht.look hs)
  go_ret
  exact ⟨rfl, hb⟩
set_option maxHeartbeats 2000000 in
theorem name_any (w : World) (s : ByteArray) (hs : s.size ≤ 9223372036854775807) : Calls Tryd.prog 37 #[.string s] w fun e w' => e = .returned (.bool (name (tx s))) ∧ Below w.heap.size w w' := by
  unfold name
  cases h1 : noPart (tx s) with
  | true =>
    go_enter Tryd.func37, Tryd.ntmps37
    go_wp2_with (first | (go_at_call 44; refine (isNoPart_any _ _).mono ?_; rintro e w' ⟨rfl, rfl⟩; rw [h1]))
    go_ret
    exact ⟨rfl, Below.refl _ _⟩
  | false =>
    cases h2 : long (tx s) with
    | true =>
      go_enter Tryd.func37, Tryd.ntmps37
      go_wp2_with (first | (go_at_call 44; refine (isNoPart_any _ _).mono ?_; rintro e w' ⟨rfl, rfl⟩; rw [h1]) | (go_at_call 45; refine (isLong_any _ _).mono ?_; rintro e w' ⟨rfl, rfl⟩; rw [h2]))
      go_ret
      exact ⟨rfl, Below.refl _ _⟩
    | false =>
      go_enter Tryd.func37, Tryd.ntmps37
      go_wp2_with (first | (go_at_call 44; refine (isNoPart_any _ _).mono ?_; rintro e w' ⟨rfl, rfl⟩; rw [h1]) | (go_at_call 45; refine (isLong_any _ _).mono ?_; rintro e w' ⟨rfl, rfl⟩; rw [h2]) | (go_at_call 46; refine (goes_any _ _ hs).mono ?_; rintro e w' ⟨rfl, hb⟩))
      go_ret
      exact ⟨by simp, hb⟩
end Go.Proofs.YtaaeahpmnfifiaaDoor
