import Derived.Shelf.SlIterI.Nil
import Derived.Shelf.SortM.Plain
import Derived.Shelf.SortM.SortNone
import Derived.Ground.GgzProg
import Derived.Ground.SlgmProg
import Derived.Test.YtgkgcocpkammfaaProg
import Derived.Test.YtgkgcocpkammfaaKGeA
import Derived.Test.YtgkgcocpkammfaaKOp9
import Derived.Lib.Strings
import Derived.RangeFuncNested
import Derived.RangeFuncBound
import Derived.RangeFuncCalls
import Derived.RangeFuncLeaves
import Derived.RangeFuncWrites
import Derived.RangeFuncBox
import Derived.Maps.AppendAt
import Derived.Shelf.Abstract
import Derived.Shelf.RegionOpen
import Derived.OwnWalkIn
import Derived.TacticsInMore
import Derived.LoopNIn
import Derived.LoopIn
import Derived.Shelf.Slices.CompactI
import Derived.Sort.OwnSortedInts
import Derived.Lib.RowBridge
import Derived.Laws.ResultCell
import Derived.Deep.RegionHeld3
import Derived.Deep.CutBlock
import Derived.Deep.RegionHeldLaw
namespace Go.Proofs.Ytgkgcocpkammfaa
open Go.Shelf
def sortedA_ren : Go.Shelf.Ren := ⟨fun | 6 => 14 | 8 => 23 | 9 => 24 | 11 => 27 | 13 => 29 | 12 => 28 | 23 => 39 | 24 => 40 | 14 => 30 | 15 => 31 | 16 => 32 | 17 => 33 | 18 => 34 | 19 => 35 | 20 => 36 | 21 => 37 | 22 => 38 | 25 => 41 | 26 => 42 | 27 => 43 | 28 => 44 | 29 => 45 | 30 => 46 | 31 => 47 | n => n, fun | 26 => 3 | 28 => 48 | 24 => 22 | 0 => 0 | 3 => 3 | 37 => 70 | 48 => 81 | 50 => 83 | 4 => 4 | 40 => 73 | 39 => 72 | 45 => 78 | 5 => 5 | 9 => 9 | 51 => 84 | 55 => 88 | 57 => 90 | 58 => 31 | 33 => 44 | n => n, fun | n => n⟩
theorem sortedA : Go.Proofs.SlLaysZI.n6 Try.prog sortedA_ren := {
  mixed := by kernel_rfl
  f6 := ⟨Try.f14.name, by decide, Try.func14.trans (congrArg some (by kernel_rfl))⟩
  f8 := ⟨Try.f23.name, by decide, Try.func23.trans (congrArg some (by kernel_rfl))⟩
  f11 := ⟨Try.f27.name, by decide, Try.func27.trans (congrArg some (by kernel_rfl))⟩
  t0 := Try.underlying0
  a0 := Try.isAgg0
  z0 := Try.sizeOf0
  v0 := Try.zeroValue0
  t24 := Try.underlying22
  a24 := Try.isAgg22
  z24 := Try.sizeOf22
  v24 := Try.zeroValue22
  t26 := Try.underlying3
  a26 := Try.isAgg3
  z26 := Try.sizeOf3
  v26 := Try.zeroValue3
  t28 := Try.underlying48
  a28 := Try.isAgg48
  z28 := Try.sizeOf48
  v28 := Try.zeroValue48
  i26 := by kernel_rfl }
def sortA_ren : Go.Shelf.Ren := ⟨fun | 5 => 24 | 8 => 29 | 7 => 28 | 19 => 39 | 20 => 40 | 10 => 30 | 11 => 31 | 12 => 32 | 13 => 33 | 14 => 34 | 15 => 35 | 16 => 36 | 17 => 37 | 18 => 38 | 30 => 41 | 31 => 42 | 32 => 43 | 33 => 44 | 34 => 45 | 35 => 46 | 40 => 47 | n => n, fun | 23 => 22 | 25 => 3 | 3 => 3 | 32 => 70 | 22 => 22 | 0 => 0 | 44 => 81 | 46 => 83 | 4 => 4 | 36 => 73 | 35 => 72 | 41 => 78 | 5 => 5 | 9 => 9 | 53 => 84 | 57 => 88 | 63 => 90 | 64 => 31 | n => n, fun | n => n⟩
theorem sortA : Go.Proofs.SlLaysM.n5 Try.prog sortA_ren := {
  mixed := by kernel_rfl
  f5 := ⟨Try.f24.name, by decide, Try.func24.trans (congrArg some (by kernel_rfl))⟩
  f7 := ⟨Try.f28.name, by decide, Try.func28.trans (congrArg some (by kernel_rfl))⟩
  f8 := Try.func29.trans (congrArg some (by kernel_rfl))
  f10 := ⟨Try.f30.name, by decide, Try.func30.trans (congrArg some (by kernel_rfl))⟩
  f11 := ⟨Try.f31.name, by decide, Try.func31.trans (congrArg some (by kernel_rfl))⟩
  f12 := ⟨Try.f32.name, by decide, Try.func32.trans (congrArg some (by kernel_rfl))⟩
  f13 := ⟨Try.f33.name, by decide, Try.func33.trans (congrArg some (by kernel_rfl))⟩
  f14 := ⟨Try.f34.name, by decide, Try.func34.trans (congrArg some (by kernel_rfl))⟩
  f15 := ⟨Try.f35.name, by decide, Try.func35.trans (congrArg some (by kernel_rfl))⟩
  f16 := ⟨Try.f36.name, by decide, Try.func36.trans (congrArg some (by kernel_rfl))⟩
  f17 := ⟨Try.f37.name, by decide, Try.func37.trans (congrArg some (by kernel_rfl))⟩
  f18 := ⟨Try.f38.name, by decide, Try.func38.trans (congrArg some (by kernel_rfl))⟩
  f19 := Try.func39.trans (congrArg some (by kernel_rfl))
  f20 := Try.func40.trans (congrArg some (by kernel_rfl))
  f30 := ⟨Try.f41.name, by decide, Try.func41.trans (congrArg some (by kernel_rfl))⟩
  f31 := Try.func42.trans (congrArg some (by kernel_rfl))
  f32 := Try.func43.trans (congrArg some (by kernel_rfl))
  f33 := ⟨Try.f44.name, by decide, Try.func44.trans (congrArg some (by kernel_rfl))⟩
  f34 := ⟨Try.f45.name, by decide, Try.func45.trans (congrArg some (by kernel_rfl))⟩
  f35 := ⟨Try.f46.name, by decide, Try.func46.trans (congrArg some (by kernel_rfl))⟩
  f40 := ⟨Try.f47.name, by decide, Try.func47.trans (congrArg some (by kernel_rfl))⟩
  t0 := Try.underlying0
  a0 := Try.isAgg0
  z0 := Try.sizeOf0
  v0 := Try.zeroValue0
  t3 := Try.underlying3
  a3 := Try.isAgg3
  z3 := Try.sizeOf3
  v3 := Try.zeroValue3
  t4 := Try.underlying4
  a4 := Try.isAgg4
  z4 := Try.sizeOf4
  v4 := Try.zeroValue4
  t5 := Try.underlying5
  a5 := Try.isAgg5
  z5 := Try.sizeOf5
  v5 := Try.zeroValue5
  t9 := Try.underlying9
  a9 := Try.isAgg9
  z9 := Try.sizeOf9
  v9 := Try.zeroValue9
  t22 := Try.underlying22
  a22 := Try.isAgg22
  z22 := Try.sizeOf22
  v22 := Try.zeroValue22
  t23 := Try.underlying22
  a23 := Try.isAgg22
  z23 := Try.sizeOf22
  v23 := Try.zeroValue22
  t25 := Try.underlying3
  a25 := Try.isAgg3
  z25 := Try.sizeOf3
  v25 := Try.zeroValue3
  t32 := Try.underlying70
  a32 := Try.isAgg70
  z32 := Try.sizeOf70
  v32 := Try.zeroValue70
  t35 := Try.underlying72
  a35 := Try.isAgg72
  z35 := Try.sizeOf72
  v35 := Try.zeroValue72
  t36 := Try.underlying73
  a36 := Try.isAgg73
  z36 := Try.sizeOf73
  v36 := Try.zeroValue73
  t41 := Try.underlying78
  a41 := Try.isAgg78
  z41 := Try.sizeOf78
  v41 := Try.zeroValue78
  t44 := Try.underlying81
  a44 := Try.isAgg81
  z44 := Try.sizeOf81
  v44 := Try.zeroValue81
  t46 := Try.underlying83
  a46 := Try.isAgg83
  z46 := Try.sizeOf83
  v46 := Try.zeroValue83
  t53 := Try.underlying84
  a53 := Try.isAgg84
  z53 := Try.sizeOf84
  v53 := Try.zeroValue84
  t57 := Try.underlying88
  a57 := Try.isAgg88
  z57 := Try.sizeOf88
  v57 := Try.zeroValue88
  t63 := Try.underlying90
  a63 := Try.isAgg90
  z63 := Try.sizeOf90
  v63 := Try.zeroValue90
  t64 := Try.underlying31
  a64 := Try.isAgg31
  z64 := Try.sizeOf31
  v64 := Try.zeroValue31 }
end Go.Proofs.Ytgkgcocpkammfaa


namespace Go.Proofs.Ytgkgcocpkammfaa
open Go.RowKit Rec

/-- a call as a value -/
def clV (k : Int) (p o : ByteArray) (f z : Int) (d : ByteArray) : Value := .agg #[.int .i64 k, .string p, .string o, .int .i64 f, .int .i64 z, .string d]
/-- how many bytes a call's bound counts -/
def bB (k : Int) (o d : Nat) : Option Nat := if k = 4 then (if d = 0 then none else some d) else if k = 10 then some o else if k = 1 ∨ k = 2 ∨ k = 5 ∨ k = 6 ∨ k = 7 ∨ k = 8 ∨ k = 9 then some 0 else none
def bA : Option Nat → Value
  | none => .tuple #[.int .i64 0, .int .i64 0]
  | some b => .tuple #[.int .i64 (2 * ((b : Int) / 512 + 12) + 2), .int .i64 4]
set_option maxRecDepth 100000 in
set_option maxHeartbeats 4000000 in
theorem bound_any (w : World) (k : Int) (p o : ByteArray) (f z : Int) (d : ByteArray) (ho : o.size ≤ 140737488355328) (hd : d.size ≤ 140737488355328) :
    Calls Try.prog 7 #[clV k p o f z d] w fun e w' => e = .returned (bA (bB k o.size d.size)) ∧ Below w.heap.size w w' := by
  obtain ⟨O, hO⟩ : ∃ O, o.size = O := ⟨_, rfl⟩
  obtain ⟨Dn, hD⟩ : ∃ Dn, d.size = Dn := ⟨_, rfl⟩
  rw [hO] at ho
  rw [hD] at hd
  unfold clV
  have hb : Below w.heap.size w (w.alloc (.cells #[.int .i64 k, .string p, .string o, .int .i64 f, .int .i64 z, .string d] 24)) := (Below.refl _ _).alloc (Nat.le_refl _) _
  have HB : Hid _ := hb
  clear hb
  by_cases h4 : k = 4
  · subst h4
    by_cases h0 : Dn = 0
    · rw [hO, hD, bB, if_pos rfl, if_pos h0]
      have h0' : (Dn : Int) = 0 := by omega
      go_enter Try.func7, Try.ntmps7
      go_wp2
      go_ret2
      exact ⟨rfl, HB.out⟩
    · rw [hO, hD, bB, if_pos rfl, if_neg h0]
      have h0' : ¬ (Dn : Int) = 0 := by omega
      go_enter Try.func7, Try.ntmps7
      go_wp2
      go_ret2
      exact ⟨rfl, HB.out⟩
  · by_cases h10 : k = 10
    · subst h10
      rw [hO, hD, bB, if_neg (by omega), if_pos rfl]
      go_enter Try.func7, Try.ntmps7
      go_wp2
      go_ret2
      exact ⟨rfl, HB.out⟩
    · by_cases hs : k = 1 ∨ k = 2 ∨ k = 5 ∨ k = 6 ∨ k = 7 ∨ k = 8 ∨ k = 9
      · rw [hO, hD, bB, if_neg h4, if_neg h10, if_pos hs]
        clear h4 h10
        rcases hs with rfl | rfl | rfl | rfl | rfl | rfl | rfl
        all_goals
          go_enter Try.func7, Try.ntmps7
          go_wp2
          go_ret2
          exact ⟨rfl, HB.out⟩
      · rw [hO, hD, bB, if_neg h4, if_neg h10, if_neg hs]
        have q1 : ¬ k = 1 := by omega
        have q2 : ¬ k = 2 := by omega
        have q5 : ¬ k = 5 := by omega
        have q6 : ¬ k = 6 := by omega
        have q7 : ¬ k = 7 := by omega
        have q8 : ¬ k = 8 := by omega
        have q9 : ¬ k = 9 := by omega
        clear hs
        go_enter Try.func7, Try.ntmps7
        go_wp2
        go_ret2
        exact ⟨rfl, HB.out⟩
set_option maxRecDepth 100000 in
set_option maxHeartbeats 4000000 in
theorem rbound_any (w : World) (k : Int) (p o : ByteArray) (f z : Int) (d : ByteArray) (ho : o.size ≤ 140737488355328) (hd : d.size ≤ 140737488355328) :
    Calls Try.prog 8 #[clV k p o f z d] w fun e w' => e = .returned (bA (bB k o.size d.size)) ∧ Below w.heap.size w w' := by
  obtain ⟨O, hO⟩ : ∃ O, o.size = O := ⟨_, rfl⟩
  obtain ⟨Dn, hD⟩ : ∃ Dn, d.size = Dn := ⟨_, rfl⟩
  rw [hO] at ho
  rw [hD] at hd
  unfold clV
  have hb : Below w.heap.size w (w.alloc (.cells #[.int .i64 k, .string p, .string o, .int .i64 f, .int .i64 z, .string d] 24)) := (Below.refl _ _).alloc (Nat.le_refl _) _
  have HB : Hid _ := hb
  clear hb
  by_cases h4 : k = 4
  · subst h4
    by_cases h0 : Dn = 0
    · rw [hO, hD, bB, if_pos rfl, if_pos h0]
      have h0' : (Dn : Int) = 0 := by omega
      have he : d = ⟨#[]⟩ := by
        apply ByteArray.ext
        apply Array.eq_empty_of_size_eq_zero
        exact hD.trans h0
      subst he
      go_enter Try.func8, Try.ntmps8
      go_wp2
      go_ret2
      exact ⟨rfl, HB.out⟩
    · rw [hO, hD, bB, if_pos rfl, if_neg h0]
      have h0' : ¬ (Dn : Int) = 0 := by omega
      have he : ¬ d = ⟨#[]⟩ := fun e => h0 (by rw [← hD, e]; rfl)
      have he2 : d.toList.isEmpty = false := by
        rw [Lib.toList_data]
        cases e : d.data.toList with
        | nil => exact absurd (by rw [← hD, ByteArray.size, ← Array.length_toList, e]; rfl) h0
        | cons => rfl
      go_enter Try.func8, Try.ntmps8
      go_wp2
      go_ret2
      exact ⟨rfl, HB.out⟩
  · by_cases h10 : k = 10
    · subst h10
      rw [hO, hD, bB, if_neg (by omega), if_pos rfl]
      go_enter Try.func8, Try.ntmps8
      go_wp2
      go_ret2
      exact ⟨rfl, HB.out⟩
    · by_cases hs : k = 1 ∨ k = 2 ∨ k = 5 ∨ k = 6 ∨ k = 7 ∨ k = 8 ∨ k = 9
      · rw [hO, hD, bB, if_neg h4, if_neg h10, if_pos hs]
        clear h4 h10
        rcases hs with rfl | rfl | rfl | rfl | rfl | rfl | rfl
        all_goals
          go_enter Try.func8, Try.ntmps8
          go_wp2
          go_ret2
          exact ⟨rfl, HB.out⟩
      · rw [hO, hD, bB, if_neg h4, if_neg h10, if_neg hs]
        have q1 : ¬ k = 1 := by omega
        have q2 : ¬ k = 2 := by omega
        have q5 : ¬ k = 5 := by omega
        have q6 : ¬ k = 6 := by omega
        have q7 : ¬ k = 7 := by omega
        have q8 : ¬ k = 8 := by omega
        have q9 : ¬ k = 9 := by omega
        clear hs
        go_enter Try.func8, Try.ntmps8
        go_wp2
        go_ret2
        exact ⟨rfl, HB.out⟩
end Go.Proofs.Ytgkgcocpkammfaa

namespace Go.Proofs.Ytgkgcocpkammfaa
open Go.RowKit Go.Shelf Rec
attribute [local go_sem] Oper.semAt_some

/-- what slices.Values has handed out: a closure over a box that holds the slice -/
structure VlAt (w : World) (B : Nat) (a : Option Addr) (n c : Nat) (l : List Int) : Prop where
  box : w.cell? ⟨B, 0, none⟩ = some (.slice a n c)
  row : Ints w a l
  len : l.length = n
theorem VlAt.ltB {w : World} {B n c : Nat} {a : Option Addr} {l : List Int} (h : VlAt w B a n c l) : B < w.heap.size := block_lt_of_cell h.box
set_option maxRecDepth 100000 in
theorem values_any (w : World) (a : Option Addr) (n c : Nat) : Calls Try.prog 15 #[.slice a n c] w fun e w' => e = .returned (.func (.func 25) #[] #[.pointer (some ⟨w.heap.size, 0, none⟩)]) ∧ w' = w.alloc (.cells #[.slice a n c] 22) := by
  go_enter Try.func15, Try.ntmps15
  go_wp2
  go_ret
  exact ⟨rfl, rfl⟩
theorem vlAt_new {w : World} {a : Option Addr} {n c : Nat} {l : List Int} (h : Ints w a l) (hl : l.length = n) : VlAt (w.alloc (.cells #[.slice a n c] 22)) w.heap.size a n c l :=
  ⟨by rw [cell_of_row _ _ _ _ _ _ (heap_alloc_new _ _)]; rfl, h.on ((Below.refl _ _).alloc (Nat.le_refl _) _), hl⟩
/-- the iterator's own rows are kept -/
def KpV (B : Nat) (a : Option Addr) (W W' : World) : Prop := W'.heap[B]? = W.heap[B]? ∧ ∀ p, a = some p → W'.heap[p.block]? = W.heap[p.block]?
theorem KpV.refl (B : Nat) (a : Option Addr) (W : World) : KpV B a W W := ⟨rfl, fun _ _ => rfl⟩
theorem KpV.trans {B : Nat} {a : Option Addr} {A C D : World} (h : KpV B a A C) (k : KpV B a C D) : KpV B a A D := ⟨k.1.trans h.1, fun p e => (k.2 p e).trans (h.2 p e)⟩
theorem KpV.box {B : Nat} {a : Option Addr} {W W' : World} (h : KpV B a W W') {v : Value} (hb : W.cell? ⟨B, 0, none⟩ = some v) : W'.cell? ⟨B, 0, none⟩ = some v := (World.cell?_of_block h.1).trans hb
theorem KpV.ints {B : Nat} {a : Option Addr} {W W' : World} (h : KpV B a W W') {l : List Int} (hb : Ints W a l) : Ints W' a l := by
  refine ⟨hb.len, ?_⟩
  rcases hb.at_ with e | ⟨b, off, rfl, hc⟩
  · exact .inl e
  · have e := h.2 _ rfl
    dsimp only at e
    exact .inr ⟨b, off, rfl, fun i hi => (World.cell?_of_block (a := ⟨b, off + i, none⟩) e).trans (hc i hi)⟩
theorem KpV.of_below {B n : Nat} {a : Option Addr} {W W' : World} (h : Below n W W') (hB : B < n) (ha : ∀ p, a = some p → p.block < n) : KpV B a W W' := ⟨h.block B hB, fun p e => h.block _ (ha p e)⟩
theorem KpV.put {B n : Nat} {a : Option Addr} (hB : B < n) (ha : ∀ p, a = some p → p.block < n) (W : World) (l : Nat) (o o' : Obj) (hl : n ≤ l) (_ : W.heap[l]? = some o) (_ : o.isCells = false) (_ : o.isWalk = false) : KpV B a W (W.putObj l o') := by
  have h1 : l ≠ B := by omega
  refine ⟨by simp [World.putObj, h1], fun p e => ?_⟩
  have h2 : l ≠ p.block := by have := ha p e; omega
  simp [World.putObj, h2]
set_option maxRecDepth 100000 in
set_option maxHeartbeats 4000000 in
theorem values1_in {α : Type} (vl : α → Int) (l B n c : Nat) (a : Option Addr) (ys : List α) (hn : ys.length = n) (hlen : n ≤ 17592186044416) (J Jx : List α → World → Prop)
    (hY : ∀ pre x W, J pre W → pre.length < n → YieldAt Fence.wide 4 Try.prog l #[.int .i64 (vl x)] W fun e W' => (e = .returned (.bool true) ∧ J (pre ++ [x]) W' ∧ KpV B a W W') ∨ (e = .returned (.bool false) ∧ Jx (pre ++ [x]) W'))
    (W : World) (h : VlAt W B a n c (ys.map vl)) (h0 : J [] W) :
    CallsIn Fence.wide 5 Try.prog 25 #[.func (.yield l) #[] #[], .pointer (some ⟨B, 0, none⟩)] W fun e W' => (∃ v, e = .returned v) ∧ (J ys W' ∨ (∃ pre, pre <+: ys ∧ Jx pre W')) := by
  have HS : Hid (VlAt W B a n c (ys.map vl)) := h
  have hbx := h.box
  clear h
  refine callsIn_of_wp Try.func25 rfl trivial ?_ rfl
  simp only [Try.ntmps25, List.size_toArray, List.length_cons, List.length_nil, Nat.reduceAdd, Nat.reduceSub, Array.replicate_succ, Array.replicate_zero, List.push_toArray, List.append_toArray, List.nil_append, List.cons_append]
  gi_wp2
  clear hbx
  gi_loopw [7] (fun s7 wr => ∃ (k : Nat), k ≤ n ∧ s7 = .int .i64 (k : Int) ∧ J (ys.take k) wr ∧ KpV B a W wr) (fun s7 _ => n - (intOf s7).toNat)
  case atStart => exact ⟨0, Nat.zero_le _, rfl, h0, KpV.refl _ _ _⟩
  case round =>
    obtain ⟨k, hk, rfl, hJ, hb⟩ := hrel
    by_cases hlt : k < n
    · have hlt' : (k : Int) < (n : Int) := by omega
      obtain ⟨b, off, rfl, hcell⟩ : ∃ b off, a = some ⟨b, off, none⟩ ∧ wr.cell? ⟨b, off + k, none⟩ = some (.int .i64 (vl (ys[k]'(by omega)))) := by
        have hi := hb.ints HS.out.row
        rcases hi.at_ with e | ⟨b, off, rfl, hc⟩
        · have := congrArg List.length e; rw [List.length_map, hn, List.length_nil] at this; omega
        · refine ⟨b, off, rfl, ?_⟩
          rw [hc k (by simp; omega)]
          simp [nth, List.getD, hn, hlt]
      obtain ⟨fn, tmps, assign, body, hy, hR⟩ := hY (ys.take k) (ys[k]'(by omega)) wr hJ (by simp; omega)
      have HJ : Hid (J (ys.take k) wr ∧ KpV B (some ⟨b, off, none⟩) W wr) := ⟨hJ, hb⟩
      clear hJ hb
      have htk : ys.take k ++ [ys[k]'(by omega)] = ys.take (k + 1) := by simp
      rw [htk] at hR
      obtain ⟨x, hx⟩ : ∃ x, vl (ys[k]'(by omega)) = x := ⟨_, rfl⟩
      rw [hx] at hcell hy
      gi_wp2
      refine hR.mono ?_
      rintro e W3 (⟨rfl, hJ3, hk3⟩ | ⟨rfl, hJx3⟩)
      · gi_wp2
        go_roundw
        case rel => exact ⟨k + 1, by omega, (by go_num), hJ3, HJ.out.2.trans hk3⟩
        case measure => simp [intOf]; omega
      · gi_wp2
        refine bodyPost_ret (results_none rfl _ _ _) rfl ?_
        exact ⟨⟨_, rfl⟩, .inr ⟨_, List.take_prefix _ _, hJx3⟩⟩
    · have hlt' : ¬ (k : Int) < (n : Int) := by omega
      have hkn : k = n := by omega
      gi_wp2
      go_end0
      refine ⟨⟨_, rfl⟩, .inl ?_⟩
      rw [hkn, ← hn, List.take_length] at hJ
      exact hJ
theorem values_stops {α : Type} (vl : α → Int) (B n c : Nat) (a : Option Addr) (ys : List α) (w : World) (h : VlAt w B a n c (ys.map vl)) (hlen : n ≤ 17592186044416) (_ : ∀ p, a = some p → p.block < w.heap.size) :
    SeqStopsK Fence.wide 5 Try.prog 25 #[.pointer (some ⟨B, 0, none⟩)] (fun x : α => #[.int .i64 (vl x)]) (KpV B a) (fun xs => xs = ys) (fun pre => pre <+: ys) n w := fun l J Jx W hW _ _ hY h0 => by
  have hn : ys.length = n := by rw [← h.len, List.length_map]
  have hv : VlAt W B a n c (ys.map vl) := ⟨(hW.cell (p := ⟨B, 0, none⟩) h.ltB).trans h.box, h.row.on hW, h.len⟩
  refine (values1_in vl l B n c a ys hn hlen J Jx hY W hv h0).mono ?_
  rintro e W' ⟨hv, h | h⟩
  · exact ⟨hv, .inl ⟨ys, rfl, h⟩⟩
  · exact ⟨hv, .inr h⟩
/-- between two rounds of AppendSeq -/
structure ApV (w w1 : World) (B : Nat) (a : Option Addr) (pre : List Int) (W : World) : Prop where
  box : ∃ v, Boxed W w.heap.size 22 v ∧ W.ownsRow w.heap.size 3 1 v pre.length (pre.map (Value.int .i64)) ∧ (v = .slice none 0 0 ↔ pre = [])
  bel : Below w.heap.size w W
theorem ApV.own (w w1 : World) (B : Nat) (a : Option Addr) (h1 : w.heap.size < w1.heap.size) : OwnFrom w1.heap.size (ApV w w1 B a) := by
  have := OwnFrom.and (Own.from (holdsRow_own (β := List Int) w.heap.size w.heap.size 22 3 1 (fun pre => pre.length) (fun pre => pre.map (Value.int .i64)) (fun pre v => (v = .slice none 0 0 ↔ pre = []))) w1.heap.size) (ownFrom_below (β := List Int) (n₀ := w.heap.size) (w₀ := w) (Nat.le_refl _) (by omega))
  intro s A C row hs hg hr
  obtain ⟨h2, h3⟩ := this s A C row ⟨hs.box, hs.bel⟩ hg hr
  exact ⟨h2, h3⟩
theorem infoI18 : (Try.prog.info? 3).map (fun i => (i.zero, i.size, i.bytes)) = some (some (.int .i64 0), 1, 8) := by kernel_rfl
set_option maxRecDepth 100000 in
set_option maxHeartbeats 4000000 in
theorem appSeq_any (w : World) (B n c : Nat) (a : Option Addr) (l : List Int) (h : VlAt w B a n c l) (hlen : n ≤ 17592186043904) (ha : ∀ p, a = some p → p.block < w.heap.size) :
    CallsIn Fence.wide 6 Try.prog 27 #[.slice none 0 0, .func (.func 25) #[] #[.pointer (some ⟨B, 0, none⟩)]] w fun e w' => ∃ v : Value, e = .returned v ∧ w'.ownsRow w.heap.size 3 1 v n (l.map (Value.int .i64)) ∧ (v = .slice none 0 0 ↔ l = []) ∧ Below w.heap.size w w' := by
  obtain ⟨i0, hi, hz0, hz1, hz2⟩ := info_parts infoI18
  have HS : Hid (VlAt w B a n c l) := h
  have hB := h.ltB
  have hln := h.len
  clear h
  refine callsIn_of_wp_marks Try.func27 rfl trivial ?_ rfl
  simp only [Try.ntmps27, List.size_toArray, List.length_cons, List.length_nil, Nat.reduceAdd, Nat.reduceSub, Array.replicate_succ, Array.replicate_zero, List.push_toArray, List.append_toArray, List.nil_append, List.cons_append]
  gi_wp2
  obtain ⟨w1, hw1⟩ : ∃ w1, w.alloc (.cells #[.slice none 0 0] 22) = w1 := ⟨_, rfl⟩
  have hs1 : w1.heap.size = w.heap.size + 1 := by rw [← hw1]; simp
  have HB1 : Hid (Below w.heap.size w w1 ∧ Boxed w1 w.heap.size 22 (.slice none 0 0)) := ⟨by rw [← hw1]; exact (Below.refl _ w).alloc (Nat.le_refl _) _, by rw [← hw1]; exact Boxed.new w _ _⟩
  rw [hw1]
  clear hw1
  have hmid : List.map (fun x : Int => x) l = l := by simp
  refine wpIn_rangeFunc_ownG rfl (by omega) (gf := 25) (lb := #[.pointer (some ⟨B, 0, none⟩)]) rfl trivial (enters_of Try.func25 (by kernel_rfl) rfl)
    (values_stops (fun x : Int => x) B n c a l w (by rw [hmid]; exact HS.out) (by omega) ha) (fun h k => h.trans k) (KpV.put (by omega) (fun p e => by have := ha p e; omega)) HB1.out.1 (fun _ => rfl)
    (ApV w w1 B a) (fun _ _ _ => False) (ApV.own w w1 B a (by omega)) (fun _ _ _ _ _ hs _ _ => hs.elim) ⟨⟨_, HB1.out.2, World.ownsRow_nil _ _ _ _, by simp⟩, HB1.out.1⟩ ?a1 ?assign ?body ?done ?stop
  case assign =>
    intro l x W K hK
    gi_wp2
    exact hK
  case stop => exact fun _ _ _ _ _ _ h _ => h.elim
  case body =>
    rintro lp pre x W hI hlt
    obtain ⟨v, hv, hrow, hnil⟩ := hI.box
    have hbl := hI.bel
    have hvc := hv.cell
    have HI : Hid (ApV w w1 B a pre W) := hI
    clear hI
    gi_wp2_with (gi_at_builtin; refine wpListIn_append_own _ rfl _ _ 22 rfl w.heap.size 3 i0 (.int .i64 0) 1 8 Try.underlying22 hi hz0 hz1 hz2 rfl (by decide) _ _ _ rfl (hrow.alloc _) ⟨W.heap.size, 0, none⟩ 1 1 [.int .i64 x] rfl rfl (cell_one_new _ _ _) (by simp [Value.oneCell']) (by unfold maxLen; omega) (by omega) (by have := hbl.size; simp; omega) ?_; intro v' w2 hown' hgrow _; obtain ⟨g', cap', rfl⟩ := ownsRow_succ hown'; obtain ⟨hv1, hv2, hr2, hk2, hb2⟩ := hv.appended (by decide) hrow hbl.size (Nat.le_refl _) hown' hgrow; have hc1 := hv1.cell; have hf1 := hv1.frozen)
    refine ⟨hk2.from _, KpV.of_below hb2 hB ha, ⟨⟨_, hv2, ?_, by simp⟩, HI.out.bel.trans hb2⟩⟩
    simpa using hr2
  case done =>
    rintro D ys W hD hS hI hK
    subst hS
    obtain ⟨v, hv, hrow, hnil⟩ := hI.box
    have hbl := hI.bel
    have hvc := hv.cell
    gi_wp2
    refine ⟨by simp, .inl ⟨_, _, rfl, run_takeDeferred hK, ?_⟩⟩
    exact ⟨_, results_tmp rfl _ _ _, v, rfl, by rw [← hln]; exact ownsRow_putObj hrow _ hK rfl, hnil, hbl.trans (belowK_b (w := w) (Nat.le_refl _) W D _ _ (by omega) hK rfl rfl)⟩
end Go.Proofs.Ytgkgcocpkammfaa

namespace Go.Proofs.Ytgkgcocpkammfaa
open Go.Shelf
def compA_ren : Go.Shelf.Ren := ⟨fun | 20 => 13 | n => n, fun | 0 => 0 | 3 => 3 | 4 => 4 | 22 => 22 | n => n, fun | n => n⟩
theorem compA : Go.Proofs.Lays2.n20 Try.prog compA_ren := {
  mixed := by kernel_rfl
  f20 := Try.func13.trans (congrArg some (by kernel_rfl))
  t0 := Try.underlying0
  a0 := Try.isAgg0
  z0 := Try.sizeOf0
  v0 := Try.zeroValue0
  t3 := Try.underlying3
  a3 := Try.isAgg3
  z3 := Try.sizeOf3
  v3 := Try.zeroValue3
  i3 := by kernel_rfl
  t4 := Try.underlying4
  a4 := Try.isAgg4
  z4 := Try.sizeOf4
  v4 := Try.zeroValue4
  t22 := Try.underlying22
  a22 := Try.isAgg22
  z22 := Try.sizeOf22
  v22 := Try.zeroValue22 }
end Go.Proofs.Ytgkgcocpkammfaa

namespace Go.Proofs.Ytgkgcocpkammfaa
open Go.RowKit Go.Shelf Go.Sort Rec
attribute [local go_sem] Oper.semAt_some

set_option maxRecDepth 100000 in
theorem collect_any (w : World) (B n c : Nat) (a : Option Addr) (l : List Int) (h : VlAt w B a n c l) (hlen : n ≤ 17592186043904) (ha : ∀ p, a = some p → p.block < w.heap.size) :
    Calls Try.prog 23 #[.func (.func 25) #[] #[.pointer (some ⟨B, 0, none⟩)]] w fun e w' => ∃ v : Value, e = .returned v ∧ w'.ownsRow w.heap.size 3 1 v n (l.map (Value.int .i64)) ∧ (v = .slice none 0 0 ↔ l = []) ∧ Below w.heap.size w w' := by
  have HC : Hid (Calls Try.prog 27 #[.slice none 0 0, .func (.func 25) #[] #[.pointer (some ⟨B, 0, none⟩)]] w fun e w' => ∃ v : Value, e = .returned v ∧ w'.ownsRow w.heap.size 3 1 v n (l.map (Value.int .i64)) ∧ (v = .slice none 0 0 ↔ l = []) ∧ Below w.heap.size w w') := callsIn_wide.1 (appSeq_any w B n c a l h hlen ha)
  clear h hlen ha
  go_enter Try.func23, Try.ntmps23
  go_wp2_with (go_at_call 27; refine HC.out.mono ?_; rintro e w1 ⟨v, rfl, h1, h2, h3⟩; have H1 : Hid (w1.ownsRow w.heap.size 3 1 v n (l.map (Value.int .i64)) ∧ (v = .slice none 0 0 ↔ l = []) ∧ Below w.heap.size w w1) := ⟨h1, h2, h3⟩; clear h1 h2 h3)
  go_ret
  exact ⟨v, rfl, H1.out⟩
def srt (l : List Int) : List Int := l.mergeSort fun x y => decide (x ≤ y)
theorem srt_len (l : List Int) : (srt l).length = l.length := by simp [srt]
set_option maxRecDepth 100000 in
theorem sorted_any (w : World) (B n c : Nat) (a : Option Addr) (l : List Int) (h : VlAt w B a n c l) (hlen : n ≤ 17592186043904) (ha : ∀ p, a = some p → p.block < w.heap.size) :
    Calls Try.prog 14 #[.func (.func 25) #[] #[.pointer (some ⟨B, 0, none⟩)]] w fun e w' => ∃ (v : Value), e = .returned v ∧ w'.ownsRow w.heap.size 3 1 v n ((srt l).map (Value.int .i64)) ∧ Below w.heap.size w w' := by
  have HCh : Hid (Calls Try.prog 23 #[.func (.func 25) #[] #[.pointer (some ⟨B, 0, none⟩)]] w fun e w' => ∃ v : Value, e = .returned v ∧ w'.ownsRow w.heap.size 3 1 v n (l.map (Value.int .i64)) ∧ (v = .slice none 0 0 ↔ l = []) ∧ Below w.heap.size w w') := collect_any w B n c a l h hlen ha
  have hln := h.len
  clear h ha
  by_cases hl : l = []
  · subst hl
    have hn : n = 0 := by simpa using hln.symm
    subst hn
    have HS : Hid (∀ W, Calls Try.prog 24 #[.slice none 0 0] W fun e w' => e = .returned (.tuple #[]) ∧ w' = W) := fun W => AnyM.slices_Sort_int_none sortA none 0 W
    go_enter Try.func14, Try.ntmps14
    go_wp2_with (first
      | (go_at_call 23; refine HCh.out.mono ?_; rintro e w1 ⟨v, rfl, h1, h2, h3⟩; obtain rfl := h2.2 rfl; have H1 : Hid (w1.ownsRow w.heap.size 3 1 (.slice none 0 0) 0 [] ∧ Below w.heap.size w w1) := ⟨h1, h3⟩; clear h1 h2 h3)
      | (go_at_call 24; refine (HS.out _).mono ?_; rintro e w2 ⟨rfl, rfl⟩))
    go_ret
    exact ⟨.slice none 0 0, rfl, by simpa [srt] using H1.out.1, H1.out.2⟩
  · have HS : Hid (∀ (W : World) (gb cap : Nat) (cur : Array Value), W.heap[gb]? = some (.cells cur 3 (0, 0)) → cur.toList.take l.length = l.map (Value.int .i64) → Calls Try.prog 24 #[.slice (some ⟨gb, 0, none⟩) n cap] W fun e w' => e = .returned (.tuple #[]) ∧ ∃ k os, w' = grow (putRow (Value.int .i64) (Sort.ahead W k) gb 0 (srt l).toArray) os) := fun W gb cap cur h1 h2 => by
      have := AnyM.slices_Sort_int sortA gb 0 cap l W (holds_of_blockI h1 h2) (Array.getElem?_eq_some_iff.1 h1).1 (by omega)
      rw [hln] at this
      exact this
    go_enter Try.func14, Try.ntmps14
    go_wp2_with (first
      | (go_at_call 23; refine HCh.out.mono ?_; rintro e w1 ⟨v, rfl, h1, h2, h3⟩; rcases h1.2 with ⟨rfl, hz⟩ | ⟨gb, cap, cur, rfl, hbase, hgb, r1, r2, r3, r4⟩
         next => exact absurd (h2.1 rfl) hl
         have H1 : Hid (w1.heap[gb]? = some (.cells cur 3 (0, 0)) ∧ w.heap.size ≤ gb ∧ n ≤ cap ∧ cap ≤ maxLen ∧ cur.size = cap * 1 ∧ cur.toList.take l.length = l.map (Value.int .i64) ∧ Below w.heap.size w w1) := ⟨hgb, hbase, r1, r2, r3, by rw [hln]; simpa using r4, h3⟩; clear h1 h2 h3 hgb hbase r1 r2 r3 r4)
      | (go_at_call 24; refine (HS.out w1 gb cap cur H1.out.1 H1.out.2.2.2.2.2.1).mono ?_; rintro e w2 ⟨rfl, k, os, h2⟩; have H2 : Hid (w2 = grow (putRow (Value.int .i64) (Sort.ahead w1 k) gb 0 (srt l).toArray) os) := h2; clear h2))
    go_ret
    obtain ⟨q1, q2, q3, q4, q5, q6, q7⟩ := H1.out
    have e2 := H2.out
    subst e2
    refine ⟨_, rfl, ?_, q7.grown (grownBy_sortedI _) q7.size (fun j hj => by cases hj; exact q2)⟩
    have := ownsRow_sortedI (n := k) (os := os) (srt_len l) q2 q1 (by omega) q4 q5
    rw [hln] at this
    exact this
theorem ints_owns {w : World} {base n : Nat} {v : Value} {l : List Int} (h : w.ownsRow base 3 1 v n (l.map (Value.int .i64))) (hl : l.length = n) (hb : l.length ≤ 1000000000000000) : ∃ (a : Option Addr) (c : Nat), v = .slice a n c ∧ Ints w a l ∧ (∀ p, a = some p → p.block < w.heap.size ∧ base ≤ p.block) := by
  rcases h.2 with ⟨rfl, hz⟩ | ⟨gb, cap, cur, rfl, hbase, hgb, r1, r2, r3, r4⟩
  · subst hz
    exact ⟨none, 0, rfl, ⟨hb, .inl (List.eq_nil_of_length_eq_zero hl)⟩, fun p e => by cases e⟩
  · refine ⟨_, _, rfl, ⟨hb, .inr ⟨gb, 0, rfl, fun i hi => ?_⟩⟩, fun p e => by cases e; exact ⟨(Array.getElem?_eq_some_iff.1 hgb).1, hbase⟩⟩
    have := h.cellAt i (by omega)
    simp only [Nat.zero_add]
    rw [this]
    simp [nth, List.getD, hi]
theorem grow_nil (W : World) : grow W #[] = W := by cases W; simp [grow]
theorem putRow_lt {w : World} {q gb : Nat} {d : Array Int} (h : gb < w.heap.size) : gb < (putRow (Value.int .i64) (Sort.ahead w q) gb 0 d).heap.size := by
  simpa [putRow, mapBlock, Sort.ahead] using h
theorem compA_len (l : List Int) : (Go.Lib.compact l).length ≤ l.length := Go.Lib.compact_length_le l
set_option maxRecDepth 100000 in
/-- slices.Compact of a row of one's own -/
theorem compact_any (w : World) (base n : Nat) (v : Value) (l : List Int) (h : w.ownsRow base 3 1 v n (l.map (Value.int .i64))) (hl : l.length = n) (hlen : n ≤ 17592186043904) (hbs : base ≤ w.heap.size) :
    Calls Try.prog 13 #[v] w fun e w' => ∃ (a : Option Addr) (c : Nat), e = .returned (.slice a (Go.Lib.compact l).length c) ∧ Ints w' a (Go.Lib.compact l) ∧ (∀ p, a = some p → p.block < w'.heap.size) ∧ Below base w w' := by
  have hcl := compA_len l
  rcases h.2 with ⟨rfl, hz⟩ | ⟨gb, cap, cur, rfl, hbase, hgb, r1, r2, r3, r4⟩
  · subst hz
    have e := List.eq_nil_of_length_eq_zero hl
    subst e
    refine (Any.slices_Compact_int_empty compA none 0 w).mono ?_
    rintro e w' ⟨rfl, rfl⟩
    exact ⟨none, 0, rfl, ⟨by omega, .inl rfl⟩, (fun p e => by cases e), Below.refl _ _⟩
  · have hH : Holds (Value.int .i64) w gb 0 l.toArray := holds_of_blockI hgb (by rw [hl]; simpa using r4)
    have hx := Any.slices_Compact_int compA gb 0 cap l w hH (by omega) (by omega)
    rw [hl] at hx
    refine hx.mono ?_
    rintro e w' ⟨rfl, q, rfl⟩
    obtain ⟨z, hz⟩ : ∃ z, Go.Lib.compact l ++ List.replicate (n - (Go.Lib.compact l).length) (0 : Int) = z := ⟨_, rfl⟩
    have hzl : z.length = n := by rw [← hz]; simp; omega
    have hgl : gb < w.heap.size := (Array.getElem?_eq_some_iff.1 hgb).1
    have hcell : ∀ i, i < n → (putRow (Value.int .i64) (Sort.ahead w q) gb 0 z.toArray).cell? ⟨gb, i, none⟩ = some (.int .i64 (nth z i)) := fun i hi => by
      have h2 : (grow (putRow (Value.int .i64) (Sort.ahead w q) gb 0 z.toArray) #[]).ownsRow base 3 1 (.slice (some ⟨gb, 0, none⟩) n cap) n (z.map (Value.int .i64)) := by
        have := ownsRow_sortedI (n := q) (os := #[]) (ss := l) (ts := z) (by omega) hbase hgb (by omega) r2 r3
        rw [hl] at this
        exact this
      have h3 := h2.cellAt i (by omega)
      have h4 : grow (putRow (Value.int .i64) (Sort.ahead w q) gb 0 z.toArray) #[] = putRow (Value.int .i64) (Sort.ahead w q) gb 0 z.toArray := grow_nil _
      rw [h4] at h3
      rw [h3]
      simp [nth, List.getD, hzl, hi]
    have hbl : Below base w (putRow (Value.int .i64) (Sort.ahead w q) gb 0 z.toArray) := by
      have := (Below.refl base w).grown (grownBy_sortedI (w := w) (g := gb) (n := q) (os := #[]) z.toArray) hbs (fun j hj => by cases hj; exact hbase)
      rw [grow_nil] at this
      exact this
    rw [hz]
    refine ⟨_, _, rfl, ⟨by omega, .inr ⟨gb, 0, rfl, fun i hi => ?_⟩⟩, fun p e => by cases e; exact putRow_lt hgl, hbl⟩
    simp only [Nat.zero_add]
    rw [hcell i (by omega), ← hz]
    simp [nth, List.getD, hi, List.getElem?_append_left hi]
end Go.Proofs.Ytgkgcocpkammfaa

namespace Go.Proofs.Ytgkgcocpkammfaa
open Go.RowKit Go.Shelf Rec
attribute [local go_sem] Oper.semAt_some

set_option maxRecDepth 100000 in
theorem isFar_any (w : World) (k : Int) : Calls Try.prog 12 #[.int .i64 k] w fun e w' => e = .returned (.bool (decide (k < 0 ∨ 16522 ≤ k))) ∧ w = w' := by
  by_cases h0 : k < 0
  · rw [decide_eq_true (.inl h0)]
    go_enter Try.func12, Try.ntmps12
    go_wp2
    go_ret
    exact ⟨rfl, rfl⟩
  · by_cases h1 : 16522 ≤ k
    · rw [decide_eq_true (.inr h1)]
      go_enter Try.func12, Try.ntmps12
      go_wp2
      go_ret
      exact ⟨rfl, rfl⟩
    · rw [decide_eq_false (by omega)]
      go_enter Try.func12, Try.ntmps12
      go_wp2
      go_ret
      exact ⟨rfl, rfl⟩
/-- is there an index that is far? -/
def farL (l : List Int) : Bool := l.any fun k => decide (k < 0 ∨ 16522 ≤ k)
theorem farL_no {l : List Int} (h : farL l = false) : ∀ k ∈ l, 0 ≤ k ∧ k ≤ 16521 := fun k hk => by
  have := List.any_eq_false.1 h k hk
  simp at this
  omega
set_option maxRecDepth 100000 in
set_option maxHeartbeats 4000000 in
theorem indexFunc_any (w : World) (a : Option Addr) (n c : Nat) (l : List Int) (h : Ints w a l) (hl : l.length = n) (hlen : n ≤ 17592186043904) :
    Calls Try.prog 22 #[.slice a n c, .func (.func 12) #[] #[]] w fun e w' => ∃ r : Int, e = .returned (.int .i64 r) ∧ w = w' ∧ (farL l = true ↔ 0 ≤ r) := by
  have HI : Hid (Ints w a l) := h
  have HF : Hid (∀ W k, Calls Try.prog 12 #[.int .i64 k] W fun e w' => e = .returned (.bool (decide (k < 0 ∨ 16522 ≤ k))) ∧ W = w') := fun W k => isFar_any W k
  clear h
  go_enter Try.func22, Try.ntmps22
  go_wp2
  go_loopw [8] (fun s8 wr => ∃ k : Nat, k ≤ n ∧ s8 = .int .i64 (k : Int) ∧ wr = w ∧ ∀ i, i < k → (nth l i < 0 ∨ 16522 ≤ nth l i) = False) (fun s _ => n - (intOf s).toNat)
  case atStart => exact ⟨0, Nat.zero_le _, rfl, rfl, fun i hi => by omega⟩
  case round =>
    obtain ⟨k, hk, rfl, rfl, hpre⟩ := hrel
    by_cases hlt : k < n
    · have hlt' : (k : Int) < (n : Int) := by omega
      obtain ⟨b, off, rfl, hcell⟩ : ∃ b off, a = some ⟨b, off, none⟩ ∧ wr.cell? ⟨b, off + k, none⟩ = some (.int .i64 (nth l k)) := by
        rcases HI.out.at_ with e | ⟨b, off, rfl, hc⟩
        · rw [e] at hl; simp at hl; omega
        · exact ⟨b, off, rfl, hc k (by omega)⟩
      obtain ⟨x, hx⟩ : ∃ x, nth l k = x := ⟨_, rfl⟩
      have hxm : x ∈ l := by
        have hk2 : k < l.length := by omega
        rw [← hx, nth, List.getD_eq_getElem?_getD, List.getElem?_eq_getElem hk2]
        exact List.getElem_mem hk2
      rw [hx] at hcell
      have HP : Hid (∀ i, i < k → (nth l i < 0 ∨ 16522 ≤ nth l i) = False) := hpre
      clear hpre
      by_cases hfar : x < 0 ∨ 16522 ≤ x
      · have HF2 : Hid (Calls Try.prog 12 #[.int .i64 x] wr fun e w' => e = .returned (.bool true) ∧ wr = w') := by
          have := HF.out wr x
          rw [decide_eq_true hfar] at this
          exact this
        have HX : Hid (farL l = true) := List.any_eq_true.2 ⟨x, hxm, by simpa using hfar⟩
        clear hfar
        go_wp2_with (go_at_call 12; refine HF2.out.mono ?_; rintro e w1 ⟨rfl, rfl⟩)
        go_ret
        exact ⟨_, rfl, rfl, by simp [HX.out]⟩
      · have HF2 : Hid (Calls Try.prog 12 #[.int .i64 x] wr fun e w' => e = .returned (.bool false) ∧ wr = w') := by
          have := HF.out wr x
          rw [decide_eq_false hfar] at this
          exact this
        have HX : Hid (¬ (x < 0 ∨ 16522 ≤ x)) := hfar
        clear hfar
        go_wp2_with (go_at_call 12; refine HF2.out.mono ?_; rintro e w1 ⟨rfl, rfl⟩)
        go_roundw
        case rel =>
          refine ⟨k + 1, by omega, (by go_num), (by first | trivial | rfl), fun i hi => ?_⟩
          by_cases e : i = k
          · subst e; rw [hx]; exact eq_false HX.out
          · exact HP.out i (by omega)
        case measure => simp [intOf]; omega
    · have hlt' : ¬ (k : Int) < (n : Int) := by omega
      have hkn : k = n := by omega
      have HP : Hid (∀ i, i < k → (nth l i < 0 ∨ 16522 ≤ nth l i) = False) := hpre
      clear hpre
      go_wp2
      go_ret
      refine ⟨_, rfl, rfl, ⟨fun e => ?_, fun e => by omega⟩⟩
      obtain ⟨x, hx, hf⟩ := List.any_eq_true.1 e
      obtain ⟨i, hi, rfl⟩ := List.mem_iff_getElem.1 hx
      have := HP.out i (by omega)
      rw [show nth l i = l[i] by simp [nth, List.getD, hi]] at this
      rw [decide_eq_true_eq, this] at hf
      exact hf.elim
set_option maxRecDepth 100000 in
theorem containsFunc_any (w : World) (a : Option Addr) (n c : Nat) (l : List Int) (h : Ints w a l) (hl : l.length = n) (hlen : n ≤ 17592186043904) :
    Calls Try.prog 11 #[.slice a n c, .func (.func 12) #[] #[]] w fun e w' => e = .returned (.bool (farL l)) ∧ w = w' := by
  have HC : Hid (Calls Try.prog 22 #[.slice a n c, .func (.func 12) #[] #[]] w fun e w' => ∃ r : Int, e = .returned (.int .i64 r) ∧ w = w' ∧ (farL l = true ↔ 0 ≤ r)) := indexFunc_any w a n c l h hl hlen
  clear h
  cases hf : farL l
  · go_enter Try.func11, Try.ntmps11
    go_wp2_with (go_at_call 22; refine HC.out.mono ?_; rintro e w1 ⟨r, rfl, rfl, hr⟩; have hr0 : ¬ 0 ≤ r := (fun e => by rw [hf] at hr; exact absurd (hr.2 e) (by decide)); clear hr)
    go_ret
    refine ⟨?_, rfl⟩
    show Ending.returned (.bool (decide (0 ≤ r))) = _
    rw [decide_eq_false (by omega)]
  · go_enter Try.func11, Try.ntmps11
    go_wp2_with (go_at_call 22; refine HC.out.mono ?_; rintro e w1 ⟨r, rfl, rfl, hr⟩; have hr0 : 0 ≤ r := hr.1 hf; clear hr)
    go_ret
    exact ⟨rfl, rfl⟩
end Go.Proofs.Ytgkgcocpkammfaa

namespace Go.Proofs.Ytgkgcocpkammfaa
open Go.RowKit Rec

theorem res_row9 {fn : Func} {p : Tmp} {ty : TypeId} (h : fn.results = #[.cell p ty]) (tmps : Array Value) (w : World) (g : Nat) (cs : Array Value)
    (hp : tmps.getD p undef = .pointer (some ⟨g, 0, none⟩)) (hl : (loadVar ty ⟨g, 0, none⟩).run Try.prog w = .ok (.agg cs) w) :
    (results fn tmps).run Try.prog w = .ok (.agg cs) w := by
  have e : (results fn tmps).run Try.prog w = ((asAddr (tmps.getD p undef)).run Try.prog w).andThen fun a w₁ => (loadVar ty a).run Try.prog w₁ := by
    simp only [results, h]
    simp [Sem.run_bind, Result.andThen]
  rw [e, hp]
  simp [asAddr, hl]
theorem res_tmp_row {fn : Func} {p u : Tmp} {ty : TypeId} (h : fn.results = #[.tmp u, .cell p ty]) (tmps : Array Value) (w : World) (g : Nat) (cs : Array Value)
    (hp : tmps.getD p undef = .pointer (some ⟨g, 0, none⟩)) (hl : (loadVar ty ⟨g, 0, none⟩).run Try.prog w = .ok (.agg cs) w) :
    (results fn tmps).run Try.prog w = .ok (.tuple #[tmps.getD u undef, .agg cs]) w := by
  have e : (results fn tmps).run Try.prog w = ((asAddr (tmps.getD p undef)).run Try.prog w).andThen fun a w₁ => ((loadVar ty a).run Try.prog w₁).andThen fun v w₂ => .ok (.tuple #[tmps.getD u undef, v]) w₂ := by
    simp only [results, h]
    simp [Sem.run_bind, Result.andThen]
  rw [e, hp]
  simp [asAddr, hl]
end Go.Proofs.Ytgkgcocpkammfaa

namespace Go.Proofs.Ytgkgcocpkammfaa
open Go.RowKit Go.Shelf Rec
attribute [local go_sem] Oper.semAt_some

def wyV (k : Int) : Value := .agg #[.int .i64 (wA k : Nat), .int .i64 (wB k : Nat)]
set_option maxRecDepth 100000 in
theorem way_any (w : World) (k : Int) (hk : 0 ≤ k ∧ k ≤ 16521) : Calls Try.prog 26 #[.int .i64 k] w fun e w' => e = .returned (wyV k) ∧ Below w.heap.size w w' := by
  by_cases c1 : k < 10
  · rw [wyV, wA, wB, if_pos c1, if_pos (by omega)]
    go_enter Try.func26, Try.ntmps26
    go_wp2
    refine bodyPost_ret (res_row9 rfl _ _ w.heap.size #[.int .i64 0, .int .i64 0] rfl (by simp [go_sem])) rfl ?_
    exact ⟨rfl, (Below.refl _ _).alloc (Nat.le_refl _) _⟩
  by_cases c2 : k < 138
  · rw [wyV, wA, wB, if_neg c1, if_pos c2, if_pos c2]
    go_enter Try.func26, Try.ntmps26
    go_wp2
    refine bodyPost_ret (res_row9 rfl _ _ w.heap.size #[.int .i64 1, .int .i64 0] rfl (by simp [go_sem])) rfl ?_
    exact ⟨rfl, (Below.refl _ _).alloc (Nat.le_refl _) _⟩
  · rw [wyV, wA, wB, if_neg c1, if_neg c2, if_neg c2]
    obtain ⟨q, hq⟩ : ∃ q : Nat, 3 + ((k - 138) / 128).toNat = q := ⟨_, rfl⟩
    have hq2 : 3 + (k - 138) / 128 = (q : Int) := by omega
    have c3 : ¬ k - 138 < 0 := by omega
    rw [hq]
    go_enter Try.func26, Try.ntmps26
    go_wp2
    refine bodyPost_ret (res_row9 rfl _ _ w.heap.size #[.int .i64 2, .int .i64 (q : Int)] rfl (by simp [go_sem])) rfl ?_
    exact ⟨rfl, (Below.refl _ _).alloc (Nat.le_refl _) _⟩
/-- which tables have been met -/
def mtF (t : List Nat) (i : Nat) : Bool := decide (i = 0 ∨ i ∈ t)
structure MetAt (W : World) (M : Nat) (f : Nat → Bool) : Prop where
  row : ∃ cur, W.heap[M]? = some (.cells cur 63 (0, 0)) ∧ cur.size = 131 ∧ ∀ i, i < 131 → cur[i]? = some (.bool (f i))
theorem MetAt.cell {W : World} {M i : Nat} {f : Nat → Bool} (h : MetAt W M f) (hi : i < 131) : W.cell? ⟨M, i, none⟩ = some (.bool (f i)) := by
  obtain ⟨cur, h1, h2, h3⟩ := h.row
  rw [cell_of_row _ _ _ _ _ _ h1]; exact h3 i hi
theorem MetAt.frozen {W : World} {M i : Nat} {f : Nat → Bool} (h : MetAt W M f) : W.frozen? ⟨M, i, none⟩ = false := by
  obtain ⟨cur, h1, h2, h3⟩ := h.row
  exact frozen_of_row _ _ _ _ _ h1
theorem MetAt.lt {W : World} {M : Nat} {f : Nat → Bool} (h : MetAt W M f) : M < W.heap.size := by
  obtain ⟨cur, h1, h2, h3⟩ := h.row
  exact (Array.getElem?_eq_some_iff.1 h1).1
theorem MetAt.kept {W W' : World} {M : Nat} {f : Nat → Bool} (h : MetAt W M f) (e : W'.heap[M]? = W.heap[M]?) : MetAt W' M f := by
  obtain ⟨cur, h1, h2, h3⟩ := h.row
  exact ⟨cur, e.trans h1, h2, h3⟩
theorem MetAt.set {W : World} {M i : Nat} {f g : Nat → Bool} (h : MetAt W M f) (hi : i < 131) (hg : ∀ j, j < 131 → g j = if j = i then true else f j) : MetAt (W.setCell ⟨M, i, none⟩ (.bool true)) M g := by
  obtain ⟨cur, h1, h2, h3⟩ := h.row
  have h4 := heap_setCell_same W M i cur _ (.bool true) h1
  refine ⟨_, h4, by simp [h2], fun j hj => ?_⟩
  rw [hg j hj]
  by_cases e : j = i
  · subst e; simp [h2, hj]
  · rw [if_neg e]
    have := h3 j hj
    simp only [Array.getElem?_setIfInBounds]
    rw [if_neg (fun x => e x.symm)]
    exact this
theorem mtF_ins {t : List Nat} {i : Nat} (h : ¬ (i = 0 ∨ i ∈ t)) (j : Nat) : mtF (insT t i) j = if j = i then true else mtF t j := by
  have : insT t i = t ++ [i] := by unfold insT; rw [if_neg h]
  rw [this]
  unfold mtF
  by_cases e : j = i
  · subst e; simp
  · rw [if_neg e]; simp [e]
abbrev Ix := { k : Int // 0 ≤ k ∧ k ≤ 16521 }
/-- between two rounds of taken -/
structure TkI (w w1 : World) (M C : Nat) (pre : List Ix) (W : World) : Prop where
  met : MetAt W M (mtF (tbs (pre.map (·.1))))
  cnt : Boxed W C 3 (.int .i64 (pTk (pre.map (·.1)) : Nat))
  bel : Below w.heap.size w W
theorem own_cells {W W' : World} {B k : Nat} {row : Option Nat} {o : Obj} (hg : W.grownBy W' row) (hr : ∀ r, row = some r → B ≤ r ∧ ∃ o : Obj, W.heap[r]? = some o ∧ o.isCells = false) (hk : W.heap[k]? = some o) (ho : o.isCells = true) : W'.heap[k]? = W.heap[k]? := by
  refine hg.block k (Array.getElem?_eq_some_iff.1 hk).1 (fun e => ?_)
  obtain ⟨_, o2, h2, h3⟩ := hr k e.symm
  rw [hk] at h2
  cases h2
  rw [ho] at h3
  cases h3
theorem TkI.own (w w1 : World) (M C : Nat) (h : w.heap.size ≤ w1.heap.size) : OwnFrom w1.heap.size (TkI w w1 M C) := by
  intro s A D row hs hg hr
  obtain ⟨cur, h1, h2, h3⟩ := hs.met.row
  exact ⟨hs.met.kept (own_cells hg hr h1 rfl), (own_cells hg hr hs.cnt rfl).trans hs.cnt, hs.bel.grown hg hs.bel.size (fun k e => Nat.le_trans h (hr k e).1)⟩
end Go.Proofs.Ytgkgcocpkammfaa

namespace Go.Proofs.Ytgkgcocpkammfaa
open Go.RowKit Go.Shelf Rec
attribute [local go_sem] Oper.semAt_some

def zc131 : Array Value := Array.replicate 131 (.bool false)
theorem zv131 (w : World) : (zeroValue 63).run Try.prog w = .ok (.agg zc131) w := by kernel_rfl
theorem zc131_at {i : Nat} (hi : i < 131) : zc131[i]? = some (.bool false) := by simp [zc131, hi]
theorem met0 (w : World) : MetAt (w.alloc (.cells (zc131.setIfInBounds 0 (.bool true)) 63)) w.heap.size (mtF []) := by
  refine ⟨_, heap_alloc_new _ _, by simp [zc131], fun i hi => ?_⟩
  unfold mtF
  by_cases e : i = 0
  · subst e; simp [zc131]
  · rw [Array.getElem?_setIfInBounds, if_neg (fun x => e x.symm), zc131_at hi]; simp [e]
theorem KpV.set {B k j : Nat} {a : Option Addr} (hB : B ≠ k) (ha : ∀ p, a = some p → p.block ≠ k) (W : World) (v : Value) : KpV B a W (W.setCell ⟨k, j, none⟩ v) :=
  ⟨Below.heap_setCell W ⟨k, j, none⟩ v B hB, fun p e => Below.heap_setCell W ⟨k, j, none⟩ v p.block (ha p e)⟩
/-- within a round of taken -/
structure TkR (w w1 W : World) (M C B : Nat) (a : Option Addr) (t : List Nat) (z : Nat) (wr : World) : Prop where
  met : MetAt wr M (mtF t)
  cnt : Boxed wr C 3 (.int .i64 (z : Int))
  bel : Below w.heap.size w wr
  kp : KpV B a W wr
  kf : KeepsFrom w1.heap.size W wr
theorem TkR.on {w w1 W : World} {M C B : Nat} {a : Option Addr} {t : List Nat} {z : Nat} {wr wx : World} (h : TkR w w1 W M C B a t z wr) (hb : Below wr.heap.size wr wx) (hB : B < W.heap.size) (ha : ∀ p, a = some p → p.block < W.heap.size) : TkR w w1 W M C B a t z wx := by
  have hs := h.kf.size
  exact ⟨h.met.kept (hb.block M h.met.lt), (hb.block C h.cnt.lt).trans h.cnt, h.bel.trans (hb.mono h.bel.size), h.kp.trans (KpV.of_below hb (by omega) (fun p e => by have := ha p e; omega)), h.kf.trans ⟨hb.size, fun k o _ hk _ => (hb.block k (Array.getElem?_eq_some_iff.1 hk).1).trans hk⟩⟩
theorem TkR.inc {w w1 W : World} {M C B : Nat} {a : Option Addr} {t : List Nat} {z z' : Nat} {wr : World} (h : TkR w w1 W M C B a t z wr) (hMC : M ≠ C) (hC : w.heap.size ≤ C) (hB : B ≠ C) (ha : ∀ p, a = some p → p.block ≠ C) (hz : z' = z + 1) : TkR w w1 W M C B a t z' (wr.setCell ⟨C, 0, none⟩ (.int .i64 ((z : Int) + 1))) := by
  subst hz
  refine ⟨h.met.kept (Below.heap_setCell wr ⟨C, 0, none⟩ _ M hMC), ?_, h.bel.setCell (p := ⟨C, 0, none⟩) hC _, h.kp.trans (KpV.set hB ha wr _), h.kf.trans ((KeepsOthers.setCell _ _ _).from _)⟩
  have := h.cnt.set (.int .i64 ((z : Int) + 1))
  rw [Int.natCast_add]
  exact this
theorem TkR.put {w w1 W : World} {M C B i : Nat} {a : Option Addr} {t : List Nat} {z : Nat} {wr : World} (h : TkR w w1 W M C B a t z wr) (hMC : M ≠ C) (hM : w.heap.size ≤ M) (hB : B ≠ M) (ha : ∀ p, a = some p → p.block ≠ M) (hi : i < 131) (hn : ¬ (i = 0 ∨ i ∈ t)) : TkR w w1 W M C B a (insT t i) z (wr.setCell ⟨M, i, none⟩ (.bool true)) :=
  ⟨h.met.set hi (fun j _ => mtF_ins hn j), (Below.heap_setCell wr ⟨M, i, none⟩ _ C (fun e => hMC e.symm)).trans h.cnt, h.bel.setCell (p := ⟨M, i, none⟩) hM _, h.kp.trans (KpV.set hB ha wr _), h.kf.trans ((KeepsOthers.setCell _ _ _).from _)⟩
def pr2 (x y : Nat) : Value := .agg #[.int .i64 (x : Int), .int .i64 (y : Int)]
theorem pr_i0 (w : World) (x y : Nat) : (Instr.index 64 (pr2 x y) (.int .i64 ((0 : Nat) : Int))).run Try.prog w = .ok (.int .i64 (x : Int)) w := by kernel_rfl
theorem pr_i1 (w : World) (x y : Nat) : (Instr.index 64 (pr2 x y) (.int .i64 ((1 : Nat) : Int))).run Try.prog w = .ok (.int .i64 (y : Int)) w := by kernel_rfl
/-- the table of a round of the inner loop -/
def tbN (k : Int) (i : Nat) : Nat := if i = 0 then wA k else wB k
def tbL (t : List Nat) (k : Int) (i : Nat) : List Nat := if i = 0 then t else if i = 1 then insT t (wA k) else tb1 t k
theorem tbL_succ (t : List Nat) (k : Int) {i : Nat} (hi : i < 2) : tbL t k (i + 1) = insT (tbL t k i) (tbN k i) := by
  rcases (show i = 0 ∨ i = 1 by omega) with rfl | rfl
  · rfl
  · rfl
theorem tbN_lt {k : Int} (hk : 0 ≤ k ∧ k ≤ 16521) (i : Nat) : tbN k i < 131 := by
  unfold tbN
  split
  · have := wA_le k; omega
  · have := wB_le hk; omega
set_option maxRecDepth 100000 in
set_option maxHeartbeats 8000000 in
theorem taken_in (w : World) (B n c : Nat) (a : Option Addr) (ys : List Ix) (h : VlAt w B a n c (ys.map (·.1))) (hlen : n ≤ 17592186043904) (ha : ∀ p, a = some p → p.block < w.heap.size) :
    CallsIn Fence.wide 6 Try.prog 16 #[.func (.func 25) #[] #[.pointer (some ⟨B, 0, none⟩)]] w fun e w' => e = .returned (.int .i64 (pTk (ys.map (·.1)) : Nat)) ∧ Below w.heap.size w w' := by
  have HS : Hid (VlAt w B a n c (ys.map (·.1))) := h
  have hB := h.ltB
  have hln := h.len
  clear h
  refine callsIn_of_wp_marks Try.func16 rfl trivial ?_ rfl
  simp only [Try.ntmps16, List.size_toArray, List.length_cons, List.length_nil, Nat.reduceAdd, Nat.reduceSub, Array.replicate_succ, Array.replicate_zero, List.push_toArray, List.append_toArray, List.nil_append, List.cons_append]
  have hzv := zv131
  gi_wp2
  obtain ⟨M, hM⟩ : ∃ M, w.heap.size = M := ⟨_, rfl⟩
  obtain ⟨w1, hw1⟩ : ∃ w1, (w.alloc (.cells (zc131.setIfInBounds 0 (.bool true)) 63)).alloc (.cells #[.int .i64 0] 3) = w1 := ⟨_, rfl⟩
  have HW : Hid (TkI w w1 M (M + 1) [] w1 ∧ Below w.heap.size w w1) := by
    have hb : Below w.heap.size w w1 := by rw [← hw1]; exact ((Below.refl _ w).alloc (Nat.le_refl _) _).alloc (by simp) _
    refine ⟨⟨?_, ?_, hb⟩, hb⟩
    · have := met0 w
      rw [← hw1, ← hM]
      exact this.kept (Below.heap_alloc _ _ _ (by simp))
    · have := Boxed.new (w.alloc (.cells (zc131.setIfInBounds 0 (.bool true)) 63)) 3 (.int .i64 0)
      rw [World.size_alloc, hw1, hM] at this
      exact this
  have hs1 : w1.heap.size = M + 2 := by rw [← hw1]; simp; omega
  rw [hw1]
  rw [hM] at hB
  have ha' : ∀ p, a = some p → p.block < M := fun p e => by rw [← hM]; exact ha p e
  clear hw1 hzv
  simp only [hM]
  refine wpIn_rangeFunc_ownG rfl (by omega) (gf := 25) (lb := #[.pointer (some ⟨B, 0, none⟩)]) rfl trivial (enters_of Try.func25 (by kernel_rfl) rfl)
    (values_stops (fun x : Ix => x.1) B n c a ys w HS.out (by omega) ha) (fun h k => h.trans k) (KpV.put (by omega) (fun p e => by have := ha' p e; omega)) HW.out.2 (fun _ => rfl)
    (TkI w w1 M (M + 1)) (fun _ _ _ => False) (TkI.own w w1 M (M + 1) (by omega)) (fun _ _ _ _ _ hs _ _ => hs.elim) HW.out.1 ?a1 ?assign ?body ?done ?stop
  case assign =>
    intro l x W K hK
    gi_wp2
    exact hK
  case stop => exact fun _ _ _ _ _ _ h _ => h.elim
  case body =>
    rintro lp pre ⟨k, hk⟩ W hI hlt
    obtain ⟨t, ht⟩ : ∃ t, tbs (pre.map (·.1)) = t := ⟨_, rfl⟩
    obtain ⟨z, hz⟩ : ∃ z, pTk (pre.map (·.1)) = z := ⟨_, rfl⟩
    have hMW := hI.met.lt
    have hWs : M ≤ W.heap.size := by omega
    have R0 : Hid (TkR w w1 W M (M + 1) B a t z W) := by
      have h1 := hI.met
      have h2 := hI.cnt
      rw [ht] at h1
      rw [hz] at h2
      exact ⟨h1, h2, hI.bel, KpV.refl _ _ _, KeepsFrom.refl _ _⟩
    have HZ : Hid (tbs (pre.map (·.1)) = t ∧ pTk (pre.map (·.1)) = z) := ⟨ht, hz⟩
    have hzb : z ≤ 17592186044500 := by
      rw [← hz, pTk, List.length_map]
      have := tbs_len (pre := pre.map (·.1)) (fun k hk => by obtain ⟨x, _, rfl⟩ := List.mem_map.1 hk; exact x.2)
      omega
    have hc := R0.out.cnt.cell
    have hf := R0.out.cnt.frozen
    clear ht hz hI
    have R1 : Hid (TkR w w1 W M (M + 1) B a t (z + 1) (W.setCell ⟨M + 1, 0, none⟩ (.int .i64 ((z : Int) + 1)))) := R0.out.inc (by omega) (by omega) (by omega) (fun p e => by have := ha' p e; omega) rfl
    obtain ⟨W1, hW1⟩ : ∃ W1, W.setCell ⟨M + 1, 0, none⟩ (.int .i64 ((z : Int) + 1)) = W1 := ⟨_, rfl⟩
    rw [hW1] at R1
    have HWy : Hid (CallsIn Fence.wide (6 - 1 - 1 - 1) Try.prog 26 #[.int .i64 k] W1 fun e w' => e = .returned (pr2 (wA k) (wB k)) ∧ Below W1.heap.size W1 w') := callsIn_wide.2 (way_any W1 k hk)
    have hfw : Fence.wide.fn 26 := trivial
    obtain ⟨A0, hA0⟩ : ∃ A0, wA k = A0 := ⟨_, rfl⟩
    obtain ⟨A1, hA1⟩ : ∃ A1, wB k = A1 := ⟨_, rfl⟩
    have HA : Hid (wA k = A0 ∧ wB k = A1) := ⟨hA0, hA1⟩
    have hA0l : A0 < 131 := by have := wA_le k; omega
    have hA1l : A1 < 131 := by have := wB_le hk; omega
    rw [hA0, hA1] at HWy
    clear hA0 hA1
    gi_wp2_with (gi_at_call 26; refine (CallsIn.inRound lp HWy.out).mono ?_; rintro e W2 ⟨rfl, hb2⟩; have R2 : Hid (TkR w w1 W M (M + 1) B a t (z + 1) W2) := (R1.out.on hb2 (by omega) (fun p e => by have := ha' p e; omega)); clear hb2 HWy R1)
    clear hc hf
    gi_loopw [15] (fun s15 wr => ∃ (i : Nat), i ≤ 2 ∧ s15 = .int .i64 (i : Int) ∧ TkR w w1 W M (M + 1) B a (tbL t k i) (z + 1 + ((tbL t k i).length - t.length)) wr ∧ t.length ≤ (tbL t k i).length ∧ (tbL t k i).length ≤ t.length + i) (fun s15 _ => 2 - (intOf s15).toNat)
    case atStart => exact ⟨0, by omega, rfl, (by simpa [tbL] using R2.out), Nat.le_refl _, Nat.le_refl _⟩
    case round =>
      obtain ⟨i, hi, rfl, hR, hge⟩ := hrel
      by_cases hlt2 : i < 2
      · obtain ⟨tt, htt⟩ : ∃ tt, tbL t k i = tt := ⟨_, rfl⟩
        obtain ⟨zz, hzz⟩ : ∃ zz, z + 1 + (tt.length - t.length) = zz := ⟨_, rfl⟩
        obtain ⟨A, hA⟩ : ∃ A, tbN k i = A := ⟨_, rfl⟩
        have hAl : A < 131 := by rw [← hA]; exact tbN_lt hk i
        have hnx := tbL_succ t k hlt2
        rw [htt, hA] at hnx
        rw [htt, hzz] at hR
        rw [htt] at hge
        have hzzb : zz ≤ 17592186044640 := by omega
        have HR : Hid (TkR w w1 W M (M + 1) B a tt zz wr) := hR
        have hcm := hR.met.cell hAl
        have hfm := hR.met.frozen (i := A)
        clear hR
        have E : ∀ w, (Instr.index 64 (pr2 A0 A1) (.int .i64 (i : Int))).run Try.prog w = .ok (.int .i64 (A : Int)) w := fun w => by
          rcases (show i = 0 ∨ i = 1 by omega) with rfl | rfl
          · rw [pr_i0, ← hA, ← HA.out.1]; rfl
          · rw [pr_i1, ← hA, ← HA.out.2]; rfl
        by_cases hin : A = 0 ∨ A ∈ tt
        · have e1 : mtF tt A = true := by unfold mtF; simp [hin]
          rw [e1] at hcm
          have hee : insT tt A = tt := by unfold insT; rw [if_pos hin]
          clear e1 hin
          gi_wp2
          go_roundw
          case rel => exact ⟨i + 1, by omega, (by go_num), by rw [hnx, hee, hzz]; exact HR.out, by rw [hnx, hee]; exact hge.1, by rw [hnx, hee]; omega⟩
          case measure => simp [intOf]; omega
        · have e1 : mtF tt A = false := by unfold mtF; simp [hin]
          rw [e1] at hcm
          have R3 := HR.out.put (by omega) (by omega) (by omega) (fun p e => by have := ha' p e; omega) hAl hin
          have hc3 := R3.cnt.cell
          have hf3 := R3.cnt.frozen
          have R4 : Hid (TkR w w1 W M (M + 1) B a (insT tt A) (zz + 1) ((wr.setCell ⟨M, A, none⟩ (.bool true)).setCell ⟨M + 1, 0, none⟩ (.int .i64 ((zz : Int) + 1)))) := R3.inc (by omega) (by omega) (by omega) (fun p e => by have := ha' p e; omega) rfl
          have hle : (insT tt A).length = tt.length + 1 := by rw [len_insT, if_neg hin]
          have hel : z + 1 + ((insT tt A).length - t.length) = zz + 1 := by rw [hle]; omega
          clear e1 hin R3
          gi_wp2
          go_roundw
          case rel => exact ⟨i + 1, by omega, (by go_num), by rw [hnx, hel]; exact R4.out, by rw [hnx, hle]; omega, by rw [hnx, hle]; omega⟩
          case measure => simp [intOf]; omega
      · have hi2 : i = 2 := by omega
        subst hi2
        have HR : Hid (TkR w w1 W M (M + 1) B a (tbL t k 2) (z + 1 + ((tbL t k 2).length - t.length)) wr) := hR
        clear hR
        gi_wp2
        refine ⟨HR.out.kf, HR.out.kp, ?_⟩
        have e0 : tbL t k 2 = tb1 t k := rfl
        have h1 := HR.out.met
        have h2 := HR.out.cnt
        rw [e0] at h1 h2 hge
        refine ⟨?_, ?_, HR.out.bel⟩
        · rw [List.map_append, List.map_cons, List.map_nil, tbs_snoc, HZ.out.1]; exact h1
        · rw [List.map_append, List.map_cons, List.map_nil, pTk, tbs_snoc, HZ.out.1, List.length_append]
          have e3 : (pre.map (·.1)).length + t.length = z := by rw [← HZ.out.1]; exact HZ.out.2
          rw [show (List.map (·.1) pre).length + [k].length + (tb1 t k).length = z + 1 + ((tb1 t k).length - t.length) by simp only [List.length_cons, List.length_nil]; omega]
          exact h2
  case done =>
    rintro D xs W hD hS hI hK
    subst hS
    have hvc := hI.cnt.cell
    gi_wp2
    refine ⟨by simp, .inl ⟨_, _, rfl, run_takeDeferred hK, ?_⟩⟩
    exact ⟨_, results_tmp rfl _ _ _, rfl, hI.bel.trans (belowK_b (w := w) (by omega) W D _ _ (by omega) hK rfl rfl)⟩
end Go.Proofs.Ytgkgcocpkammfaa

namespace Go.Proofs.Ytgkgcocpkammfaa
open Go.RowKit Go.Shelf Rec

theorem wp_int18 {ops : Array Oper} {rest : List Oper} {o : Oper} {a : Act} {Q : Exit → Act → World → Prop} {wx : World} (hgd : o.guard = none) (s x : Operand)
    (ho : o.op = .call { callee := .builtin .append, args := #[s, x], argTypes := #[22, 22] }) (v : Value) (n : Nat) (ss : List Value) (hs : a.eval s = v) (hx : a.eval x = .slice (some ⟨wx.heap.size, 0, none⟩) 1 1)
    (t : Int) (hR : wx.ownsRow 0 3 1 v n ss) (hn : n ≤ 17592186043904)
    (h : ∀ b cap w', w'.ownsRow 0 3 1 (.slice (some ⟨b, 0, none⟩) (n + 1) cap) (n + 1) (ss ++ [.int .i64 t]) → Fr (fun k => v.ownBlock = some k) wx w' → (v.ownBlock = some b ∨ wx.heap.size ≤ b) → wpList Try.prog ops Q rest (a.put o.dst (.slice (some ⟨b, 0, none⟩) (n + 1) cap)) w') :
    wpList Try.prog ops Q (o :: rest) a (wx.alloc (.cells #[.int .i64 t] 3)) := by
  obtain ⟨i0, hi, hz0, hz1, hz2⟩ := info_parts infoI18
  have hal : Below wx.heap.size wx (wx.alloc (.cells #[.int .i64 t] 3)) := (Below.refl _ _).alloc (Nat.le_refl _) _
  refine wp_own hgd s x 22 ho 3 i0 _ 1 8 Try.underlying22 hi hz0 hz1 hz2 rfl (by decide) v n _ hs (owns_fr hR (below_fr hal (fun _ => False)) (fun _ _ e => e)) ⟨wx.heap.size, 0, none⟩ 1 1 [.int .i64 t] hx (by decide) rfl (fun j u hj => ?_) (fun u hu => ?_) (by unfold maxLen; omega) (by omega) ?_
  · cases j with
    | zero => cases hj; rw [Addr.add_lit]; rw [cell_of_row _ _ _ _ _ _ (heap_alloc_new _ _)]; rfl
    | succ j => simp at hj
  · rw [List.mem_singleton.1 hu]; rfl
  · intro b cap w' h1 h2 h3
    refine h b cap w' h1 ((below_fr hal (fun k => v.ownBlock = some k)).trans h2 (fun k hk => .inl hk)) ?_
    rcases h3 with h3 | h3
    · exact .inl h3
    · exact .inr (Nat.le_trans hal.size h3)
theorem owns_lt {w : World} {base n : Nat} {v : Value} {xs : List Value} (h : w.ownsRow base 3 1 v n xs) {b : Nat} (hb : v.ownBlock = some b) : b < w.heap.size := by
  rcases h.2 with ⟨rfl, hz⟩ | ⟨gb, cap, cur, rfl, hbase, hgb, _⟩
  · simp [Value.ownBlock] at hb
  · obtain rfl : gb = b := by simpa [Value.ownBlock] using hb
    exact (Array.getElem?_eq_some_iff.1 hgb).1
theorem nth_mem {l : List Int} {k : Nat} (h : k < l.length) : nth l k ∈ l := by
  rw [nth, List.getD_eq_getElem?_getD, List.getElem?_eq_getElem h]
  exact List.getElem_mem h
set_option maxRecDepth 100000 in
set_option maxHeartbeats 4000000 in
theorem with_any (w : World) (v : Value) (l : List Int) (n : Nat) (k : Int) (h : w.ownsRow 0 3 1 v n (l.map (Value.int .i64))) (hl : l.length = n) (hn : n ≤ 17592186043904) :
    Calls Try.prog 17 #[v, .int .i64 k] w fun e w' => ∃ v', e = .returned v' ∧ w'.ownsRow 0 3 1 v' (adj l k).length ((adj l k).map (Value.int .i64)) ∧ Fr (fun b => v.ownBlock = some b) w w' ∧ (v'.ownBlock = v.ownBlock ∨ ∃ b, v'.ownBlock = some b ∧ w.heap.size ≤ b) := by
  obtain ⟨a, c, rfl, hI, _⟩ := ints_owns h hl (by omega)
  have HI : Hid (Ints w a l ∧ w.ownsRow 0 3 1 (.slice a n c) n (l.map (Value.int .i64))) := ⟨hI, h⟩
  clear hI h
  go_enter Try.func17, Try.ntmps17
  go_wp2
  go_loopw [9] (fun s9 wr => ∃ j : Nat, j ≤ n ∧ s9 = .int .i64 (j : Int) ∧ wr = w ∧ ∀ i, i < j → ¬ nth l i = k) (fun s _ => n - (intOf s).toNat)
  case atStart => exact ⟨0, Nat.zero_le _, rfl, rfl, fun i hi => by omega⟩
  case round =>
    obtain ⟨j, hj, rfl, rfl, hpre⟩ := hrel
    have HP : Hid (∀ i, i < j → ¬ nth l i = k) := hpre
    clear hpre
    by_cases hlt : j < n
    · have hlt' : (j : Int) < (n : Int) := by omega
      obtain ⟨b, off, rfl, hcell⟩ : ∃ b off, a = some ⟨b, off, none⟩ ∧ wr.cell? ⟨b, off + j, none⟩ = some (.int .i64 (nth l j)) := by
        rcases HI.out.1.at_ with e | ⟨b, off, rfl, hc⟩
        · rw [e] at hl; simp at hl; omega
        · exact ⟨b, off, rfl, hc j (by omega)⟩
      have hxm : nth l j ∈ l := nth_mem (by omega)
      by_cases hx : nth l j = k
      · have HM : Hid (adj l k = l) := by
          show adj l k = l
          unfold adj; rw [if_pos (by rw [← hx]; exact hxm)]
        rw [hx] at hcell
        clear hx hxm
        go_wp2
        go_ret
        exact ⟨_, rfl, by rw [HM.out, hl]; exact HI.out.2, Fr.refl _ _, .inl rfl⟩
      · have hx' : ¬ nth l j = k := hx
        go_wp2
        go_roundw
        case rel =>
          refine ⟨j + 1, by omega, (by go_num), (by first | trivial | rfl), fun i hi => ?_⟩
          by_cases e : i = j
          · subst e; exact hx'
          · exact HP.out i (by omega)
        case measure => simp [intOf]; omega
    · have hlt' : ¬ (j : Int) < (n : Int) := by omega
      have hjn : j = n := by omega
      have HM : Hid (adj l k = l ++ [k]) := by
        show adj l k = _
        unfold adj
        rw [if_neg]
        intro hm
        obtain ⟨i, hi, e⟩ := List.mem_iff_getElem.1 hm
        exact HP.out i (by omega) (by rw [show nth l i = l[i] by simp [nth, List.getD, hi]]; exact e)
      go_wp2_with (at_builtin; refine wp_int18 rfl (.tmp 18) (.tmp 20) rfl (.slice a n c) n _ rfl rfl k HI.out.2 hn ?_; intro b cap w2 h1 h2 h3; have H1 : Hid (w2.ownsRow 0 3 1 (.slice (some ⟨b, 0, none⟩) (n + 1) cap) (n + 1) (l.map (Value.int .i64) ++ [.int .i64 k]) ∧ Fr (fun k => (Value.slice a n c).ownBlock = some k) wr w2 ∧ ((Value.slice a n c).ownBlock = some b ∨ wr.heap.size ≤ b)) := ⟨h1, h2, h3⟩; clear h1 h2 h3)
      go_ret
      refine ⟨_, rfl, ?_, H1.out.2.1, ?_⟩
      · rw [HM.out, List.length_append, hl, List.map_append]; exact H1.out.1
      · rcases H1.out.2.2 with e | e
        · exact .inl (e ▸ rfl)
        · exact .inr ⟨b, rfl, e⟩
end Go.Proofs.Ytgkgcocpkammfaa

namespace Go.Proofs.Ytgkgcocpkammfaa
open Go.RowKit Go.Shelf Rec

theorem rOne_snoc (l : List Int) (k : Int) : rOne (l ++ [k]) = if 10 ≤ k ∧ k < 138 then 1 else rOne l := by
  unfold rOne
  by_cases h : 10 ≤ k ∧ k < 138
  · rw [if_pos h, if_pos ⟨k, by simp, h⟩]
  · rw [if_neg h]
    congr 1
    apply propext
    constructor
    · rintro ⟨x, hx, h1⟩
      rcases List.mem_append.1 hx with hx | hx
      · exact ⟨x, hx, h1⟩
      · simp at hx; subst hx; exact absurd h1 h
    · rintro ⟨x, hx, h1⟩
      exact ⟨x, by simp [hx], h1⟩
theorem rTwo_snoc (l : List Int) (k : Int) : rTwo (l ++ [k]) = if 138 ≤ k then 1 else rTwo l := by
  unfold rTwo
  by_cases h : 138 ≤ k
  · rw [if_pos h, if_pos ⟨k, by simp, h⟩]
  · rw [if_neg h]
    congr 1
    apply propext
    constructor
    · rintro ⟨x, hx, h1⟩
      rcases List.mem_append.1 hx with hx | hx
      · exact ⟨x, hx, h1⟩
      · simp at hx; subst hx; exact absurd h1 h
    · rintro ⟨x, hx, h1⟩
      exact ⟨x, by simp [hx], h1⟩
theorem rFar_snoc (l : List Int) (k : Int) : rFar (l ++ [k]) = if 138 ≤ k then rFar l ++ [(k - 138) / 128] else rFar l := by
  unfold rFar
  rw [List.filter_append, List.map_append]
  by_cases h : 138 ≤ k
  · rw [if_pos h]; simp [h]
  · rw [if_neg h]; simp [h]
theorem adjs_len (l : List Int) : (adjs l).length ≤ l.length := subR (nodup_adjs l) (fun _ hx => mem_adjs.1 hx)
theorem rFar_len (l : List Int) : (rFar l).length ≤ l.length := by
  unfold rFar; rw [List.length_map]; exact List.length_filter_le _ _
/-- two rows of the reference's Takes -/
structure RtI (w wr : World) (pre : List Int) (va vt : Value) : Prop where
  a : wr.ownsRow 0 3 1 va (adjs pre).length ((adjs pre).map (Value.int .i64))
  t : wr.ownsRow 0 3 1 vt (adjs (rFar pre)).length ((adjs (rFar pre)).map (Value.int .i64))
  ap : ∀ b, va.ownBlock = some b → ¬ vt.ownBlock = some b
  na : ∀ b, va.ownBlock = some b → w.heap.size ≤ b
  nt : ∀ b, vt.ownBlock = some b → w.heap.size ≤ b
  bel : Below w.heap.size w wr
theorem fr_own_below {w wr w' : World} {v : Value} (hb : Below w.heap.size w wr) (x : Fr (fun b => v.ownBlock = some b) wr w') (hn : ∀ b, v.ownBlock = some b → w.heap.size ≤ b) : Below w.heap.size w w' :=
  hb.trans (x.below _ (fun k hk => hn k hk) hb.size)
/-- behind the first of a round's two with's: the index is in, its table isn't -/
structure RtH (w wr : World) (pre : List Int) (k : Int) (va vt : Value) : Prop where
  a : wr.ownsRow 0 3 1 va (adjs (pre ++ [k])).length ((adjs (pre ++ [k])).map (Value.int .i64))
  t : wr.ownsRow 0 3 1 vt (adjs (rFar pre)).length ((adjs (rFar pre)).map (Value.int .i64))
  ap : ∀ b, va.ownBlock = some b → ¬ vt.ownBlock = some b
  na : ∀ b, va.ownBlock = some b → w.heap.size ≤ b
  nt : ∀ b, vt.ownBlock = some b → w.heap.size ≤ b
  bel : Below w.heap.size w wr
theorem RtI.half {w wr w' : World} {pre : List Int} {va vt v' : Value} {k : Int} (h : RtI w wr pre va vt) (ho : w'.ownsRow 0 3 1 v' (adj (adjs pre) k).length ((adj (adjs pre) k).map (Value.int .i64))) (x : Fr (fun b => va.ownBlock = some b) wr w') (hv : v'.ownBlock = va.ownBlock ∨ ∃ b, v'.ownBlock = some b ∧ wr.heap.size ≤ b) : RtH w w' pre k v' vt := by
  have hs := h.bel.size
  refine ⟨by rw [adjs_snoc]; exact ho, owns_fr h.t x (fun b hb e => h.ap b e hb), fun b hb e => ?_, fun b hb => ?_, h.nt, fr_own_below h.bel x h.na⟩
  · rcases hv with hv | ⟨b2, e3, e4⟩
    · exact h.ap b (hv ▸ hb) e
    · rw [e3] at hb; cases hb
      have := owns_lt h.t e
      omega
  · rcases hv with hv | ⟨b2, e3, e4⟩
    · exact h.na b (hv ▸ hb)
    · rw [e3] at hb; cases hb; omega
theorem RtH.near {w wr : World} {pre : List Int} {va vt : Value} {k : Int} (h : RtH w wr pre k va vt) (hk : ¬ 138 ≤ k) : RtI w wr (pre ++ [k]) va vt :=
  ⟨h.a, by rw [rFar_snoc, if_neg hk]; exact h.t, h.ap, h.na, h.nt, h.bel⟩
theorem RtH.far {w wr w' : World} {pre : List Int} {va vt v' : Value} {k : Int} (h : RtH w wr pre k va vt) (hk : 138 ≤ k) (ho : w'.ownsRow 0 3 1 v' (adj (adjs (rFar pre)) ((k - 138) / 128)).length ((adj (adjs (rFar pre)) ((k - 138) / 128)).map (Value.int .i64))) (x : Fr (fun b => vt.ownBlock = some b) wr w') (hv : v'.ownBlock = vt.ownBlock ∨ ∃ b, v'.ownBlock = some b ∧ wr.heap.size ≤ b) : RtI w w' (pre ++ [k]) va v' := by
  have hs := h.bel.size
  refine ⟨owns_fr h.a x (fun b hb e => h.ap b hb e), by rw [rFar_snoc, if_pos hk, adjs_snoc]; exact ho, fun b hb e => ?_, h.na, fun b hb => ?_, fr_own_below h.bel x h.nt⟩
  · rcases hv with hv | ⟨b2, e3, e4⟩
    · exact h.ap b hb (hv ▸ e)
    · rw [e3] at e; cases e
      have := owns_lt h.a hb
      omega
  · rcases hv with hv | ⟨b2, e3, e4⟩
    · exact h.nt b (hv ▸ hb)
    · rw [e3] at hb; cases hb; omega
def tkA (l : List Int) : Value := if farL l = true then .tuple #[.int .i64 0, .int .i64 101] else .tuple #[.int .i64 (rTk l : Nat), .int .i64 0]
set_option maxRecDepth 100000 in
set_option maxHeartbeats 8000000 in
theorem rtakes_any (w : World) (a : Option Addr) (n c : Nat) (l : List Int) (h : Ints w a l) (hl : l.length = n) (hlen : n ≤ 17592186043904) :
    Calls Try.prog 6 #[.slice a n c] w fun e w' => e = .returned (tkA l) ∧ Below w.heap.size w w' := by
  have HI : Hid (Ints w a l) := h
  have HW : Hid (∀ (W : World) (v : Value) (m : List Int) (N : Nat) (k : Int), W.ownsRow 0 3 1 v N (m.map (Value.int .i64)) → m.length = N → N ≤ 17592186043904 → Calls Try.prog 17 #[v, .int .i64 k] W fun e w' => ∃ v', e = .returned v' ∧ w'.ownsRow 0 3 1 v' (adj m k).length ((adj m k).map (Value.int .i64)) ∧ Fr (fun b => v.ownBlock = some b) W w' ∧ (v'.ownBlock = v.ownBlock ∨ ∃ b, v'.ownBlock = some b ∧ W.heap.size ≤ b)) := fun W v m N k h1 h2 h3 => with_any W v m N k h1 h2 h3
  clear h
  go_enter Try.func6, Try.ntmps6
  go_wp2
  go_loopw [4, 5, 6, 7, 12] (fun s4 s5 s6 s7 s12 wr => ∃ (j : Nat) (va vt : Value), j ≤ n ∧ s12 = .int .i64 (j : Int) ∧ va = s4 ∧ vt = s7 ∧ s5 = .int .i64 (rOne (l.take j) : Nat) ∧ s6 = .int .i64 (rTwo (l.take j) : Nat) ∧ RtI w wr (l.take j) va vt ∧ ∀ i, i < j → 0 ≤ nth l i ∧ nth l i ≤ 16521) (fun _ _ _ _ s _ => n - (intOf s).toNat)
  case atStart => exact ⟨0, _, _, Nat.zero_le _, rfl, rfl, rfl, (by simp [rOne]), (by simp [rTwo]), ⟨World.ownsRow_nil _ _ _ _, World.ownsRow_nil _ _ _ _, fun b e => by simp [Value.ownBlock] at e, fun b e => by simp [Value.ownBlock] at e, fun b e => by simp [Value.ownBlock] at e, Below.refl _ _⟩, fun i hi => by omega⟩
  case round =>
    obtain ⟨j, va, vt, hj, rfl, rfl, rfl, rfl, rfl, hR, hpre⟩ := hrel
    have HR : Hid (RtI w wr (l.take j) va vt ∧ ∀ i, i < j → 0 ≤ nth l i ∧ nth l i ≤ 16521) := ⟨hR, hpre⟩
    clear hR hpre
    obtain ⟨o1, ho1⟩ : ∃ o1, rOne (l.take j) = o1 := ⟨_, rfl⟩
    obtain ⟨o2, ho2⟩ : ∃ o2, rTwo (l.take j) = o2 := ⟨_, rfl⟩
    by_cases hlt : j < n
    · have hlt' : (j : Int) < (n : Int) := by omega
      obtain ⟨b, off, rfl, hcell⟩ : ∃ b off, a = some ⟨b, off, none⟩ ∧ wr.cell? ⟨b, off + j, none⟩ = some (.int .i64 (nth l j)) := by
        rcases (HI.out.on HR.out.1.bel).at_ with e | ⟨b, off, rfl, hc⟩
        · rw [e] at hl; simp at hl; omega
        · exact ⟨b, off, rfl, hc j (by omega)⟩
      have hxm : nth l j ∈ l := nth_mem (by omega)
      have hsn : l.take (j + 1) = l.take j ++ [nth l j] := take_snoc l j (by omega)
      obtain ⟨k, hk⟩ : ∃ k, nth l j = k := ⟨_, rfl⟩
      rw [hk] at hcell hxm hsn
      rw [ho1, ho2]
      by_cases hk0 : k < 0
      · have HF : Hid (farL l = true) := List.any_eq_true.2 ⟨k, hxm, by simp [hk0]⟩
        go_wp2
        go_ret2
        exact ⟨by rw [tkA, if_pos HF.out]; rfl, HR.out.1.bel⟩
      · by_cases hk1 : 16521 < k
        · have HF : Hid (farL l = true) := List.any_eq_true.2 ⟨k, hxm, by simp; omega⟩
          go_wp2
          go_ret2
          exact ⟨by rw [tkA, if_pos HF.out]; rfl, HR.out.1.bel⟩
        · have HG : Hid (∀ i, i < j + 1 → 0 ≤ nth l i ∧ nth l i ≤ 16521) := fun i hi => by
            by_cases e : i = j
            · subst e; rw [hk]; omega
            · exact HR.out.2 i (by omega)
          have HO : Hid (rOne (l.take j) = o1 ∧ rTwo (l.take j) = o2 ∧ l.take (j + 1) = l.take j ++ [k]) := ⟨ho1, ho2, hsn⟩
          have HA := HW.out wr va (adjs (l.take j)) (adjs (l.take j)).length k HR.out.1.a rfl (by have := adjs_len (l.take j); rw [List.length_take] at this; omega)
          have HA' : Hid (Calls Try.prog 17 #[va, .int .i64 k] wr fun e w' => ∃ v', e = .returned v' ∧ RtH w w' (l.take j) k v' vt) := HA.mono fun e w' ⟨v', e1, e2, e3, e4⟩ => ⟨v', e1, HR.out.1.half e2 e3 e4⟩
          clear ho1 ho2 hsn HA hk hxm
          by_cases hf : 138 ≤ k
          · have q1 : 10 ≤ k := by omega
            have q2 : ¬ k < 138 := by omega
            have q3 : ¬ k - 138 < 0 := by omega
            obtain ⟨r, hr⟩ : ∃ r, (k - 138) / 128 = r := ⟨_, rfl⟩
            have HT : Hid (∀ W v', RtH w W (l.take j) k v' vt → Calls Try.prog 17 #[vt, .int .i64 r] W fun e w' => ∃ v2, e = .returned v2 ∧ RtI w w' (l.take j ++ [k]) v' v2) := fun W v' hH => by
              have := HW.out W vt (adjs (rFar (l.take j))) (adjs (rFar (l.take j))).length r hH.t rfl (by have := adjs_len (rFar (l.take j)); have := rFar_len (l.take j); rw [List.length_take] at this; omega)
              refine this.mono fun e w' ⟨v2, e1, e2, e3, e4⟩ => ⟨v2, e1, hH.far hf (by rw [hr]; exact e2) e3 e4⟩
            have HO2 : Hid (rOne (l.take (j + 1)) = o1 ∧ rTwo (l.take (j + 1)) = 1) := by
              refine ⟨?_, ?_⟩
              · rw [HO.out.2.2, rOne_snoc, if_neg (by omega)]; exact HO.out.1
              · rw [HO.out.2.2, rTwo_snoc, if_pos hf]
            go_wp2_with (first
              | (have hh := HA'.out; clear hh; go_at_call 17; refine HA'.out.mono ?_; rintro e W1 ⟨v1, rfl, h1⟩; have H1 : Hid (RtH w W1 (l.take j) k v1 vt) := h1; clear h1 HA')
              | (go_at_call 17; refine (HT.out W1 v1 H1.out).mono ?_; rintro e W2 ⟨v2, rfl, h1⟩; have H2 : Hid (RtI w W2 (l.take j ++ [k]) v1 v2) := h1; clear h1 HT))
            go_roundw
            case rel => exact ⟨j + 1, v1, v2, by omega, (by go_num), rfl, rfl, by rw [HO2.out.1], by rw [HO2.out.2]; rfl, by rw [HO.out.2.2]; exact H2.out, HG.out⟩
            case measure => simp [intOf]; omega
          · by_cases hg : 10 ≤ k
            · have q2 : k < 138 := by omega
              have HO2 : Hid (rOne (l.take (j + 1)) = 1 ∧ rTwo (l.take (j + 1)) = o2) := by
                refine ⟨?_, ?_⟩
                · rw [HO.out.2.2, rOne_snoc, if_pos ⟨hg, q2⟩]
                · rw [HO.out.2.2, rTwo_snoc, if_neg hf]; exact HO.out.2.1
              go_wp2_with (go_at_call 17; refine HA'.out.mono ?_; rintro e W1 ⟨v1, rfl, h1⟩; have H1 : Hid (RtH w W1 (l.take j) k v1 vt) := h1; clear h1 HA')
              go_roundw
              case rel => exact ⟨j + 1, v1, vt, by omega, (by go_num), rfl, rfl, by rw [HO2.out.1]; rfl, by rw [HO2.out.2], by rw [HO.out.2.2]; exact H1.out.near (by omega), HG.out⟩
              case measure => simp [intOf]; omega
            · have q2 : k < 138 := by omega
              have HO2 : Hid (rOne (l.take (j + 1)) = o1 ∧ rTwo (l.take (j + 1)) = o2) := by
                refine ⟨?_, ?_⟩
                · rw [HO.out.2.2, rOne_snoc, if_neg (by omega)]; exact HO.out.1
                · rw [HO.out.2.2, rTwo_snoc, if_neg hf]; exact HO.out.2.1
              go_wp2_with (go_at_call 17; refine HA'.out.mono ?_; rintro e W1 ⟨v1, rfl, h1⟩; have H1 : Hid (RtH w W1 (l.take j) k v1 vt) := h1; clear h1 HA')
              go_roundw
              case rel => exact ⟨j + 1, v1, vt, by omega, (by go_num), rfl, rfl, by rw [HO2.out.1], by rw [HO2.out.2], by rw [HO.out.2.2]; exact H1.out.near (by omega), HG.out⟩
              case measure => simp [intOf]; omega
    · have hlt' : ¬ (j : Int) < (n : Int) := by omega
      have hjn : j = n := by omega
      subst hjn
      have htk : l.take j = l := by rw [← hl, List.take_length]
      have HF : Hid (farL l = false) := by
        show farL l = false
        refine List.any_eq_false.2 fun x hx => ?_
        obtain ⟨i, hi, rfl⟩ := List.mem_iff_getElem.1 hx
        have := HR.out.2 i (by omega)
        rw [show nth l i = l[i] by simp [nth, List.getD, hi]] at this
        simp; omega
      rw [htk] at HR ho1 ho2
      have hA1 := adjs_len l
      have hA2 := adjs_len (rFar l)
      have hA3 := rFar_len l
      obtain ⟨aA, cA, rfl, _, _⟩ := ints_owns HR.out.1.a rfl (by omega)
      obtain ⟨aT, cT, rfl, _, _⟩ := ints_owns HR.out.1.t rfl (by omega)
      obtain ⟨nA, hnA⟩ : ∃ nA, (adjs l).length = nA := ⟨_, rfl⟩
      obtain ⟨nT, hnT⟩ : ∃ nT, (adjs (rFar l)).length = nT := ⟨_, rfl⟩
      have hb1 : o1 ≤ 1 := by rw [← ho1]; unfold rOne; split <;> omega
      have hb2 : o2 ≤ 1 := by rw [← ho2]; unfold rTwo; split <;> omega
      have HK : Hid (rTk l = nA + o1 + o2 + nT) := by show rTk l = _; rw [rTk, hnA, hnT, ho1, ho2]
      have HBl : Hid (Below w.heap.size w wr) := HR.out.1.bel
      rw [htk, ho1, ho2, hnA, hnT]
      rw [hnA] at hA1
      rw [hnT] at hA2
      clear HR ho1 ho2 hnA hnT htk HW
      go_wp2
      go_ret2
      refine ⟨?_, HBl.out⟩
      rw [tkA, HF.out, HK.out]
      simp
end Go.Proofs.Ytgkgcocpkammfaa

namespace Go.Proofs.Ytgkgcocpkammfaa
open Go.RowKit Go.Shelf Rec

theorem ixs_of : ∀ {m : List Int}, (∀ k ∈ m, 0 ≤ k ∧ k ≤ 16521) → ∃ ys : List Ix, ys.map (·.1) = m
  | [], _ => ⟨[], rfl⟩
  | k :: m, h => by
    obtain ⟨ys, hy⟩ := ixs_of (m := m) (fun x hx => h x (List.mem_cons_of_mem _ hx))
    exact ⟨⟨k, h k (by simp)⟩ :: ys, by simp [hy]⟩
theorem taken_any (w : World) (B n c : Nat) (a : Option Addr) (l : List Int) (h : VlAt w B a n c l) (hb : ∀ k ∈ l, 0 ≤ k ∧ k ≤ 16521) (hlen : n ≤ 17592186043904) (ha : ∀ p, a = some p → p.block < w.heap.size) :
    Calls Try.prog 16 #[.func (.func 25) #[] #[.pointer (some ⟨B, 0, none⟩)]] w fun e w' => e = .returned (.int .i64 (pTk l : Nat)) ∧ Below w.heap.size w w' := by
  obtain ⟨ys, hy⟩ := ixs_of hb
  subst hy
  exact callsIn_wide.1 (taken_in w B n c a ys h hlen ha)
set_option maxRecDepth 100000 in
set_option maxHeartbeats 4000000 in
theorem takes_any (w : World) (a : Option Addr) (n c : Nat) (l : List Int) (h : Ints w a l) (hl : l.length = n) (hlen : n ≤ 17592186043904) (ha : ∀ p, a = some p → p.block < w.heap.size) :
    Calls Try.prog 5 #[.slice a n c] w fun e w' => e = .returned (tkA l) ∧ Below w.heap.size w w' := by
  have HC : Hid (Calls Try.prog 11 #[.slice a n c, .func (.func 12) #[] #[]] w fun e w' => e = .returned (.bool (farL l)) ∧ w = w') := containsFunc_any w a n c l h hl hlen
  cases hf : farL l
  · rw [hf] at HC
    have hbd := farL_no hf
    have hcl := compA_len (srt l)
    rw [srt_len, hl] at hcl
    have HV : Hid (∀ (W : World) (a : Option Addr) (n c : Nat), Calls Try.prog 15 #[.slice a n c] W fun e w' => e = .returned (.func (.func 25) #[] #[.pointer (some ⟨W.heap.size, 0, none⟩)]) ∧ w' = W.alloc (.cells #[.slice a n c] 22)) := fun W a n c => values_any W a n c
    have hb1 : Below w.heap.size w (w.alloc (.cells #[.slice a n c] 22)) := (Below.refl _ _).alloc (Nat.le_refl _) _
    have HSo : Hid (Calls Try.prog 14 #[.func (.func 25) #[] #[.pointer (some ⟨w.heap.size, 0, none⟩)]] (w.alloc (.cells #[.slice a n c] 22)) fun e w' => ∃ (v : Value), e = .returned v ∧ w'.ownsRow w.heap.size 3 1 v n ((srt l).map (Value.int .i64)) ∧ Below w.heap.size w w') := by
      refine (sorted_any (w.alloc (.cells #[.slice a n c] 22)) w.heap.size n c a l (vlAt_new h hl) hlen (fun p e => by have := ha p e; simp; omega)).mono ?_
      rintro e w' ⟨v, rfl, h1, h2⟩
      refine ⟨v, rfl, ?_, hb1.trans (h2.mono hb1.size)⟩
      rcases h1.2 with h | ⟨gb, cap, cur, r0, rb, r⟩
      · exact ⟨h1.1, .inl h⟩
      · exact ⟨h1.1, .inr ⟨gb, cap, cur, r0, Nat.le_trans hb1.size rb, r⟩⟩
    have HCo : Hid (∀ (W : World) (v : Value), W.ownsRow w.heap.size 3 1 v n ((srt l).map (Value.int .i64)) → Below w.heap.size w W → Calls Try.prog 13 #[v] W fun e w' => ∃ (a : Option Addr) (c : Nat), e = .returned (.slice a (onceL l).length c) ∧ Ints w' a (onceL l) ∧ (∀ p, a = some p → p.block < w'.heap.size) ∧ Below w.heap.size w w') := fun W v h1 h2 => by
      refine (compact_any W w.heap.size n v (srt l) h1 (by rw [srt_len, hl]) hlen h2.size).mono ?_
      rintro e w' ⟨a2, c2, rfl, h3, h4, h5⟩
      exact ⟨a2, c2, rfl, h3, h4, h2.trans h5⟩
    have HTk : Hid (∀ (W : World) (a2 : Option Addr) (c2 : Nat), Ints W a2 (onceL l) → (∀ p, a2 = some p → p.block < W.heap.size) → Below w.heap.size w W → Calls Try.prog 16 #[.func (.func 25) #[] #[.pointer (some ⟨W.heap.size, 0, none⟩)]] (W.alloc (.cells #[.slice a2 (onceL l).length c2] 22)) fun e w' => e = .returned (.int .i64 (rTk l : Nat)) ∧ Below w.heap.size w w') := fun W a2 c2 h1 h2 h3 => by
      have hb2 : Below W.heap.size W (W.alloc (.cells #[.slice a2 (onceL l).length c2] 22)) := (Below.refl _ _).alloc (Nat.le_refl _) _
      have := taken_any (W.alloc (.cells #[.slice a2 (onceL l).length c2] 22)) W.heap.size (onceL l).length c2 a2 (onceL l) (vlAt_new h1 rfl) (fun k hk => hbd k ((once_mem l k).1 hk)) (Nat.le_trans hcl hlen) (fun p e => by have := h2 p e; simp; omega)
      rw [once_takes hbd] at this
      refine this.mono ?_
      rintro e w' ⟨rfl, h4⟩
      exact ⟨rfl, (h3.trans (hb2.mono h3.size)).trans (h4.mono (by have := h3.size; simp; omega))⟩
    obtain ⟨m, hm⟩ : ∃ m, (onceL l).length = m := ⟨_, rfl⟩
    rw [hm] at HCo HTk
    clear h ha hbd hcl hb1 hm
    go_enter Try.func5, Try.ntmps5
    go_wp2_with (first
      | (go_at_call 11; refine HC.out.mono ?_; rintro e w1 ⟨rfl, rfl⟩)
      | (go_at_call 15; refine (HV.out _ _ _ _).mono ?_; rintro e w1 ⟨rfl, rfl⟩)
      | (go_at_call 14; refine HSo.out.mono ?_; rintro e w2 ⟨v, rfl, h1, h2⟩; have H2 : Hid (w2.ownsRow w.heap.size 3 1 v n ((srt l).map (Value.int .i64)) ∧ Below w.heap.size w w2) := ⟨h1, h2⟩; clear h1 h2)
      | (go_at_call 13; refine (HCo.out w2 v H2.out.1 H2.out.2).mono ?_; rintro e w3 ⟨a2, c2, rfl, h1, h2, h3⟩; have H3 : Hid (Ints w3 a2 (onceL l) ∧ (∀ p, a2 = some p → p.block < w3.heap.size) ∧ Below w.heap.size w w3) := ⟨h1, h2, h3⟩; clear h1 h2 h3)
      | (go_at_call 16; refine (HTk.out w3 a2 c2 H3.out.1 H3.out.2.1 H3.out.2.2).mono ?_; rintro e w4 ⟨rfl, h1⟩; have H4 : Hid (Below w.heap.size w w4) := h1; clear h1))
    go_ret2
    refine ⟨?_, H4.out⟩
    rw [tkA, hf]
    rfl
  · rw [hf] at HC
    clear h ha
    go_enter Try.func5, Try.ntmps5
    go_wp2_with (go_at_call 11; refine HC.out.mono ?_; rintro e w1 ⟨rfl, rfl⟩)
    go_ret2
    refine ⟨?_, Below.refl _ _⟩
    rw [tkA, hf]
    rfl
end Go.Proofs.Ytgkgcocpkammfaa

namespace Go.Proofs.Ytgkgcocpkammfaa
open Go.RowKit Go.Maps Rec

set_option maxRecDepth 100000 in
theorem newDir_any (w : World) : Calls Try.prog 10 #[] w fun e w' => ∃ g : Nat, e = .returned (.pointer (some ⟨g, 0, none⟩)) ∧ Below w.heap.size w w' := by
  have hmm := @run_makeMap Try.prog
  go_enter Try.func10, Try.ntmps10
  go_wp2
  go_ret
  exact ⟨_, rfl, ((Below.refl _ w).alloc (Nat.le_refl _) _).alloc (by simp) _⟩
theorem infoP18 : (Try.prog.info? 41).map (fun i => (i.zero, i.size, i.bytes)) = some (some (.pointer none), 1, 8) := by kernel_rfl
theorem make18 (C : Nat) (hC : 2 ≤ C ∧ C ≤ 2048) : ∃ o : Obj, (∀ w : World, (Instr.makeSlice 38 (.int .i64 (C : Int)) (.int .i64 (C : Int))).run Try.prog w = .ok (.slice (some ⟨w.heap.size, 0, none⟩) C C) (w.alloc o)) ∧ ∃ cs, o = .cells cs 41 (0, 0) ∧ cs[1]? = some (.pointer none) := by
  obtain ⟨i0, hi, hz0, hz1, hz2⟩ := info_parts infoP18
  refine ⟨.cells (madeCells #[.pointer none] C) 41, fun w => run_make_row (P := Try.prog) 38 41 i0 _ Try.underlying38 hi hz0 hz1 rfl .i64 .i64 C (by rw [hz2]; omega) (by omega) w, _, rfl, ?_⟩
  have hl : (madeCells #[Value.pointer none] C).toList = List.replicate C (Value.pointer none) := toList_madeCells_one _ _
  rw [← Array.getElem?_toList, hl, List.getElem?_replicate, if_pos (by omega)]
set_option maxRecDepth 100000 in
theorem new_no (w : World) (n : Int) (h : isLen n = false) : Calls Try.prog 4 #[.int .i64 n] w fun e w' => e = .returned (.tuple #[.pointer none, .int .i64 70]) ∧ Below w.heap.size w w' := by
  have HG : Hid (Calls Try.prog 9 #[.int .i64 n] w fun e w' => e = .returned (.tuple #[.agg #[.int .i64 0, .int .i64 0, .int .i64 0, .int .i64 0, .int .i64 0], .int .i64 70]) ∧ Below w.heap.size w w') := gof_no w n h
  clear h
  go_enter Try.func4, Try.ntmps4
  go_wp2_with (go_at_call 9; refine HG.out.mono ?_; rintro e w1 ⟨rfl, h1⟩; have H1 : Hid (Below w.heap.size w w1) := h1; clear h1)
  go_ret2
  exact ⟨rfl, H1.out.alloc H1.out.size _⟩
set_option maxRecDepth 100000 in
set_option maxHeartbeats 4000000 in
theorem new_ok (w : World) (n : Int) (h : isLen n = true) : Calls Try.prog 4 #[.int .i64 n] w fun e w' => ∃ g : Nat, e = .returned (.tuple #[.pointer (some ⟨g, 0, none⟩), .int .i64 0]) ∧ Below w.heap.size w w' := by
  have hbd : 128 ≤ n ∧ n ≤ 16384 := by simpa [isLen] using h
  obtain ⟨C, hC⟩ : ∃ C : Nat, gC n = (C : Int) := ⟨(gC n).toNat, by unfold gC; omega⟩
  have hCb : 16 ≤ C ∧ C ≤ 2048 := by unfold gC at hC; omega
  obtain ⟨Dd, hD⟩ : ∃ Dd, gD n = Dd := ⟨_, rfl⟩
  have hDb : 0 ≤ Dd ∧ Dd ≤ 16384 := by rw [← hD]; unfold gD gI; omega
  have HG : Hid (Calls Try.prog 9 #[.int .i64 n] w fun e w' => e = .returned (.tuple #[.agg #[.int .i64 n, .int .i64 98, .int .i64 (gI n), .int .i64 Dd, .int .i64 (C : Int)], .int .i64 0]) ∧ Below w.heap.size w w') := by
    have := gof_ok w n h
    unfold geoV at this
    rw [hC, hD] at this
    exact this
  clear h hC hD
  go_enter Try.func4, Try.ntmps4
  go_upto_region 4 with (go_at_call 9; refine HG.out.mono ?_; rintro e w1 ⟨rfl, h1⟩; have H1 : Hid (Below w.heap.size w w1) := h1; clear h1)
  obtain ⟨P, hP⟩ : ∃ P, w1.heap.size = P := ⟨_, rfl⟩
  obtain ⟨w2, hw2⟩ : ∃ w2, w1.alloc (.cells #[.int .i64 n, .int .i64 98, .int .i64 (gI n), .int .i64 Dd, .int .i64 (C : Int)] 35) = w2 := ⟨_, rfl⟩
  have H2 : Hid (Below w.heap.size w w2 ∧ w2.heap[P]? = some (.cells #[.int .i64 n, .int .i64 98, .int .i64 (gI n), .int .i64 Dd, .int .i64 (C : Int)] 35 (0, 0))) := ⟨by rw [← hw2]; exact H1.out.alloc H1.out.size _, by rw [← hw2, ← hP]; exact heap_alloc_new _ _⟩
  rw [hw2, hP]
  clear hw2 hP
  have c0 : w2.cell? ⟨P, 0, none⟩ = some (.int .i64 n) := by rw [cell_of_row _ _ _ _ _ _ H2.out.2]; rfl
  have c3 : w2.cell? ⟨P, 3, none⟩ = some (.int .i64 Dd) := by rw [cell_of_row _ _ _ _ _ _ H2.out.2]; rfl
  have c4 : w2.cell? ⟨P, 4, none⟩ = some (.int .i64 (C : Int)) := by rw [cell_of_row _ _ _ _ _ _ H2.out.2]; rfl
  obtain ⟨o, hmk, cs, ho, hcs⟩ := make18 C (by omega)
  have HMk : Hid (o = .cells cs 41 (0, 0) ∧ cs[1]? = some (.pointer none)) := ⟨ho, hcs⟩
  clear ho hcs
  go_region_held3 (fun w' => w'.cell? ⟨P, 0, none⟩ = some (.int .i64 n) ∧ w'.cell? ⟨P, 3, none⟩ = some (.int .i64 Dd) ∧ w'.cell? ⟨P, 4, none⟩ = some (.int .i64 (C : Int))) (go_keep) (fail)
  clear c0 c3 c4 hmk
  obtain ⟨Q, hQ⟩ : ∃ Q, w2.heap.size = Q := ⟨_, rfl⟩
  obtain ⟨w3, hw3⟩ : ∃ w3, ((w2.alloc o).alloc (.cells #[.int .i64 (IntKind.i64.wrap (n - Dd)), .slice (some ⟨w2.heap.size, 0, none⟩) C C] 40)).drew = w3 := ⟨_, rfl⟩
  have H3 : Hid (Below w.heap.size w w3 ∧ w3.heap[Q]? = some (.cells cs 41 (0, 0)) ∧ w3.heap[Q + 1]? = some (.cells #[.int .i64 (IntKind.i64.wrap (n - Dd)), .slice (some ⟨Q, 0, none⟩) C C] 40 (0, 0)) ∧ w3.heap.size = Q + 2 ∧ w.heap.size ≤ Q) := by
    have hb : Below w2.heap.size w2 w3 := by rw [← hw3]; exact (((Below.refl _ w2).alloc (Nat.le_refl _) _).alloc (by simp) _).drew
    refine ⟨H2.out.1.trans (hb.mono H2.out.1.size), ?_, ?_, by rw [← hw3, ← hQ]; simp, by rw [← hQ]; exact H2.out.1.size⟩
    · rw [← hw3, ← hQ, heap_drew]
      refine (Below.heap_alloc _ _ _ (by simp)).trans ?_
      rw [heap_alloc_new, HMk.out.1]
    · have := heap_alloc_new (w2.alloc o) (.cells #[.int .i64 (IntKind.i64.wrap (n - Dd)), .slice (some ⟨w2.heap.size, 0, none⟩) C C] 40)
      rw [World.size_alloc] at this
      rw [← hw3, ← hQ, heap_drew]
      exact this
  rw [hw3, hQ]
  clear hw3 hQ
  have HSx : Hid (∀ W, Below w3.heap.size w3 W → W.cell? ⟨Q + 1, 1, none⟩ = some (.slice (some ⟨Q, 0, none⟩) C C) ∧ W.cell? ⟨Q, 1, none⟩ = some (.pointer none) ∧ W.frozen? ⟨Q, 1, none⟩ = false) := fun W hb => by
    have hs := H3.out.2.2.2.1
    have e1 := (hb.block Q (by omega)).trans H3.out.2.1
    have e2 := (hb.block (Q + 1) (by omega)).trans H3.out.2.2.1
    exact ⟨by rw [cell_of_row _ _ _ _ _ _ e2]; rfl, by rw [cell_of_row _ _ _ _ _ _ e1]; exact HMk.out.2, frozen_of_row _ _ _ _ _ e1⟩
  obtain ⟨s1, s2, s3⟩ := HSx.out w3 (Below.refl _ _)
  have HNd : Hid (∀ W, Below w3.heap.size w3 W → Calls Try.prog 10 #[] W fun e w' => ∃ g : Nat, e = .returned (.pointer (some ⟨g, 0, none⟩)) ∧ Below w3.heap.size w3 w') := fun W hb => (newDir_any W).mono fun e w' ⟨g, h1, h2⟩ => ⟨g, h1, hb.trans (h2.mono hb.size)⟩
  have hc1 : 1 < C := by omega
  have hc2 : (1 : Int) < (C : Int) := by omega
  have hc3 : ¬ C ≤ 1 := by omega
  go_upto_region 5 with (fail)
  go_region_held3 (fun w' => w'.cell? ⟨Q + 1, 1, none⟩ = some (.slice (some ⟨Q, 0, none⟩) C C) ∧ w'.frozen? ⟨Q, 1, none⟩ = false) (go_keep) (first
    | (go_at_call 10; refine (HNd.out _ (by first | exact Below.refl _ _ | exact (Below.refl _ _).drew)).mono ?_; rintro e w4 ⟨g, rfl, h1⟩; have H4 : Hid (Below w3.heap.size w3 w4) := h1; obtain ⟨r1, r2, r3⟩ := HSx.out w4 h1; clear h1)
    | fail)
  go_wp2
  go_ret2
  exact ⟨_, rfl, (H3.out.1.trans (H4.out.mono H3.out.1.size)).setCell (p := ⟨Q, 1, none⟩) H3.out.2.2.2.2 _⟩
end Go.Proofs.Ytgkgcocpkammfaa

namespace Go.Proofs.Ytgkgcocpkammfaa
open Go.RowKit Rec

theorem app_nil0 (w : World) (ty : TypeId) (a : Option Addr) (c : Nat) : (Builtin.append_ #[22, 22] ty #[.slice none 0 0, .slice a 0 c]).run Try.prog w = .ok (.slice none 0 0) w := by
  obtain ⟨i0, hi, hz0, hz1, hz2⟩ := info_parts infoI18
  cases a <;> simp [Builtin.append_, run_underlying Try.underlying22, sizeOf, typeInfo, hi, Builtin.lenOf, Builtin.firstCells, loadCells, loadCellsFrom]
/-- append of nothing to nothing -/
theorem wp_nil0 {ops : Array Oper} {rest : List Oper} {o : Oper} {act : Act} {Q : Exit → Act → World → Prop} {w : World} (hg : o.guard = none) (s x : Operand) (ho : o.op = .call { callee := .builtin .append, args := #[s, x], argTypes := #[22, 22] }) (a : Option Addr) (c : Nat)
    (hs : act.eval s = .slice none 0 0) (hx : act.eval x = .slice a 0 c) (h : wpList Try.prog ops Q rest (act.put o.dst (.slice none 0 0)) w) :
    wpList Try.prog ops Q (o :: rest) act w := by
  refine wpList_plain hg fun K hK => ?_
  unfold Oper.wp execOp
  simp only [ho, resolve, invoke, builtin, Sem.run_bind, Sem.run_pure, Result.andThen_ok, List.map_toArray, List.map_cons, List.map_nil, hs, hx, app_nil0]
  exact hK _ _ h
/-- append of numbers to nothing -/
theorem wp_nums {ops : Array Oper} {rest : List Oper} {o : Oper} {act : Act} {Q : Exit → Act → World → Prop} {w : World} (hg : o.guard = none) (s x : Operand) (ho : o.op = .call { callee := .builtin .append, args := #[s, x], argTypes := #[22, 22] }) (a : Option Addr) (n c : Nat) (l : List Int)
    (hs : act.eval s = .slice none 0 0) (hx : act.eval x = .slice a n c) (hI : Ints w a l) (hl : l.length = n) (h0 : 0 < n) (hn : n ≤ 17592186043904)
    (h : ∀ b cap w', w'.ownsRow 0 3 1 (.slice (some ⟨b, 0, none⟩) n cap) n (l.map (Value.int .i64)) → Below w.heap.size w w' → w.heap.size ≤ b → wpList Try.prog ops Q rest (act.put o.dst (.slice (some ⟨b, 0, none⟩) n cap)) w') :
    wpList Try.prog ops Q (o :: rest) act w := by
  obtain ⟨i0, hi, hz0, hz1, hz2⟩ := info_parts infoI18
  rcases hI.at_ with e | ⟨b, off, rfl, hc⟩
  · rw [e] at hl; simp at hl; omega
  refine wp_own hg s x 22 ho 3 i0 _ 1 8 Try.underlying22 hi hz0 hz1 hz2 rfl (by decide) (.slice none 0 0) 0 [] hs (World.ownsRow_nil _ _ _ _) ⟨b, off, none⟩ n c (l.map (Value.int .i64)) hx h0 (by rw [List.length_map, hl]; omega) (fun j u hj => ?_) (fun u hu => ?_) (by unfold maxLen; omega) (by omega) ?_
  · rw [List.getElem?_map] at hj
    obtain ⟨y, hy, rfl⟩ := Option.map_eq_some_iff.1 hj
    obtain ⟨hlt, hye⟩ := List.getElem?_eq_some_iff.1 hy
    rw [Addr.add_lit, hc j hlt]
    simp [nth, List.getD, hlt, hye]
  · obtain ⟨y, _, rfl⟩ := List.mem_map.1 hu; rfl
  · intro b2 cap w' h1 h2 h3
    rw [Nat.zero_add] at h1 ⊢
    refine h b2 cap w' (by simpa using h1) (h2.below _ (fun k hk => by simp [Value.ownBlock] at hk) (Nat.le_refl _)) ?_
    rcases h3 with h3 | h3
    · simp [Value.ownBlock] at h3
    · exact h3
/-- numbers in a row of one's own, behind the call's world -/
structure OwnQ (w w6 : World) (g n cap : Nat) (l : List Int) : Prop where
  row : ∀ i, i < n → w6.cell? ⟨g, i, none⟩ = some (.int .i64 (nth l i))
  bel : Below w.heap.size w w6
  lt : g < w6.heap.size
theorem ownQ_of {w wx w6 : World} {v : Value} {g n cap : Nat} {l : List Int} {k : Int} (h1 : w6.ownsRow 0 3 1 (.slice (some ⟨g, 0, none⟩) (n + 1) cap) (n + 1) (l.map (Value.int .i64) ++ [.int .i64 k])) (h2 : Fr (fun k => v.ownBlock = some k) wx w6) (_ : v.ownBlock = some g ∨ wx.heap.size ≤ g) (hb : Below w.heap.size w wx) (hv : ∀ b, v.ownBlock = some b → w.heap.size ≤ b) : OwnQ w w6 g (n + 1) cap (l ++ [k]) := by
  refine ⟨fun i hi => ?_, hb.trans (h2.below _ (fun j hj => hv j hj) hb.size), owns_lt h1 rfl⟩
  have h3 := h1.cellAt i (by omega)
  have h4 : (l.map (Value.int .i64) ++ [Value.int .i64 k]).length = n + 1 := by have := h1.1; simpa using this
  have h5 : l.length + 1 = n + 1 := by simpa using h4
  rw [h3, show l.map (Value.int .i64) ++ [Value.int .i64 k] = (l ++ [k]).map (Value.int .i64) by simp, List.getElem?_map]
  have hi2 : i < (l ++ [k]).length := by simp; omega
  rw [List.getElem?_eq_getElem hi2]
  simp [nth, List.getD, List.getElem?_eq_getElem hi2]
theorem own_capQ {w : World} {g n cap : Nat} {xs : List Value} (h : w.ownsRow 0 3 1 (.slice (some ⟨g, 0, none⟩) n cap) n xs) : n ≤ cap := by
  rcases h.2 with ⟨e, _⟩ | ⟨gb, c2, cur, e, hbase, hgb, r1, _⟩
  · cases e
  · cases e; exact r1
theorem OwnQ.ints {w w6 : World} {g n cap : Nat} {l : List Int} {k : Int} (h : OwnQ w w6 g (n + 1) cap (l ++ [k])) (hl : l.length = n) (hn : n ≤ 17592186043904) : Ints w6 (some ⟨g, 0, none⟩) l := by
  refine ⟨by omega, .inr ⟨g, 0, rfl, fun i hi => ?_⟩⟩
  rw [Nat.zero_add, h.row i (by omega)]
  simp [nth, List.getD, hi, List.getElem?_append_left hi]
theorem belowN18 (n : Nat) (w : World) (m : Nat) : Below n w (w.drewN m) := ⟨rfl, rfl, rfl, Nat.le_refl _, fun _ _ => rfl⟩
theorem heap_lt18 {w : World} {P : Nat} {o : Obj} (h : w.heap[P]? = some o) : P < w.heap.size := (Array.getElem?_eq_some_iff.1 h).1
theorem Hid.intro18 {p : Prop} (h : p) : Hid p := h
theorem tkA_two (l : List Int) : ∃ x y : Int, tkA l = .tuple #[.int .i64 x, .int .i64 y] := by
  unfold tkA
  split
  · exact ⟨_, _, rfl⟩
  · exact ⟨_, _, rfl⟩
theorem bA_two (o : Option Nat) : ∃ x y : Int, bA o = .tuple #[.int .i64 x, .int .i64 y] := by
  cases o
  · exact ⟨_, _, rfl⟩
  · exact ⟨_, _, rfl⟩
set_option maxRecDepth 100000 in
set_option maxHeartbeats 16000000 in
theorem counts_any (w : World) (n : Int) (ia : Option Addr) (L ic : Nat) (is : List Int) (hi : Ints w ia is) (hl : is.length = L) (hlen : L ≤ 17592186043904) (k : Int) (p o : ByteArray) (f z : Int) (d : ByteArray) (ho : o.size ≤ 140737488355328) (hd : d.size ≤ 140737488355328) :
    Calls Try.prog 3 #[.int .i64 n, .slice ia L ic, .agg #[.int .i64 k, .string p, .string o, .int .i64 f, .int .i64 z, .string d]] w fun e w' => e = .returned (.bool true) ∧ Below w.heap.size w w' := by
  have HI : Hid (Ints w ia is ∧ is.length = L) := ⟨hi, hl⟩
  obtain ⟨x, y, hxy⟩ := tkA_two is
  obtain ⟨bx, by_, hbb⟩ := bA_two (bB k o.size d.size)
  have HTk : Hid (∀ W a, Ints W a is → (∀ q, a = some q → q.block < W.heap.size) → ∀ c, Calls Try.prog 5 #[.slice a L c] W fun e w' => e = .returned (.tuple #[.int .i64 x, .int .i64 y]) ∧ Below W.heap.size W w') := fun W a h1 h2 c => by
    have := takes_any W a L c is h1 hl hlen h2
    rw [hxy] at this
    exact this
  have HRt : Hid (∀ W, Below w.heap.size w W → Calls Try.prog 6 #[.slice ia L ic] W fun e w' => e = .returned (.tuple #[.int .i64 x, .int .i64 y]) ∧ Below W.heap.size W w') := fun W hb => by
    have := rtakes_any W ia L ic is (hi.on hb) hl hlen
    rw [hxy] at this
    exact this
  have HBo : Hid (∀ W, Calls Try.prog 7 #[.agg #[.int .i64 k, .string p, .string o, .int .i64 f, .int .i64 z, .string d]] W fun e w' => e = .returned (.tuple #[.int .i64 bx, .int .i64 by_]) ∧ Below W.heap.size W w') := fun W => by
    have := bound_any W k p o f z d ho hd
    rw [hbb] at this
    exact this
  have HBr : Hid (∀ W, Calls Try.prog 8 #[.agg #[.int .i64 k, .string p, .string o, .int .i64 f, .int .i64 z, .string d]] W fun e w' => e = .returned (.tuple #[.int .i64 bx, .int .i64 by_]) ∧ Below W.heap.size W w') := fun W => by
    have := rbound_any W k p o f z d ho hd
    rw [hbb] at this
    exact this
  clear hi hl hxy hbb ho hd
  obtain ⟨w0, hw0⟩ : ∃ w0, w.alloc (.cells #[.int .i64 k, .string p, .string o, .int .i64 f, .int .i64 z, .string d] 24) = w0 := ⟨_, rfl⟩
  obtain ⟨P, hP⟩ : ∃ P, w.heap.size = P := ⟨_, rfl⟩
  have H0 : Hid (Below w.heap.size w w0 ∧ w0.heap[P]? = some (.cells #[.int .i64 k, .string p, .string o, .int .i64 f, .int .i64 z, .string d] 24 (0, 0)) ∧ w.heap.size = P) := ⟨by rw [← hw0]; exact (Below.refl _ _).alloc (Nat.le_refl _) _, by rw [← hw0, ← hP]; exact heap_alloc_new _ _, hP⟩
  have main : ∀ w1, Below w0.heap.size w0 w1 → Hid (Below w.heap.size w w1 ∧ w1.heap[P]? = some (.cells #[.int .i64 k, .string p, .string o, .int .i64 f, .int .i64 z, .string d] 24 (0, 0))) := fun w1 hb => ⟨H0.out.1.trans (hb.mono H0.out.1.size), (hb.block P (heap_lt18 H0.out.2.1)).trans H0.out.2.1⟩
  have HM := Hid.intro18 main
  clear main
  cases hg : isLen n
  · have hb : ¬ (128 ≤ n ∧ n ≤ 16384) := by simpa [isLen] using hg
    have HNw : Hid (Calls Try.prog 4 #[.int .i64 n] w0 fun e w' => e = .returned (.tuple #[.pointer none, .int .i64 70]) ∧ Below w0.heap.size w0 w') := new_no w0 n hg
    clear hg
    rcases (show n < 128 ∨ (128 ≤ n ∧ 16384 < n) by omega) with hb1 | ⟨hb1, hb2⟩
    all_goals clear hb
    all_goals
      by_cases hL : L = 0
      · have his : is = [] := List.eq_nil_of_length_eq_zero (HI.out.2.trans hL)
        subst hL
        go_enter Try.func3, Try.ntmps3
        go_upto_region 1 with (fail)
        clear hw0 hP
        go_upto_region 5 with (go_at_call 4; refine HNw.out.mono ?_; rintro e w1 ⟨rfl, h1⟩; have H1 : Hid (Below w0.heap.size w0 w1) := h1; clear h1)
        obtain ⟨w2, hw2⟩ : ∃ w2, w1 = w2 := ⟨_, rfl⟩
        have H2 : Hid (Below w0.heap.size w0 w2) := by rw [← hw2]; exact H1.out
        rw [hw2]
        clear hw2
        go_upto_region 8 with (first
          | (at_builtin; have hh := H5.out.1; clear hh; refine wp_int18 rfl (.tmp 52) (.tmp 53) rfl (.slice none 0 0) 0 _ rfl rfl (-77) H5.out.1 (by omega) ?_; intro g2 cap2 w6 h1 h2 h3; have H6 : Hid (OwnQ w0 w6 g2 (0 + 1) cap2 (is ++ [-77])) := ownQ_of h1 h2 h3 H5.out.2.1 H5.out.2.2; have hcq : 0 ≤ cap2 := (by have := own_capQ h1; omega); clear h1 h2 h3)
          | (at_builtin; refine wp_nil0 rfl (.tmp 49) (.tmp 50) rfl ia ic rfl rfl ?_; have H5 : Hid (w2.ownsRow 0 3 1 (.slice none 0 0) 0 (is.map (Value.int .i64)) ∧ Below w0.heap.size w0 w2 ∧ ∀ b, (Value.slice none 0 0).ownBlock = some b → w0.heap.size ≤ b) := ⟨by rw [his]; exact World.ownsRow_nil _ _ _ _, H2.out, fun b e => by simp [Value.ownBlock] at e⟩))
        have HT1 : Hid (Calls Try.prog 5 #[.slice (some ⟨g2, 0, none⟩) 0 cap2] w6 fun e w' => e = .returned (.tuple #[.int .i64 x, .int .i64 y]) ∧ Below w6.heap.size w6 w') := HTk.out w6 _ (H6.out.ints HI.out.2 hlen) (fun q e => by cases e; exact H6.out.lt) cap2
        go_upto_region 10 with (first
          | (go_at_call 5; refine HT1.out.mono ?_; rintro e w7 ⟨rfl, h1⟩; have H8 : Hid (Below w6.heap.size w6 w7) := h1; clear h1 HT1)
          | (go_at_call 6; refine (HRt.out w7 (HM.out w7 (H6.out.bel.trans (H8.out.mono H6.out.bel.size))).out.1).mono ?_; rintro e w8 ⟨rfl, h1⟩; have H9 : Hid (Below w6.heap.size w6 w8) := H8.out.trans (h1.mono H8.out.size); clear h1))
        have hmk : w8.cell? ⟨g2, 0, none⟩ = some (.int .i64 (-77)) := by
          rw [H9.out.cell (p := ⟨g2, 0, none⟩) H6.out.lt, H6.out.row 0 (by omega)]
          simp [nth, List.getD, HI.out.2]
        have hcl : 0 < 0 + 1 := by omega
        go_upto_region 12 with (fail)
        clear hmk
        have HW8 : Hid (Below w0.heap.size w0 w8) := H6.out.bel.trans (H9.out.mono H6.out.bel.size)
        have HIw : Hid (Below w.heap.size w w8 ∧ w8.heap[P]? = some (.cells #[.int .i64 k, .string p, .string o, .int .i64 f, .int .i64 z, .string d] 24 (0, 0))) := (HM.out w8 HW8.out).out
        go_wp2_with (fail)
        go_loopw [86] (fun s86 wr => ∃ j : Nat, j ≤ 0 ∧ s86 = .int .i64 (j : Int) ∧ ∃ m, wr = w8.drewN m) (fun s _ => 0 - (intOf s).toNat)
        case atStart => exact ⟨0, Nat.zero_le _, rfl, 0, rfl⟩
        case round =>
          obtain ⟨j, hj, rfl, m, rfl⟩ := hrel
          by_cases hlt : j < 0
          · omega
          · have hlt' : ¬ (j : Int) < (0 : Int) := by omega
            obtain ⟨w9, hw9⟩ : ∃ w9, w8.drewN m = w9 := ⟨_, rfl⟩
            have HX : Hid (Below w0.heap.size w0 w9) := by rw [← hw9]; exact HW8.out.trans (belowN18 _ _ _)
            rw [hw9]
            clear hw9
            have hrw : ∀ W, Below w0.heap.size w0 W → W.cell? ⟨P, 0, none⟩ = some (.int .i64 k) ∧ W.cell? ⟨P, 1, none⟩ = some (.string p) ∧ W.cell? ⟨P, 2, none⟩ = some (.string o) ∧ W.cell? ⟨P, 3, none⟩ = some (.int .i64 f) ∧ W.cell? ⟨P, 4, none⟩ = some (.int .i64 z) ∧ W.cell? ⟨P, 5, none⟩ = some (.string d) := fun W hb => by
              have e := (HM.out W hb).out.2
              refine ⟨?_, ?_, ?_, ?_, ?_, ?_⟩ <;> (rw [cell_of_row _ _ _ _ _ _ e]; rfl)
            have HRW := Hid.intro18 hrw
            clear hrw
            obtain ⟨q0, q1, q2, q3, q4, q5⟩ := HRW.out w9 HX.out
            go_upto_region 19 with (go_at_call 7; refine (HBo.out w9).mono ?_; rintro e wa ⟨rfl, h1⟩; have HA : Hid (Below w0.heap.size w0 wa) := HX.out.trans (h1.mono HX.out.size); clear h1)
            clear q0 q1 q2 q3 q4 q5
            obtain ⟨q0, q1, q2, q3, q4, q5⟩ := HRW.out wa HA.out
            go_wp2_with (go_at_call 8; refine (HBr.out wa).mono ?_; rintro e wb ⟨rfl, h1⟩; have HB : Hid (Below w0.heap.size w0 wb) := HA.out.trans (h1.mono HA.out.size); clear h1)
            go_ret
            exact ⟨rfl, (HM.out wb HB.out).out.1⟩
      · go_enter Try.func3, Try.ntmps3
        go_upto_region 1 with (fail)
        clear hw0 hP
        go_upto_region 5 with (go_at_call 4; refine HNw.out.mono ?_; rintro e w1 ⟨rfl, h1⟩; have H1 : Hid (Below w0.heap.size w0 w1) := h1; clear h1)
        obtain ⟨w2, hw2⟩ : ∃ w2, w1 = w2 := ⟨_, rfl⟩
        have H2 : Hid (Below w0.heap.size w0 w2) := by rw [← hw2]; exact H1.out
        rw [hw2]
        clear hw2
        go_upto_region 8 with (first
          | (at_builtin; have hh := H5.out.1; clear hh; refine wp_int18 rfl (.tmp 52) (.tmp 53) rfl (.slice (some ⟨g1, 0, none⟩) L cap1) L _ rfl rfl (-77) H5.out.1 (by omega) ?_; intro g2 cap2 w6 h1 h2 h3; have H6 : Hid (OwnQ w0 w6 g2 (L + 1) cap2 (is ++ [-77])) := ownQ_of h1 h2 h3 H5.out.2.1 H5.out.2.2; have hcq : L ≤ cap2 := (by have := own_capQ h1; omega); clear h1 h2 h3)
          | (at_builtin; refine wp_nums rfl (.tmp 49) (.tmp 50) rfl ia L ic is rfl rfl (HI.out.1.on (HM.out w2 H2.out).out.1) HI.out.2 (by omega) hlen ?_; intro g1 cap1 w5 h1 h2 h3; have H5 : Hid (w5.ownsRow 0 3 1 (.slice (some ⟨g1, 0, none⟩) L cap1) L (is.map (Value.int .i64)) ∧ Below w0.heap.size w0 w5 ∧ ∀ b, (Value.slice (some ⟨g1, 0, none⟩) L cap1).ownBlock = some b → w0.heap.size ≤ b) := ⟨h1, H2.out.trans (h2.mono H2.out.size), fun b e => by cases e; exact Nat.le_trans H2.out.size h3⟩; clear h1 h2 h3))
        have HT1 : Hid (Calls Try.prog 5 #[.slice (some ⟨g2, 0, none⟩) L cap2] w6 fun e w' => e = .returned (.tuple #[.int .i64 x, .int .i64 y]) ∧ Below w6.heap.size w6 w') := HTk.out w6 _ (H6.out.ints HI.out.2 hlen) (fun q e => by cases e; exact H6.out.lt) cap2
        go_upto_region 10 with (first
          | (go_at_call 5; refine HT1.out.mono ?_; rintro e w7 ⟨rfl, h1⟩; have H8 : Hid (Below w6.heap.size w6 w7) := h1; clear h1 HT1)
          | (go_at_call 6; refine (HRt.out w7 (HM.out w7 (H6.out.bel.trans (H8.out.mono H6.out.bel.size))).out.1).mono ?_; rintro e w8 ⟨rfl, h1⟩; have H9 : Hid (Below w6.heap.size w6 w8) := H8.out.trans (h1.mono H8.out.size); clear h1))
        have hmk : w8.cell? ⟨g2, L, none⟩ = some (.int .i64 (-77)) := by
          rw [H9.out.cell (p := ⟨g2, L, none⟩) H6.out.lt, H6.out.row L (by omega)]
          simp [nth, List.getD, HI.out.2]
        have hcl : L < L + 1 := by omega
        go_upto_region 12 with (fail)
        clear hmk
        have HW8 : Hid (Below w0.heap.size w0 w8) := H6.out.bel.trans (H9.out.mono H6.out.bel.size)
        have HIw : Hid (Below w.heap.size w w8 ∧ w8.heap[P]? = some (.cells #[.int .i64 k, .string p, .string o, .int .i64 f, .int .i64 z, .string d] 24 (0, 0))) := (HM.out w8 HW8.out).out
        go_wp2_with (fail)
        go_loopw [86] (fun s86 wr => ∃ j : Nat, j ≤ L ∧ s86 = .int .i64 (j : Int) ∧ ∃ m, wr = w8.drewN m) (fun s _ => L - (intOf s).toNat)
        case atStart => exact ⟨0, Nat.zero_le _, rfl, 0, rfl⟩
        case round =>
          obtain ⟨j, hj, rfl, m, rfl⟩ := hrel
          by_cases hlt : j < L
          · have hlt' : (j : Int) < (L : Int) := by omega
            have hlt2 : (j : Int) < (L : Int) + 1 := by omega
            obtain ⟨b, off, rfl, hcell⟩ : ∃ b off, ia = some ⟨b, off, none⟩ ∧ w8.cell? ⟨b, off + j, none⟩ = some (.int .i64 (nth is j)) := by
              rcases (HI.out.1.on HIw.out.1).at_ with e | ⟨b, off, rfl, hc⟩
              · have := HI.out.2; rw [e] at this; simp at this; omega
              · exact ⟨b, off, rfl, hc j (by rw [HI.out.2]; exact hlt)⟩
            have hcell2 : w8.cell? ⟨g2, j, none⟩ = some (.int .i64 (nth is j)) := by
              rw [H9.out.cell (p := ⟨g2, j, none⟩) H6.out.lt, H6.out.row j (by omega)]
              have hj2 : j < is.length := by rw [HI.out.2]; exact hlt
              simp [nth, List.getD, List.getElem?_append_left hj2]
            obtain ⟨v, hv⟩ : ∃ v, nth is j = v := ⟨_, rfl⟩
            rw [hv] at hcell hcell2
            go_upto_region 15 with (fail)
            go_quiet (fail)
            go_wp2
            go_roundw
            case rel =>
              exact ⟨j + 1, by omega, (by go_num), _, rfl⟩
            case measure => simp [intOf]; omega
          · have hlt' : ¬ (j : Int) < (L : Int) := by omega
            obtain ⟨w9, hw9⟩ : ∃ w9, w8.drewN m = w9 := ⟨_, rfl⟩
            have HX : Hid (Below w0.heap.size w0 w9) := by rw [← hw9]; exact HW8.out.trans (belowN18 _ _ _)
            rw [hw9]
            clear hw9
            have hrw : ∀ W, Below w0.heap.size w0 W → W.cell? ⟨P, 0, none⟩ = some (.int .i64 k) ∧ W.cell? ⟨P, 1, none⟩ = some (.string p) ∧ W.cell? ⟨P, 2, none⟩ = some (.string o) ∧ W.cell? ⟨P, 3, none⟩ = some (.int .i64 f) ∧ W.cell? ⟨P, 4, none⟩ = some (.int .i64 z) ∧ W.cell? ⟨P, 5, none⟩ = some (.string d) := fun W hb => by
              have e := (HM.out W hb).out.2
              refine ⟨?_, ?_, ?_, ?_, ?_, ?_⟩ <;> (rw [cell_of_row _ _ _ _ _ _ e]; rfl)
            have HRW := Hid.intro18 hrw
            clear hrw
            obtain ⟨q0, q1, q2, q3, q4, q5⟩ := HRW.out w9 HX.out
            go_upto_region 19 with (go_at_call 7; refine (HBo.out w9).mono ?_; rintro e wa ⟨rfl, h1⟩; have HA : Hid (Below w0.heap.size w0 wa) := HX.out.trans (h1.mono HX.out.size); clear h1)
            clear q0 q1 q2 q3 q4 q5
            obtain ⟨q0, q1, q2, q3, q4, q5⟩ := HRW.out wa HA.out
            go_wp2_with (go_at_call 8; refine (HBr.out wa).mono ?_; rintro e wb ⟨rfl, h1⟩; have HB : Hid (Below w0.heap.size w0 wb) := HA.out.trans (h1.mono HA.out.size); clear h1)
            go_ret
            exact ⟨rfl, (HM.out wb HB.out).out.1⟩
  · have hb : 128 ≤ n ∧ n ≤ 16384 := by simpa [isLen] using hg
    have HNw : Hid (Calls Try.prog 4 #[.int .i64 n] w0 fun e w' => ∃ g : Nat, e = .returned (.tuple #[.pointer (some ⟨g, 0, none⟩), .int .i64 0]) ∧ Below w0.heap.size w0 w') := new_ok w0 n hg
    obtain ⟨hb1, hb2⟩ := hb
    clear hg
    by_cases hL : L = 0
    · have his : is = [] := List.eq_nil_of_length_eq_zero (HI.out.2.trans hL)
      subst hL
      go_enter Try.func3, Try.ntmps3
      go_upto_region 1 with (fail)
      clear hw0 hP
      go_upto_region 5 with (go_at_call 4; refine HNw.out.mono ?_; rintro e w1 ⟨gf, rfl, h1⟩; have H1 : Hid (Below w0.heap.size w0 w1) := h1; clear h1)
      obtain ⟨w2, hw2⟩ : ∃ w2, w1 = w2 := ⟨_, rfl⟩
      have H2 : Hid (Below w0.heap.size w0 w2) := by rw [← hw2]; exact H1.out
      rw [hw2]
      clear hw2
      go_upto_region 8 with (first
        | (at_builtin; have hh := H5.out.1; clear hh; refine wp_int18 rfl (.tmp 52) (.tmp 53) rfl (.slice none 0 0) 0 _ rfl rfl (-77) H5.out.1 (by omega) ?_; intro g2 cap2 w6 h1 h2 h3; have H6 : Hid (OwnQ w0 w6 g2 (0 + 1) cap2 (is ++ [-77])) := ownQ_of h1 h2 h3 H5.out.2.1 H5.out.2.2; have hcq : 0 ≤ cap2 := (by have := own_capQ h1; omega); clear h1 h2 h3)
        | (at_builtin; refine wp_nil0 rfl (.tmp 49) (.tmp 50) rfl ia ic rfl rfl ?_; have H5 : Hid (w2.ownsRow 0 3 1 (.slice none 0 0) 0 (is.map (Value.int .i64)) ∧ Below w0.heap.size w0 w2 ∧ ∀ b, (Value.slice none 0 0).ownBlock = some b → w0.heap.size ≤ b) := ⟨by rw [his]; exact World.ownsRow_nil _ _ _ _, H2.out, fun b e => by simp [Value.ownBlock] at e⟩))
      have HT1 : Hid (Calls Try.prog 5 #[.slice (some ⟨g2, 0, none⟩) 0 cap2] w6 fun e w' => e = .returned (.tuple #[.int .i64 x, .int .i64 y]) ∧ Below w6.heap.size w6 w') := HTk.out w6 _ (H6.out.ints HI.out.2 hlen) (fun q e => by cases e; exact H6.out.lt) cap2
      go_upto_region 10 with (first
        | (go_at_call 5; refine HT1.out.mono ?_; rintro e w7 ⟨rfl, h1⟩; have H8 : Hid (Below w6.heap.size w6 w7) := h1; clear h1 HT1)
        | (go_at_call 6; refine (HRt.out w7 (HM.out w7 (H6.out.bel.trans (H8.out.mono H6.out.bel.size))).out.1).mono ?_; rintro e w8 ⟨rfl, h1⟩; have H9 : Hid (Below w6.heap.size w6 w8) := H8.out.trans (h1.mono H8.out.size); clear h1))
      have hmk : w8.cell? ⟨g2, 0, none⟩ = some (.int .i64 (-77)) := by
        rw [H9.out.cell (p := ⟨g2, 0, none⟩) H6.out.lt, H6.out.row 0 (by omega)]
        simp [nth, List.getD, HI.out.2]
      have hcl : 0 < 0 + 1 := by omega
      go_upto_region 12 with (fail)
      clear hmk
      have HW8 : Hid (Below w0.heap.size w0 w8) := H6.out.bel.trans (H9.out.mono H6.out.bel.size)
      have HIw : Hid (Below w.heap.size w w8 ∧ w8.heap[P]? = some (.cells #[.int .i64 k, .string p, .string o, .int .i64 f, .int .i64 z, .string d] 24 (0, 0))) := (HM.out w8 HW8.out).out
      go_wp2_with (fail)
      go_loopw [86] (fun s86 wr => ∃ j : Nat, j ≤ 0 ∧ s86 = .int .i64 (j : Int) ∧ ∃ m, wr = w8.drewN m) (fun s _ => 0 - (intOf s).toNat)
      case atStart => exact ⟨0, Nat.zero_le _, rfl, 0, rfl⟩
      case round =>
        obtain ⟨j, hj, rfl, m, rfl⟩ := hrel
        by_cases hlt : j < 0
        · omega
        · have hlt' : ¬ (j : Int) < (0 : Int) := by omega
          obtain ⟨w9, hw9⟩ : ∃ w9, w8.drewN m = w9 := ⟨_, rfl⟩
          have HX : Hid (Below w0.heap.size w0 w9) := by rw [← hw9]; exact HW8.out.trans (belowN18 _ _ _)
          rw [hw9]
          clear hw9
          have hrw : ∀ W, Below w0.heap.size w0 W → W.cell? ⟨P, 0, none⟩ = some (.int .i64 k) ∧ W.cell? ⟨P, 1, none⟩ = some (.string p) ∧ W.cell? ⟨P, 2, none⟩ = some (.string o) ∧ W.cell? ⟨P, 3, none⟩ = some (.int .i64 f) ∧ W.cell? ⟨P, 4, none⟩ = some (.int .i64 z) ∧ W.cell? ⟨P, 5, none⟩ = some (.string d) := fun W hb => by
            have e := (HM.out W hb).out.2
            refine ⟨?_, ?_, ?_, ?_, ?_, ?_⟩ <;> (rw [cell_of_row _ _ _ _ _ _ e]; rfl)
          have HRW := Hid.intro18 hrw
          clear hrw
          obtain ⟨q0, q1, q2, q3, q4, q5⟩ := HRW.out w9 HX.out
          go_upto_region 19 with (go_at_call 7; refine (HBo.out w9).mono ?_; rintro e wa ⟨rfl, h1⟩; have HA : Hid (Below w0.heap.size w0 wa) := HX.out.trans (h1.mono HX.out.size); clear h1)
          clear q0 q1 q2 q3 q4 q5
          obtain ⟨q0, q1, q2, q3, q4, q5⟩ := HRW.out wa HA.out
          go_wp2_with (go_at_call 8; refine (HBr.out wa).mono ?_; rintro e wb ⟨rfl, h1⟩; have HB : Hid (Below w0.heap.size w0 wb) := HA.out.trans (h1.mono HA.out.size); clear h1)
          go_ret
          exact ⟨rfl, (HM.out wb HB.out).out.1⟩
    · go_enter Try.func3, Try.ntmps3
      go_upto_region 1 with (fail)
      clear hw0 hP
      go_upto_region 5 with (go_at_call 4; refine HNw.out.mono ?_; rintro e w1 ⟨gf, rfl, h1⟩; have H1 : Hid (Below w0.heap.size w0 w1) := h1; clear h1)
      obtain ⟨w2, hw2⟩ : ∃ w2, w1 = w2 := ⟨_, rfl⟩
      have H2 : Hid (Below w0.heap.size w0 w2) := by rw [← hw2]; exact H1.out
      rw [hw2]
      clear hw2
      go_upto_region 8 with (first
        | (at_builtin; have hh := H5.out.1; clear hh; refine wp_int18 rfl (.tmp 52) (.tmp 53) rfl (.slice (some ⟨g1, 0, none⟩) L cap1) L _ rfl rfl (-77) H5.out.1 (by omega) ?_; intro g2 cap2 w6 h1 h2 h3; have H6 : Hid (OwnQ w0 w6 g2 (L + 1) cap2 (is ++ [-77])) := ownQ_of h1 h2 h3 H5.out.2.1 H5.out.2.2; have hcq : L ≤ cap2 := (by have := own_capQ h1; omega); clear h1 h2 h3)
        | (at_builtin; refine wp_nums rfl (.tmp 49) (.tmp 50) rfl ia L ic is rfl rfl (HI.out.1.on (HM.out w2 H2.out).out.1) HI.out.2 (by omega) hlen ?_; intro g1 cap1 w5 h1 h2 h3; have H5 : Hid (w5.ownsRow 0 3 1 (.slice (some ⟨g1, 0, none⟩) L cap1) L (is.map (Value.int .i64)) ∧ Below w0.heap.size w0 w5 ∧ ∀ b, (Value.slice (some ⟨g1, 0, none⟩) L cap1).ownBlock = some b → w0.heap.size ≤ b) := ⟨h1, H2.out.trans (h2.mono H2.out.size), fun b e => by cases e; exact Nat.le_trans H2.out.size h3⟩; clear h1 h2 h3))
      have HT1 : Hid (Calls Try.prog 5 #[.slice (some ⟨g2, 0, none⟩) L cap2] w6 fun e w' => e = .returned (.tuple #[.int .i64 x, .int .i64 y]) ∧ Below w6.heap.size w6 w') := HTk.out w6 _ (H6.out.ints HI.out.2 hlen) (fun q e => by cases e; exact H6.out.lt) cap2
      go_upto_region 10 with (first
        | (go_at_call 5; refine HT1.out.mono ?_; rintro e w7 ⟨rfl, h1⟩; have H8 : Hid (Below w6.heap.size w6 w7) := h1; clear h1 HT1)
        | (go_at_call 6; refine (HRt.out w7 (HM.out w7 (H6.out.bel.trans (H8.out.mono H6.out.bel.size))).out.1).mono ?_; rintro e w8 ⟨rfl, h1⟩; have H9 : Hid (Below w6.heap.size w6 w8) := H8.out.trans (h1.mono H8.out.size); clear h1))
      have hmk : w8.cell? ⟨g2, L, none⟩ = some (.int .i64 (-77)) := by
        rw [H9.out.cell (p := ⟨g2, L, none⟩) H6.out.lt, H6.out.row L (by omega)]
        simp [nth, List.getD, HI.out.2]
      have hcl : L < L + 1 := by omega
      go_upto_region 12 with (fail)
      clear hmk
      have HW8 : Hid (Below w0.heap.size w0 w8) := H6.out.bel.trans (H9.out.mono H6.out.bel.size)
      have HIw : Hid (Below w.heap.size w w8 ∧ w8.heap[P]? = some (.cells #[.int .i64 k, .string p, .string o, .int .i64 f, .int .i64 z, .string d] 24 (0, 0))) := (HM.out w8 HW8.out).out
      go_wp2_with (fail)
      go_loopw [86] (fun s86 wr => ∃ j : Nat, j ≤ L ∧ s86 = .int .i64 (j : Int) ∧ ∃ m, wr = w8.drewN m) (fun s _ => L - (intOf s).toNat)
      case atStart => exact ⟨0, Nat.zero_le _, rfl, 0, rfl⟩
      case round =>
        obtain ⟨j, hj, rfl, m, rfl⟩ := hrel
        by_cases hlt : j < L
        · have hlt' : (j : Int) < (L : Int) := by omega
          have hlt2 : (j : Int) < (L : Int) + 1 := by omega
          obtain ⟨b, off, rfl, hcell⟩ : ∃ b off, ia = some ⟨b, off, none⟩ ∧ w8.cell? ⟨b, off + j, none⟩ = some (.int .i64 (nth is j)) := by
            rcases (HI.out.1.on HIw.out.1).at_ with e | ⟨b, off, rfl, hc⟩
            · have := HI.out.2; rw [e] at this; simp at this; omega
            · exact ⟨b, off, rfl, hc j (by rw [HI.out.2]; exact hlt)⟩
          have hcell2 : w8.cell? ⟨g2, j, none⟩ = some (.int .i64 (nth is j)) := by
            rw [H9.out.cell (p := ⟨g2, j, none⟩) H6.out.lt, H6.out.row j (by omega)]
            have hj2 : j < is.length := by rw [HI.out.2]; exact hlt
            simp [nth, List.getD, List.getElem?_append_left hj2]
          obtain ⟨v, hv⟩ : ∃ v, nth is j = v := ⟨_, rfl⟩
          rw [hv] at hcell hcell2
          go_upto_region 15 with (fail)
          go_quiet (fail)
          go_wp2
          go_roundw
          case rel =>
            exact ⟨j + 1, by omega, (by go_num), _, rfl⟩
          case measure => simp [intOf]; omega
        · have hlt' : ¬ (j : Int) < (L : Int) := by omega
          obtain ⟨w9, hw9⟩ : ∃ w9, w8.drewN m = w9 := ⟨_, rfl⟩
          have HX : Hid (Below w0.heap.size w0 w9) := by rw [← hw9]; exact HW8.out.trans (belowN18 _ _ _)
          rw [hw9]
          clear hw9
          have hrw : ∀ W, Below w0.heap.size w0 W → W.cell? ⟨P, 0, none⟩ = some (.int .i64 k) ∧ W.cell? ⟨P, 1, none⟩ = some (.string p) ∧ W.cell? ⟨P, 2, none⟩ = some (.string o) ∧ W.cell? ⟨P, 3, none⟩ = some (.int .i64 f) ∧ W.cell? ⟨P, 4, none⟩ = some (.int .i64 z) ∧ W.cell? ⟨P, 5, none⟩ = some (.string d) := fun W hb => by
            have e := (HM.out W hb).out.2
            refine ⟨?_, ?_, ?_, ?_, ?_, ?_⟩ <;> (rw [cell_of_row _ _ _ _ _ _ e]; rfl)
          have HRW := Hid.intro18 hrw
          clear hrw
          obtain ⟨q0, q1, q2, q3, q4, q5⟩ := HRW.out w9 HX.out
          go_upto_region 19 with (go_at_call 7; refine (HBo.out w9).mono ?_; rintro e wa ⟨rfl, h1⟩; have HA : Hid (Below w0.heap.size w0 wa) := HX.out.trans (h1.mono HX.out.size); clear h1)
          clear q0 q1 q2 q3 q4 q5
          obtain ⟨q0, q1, q2, q3, q4, q5⟩ := HRW.out wa HA.out
          go_wp2_with (go_at_call 8; refine (HBr.out wa).mono ?_; rintro e wb ⟨rfl, h1⟩; have HB : Hid (Below w0.heap.size w0 wb) := HA.out.trans (h1.mono HA.out.size); clear h1)
          go_ret
          exact ⟨rfl, (HM.out wb HB.out).out.1⟩
end Go.Proofs.Ytgkgcocpkammfaa
