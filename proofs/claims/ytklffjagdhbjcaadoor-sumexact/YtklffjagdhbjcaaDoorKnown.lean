import Derived.Test.YtklffjagdhbjcaaDoorTurn
import Derived.Lib.SlBytesConst
namespace Go.Proofs.YtklffjagdhbjcaaDoor
open Go.RowKit
open Crc (W)

theorem nth_cell (l : List Int) (k : Nat) (h : k < l.length) : ((l.map (Value.int .u8)).toArray)[k]? = some (.int .u8 (nth l k)) := by
  simp [nth, List.getD, h]
theorem bytes_row {w : World} {g : Nat} {t : TypeId} {fr : Nat × Nat} (l : List Int) (hg : w.heap[g]? = some (.cells (l.map (Value.int .u8)).toArray t fr)) (hl : l.length ≤ 1000000000000000) (hw : ∀ i, 0 ≤ nth l i ∧ nth l i < 256) :
    Bytes w (some ⟨g, 0, none⟩) l := by
  refine ⟨hl, hw, .inr ⟨g, 0, rfl, fun i hi => ?_⟩⟩
  rw [Nat.zero_add, cell_of_row _ _ _ _ _ _ hg, nth_cell l i hi]
theorem nth_wf {l : List Int} (h : ∀ c ∈ l, 0 ≤ c ∧ c < 256) (i : Nat) : 0 ≤ nth l i ∧ nth l i < 256 := by
  unfold nth
  by_cases hi : i < l.length
  · have : l.getD i 0 = l[i] := by simp [List.getD, hi]
    rw [this]; exact h _ (List.getElem_mem hi)
  · have : l.getD i 0 = 0 := by simp [List.getD, hi]
    rw [this]; omega
theorem of_lit (w : World) (l : List Int) (n c : Nat) (m : Nat × Nat) (hn : l.length = n) (hl : l.length ≤ 1000000000000000) (hw : ∀ c ∈ l, 0 ≤ c ∧ c < 256) (hT : TabAt w) :
    Calls Tryd.prog 9 #[.slice (some ⟨w.heap.size, 0, none⟩) n c] (w.alloc (.cells (l.map (Value.int .u8)).toArray 5 m)) fun e w' => e = .returned (.int .u32 (U (Crc.crc l))) ∧ Below w.heap.size w w' ∧ TabAt w' := by
  have hb : Below w.heap.size w (w.alloc (.cells (l.map (Value.int .u8)).toArray 5 m)) := (Below.refl _ _).alloc (Nat.le_refl _) _
  refine (of_any _ _ n c l hn (hT.below hb hT.size) (bytes_row l (heap_alloc_new _ _) hl (nth_wf hw))).mono ?_
  rintro e w' ⟨rfl, rfl⟩
  exact ⟨rfl, hb, hT.below hb hT.size⟩
theorem turn_lit (w : World) (s : W) (n at_ : Int) (l1 l2 : List Int) (n1 c1 c2 : Nat) (m1 m2 : Nat × Nat) (h0 : 0 ≤ n) (h1 : n ≤ 1099511627776) (h2 : 0 ≤ at_) (h3 : at_ + n1 ≤ n)
    (e1 : l1.length = n1) (e2 : l2.length = n1) (hl : n1 ≤ 1000000000000000) (hw1 : ∀ c ∈ l1, 0 ≤ c ∧ c < 256) (hw2 : ∀ c ∈ l2, 0 ≤ c ∧ c < 256) (hT : TabAt w) :
    Calls Tryd.prog 12 #[.int .u32 (U s), .int .i64 n, .int .i64 at_, .slice (some ⟨w.heap.size, 0, none⟩) n1 c1, .slice (some ⟨w.heap.size + 1, 0, none⟩) n1 c2]
      ((w.alloc (.cells (l1.map (Value.int .u8)).toArray 5 m1)).alloc (.cells (l2.map (Value.int .u8)).toArray 5 m2)) fun e w' =>
      e = .returned (.tuple #[.int .u32 (U (s ^^^ Crc.pw Crc.e8 (n - at_ - n1).toNat (Crc.crc l1 ^^^ Crc.crc l2))), .int .i64 0]) ∧ Below w.heap.size w w' ∧ TabAt w' := by
  have hb : Below w.heap.size w ((w.alloc (.cells (l1.map (Value.int .u8)).toArray 5 m1)).alloc (.cells (l2.map (Value.int .u8)).toArray 5 m2)) := ((Below.refl _ _).alloc (Nat.le_refl _) _).alloc (by simp) _
  refine (turn_ok _ s n at_ _ _ n1 c1 c2 l1 l2 h0 h1 h2 h3 e1 e2 (hT.below hb hT.size) (bytes_row l1 (heap_alloc2_old _ _ _) (by omega) (nth_wf hw1)) (bytes_row l2 (heap_alloc2_new _ _ _) (by omega) (nth_wf hw2))).mono ?_
  rintro e w' ⟨rfl, hb'⟩
  have hb2 := hb.trans (hb'.mono hb.size)
  exact ⟨rfl, hb2, hT.below hb2 hT.size⟩

theorem convert1 (w : World) (C : Array Value) (n c : Nat) : (convert 24 24 (.slice (some ⟨w.heap.size, 0, none⟩) n c)).run Tryd.prog (w.alloc (.cells C 5)) = .ok (.slice (some ⟨w.heap.size, 0, none⟩) n c) (w.alloc (.cells C 5 (C.size, C.size + 1))) :=
  Lib.run_convert_bytes_const (P := Tryd.prog) w 24 5 C n c Tryd.underlying24 Tryd.underlying5
theorem convert2 (w : World) (A : Obj) (C : Array Value) (n c : Nat) : (convert 24 24 (.slice (some ⟨w.heap.size + 1, 0, none⟩) n c)).run Tryd.prog ((w.alloc A).alloc (.cells C 5)) = .ok (.slice (some ⟨w.heap.size + 1, 0, none⟩) n c) ((w.alloc A).alloc (.cells C 5 (C.size, C.size + 1))) := by
  have := convert1 (w.alloc A) C n c
  rwa [size_alloc] at this
theorem chain {w a b : World} (h : Below w.heap.size w a) (k : Below a.heap.size a b) : Below w.heap.size w b := h.trans (k.mono h.size)
theorem TabAt.on {w a : World} (h : TabAt w) (k : Below w.heap.size w a) : TabAt a := h.below k h.size
theorem k9 : U (Crc.crc [49, 50, 51, 52, 53, 54, 55, 56, 57]) = 3421780262 := by decide +kernel

set_option maxRecDepth 100000 in
set_option maxHeartbeats 400000 in
theorem known_any (w : World) (hT : TabAt w) :
    Calls Tryd.prog 8 #[] w fun e w' => e = .returned (.bool true) ∧ Below w.heap.size w w' := by
  have HT : Hid (TabAt w) := hT
  clear hT
  have kc := convert1
  have kc2 := convert2
  have hj : Crc.pw Crc.e8 (5 : Int).toNat (Crc.crc [49, 50, 51, 52]) ^^^ Crc.crc [53, 54, 55, 56, 57] = Crc.crc [49, 50, 51, 52, 53, 54, 55, 56, 57] := Crc.join [49, 50, 51, 52] [53, 54, 55, 56, 57]
  have ht : Crc.crc [49, 50, 51, 52, 53, 54, 55, 56, 57] ^^^ Crc.pw Crc.e8 ((9 : Int) - 2 - (1 : Nat)).toNat (Crc.crc [51] ^^^ Crc.crc [51]) = Crc.crc [49, 50, 51, 52, 53, 54, 55, 56, 57] := Crc.turn [49, 50] [51] [51] [52, 53, 54, 55, 56, 57] rfl
  have HJ : Hid (Crc.pw Crc.e8 (5 : Int).toNat (Crc.crc [49, 50, 51, 52]) ^^^ Crc.crc [53, 54, 55, 56, 57] = Crc.crc [49, 50, 51, 52, 53, 54, 55, 56, 57]) := hj
  have HTu : Hid (Crc.crc [49, 50, 51, 52, 53, 54, 55, 56, 57] ^^^ Crc.pw Crc.e8 ((9 : Int) - 2 - (1 : Nat)).toNat (Crc.crc [51] ^^^ Crc.crc [51]) = Crc.crc [49, 50, 51, 52, 53, 54, 55, 56, 57]) := ht
  clear hj ht
  have K9 : Hid (U (Crc.crc [49, 50, 51, 52, 53, 54, 55, 56, 57]) = 3421780262) := k9
  go_enter Tryd.func8, Tryd.ntmps8
  go_wp2_with fail
  refine (of_lit w [49, 50, 51, 52, 53, 54, 55, 56, 57] 9 9 (9, 10) rfl (by decide) (by decide) HT.out).mono ?_
  rintro e w1 ⟨rfl, hb1, ht1⟩
  rw [K9.out]
  go_wp2_with fail
  refine (of_lit w1 [49, 50, 51, 52] 4 4 (4, 5) rfl (by decide) (by decide) ht1).mono ?_
  rintro e w2 ⟨rfl, hb2, ht2⟩
  go_wp2_with fail
  refine (of_lit w2 [53, 54, 55, 56, 57] 5 5 (5, 6) rfl (by decide) (by decide) ht2).mono ?_
  rintro e w3 ⟨rfl, hb3, ht3⟩
  go_wp2_with fail
  refine (join_ok w3 _ _ 5 (by decide) (by decide) ht3).mono ?_
  rintro e w4 ⟨rfl, hb4⟩
  rw [HJ.out, K9.out]
  have ht4 := ht3.below hb4 ht3.size
  go_wp2_with fail
  rw [← K9.out]
  refine (turn_lit w4 _ 9 2 [51] [51] 1 1 1 (1, 2) (1, 2) (by decide) (by decide) (by decide) (by decide) rfl rfl (by decide) (by decide) (by decide) ht4).mono ?_
  rintro e w5 ⟨rfl, hb5, ht5⟩
  rw [HTu.out, K9.out]
  go_wp2
  go_ret
  exact ⟨rfl, chain (chain (chain (chain hb1 hb2) hb3) hb4) hb5⟩
end Go.Proofs.YtklffjagdhbjcaaDoor
