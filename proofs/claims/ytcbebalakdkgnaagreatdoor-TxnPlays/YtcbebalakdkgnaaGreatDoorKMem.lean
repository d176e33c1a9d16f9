import Derived.Test.YtcbebalakdkgnaaGreatDoorRows
import Derived.Test.YtcbebalakdkgnaaGreatDoorKMathR
import Derived.WalkKit
import Derived.WalkLawsBesides
import Derived.WalkSmall
import Derived.Laws.AppendOwnNone
import Derived.Laws.CopyOwn
import Derived.Laws.BytesArg
import Derived.Deep.QuietTactic
import Derived.BigQuiet
import Derived.Test.YtcbebalakdkgnaaGreatDoorCards
import Derived.Test.YtcbebalakdkgnaaGreatDoorTie
import Derived.ProofKit
import Derived.OpenShut
import Derived.ShutString
import Derived.ChangeOld
import Derived.Below
import Derived.Deep.DeepHandedRow
import Derived.Lib.LaidTab
namespace Go.Proofs.YtcbebalakdkgnaaGreatDoor
open Go.RowKit Rec

/-- the two tables 140 -/
structure TabAt (w : World) : Prop where
  wid : ∀ i, i < 4 → w.cell? ⟨0, i, none⟩ = some (.int .i64 (nth [1, 2, 4, 8] i))
  hal : ∀ i, i < 16 → w.cell? ⟨1, i, none⟩ = some (.int .u32 ((Crc.tab.getD i 0 : Nat) : Int))
/-- 140 -/
theorem TabAt.size {w : World} (h : TabAt w) : 1 < w.heap.size := block_lt_of_cell (h.hal 0 (by omega))
/-- 140 -/
theorem TabAt.below {B : Nat} {w w' : World} (h : TabAt w) (hb : Below B w w') (hB : 1 < B) : TabAt w' :=
  ⟨fun i hi => by rw [hb.cell (p := ⟨0, i, none⟩) (show 0 < B by omega)]; exact h.wid i hi, fun i hi => by rw [hb.cell (p := ⟨1, i, none⟩) hB]; exact h.hal i hi⟩
/-- 140 -/
theorem TabAt.on {w w' : World} (h : TabAt w) (hb : Below w.heap.size w w') : TabAt w' := h.below hb h.size
/-- 140 -/
theorem TabAt.grown {w w' : World} {r : Option Nat} (h : TabAt w) (hb : w.grownBy w' r) (h0 : r ≠ some 0) (h1 : r ≠ some 1) : TabAt w' :=
  ⟨fun i hi => hb.cell (h.wid i hi) (fun e => h0 e.symm), fun i hi => hb.cell (h.hal i hi) (fun e => h1 e.symm)⟩
/-- bytes in memory -/
structure Bytes (w : World) (a : Option Addr) (l : List Int) : Prop where
  len : l.length ≤ 1000000000000000
  wf : ∀ i, 0 ≤ nth l i ∧ nth l i < 256
  at_ : l = [] ∨ ∃ b off, a = some ⟨b, off, none⟩ ∧ ∀ i, i < l.length → w.cell? ⟨b, off + i, none⟩ = some (.int .u8 (nth l i))
theorem Bytes.cell {w : World} {b off i : Nat} {l : List Int} (h : Bytes w (some ⟨b, off, none⟩) l) (hi : i < l.length) : w.cell? ⟨b, off + i, none⟩ = some (.int .u8 (nth l i)) := by
  rcases h.at_ with e | ⟨b', off', e, hc⟩
  · subst e; exact absurd hi (by simp)
  · cases e; exact hc i hi
theorem heap_lt {w : World} {B : Nat} {o : Obj} (h : w.heap[B]? = some o) : B < w.heap.size := by
  by_cases hb : B < w.heap.size
  · exact hb
  · rw [Array.getElem?_eq_none (by omega)] at h; exact absurd h (by simp)
theorem nth_cell (l : List Int) (k : Nat) (h : k < l.length) : ((l.map (Value.int .u8)).toArray)[k]? = some (.int .u8 (nth l k)) := by
  simp [nth, List.getD, h]
theorem nth_cellL (l : List Int) (k : Nat) (h : k < l.length) : (l.map (Value.int .u8))[k]? = some (.int .u8 (nth l k)) := by
  simp [nth, List.getD, h]
theorem grown_trans {a b c : World} {r : Option Nat} (h : a.grownBy b r) (k : b.grownBy c r) : a.grownBy c r :=
  ⟨k.os.trans h.os, k.tape.trans h.tape, k.output.trans h.output, Nat.le_trans h.size k.size, fun i hi hr => (k.block i (Nat.lt_of_lt_of_le hi h.size) hr).trans (h.block i hi hr)⟩
theorem grown_refl (w : World) (r : Option Nat) : w.grownBy w r := ⟨rfl, rfl, rfl, Nat.le_refl _, fun _ _ _ => rfl⟩
theorem below_of {w w' : World} {g B : Nat} (h : w.grownBy w' (some g)) (hB : B ≤ g) (hs : B ≤ w.heap.size) : Below B w w' := (Below.refl B w).grown h hs (by intro k hk; cases hk; exact hB)

/-- bytes in a row of one's own -/
structure OwnB (w : World) (g cap : Nat) (l : List Int) : Prop where
  row : ∃ cur : Array Value, w.heap[g]? = some (.cells cur 5 (0, 0)) ∧ cur.size = cap ∧ cur.toList.take l.length = l.map (Value.int .u8)
  len : l.length ≤ 1000000000000000
  room : l.length ≤ cap
  top : cap ≤ maxLen
  wf : ∀ i, 0 ≤ nth l i ∧ nth l i < 256

theorem OwnB.cell {w : World} {g cap : Nat} {l : List Int} (h : OwnB w g cap l) (i : Nat) (hi : i < l.length) : w.cell? ⟨g, i, none⟩ = some (.int .u8 (nth l i)) := by
  obtain ⟨cur, hg, _, ht⟩ := h.row
  rw [cell_of_row _ _ _ _ _ _ hg, ← nth_cell l i hi, ← ht]
  simp [hi]
theorem OwnB.frozen {w : World} {g cap : Nat} {l : List Int} (h : OwnB w g cap l) (i : Nat) : w.frozen? ⟨g, i, none⟩ = false := by
  obtain ⟨cur, hg, _, _⟩ := h.row
  exact frozen_of_row _ _ _ _ _ hg
theorem OwnB.bytes {w : World} {g cap : Nat} {l : List Int} (h : OwnB w g cap l) : Bytes w (some ⟨g, 0, none⟩) l :=
  ⟨h.len, h.wf, .inr ⟨g, 0, rfl, fun i hi => by rw [Nat.zero_add]; exact h.cell i hi⟩⟩
theorem OwnB.lt {w : World} {g cap : Nat} {l : List Int} (h : OwnB w g cap l) : g < w.heap.size := by
  obtain ⟨cur, hg, _, _⟩ := h.row
  exact heap_lt hg
theorem OwnB.below {B : Nat} {w w' : World} {g cap : Nat} {l : List Int} (h : OwnB w g cap l) (hb : Below B w w') (hB : g < B) : OwnB w' g cap l := by
  obtain ⟨cur, hg, h2, h3⟩ := h.row
  exact ⟨⟨cur, by rw [hb.block g hB]; exact hg, h2, h3⟩, h.len, h.room, h.top, h.wf⟩
theorem OwnB.on {w w' : World} {g cap : Nat} {l : List Int} (h : OwnB w g cap l) (hb : Below w.heap.size w w') : OwnB w' g cap l := h.below hb h.lt
theorem OwnB.grown {r : Option Nat} {w w' : World} {g cap : Nat} {l : List Int} (h : OwnB w g cap l) (hb : w.grownBy w' r) (hr : some g ≠ r) : OwnB w' g cap l := by
  obtain ⟨cur, hg, h2, h3⟩ := h.row
  exact ⟨⟨cur, by rw [hb.block g h.lt hr]; exact hg, h2, h3⟩, h.len, h.room, h.top, h.wf⟩
theorem grown_set {w : World} {g k : Nat} {v : Value} : w.grownBy (w.setCell ⟨g, k, none⟩ v) (some g) :=
  ⟨rfl, rfl, rfl, by simp [World.setCell], fun i _ hr => Below.heap_setCell w ⟨g, k, none⟩ v i (fun e => hr (by rw [e]))⟩
theorem OwnB.set {w : World} {g cap : Nat} {l : List Int} (h : OwnB w g cap l) (k : Nat) (c : Int) (hk : k < l.length) (hc : 0 ≤ c ∧ c < 256) :
    OwnB (w.setCell ⟨g, k, none⟩ (.int .u8 c)) g cap (l.set k c) := by
  obtain ⟨cur, hg, h2, h3⟩ := h.row
  refine ⟨⟨cur.setIfInBounds k (.int .u8 c), heap_setCell_same _ _ _ _ _ _ hg, by simp [h2], ?_⟩, by simpa using h.len, by simpa using h.room, h.top, fun i => ?_⟩
  · rw [List.length_set, Array.toList_setIfInBounds, List.take_set, h3, List.map_set]
  · rw [nth_set l k i c hk]
    split
    · exact hc
    · exact h.wf i
theorem Bytes.below {B : Nat} {w w' : World} {a : Option Addr} {l : List Int} (h : Bytes w a l) (hb : Below B w w') (hB : ∀ p, a = some p → p.block < B) : Bytes w' a l := by
  refine ⟨h.len, h.wf, ?_⟩
  rcases h.at_ with e | ⟨b, off, rfl, hc⟩
  · exact .inl e
  · refine .inr ⟨b, off, rfl, fun i hi => ?_⟩
    have := hB _ rfl
    rw [hb.cell (p := ⟨b, off + i, none⟩) this]; exact hc i hi
theorem Bytes.on {w w' : World} {a : Option Addr} {l : List Int} (h : Bytes w a l) (hb : Below w.heap.size w w') : Bytes w' a l := by
  refine ⟨h.len, h.wf, ?_⟩
  rcases h.at_ with e | ⟨b, off, rfl, hc⟩
  · exact .inl e
  · exact .inr ⟨b, off, rfl, fun i hi => by rw [hb.cell (block_lt_of_cell (hc i hi))]; exact hc i hi⟩
theorem nth_take (l : List Int) (k i : Nat) (h : i < k) : nth (l.take k) i = nth l i := by simp [nth, List.getD, h]
theorem nth_drop (l : List Int) (k i : Nat) : nth (l.drop k) i = nth l (k + i) := by simp [nth, List.getD]
theorem wf_drop {l : List Int} (h : ∀ i, 0 ≤ nth l i ∧ nth l i < 256) (k : Nat) : ∀ i, 0 ≤ nth (l.drop k) i ∧ nth (l.drop k) i < 256 := fun i => by rw [nth_drop]; exact h _
theorem wf_take {l : List Int} (h : ∀ i, 0 ≤ nth l i ∧ nth l i < 256) (k : Nat) : ∀ i, 0 ≤ nth (l.take k) i ∧ nth (l.take k) i < 256 := by
  intro i
  by_cases hi : i < k
  · rw [nth_take l k i hi]; exact h i
  · rw [nth_out _ _ (by rw [List.length_take]; omega)]; omega
theorem wf_two {l m : List Int} (h : ∀ i, 0 ≤ nth l i ∧ nth l i < 256) (k : ∀ i, 0 ≤ nth m i ∧ nth m i < 256) : ∀ i, 0 ≤ nth (l ++ m) i ∧ nth (l ++ m) i < 256 := by
  intro i
  unfold nth at *
  by_cases hi : i < l.length
  · have : (l ++ m).getD i 0 = l.getD i 0 := by simp [List.getD, List.getElem?_append, hi]
    rw [this]; exact h i
  · have : (l ++ m).getD i 0 = m.getD (i - l.length) 0 := by simp [List.getD, List.getElem?_append, hi]
    rw [this]; exact k _
theorem Bytes.take {w : World} {a : Option Addr} {l : List Int} (h : Bytes w a l) (k : Nat) : Bytes w a (l.take k) := by
  refine ⟨by have := h.len; rw [List.length_take]; omega, wf_take h.wf k, ?_⟩
  rcases h.at_ with e | ⟨b, off, rfl, hc⟩
  · exact .inl (by rw [e]; simp)
  · refine .inr ⟨b, off, rfl, fun i hi => ?_⟩
    rw [List.length_take] at hi
    rw [nth_take _ _ _ (by omega)]; exact hc i (by omega)

theorem info5 : (Tryz.prog.info? 5).map (fun i => (i.zero, i.size, i.bytes)) = some (some (.int .u8 0), 1, 1) := by kernel_rfl
theorem cells_u8 (l : List Int) : ∀ u ∈ l.map (Value.int .u8), u.oneCell' = true := by
  intro u hu
  obtain ⟨c, _, rfl⟩ := List.mem_map.1 hu
  rfl
theorem Bytes.news {w : World} {p : Addr} {l : List Int} (hb : Bytes w (some p) l) : ∀ j u, (l.map (Value.int .u8))[j]? = some u → w.cell? (p.add j) = some u := by
  intro j u hj
  rcases hb.at_ with e | ⟨b, off, e, hc⟩
  · subst e; simp at hj
  · cases e
    have hlt : j < l.length := by
      by_cases hlt : j < l.length
      · exact hlt
      · rw [List.getElem?_eq_none (by simp; omega)] at hj; cases hj
    rw [nth_cellL l j hlt] at hj
    cases hj
    rw [Addr.add_lit, ← hc j hlt]
theorem Bytes.nil {w : World} {l : List Int} (hb : Bytes w none l) : l = [] := by
  rcases hb.at_ with e | ⟨_, _, e, _⟩
  · exact e
  · cases e
theorem owns_of {w : World} {B g cap : Nat} {l : List Int} (h : OwnB w g cap l) (hg : B ≤ g) : w.ownsRow B 5 1 (.slice (some ⟨g, 0, none⟩) l.length cap) l.length (l.map (Value.int .u8)) := by
  obtain ⟨cur, h1, h2, h3⟩ := h.row
  exact ⟨by simp, .inr ⟨g, cap, cur, rfl, hg, h1, h.room, h.top, by omega, by simpa using h3⟩⟩
/-- 'append(s, x...)', s a row of one's own -/
theorem wp_app {ops : Array Oper} {rest : List Oper} {o : Oper} {a : Act} {Q : Exit → Act → World → Prop} {w : World} (hgd : o.guard = none) (s x : Operand)
    (ho : o.op = .call { callee := .builtin .append, args := #[s, x], argTypes := #[42, 42] }) (B g k cap : Nat) (l m : List Int) (hk : l.length = k) (hs : a.eval s = .slice (some ⟨g, 0, none⟩) k cap) (hown : OwnB w g cap l) (hg : B ≤ g) (hB : B ≤ w.heap.size)
    (ad : Option Addr) (n c : Nat) (hx : a.eval x = .slice ad n c) (hn : m.length = n) (hb : Bytes w ad m) (hz : ad = none → c = 0) (h47 : k + n ≤ 140737488355328)
    (h : ∀ g' cap' w', B ≤ g' → OwnB w' g' cap' (l ++ m) → w.grownBy w' (some g) → wpList Tryz.prog ops Q rest (a.put o.dst (.slice (some ⟨g', 0, none⟩) (k + n) cap')) w') :
    wpList Tryz.prog ops Q (o :: rest) a w := by
  subst hn hk
  obtain ⟨i0, hi, hz0, hz1, hz2⟩ := info_parts info5
  have hown' := owns_of (B := B) hown hg
  cases ad with
  | none =>
    have hm := hb.nil
    subst hm
    have hc := hz rfl
    subst hc
    refine wpList_append_own_none hgd s x 42 ho B 5 i0 1 Tryz.underlying42 hi _ _ _ hs hown' hx ?_
    exact h g cap w hg (by simpa using hown) (grown_refl _ _)
  | some p =>
    refine wpList_append_own _ hgd s x 42 ho B 5 i0 (.int .u8 0) 1 1 Tryz.underlying42 hi hz0 hz1 hz2 rfl (by decide) _ _ _ hs hown' p m.length c (m.map (Value.int .u8)) hx (by simp) hb.news (cells_u8 m) ?_ (by omega) hB ?_
    · unfold maxLen; omega
    · intro v' w' ho' hg' hnil
      rw [← List.map_append] at ho'
      rcases ho'.2 with ⟨hv, h0⟩ | ⟨g', cap', cur, hv, hgB, hgr, hcap, hcm, hsz, htk⟩
      · have := (hnil.1 hv).1
        cases this
      · subst hv
        refine h _ _ _ hgB ⟨⟨cur, hgr, by simpa using hsz, by simpa using htk⟩, by rw [List.length_append]; omega, by simpa using hcap, hcm, wf_two hown.wf hb.wf⟩ hg'
/-- an empty row of one's own -/
theorem own_empty {w : World} {g : Nat} (h : w.heap[g]? = some (.cells #[] 5 (0, 0))) : OwnB w g 0 [] :=
  ⟨⟨#[], h, rfl, rfl⟩, by simp, by simp, by unfold maxLen; omega, by intro i; simp [nth]⟩
end Go.Proofs.YtcbebalakdkgnaaGreatDoor

namespace Go.Proofs.YtcbebalakdkgnaaGreatDoor
open Go.ChangeShapes Go.WideShapes Go.ChangeAt Go.RowKit Rec

/-- all arguments read as they did -/
theorem trodAll_stays {H : Type} {enc : TypeId × Value → H} {P : Program} (hl : laidOutB P = true) {W W' : World} (hb : Below W.heap.size W W') :
    ∀ (ts : List TypeId) (vs : List Value) (ds : List (DataW H)) (ps : List MemPlace), (∀ t ∈ ts, P.readableRec t = true ∧ t < P.types.size) →
      DataW.TrodAll enc P W 0 (fun _ => true) true ts vs ds ps → DataW.TrodAll enc P W' 0 (fun b => decide (b < W.heap.size)) true ts vs ds ps
  | [], [], [], _, _, h => h
  | t :: ts, v :: vs, d :: ds, ps, hr, h => by
    obtain ⟨p, q, h1, h2, e⟩ := h
    have lt : ∀ x ∈ p, x.block < W.heap.size := by obtain ⟨m, hm⟩ := h1; exact DataW.trod_lt m _ _ _ hm
    have ht := hr t (List.mem_cons_self ..)
    exact ⟨p, q, Below.trod hl ht.1 ht.2 h1 hb lt, trodAll_stays hl hb ts vs ds q (fun t' h' => hr t' (List.mem_cons_of_mem _ h')) h2, e⟩
  | [], _ :: _, _, _, _, h => by simp [DataW.TrodAll] at h
  | [], [], _ :: _, _, _, h => by simp [DataW.TrodAll] at h
  | _ :: _, [], _, _, _, h => by simp [DataW.TrodAll] at h
  | _ :: _, _ :: _, [], _, _, h => by simp [DataW.TrodAll] at h

theorem own : ownKnob Tryz.prog.godebug = none := by kernel_rfl
theorem laidOut : laidOutB Tryz.prog = true := by kernel_rfl
/-- 140 -/
theorem gHal : Tryz.prog.globalNamed "bole/sum.halves" = some 1 := by kernel_rfl
theorem gHalType : (Tryz.prog.globals[1]?).map (·.type) = some 197 := by kernel_rfl
theorem gWid : Tryz.prog.globalNamed "bole/rec.widths" = some 0 := by kernel_rfl
theorem gWidType : (Tryz.prog.globals[0]?).map (·.type) = some 192 := by kernel_rfl
theorem cellsHal : Tryz.prog.cellsOf 197 = 16 := by kernel_rfl
theorem cellsWid : Tryz.prog.cellsOf 192 = 4 := by kernel_rfl
theorem cellsU : Tryz.prog.cellsOf 136 = 1 := by kernel_rfl
theorem cellsN : Tryz.prog.cellsOf 3 = 1 := by kernel_rfl
def tabInts : List Int := [0, 498536548, 997073096, 651767980, 1994146192, 1802195444, 1303535960, 1342533948, 3988292384, 4027552580, 3604390888, 3412177804, 2607071920, 2262029012, 2685067896, 3183342108]
theorem laid_tail {P : Program} {x : String × DataW Unit} {rest : List (String × DataW Unit)} {W : World} (h : laidMet P (x :: rest) W) : laidMet P rest W := by
  obtain ⟨ps, ⟨g, t, cs, fuel, p, q, _, _, _, _, hq, rfl⟩, hn, hc⟩ := h
  exact ⟨q, hq, (List.nodup_append.1 hn).2.1, fun b off hm => hc b off (List.mem_append_right _ hm)⟩
/-- what the rows' list gives: the tables' cells hold their numbers -/
theorem tabAt_of_laid {W : World} (h : laidMetH Tryz.prog [("bole/sum.halves", Rows.laid_bole_sum_halves), ("bole/rec.widths", Rows.laid_bole_rec_widths)] W) : TabAt W := by
  have h : laidMet Tryz.prog [("bole/sum.halves", Rows.laid_bole_sum_halves), ("bole/rec.widths", Rows.laid_bole_rec_widths)] W := h
  have t1 : Lib.TabIs Tryz.prog W "bole/sum.halves" .u32 tabInts := Lib.tabIs_of_head (rest := [("bole/rec.widths", Rows.laid_bole_rec_widths)]) gHal gHalType Tryz.underlying197 Tryz.underlying136 cellsU cellsHal h
  have t2 : Lib.TabIs Tryz.prog W "bole/rec.widths" .i64 [1, 2, 4, 8] := Lib.tabIs_of_head (rest := []) gWid gWidType Tryz.underlying192 Tryz.underlying3 cellsN cellsWid (laid_tail h)
  refine ⟨fun i hi => t2.cell gWid i hi, fun i hi => ?_⟩
  have h1 := t1.cell gHal i (by simpa [tabInts] using hi)
  rw [h1]
  have e : ∀ i, i < 16 → tabInts.getD i 0 = ((Crc.tab.getD i 0 : Nat) : Int) := by decide +kernel
  rw [e i hi]
/-- a world for the witnesses: the settled one, the tables holding what their initialisers lay -/
def lay0 : Obj → Obj
  | .cells _ t frozen => .cells #[.int .i64 1, .int .i64 2, .int .i64 4, .int .i64 8] t frozen
  | o => o
def lay1 : Obj → Obj
  | .cells _ t frozen => .cells (tabInts.map (Value.int .u32)).toArray t frozen
  | o => o
/-- 140 -/
def laidWorldOf (P : Program) (os : Os) : World :=
  { World.holding P os ⟨#[], #[], []⟩ with heap := ((World.holding P os ⟨#[], #[], []⟩).heap.modify 0 lay0).modify 1 lay1 }
end Go.Proofs.YtcbebalakdkgnaaGreatDoor

namespace Go.Proofs.YtcbebalakdkgnaaGreatDoor
open Go.RowKit Rec

/-- all rows but S's are kept -/
structure Fr (S : Nat → Prop) (w w' : World) : Prop where
  os : w'.os = w.os
  tape : w'.tape = w.tape
  output : w'.output = w.output
  size : w.heap.size ≤ w'.heap.size
  block : ∀ k, k < w.heap.size → ¬ S k → w'.heap[k]? = w.heap[k]?
theorem Fr.refl (S : Nat → Prop) (w : World) : Fr S w w := ⟨rfl, rfl, rfl, Nat.le_refl _, fun _ _ _ => rfl⟩
theorem Fr.trans {S T : Nat → Prop} {a b c : World} (x : Fr S a b) (y : Fr T b c) (h : ∀ k, T k → S k ∨ a.heap.size ≤ k) : Fr S a c :=
  ⟨y.os.trans x.os, y.tape.trans x.tape, y.output.trans x.output, Nat.le_trans x.size y.size, fun k hk hS => (y.block k (Nat.lt_of_lt_of_le hk x.size) (fun t => (h k t).elim hS (fun g => by omega))).trans (x.block k hk hS)⟩
theorem Fr.mono {S T : Nat → Prop} {a b : World} (x : Fr S a b) (h : ∀ k, S k → T k) : Fr T a b := ⟨x.os, x.tape, x.output, x.size, fun k hk hT => x.block k hk (fun s => hT (h k s))⟩
theorem Fr.below {S : Nat → Prop} {w w' : World} (x : Fr S w w') (B : Nat) (h : ∀ k, S k → B ≤ k) (hB : B ≤ w.heap.size) : Below B w w' :=
  ⟨x.os, x.tape, x.output, x.size, fun k hk => x.block k (by omega) (fun s => by have := h k s; omega)⟩
theorem below_fr {w w' : World} (x : Below w.heap.size w w') (S : Nat → Prop) : Fr S w w' := ⟨x.os, x.tape, x.output, x.size, fun k hk _ => x.block k hk⟩
theorem grown_fr {w w' : World} {r : Option Nat} (x : w.grownBy w' r) : Fr (fun k => r = some k) w w' := ⟨x.os, x.tape, x.output, x.size, fun k hk h => x.block k hk (fun e => h e.symm)⟩
theorem Fr.cell {S : Nat → Prop} {w w' : World} (x : Fr S w w') {p : Addr} {v : Value} (hc : w.cell? p = some v) (h : ¬ S p.block) : w'.cell? p = some v :=
  (World.cell?_of_block (x.block p.block (block_lt_of_cell hc) h)).trans hc
theorem Fr.heap {S : Nat → Prop} {w w' : World} (x : Fr S w w') {k : Nat} {o : Obj} (hc : w.heap[k]? = some o) (h : ¬ S k) : w'.heap[k]? = some o :=
  (x.block k (heap_lt hc) h).trans hc
theorem Fr.set {w : World} {g k : Nat} {v : Value} : Fr (fun i => i = g) w (w.setCell ⟨g, k, none⟩ v) :=
  ⟨rfl, rfl, rfl, by simp [World.setCell], fun i _ hr => Below.heap_setCell w ⟨g, k, none⟩ v i hr⟩
theorem fr_alloc (S : Nat → Prop) (w : World) (o : Obj) : Fr S w (w.alloc o) := below_fr ((Below.refl _ w).alloc (Nat.le_refl _) o) S

/-- where a slice lies -/
theorem owns_block {w : World} {B e size n : Nat} {v : Value} {xs : List Value} (h : w.ownsRow B e size v n xs) {k : Nat} (hk : v.ownBlock = some k) : k < w.heap.size := by
  rcases h.2 with ⟨rfl, _⟩ | ⟨g, cap, cur, rfl, _, hg, _⟩
  · cases hk
  · cases hk; exact heap_lt hg
theorem owns_fr {S : Nat → Prop} {w w' : World} {B e size n : Nat} {v : Value} {xs : List Value} (h : w.ownsRow B e size v n xs) (x : Fr S w w') (hk : ∀ k, v.ownBlock = some k → ¬ S k) : w'.ownsRow B e size v n xs := by
  refine ⟨h.1, ?_⟩
  rcases h.2 with h2 | ⟨g, cap, cur, rfl, h1, hg, h3⟩
  · exact .inl h2
  · exact .inr ⟨g, cap, cur, rfl, h1, x.heap hg (hk g rfl), h3⟩

/-- where an append lays its row -/
theorem own_block {w : World} {B : Nat} {v : Value} {k : Nat} {ts : List Value} (t ty e : TypeId) (i0 : TypeInfo) (z : Value) (size bytes : Nat) (ht : Tryz.prog.underlying t = some (.slice e)) (hi : Tryz.prog.info? e = some i0) (hz : i0.zero = some z) (hsize : i0.size = size) (hby : i0.bytes = bytes)
    (hown : w.ownsRow B e size v k ts) (ad : Addr) (m c : Nat) (news : List Value) (hl : news.length = m * size) (hnews : ∀ j u, news[j]? = some u → w.cell? (ad.add j) = some u) (h1 : ∀ u ∈ news, u.oneCell' = true) (hm : 0 < m) (h63 : k + m ≤ maxLen) (h47 : (k + m) * bytes ≤ 140737488355328)
    {v' : Value} {w' : World} (hr : (Builtin.append_ #[t, t] ty #[v, .slice (some ad) m c]).run Tryz.prog w = .ok v' w') : ∃ g cap, v' = .slice (some ⟨g, 0, none⟩) (k + m) cap ∧ (v.ownBlock = some g ∨ w.heap.size ≤ g) := by
  subst hsize hby
  have h63' : k + m ≤ 9223372036854775807 := h63
  rcases hown.2 with ⟨rfl, rfl⟩ | ⟨g, cap, cur, rfl, hbg, hg, hnc, hcm, hcs, htake⟩
  · have h := run_append_nil (P := Tryz.prog) w t ty e i0 z ht hi hz ad m c news hl hnews hm (by omega) (by rw [Nat.zero_add] at h47; omega)
    rw [h] at hr
    cases hr
    exact ⟨_, _, by rw [Nat.zero_add], .inr (Nat.le_refl _)⟩
  · by_cases hroom : k + m ≤ cap
    · have h := run_append_room (P := Tryz.prog) w t ty e i0 ht hi g k cap cur hg ad m c news hl hnews h1 hroom (by rw [hl, hcs, ← Nat.add_mul]; exact Nat.mul_le_mul_right _ hroom)
      rw [h] at hr
      cases hr
      exact ⟨_, _, rfl, .inl rfl⟩
    · have h := run_append_grow (P := Tryz.prog) w t ty e i0 z ht hi hz ⟨g, 0, none⟩ k cap ts hown.1 (hown.cells (g := g) rfl) ad m c news hl hnews (by omega) (by omega) (growslice_fits (by omega) h47)
      rw [h] at hr
      cases hr
      exact ⟨_, _, rfl, .inr (Nat.le_refl _)⟩
theorem run_own {w : World} (t ty : TypeId) (e : TypeId) (i0 : TypeInfo) (z : Value) (size bytes : Nat) (ht : Tryz.prog.underlying t = some (.slice e)) (hi : Tryz.prog.info? e = some i0) (hz : i0.zero = some z)
    (hsize : i0.size = size) (hby : i0.bytes = bytes) (hzs : z.cells.size = size) (hsz : 0 < size) (v : Value) (k : Nat) (xs : List Value) (hown : w.ownsRow 0 e size v k xs)
    (ad : Addr) (m c : Nat) (news : List Value) (hm : 0 < m) (hl : news.length = m * size) (hnews : ∀ j u, news[j]? = some u → w.cell? (ad.add j) = some u) (h1 : ∀ u ∈ news, u.oneCell' = true) (h63 : k + m ≤ maxLen) (h47 : (k + m) * bytes ≤ 140737488355328) :
    ∃ g cap w', (Builtin.append_ #[t, t] ty #[v, .slice (some ad) m c]).run Tryz.prog w = .ok (.slice (some ⟨g, 0, none⟩) (k + m) cap) w' ∧ w'.ownsRow 0 e size (.slice (some ⟨g, 0, none⟩) (k + m) cap) (k + m) (xs ++ news) ∧ Fr (fun k => v.ownBlock = some k) w w' ∧ (v.ownBlock = some g ∨ w.heap.size ≤ g) := by
  obtain ⟨v', w', hr, h2, h3, _⟩ := run_append_own (P := Tryz.prog) w 0 t ty e i0 z size bytes ht hi hz hsize hby hzs hsz v k xs hown ad m c news hl hnews h1 h63 h47 (Nat.zero_le _)
  obtain ⟨g, cap, rfl, hgb⟩ := own_block t ty e i0 z size bytes ht hi hz hsize hby hown ad m c news hl hnews h1 hm h63 h47 hr
  exact ⟨g, cap, w', hr, h2, grown_fr h3, hgb⟩
/-- 'append(s, x...)', s nil or a row of one's own -/
theorem wp_own {ops : Array Oper} {rest : List Oper} {o : Oper} {a : Act} {Q : Exit → Act → World → Prop} {w : World} (hgd : o.guard = none) (s x : Operand) (t : TypeId)
    (ho : o.op = .call { callee := .builtin .append, args := #[s, x], argTypes := #[t, t] }) (e : TypeId) (i0 : TypeInfo) (z : Value) (size bytes : Nat) (ht : Tryz.prog.underlying t = some (.slice e)) (hi : Tryz.prog.info? e = some i0) (hz : i0.zero = some z)
    (hsize : i0.size = size) (hby : i0.bytes = bytes) (hzs : z.cells.size = size) (hsz : 0 < size) (v : Value) (k : Nat) (xs : List Value) (hs : a.eval s = v) (hown : w.ownsRow 0 e size v k xs)
    (ad : Addr) (m c : Nat) (news : List Value) (hx : a.eval x = .slice (some ad) m c) (hm : 0 < m) (hl : news.length = m * size) (hnews : ∀ j u, news[j]? = some u → w.cell? (ad.add j) = some u) (h1 : ∀ u ∈ news, u.oneCell' = true) (h63 : k + m ≤ maxLen) (h47 : (k + m) * bytes ≤ 140737488355328)
    (h : ∀ g cap w', w'.ownsRow 0 e size (.slice (some ⟨g, 0, none⟩) (k + m) cap) (k + m) (xs ++ news) → Fr (fun k => v.ownBlock = some k) w w' → (v.ownBlock = some g ∨ w.heap.size ≤ g) → wpList Tryz.prog ops Q rest (a.put o.dst (.slice (some ⟨g, 0, none⟩) (k + m) cap)) w') :
    wpList Tryz.prog ops Q (o :: rest) a w := by
  obtain ⟨g, cap, w', hr, h2, h3, hgb⟩ := run_own t o.type e i0 z size bytes ht hi hz hsize hby hzs hsz v k xs hown ad m c news hm hl hnews h1 h63 h47
  refine wpList_plain hgd fun K hK => ?_
  unfold Oper.wp execOp
  simp only [ho, resolve, invoke, builtin, Sem.run_bind, Sem.run_pure, Result.andThen_ok, List.map_toArray, List.map_cons, List.map_nil, hs, hx, hr]
  exact hK _ _ (h g cap w' h2 h3 hgb)
/-- the same, as a step of a region that draws -/
theorem step_own {ops : Array Oper} {o : Oper} {a : Act} {w : World} {K : Act → World → Prop} {Q : Exit → Act → World → Prop} {E : Prop} (hgd : o.guard = none) (s x : Operand) (t : TypeId)
    (ho : o.op = .call { callee := .builtin .append, args := #[s, x], argTypes := #[t, t] }) (e : TypeId) (i0 : TypeInfo) (z : Value) (size bytes : Nat) (ht : Tryz.prog.underlying t = some (.slice e)) (hi : Tryz.prog.info? e = some i0) (hz : i0.zero = some z)
    (hsize : i0.size = size) (hby : i0.bytes = bytes) (hzs : z.cells.size = size) (hsz : 0 < size) (v : Value) (k : Nat) (xs : List Value) (hs : a.eval s = v) (hown : w.ownsRow 0 e size v k xs)
    (ad : Addr) (m c : Nat) (news : List Value) (hx : a.eval x = .slice (some ad) m c) (hm : 0 < m) (hl : news.length = m * size) (hnews : ∀ j u, news[j]? = some u → w.cell? (ad.add j) = some u) (h1 : ∀ u ∈ news, u.oneCell' = true) (h63 : k + m ≤ maxLen) (h47 : (k + m) * bytes ≤ 140737488355328)
    (h : ∀ g cap w', w'.ownsRow 0 e size (.slice (some ⟨g, 0, none⟩) (k + m) cap) (k + m) (xs ++ news) → Fr (fun k => v.ownBlock = some k) w w' → (v.ownBlock = some g ∨ w.heap.size ≤ g) → K (a.put o.dst (.slice (some ⟨g, 0, none⟩) (k + m) cap)) w') :
    if Region.wanted o (yielded ops a.tmps) = true then Oper.wp Tryz.prog o a w K Q else E := by
  have hw : Region.wanted o (yielded ops a.tmps) = true := by simp [Region.wanted, hgd]
  rw [if_pos hw]
  obtain ⟨g, cap, w', hr, h2, h3, hgb⟩ := run_own t o.type e i0 z size bytes ht hi hz hsize hby hzs hsz v k xs hown ad m c news hm hl hnews h1 h63 h47
  unfold Oper.wp
  simp only [execOp, ho, resolve, invoke, builtin, Sem.run_bind, Sem.run_pure, Result.andThen_ok, List.map_toArray, List.map_cons, List.map_nil, hs, hx, hr]
  exact h g cap w' h2 h3 hgb
end Go.Proofs.YtcbebalakdkgnaaGreatDoor
