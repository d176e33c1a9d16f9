import Derived.Test.YtamlbpbhlgmcoaaGreatDoorCards
import Derived.Test.YtamlbpbhlgmcoaaGreatDoorTie
import Derived.Test.YtamlbpbhlgmcoaaGreatDoorKMem
import Derived.WalkKit
import Derived.ProofKit
import Derived.OpenShut
import Derived.ShutString
import Derived.ChangeOld
import Derived.Below
import Derived.Deep.DeepHandedRow
import Derived.Lib.LaidTab
namespace Go.Proofs.YtamlbpbhlgmcoaaGreatDoor
open Go.ChangeShapes Go.WideShapes Go.ChangeAt Go.RowKit Rec

/-- all arguments read as they did -/
theorem trodAll_stays {H : Type} {enc : TypeId × Value → H} {P : Program} (hl : laidOutB P = true) {W W' : World} (hb : Below W.heap.size W W') :
    ∀ (ts : List TypeId) (vs : List Value) (ds : List (DataW H)) (ps : List MemPlace), (∀ t ∈ ts, P.readableRec t = true ∧ t < P.types.size) →
      DataW.TrodAll enc P W 0 (fun _ => true) true ts vs ds ps → DataW.TrodAll enc P W' 0 (fun b => decide (b < W.heap.size)) true ts vs ds ps
  | [], [], [], _, _, h => h
  | t :: ts, v :: vs, d :: ds, ps, hr, h => by
    obtain ⟨p, q, h1, h2, e⟩ := h
    have lt : ∀ x ∈ p, x.block < W.heap.size := by obtain ⟨m, hm⟩ := h1; exact DataW.trod_lt m _ _ _ hm
    have ht := hr t (List.mem_cons_self ..)
    exact ⟨p, q, Below.trod hl ht.1 ht.2 h1 hb lt, trodAll_stays hl hb ts vs ds q (fun t' h' => hr t' (List.mem_cons_of_mem _ h')) h2, e⟩
  | [], _ :: _, _, _, _, h => by simp [DataW.TrodAll] at h
  | [], [], _ :: _, _, _, h => by simp [DataW.TrodAll] at h
  | _ :: _, [], _, _, _, h => by simp [DataW.TrodAll] at h
  | _ :: _, _ :: _, [], _, _, h => by simp [DataW.TrodAll] at h

theorem own : ownKnob Tryz.prog.godebug = none := by kernel_rfl
theorem laidOut : laidOutB Tryz.prog = true := by kernel_rfl
/-- 122 -/
theorem gHal : Tryz.prog.globalNamed "bole/sum.halves" = some 1 := by kernel_rfl
theorem gHalType : (Tryz.prog.globals[1]?).map (·.type) = some 160 := by kernel_rfl
theorem gWid : Tryz.prog.globalNamed "bole/rec.widths" = some 0 := by kernel_rfl
theorem gWidType : (Tryz.prog.globals[0]?).map (·.type) = some 157 := by kernel_rfl
theorem cellsHal : Tryz.prog.cellsOf 160 = 16 := by kernel_rfl
theorem cellsWid : Tryz.prog.cellsOf 157 = 4 := by kernel_rfl
theorem cellsU : Tryz.prog.cellsOf 131 = 1 := by kernel_rfl
theorem cellsN : Tryz.prog.cellsOf 3 = 1 := by kernel_rfl
def tabInts : List Int := [0, 498536548, 997073096, 651767980, 1994146192, 1802195444, 1303535960, 1342533948, 3988292384, 4027552580, 3604390888, 3412177804, 2607071920, 2262029012, 2685067896, 3183342108]
theorem laid_tail {P : Program} {x : String × DataW Unit} {rest : List (String × DataW Unit)} {W : World} (h : laidMet P (x :: rest) W) : laidMet P rest W := by
  obtain ⟨ps, ⟨g, t, cs, fuel, p, q, _, _, _, _, hq, rfl⟩, hn, hc⟩ := h
  exact ⟨q, hq, (List.nodup_append.1 hn).2.1, fun b off hm => hc b off (List.mem_append_right _ hm)⟩
/-- what the rows' list gives: the tables' cells hold their numbers -/
theorem tabAt_of_laid {W : World} (h : laidMetH Tryz.prog [("bole/sum.halves", Rows.laid_bole_sum_halves), ("bole/rec.widths", Rows.laid_bole_rec_widths)] W) : TabAt W := by
  have h : laidMet Tryz.prog [("bole/sum.halves", Rows.laid_bole_sum_halves), ("bole/rec.widths", Rows.laid_bole_rec_widths)] W := h
  have t1 : Lib.TabIs Tryz.prog W "bole/sum.halves" .u32 tabInts := Lib.tabIs_of_head (rest := [("bole/rec.widths", Rows.laid_bole_rec_widths)]) gHal gHalType Tryz.underlying160 Tryz.underlying131 cellsU cellsHal h
  have t2 : Lib.TabIs Tryz.prog W "bole/rec.widths" .i64 [1, 2, 4, 8] := Lib.tabIs_of_head (rest := []) gWid gWidType Tryz.underlying157 Tryz.underlying3 cellsN cellsWid (laid_tail h)
  refine ⟨fun i hi => t2.cell gWid i hi, fun i hi => ?_⟩
  have h1 := t1.cell gHal i (by simpa [tabInts] using hi)
  rw [h1]
  have e : ∀ i, i < 16 → tabInts.getD i 0 = ((Crc.tab.getD i 0 : Nat) : Int) := by decide +kernel
  rw [e i hi]
/-- a world for the witnesses: the settled one, the tables holding what their initialisers lay -/
def lay0 : Obj → Obj
  | .cells _ t frozen => .cells #[.int .i64 1, .int .i64 2, .int .i64 4, .int .i64 8] t frozen
  | o => o
def lay1 : Obj → Obj
  | .cells _ t frozen => .cells (tabInts.map (Value.int .u32)).toArray t frozen
  | o => o
/-- 122 -/
def laidWorldOf (P : Program) (os : Os) : World :=
  { World.holding P os ⟨#[], #[], []⟩ with heap := ((World.holding P os ⟨#[], #[], []⟩).heap.modify 0 lay0).modify 1 lay1 }
end Go.Proofs.YtamlbpbhlgmcoaaGreatDoor
