import Derived.Test.YtaaeahpmnfifiaaDoorSnH
import Derived.OwnWalk
import Derived.Deep.OwnRows
import Derived.WalkSpells
import Derived.Lib.BufferMore
namespace Go.Proofs.YtaaeahpmnfifiaaDoor
open Go.RowKit Rec Sc
abbrev z512 : List Int := List.replicate 512 0
theorem nth_rep (m : Nat) (x : Int) (i : Nat) (h : i < m) : nth (List.replicate m x) i = x := by simp [nth, List.getD, h]
theorem wf_rep (m : Nat) (x : Int) (hx : 0 ≤ x ∧ x < 256) : ∀ i, 0 ≤ nth (List.replicate m x) i ∧ nth (List.replicate m x) i < 256 := fun i => by
  by_cases h : i < m
  · rw [nth_rep m x i h]; exact hx
  · rw [nth_out _ _ (by simp; omega)]; omega
theorem make512 : ∃ o : Obj, (∀ w : World, (Instr.makeSlice 25 (.int .i64 512) (.int .i64 512)).run Tryd.prog w = .ok (.slice (some ⟨w.heap.size, 0, none⟩) 512 512) (w.alloc o)) ∧ ∀ w : World, OwnB (w.alloc o) w.heap.size 512 z512 := by
  obtain ⟨i0, hi, hz0, hz1, hz2⟩ := info_parts info5
  refine ⟨.cells (madeCells #[.int .u8 0] 512) 5, fun w => run_make_row (P := Tryd.prog) 25 5 i0 _ Tryd.underlying25 hi hz0 hz1 rfl .i64 .i64 512 (by rw [hz2]; omega) (by omega) w, fun w => ?_⟩
  have hl : (madeCells #[Value.int .u8 0] 512).toList = List.replicate 512 (Value.int .u8 0) := toList_madeCells_one _ _
  refine ⟨⟨_, heap_alloc_new _ _, ?_, ?_⟩, ?_, ?_, ?_, wf_rep 512 0 (by omega)⟩
  · rw [← Array.length_toList, hl, List.length_replicate]
  · rw [hl, List.length_replicate, List.map_replicate, List.take_replicate, Nat.min_self]
  · rw [List.length_replicate]; omega
  · rw [List.length_replicate]; omega
  · unfold maxLen; omega
theorem tmod_pos (v n : Int) (h : 0 < n) (h2 : ¬ v.tmod n < 0) : v.tmod n = v % n := by
  rw [Int.tmod_eq_emod]
  split
  · omega
  · rename_i c
    have := Int.emod_lt_of_pos v h
    rw [Int.tmod_eq_emod, if_neg c] at h2
    have e : (n.natAbs : Int) = n := by omega
    rw [e] at *
    omega
theorem tmod_neg (v n : Int) (h : 0 < n) (h2 : v.tmod n < 0) : v.tmod n + n = v % n := by
  rw [Int.tmod_eq_emod] at h2 ⊢
  have e : (n.natAbs : Int) = n := by omega
  have := Int.emod_nonneg v (b := n) (by omega)
  split at h2
  · omega
  · rename_i c
    rw [if_neg c, e]; omega
theorem mod_any (w : World) (v : Int) (n : Nat) (h0 : 0 < n) (h1 : n ≤ 1000000000000) :
    Calls Tryd.prog 11 #[.int .i64 v, .int .i64 n] w fun e w' => e = .returned (.int .i64 (v % n)) ∧ w = w' := by
  go_enter Tryd.func11, Tryd.ntmps11
  by_cases h : v.tmod n < 0
  · have h2 : -(n : Int) ≤ v.tmod n := by
      have := tmod_neg v n (by omega) h
      have := Int.emod_nonneg v (b := n) (by omega)
      omega
    go_wp2
    go_ret
    refine ⟨?_, rfl⟩
    show Ending.returned (Value.int IntKind.i64 (v.tmod n + n)) = _
    rw [tmod_neg v n (by omega) h]
  · go_wp2
    go_ret
    refine ⟨?_, rfl⟩
    show Ending.returned (Value.int IntKind.i64 (v.tmod n)) = _
    rw [tmod_pos v n (by omega) (by omega)]
/-- what a block of cells tells -/
def vE (f : Nat → Option Ent) (k : Nat) : ET :=
  match f k with
  | none => ((k : Int), ⟨#[]⟩, 0)
  | some e => ((k : Int), e.nm, e.ino)
def vL (f : Nat → Option Ent) : List ET := (List.range 16).map (vE f)
theorem _root_.Sc.Bk.all {L : List Int} {f : Nat → Option Ent} (h : Bk L f) : allE L 16 = vL f := by
  unfold allE vL
  refine List.map_congr_left fun k hk => ?_
  have hk : k < 16 := List.mem_range.1 hk
  have hd := (h.rt hk).2
  unfold aE vE eN
  by_cases h0 : inc L k = 0
  · rw [dec, if_pos h0] at hd
    rw [← hd, if_pos h0, h0]
  · rw [dec, if_neg h0] at hd
    rw [← hd, if_neg h0]
theorem _root_.Sc.Bk.told {L : List Int} {f : Nat → Option Ent} (h : Bk L f) : taken L = (vL f).filter tk := by rw [taken, h.all]
theorem read_bk (w : World) (g o c : Nat) (L : List Int) (f : Nat → Option Ent) (hB : Bk L f) (hO : Bytes w (some ⟨g, o, none⟩) L) (hc : 512 ≤ c) (hT : TabAt w) :
    Calls Tryd.prog 13 #[.slice (some ⟨g, o, none⟩) 512 c] w fun e w' => ∃ b cap, e = .returned (.tuple #[.slice (some ⟨b, 0, none⟩) ((vL f).filter tk).length cap, .int .i64 0]) ∧ Below w.heap.size w w' ∧ w.heap.size ≤ b ∧ OwnE w' b cap ((vL f).filter tk) := by
  refine (read_any w g o c L hB.len hO hc hT).mono ?_
  rintro e w' ⟨hb, ⟨_, b, cap, h1, h2, h3⟩ | ⟨⟨k, hk, hr⟩, _⟩⟩
  · rw [hB.told] at h1 h3
    exact ⟨b, cap, h1, hb, h2, h3⟩
  · rw [(hB.rt hk).1] at hr; cases hr
theorem low_bk (w : World) (g o c : Nat) (L : List Int) (f : Nat → Option Ent) (hB : Bk L f) (hO : Bytes w (some ⟨g, o, none⟩) L) (hc : 512 ≤ c) (hT : TabAt w) :
    Calls Tryd.prog 14 #[.slice (some ⟨g, o, none⟩) 512 c] w fun e w' => e = .returned (.tuple #[.int .i64 (fi (vL f)), .int .i64 0]) ∧ Below w.heap.size w w' := by
  refine (low_any w g o c L hB.len hO hc hT).mono ?_
  rintro e w' ⟨hb, ⟨_, h1⟩ | ⟨⟨k, hk, hr⟩, _⟩⟩
  · rw [hB.all] at h1
    exact ⟨h1, hb⟩
  · rw [(hB.rt hk).1] at hr; cases hr
/-- the document's cell -/
def eA : Ent := ⟨⟨#[97, 98]⟩, 258⟩
theorem eA_good : Sc.good eA := ⟨by decide, by decide, by decide⟩
def fA : Nat → Option Ent := upd (fun _ => none) 2 (some eA)
def LA : List Int := ov z512 (32 * 2) 32 (cb eA)
theorem LA_bk : Bk LA fA := Bk.zero.set (p := 2) (by omega) (o := some eA) (fun e h => by cases h; exact eA_good)
theorem LA_fld : strOfNums (fld LA 64 7) = ⟨#[2, 1, 0, 0, 2, 97, 98]⟩ := by
  have : fld LA 64 7 = [2, 1, 0, 0, 2, 97, 98] := by decide +kernel
  rw [this]; rfl
theorem vA : (vL fA).filter tk = [(2, ⟨#[97, 98]⟩, 258)] := by decide +kernel
theorem fA0 : fi (vL fA) = 0 := by decide +kernel
theorem LA_clear : ov LA (32 * 2) 32 (fun _ => 0) = z512 := by
  refine (LA_bk.set (p := 2) (by omega) (o := none) (fun e h => by cases h)).inj Bk.zero (fun k hk => ?_)
  unfold upd fA upd
  by_cases e : k = 2
  · rw [if_pos e]
  · rw [if_neg e, if_neg e]
end Go.Proofs.YtaaeahpmnfifiaaDoor
