import Derived.Test.YtjmdjagfekloaaaGreatDoorOpT
namespace Go.Proofs.YtjmdjagfekloaaaGreatDoor
open Rec Go.ChangeShapes Go.WideShapes Go.ChangeAt Go.RowKit

theorem cellsA2 : Tryz.prog.cellsOf 57 = 2 := by kernel_rfl
theorem cellsI7 : Tryz.prog.cellsOf 3 = 1 := by kernel_rfl
theorem list7 {α : Type} (l : List α) (h : l.length = 2) : ∃ a b, l = [a, b] := by
  match l, h with
  | [a, b], _ => exact ⟨a, b, rfl⟩
set_option maxRecDepth 100000 in
theorem okWide_a2 {W : World} {base : Nat} {v : Value} (h : Value.okWide Tryz.prog W .any base 57 v) : ∃ cs, v = .agg cs := by
  simp only [Value.okWide, Tryz.underlying57] at h
  obtain ⟨cs, h1, _⟩ := h
  exact ⟨cs, h1⟩
set_option maxRecDepth 100000 in
theorem open_a2 {H : Type} {enc : TypeId × Value → H} {W : World} {cs : Array Value} {D : DataW H} {Pl : List MemPlace} {fuel : Nat}
    (hf : DataW.trod enc Tryz.prog W 0 (fun _ => true) true fuel 57 (Value.agg cs).cells.toList = some (D, Pl)) :
    ∃ t0 t1 : Int, cs = #[.int .i64 t0, .int .i64 t1] ∧ (-9223372036854775808 ≤ t0 ∧ t0 ≤ 9223372036854775807) ∧ (-9223372036854775808 ≤ t1 ∧ t1 ≤ 9223372036854775807) := by
  obtain ⟨xs, m, hm, hx, hlen, hxl, hel⟩ := DataW.trod_array Tryz.underlying57 hf
  rw [cellsA2] at hlen
  obtain ⟨v0, v1, hcs⟩ := list7 _ hlen
  obtain ⟨x0, x1, rfl⟩ := list7 xs hxl
  rw [hcs] at hel
  have e0 := hel 0 (by omega)
  have e1 := hel 1 (by omega)
  clear hel
  simp [cellsI7] at e0 e1
  obtain ⟨b, z0, _, k0⟩ := DataW.trod_int Tryz.underlying3 e0
  obtain ⟨c, z1, _, k1⟩ := DataW.trod_int Tryz.underlying3 e1
  simp at z0 z1
  subst z0 z1
  refine ⟨b, c, ?_, wf_i64 k0, wf_i64 k1⟩
  have : cs.toList = [.int .i64 b, .int .i64 c] := hcs
  exact Array.toList_inj.1 this
end Go.Proofs.YtjmdjagfekloaaaGreatDoor
