import Derived.Test.YtmgonolliccjaaaDoorOp14
namespace Go.Proofs.YtmgonolliccjaaaDoor
open Rec Go.ChangeShapes Go.WideShapes Go.ChangeAt Go.RowKit
theorem open_enw {H : Type} {enc : TypeId × Value → H} {W : World} {cs : List Value} {D : DataW H} {Pl : List MemPlace} {fuel : Nat}
    (hf : DataW.trod enc Tryd.prog W 0 (fun _ => true) true fuel 27 cs = some (D, Pl)) (hz : ∀ n ∈ D.weights Tryd.prog 27, n ≤ reachBytes) :
    ∃ q : ET, q.2.1.size ≤ 1000000000000000 ∧ cs = [.int .i64 q.1, .string q.2.1, .int .i64 q.2.2] := by
  obtain ⟨xs, m, _, hx, hlen, hxl, hel⟩ := DataW.trod_struct Tryd.underlying27 hf
  rw [cellsEn] at hlen
  obtain ⟨v0, v1, v2, rfl⟩ := list3 cs hlen
  obtain ⟨x0, x1, x2, rfl⟩ := list3 xs hxl
  have e0 := hel 0 _ rfl
  have e1 := hel 1 _ rfl
  have e2 := hel 2 _ rfl
  clear hel
  simp [cellsN, cellsStr] at e0 e1 e2
  obtain ⟨b, z0, hx0, w0⟩ := DataW.trod_int Tryd.underlying3 e0
  obtain ⟨fl, z1, hx1, _⟩ := DataW.trod_string Tryd.underlying9 e1
  obtain ⟨y, z2, hx2, w2⟩ := DataW.trod_int Tryd.underlying3 e2
  simp at z0 z1 z2
  subst z0 z1 z2
  refine ⟨(b, fl, y), ?_, rfl⟩
  simp only [Prod.mk.injEq, List.map_cons, List.map_nil] at hx
  have h1 := hz fl.data.toList.length (by
    rw [hx.1, hx0, hx1, hx2]
    simp [DataW.weights, Tryd.underlying27, DataW.weightsEach])
  have : fl.size = fl.data.toList.length := (Array.length_toList).symm
  show fl.size ≤ 1000000000000000
  simp only [reachBytes] at h1
  omega
end Go.Proofs.YtmgonolliccjaaaDoor
