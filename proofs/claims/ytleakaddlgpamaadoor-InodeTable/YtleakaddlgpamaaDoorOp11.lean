import Derived.Test.YtleakaddlgpamaaDoorKEight
import Derived.Test.YtleakaddlgpamaaDoorKGeO
namespace Go.Proofs.YtleakaddlgpamaaDoor
open Rec Go.ChangeShapes Go.WideShapes Go.ChangeAt Go.RowKit

theorem cellsIno : Tryd.prog.cellsOf 24 = 15 := by kernel_rfl
theorem cellsDir : Tryd.prog.cellsOf 22 = 10 := by kernel_rfl
theorem list15 {α : Type} (l : List α) (h : l.length = 15) : ∃ a b c d e f g i j k m n o p q, l = [a, b, c, d, e, f, g, i, j, k, m, n, o, p, q] := by
  match l, h with
  | [a, b, c, d, e, f, g, i, j, k, m, n, o, p, q], _ => exact ⟨a, b, c, d, e, f, g, i, j, k, m, n, o, p, q, rfl⟩
theorem list10 {α : Type} (l : List α) (h : l.length = 10) : ∃ a b c d e f g i j k, l = [a, b, c, d, e, f, g, i, j, k] := by
  match l, h with
  | [a, b, c, d, e, f, g, i, j, k], _ => exact ⟨a, b, c, d, e, f, g, i, j, k, rfl⟩
theorem list6 {α : Type} (l : List α) (h : l.length = 6) : ∃ a b c d e f, l = [a, b, c, d, e, f] := by
  match l, h with
  | [a, b, c, d, e, f], _ => exact ⟨a, b, c, d, e, f, rfl⟩
set_option maxRecDepth 100000 in
theorem okWide_ino {W : World} {base : Nat} {v : Value} (h : Value.okWide Tryd.prog W .any base 24 v) : ∃ cs, v = .agg cs := by
  obtain ⟨cs, h1, _⟩ := okWide_struct Tryd.underlying24 h
  exact ⟨cs, h1⟩
/-- a row of numbers as a record -/
def recOf (l : List Int) : Nat → Int := fun i => l.getD i 0
set_option maxRecDepth 100000 in
set_option maxHeartbeats 4000000 in
theorem open_inoC {H : Type} {enc : TypeId × Value → H} {W : World} {cs : List Value} {D : DataW H} {Pl : List MemPlace} {fuel : Nat}
    (hf : DataW.trod enc Tryd.prog W 0 (fun _ => true) true fuel 24 cs = some (D, Pl)) :
    ∃ x : Nat → Int, cs = (inC x).toList ∧ ∀ i, -9223372036854775808 ≤ x i ∧ x i ≤ 9223372036854775807 := by
  obtain ⟨xs, m, hm, hx, hlen, hxl, hel⟩ := DataW.trod_struct Tryd.underlying24 hf
  rw [cellsIno] at hlen
  obtain ⟨v0, v1, v2, v3, v4, v5, v6, v7, v8, v9, v10, v11, v12, v13, v14, rfl⟩ := list15 _ hlen
  obtain ⟨x0, x1, x2, x3, x4, x5, rfl⟩ := list6 xs hxl
  have e0 := hel 0 _ rfl
  have e1 := hel 1 _ rfl
  have e2 := hel 2 _ rfl
  have e3 := hel 3 _ rfl
  have e4 := hel 4 _ rfl
  have e5 := hel 5 _ rfl
  clear hel
  simp [cellsI7, cellsDir] at e0 e1 e2 e3 e4 e5
  obtain ⟨n0, z0, _, w0⟩ := DataW.trod_int Tryd.underlying3 e0
  obtain ⟨n1, z1, _, w1⟩ := DataW.trod_int Tryd.underlying3 e1
  obtain ⟨n2, z2, _, w2⟩ := DataW.trod_int Tryd.underlying3 e2
  obtain ⟨n13, z13, _, w13⟩ := DataW.trod_int Tryd.underlying3 e4
  obtain ⟨n14, z14, _, w14⟩ := DataW.trod_int Tryd.underlying3 e5
  obtain ⟨ys, m', hm', hy, _, hyl, hem⟩ := DataW.trod_array Tryd.underlying22 e3
  obtain ⟨y0, y1, y2, y3, y4, y5, y6, y7, y8, y9, rfl⟩ := list10 ys hyl
  have k0 := hem 0 (by omega)
  have k1 := hem 1 (by omega)
  have k2 := hem 2 (by omega)
  have k3 := hem 3 (by omega)
  have k4 := hem 4 (by omega)
  have k5 := hem 5 (by omega)
  have k6 := hem 6 (by omega)
  have k7 := hem 7 (by omega)
  have k8 := hem 8 (by omega)
  have k9 := hem 9 (by omega)
  clear hem
  simp [cellsI7] at k0 k1 k2 k3 k4 k5 k6 k7 k8 k9
  obtain ⟨n3, z3, _, w3⟩ := DataW.trod_int Tryd.underlying3 k0
  obtain ⟨n4, z4, _, w4⟩ := DataW.trod_int Tryd.underlying3 k1
  obtain ⟨n5, z5, _, w5⟩ := DataW.trod_int Tryd.underlying3 k2
  obtain ⟨n6, z6, _, w6⟩ := DataW.trod_int Tryd.underlying3 k3
  obtain ⟨n7, z7, _, w7⟩ := DataW.trod_int Tryd.underlying3 k4
  obtain ⟨n8, z8, _, w8⟩ := DataW.trod_int Tryd.underlying3 k5
  obtain ⟨n9, z9, _, w9⟩ := DataW.trod_int Tryd.underlying3 k6
  obtain ⟨n10, z10, _, w10⟩ := DataW.trod_int Tryd.underlying3 k7
  obtain ⟨n11, z11, _, w11⟩ := DataW.trod_int Tryd.underlying3 k8
  obtain ⟨n12, z12, _, w12⟩ := DataW.trod_int Tryd.underlying3 k9
  simp at z0 z1 z2 z3 z4 z5 z6 z7 z8 z9 z10 z11 z12 z13 z14
  subst z0 z1 z2 z3 z4 z5 z6 z7 z8 z9 z10 z11 z12 z13 z14
  refine ⟨recOf [n0, n1, n2, n3, n4, n5, n6, n7, n8, n9, n10, n11, n12, n13, n14], rfl, fun i => ?_⟩
  match i with
  | 0 => exact wf_i64 w0
  | 1 => exact wf_i64 w1
  | 2 => exact wf_i64 w2
  | 3 => exact wf_i64 w3
  | 4 => exact wf_i64 w4
  | 5 => exact wf_i64 w5
  | 6 => exact wf_i64 w6
  | 7 => exact wf_i64 w7
  | 8 => exact wf_i64 w8
  | 9 => exact wf_i64 w9
  | 10 => exact wf_i64 w10
  | 11 => exact wf_i64 w11
  | 12 => exact wf_i64 w12
  | 13 => exact wf_i64 w13
  | 14 => exact wf_i64 w14
  | i + 15 => exact ⟨by simp [recOf], by simp [recOf]⟩
theorem open_ino {H : Type} {enc : TypeId × Value → H} {W : World} {v : Value} {D : DataW H} {Pl : List MemPlace} {fuel : Nat} (hv : ∃ cs, v = .agg cs)
    (hf : DataW.trod enc Tryd.prog W 0 (fun _ => true) true fuel 24 v.cells.toList = some (D, Pl)) :
    ∃ x : Nat → Int, v = inV x ∧ ∀ i, -9223372036854775808 ≤ x i ∧ x i ≤ 9223372036854775807 := by
  obtain ⟨cs, rfl⟩ := hv
  obtain ⟨x, h1, h2⟩ := open_inoC hf
  have : cs.toList = (inC x).toList := h1
  exact ⟨x, congrArg Value.agg (Array.toList_inj.1 this), h2⟩
end Go.Proofs.YtleakaddlgpamaaDoor
