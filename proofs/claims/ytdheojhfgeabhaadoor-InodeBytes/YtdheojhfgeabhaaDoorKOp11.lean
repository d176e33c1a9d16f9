import Derived.Test.YtdheojhfgeabhaaDoorKEight
import Derived.Test.YtdheojhfgeabhaaDoorKGeO
import Derived.Laws.ResultCell
namespace Go.Proofs.YtdheojhfgeabhaaDoor
open Rec Go.ChangeShapes Go.WideShapes Go.ChangeAt Go.RowKit

theorem cellsIno : Tryd.prog.cellsOf 24 = 15 := by kernel_rfl
theorem cellsDir : Tryd.prog.cellsOf 22 = 10 := by kernel_rfl
theorem list15 {α : Type} (l : List α) (h : l.length = 15) : ∃ a b c d e f g i j k m n o p q, l = [a, b, c, d, e, f, g, i, j, k, m, n, o, p, q] := by
  match l, h with
  | [a, b, c, d, e, f, g, i, j, k, m, n, o, p, q], _ => exact ⟨a, b, c, d, e, f, g, i, j, k, m, n, o, p, q, rfl⟩
theorem list10 {α : Type} (l : List α) (h : l.length = 10) : ∃ a b c d e f g i j k, l = [a, b, c, d, e, f, g, i, j, k] := by
  match l, h with
  | [a, b, c, d, e, f, g, i, j, k], _ => exact ⟨a, b, c, d, e, f, g, i, j, k, rfl⟩
theorem list6 {α : Type} (l : List α) (h : l.length = 6) : ∃ a b c d e f, l = [a, b, c, d, e, f] := by
  match l, h with
  | [a, b, c, d, e, f], _ => exact ⟨a, b, c, d, e, f, rfl⟩
set_option maxRecDepth 100000 in
theorem okWide_ino {W : World} {base : Nat} {v : Value} (h : Value.okWide Tryd.prog W .any base 24 v) : ∃ cs, v = .agg cs := by
  obtain ⟨cs, h1, _⟩ := okWide_struct Tryd.underlying24 h
  exact ⟨cs, h1⟩
/-- a row of numbers as a record -/
def recOf (l : List Int) : Nat → Int := fun i => l.getD i 0
set_option maxRecDepth 100000 in
set_option maxHeartbeats 4000000 in
theorem open_inoC {H : Type} {enc : TypeId × Value → H} {W : World} {cs : List Value} {D : DataW H} {Pl : List MemPlace} {fuel : Nat}
    (hf : DataW.trod enc Tryd.prog W 0 (fun _ => true) true fuel 24 cs = some (D, Pl)) :
    ∃ x : Nat → Int, cs = (inC x).toList ∧ ∀ i, -9223372036854775808 ≤ x i ∧ x i ≤ 9223372036854775807 := by
  obtain ⟨xs, m, hm, hx, hlen, hxl, hel⟩ := DataW.trod_struct Tryd.underlying24 hf
  rw [cellsIno] at hlen
  obtain ⟨v0, v1, v2, v3, v4, v5, v6, v7, v8, v9, v10, v11, v12, v13, v14, rfl⟩ := list15 _ hlen
  obtain ⟨x0, x1, x2, x3, x4, x5, rfl⟩ := list6 xs hxl
  have e0 := hel 0 _ rfl
  have e1 := hel 1 _ rfl
  have e2 := hel 2 _ rfl
  have e3 := hel 3 _ rfl
  have e4 := hel 4 _ rfl
  have e5 := hel 5 _ rfl
  clear hel
  simp [cellsI7, cellsDir] at e0 e1 e2 e3 e4 e5
  obtain ⟨n0, z0, _, w0⟩ := DataW.trod_int Tryd.underlying3 e0
  obtain ⟨n1, z1, _, w1⟩ := DataW.trod_int Tryd.underlying3 e1
  obtain ⟨n2, z2, _, w2⟩ := DataW.trod_int Tryd.underlying3 e2
  obtain ⟨n13, z13, _, w13⟩ := DataW.trod_int Tryd.underlying3 e4
  obtain ⟨n14, z14, _, w14⟩ := DataW.trod_int Tryd.underlying3 e5
  obtain ⟨ys, m', hm', hy, _, hyl, hem⟩ := DataW.trod_array Tryd.underlying22 e3
  obtain ⟨y0, y1, y2, y3, y4, y5, y6, y7, y8, y9, rfl⟩ := list10 ys hyl
  have k0 := hem 0 (by omega)
  have k1 := hem 1 (by omega)
  have k2 := hem 2 (by omega)
  have k3 := hem 3 (by omega)
  have k4 := hem 4 (by omega)
  have k5 := hem 5 (by omega)
  have k6 := hem 6 (by omega)
  have k7 := hem 7 (by omega)
  have k8 := hem 8 (by omega)
  have k9 := hem 9 (by omega)
  clear hem
  simp [cellsI7] at k0 k1 k2 k3 k4 k5 k6 k7 k8 k9
  obtain ⟨n3, z3, _, w3⟩ := DataW.trod_int Tryd.underlying3 k0
  obtain ⟨n4, z4, _, w4⟩ := DataW.trod_int Tryd.underlying3 k1
  obtain ⟨n5, z5, _, w5⟩ := DataW.trod_int Tryd.underlying3 k2
  obtain ⟨n6, z6, _, w6⟩ := DataW.trod_int Tryd.underlying3 k3
  obtain ⟨n7, z7, _, w7⟩ := DataW.trod_int Tryd.underlying3 k4
  obtain ⟨n8, z8, _, w8⟩ := DataW.trod_int Tryd.underlying3 k5
  obtain ⟨n9, z9, _, w9⟩ := DataW.trod_int Tryd.underlying3 k6
  obtain ⟨n10, z10, _, w10⟩ := DataW.trod_int Tryd.underlying3 k7
  obtain ⟨n11, z11, _, w11⟩ := DataW.trod_int Tryd.underlying3 k8
  obtain ⟨n12, z12, _, w12⟩ := DataW.trod_int Tryd.underlying3 k9
  simp at z0 z1 z2 z3 z4 z5 z6 z7 z8 z9 z10 z11 z12 z13 z14
  subst z0 z1 z2 z3 z4 z5 z6 z7 z8 z9 z10 z11 z12 z13 z14
  refine ⟨recOf [n0, n1, n2, n3, n4, n5, n6, n7, n8, n9, n10, n11, n12, n13, n14], rfl, fun i => ?_⟩
  match i with
  | 0 => exact wf_i64 w0
  | 1 => exact wf_i64 w1
  | 2 => exact wf_i64 w2
  | 3 => exact wf_i64 w3
  | 4 => exact wf_i64 w4
  | 5 => exact wf_i64 w5
  | 6 => exact wf_i64 w6
  | 7 => exact wf_i64 w7
  | 8 => exact wf_i64 w8
  | 9 => exact wf_i64 w9
  | 10 => exact wf_i64 w10
  | 11 => exact wf_i64 w11
  | 12 => exact wf_i64 w12
  | 13 => exact wf_i64 w13
  | 14 => exact wf_i64 w14
  | i + 15 => exact ⟨by simp [recOf], by simp [recOf]⟩
theorem open_ino {H : Type} {enc : TypeId × Value → H} {W : World} {v : Value} {D : DataW H} {Pl : List MemPlace} {fuel : Nat} (hv : ∃ cs, v = .agg cs)
    (hf : DataW.trod enc Tryd.prog W 0 (fun _ => true) true fuel 24 v.cells.toList = some (D, Pl)) :
    ∃ x : Nat → Int, v = inV x ∧ ∀ i, -9223372036854775808 ≤ x i ∧ x i ≤ 9223372036854775807 := by
  obtain ⟨cs, rfl⟩ := hv
  obtain ⟨x, h1, h2⟩ := open_inoC hf
  have : cs.toList = (inC x).toList := h1
  exact ⟨x, congrArg Value.agg (Array.toList_inj.1 this), h2⟩
end Go.Proofs.YtdheojhfgeabhaaDoor

namespace Go.Proofs.YtdheojhfgeabhaaDoor
open Go.RowKit Rec

theorem res_row9 {fn : Func} {p : Tmp} {ty : TypeId} (h : fn.results = #[.cell p ty]) (tmps : Array Value) (w : World) (g : Nat) (cs : Array Value)
    (hp : tmps.getD p undef = .pointer (some ⟨g, 0, none⟩)) (hl : (loadVar ty ⟨g, 0, none⟩).run Tryd.prog w = .ok (.agg cs) w) :
    (results fn tmps).run Tryd.prog w = .ok (.agg cs) w := by
  have e : (results fn tmps).run Tryd.prog w = ((asAddr (tmps.getD p undef)).run Tryd.prog w).andThen fun a w₁ => (loadVar ty a).run Tryd.prog w₁ := by
    simp only [results, h]
    simp [Sem.run_bind, Result.andThen]
  rw [e, hp]
  simp [asAddr, hl]
theorem res_tmp_row {fn : Func} {p u : Tmp} {ty : TypeId} (h : fn.results = #[.tmp u, .cell p ty]) (tmps : Array Value) (w : World) (g : Nat) (cs : Array Value)
    (hp : tmps.getD p undef = .pointer (some ⟨g, 0, none⟩)) (hl : (loadVar ty ⟨g, 0, none⟩).run Tryd.prog w = .ok (.agg cs) w) :
    (results fn tmps).run Tryd.prog w = .ok (.tuple #[tmps.getD u undef, .agg cs]) w := by
  have e : (results fn tmps).run Tryd.prog w = ((asAddr (tmps.getD p undef)).run Tryd.prog w).andThen fun a w₁ => ((loadVar ty a).run Tryd.prog w₁).andThen fun v w₂ => .ok (.tuple #[tmps.getD u undef, v]) w₂ := by
    simp only [results, h]
    simp [Sem.run_bind, Result.andThen]
  rw [e, hp]
  simp [asAddr, hl]
end Go.Proofs.YtdheojhfgeabhaaDoor

namespace Go.Proofs.YtdheojhfgeabhaaDoor
open Go.RowKit Rec

set_option maxRecDepth 100000 in
theorem set12 (w : World) (p : Nat) (u0 u1 u2 u3 u4 u5 u6 u7 u8 u9 u10 u11 v0 v1 v2 v3 v4 v5 v6 v7 v8 v9 v10 v11 : Value) (h : w.heap[p]? = some (.cells #[u0, u1, u2, u3, u4, u5, u6, u7, u8, u9, u10, u11] 55 (0, 0))) : ((((((((((((w.setCell ⟨p, 0, none⟩ v0).setCell ⟨p, 1, none⟩ v1).setCell ⟨p, 2, none⟩ v2).setCell ⟨p, 3, none⟩ v3).setCell ⟨p, 4, none⟩ v4).setCell ⟨p, 5, none⟩ v5).setCell ⟨p, 6, none⟩ v6).setCell ⟨p, 7, none⟩ v7).setCell ⟨p, 8, none⟩ v8).setCell ⟨p, 9, none⟩ v9).setCell ⟨p, 10, none⟩ v10).setCell ⟨p, 11, none⟩ v11).heap[p]? = some (.cells #[v0, v1, v2, v3, v4, v5, v6, v7, v8, v9, v10, v11] 55 (0, 0)) := by
  have h0 : (w.setCell ⟨p, 0, none⟩ v0).heap[p]? = some (.cells #[v0, u1, u2, u3, u4, u5, u6, u7, u8, u9, u10, u11] 55 (0, 0)) := by have := heap_setCell_same _ p 0 _ _ v0 h; simpa using this
  have h1 : ((w.setCell ⟨p, 0, none⟩ v0).setCell ⟨p, 1, none⟩ v1).heap[p]? = some (.cells #[v0, v1, u2, u3, u4, u5, u6, u7, u8, u9, u10, u11] 55 (0, 0)) := by have := heap_setCell_same _ p 1 _ _ v1 h0; simpa using this
  have h2 : (((w.setCell ⟨p, 0, none⟩ v0).setCell ⟨p, 1, none⟩ v1).setCell ⟨p, 2, none⟩ v2).heap[p]? = some (.cells #[v0, v1, v2, u3, u4, u5, u6, u7, u8, u9, u10, u11] 55 (0, 0)) := by have := heap_setCell_same _ p 2 _ _ v2 h1; simpa using this
  have h3 : ((((w.setCell ⟨p, 0, none⟩ v0).setCell ⟨p, 1, none⟩ v1).setCell ⟨p, 2, none⟩ v2).setCell ⟨p, 3, none⟩ v3).heap[p]? = some (.cells #[v0, v1, v2, v3, u4, u5, u6, u7, u8, u9, u10, u11] 55 (0, 0)) := by have := heap_setCell_same _ p 3 _ _ v3 h2; simpa using this
  have h4 : (((((w.setCell ⟨p, 0, none⟩ v0).setCell ⟨p, 1, none⟩ v1).setCell ⟨p, 2, none⟩ v2).setCell ⟨p, 3, none⟩ v3).setCell ⟨p, 4, none⟩ v4).heap[p]? = some (.cells #[v0, v1, v2, v3, v4, u5, u6, u7, u8, u9, u10, u11] 55 (0, 0)) := by have := heap_setCell_same _ p 4 _ _ v4 h3; simpa using this
  have h5 : ((((((w.setCell ⟨p, 0, none⟩ v0).setCell ⟨p, 1, none⟩ v1).setCell ⟨p, 2, none⟩ v2).setCell ⟨p, 3, none⟩ v3).setCell ⟨p, 4, none⟩ v4).setCell ⟨p, 5, none⟩ v5).heap[p]? = some (.cells #[v0, v1, v2, v3, v4, v5, u6, u7, u8, u9, u10, u11] 55 (0, 0)) := by have := heap_setCell_same _ p 5 _ _ v5 h4; simpa using this
  have h6 : (((((((w.setCell ⟨p, 0, none⟩ v0).setCell ⟨p, 1, none⟩ v1).setCell ⟨p, 2, none⟩ v2).setCell ⟨p, 3, none⟩ v3).setCell ⟨p, 4, none⟩ v4).setCell ⟨p, 5, none⟩ v5).setCell ⟨p, 6, none⟩ v6).heap[p]? = some (.cells #[v0, v1, v2, v3, v4, v5, v6, u7, u8, u9, u10, u11] 55 (0, 0)) := by have := heap_setCell_same _ p 6 _ _ v6 h5; simpa using this
  have h7 : ((((((((w.setCell ⟨p, 0, none⟩ v0).setCell ⟨p, 1, none⟩ v1).setCell ⟨p, 2, none⟩ v2).setCell ⟨p, 3, none⟩ v3).setCell ⟨p, 4, none⟩ v4).setCell ⟨p, 5, none⟩ v5).setCell ⟨p, 6, none⟩ v6).setCell ⟨p, 7, none⟩ v7).heap[p]? = some (.cells #[v0, v1, v2, v3, v4, v5, v6, v7, u8, u9, u10, u11] 55 (0, 0)) := by have := heap_setCell_same _ p 7 _ _ v7 h6; simpa using this
  have h8 : (((((((((w.setCell ⟨p, 0, none⟩ v0).setCell ⟨p, 1, none⟩ v1).setCell ⟨p, 2, none⟩ v2).setCell ⟨p, 3, none⟩ v3).setCell ⟨p, 4, none⟩ v4).setCell ⟨p, 5, none⟩ v5).setCell ⟨p, 6, none⟩ v6).setCell ⟨p, 7, none⟩ v7).setCell ⟨p, 8, none⟩ v8).heap[p]? = some (.cells #[v0, v1, v2, v3, v4, v5, v6, v7, v8, u9, u10, u11] 55 (0, 0)) := by have := heap_setCell_same _ p 8 _ _ v8 h7; simpa using this
  have h9 : ((((((((((w.setCell ⟨p, 0, none⟩ v0).setCell ⟨p, 1, none⟩ v1).setCell ⟨p, 2, none⟩ v2).setCell ⟨p, 3, none⟩ v3).setCell ⟨p, 4, none⟩ v4).setCell ⟨p, 5, none⟩ v5).setCell ⟨p, 6, none⟩ v6).setCell ⟨p, 7, none⟩ v7).setCell ⟨p, 8, none⟩ v8).setCell ⟨p, 9, none⟩ v9).heap[p]? = some (.cells #[v0, v1, v2, v3, v4, v5, v6, v7, v8, v9, u10, u11] 55 (0, 0)) := by have := heap_setCell_same _ p 9 _ _ v9 h8; simpa using this
  have h10 : (((((((((((w.setCell ⟨p, 0, none⟩ v0).setCell ⟨p, 1, none⟩ v1).setCell ⟨p, 2, none⟩ v2).setCell ⟨p, 3, none⟩ v3).setCell ⟨p, 4, none⟩ v4).setCell ⟨p, 5, none⟩ v5).setCell ⟨p, 6, none⟩ v6).setCell ⟨p, 7, none⟩ v7).setCell ⟨p, 8, none⟩ v8).setCell ⟨p, 9, none⟩ v9).setCell ⟨p, 10, none⟩ v10).heap[p]? = some (.cells #[v0, v1, v2, v3, v4, v5, v6, v7, v8, v9, v10, u11] 55 (0, 0)) := by have := heap_setCell_same _ p 10 _ _ v10 h9; simpa using this
  have h11 : ((((((((((((w.setCell ⟨p, 0, none⟩ v0).setCell ⟨p, 1, none⟩ v1).setCell ⟨p, 2, none⟩ v2).setCell ⟨p, 3, none⟩ v3).setCell ⟨p, 4, none⟩ v4).setCell ⟨p, 5, none⟩ v5).setCell ⟨p, 6, none⟩ v6).setCell ⟨p, 7, none⟩ v7).setCell ⟨p, 8, none⟩ v8).setCell ⟨p, 9, none⟩ v9).setCell ⟨p, 10, none⟩ v10).setCell ⟨p, 11, none⟩ v11).heap[p]? = some (.cells #[v0, v1, v2, v3, v4, v5, v6, v7, v8, v9, v10, v11] 55 (0, 0)) := by have := heap_setCell_same _ p 11 _ _ v11 h10; simpa using this
  exact h11
set_option maxRecDepth 100000 in
set_option maxHeartbeats 1600000 in
theorem load12 (w : World) (p : Nat) (v0 v1 v2 v3 v4 v5 v6 v7 v8 v9 v10 v11 : Int) (h : w.heap[p]? = some (.cells #[.int .i64 v0, .int .i64 v1, .int .i64 v2, .int .i64 v3, .int .i64 v4, .int .i64 v5, .int .i64 v6, .int .i64 v7, .int .i64 v8, .int .i64 v9, .int .i64 v10, .int .i64 v11] 55 (0, 0))) : (loadVar 55 ⟨p, 0, none⟩).run Tryd.prog w = .ok (.agg #[.int .i64 v0, .int .i64 v1, .int .i64 v2, .int .i64 v3, .int .i64 v4, .int .i64 v5, .int .i64 v6, .int .i64 v7, .int .i64 v8, .int .i64 v9, .int .i64 v10, .int .i64 v11]) w := by
  have c0 : w.cell? ⟨p, 0, none⟩ = some (.int .i64 v0) := cell_of_row _ _ 0 _ _ _ h
  have c1 : w.cell? ⟨p, 1, none⟩ = some (.int .i64 v1) := cell_of_row _ _ 1 _ _ _ h
  have c2 : w.cell? ⟨p, 2, none⟩ = some (.int .i64 v2) := cell_of_row _ _ 2 _ _ _ h
  have c3 : w.cell? ⟨p, 3, none⟩ = some (.int .i64 v3) := cell_of_row _ _ 3 _ _ _ h
  have c4 : w.cell? ⟨p, 4, none⟩ = some (.int .i64 v4) := cell_of_row _ _ 4 _ _ _ h
  have c5 : w.cell? ⟨p, 5, none⟩ = some (.int .i64 v5) := cell_of_row _ _ 5 _ _ _ h
  have c6 : w.cell? ⟨p, 6, none⟩ = some (.int .i64 v6) := cell_of_row _ _ 6 _ _ _ h
  have c7 : w.cell? ⟨p, 7, none⟩ = some (.int .i64 v7) := cell_of_row _ _ 7 _ _ _ h
  have c8 : w.cell? ⟨p, 8, none⟩ = some (.int .i64 v8) := cell_of_row _ _ 8 _ _ _ h
  have c9 : w.cell? ⟨p, 9, none⟩ = some (.int .i64 v9) := cell_of_row _ _ 9 _ _ _ h
  have c10 : w.cell? ⟨p, 10, none⟩ = some (.int .i64 v10) := cell_of_row _ _ 10 _ _ _ h
  have c11 : w.cell? ⟨p, 11, none⟩ = some (.int .i64 v11) := cell_of_row _ _ 11 _ _ _ h
  simp [go_sem, c0, c1, c2, c3, c4, c5, c6, c7, c8, c9, c10, c11]
set_option maxRecDepth 100000 in
theorem set15 (w : World) (p : Nat) (u0 u1 u2 u3 u4 u5 u6 u7 u8 u9 u10 u11 u12 u13 u14 v0 v1 v2 v3 v4 v5 v6 v7 v8 v9 v10 v11 v12 v13 v14 : Value) (h : w.heap[p]? = some (.cells #[u0, u1, u2, u3, u4, u5, u6, u7, u8, u9, u10, u11, u12, u13, u14] 24 (0, 0))) : (((((((((((((((w.setCell ⟨p, 0, none⟩ v0).setCell ⟨p, 1, none⟩ v1).setCell ⟨p, 2, none⟩ v2).setCell ⟨p, 3, none⟩ v3).setCell ⟨p, 4, none⟩ v4).setCell ⟨p, 5, none⟩ v5).setCell ⟨p, 6, none⟩ v6).setCell ⟨p, 7, none⟩ v7).setCell ⟨p, 8, none⟩ v8).setCell ⟨p, 9, none⟩ v9).setCell ⟨p, 10, none⟩ v10).setCell ⟨p, 11, none⟩ v11).setCell ⟨p, 12, none⟩ v12).setCell ⟨p, 13, none⟩ v13).setCell ⟨p, 14, none⟩ v14).heap[p]? = some (.cells #[v0, v1, v2, v3, v4, v5, v6, v7, v8, v9, v10, v11, v12, v13, v14] 24 (0, 0)) := by
  have h0 : (w.setCell ⟨p, 0, none⟩ v0).heap[p]? = some (.cells #[v0, u1, u2, u3, u4, u5, u6, u7, u8, u9, u10, u11, u12, u13, u14] 24 (0, 0)) := by have := heap_setCell_same _ p 0 _ _ v0 h; simpa using this
  have h1 : ((w.setCell ⟨p, 0, none⟩ v0).setCell ⟨p, 1, none⟩ v1).heap[p]? = some (.cells #[v0, v1, u2, u3, u4, u5, u6, u7, u8, u9, u10, u11, u12, u13, u14] 24 (0, 0)) := by have := heap_setCell_same _ p 1 _ _ v1 h0; simpa using this
  have h2 : (((w.setCell ⟨p, 0, none⟩ v0).setCell ⟨p, 1, none⟩ v1).setCell ⟨p, 2, none⟩ v2).heap[p]? = some (.cells #[v0, v1, v2, u3, u4, u5, u6, u7, u8, u9, u10, u11, u12, u13, u14] 24 (0, 0)) := by have := heap_setCell_same _ p 2 _ _ v2 h1; simpa using this
  have h3 : ((((w.setCell ⟨p, 0, none⟩ v0).setCell ⟨p, 1, none⟩ v1).setCell ⟨p, 2, none⟩ v2).setCell ⟨p, 3, none⟩ v3).heap[p]? = some (.cells #[v0, v1, v2, v3, u4, u5, u6, u7, u8, u9, u10, u11, u12, u13, u14] 24 (0, 0)) := by have := heap_setCell_same _ p 3 _ _ v3 h2; simpa using this
  have h4 : (((((w.setCell ⟨p, 0, none⟩ v0).setCell ⟨p, 1, none⟩ v1).setCell ⟨p, 2, none⟩ v2).setCell ⟨p, 3, none⟩ v3).setCell ⟨p, 4, none⟩ v4).heap[p]? = some (.cells #[v0, v1, v2, v3, v4, u5, u6, u7, u8, u9, u10, u11, u12, u13, u14] 24 (0, 0)) := by have := heap_setCell_same _ p 4 _ _ v4 h3; simpa using this
  have h5 : ((((((w.setCell ⟨p, 0, none⟩ v0).setCell ⟨p, 1, none⟩ v1).setCell ⟨p, 2, none⟩ v2).setCell ⟨p, 3, none⟩ v3).setCell ⟨p, 4, none⟩ v4).setCell ⟨p, 5, none⟩ v5).heap[p]? = some (.cells #[v0, v1, v2, v3, v4, v5, u6, u7, u8, u9, u10, u11, u12, u13, u14] 24 (0, 0)) := by have := heap_setCell_same _ p 5 _ _ v5 h4; simpa using this
  have h6 : (((((((w.setCell ⟨p, 0, none⟩ v0).setCell ⟨p, 1, none⟩ v1).setCell ⟨p, 2, none⟩ v2).setCell ⟨p, 3, none⟩ v3).setCell ⟨p, 4, none⟩ v4).setCell ⟨p, 5, none⟩ v5).setCell ⟨p, 6, none⟩ v6).heap[p]? = some (.cells #[v0, v1, v2, v3, v4, v5, v6, u7, u8, u9, u10, u11, u12, u13, u14] 24 (0, 0)) := by have := heap_setCell_same _ p 6 _ _ v6 h5; simpa using this
  have h7 : ((((((((w.setCell ⟨p, 0, none⟩ v0).setCell ⟨p, 1, none⟩ v1).setCell ⟨p, 2, none⟩ v2).setCell ⟨p, 3, none⟩ v3).setCell ⟨p, 4, none⟩ v4).setCell ⟨p, 5, none⟩ v5).setCell ⟨p, 6, none⟩ v6).setCell ⟨p, 7, none⟩ v7).heap[p]? = some (.cells #[v0, v1, v2, v3, v4, v5, v6, v7, u8, u9, u10, u11, u12, u13, u14] 24 (0, 0)) := by have := heap_setCell_same _ p 7 _ _ v7 h6; simpa using this
  have h8 : (((((((((w.setCell ⟨p, 0, none⟩ v0).setCell ⟨p, 1, none⟩ v1).setCell ⟨p, 2, none⟩ v2).setCell ⟨p, 3, none⟩ v3).setCell ⟨p, 4, none⟩ v4).setCell ⟨p, 5, none⟩ v5).setCell ⟨p, 6, none⟩ v6).setCell ⟨p, 7, none⟩ v7).setCell ⟨p, 8, none⟩ v8).heap[p]? = some (.cells #[v0, v1, v2, v3, v4, v5, v6, v7, v8, u9, u10, u11, u12, u13, u14] 24 (0, 0)) := by have := heap_setCell_same _ p 8 _ _ v8 h7; simpa using this
  have h9 : ((((((((((w.setCell ⟨p, 0, none⟩ v0).setCell ⟨p, 1, none⟩ v1).setCell ⟨p, 2, none⟩ v2).setCell ⟨p, 3, none⟩ v3).setCell ⟨p, 4, none⟩ v4).setCell ⟨p, 5, none⟩ v5).setCell ⟨p, 6, none⟩ v6).setCell ⟨p, 7, none⟩ v7).setCell ⟨p, 8, none⟩ v8).setCell ⟨p, 9, none⟩ v9).heap[p]? = some (.cells #[v0, v1, v2, v3, v4, v5, v6, v7, v8, v9, u10, u11, u12, u13, u14] 24 (0, 0)) := by have := heap_setCell_same _ p 9 _ _ v9 h8; simpa using this
  have h10 : (((((((((((w.setCell ⟨p, 0, none⟩ v0).setCell ⟨p, 1, none⟩ v1).setCell ⟨p, 2, none⟩ v2).setCell ⟨p, 3, none⟩ v3).setCell ⟨p, 4, none⟩ v4).setCell ⟨p, 5, none⟩ v5).setCell ⟨p, 6, none⟩ v6).setCell ⟨p, 7, none⟩ v7).setCell ⟨p, 8, none⟩ v8).setCell ⟨p, 9, none⟩ v9).setCell ⟨p, 10, none⟩ v10).heap[p]? = some (.cells #[v0, v1, v2, v3, v4, v5, v6, v7, v8, v9, v10, u11, u12, u13, u14] 24 (0, 0)) := by have := heap_setCell_same _ p 10 _ _ v10 h9; simpa using this
  have h11 : ((((((((((((w.setCell ⟨p, 0, none⟩ v0).setCell ⟨p, 1, none⟩ v1).setCell ⟨p, 2, none⟩ v2).setCell ⟨p, 3, none⟩ v3).setCell ⟨p, 4, none⟩ v4).setCell ⟨p, 5, none⟩ v5).setCell ⟨p, 6, none⟩ v6).setCell ⟨p, 7, none⟩ v7).setCell ⟨p, 8, none⟩ v8).setCell ⟨p, 9, none⟩ v9).setCell ⟨p, 10, none⟩ v10).setCell ⟨p, 11, none⟩ v11).heap[p]? = some (.cells #[v0, v1, v2, v3, v4, v5, v6, v7, v8, v9, v10, v11, u12, u13, u14] 24 (0, 0)) := by have := heap_setCell_same _ p 11 _ _ v11 h10; simpa using this
  have h12 : (((((((((((((w.setCell ⟨p, 0, none⟩ v0).setCell ⟨p, 1, none⟩ v1).setCell ⟨p, 2, none⟩ v2).setCell ⟨p, 3, none⟩ v3).setCell ⟨p, 4, none⟩ v4).setCell ⟨p, 5, none⟩ v5).setCell ⟨p, 6, none⟩ v6).setCell ⟨p, 7, none⟩ v7).setCell ⟨p, 8, none⟩ v8).setCell ⟨p, 9, none⟩ v9).setCell ⟨p, 10, none⟩ v10).setCell ⟨p, 11, none⟩ v11).setCell ⟨p, 12, none⟩ v12).heap[p]? = some (.cells #[v0, v1, v2, v3, v4, v5, v6, v7, v8, v9, v10, v11, v12, u13, u14] 24 (0, 0)) := by have := heap_setCell_same _ p 12 _ _ v12 h11; simpa using this
  have h13 : ((((((((((((((w.setCell ⟨p, 0, none⟩ v0).setCell ⟨p, 1, none⟩ v1).setCell ⟨p, 2, none⟩ v2).setCell ⟨p, 3, none⟩ v3).setCell ⟨p, 4, none⟩ v4).setCell ⟨p, 5, none⟩ v5).setCell ⟨p, 6, none⟩ v6).setCell ⟨p, 7, none⟩ v7).setCell ⟨p, 8, none⟩ v8).setCell ⟨p, 9, none⟩ v9).setCell ⟨p, 10, none⟩ v10).setCell ⟨p, 11, none⟩ v11).setCell ⟨p, 12, none⟩ v12).setCell ⟨p, 13, none⟩ v13).heap[p]? = some (.cells #[v0, v1, v2, v3, v4, v5, v6, v7, v8, v9, v10, v11, v12, v13, u14] 24 (0, 0)) := by have := heap_setCell_same _ p 13 _ _ v13 h12; simpa using this
  have h14 : (((((((((((((((w.setCell ⟨p, 0, none⟩ v0).setCell ⟨p, 1, none⟩ v1).setCell ⟨p, 2, none⟩ v2).setCell ⟨p, 3, none⟩ v3).setCell ⟨p, 4, none⟩ v4).setCell ⟨p, 5, none⟩ v5).setCell ⟨p, 6, none⟩ v6).setCell ⟨p, 7, none⟩ v7).setCell ⟨p, 8, none⟩ v8).setCell ⟨p, 9, none⟩ v9).setCell ⟨p, 10, none⟩ v10).setCell ⟨p, 11, none⟩ v11).setCell ⟨p, 12, none⟩ v12).setCell ⟨p, 13, none⟩ v13).setCell ⟨p, 14, none⟩ v14).heap[p]? = some (.cells #[v0, v1, v2, v3, v4, v5, v6, v7, v8, v9, v10, v11, v12, v13, v14] 24 (0, 0)) := by have := heap_setCell_same _ p 14 _ _ v14 h13; simpa using this
  exact h14
set_option maxRecDepth 100000 in
set_option maxHeartbeats 1600000 in
theorem load15 (w : World) (p : Nat) (v0 v1 v2 v3 v4 v5 v6 v7 v8 v9 v10 v11 v12 v13 v14 : Int) (h : w.heap[p]? = some (.cells #[.int .i64 v0, .int .i64 v1, .int .i64 v2, .int .i64 v3, .int .i64 v4, .int .i64 v5, .int .i64 v6, .int .i64 v7, .int .i64 v8, .int .i64 v9, .int .i64 v10, .int .i64 v11, .int .i64 v12, .int .i64 v13, .int .i64 v14] 24 (0, 0))) : (loadVar 24 ⟨p, 0, none⟩).run Tryd.prog w = .ok (.agg #[.int .i64 v0, .int .i64 v1, .int .i64 v2, .int .i64 v3, .int .i64 v4, .int .i64 v5, .int .i64 v6, .int .i64 v7, .int .i64 v8, .int .i64 v9, .int .i64 v10, .int .i64 v11, .int .i64 v12, .int .i64 v13, .int .i64 v14]) w := by
  have c0 : w.cell? ⟨p, 0, none⟩ = some (.int .i64 v0) := cell_of_row _ _ 0 _ _ _ h
  have c1 : w.cell? ⟨p, 1, none⟩ = some (.int .i64 v1) := cell_of_row _ _ 1 _ _ _ h
  have c2 : w.cell? ⟨p, 2, none⟩ = some (.int .i64 v2) := cell_of_row _ _ 2 _ _ _ h
  have c3 : w.cell? ⟨p, 3, none⟩ = some (.int .i64 v3) := cell_of_row _ _ 3 _ _ _ h
  have c4 : w.cell? ⟨p, 4, none⟩ = some (.int .i64 v4) := cell_of_row _ _ 4 _ _ _ h
  have c5 : w.cell? ⟨p, 5, none⟩ = some (.int .i64 v5) := cell_of_row _ _ 5 _ _ _ h
  have c6 : w.cell? ⟨p, 6, none⟩ = some (.int .i64 v6) := cell_of_row _ _ 6 _ _ _ h
  have c7 : w.cell? ⟨p, 7, none⟩ = some (.int .i64 v7) := cell_of_row _ _ 7 _ _ _ h
  have c8 : w.cell? ⟨p, 8, none⟩ = some (.int .i64 v8) := cell_of_row _ _ 8 _ _ _ h
  have c9 : w.cell? ⟨p, 9, none⟩ = some (.int .i64 v9) := cell_of_row _ _ 9 _ _ _ h
  have c10 : w.cell? ⟨p, 10, none⟩ = some (.int .i64 v10) := cell_of_row _ _ 10 _ _ _ h
  have c11 : w.cell? ⟨p, 11, none⟩ = some (.int .i64 v11) := cell_of_row _ _ 11 _ _ _ h
  have c12 : w.cell? ⟨p, 12, none⟩ = some (.int .i64 v12) := cell_of_row _ _ 12 _ _ _ h
  have c13 : w.cell? ⟨p, 13, none⟩ = some (.int .i64 v13) := cell_of_row _ _ 13 _ _ _ h
  have c14 : w.cell? ⟨p, 14, none⟩ = some (.int .i64 v14) := cell_of_row _ _ 14 _ _ _ h
  simp [go_sem, c0, c1, c2, c3, c4, c5, c6, c7, c8, c9, c10, c11, c12, c13, c14]
end Go.Proofs.YtdheojhfgeabhaaDoor

namespace Go.Proofs.YtdheojhfgeabhaaDoor
open Go.RowKit Rec

theorem Ints.some {w : World} {a : Option Addr} {l : List Int} (h : Ints w a l) (h0 : 0 < l.length) : ∃ b off, a = some ⟨b, off, none⟩ := by
  rcases h.at_ with e | ⟨b, off, e, _⟩
  · subst e; simp at h0
  · exact ⟨b, off, e⟩
theorem Data.some {w : World} {a : Option Addr} {l : List (List Int)} (h : Data w a l) (h0 : 0 < l.length) : ∃ b off, a = some ⟨b, off, none⟩ := by
  rcases h.at_ with e | ⟨b, off, e, _⟩
  · subst e; simp at h0
  · exact ⟨b, off, e⟩
theorem Bytes.some {w : World} {a : Option Addr} {l : List Int} (h : Bytes w a l) (h0 : 0 < l.length) : ∃ b off, a = some ⟨b, off, none⟩ := by
  rcases h.at_ with e | ⟨b, off, e, _⟩
  · subst e; simp at h0
  · exact ⟨b, off, e⟩
theorem has_of {v : Int} (W : Nat) (h : v < 256 ^ W) : has v W = true := decide_eq_true (by simpa using h)

end Go.Proofs.YtdheojhfgeabhaaDoor

namespace Go.Proofs.YtdheojhfgeabhaaDoor
open Go.RowKit Rec

/-- what Nums hands back -/
def NumsAt (w w' : World) (v : Value) (l : List Int) : Prop := (l = [] ∧ v = .slice none 0 0) ∨ ∃ g cap, v = .slice (some ⟨g, 0, none⟩) l.length cap ∧ OwnI w' g cap l ∧ w.heap.size ≤ g

end Go.Proofs.YtdheojhfgeabhaaDoor
