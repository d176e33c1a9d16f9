import Derived.Test.YtleakaddlgpamaaDoorOp11
import Derived.Test.YtleakaddlgpamaaDoorKEight
import Derived.Laws.ResultCell
namespace Go.Proofs.YtleakaddlgpamaaDoor
open Rec Go.ChangeShapes Go.WideShapes Go.ChangeAt Go.RowKit

theorem bytesIno : Tryd.prog.bytesOf 24 = 120 := by kernel_rfl
theorem elemIno : Tryd.prog.underlying 38 = some (.slice (Tryd.prog.elem 38)) := by kernel_rfl
theorem elemIno2 : Tryd.prog.elem 38 = 24 := by kernel_rfl
theorem elemNum : Tryd.prog.underlying 39 = some (.slice (Tryd.prog.elem 39)) := by kernel_rfl
theorem elemNum2 : Tryd.prog.elem 39 = 3 := by kernel_rfl
theorem sizeIno : (Tryd.prog.info? 24).map (·.size) = some 15 := by kernel_rfl
theorem sizeNum : (Tryd.prog.info? 3).map (·.size) = some 1 := by kernel_rfl
theorem run_sizeOf12 {t : TypeId} {n : Nat} (h : (Tryd.prog.info? t).map (·.size) = some n) (w : World) : (sizeOf t).run Tryd.prog w = .ok n w := by
  cases hq : Tryd.prog.info? t with
  | none => simp [hq] at h
  | some i =>
    have hs : i.size = n := by simp [hq] at h; exact h
    simp [sizeOf, typeInfo, hq, hs]
theorem idx_ino (w : World) (b off len cap i : Nat) (hi : i < len) : (Instr.indexAt 38 (.slice (some ⟨b, off, none⟩) len cap) (.int .i64 (i : Int))).run Tryd.prog w = .ok (.pointer (some ⟨b, off + i * 15, none⟩)) w := by
  rw [run_indexAt_slice (h := elemIno), if_pos ⟨by omega, by omega⟩, elemIno2, run_sizeOf12 sizeIno]
  simp [Result.andThen, Addr.add_lit]
theorem idx_num (w : World) (b off len cap i : Nat) (hi : i < len) : (Instr.indexAt 39 (.slice (some ⟨b, off, none⟩) len cap) (.int .i64 (i : Int))).run Tryd.prog w = .ok (.pointer (some ⟨b, off + i, none⟩)) w := by
  rw [run_indexAt_slice (h := elemNum), if_pos ⟨by omega, by omega⟩, elemNum2, run_sizeOf12 sizeNum]
  simp [Result.andThen, Addr.add_lit]
/-- a row of records among the arguments, as the table's law reads it -/
theorem open_inos {H : Type} {enc : TypeId × Value → H} {W : World} {a : Option Addr} {len cap : Nat} {d : DataW H} {p : List MemPlace} {fuel : Nat}
    (hf : DataW.trod enc Tryd.prog W 0 (fun _ => true) true fuel 38 [.slice a len cap] = some (d, p)) (hz : ∀ n ∈ d.weights Tryd.prog 38, n ≤ reachBytes) :
    len ≤ 1000000000000000 ∧ ∃ Ls : Nat → Nat → Int, (∀ i j, -9223372036854775808 ≤ Ls i j ∧ Ls i j ≤ 9223372036854775807) ∧ ∀ i, i < len → ∃ b o, (∀ w, (Instr.indexAt 38 (.slice a len cap) (.int .i64 (i : Int))).run Tryd.prog w = .ok (.pointer (some ⟨b, o + i * 15, none⟩)) w) ∧ ∀ j, j < 15 → W.cell? ⟨b, o + i * 15 + j, none⟩ = some (.int .i64 (Ls i j)) := by
  rcases Deep.open_slice Tryd.underlying38 hf with ⟨hcs, _⟩ | ⟨x, len', cap', m, n, D, Pl, hcs, _, hl, hm, hmm, hx, hel⟩
  · simp at hcs
    obtain ⟨rfl, rfl, rfl⟩ := hcs
    exact ⟨by omega, fun _ _ => 0, fun _ _ => by simp, fun i hi => absurd hi (Nat.not_lt_zero _)⟩
  · simp only [List.cons.injEq, Value.slice.injEq, and_true] at hcs
    obtain ⟨rfl, rfl, rfl⟩ := hcs
    simp only [Prod.mk.injEq] at hx
    obtain ⟨rfl, _⟩ := hx
    simp only [if_true] at hmm
    subst hmm
    have hlen : len ≤ 1000000000000000 := by
      have h2 := hz ((((List.range len).map D).length + ((List.range (m - len)).map fun j => D (len + j)).length) * Tryd.prog.bytesOf 24) (by simp [DataW.weights, Tryd.underlying38])
      rw [bytesIno] at h2
      simp [reachBytes] at h2
      omega
    have hex : ∀ i, ∃ r : Nat → Int, (∀ j, -9223372036854775808 ≤ r j ∧ r j ≤ 9223372036854775807) ∧ (i < len → ∀ j, j < 15 → W.cell? ((x.add (i * 15)).add j) = some (.int .i64 (r j))) := by
      intro i
      by_cases hi : i < len
      · obtain ⟨cs', hc1, hc2⟩ := hel i (by omega)
        rw [cellsIno] at hc1
        obtain ⟨r, rfl, hr⟩ := open_inoC hc2
        obtain ⟨_, _, hcell⟩ := World.cells?_some hc1
        refine ⟨r, hr, fun _ j hj => ?_⟩
        have h9 := hcell j hj
        rw [h9]
        rcases (show j = 0 ∨ j = 1 ∨ j = 2 ∨ j = 3 ∨ j = 4 ∨ j = 5 ∨ j = 6 ∨ j = 7 ∨ j = 8 ∨ j = 9 ∨ j = 10 ∨ j = 11 ∨ j = 12 ∨ j = 13 ∨ j = 14 by omega) with rfl | rfl | rfl | rfl | rfl | rfl | rfl | rfl | rfl | rfl | rfl | rfl | rfl | rfl | rfl <;> rfl
      · exact ⟨fun _ => 0, fun _ => by simp, fun h => absurd h hi⟩
    obtain ⟨Ls, hLs⟩ := Classical.axiomOfChoice hex
    refine ⟨hlen, Ls, fun i j => (hLs i).1 j, fun i hi => ?_⟩
    have h1 := (hLs i).2 hi
    have c0 := (hLs 0).2 (by omega) 0 (by omega)
    obtain ⟨b, off, spot⟩ := x
    have hspot : spot = none := by
      have := World.cell?_spot (w := W) (show W.cell? _ = some _ from c0)
      simpa [Addr.add] using this
    subst hspot
    refine ⟨b, off, fun w => idx_ino w b off _ _ i hi, fun j hj => ?_⟩
    have h2 := h1 j hj
    rw [Addr.add_lit, Addr.add_lit] at h2
    exact h2
/-- a row of numbers among the arguments, as the table's law reads it -/
theorem nums12 {W : World} {a : Option Addr} {l : List Int} {len cap : Nat} (hl : l.length = len) (hI : Ints W a l) : ∀ i, i < len → ∃ b o, (∀ w, (Instr.indexAt 39 (.slice a len cap) (.int .i64 (i : Int))).run Tryd.prog w = .ok (.pointer (some ⟨b, o + i, none⟩)) w) ∧ W.cell? ⟨b, o + i, none⟩ = some (.int .i64 (nth l i)) := by
  intro i hi
  rcases hI.at_ with h | ⟨b, off, rfl, h⟩
  · rw [h] at hl; simp at hl; omega
  · exact ⟨b, off, fun w => idx_num w b off len cap i hi, h i (by omega)⟩
end Go.Proofs.YtleakaddlgpamaaDoor

namespace Go.Proofs.YtleakaddlgpamaaDoor
open Go.RowKit Rec

theorem res_row9 {fn : Func} {p : Tmp} {ty : TypeId} (h : fn.results = #[.cell p ty]) (tmps : Array Value) (w : World) (g : Nat) (cs : Array Value)
    (hp : tmps.getD p undef = .pointer (some ⟨g, 0, none⟩)) (hl : (loadVar ty ⟨g, 0, none⟩).run Tryd.prog w = .ok (.agg cs) w) :
    (results fn tmps).run Tryd.prog w = .ok (.agg cs) w := by
  have e : (results fn tmps).run Tryd.prog w = ((asAddr (tmps.getD p undef)).run Tryd.prog w).andThen fun a w₁ => (loadVar ty a).run Tryd.prog w₁ := by
    simp only [results, h]
    simp [Sem.run_bind, Result.andThen]
  rw [e, hp]
  simp [asAddr, hl]
theorem res_tmp_row {fn : Func} {p u : Tmp} {ty : TypeId} (h : fn.results = #[.tmp u, .cell p ty]) (tmps : Array Value) (w : World) (g : Nat) (cs : Array Value)
    (hp : tmps.getD p undef = .pointer (some ⟨g, 0, none⟩)) (hl : (loadVar ty ⟨g, 0, none⟩).run Tryd.prog w = .ok (.agg cs) w) :
    (results fn tmps).run Tryd.prog w = .ok (.tuple #[tmps.getD u undef, .agg cs]) w := by
  have e : (results fn tmps).run Tryd.prog w = ((asAddr (tmps.getD p undef)).run Tryd.prog w).andThen fun a w₁ => ((loadVar ty a).run Tryd.prog w₁).andThen fun v w₂ => .ok (.tuple #[tmps.getD u undef, v]) w₂ := by
    simp only [results, h]
    simp [Sem.run_bind, Result.andThen]
  rw [e, hp]
  simp [asAddr, hl]
end Go.Proofs.YtleakaddlgpamaaDoor

namespace Go.Proofs.YtleakaddlgpamaaDoor
open Go.RowKit Rec

set_option maxRecDepth 100000 in
theorem set12 (w : World) (p : Nat) (u0 u1 u2 u3 u4 u5 u6 u7 u8 u9 u10 u11 v0 v1 v2 v3 v4 v5 v6 v7 v8 v9 v10 v11 : Value) (h : w.heap[p]? = some (.cells #[u0, u1, u2, u3, u4, u5, u6, u7, u8, u9, u10, u11] 67 (0, 0))) : ((((((((((((w.setCell ⟨p, 0, none⟩ v0).setCell ⟨p, 1, none⟩ v1).setCell ⟨p, 2, none⟩ v2).setCell ⟨p, 3, none⟩ v3).setCell ⟨p, 4, none⟩ v4).setCell ⟨p, 5, none⟩ v5).setCell ⟨p, 6, none⟩ v6).setCell ⟨p, 7, none⟩ v7).setCell ⟨p, 8, none⟩ v8).setCell ⟨p, 9, none⟩ v9).setCell ⟨p, 10, none⟩ v10).setCell ⟨p, 11, none⟩ v11).heap[p]? = some (.cells #[v0, v1, v2, v3, v4, v5, v6, v7, v8, v9, v10, v11] 67 (0, 0)) := by
  have h0 : (w.setCell ⟨p, 0, none⟩ v0).heap[p]? = some (.cells #[v0, u1, u2, u3, u4, u5, u6, u7, u8, u9, u10, u11] 67 (0, 0)) := by have := heap_setCell_same _ p 0 _ _ v0 h; simpa using this
  have h1 : ((w.setCell ⟨p, 0, none⟩ v0).setCell ⟨p, 1, none⟩ v1).heap[p]? = some (.cells #[v0, v1, u2, u3, u4, u5, u6, u7, u8, u9, u10, u11] 67 (0, 0)) := by have := heap_setCell_same _ p 1 _ _ v1 h0; simpa using this
  have h2 : (((w.setCell ⟨p, 0, none⟩ v0).setCell ⟨p, 1, none⟩ v1).setCell ⟨p, 2, none⟩ v2).heap[p]? = some (.cells #[v0, v1, v2, u3, u4, u5, u6, u7, u8, u9, u10, u11] 67 (0, 0)) := by have := heap_setCell_same _ p 2 _ _ v2 h1; simpa using this
  have h3 : ((((w.setCell ⟨p, 0, none⟩ v0).setCell ⟨p, 1, none⟩ v1).setCell ⟨p, 2, none⟩ v2).setCell ⟨p, 3, none⟩ v3).heap[p]? = some (.cells #[v0, v1, v2, v3, u4, u5, u6, u7, u8, u9, u10, u11] 67 (0, 0)) := by have := heap_setCell_same _ p 3 _ _ v3 h2; simpa using this
  have h4 : (((((w.setCell ⟨p, 0, none⟩ v0).setCell ⟨p, 1, none⟩ v1).setCell ⟨p, 2, none⟩ v2).setCell ⟨p, 3, none⟩ v3).setCell ⟨p, 4, none⟩ v4).heap[p]? = some (.cells #[v0, v1, v2, v3, v4, u5, u6, u7, u8, u9, u10, u11] 67 (0, 0)) := by have := heap_setCell_same _ p 4 _ _ v4 h3; simpa using this
  have h5 : ((((((w.setCell ⟨p, 0, none⟩ v0).setCell ⟨p, 1, none⟩ v1).setCell ⟨p, 2, none⟩ v2).setCell ⟨p, 3, none⟩ v3).setCell ⟨p, 4, none⟩ v4).setCell ⟨p, 5, none⟩ v5).heap[p]? = some (.cells #[v0, v1, v2, v3, v4, v5, u6, u7, u8, u9, u10, u11] 67 (0, 0)) := by have := heap_setCell_same _ p 5 _ _ v5 h4; simpa using this
  have h6 : (((((((w.setCell ⟨p, 0, none⟩ v0).setCell ⟨p, 1, none⟩ v1).setCell ⟨p, 2, none⟩ v2).setCell ⟨p, 3, none⟩ v3).setCell ⟨p, 4, none⟩ v4).setCell ⟨p, 5, none⟩ v5).setCell ⟨p, 6, none⟩ v6).heap[p]? = some (.cells #[v0, v1, v2, v3, v4, v5, v6, u7, u8, u9, u10, u11] 67 (0, 0)) := by have := heap_setCell_same _ p 6 _ _ v6 h5; simpa using this
  have h7 : ((((((((w.setCell ⟨p, 0, none⟩ v0).setCell ⟨p, 1, none⟩ v1).setCell ⟨p, 2, none⟩ v2).setCell ⟨p, 3, none⟩ v3).setCell ⟨p, 4, none⟩ v4).setCell ⟨p, 5, none⟩ v5).setCell ⟨p, 6, none⟩ v6).setCell ⟨p, 7, none⟩ v7).heap[p]? = some (.cells #[v0, v1, v2, v3, v4, v5, v6, v7, u8, u9, u10, u11] 67 (0, 0)) := by have := heap_setCell_same _ p 7 _ _ v7 h6; simpa using this
  have h8 : (((((((((w.setCell ⟨p, 0, none⟩ v0).setCell ⟨p, 1, none⟩ v1).setCell ⟨p, 2, none⟩ v2).setCell ⟨p, 3, none⟩ v3).setCell ⟨p, 4, none⟩ v4).setCell ⟨p, 5, none⟩ v5).setCell ⟨p, 6, none⟩ v6).setCell ⟨p, 7, none⟩ v7).setCell ⟨p, 8, none⟩ v8).heap[p]? = some (.cells #[v0, v1, v2, v3, v4, v5, v6, v7, v8, u9, u10, u11] 67 (0, 0)) := by have := heap_setCell_same _ p 8 _ _ v8 h7; simpa using this
  have h9 : ((((((((((w.setCell ⟨p, 0, none⟩ v0).setCell ⟨p, 1, none⟩ v1).setCell ⟨p, 2, none⟩ v2).setCell ⟨p, 3, none⟩ v3).setCell ⟨p, 4, none⟩ v4).setCell ⟨p, 5, none⟩ v5).setCell ⟨p, 6, none⟩ v6).setCell ⟨p, 7, none⟩ v7).setCell ⟨p, 8, none⟩ v8).setCell ⟨p, 9, none⟩ v9).heap[p]? = some (.cells #[v0, v1, v2, v3, v4, v5, v6, v7, v8, v9, u10, u11] 67 (0, 0)) := by have := heap_setCell_same _ p 9 _ _ v9 h8; simpa using this
  have h10 : (((((((((((w.setCell ⟨p, 0, none⟩ v0).setCell ⟨p, 1, none⟩ v1).setCell ⟨p, 2, none⟩ v2).setCell ⟨p, 3, none⟩ v3).setCell ⟨p, 4, none⟩ v4).setCell ⟨p, 5, none⟩ v5).setCell ⟨p, 6, none⟩ v6).setCell ⟨p, 7, none⟩ v7).setCell ⟨p, 8, none⟩ v8).setCell ⟨p, 9, none⟩ v9).setCell ⟨p, 10, none⟩ v10).heap[p]? = some (.cells #[v0, v1, v2, v3, v4, v5, v6, v7, v8, v9, v10, u11] 67 (0, 0)) := by have := heap_setCell_same _ p 10 _ _ v10 h9; simpa using this
  have h11 : ((((((((((((w.setCell ⟨p, 0, none⟩ v0).setCell ⟨p, 1, none⟩ v1).setCell ⟨p, 2, none⟩ v2).setCell ⟨p, 3, none⟩ v3).setCell ⟨p, 4, none⟩ v4).setCell ⟨p, 5, none⟩ v5).setCell ⟨p, 6, none⟩ v6).setCell ⟨p, 7, none⟩ v7).setCell ⟨p, 8, none⟩ v8).setCell ⟨p, 9, none⟩ v9).setCell ⟨p, 10, none⟩ v10).setCell ⟨p, 11, none⟩ v11).heap[p]? = some (.cells #[v0, v1, v2, v3, v4, v5, v6, v7, v8, v9, v10, v11] 67 (0, 0)) := by have := heap_setCell_same _ p 11 _ _ v11 h10; simpa using this
  exact h11
set_option maxRecDepth 100000 in
set_option maxHeartbeats 1600000 in
theorem load12 (w : World) (p : Nat) (v0 v1 v2 v3 v4 v5 v6 v7 v8 v9 v10 v11 : Int) (h : w.heap[p]? = some (.cells #[.int .i64 v0, .int .i64 v1, .int .i64 v2, .int .i64 v3, .int .i64 v4, .int .i64 v5, .int .i64 v6, .int .i64 v7, .int .i64 v8, .int .i64 v9, .int .i64 v10, .int .i64 v11] 67 (0, 0))) : (loadVar 67 ⟨p, 0, none⟩).run Tryd.prog w = .ok (.agg #[.int .i64 v0, .int .i64 v1, .int .i64 v2, .int .i64 v3, .int .i64 v4, .int .i64 v5, .int .i64 v6, .int .i64 v7, .int .i64 v8, .int .i64 v9, .int .i64 v10, .int .i64 v11]) w := by
  have c0 : w.cell? ⟨p, 0, none⟩ = some (.int .i64 v0) := cell_of_row _ _ 0 _ _ _ h
  have c1 : w.cell? ⟨p, 1, none⟩ = some (.int .i64 v1) := cell_of_row _ _ 1 _ _ _ h
  have c2 : w.cell? ⟨p, 2, none⟩ = some (.int .i64 v2) := cell_of_row _ _ 2 _ _ _ h
  have c3 : w.cell? ⟨p, 3, none⟩ = some (.int .i64 v3) := cell_of_row _ _ 3 _ _ _ h
  have c4 : w.cell? ⟨p, 4, none⟩ = some (.int .i64 v4) := cell_of_row _ _ 4 _ _ _ h
  have c5 : w.cell? ⟨p, 5, none⟩ = some (.int .i64 v5) := cell_of_row _ _ 5 _ _ _ h
  have c6 : w.cell? ⟨p, 6, none⟩ = some (.int .i64 v6) := cell_of_row _ _ 6 _ _ _ h
  have c7 : w.cell? ⟨p, 7, none⟩ = some (.int .i64 v7) := cell_of_row _ _ 7 _ _ _ h
  have c8 : w.cell? ⟨p, 8, none⟩ = some (.int .i64 v8) := cell_of_row _ _ 8 _ _ _ h
  have c9 : w.cell? ⟨p, 9, none⟩ = some (.int .i64 v9) := cell_of_row _ _ 9 _ _ _ h
  have c10 : w.cell? ⟨p, 10, none⟩ = some (.int .i64 v10) := cell_of_row _ _ 10 _ _ _ h
  have c11 : w.cell? ⟨p, 11, none⟩ = some (.int .i64 v11) := cell_of_row _ _ 11 _ _ _ h
  simp [go_sem, c0, c1, c2, c3, c4, c5, c6, c7, c8, c9, c10, c11]
set_option maxRecDepth 100000 in
theorem set15 (w : World) (p : Nat) (u0 u1 u2 u3 u4 u5 u6 u7 u8 u9 u10 u11 u12 u13 u14 v0 v1 v2 v3 v4 v5 v6 v7 v8 v9 v10 v11 v12 v13 v14 : Value) (h : w.heap[p]? = some (.cells #[u0, u1, u2, u3, u4, u5, u6, u7, u8, u9, u10, u11, u12, u13, u14] 24 (0, 0))) : (((((((((((((((w.setCell ⟨p, 0, none⟩ v0).setCell ⟨p, 1, none⟩ v1).setCell ⟨p, 2, none⟩ v2).setCell ⟨p, 3, none⟩ v3).setCell ⟨p, 4, none⟩ v4).setCell ⟨p, 5, none⟩ v5).setCell ⟨p, 6, none⟩ v6).setCell ⟨p, 7, none⟩ v7).setCell ⟨p, 8, none⟩ v8).setCell ⟨p, 9, none⟩ v9).setCell ⟨p, 10, none⟩ v10).setCell ⟨p, 11, none⟩ v11).setCell ⟨p, 12, none⟩ v12).setCell ⟨p, 13, none⟩ v13).setCell ⟨p, 14, none⟩ v14).heap[p]? = some (.cells #[v0, v1, v2, v3, v4, v5, v6, v7, v8, v9, v10, v11, v12, v13, v14] 24 (0, 0)) := by
  have h0 : (w.setCell ⟨p, 0, none⟩ v0).heap[p]? = some (.cells #[v0, u1, u2, u3, u4, u5, u6, u7, u8, u9, u10, u11, u12, u13, u14] 24 (0, 0)) := by have := heap_setCell_same _ p 0 _ _ v0 h; simpa using this
  have h1 : ((w.setCell ⟨p, 0, none⟩ v0).setCell ⟨p, 1, none⟩ v1).heap[p]? = some (.cells #[v0, v1, u2, u3, u4, u5, u6, u7, u8, u9, u10, u11, u12, u13, u14] 24 (0, 0)) := by have := heap_setCell_same _ p 1 _ _ v1 h0; simpa using this
  have h2 : (((w.setCell ⟨p, 0, none⟩ v0).setCell ⟨p, 1, none⟩ v1).setCell ⟨p, 2, none⟩ v2).heap[p]? = some (.cells #[v0, v1, v2, u3, u4, u5, u6, u7, u8, u9, u10, u11, u12, u13, u14] 24 (0, 0)) := by have := heap_setCell_same _ p 2 _ _ v2 h1; simpa using this
  have h3 : ((((w.setCell ⟨p, 0, none⟩ v0).setCell ⟨p, 1, none⟩ v1).setCell ⟨p, 2, none⟩ v2).setCell ⟨p, 3, none⟩ v3).heap[p]? = some (.cells #[v0, v1, v2, v3, u4, u5, u6, u7, u8, u9, u10, u11, u12, u13, u14] 24 (0, 0)) := by have := heap_setCell_same _ p 3 _ _ v3 h2; simpa using this
  have h4 : (((((w.setCell ⟨p, 0, none⟩ v0).setCell ⟨p, 1, none⟩ v1).setCell ⟨p, 2, none⟩ v2).setCell ⟨p, 3, none⟩ v3).setCell ⟨p, 4, none⟩ v4).heap[p]? = some (.cells #[v0, v1, v2, v3, v4, u5, u6, u7, u8, u9, u10, u11, u12, u13, u14] 24 (0, 0)) := by have := heap_setCell_same _ p 4 _ _ v4 h3; simpa using this
  have h5 : ((((((w.setCell ⟨p, 0, none⟩ v0).setCell ⟨p, 1, none⟩ v1).setCell ⟨p, 2, none⟩ v2).setCell ⟨p, 3, none⟩ v3).setCell ⟨p, 4, none⟩ v4).setCell ⟨p, 5, none⟩ v5).heap[p]? = some (.cells #[v0, v1, v2, v3, v4, v5, u6, u7, u8, u9, u10, u11, u12, u13, u14] 24 (0, 0)) := by have := heap_setCell_same _ p 5 _ _ v5 h4; simpa using this
  have h6 : (((((((w.setCell ⟨p, 0, none⟩ v0).setCell ⟨p, 1, none⟩ v1).setCell ⟨p, 2, none⟩ v2).setCell ⟨p, 3, none⟩ v3).setCell ⟨p, 4, none⟩ v4).setCell ⟨p, 5, none⟩ v5).setCell ⟨p, 6, none⟩ v6).heap[p]? = some (.cells #[v0, v1, v2, v3, v4, v5, v6, u7, u8, u9, u10, u11, u12, u13, u14] 24 (0, 0)) := by have := heap_setCell_same _ p 6 _ _ v6 h5; simpa using this
  have h7 : ((((((((w.setCell ⟨p, 0, none⟩ v0).setCell ⟨p, 1, none⟩ v1).setCell ⟨p, 2, none⟩ v2).setCell ⟨p, 3, none⟩ v3).setCell ⟨p, 4, none⟩ v4).setCell ⟨p, 5, none⟩ v5).setCell ⟨p, 6, none⟩ v6).setCell ⟨p, 7, none⟩ v7).heap[p]? = some (.cells #[v0, v1, v2, v3, v4, v5, v6, v7, u8, u9, u10, u11, u12, u13, u14] 24 (0, 0)) := by have := heap_setCell_same _ p 7 _ _ v7 h6; simpa using this
  have h8 : (((((((((w.setCell ⟨p, 0, none⟩ v0).setCell ⟨p, 1, none⟩ v1).setCell ⟨p, 2, none⟩ v2).setCell ⟨p, 3, none⟩ v3).setCell ⟨p, 4, none⟩ v4).setCell ⟨p, 5, none⟩ v5).setCell ⟨p, 6, none⟩ v6).setCell ⟨p, 7, none⟩ v7).setCell ⟨p, 8, none⟩ v8).heap[p]? = some (.cells #[v0, v1, v2, v3, v4, v5, v6, v7, v8, u9, u10, u11, u12, u13, u14] 24 (0, 0)) := by have := heap_setCell_same _ p 8 _ _ v8 h7; simpa using this
  have h9 : ((((((((((w.setCell ⟨p, 0, none⟩ v0).setCell ⟨p, 1, none⟩ v1).setCell ⟨p, 2, none⟩ v2).setCell ⟨p, 3, none⟩ v3).setCell ⟨p, 4, none⟩ v4).setCell ⟨p, 5, none⟩ v5).setCell ⟨p, 6, none⟩ v6).setCell ⟨p, 7, none⟩ v7).setCell ⟨p, 8, none⟩ v8).setCell ⟨p, 9, none⟩ v9).heap[p]? = some (.cells #[v0, v1, v2, v3, v4, v5, v6, v7, v8, v9, u10, u11, u12, u13, u14] 24 (0, 0)) := by have := heap_setCell_same _ p 9 _ _ v9 h8; simpa using this
  have h10 : (((((((((((w.setCell ⟨p, 0, none⟩ v0).setCell ⟨p, 1, none⟩ v1).setCell ⟨p, 2, none⟩ v2).setCell ⟨p, 3, none⟩ v3).setCell ⟨p, 4, none⟩ v4).setCell ⟨p, 5, none⟩ v5).setCell ⟨p, 6, none⟩ v6).setCell ⟨p, 7, none⟩ v7).setCell ⟨p, 8, none⟩ v8).setCell ⟨p, 9, none⟩ v9).setCell ⟨p, 10, none⟩ v10).heap[p]? = some (.cells #[v0, v1, v2, v3, v4, v5, v6, v7, v8, v9, v10, u11, u12, u13, u14] 24 (0, 0)) := by have := heap_setCell_same _ p 10 _ _ v10 h9; simpa using this
  have h11 : ((((((((((((w.setCell ⟨p, 0, none⟩ v0).setCell ⟨p, 1, none⟩ v1).setCell ⟨p, 2, none⟩ v2).setCell ⟨p, 3, none⟩ v3).setCell ⟨p, 4, none⟩ v4).setCell ⟨p, 5, none⟩ v5).setCell ⟨p, 6, none⟩ v6).setCell ⟨p, 7, none⟩ v7).setCell ⟨p, 8, none⟩ v8).setCell ⟨p, 9, none⟩ v9).setCell ⟨p, 10, none⟩ v10).setCell ⟨p, 11, none⟩ v11).heap[p]? = some (.cells #[v0, v1, v2, v3, v4, v5, v6, v7, v8, v9, v10, v11, u12, u13, u14] 24 (0, 0)) := by have := heap_setCell_same _ p 11 _ _ v11 h10; simpa using this
  have h12 : (((((((((((((w.setCell ⟨p, 0, none⟩ v0).setCell ⟨p, 1, none⟩ v1).setCell ⟨p, 2, none⟩ v2).setCell ⟨p, 3, none⟩ v3).setCell ⟨p, 4, none⟩ v4).setCell ⟨p, 5, none⟩ v5).setCell ⟨p, 6, none⟩ v6).setCell ⟨p, 7, none⟩ v7).setCell ⟨p, 8, none⟩ v8).setCell ⟨p, 9, none⟩ v9).setCell ⟨p, 10, none⟩ v10).setCell ⟨p, 11, none⟩ v11).setCell ⟨p, 12, none⟩ v12).heap[p]? = some (.cells #[v0, v1, v2, v3, v4, v5, v6, v7, v8, v9, v10, v11, v12, u13, u14] 24 (0, 0)) := by have := heap_setCell_same _ p 12 _ _ v12 h11; simpa using this
  have h13 : ((((((((((((((w.setCell ⟨p, 0, none⟩ v0).setCell ⟨p, 1, none⟩ v1).setCell ⟨p, 2, none⟩ v2).setCell ⟨p, 3, none⟩ v3).setCell ⟨p, 4, none⟩ v4).setCell ⟨p, 5, none⟩ v5).setCell ⟨p, 6, none⟩ v6).setCell ⟨p, 7, none⟩ v7).setCell ⟨p, 8, none⟩ v8).setCell ⟨p, 9, none⟩ v9).setCell ⟨p, 10, none⟩ v10).setCell ⟨p, 11, none⟩ v11).setCell ⟨p, 12, none⟩ v12).setCell ⟨p, 13, none⟩ v13).heap[p]? = some (.cells #[v0, v1, v2, v3, v4, v5, v6, v7, v8, v9, v10, v11, v12, v13, u14] 24 (0, 0)) := by have := heap_setCell_same _ p 13 _ _ v13 h12; simpa using this
  have h14 : (((((((((((((((w.setCell ⟨p, 0, none⟩ v0).setCell ⟨p, 1, none⟩ v1).setCell ⟨p, 2, none⟩ v2).setCell ⟨p, 3, none⟩ v3).setCell ⟨p, 4, none⟩ v4).setCell ⟨p, 5, none⟩ v5).setCell ⟨p, 6, none⟩ v6).setCell ⟨p, 7, none⟩ v7).setCell ⟨p, 8, none⟩ v8).setCell ⟨p, 9, none⟩ v9).setCell ⟨p, 10, none⟩ v10).setCell ⟨p, 11, none⟩ v11).setCell ⟨p, 12, none⟩ v12).setCell ⟨p, 13, none⟩ v13).setCell ⟨p, 14, none⟩ v14).heap[p]? = some (.cells #[v0, v1, v2, v3, v4, v5, v6, v7, v8, v9, v10, v11, v12, v13, v14] 24 (0, 0)) := by have := heap_setCell_same _ p 14 _ _ v14 h13; simpa using this
  exact h14
set_option maxRecDepth 100000 in
set_option maxHeartbeats 1600000 in
theorem load15 (w : World) (p : Nat) (v0 v1 v2 v3 v4 v5 v6 v7 v8 v9 v10 v11 v12 v13 v14 : Int) (h : w.heap[p]? = some (.cells #[.int .i64 v0, .int .i64 v1, .int .i64 v2, .int .i64 v3, .int .i64 v4, .int .i64 v5, .int .i64 v6, .int .i64 v7, .int .i64 v8, .int .i64 v9, .int .i64 v10, .int .i64 v11, .int .i64 v12, .int .i64 v13, .int .i64 v14] 24 (0, 0))) : (loadVar 24 ⟨p, 0, none⟩).run Tryd.prog w = .ok (.agg #[.int .i64 v0, .int .i64 v1, .int .i64 v2, .int .i64 v3, .int .i64 v4, .int .i64 v5, .int .i64 v6, .int .i64 v7, .int .i64 v8, .int .i64 v9, .int .i64 v10, .int .i64 v11, .int .i64 v12, .int .i64 v13, .int .i64 v14]) w := by
  have c0 : w.cell? ⟨p, 0, none⟩ = some (.int .i64 v0) := cell_of_row _ _ 0 _ _ _ h
  have c1 : w.cell? ⟨p, 1, none⟩ = some (.int .i64 v1) := cell_of_row _ _ 1 _ _ _ h
  have c2 : w.cell? ⟨p, 2, none⟩ = some (.int .i64 v2) := cell_of_row _ _ 2 _ _ _ h
  have c3 : w.cell? ⟨p, 3, none⟩ = some (.int .i64 v3) := cell_of_row _ _ 3 _ _ _ h
  have c4 : w.cell? ⟨p, 4, none⟩ = some (.int .i64 v4) := cell_of_row _ _ 4 _ _ _ h
  have c5 : w.cell? ⟨p, 5, none⟩ = some (.int .i64 v5) := cell_of_row _ _ 5 _ _ _ h
  have c6 : w.cell? ⟨p, 6, none⟩ = some (.int .i64 v6) := cell_of_row _ _ 6 _ _ _ h
  have c7 : w.cell? ⟨p, 7, none⟩ = some (.int .i64 v7) := cell_of_row _ _ 7 _ _ _ h
  have c8 : w.cell? ⟨p, 8, none⟩ = some (.int .i64 v8) := cell_of_row _ _ 8 _ _ _ h
  have c9 : w.cell? ⟨p, 9, none⟩ = some (.int .i64 v9) := cell_of_row _ _ 9 _ _ _ h
  have c10 : w.cell? ⟨p, 10, none⟩ = some (.int .i64 v10) := cell_of_row _ _ 10 _ _ _ h
  have c11 : w.cell? ⟨p, 11, none⟩ = some (.int .i64 v11) := cell_of_row _ _ 11 _ _ _ h
  have c12 : w.cell? ⟨p, 12, none⟩ = some (.int .i64 v12) := cell_of_row _ _ 12 _ _ _ h
  have c13 : w.cell? ⟨p, 13, none⟩ = some (.int .i64 v13) := cell_of_row _ _ 13 _ _ _ h
  have c14 : w.cell? ⟨p, 14, none⟩ = some (.int .i64 v14) := cell_of_row _ _ 14 _ _ _ h
  simp [go_sem, c0, c1, c2, c3, c4, c5, c6, c7, c8, c9, c10, c11, c12, c13, c14]
end Go.Proofs.YtleakaddlgpamaaDoor

namespace Go.Proofs.YtleakaddlgpamaaDoor
open Go.RowKit Rec

theorem Ints.some {w : World} {a : Option Addr} {l : List Int} (h : Ints w a l) (h0 : 0 < l.length) : ∃ b off, a = some ⟨b, off, none⟩ := by
  rcases h.at_ with e | ⟨b, off, e, _⟩
  · subst e; simp at h0
  · exact ⟨b, off, e⟩
theorem Data.some {w : World} {a : Option Addr} {l : List (List Int)} (h : Data w a l) (h0 : 0 < l.length) : ∃ b off, a = some ⟨b, off, none⟩ := by
  rcases h.at_ with e | ⟨b, off, e, _⟩
  · subst e; simp at h0
  · exact ⟨b, off, e⟩
theorem Bytes.some {w : World} {a : Option Addr} {l : List Int} (h : Bytes w a l) (h0 : 0 < l.length) : ∃ b off, a = some ⟨b, off, none⟩ := by
  rcases h.at_ with e | ⟨b, off, e, _⟩
  · subst e; simp at h0
  · exact ⟨b, off, e⟩
theorem has_of {v : Int} (W : Nat) (h : v < 256 ^ W) : has v W = true := decide_eq_true (by simpa using h)

end Go.Proofs.YtleakaddlgpamaaDoor

namespace Go.Proofs.YtleakaddlgpamaaDoor
open Go.RowKit Rec

/-- what Nums hands back -/
def NumsAt (w w' : World) (v : Value) (l : List Int) : Prop := (l = [] ∧ v = .slice none 0 0) ∨ ∃ g cap, v = .slice (some ⟨g, 0, none⟩) l.length cap ∧ OwnI w' g cap l ∧ w.heap.size ≤ g

end Go.Proofs.YtleakaddlgpamaaDoor
