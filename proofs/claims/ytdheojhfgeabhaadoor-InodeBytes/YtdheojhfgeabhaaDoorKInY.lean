import Derived.Test.YtdheojhfgeabhaaDoorInR0
import Derived.Deep.MidRow
import Derived.Test.YtdheojhfgeabhaaDoorKInZ
namespace Go.Proofs.YtdheojhfgeabhaaDoor
open Go.RowKit Go.Maps Rec

theorem sizeI15 : (Tryd.prog.info? 24).map (·.size) = some 15 := by kernel_rfl
theorem there15 (w : World) (X : Nat) (hr : w.heap[X]? = some (.cells #[.int .i64 0, .int .i64 0, .int .i64 0, .int .i64 0, .int .i64 0, .int .i64 0, .int .i64 0, .int .i64 0, .int .i64 0, .int .i64 0, .int .i64 0, .int .i64 0, .int .i64 0, .int .i64 0, .int .i64 0] 24 (0, 0))) : w.there X 0 15 := fun j hj => by
  refine ⟨?_, frozen_of_row _ _ _ _ _ hr⟩
  have h9 : j < 15 := hj
  rw [Nat.zero_add]
  rcases (show j = 0 ∨ j = 1 ∨ j = 2 ∨ j = 3 ∨ j = 4 ∨ j = 5 ∨ j = 6 ∨ j = 7 ∨ j = 8 ∨ j = 9 ∨ j = 10 ∨ j = 11 ∨ j = 12 ∨ j = 13 ∨ j = 14 by omega) with rfl | rfl | rfl | rfl | rfl | rfl | rfl | rfl | rfl | rfl | rfl | rfl | rfl | rfl | rfl
  · have := cell_of_row w X 0 _ _ _ hr
    have e : w.cell? ⟨X, 0, none⟩ = some (.int .i64 0) := this
    rw [e]; rfl
  · have := cell_of_row w X 1 _ _ _ hr
    have e : w.cell? ⟨X, 1, none⟩ = some (.int .i64 0) := this
    rw [e]; rfl
  · have := cell_of_row w X 2 _ _ _ hr
    have e : w.cell? ⟨X, 2, none⟩ = some (.int .i64 0) := this
    rw [e]; rfl
  · have := cell_of_row w X 3 _ _ _ hr
    have e : w.cell? ⟨X, 3, none⟩ = some (.int .i64 0) := this
    rw [e]; rfl
  · have := cell_of_row w X 4 _ _ _ hr
    have e : w.cell? ⟨X, 4, none⟩ = some (.int .i64 0) := this
    rw [e]; rfl
  · have := cell_of_row w X 5 _ _ _ hr
    have e : w.cell? ⟨X, 5, none⟩ = some (.int .i64 0) := this
    rw [e]; rfl
  · have := cell_of_row w X 6 _ _ _ hr
    have e : w.cell? ⟨X, 6, none⟩ = some (.int .i64 0) := this
    rw [e]; rfl
  · have := cell_of_row w X 7 _ _ _ hr
    have e : w.cell? ⟨X, 7, none⟩ = some (.int .i64 0) := this
    rw [e]; rfl
  · have := cell_of_row w X 8 _ _ _ hr
    have e : w.cell? ⟨X, 8, none⟩ = some (.int .i64 0) := this
    rw [e]; rfl
  · have := cell_of_row w X 9 _ _ _ hr
    have e : w.cell? ⟨X, 9, none⟩ = some (.int .i64 0) := this
    rw [e]; rfl
  · have := cell_of_row w X 10 _ _ _ hr
    have e : w.cell? ⟨X, 10, none⟩ = some (.int .i64 0) := this
    rw [e]; rfl
  · have := cell_of_row w X 11 _ _ _ hr
    have e : w.cell? ⟨X, 11, none⟩ = some (.int .i64 0) := this
    rw [e]; rfl
  · have := cell_of_row w X 12 _ _ _ hr
    have e : w.cell? ⟨X, 12, none⟩ = some (.int .i64 0) := this
    rw [e]; rfl
  · have := cell_of_row w X 13 _ _ _ hr
    have e : w.cell? ⟨X, 13, none⟩ = some (.int .i64 0) := this
    rw [e]; rfl
  · have := cell_of_row w X 14 _ _ _ hr
    have e : w.cell? ⟨X, 14, none⟩ = some (.int .i64 0) := this
    rw [e]; rfl
/-- a record stored whole into a box of the walk's own, as the walk's simp leaves it -/
theorem store15_run (wr w : World) (X : Nat) (v : Nat → Int) (hr : w.heap[X]? = some (.cells #[.int .i64 0, .int .i64 0, .int .i64 0, .int .i64 0, .int .i64 0, .int .i64 0, .int .i64 0, .int .i64 0, .int .i64 0, .int .i64 0, .int .i64 0, .int .i64 0, .int .i64 0, .int .i64 0, .int .i64 0] 24 (0, 0))) (hB : Below wr.heap.size wr w) (hX : wr.heap.size = X) :
    ∃ w6, (storeCells ⟨X, 0, none⟩ [.int .i64 (v 0), .int .i64 (v 1), .int .i64 (v 2), .int .i64 (v 3), .int .i64 (v 4), .int .i64 (v 5), .int .i64 (v 6), .int .i64 (v 7), .int .i64 (v 8), .int .i64 (v 9), .int .i64 (v 10), .int .i64 (v 11), .int .i64 (v 12), .int .i64 (v 13), .int .i64 (v 14)] 0).run Tryd.prog w = .ok () w6 ∧ (Instr.storeAt 24 (.pointer (some ⟨X, 0, none⟩)) (.agg #[.int .i64 (v 0), .int .i64 (v 1), .int .i64 (v 2), .int .i64 (v 3), .int .i64 (v 4), .int .i64 (v 5), .int .i64 (v 6), .int .i64 (v 7), .int .i64 (v 8), .int .i64 (v 9), .int .i64 (v 10), .int .i64 (v 11), .int .i64 (v 12), .int .i64 (v 13), .int .i64 (v 14)])).run Tryd.prog w = .ok () w6 ∧ Below wr.heap.size wr w6 ∧ w6.heap[X]? = some (.cells (inC v) 24 (0, 0)) := by
  have h1 : (#[.int .i64 (v 0), .int .i64 (v 1), .int .i64 (v 2), .int .i64 (v 3), .int .i64 (v 4), .int .i64 (v 5), .int .i64 (v 6), .int .i64 (v 7), .int .i64 (v 8), .int .i64 (v 9), .int .i64 (v 10), .int .i64 (v 11), .int .i64 (v 12), .int .i64 (v 13), .int .i64 (v 14)] : Array Value).all (·.oneCell') = true := by simp [Value.oneCell']
  refine ⟨w.setCells X 0 [.int .i64 (v 0), .int .i64 (v 1), .int .i64 (v 2), .int .i64 (v 3), .int .i64 (v 4), .int .i64 (v 5), .int .i64 (v 6), .int .i64 (v 7), .int .i64 (v 8), .int .i64 (v 9), .int .i64 (v 10), .int .i64 (v 11), .int .i64 (v 12), .int .i64 (v 13), .int .i64 (v 14)], ?_, run_storeAt_mid w X 0 24 #[.int .i64 (v 0), .int .i64 (v 1), .int .i64 (v 2), .int .i64 (v 3), .int .i64 (v 4), .int .i64 (v 5), .int .i64 (v 6), .int .i64 (v 7), .int .i64 (v 8), .int .i64 (v 9), .int .i64 (v 10), .int .i64 (v 11), .int .i64 (v 12), .int .i64 (v 13), .int .i64 (v 14)] (there15 w X hr) sizeI15 h1, ?_, ?_⟩
  · have := run_storeCells_cells (P := Tryd.prog) X 0 [.int .i64 (v 0), .int .i64 (v 1), .int .i64 (v 2), .int .i64 (v 3), .int .i64 (v 4), .int .i64 (v 5), .int .i64 (v 6), .int .i64 (v 7), .int .i64 (v 8), .int .i64 (v 9), .int .i64 (v 10), .int .i64 (v 11), .int .i64 (v 12), .int .i64 (v 13), .int .i64 (v 14)] 0 w (fun j hj => by simpa using (there15 w X hr j (by simpa using hj)).1) (fun j hj => by simpa using (there15 w X hr j (by simpa using hj)).2) (fun u hu => (Array.all_eq_true_iff_forall_mem.1 h1) u (by simpa using hu))
    exact this
  · show Below wr.heap.size wr (World.setCells w X 0 [.int .i64 (v 0), .int .i64 (v 1), .int .i64 (v 2), .int .i64 (v 3), .int .i64 (v 4), .int .i64 (v 5), .int .i64 (v 6), .int .i64 (v 7), .int .i64 (v 8), .int .i64 (v 9), .int .i64 (v 10), .int .i64 (v 11), .int .i64 (v 12), .int .i64 (v 13), .int .i64 (v 14)])
    simp only [World.setCells]
    (iterate 15 refine below_put ?_ (Nat.le_refl _) (Nat.le_of_eq hX))
    exact hB
  · show (World.setCells w X 0 [.int .i64 (v 0), .int .i64 (v 1), .int .i64 (v 2), .int .i64 (v 3), .int .i64 (v 4), .int .i64 (v 5), .int .i64 (v 6), .int .i64 (v 7), .int .i64 (v 8), .int .i64 (v 9), .int .i64 (v 10), .int .i64 (v 11), .int .i64 (v 12), .int .i64 (v 13), .int .i64 (v 14)]).heap[X]? = _
    simp only [World.setCells]
    exact set15 _ _ (.int .i64 0) (.int .i64 0) (.int .i64 0) (.int .i64 0) (.int .i64 0) (.int .i64 0) (.int .i64 0) (.int .i64 0) (.int .i64 0) (.int .i64 0) (.int .i64 0) (.int .i64 0) (.int .i64 0) (.int .i64 0) (.int .i64 0) (.int .i64 (v 0)) (.int .i64 (v 1)) (.int .i64 (v 2)) (.int .i64 (v 3)) (.int .i64 (v 4)) (.int .i64 (v 5)) (.int .i64 (v 6)) (.int .i64 (v 7)) (.int .i64 (v 8)) (.int .i64 (v 9)) (.int .i64 (v 10)) (.int .i64 (v 11)) (.int .i64 (v 12)) (.int .i64 (v 13)) (.int .i64 (v 14)) hr
/-- the same as one step of a region that draws -/
theorem step_store15 {ops : Array Oper} {o : Oper} {a : Act} {w w6 : World} {K : Act → World → Prop} {Q : Exit → Act → World → Prop} {E : Prop} (hg : o.guard = none) (x y : Operand) (ho : o.op = .store 24 x y) (X : Nat) (v : Nat → Int) (hx : a.eval x = .pointer (some ⟨X, 0, none⟩)) (hy : a.eval y = .agg #[.int .i64 (v 0), .int .i64 (v 1), .int .i64 (v 2), .int .i64 (v 3), .int .i64 (v 4), .int .i64 (v 5), .int .i64 (v 6), .int .i64 (v 7), .int .i64 (v 8), .int .i64 (v 9), .int .i64 (v 10), .int .i64 (v 11), .int .i64 (v 12), .int .i64 (v 13), .int .i64 (v 14)]) (hr : (Instr.storeAt 24 (.pointer (some ⟨X, 0, none⟩)) (.agg #[.int .i64 (v 0), .int .i64 (v 1), .int .i64 (v 2), .int .i64 (v 3), .int .i64 (v 4), .int .i64 (v 5), .int .i64 (v 6), .int .i64 (v 7), .int .i64 (v 8), .int .i64 (v 9), .int .i64 (v 10), .int .i64 (v 11), .int .i64 (v 12), .int .i64 (v 13), .int .i64 (v 14)])).run Tryd.prog w = .ok () w6) (hK : K (a.put o.dst undef) w6) : if Region.wanted o (yielded ops a.tmps) = true then Oper.wp Tryd.prog o a w K Q else E := by
  have hw : Region.wanted o (yielded ops a.tmps) = true := by simp [Region.wanted, hg]
  rw [if_pos hw]
  unfold Oper.wp execOp
  simp only [ho, hx, hy, Sem.run_bind, Sem.run_pure, Result.andThen_ok, hr]
  exact hK
/-- the worlds of such a store, one behind the other, each closed -/
theorem chain15 (wr w : World) (X : Nat) (v : Nat → Int) (hr : w.heap[X]? = some (.cells #[.int .i64 0, .int .i64 0, .int .i64 0, .int .i64 0, .int .i64 0, .int .i64 0, .int .i64 0, .int .i64 0, .int .i64 0, .int .i64 0, .int .i64 0, .int .i64 0, .int .i64 0, .int .i64 0, .int .i64 0] 24 (0, 0))) (hB : Below wr.heap.size wr w) (hX : wr.heap.size = X) :
    ∃ u1 u2 u3 u4 u5 u6 u7 u8 u9 u10 u11 u12 u13 u14 u15, w.cell? ⟨X, 0, none⟩ = some (.int .i64 0) ∧ w.frozen? ⟨X, 0, none⟩ = false ∧ w.setCell ⟨X, 0, none⟩ (.int .i64 (v 0)) = u1 ∧ u1.cell? ⟨X, 1, none⟩ = some (.int .i64 0) ∧ u1.frozen? ⟨X, 1, none⟩ = false ∧ u1.setCell ⟨X, 1, none⟩ (.int .i64 (v 1)) = u2 ∧ u2.cell? ⟨X, 2, none⟩ = some (.int .i64 0) ∧ u2.frozen? ⟨X, 2, none⟩ = false ∧ u2.setCell ⟨X, 2, none⟩ (.int .i64 (v 2)) = u3 ∧ u3.cell? ⟨X, 3, none⟩ = some (.int .i64 0) ∧ u3.frozen? ⟨X, 3, none⟩ = false ∧ u3.setCell ⟨X, 3, none⟩ (.int .i64 (v 3)) = u4 ∧ u4.cell? ⟨X, 4, none⟩ = some (.int .i64 0) ∧ u4.frozen? ⟨X, 4, none⟩ = false ∧ u4.setCell ⟨X, 4, none⟩ (.int .i64 (v 4)) = u5 ∧ u5.cell? ⟨X, 5, none⟩ = some (.int .i64 0) ∧ u5.frozen? ⟨X, 5, none⟩ = false ∧ u5.setCell ⟨X, 5, none⟩ (.int .i64 (v 5)) = u6 ∧ u6.cell? ⟨X, 6, none⟩ = some (.int .i64 0) ∧ u6.frozen? ⟨X, 6, none⟩ = false ∧ u6.setCell ⟨X, 6, none⟩ (.int .i64 (v 6)) = u7 ∧ u7.cell? ⟨X, 7, none⟩ = some (.int .i64 0) ∧ u7.frozen? ⟨X, 7, none⟩ = false ∧ u7.setCell ⟨X, 7, none⟩ (.int .i64 (v 7)) = u8 ∧ u8.cell? ⟨X, 8, none⟩ = some (.int .i64 0) ∧ u8.frozen? ⟨X, 8, none⟩ = false ∧ u8.setCell ⟨X, 8, none⟩ (.int .i64 (v 8)) = u9 ∧ u9.cell? ⟨X, 9, none⟩ = some (.int .i64 0) ∧ u9.frozen? ⟨X, 9, none⟩ = false ∧ u9.setCell ⟨X, 9, none⟩ (.int .i64 (v 9)) = u10 ∧ u10.cell? ⟨X, 10, none⟩ = some (.int .i64 0) ∧ u10.frozen? ⟨X, 10, none⟩ = false ∧ u10.setCell ⟨X, 10, none⟩ (.int .i64 (v 10)) = u11 ∧ u11.cell? ⟨X, 11, none⟩ = some (.int .i64 0) ∧ u11.frozen? ⟨X, 11, none⟩ = false ∧ u11.setCell ⟨X, 11, none⟩ (.int .i64 (v 11)) = u12 ∧ u12.cell? ⟨X, 12, none⟩ = some (.int .i64 0) ∧ u12.frozen? ⟨X, 12, none⟩ = false ∧ u12.setCell ⟨X, 12, none⟩ (.int .i64 (v 12)) = u13 ∧ u13.cell? ⟨X, 13, none⟩ = some (.int .i64 0) ∧ u13.frozen? ⟨X, 13, none⟩ = false ∧ u13.setCell ⟨X, 13, none⟩ (.int .i64 (v 13)) = u14 ∧ u14.cell? ⟨X, 14, none⟩ = some (.int .i64 0) ∧ u14.frozen? ⟨X, 14, none⟩ = false ∧ u14.setCell ⟨X, 14, none⟩ (.int .i64 (v 14)) = u15 ∧ Below wr.heap.size wr u15 ∧ u15.heap[X]? = some (.cells (inC v) 24 (0, 0)) := by
  obtain ⟨u1, e1⟩ : ∃ z, w.setCell ⟨X, 0, none⟩ (.int .i64 (v 0)) = z := ⟨_, rfl⟩
  have r1 : u1.heap[X]? = some (.cells #[.int .i64 (v 0), .int .i64 0, .int .i64 0, .int .i64 0, .int .i64 0, .int .i64 0, .int .i64 0, .int .i64 0, .int .i64 0, .int .i64 0, .int .i64 0, .int .i64 0, .int .i64 0, .int .i64 0, .int .i64 0] 24 (0, 0)) := by have := heap_setCell_same _ X 0 _ _ (.int .i64 (v 0)) hr; rw [e1] at this; simpa using this
  have b1 : Below wr.heap.size wr u1 := by rw [← e1]; exact below_put hB (Nat.le_refl _) (Nat.le_of_eq hX)
  obtain ⟨u2, e2⟩ : ∃ z, u1.setCell ⟨X, 1, none⟩ (.int .i64 (v 1)) = z := ⟨_, rfl⟩
  have r2 : u2.heap[X]? = some (.cells #[.int .i64 (v 0), .int .i64 (v 1), .int .i64 0, .int .i64 0, .int .i64 0, .int .i64 0, .int .i64 0, .int .i64 0, .int .i64 0, .int .i64 0, .int .i64 0, .int .i64 0, .int .i64 0, .int .i64 0, .int .i64 0] 24 (0, 0)) := by have := heap_setCell_same _ X 1 _ _ (.int .i64 (v 1)) r1; rw [e2] at this; simpa using this
  have b2 : Below wr.heap.size wr u2 := by rw [← e2]; exact below_put b1 (Nat.le_refl _) (Nat.le_of_eq hX)
  obtain ⟨u3, e3⟩ : ∃ z, u2.setCell ⟨X, 2, none⟩ (.int .i64 (v 2)) = z := ⟨_, rfl⟩
  have r3 : u3.heap[X]? = some (.cells #[.int .i64 (v 0), .int .i64 (v 1), .int .i64 (v 2), .int .i64 0, .int .i64 0, .int .i64 0, .int .i64 0, .int .i64 0, .int .i64 0, .int .i64 0, .int .i64 0, .int .i64 0, .int .i64 0, .int .i64 0, .int .i64 0] 24 (0, 0)) := by have := heap_setCell_same _ X 2 _ _ (.int .i64 (v 2)) r2; rw [e3] at this; simpa using this
  have b3 : Below wr.heap.size wr u3 := by rw [← e3]; exact below_put b2 (Nat.le_refl _) (Nat.le_of_eq hX)
  obtain ⟨u4, e4⟩ : ∃ z, u3.setCell ⟨X, 3, none⟩ (.int .i64 (v 3)) = z := ⟨_, rfl⟩
  have r4 : u4.heap[X]? = some (.cells #[.int .i64 (v 0), .int .i64 (v 1), .int .i64 (v 2), .int .i64 (v 3), .int .i64 0, .int .i64 0, .int .i64 0, .int .i64 0, .int .i64 0, .int .i64 0, .int .i64 0, .int .i64 0, .int .i64 0, .int .i64 0, .int .i64 0] 24 (0, 0)) := by have := heap_setCell_same _ X 3 _ _ (.int .i64 (v 3)) r3; rw [e4] at this; simpa using this
  have b4 : Below wr.heap.size wr u4 := by rw [← e4]; exact below_put b3 (Nat.le_refl _) (Nat.le_of_eq hX)
  obtain ⟨u5, e5⟩ : ∃ z, u4.setCell ⟨X, 4, none⟩ (.int .i64 (v 4)) = z := ⟨_, rfl⟩
  have r5 : u5.heap[X]? = some (.cells #[.int .i64 (v 0), .int .i64 (v 1), .int .i64 (v 2), .int .i64 (v 3), .int .i64 (v 4), .int .i64 0, .int .i64 0, .int .i64 0, .int .i64 0, .int .i64 0, .int .i64 0, .int .i64 0, .int .i64 0, .int .i64 0, .int .i64 0] 24 (0, 0)) := by have := heap_setCell_same _ X 4 _ _ (.int .i64 (v 4)) r4; rw [e5] at this; simpa using this
  have b5 : Below wr.heap.size wr u5 := by rw [← e5]; exact below_put b4 (Nat.le_refl _) (Nat.le_of_eq hX)
  obtain ⟨u6, e6⟩ : ∃ z, u5.setCell ⟨X, 5, none⟩ (.int .i64 (v 5)) = z := ⟨_, rfl⟩
  have r6 : u6.heap[X]? = some (.cells #[.int .i64 (v 0), .int .i64 (v 1), .int .i64 (v 2), .int .i64 (v 3), .int .i64 (v 4), .int .i64 (v 5), .int .i64 0, .int .i64 0, .int .i64 0, .int .i64 0, .int .i64 0, .int .i64 0, .int .i64 0, .int .i64 0, .int .i64 0] 24 (0, 0)) := by have := heap_setCell_same _ X 5 _ _ (.int .i64 (v 5)) r5; rw [e6] at this; simpa using this
  have b6 : Below wr.heap.size wr u6 := by rw [← e6]; exact below_put b5 (Nat.le_refl _) (Nat.le_of_eq hX)
  obtain ⟨u7, e7⟩ : ∃ z, u6.setCell ⟨X, 6, none⟩ (.int .i64 (v 6)) = z := ⟨_, rfl⟩
  have r7 : u7.heap[X]? = some (.cells #[.int .i64 (v 0), .int .i64 (v 1), .int .i64 (v 2), .int .i64 (v 3), .int .i64 (v 4), .int .i64 (v 5), .int .i64 (v 6), .int .i64 0, .int .i64 0, .int .i64 0, .int .i64 0, .int .i64 0, .int .i64 0, .int .i64 0, .int .i64 0] 24 (0, 0)) := by have := heap_setCell_same _ X 6 _ _ (.int .i64 (v 6)) r6; rw [e7] at this; simpa using this
  have b7 : Below wr.heap.size wr u7 := by rw [← e7]; exact below_put b6 (Nat.le_refl _) (Nat.le_of_eq hX)
  obtain ⟨u8, e8⟩ : ∃ z, u7.setCell ⟨X, 7, none⟩ (.int .i64 (v 7)) = z := ⟨_, rfl⟩
  have r8 : u8.heap[X]? = some (.cells #[.int .i64 (v 0), .int .i64 (v 1), .int .i64 (v 2), .int .i64 (v 3), .int .i64 (v 4), .int .i64 (v 5), .int .i64 (v 6), .int .i64 (v 7), .int .i64 0, .int .i64 0, .int .i64 0, .int .i64 0, .int .i64 0, .int .i64 0, .int .i64 0] 24 (0, 0)) := by have := heap_setCell_same _ X 7 _ _ (.int .i64 (v 7)) r7; rw [e8] at this; simpa using this
  have b8 : Below wr.heap.size wr u8 := by rw [← e8]; exact below_put b7 (Nat.le_refl _) (Nat.le_of_eq hX)
  obtain ⟨u9, e9⟩ : ∃ z, u8.setCell ⟨X, 8, none⟩ (.int .i64 (v 8)) = z := ⟨_, rfl⟩
  have r9 : u9.heap[X]? = some (.cells #[.int .i64 (v 0), .int .i64 (v 1), .int .i64 (v 2), .int .i64 (v 3), .int .i64 (v 4), .int .i64 (v 5), .int .i64 (v 6), .int .i64 (v 7), .int .i64 (v 8), .int .i64 0, .int .i64 0, .int .i64 0, .int .i64 0, .int .i64 0, .int .i64 0] 24 (0, 0)) := by have := heap_setCell_same _ X 8 _ _ (.int .i64 (v 8)) r8; rw [e9] at this; simpa using this
  have b9 : Below wr.heap.size wr u9 := by rw [← e9]; exact below_put b8 (Nat.le_refl _) (Nat.le_of_eq hX)
  obtain ⟨u10, e10⟩ : ∃ z, u9.setCell ⟨X, 9, none⟩ (.int .i64 (v 9)) = z := ⟨_, rfl⟩
  have r10 : u10.heap[X]? = some (.cells #[.int .i64 (v 0), .int .i64 (v 1), .int .i64 (v 2), .int .i64 (v 3), .int .i64 (v 4), .int .i64 (v 5), .int .i64 (v 6), .int .i64 (v 7), .int .i64 (v 8), .int .i64 (v 9), .int .i64 0, .int .i64 0, .int .i64 0, .int .i64 0, .int .i64 0] 24 (0, 0)) := by have := heap_setCell_same _ X 9 _ _ (.int .i64 (v 9)) r9; rw [e10] at this; simpa using this
  have b10 : Below wr.heap.size wr u10 := by rw [← e10]; exact below_put b9 (Nat.le_refl _) (Nat.le_of_eq hX)
  obtain ⟨u11, e11⟩ : ∃ z, u10.setCell ⟨X, 10, none⟩ (.int .i64 (v 10)) = z := ⟨_, rfl⟩
  have r11 : u11.heap[X]? = some (.cells #[.int .i64 (v 0), .int .i64 (v 1), .int .i64 (v 2), .int .i64 (v 3), .int .i64 (v 4), .int .i64 (v 5), .int .i64 (v 6), .int .i64 (v 7), .int .i64 (v 8), .int .i64 (v 9), .int .i64 (v 10), .int .i64 0, .int .i64 0, .int .i64 0, .int .i64 0] 24 (0, 0)) := by have := heap_setCell_same _ X 10 _ _ (.int .i64 (v 10)) r10; rw [e11] at this; simpa using this
  have b11 : Below wr.heap.size wr u11 := by rw [← e11]; exact below_put b10 (Nat.le_refl _) (Nat.le_of_eq hX)
  obtain ⟨u12, e12⟩ : ∃ z, u11.setCell ⟨X, 11, none⟩ (.int .i64 (v 11)) = z := ⟨_, rfl⟩
  have r12 : u12.heap[X]? = some (.cells #[.int .i64 (v 0), .int .i64 (v 1), .int .i64 (v 2), .int .i64 (v 3), .int .i64 (v 4), .int .i64 (v 5), .int .i64 (v 6), .int .i64 (v 7), .int .i64 (v 8), .int .i64 (v 9), .int .i64 (v 10), .int .i64 (v 11), .int .i64 0, .int .i64 0, .int .i64 0] 24 (0, 0)) := by have := heap_setCell_same _ X 11 _ _ (.int .i64 (v 11)) r11; rw [e12] at this; simpa using this
  have b12 : Below wr.heap.size wr u12 := by rw [← e12]; exact below_put b11 (Nat.le_refl _) (Nat.le_of_eq hX)
  obtain ⟨u13, e13⟩ : ∃ z, u12.setCell ⟨X, 12, none⟩ (.int .i64 (v 12)) = z := ⟨_, rfl⟩
  have r13 : u13.heap[X]? = some (.cells #[.int .i64 (v 0), .int .i64 (v 1), .int .i64 (v 2), .int .i64 (v 3), .int .i64 (v 4), .int .i64 (v 5), .int .i64 (v 6), .int .i64 (v 7), .int .i64 (v 8), .int .i64 (v 9), .int .i64 (v 10), .int .i64 (v 11), .int .i64 (v 12), .int .i64 0, .int .i64 0] 24 (0, 0)) := by have := heap_setCell_same _ X 12 _ _ (.int .i64 (v 12)) r12; rw [e13] at this; simpa using this
  have b13 : Below wr.heap.size wr u13 := by rw [← e13]; exact below_put b12 (Nat.le_refl _) (Nat.le_of_eq hX)
  obtain ⟨u14, e14⟩ : ∃ z, u13.setCell ⟨X, 13, none⟩ (.int .i64 (v 13)) = z := ⟨_, rfl⟩
  have r14 : u14.heap[X]? = some (.cells #[.int .i64 (v 0), .int .i64 (v 1), .int .i64 (v 2), .int .i64 (v 3), .int .i64 (v 4), .int .i64 (v 5), .int .i64 (v 6), .int .i64 (v 7), .int .i64 (v 8), .int .i64 (v 9), .int .i64 (v 10), .int .i64 (v 11), .int .i64 (v 12), .int .i64 (v 13), .int .i64 0] 24 (0, 0)) := by have := heap_setCell_same _ X 13 _ _ (.int .i64 (v 13)) r13; rw [e14] at this; simpa using this
  have b14 : Below wr.heap.size wr u14 := by rw [← e14]; exact below_put b13 (Nat.le_refl _) (Nat.le_of_eq hX)
  obtain ⟨u15, e15⟩ : ∃ z, u14.setCell ⟨X, 14, none⟩ (.int .i64 (v 14)) = z := ⟨_, rfl⟩
  have r15 : u15.heap[X]? = some (.cells #[.int .i64 (v 0), .int .i64 (v 1), .int .i64 (v 2), .int .i64 (v 3), .int .i64 (v 4), .int .i64 (v 5), .int .i64 (v 6), .int .i64 (v 7), .int .i64 (v 8), .int .i64 (v 9), .int .i64 (v 10), .int .i64 (v 11), .int .i64 (v 12), .int .i64 (v 13), .int .i64 (v 14)] 24 (0, 0)) := by have := heap_setCell_same _ X 14 _ _ (.int .i64 (v 14)) r14; rw [e15] at this; simpa using this
  have b15 : Below wr.heap.size wr u15 := by rw [← e15]; exact below_put b14 (Nat.le_refl _) (Nat.le_of_eq hX)
  exact ⟨u1, u2, u3, u4, u5, u6, u7, u8, u9, u10, u11, u12, u13, u14, u15, cell_of_row _ _ 0 _ _ _ hr, frozen_of_row _ _ _ _ _ hr, e1, cell_of_row _ _ 1 _ _ _ r1, frozen_of_row _ _ _ _ _ r1, e2, cell_of_row _ _ 2 _ _ _ r2, frozen_of_row _ _ _ _ _ r2, e3, cell_of_row _ _ 3 _ _ _ r3, frozen_of_row _ _ _ _ _ r3, e4, cell_of_row _ _ 4 _ _ _ r4, frozen_of_row _ _ _ _ _ r4, e5, cell_of_row _ _ 5 _ _ _ r5, frozen_of_row _ _ _ _ _ r5, e6, cell_of_row _ _ 6 _ _ _ r6, frozen_of_row _ _ _ _ _ r6, e7, cell_of_row _ _ 7 _ _ _ r7, frozen_of_row _ _ _ _ _ r7, e8, cell_of_row _ _ 8 _ _ _ r8, frozen_of_row _ _ _ _ _ r8, e9, cell_of_row _ _ 9 _ _ _ r9, frozen_of_row _ _ _ _ _ r9, e10, cell_of_row _ _ 10 _ _ _ r10, frozen_of_row _ _ _ _ _ r10, e11, cell_of_row _ _ 11 _ _ _ r11, frozen_of_row _ _ _ _ _ r11, e12, cell_of_row _ _ 12 _ _ _ r12, frozen_of_row _ _ _ _ _ r12, e13, cell_of_row _ _ 13 _ _ _ r13, frozen_of_row _ _ _ _ _ r13, e14, cell_of_row _ _ 14 _ _ _ r14, frozen_of_row _ _ _ _ _ r14, e15, b15, r15⟩
/-- the worlds of a record's laying into the law's row, each closed -/
theorem chainHv (w : World) (hb C : Nat) (G : Nat → Nat → Int) (k : Nat) (x : Nat → Int) (h : HvAt w hb C G) (hk : k < C) :
    ∃ u1 u2 u3 u4 u5 u6 u7 u8 u9 u10 u11 u12 u13 u14 u15, w.cell? ⟨hb, k * 15, none⟩ = some (.int .i64 (G k 0)) ∧ w.frozen? ⟨hb, k * 15, none⟩ = false ∧ w.setCell ⟨hb, k * 15, none⟩ (.int .i64 (x 0)) = u1 ∧ u1.cell? ⟨hb, k * 15 + 1, none⟩ = some (.int .i64 (G k 1)) ∧ u1.frozen? ⟨hb, k * 15 + 1, none⟩ = false ∧ u1.setCell ⟨hb, k * 15 + 1, none⟩ (.int .i64 (x 1)) = u2 ∧ u2.cell? ⟨hb, k * 15 + 2, none⟩ = some (.int .i64 (G k 2)) ∧ u2.frozen? ⟨hb, k * 15 + 2, none⟩ = false ∧ u2.setCell ⟨hb, k * 15 + 2, none⟩ (.int .i64 (x 2)) = u3 ∧ u3.cell? ⟨hb, k * 15 + 3, none⟩ = some (.int .i64 (G k 3)) ∧ u3.frozen? ⟨hb, k * 15 + 3, none⟩ = false ∧ u3.setCell ⟨hb, k * 15 + 3, none⟩ (.int .i64 (x 3)) = u4 ∧ u4.cell? ⟨hb, k * 15 + 4, none⟩ = some (.int .i64 (G k 4)) ∧ u4.frozen? ⟨hb, k * 15 + 4, none⟩ = false ∧ u4.setCell ⟨hb, k * 15 + 4, none⟩ (.int .i64 (x 4)) = u5 ∧ u5.cell? ⟨hb, k * 15 + 5, none⟩ = some (.int .i64 (G k 5)) ∧ u5.frozen? ⟨hb, k * 15 + 5, none⟩ = false ∧ u5.setCell ⟨hb, k * 15 + 5, none⟩ (.int .i64 (x 5)) = u6 ∧ u6.cell? ⟨hb, k * 15 + 6, none⟩ = some (.int .i64 (G k 6)) ∧ u6.frozen? ⟨hb, k * 15 + 6, none⟩ = false ∧ u6.setCell ⟨hb, k * 15 + 6, none⟩ (.int .i64 (x 6)) = u7 ∧ u7.cell? ⟨hb, k * 15 + 7, none⟩ = some (.int .i64 (G k 7)) ∧ u7.frozen? ⟨hb, k * 15 + 7, none⟩ = false ∧ u7.setCell ⟨hb, k * 15 + 7, none⟩ (.int .i64 (x 7)) = u8 ∧ u8.cell? ⟨hb, k * 15 + 8, none⟩ = some (.int .i64 (G k 8)) ∧ u8.frozen? ⟨hb, k * 15 + 8, none⟩ = false ∧ u8.setCell ⟨hb, k * 15 + 8, none⟩ (.int .i64 (x 8)) = u9 ∧ u9.cell? ⟨hb, k * 15 + 9, none⟩ = some (.int .i64 (G k 9)) ∧ u9.frozen? ⟨hb, k * 15 + 9, none⟩ = false ∧ u9.setCell ⟨hb, k * 15 + 9, none⟩ (.int .i64 (x 9)) = u10 ∧ u10.cell? ⟨hb, k * 15 + 10, none⟩ = some (.int .i64 (G k 10)) ∧ u10.frozen? ⟨hb, k * 15 + 10, none⟩ = false ∧ u10.setCell ⟨hb, k * 15 + 10, none⟩ (.int .i64 (x 10)) = u11 ∧ u11.cell? ⟨hb, k * 15 + 11, none⟩ = some (.int .i64 (G k 11)) ∧ u11.frozen? ⟨hb, k * 15 + 11, none⟩ = false ∧ u11.setCell ⟨hb, k * 15 + 11, none⟩ (.int .i64 (x 11)) = u12 ∧ u12.cell? ⟨hb, k * 15 + 12, none⟩ = some (.int .i64 (G k 12)) ∧ u12.frozen? ⟨hb, k * 15 + 12, none⟩ = false ∧ u12.setCell ⟨hb, k * 15 + 12, none⟩ (.int .i64 (x 12)) = u13 ∧ u13.cell? ⟨hb, k * 15 + 13, none⟩ = some (.int .i64 (G k 13)) ∧ u13.frozen? ⟨hb, k * 15 + 13, none⟩ = false ∧ u13.setCell ⟨hb, k * 15 + 13, none⟩ (.int .i64 (x 13)) = u14 ∧ u14.cell? ⟨hb, k * 15 + 14, none⟩ = some (.int .i64 (G k 14)) ∧ u14.frozen? ⟨hb, k * 15 + 14, none⟩ = false ∧ u14.setCell ⟨hb, k * 15 + 14, none⟩ (.int .i64 (x 14)) = u15 ∧ Fr (fun z => z = hb) w u15 ∧ HvAt u15 hb C (upR G k x) := by
  have r0 : HvAt w hb C (upJ G k x 0) := h.cong fun a b _ => by unfold upJ; rw [if_neg (by omega)]
  obtain ⟨u1, e1⟩ : ∃ z, w.setCell ⟨hb, k * 15, none⟩ (.int .i64 (x 0)) = z := ⟨_, rfl⟩
  have r1 : HvAt u1 hb C (upJ G k x 1) := by rw [← e1]; exact HvAt.set k 0 x r0 (by omega)
  have c0 : w.cell? ⟨hb, k * 15, none⟩ = some (.int .i64 (G k 0)) := by have := r0.cell k 0 hk (by omega); rw [show upJ G k x 0 k 0 = G k 0 by unfold upJ; rw [if_neg (by omega)]] at this; exact this
  have f0 : w.frozen? ⟨hb, k * 15, none⟩ = false := r0.frozen _
  have m1 : Fr (fun z => z = hb) w u1 := by rw [← e1]; exact Fr.set
  obtain ⟨u2, e2⟩ : ∃ z, u1.setCell ⟨hb, k * 15 + 1, none⟩ (.int .i64 (x 1)) = z := ⟨_, rfl⟩
  have r2 : HvAt u2 hb C (upJ G k x 2) := by rw [← e2]; exact HvAt.set k 1 x r1 (by omega)
  have c1 : u1.cell? ⟨hb, k * 15 + 1, none⟩ = some (.int .i64 (G k 1)) := by have := r1.cell k 1 hk (by omega); rw [show upJ G k x 1 k 1 = G k 1 by unfold upJ; rw [if_neg (by omega)]] at this; exact this
  have f1 : u1.frozen? ⟨hb, k * 15 + 1, none⟩ = false := r1.frozen _
  have m2 : Fr (fun z => z = hb) w u2 := by rw [← e2]; exact m1.trans Fr.set (fun _ h => .inl h)
  obtain ⟨u3, e3⟩ : ∃ z, u2.setCell ⟨hb, k * 15 + 2, none⟩ (.int .i64 (x 2)) = z := ⟨_, rfl⟩
  have r3 : HvAt u3 hb C (upJ G k x 3) := by rw [← e3]; exact HvAt.set k 2 x r2 (by omega)
  have c2 : u2.cell? ⟨hb, k * 15 + 2, none⟩ = some (.int .i64 (G k 2)) := by have := r2.cell k 2 hk (by omega); rw [show upJ G k x 2 k 2 = G k 2 by unfold upJ; rw [if_neg (by omega)]] at this; exact this
  have f2 : u2.frozen? ⟨hb, k * 15 + 2, none⟩ = false := r2.frozen _
  have m3 : Fr (fun z => z = hb) w u3 := by rw [← e3]; exact m2.trans Fr.set (fun _ h => .inl h)
  obtain ⟨u4, e4⟩ : ∃ z, u3.setCell ⟨hb, k * 15 + 3, none⟩ (.int .i64 (x 3)) = z := ⟨_, rfl⟩
  have r4 : HvAt u4 hb C (upJ G k x 4) := by rw [← e4]; exact HvAt.set k 3 x r3 (by omega)
  have c3 : u3.cell? ⟨hb, k * 15 + 3, none⟩ = some (.int .i64 (G k 3)) := by have := r3.cell k 3 hk (by omega); rw [show upJ G k x 3 k 3 = G k 3 by unfold upJ; rw [if_neg (by omega)]] at this; exact this
  have f3 : u3.frozen? ⟨hb, k * 15 + 3, none⟩ = false := r3.frozen _
  have m4 : Fr (fun z => z = hb) w u4 := by rw [← e4]; exact m3.trans Fr.set (fun _ h => .inl h)
  obtain ⟨u5, e5⟩ : ∃ z, u4.setCell ⟨hb, k * 15 + 4, none⟩ (.int .i64 (x 4)) = z := ⟨_, rfl⟩
  have r5 : HvAt u5 hb C (upJ G k x 5) := by rw [← e5]; exact HvAt.set k 4 x r4 (by omega)
  have c4 : u4.cell? ⟨hb, k * 15 + 4, none⟩ = some (.int .i64 (G k 4)) := by have := r4.cell k 4 hk (by omega); rw [show upJ G k x 4 k 4 = G k 4 by unfold upJ; rw [if_neg (by omega)]] at this; exact this
  have f4 : u4.frozen? ⟨hb, k * 15 + 4, none⟩ = false := r4.frozen _
  have m5 : Fr (fun z => z = hb) w u5 := by rw [← e5]; exact m4.trans Fr.set (fun _ h => .inl h)
  obtain ⟨u6, e6⟩ : ∃ z, u5.setCell ⟨hb, k * 15 + 5, none⟩ (.int .i64 (x 5)) = z := ⟨_, rfl⟩
  have r6 : HvAt u6 hb C (upJ G k x 6) := by rw [← e6]; exact HvAt.set k 5 x r5 (by omega)
  have c5 : u5.cell? ⟨hb, k * 15 + 5, none⟩ = some (.int .i64 (G k 5)) := by have := r5.cell k 5 hk (by omega); rw [show upJ G k x 5 k 5 = G k 5 by unfold upJ; rw [if_neg (by omega)]] at this; exact this
  have f5 : u5.frozen? ⟨hb, k * 15 + 5, none⟩ = false := r5.frozen _
  have m6 : Fr (fun z => z = hb) w u6 := by rw [← e6]; exact m5.trans Fr.set (fun _ h => .inl h)
  obtain ⟨u7, e7⟩ : ∃ z, u6.setCell ⟨hb, k * 15 + 6, none⟩ (.int .i64 (x 6)) = z := ⟨_, rfl⟩
  have r7 : HvAt u7 hb C (upJ G k x 7) := by rw [← e7]; exact HvAt.set k 6 x r6 (by omega)
  have c6 : u6.cell? ⟨hb, k * 15 + 6, none⟩ = some (.int .i64 (G k 6)) := by have := r6.cell k 6 hk (by omega); rw [show upJ G k x 6 k 6 = G k 6 by unfold upJ; rw [if_neg (by omega)]] at this; exact this
  have f6 : u6.frozen? ⟨hb, k * 15 + 6, none⟩ = false := r6.frozen _
  have m7 : Fr (fun z => z = hb) w u7 := by rw [← e7]; exact m6.trans Fr.set (fun _ h => .inl h)
  obtain ⟨u8, e8⟩ : ∃ z, u7.setCell ⟨hb, k * 15 + 7, none⟩ (.int .i64 (x 7)) = z := ⟨_, rfl⟩
  have r8 : HvAt u8 hb C (upJ G k x 8) := by rw [← e8]; exact HvAt.set k 7 x r7 (by omega)
  have c7 : u7.cell? ⟨hb, k * 15 + 7, none⟩ = some (.int .i64 (G k 7)) := by have := r7.cell k 7 hk (by omega); rw [show upJ G k x 7 k 7 = G k 7 by unfold upJ; rw [if_neg (by omega)]] at this; exact this
  have f7 : u7.frozen? ⟨hb, k * 15 + 7, none⟩ = false := r7.frozen _
  have m8 : Fr (fun z => z = hb) w u8 := by rw [← e8]; exact m7.trans Fr.set (fun _ h => .inl h)
  obtain ⟨u9, e9⟩ : ∃ z, u8.setCell ⟨hb, k * 15 + 8, none⟩ (.int .i64 (x 8)) = z := ⟨_, rfl⟩
  have r9 : HvAt u9 hb C (upJ G k x 9) := by rw [← e9]; exact HvAt.set k 8 x r8 (by omega)
  have c8 : u8.cell? ⟨hb, k * 15 + 8, none⟩ = some (.int .i64 (G k 8)) := by have := r8.cell k 8 hk (by omega); rw [show upJ G k x 8 k 8 = G k 8 by unfold upJ; rw [if_neg (by omega)]] at this; exact this
  have f8 : u8.frozen? ⟨hb, k * 15 + 8, none⟩ = false := r8.frozen _
  have m9 : Fr (fun z => z = hb) w u9 := by rw [← e9]; exact m8.trans Fr.set (fun _ h => .inl h)
  obtain ⟨u10, e10⟩ : ∃ z, u9.setCell ⟨hb, k * 15 + 9, none⟩ (.int .i64 (x 9)) = z := ⟨_, rfl⟩
  have r10 : HvAt u10 hb C (upJ G k x 10) := by rw [← e10]; exact HvAt.set k 9 x r9 (by omega)
  have c9 : u9.cell? ⟨hb, k * 15 + 9, none⟩ = some (.int .i64 (G k 9)) := by have := r9.cell k 9 hk (by omega); rw [show upJ G k x 9 k 9 = G k 9 by unfold upJ; rw [if_neg (by omega)]] at this; exact this
  have f9 : u9.frozen? ⟨hb, k * 15 + 9, none⟩ = false := r9.frozen _
  have m10 : Fr (fun z => z = hb) w u10 := by rw [← e10]; exact m9.trans Fr.set (fun _ h => .inl h)
  obtain ⟨u11, e11⟩ : ∃ z, u10.setCell ⟨hb, k * 15 + 10, none⟩ (.int .i64 (x 10)) = z := ⟨_, rfl⟩
  have r11 : HvAt u11 hb C (upJ G k x 11) := by rw [← e11]; exact HvAt.set k 10 x r10 (by omega)
  have c10 : u10.cell? ⟨hb, k * 15 + 10, none⟩ = some (.int .i64 (G k 10)) := by have := r10.cell k 10 hk (by omega); rw [show upJ G k x 10 k 10 = G k 10 by unfold upJ; rw [if_neg (by omega)]] at this; exact this
  have f10 : u10.frozen? ⟨hb, k * 15 + 10, none⟩ = false := r10.frozen _
  have m11 : Fr (fun z => z = hb) w u11 := by rw [← e11]; exact m10.trans Fr.set (fun _ h => .inl h)
  obtain ⟨u12, e12⟩ : ∃ z, u11.setCell ⟨hb, k * 15 + 11, none⟩ (.int .i64 (x 11)) = z := ⟨_, rfl⟩
  have r12 : HvAt u12 hb C (upJ G k x 12) := by rw [← e12]; exact HvAt.set k 11 x r11 (by omega)
  have c11 : u11.cell? ⟨hb, k * 15 + 11, none⟩ = some (.int .i64 (G k 11)) := by have := r11.cell k 11 hk (by omega); rw [show upJ G k x 11 k 11 = G k 11 by unfold upJ; rw [if_neg (by omega)]] at this; exact this
  have f11 : u11.frozen? ⟨hb, k * 15 + 11, none⟩ = false := r11.frozen _
  have m12 : Fr (fun z => z = hb) w u12 := by rw [← e12]; exact m11.trans Fr.set (fun _ h => .inl h)
  obtain ⟨u13, e13⟩ : ∃ z, u12.setCell ⟨hb, k * 15 + 12, none⟩ (.int .i64 (x 12)) = z := ⟨_, rfl⟩
  have r13 : HvAt u13 hb C (upJ G k x 13) := by rw [← e13]; exact HvAt.set k 12 x r12 (by omega)
  have c12 : u12.cell? ⟨hb, k * 15 + 12, none⟩ = some (.int .i64 (G k 12)) := by have := r12.cell k 12 hk (by omega); rw [show upJ G k x 12 k 12 = G k 12 by unfold upJ; rw [if_neg (by omega)]] at this; exact this
  have f12 : u12.frozen? ⟨hb, k * 15 + 12, none⟩ = false := r12.frozen _
  have m13 : Fr (fun z => z = hb) w u13 := by rw [← e13]; exact m12.trans Fr.set (fun _ h => .inl h)
  obtain ⟨u14, e14⟩ : ∃ z, u13.setCell ⟨hb, k * 15 + 13, none⟩ (.int .i64 (x 13)) = z := ⟨_, rfl⟩
  have r14 : HvAt u14 hb C (upJ G k x 14) := by rw [← e14]; exact HvAt.set k 13 x r13 (by omega)
  have c13 : u13.cell? ⟨hb, k * 15 + 13, none⟩ = some (.int .i64 (G k 13)) := by have := r13.cell k 13 hk (by omega); rw [show upJ G k x 13 k 13 = G k 13 by unfold upJ; rw [if_neg (by omega)]] at this; exact this
  have f13 : u13.frozen? ⟨hb, k * 15 + 13, none⟩ = false := r13.frozen _
  have m14 : Fr (fun z => z = hb) w u14 := by rw [← e14]; exact m13.trans Fr.set (fun _ h => .inl h)
  obtain ⟨u15, e15⟩ : ∃ z, u14.setCell ⟨hb, k * 15 + 14, none⟩ (.int .i64 (x 14)) = z := ⟨_, rfl⟩
  have r15 : HvAt u15 hb C (upJ G k x 15) := by rw [← e15]; exact HvAt.set k 14 x r14 (by omega)
  have c14 : u14.cell? ⟨hb, k * 15 + 14, none⟩ = some (.int .i64 (G k 14)) := by have := r14.cell k 14 hk (by omega); rw [show upJ G k x 14 k 14 = G k 14 by unfold upJ; rw [if_neg (by omega)]] at this; exact this
  have f14 : u14.frozen? ⟨hb, k * 15 + 14, none⟩ = false := r14.frozen _
  have m15 : Fr (fun z => z = hb) w u15 := by rw [← e15]; exact m14.trans Fr.set (fun _ h => .inl h)
  refine ⟨u1, u2, u3, u4, u5, u6, u7, u8, u9, u10, u11, u12, u13, u14, u15, c0, f0, e1, c1, f1, e2, c2, f2, e3, c3, f3, e4, c4, f4, e5, c5, f5, e6, c6, f6, e7, c7, f7, e8, c8, f8, e9, c9, f9, e10, c10, f10, e11, c11, f11, e12, c12, f12, e13, c13, f13, e14, c14, f14, e15, m15, r15.cong fun a b hb9 => ?_⟩
  unfold upJ upR
  by_cases c : a = k
  · rw [if_pos ⟨c, hb9⟩, if_pos c]
  · rw [if_neg (fun e => c e.1), if_neg c]
end Go.Proofs.YtdheojhfgeabhaaDoor

namespace Go.Proofs.YtdheojhfgeabhaaDoor
open Go.RowKit Go.Maps Rec

set_option maxRecDepth 100000 in
set_option maxHeartbeats 4000000 in
theorem rdec_size (w : World) (a : Option Addr) (n c : Nat) (l : List Int) (hn : l.length = n) (h64 : ¬ n = 64) (_ : n ≤ 1000000000000000) : Calls Tryd.prog 8 #[.slice a n c] w fun e w' => e = .returned (.tuple #[inV (decX l), .int .i64 (decE l)]) ∧ Below w.heap.size w w' := by
  have HE : Hid (decE l = 32 ∧ decX l = z15) := by
    have := decE_size (l := l) (by omega)
    exact ⟨this, decX_ne (by omega)⟩
  obtain ⟨P, hP⟩ : ∃ P, w.heap.size = P := ⟨_, rfl⟩
  obtain ⟨wa, hwa⟩ : ∃ wa, w.alloc (.cells #[.int .i64 0, .int .i64 0, .int .i64 0, .int .i64 0, .int .i64 0, .int .i64 0, .int .i64 0, .int .i64 0, .int .i64 0, .int .i64 0, .int .i64 0, .int .i64 0, .int .i64 0, .int .i64 0, .int .i64 0] 24) = wa := ⟨_, rfl⟩
  have HW : Hid (Below w.heap.size w wa) := by rw [← hwa]; exact (Below.refl _ _).alloc (Nat.le_refl _) _
  have H0 : Hid (wa.heap[P]? = some (.cells #[.int .i64 0, .int .i64 0, .int .i64 0, .int .i64 0, .int .i64 0, .int .i64 0, .int .i64 0, .int .i64 0, .int .i64 0, .int .i64 0, .int .i64 0, .int .i64 0, .int .i64 0, .int .i64 0, .int .i64 0] 24 (0, 0))) := by rw [← hwa, ← hP]; exact heap_alloc_new _ _
  have h64' : ¬ (n : Int) = 64 := by omega
  have d0 : wa.cell? ⟨P, 0, none⟩ = some (.int .i64 0) := cell_of_row _ _ 0 _ _ _ H0.out; have f0 : wa.frozen? ⟨P, 0, none⟩ = false := frozen_of_row _ _ _ _ _ H0.out; have d1 : wa.cell? ⟨P, 1, none⟩ = some (.int .i64 0) := cell_of_row _ _ 1 _ _ _ H0.out; have f1 : wa.frozen? ⟨P, 1, none⟩ = false := frozen_of_row _ _ _ _ _ H0.out; have d2 : wa.cell? ⟨P, 2, none⟩ = some (.int .i64 0) := cell_of_row _ _ 2 _ _ _ H0.out; have f2 : wa.frozen? ⟨P, 2, none⟩ = false := frozen_of_row _ _ _ _ _ H0.out; have d3 : wa.cell? ⟨P, 3, none⟩ = some (.int .i64 0) := cell_of_row _ _ 3 _ _ _ H0.out; have f3 : wa.frozen? ⟨P, 3, none⟩ = false := frozen_of_row _ _ _ _ _ H0.out; have d4 : wa.cell? ⟨P, 4, none⟩ = some (.int .i64 0) := cell_of_row _ _ 4 _ _ _ H0.out; have f4 : wa.frozen? ⟨P, 4, none⟩ = false := frozen_of_row _ _ _ _ _ H0.out; have d5 : wa.cell? ⟨P, 5, none⟩ = some (.int .i64 0) := cell_of_row _ _ 5 _ _ _ H0.out; have f5 : wa.frozen? ⟨P, 5, none⟩ = false := frozen_of_row _ _ _ _ _ H0.out; have d6 : wa.cell? ⟨P, 6, none⟩ = some (.int .i64 0) := cell_of_row _ _ 6 _ _ _ H0.out; have f6 : wa.frozen? ⟨P, 6, none⟩ = false := frozen_of_row _ _ _ _ _ H0.out; have d7 : wa.cell? ⟨P, 7, none⟩ = some (.int .i64 0) := cell_of_row _ _ 7 _ _ _ H0.out; have f7 : wa.frozen? ⟨P, 7, none⟩ = false := frozen_of_row _ _ _ _ _ H0.out; have d8 : wa.cell? ⟨P, 8, none⟩ = some (.int .i64 0) := cell_of_row _ _ 8 _ _ _ H0.out; have f8 : wa.frozen? ⟨P, 8, none⟩ = false := frozen_of_row _ _ _ _ _ H0.out; have d9 : wa.cell? ⟨P, 9, none⟩ = some (.int .i64 0) := cell_of_row _ _ 9 _ _ _ H0.out; have f9 : wa.frozen? ⟨P, 9, none⟩ = false := frozen_of_row _ _ _ _ _ H0.out; have d10 : wa.cell? ⟨P, 10, none⟩ = some (.int .i64 0) := cell_of_row _ _ 10 _ _ _ H0.out; have f10 : wa.frozen? ⟨P, 10, none⟩ = false := frozen_of_row _ _ _ _ _ H0.out; have d11 : wa.cell? ⟨P, 11, none⟩ = some (.int .i64 0) := cell_of_row _ _ 11 _ _ _ H0.out; have f11 : wa.frozen? ⟨P, 11, none⟩ = false := frozen_of_row _ _ _ _ _ H0.out; have d12 : wa.cell? ⟨P, 12, none⟩ = some (.int .i64 0) := cell_of_row _ _ 12 _ _ _ H0.out; have f12 : wa.frozen? ⟨P, 12, none⟩ = false := frozen_of_row _ _ _ _ _ H0.out; have d13 : wa.cell? ⟨P, 13, none⟩ = some (.int .i64 0) := cell_of_row _ _ 13 _ _ _ H0.out; have f13 : wa.frozen? ⟨P, 13, none⟩ = false := frozen_of_row _ _ _ _ _ H0.out; have d14 : wa.cell? ⟨P, 14, none⟩ = some (.int .i64 0) := cell_of_row _ _ 14 _ _ _ H0.out; have f14 : wa.frozen? ⟨P, 14, none⟩ = false := frozen_of_row _ _ _ _ _ H0.out
  clear hn
  go_enter Tryd.func8, Tryd.ntmps8
  go_wp2
  refine bodyPost_ret (results_row_tmp7 rfl _ _ P (inC z15) rfl ?_) rfl ?_
  · refine load15 _ P 0 0 0 0 0 0 0 0 0 0 0 0 0 0 0 ?_
    exact set15 _ P (.int .i64 0) (.int .i64 0) (.int .i64 0) (.int .i64 0) (.int .i64 0) (.int .i64 0) (.int .i64 0) (.int .i64 0) (.int .i64 0) (.int .i64 0) (.int .i64 0) (.int .i64 0) (.int .i64 0) (.int .i64 0) (.int .i64 0) (.int .i64 0) (.int .i64 0) (.int .i64 0) (.int .i64 0) (.int .i64 0) (.int .i64 0) (.int .i64 0) (.int .i64 0) (.int .i64 0) (.int .i64 0) (.int .i64 0) (.int .i64 0) (.int .i64 0) (.int .i64 0) (.int .i64 0) H0.out
  · refine ⟨by rw [HE.out.1, HE.out.2]; rfl, ?_⟩
    iterate 15 refine below_put ?_ (Nat.le_refl _) (by omega)
    exact HW.out

end Go.Proofs.YtdheojhfgeabhaaDoor
