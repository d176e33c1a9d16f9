import Derived.Test.YtgodjnnciacliaaSplits
import Derived.Laws.ResultCell
namespace Go.Proofs.Ytgodjnnciacliaa
open Go.RowKit Adk

set_option maxRecDepth 100000 in
set_option maxHeartbeats 1600000 in
theorem act_any (w : World) (q : PutR) (m : Nat) (h0 : 1 ≤ m) (h1 : m ≤ 16384) (hx : 0 ≤ q.x ∧ q.x < 256) :
    Calls Try.prog 22 #[.agg #[.int .i64 q.b, .int .u8 q.x, .bool q.fl], .int .i64 m] w fun e w' => ∃ r : ActR, e = .returned (.agg #[.int .i64 r.kind, .int .i64 r.b, .slice r.a r.x.length r.c]) ∧ r.abs = putA m q ∧ OkAct w' m r ∧ Below w.heap.size w w' := by
  obtain ⟨qb, qx, qf⟩ := q
  have HX : Hid (0 ≤ qx ∧ qx < 256) := hx
  clear hx
  obtain ⟨J, hJ⟩ : ∃ J : Nat, qb % (m : Int) = (J : Int) := ⟨(qb % (m : Int)).toNat, by have := Int.emod_nonneg qb (b := (m : Int)) (by omega); omega⟩
  have hJm : J < m := by have := Int.emod_lt_of_pos qb (b := (m : Int)) (by omega); omega
  have HJ : Hid (qb % (m : Int) = (J : Int)) := hJ
  clear hJ
  have HA : Hid (Below w.heap.size w (w.alloc (.cells #[.int .i64 qb, .int .u8 qx, .bool qf] 42))) := (Below.refl _ _).alloc (Nat.le_refl _) _
  have HR := heap_alloc_new w (.cells #[.int .i64 qb, .int .u8 qx, .bool qf] 42)
  have HC : Hid (∀ j, (w.alloc (.cells #[.int .i64 qb, .int .u8 qx, .bool qf] 42)).cell? ⟨w.heap.size, j, none⟩ = (#[Value.int .i64 qb, .int .u8 qx, .bool qf])[j]?) := fun j => cell_of_row _ _ _ _ _ _ HR
  have HR2 := heap_alloc_new (w.alloc (.cells #[.int .i64 qb, .int .u8 qx, .bool qf] 42)) (.cells #[.int .i64 0, .int .i64 0, .slice none 0 0] 54)
  rw [alloc_size] at HR2
  have HB : Hid (Below w.heap.size w ((w.alloc (.cells #[.int .i64 qb, .int .u8 qx, .bool qf] 42)).alloc (.cells #[.int .i64 0, .int .i64 0, .slice none 0 0] 54))) := HA.out.alloc HA.out.size _
  have HCb : Hid (∀ j v, (#[Value.int .i64 qb, .int .u8 qx, .bool qf])[j]? = some v → ((w.alloc (.cells #[.int .i64 qb, .int .u8 qx, .bool qf] 42)).alloc (.cells #[.int .i64 0, .int .i64 0, .slice none 0 0] 54)).cell? ⟨w.heap.size, j, none⟩ = some v) := fun j v hv => (fr_alloc (fun _ => False) _ _).cell (by rw [HC.out j]; exact hv) (fun e => e)
  clear HR HA HC
  go_enter Try.func22, Try.ntmps22
  go_upto_region 1 with fail
  generalize (w.alloc (.cells #[.int .i64 qb, .int .u8 qx, .bool qf] 42)).alloc (.cells #[.int .i64 0, .int .i64 0, .slice none 0 0] 54) = wb at *
  have S0 := HCb.out 0 _ rfl
  have S1 := HCb.out 1 _ rfl
  have S2 := HCb.out 2 _ rfl
  have HRow : Hid (wb.heap[w.heap.size + 1]? = some (.cells #[.int .i64 0, .int .i64 0, .slice none 0 0] 54 (0, 0))) := HR2
  have hlt := heap_lt HR2
  clear HR2 HCb
  cases qf with
  | true =>
    have R0 : wb.cell? ⟨w.heap.size + 1, 0, none⟩ = some (.int .i64 0) := cell_of_row _ _ _ _ _ _ HRow.out
    have R1 : wb.cell? ⟨w.heap.size + 1, 1, none⟩ = some (.int .i64 0) := cell_of_row _ _ _ _ _ _ HRow.out
    have R2 : wb.cell? ⟨w.heap.size + 1, 2, none⟩ = some (.slice none 0 0) := cell_of_row _ _ _ _ _ _ HRow.out
    have F0 := frozen_of_row _ _ 0 _ _ HRow.out
    have F1 := frozen_of_row _ _ 1 _ _ HRow.out
    have F2 := frozen_of_row _ _ 2 _ _ HRow.out
    go_wp2
    have r0 := heap_setCell_same _ _ 0 _ _ (.int .i64 2) HRow.out
    have r1 := heap_setCell_same _ _ 1 _ _ (.int .i64 qb) r0
    have r2 := heap_setCell_same _ _ 2 _ _ (.slice none 0 0) r1
    have hbel : Below w.heap.size w (((wb.setCell ⟨w.heap.size + 1, 0, none⟩ (.int .i64 2)).setCell ⟨w.heap.size + 1, 1, none⟩ (.int .i64 qb)).setCell ⟨w.heap.size + 1, 2, none⟩ (.slice none 0 0)) := by
      have b0 := HB.out.grown (grown_set (g := w.heap.size + 1) (k := 0) (v := .int .i64 2)) HB.out.size (by intro k hk; cases hk; omega)
      have b1 := b0.grown (grown_set (g := w.heap.size + 1) (k := 1) (v := .int .i64 qb)) b0.size (by intro k hk; cases hk; omega)
      exact b1.grown (grown_set (g := w.heap.size + 1) (k := 2) (v := .slice none 0 0)) b1.size (by intro k hk; cases hk; omega)
    refine bodyPost_ret (results_cell_row rfl _ _ (w.heap.size + 1) _ _ _ _ rfl r2 Try.underlying54 rfl (by kernel_rfl)) rfl ?_
    exact ⟨⟨2, qb, none, 0, []⟩, rfl, rfl, .inl ⟨rfl, rfl, rfl, rfl⟩, hbel⟩
  | false =>
    have HD : Hid (Below wb.heap.size wb wb.drew) := (Below.refl _ wb).drew
    go_wp2
    go_region_law (go_simp; first
      | (go_at_call 17; refine (mod_any _ qb m (by omega) (by omega)).mono ?_; rintro e w' ⟨rfl, rfl⟩; rw [HJ.out])
      | (go_at_call 18; refine (lblock_any _ qx HX.out).mono ?_; rintro e w1 ⟨rfl, ho, hb⟩; have H1 : Hid (OwnB w1 wb.heap.size 512 (one qx) ∧ Below wb.heap.size wb w1) := ⟨ho, HD.out.trans hb⟩; have T0 : w1.cell? ⟨w.heap.size, 0, none⟩ = some (.int .i64 qb) := (below_fr H1.out.2 (fun _ => False)).cell S0 (fun e => e); have HRow1 : Hid (w1.heap[w.heap.size + 1]? = some (.cells #[.int .i64 0, .int .i64 0, .slice none 0 0] 54 (0, 0))) := (below_fr H1.out.2 (fun _ => False)).heap HRow.out (fun e => e); have R0 : w1.cell? ⟨w.heap.size + 1, 0, none⟩ = some (.int .i64 0) := cell_of_row _ _ _ _ _ _ HRow1.out; have R1 : w1.cell? ⟨w.heap.size + 1, 1, none⟩ = some (.int .i64 0) := cell_of_row _ _ _ _ _ _ HRow1.out; have R2 : w1.cell? ⟨w.heap.size + 1, 2, none⟩ = some (.slice none 0 0) := cell_of_row _ _ _ _ _ _ HRow1.out; have F0 := frozen_of_row _ _ 0 _ _ HRow1.out; have F1 := frozen_of_row _ _ 1 _ _ HRow1.out; have F2 := frozen_of_row _ _ 2 _ _ HRow1.out; clear ho hb))
    all_goals
      go_wp2
      have r0 := heap_setCell_same _ _ 0 _ _ (.int .i64 1) HRow1.out
      have r1 := heap_setCell_same _ _ 1 _ _ (.int .i64 J) r0
      have r2 := heap_setCell_same _ _ 2 _ _ (.slice (some ⟨wb.heap.size, 0, none⟩) 512 512) r1
      have hw1 := HB.out.trans (H1.out.2.mono HB.out.size)
      have f3 : Fr (fun k => k = w.heap.size + 1) w1 (((w1.setCell ⟨w.heap.size + 1, 0, none⟩ (.int .i64 1)).setCell ⟨w.heap.size + 1, 1, none⟩ (.int .i64 J)).setCell ⟨w.heap.size + 1, 2, none⟩ (.slice (some ⟨wb.heap.size, 0, none⟩) 512 512)) := ((Fr.set).trans Fr.set (fun _ e => .inl e)).trans Fr.set (fun _ e => .inl e)
      refine bodyPost_ret (results_cell_row rfl _ _ (w.heap.size + 1) _ _ _ _ rfl r2 Try.underlying54 rfl (by kernel_rfl)) rfl ?_
      refine ⟨⟨1, J, some ⟨wb.heap.size, 0, none⟩, 512, one qx⟩, rfl, ?_, .inr ⟨rfl, Int.natCast_nonneg _, Int.ofNat_lt.2 hJm, one_length _, _, _, rfl, H1.out.1.fr f3 (by omega)⟩, hw1.trans (f3.below _ (fun k hk => by omega) hw1.size)⟩
      show (1, (J : Int), one qx) = (1, qb % (m : Int), one qx)
      rw [HJ.out]
end Go.Proofs.Ytgodjnnciacliaa
