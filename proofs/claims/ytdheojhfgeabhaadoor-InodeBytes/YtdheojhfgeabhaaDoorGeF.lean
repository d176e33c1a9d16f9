import Derived.Test.YtdheojhfgeabhaaDoorKGeN
import Derived.Test.YtdheojhfgeabhaaDoorKInK
namespace Go.Proofs.YtdheojhfgeabhaaDoor
open Go.RowKit Rec
open Crc (W)

set_option maxRecDepth 100000 in
set_option maxHeartbeats 1600000 in
theorem rof_no (w : World) (n : Int) (h : isLen n = false) : Calls Tryd.prog 11 #[.int .i64 n] w fun e w' => e = .returned (.tuple #[geo0, .int .i64 70]) ∧ Below w.heap.size w w' := by
  have hb := isLen_no h
  go_enter Tryd.func11, Tryd.ntmps11
  have hA : Hid (∀ o, Below w.heap.size w (w.alloc o)) := fun o => (Below.refl _ _).alloc (Nat.le_refl _) o
  rcases (show n < 128 ∨ (128 ≤ n ∧ 16384 < n) by omega) with h1 | h1
  all_goals
    clear hb
    go_wp2
    refine bodyPost_ret (results_row_tmp7 rfl _ _ w.heap.size #[.int .i64 0, .int .i64 0, .int .i64 0, .int .i64 0, .int .i64 0] rfl (by simp [go_sem])) rfl ?_
    exact ⟨rfl, hA.out _⟩
/-- the reference's regions as they are counted: where they lie, and their answer's cells -/
structure RfAt (w wr : World) (gB : Nat) (n I D C : Int) : Prop where
  bel : Below w.heap.size w wr
  far : w.heap.size < gB
  ans : wr.heap[w.heap.size]? = some (.cells #[.int .i64 0, .int .i64 0, .int .i64 0, .int .i64 0, .int .i64 0] 40 (0, 0))
  geo : wr.heap[gB]? = some (.cells #[.int .i64 n, .int .i64 98, .int .i64 I, .int .i64 D, .int .i64 C] 40 (0, 0))
theorem RfAt.put {w wr : World} {gB : Nat} {n I D C : Int} (h : RfAt w wr gB n I D C) (k : Nat) (v : Value) (I' D' C' : Int) (he : (#[.int .i64 n, .int .i64 98, .int .i64 I, .int .i64 D, .int .i64 C] : Array Value).setIfInBounds k v = #[.int .i64 n, .int .i64 98, .int .i64 I', .int .i64 D', .int .i64 C']) : RfAt w (wr.setCell ⟨gB, k, none⟩ v) gB n I' D' C' := by
  refine ⟨h.bel.trans (below_of grown_set (Nat.le_of_lt h.far) h.bel.size), h.far, Fr.set.heap h.ans (fun e => ?_), ?_⟩
  · have := h.far; omega
  · have := heap_setCell_same _ _ k _ _ v h.geo
    rw [he] at this; exact this
theorem RfAt.cellI {w wr : World} {gB : Nat} {n I D C : Int} (h : RfAt w wr gB n I D C) : wr.cell? ⟨gB, 2, none⟩ = some (.int .i64 I) := cell_of_row _ _ _ _ _ _ h.geo
theorem RfAt.cellD {w wr : World} {gB : Nat} {n I D C : Int} (h : RfAt w wr gB n I D C) : wr.cell? ⟨gB, 3, none⟩ = some (.int .i64 D) := cell_of_row _ _ _ _ _ _ h.geo
theorem RfAt.cellC {w wr : World} {gB : Nat} {n I D C : Int} (h : RfAt w wr gB n I D C) : wr.cell? ⟨gB, 4, none⟩ = some (.int .i64 C) := cell_of_row _ _ _ _ _ _ h.geo
theorem RfAt.frozen {w wr : World} {gB : Nat} {n I D C : Int} (h : RfAt w wr gB n I D C) (k : Nat) : wr.frozen? ⟨gB, k, none⟩ = false := frozen_of_row _ _ _ _ _ h.geo
set_option maxRecDepth 100000 in
set_option maxHeartbeats 1600000 in
theorem rof_ok (w : World) (n : Int) (h : isLen n = true) : Calls Tryd.prog 11 #[.int .i64 n] w fun e w' => e = .returned (.tuple #[geoV n, .int .i64 0]) ∧ Below w.heap.size w w' := by
  have hb := isLen_bd h
  clear h
  go_enter Tryd.func11, Tryd.ntmps11
  go_upto_region 4 with fail
  have hR : RfAt w ((w.alloc (.cells #[.int .i64 0, .int .i64 0, .int .i64 0, .int .i64 0, .int .i64 0] 40)).alloc (.cells #[.int .i64 n, .int .i64 98, .int .i64 98, .int .i64 0, .int .i64 0] 40)) (w.heap.size + 1) n 98 0 0 := by
    refine ⟨((Below.refl _ _).alloc (Nat.le_refl _) _).alloc (by simp) _, by omega, keepL ((Below.refl _ _).alloc (Nat.le_refl _) _) (heap_alloc_new _ _), ?_⟩
    have := heap_alloc_new (w.alloc (.cells #[.int .i64 0, .int .i64 0, .int .i64 0, .int .i64 0, .int .i64 0] 40)) (.cells #[.int .i64 n, .int .i64 98, .int .i64 98, .int .i64 0, .int .i64 0] 40)
    rw [show (w.alloc (.cells #[.int .i64 0, .int .i64 0, .int .i64 0, .int .i64 0, .int .i64 0] 40)).heap.size = w.heap.size + 1 by simp] at this
    exact this
  have HR : Hid (RfAt w ((w.alloc (.cells #[.int .i64 0, .int .i64 0, .int .i64 0, .int .i64 0, .int .i64 0] 40)).alloc (.cells #[.int .i64 n, .int .i64 98, .int .i64 98, .int .i64 0, .int .i64 0] 40)) (w.heap.size + 1) n 98 0 0) := hR
  clear hR
  generalize (w.alloc (.cells #[.int .i64 0, .int .i64 0, .int .i64 0, .int .i64 0, .int .i64 0] 40)).alloc (.cells #[.int .i64 n, .int .i64 98, .int .i64 98, .int .i64 0, .int .i64 0] 40) = wa at *
  generalize w.heap.size + 1 = gB at *
  go_wp2_with fail
  go_loopw [5] (fun i wr => ∃ k : Nat, ((k : Int) - 1) * 4096 < n ∧ i = .int .i64 (4096 * k) ∧ RfAt w wr gB n (98 + k) 0 0) (fun i _ => (n - intOf i).toNat)
  case atStart => exact ⟨0, by omega, rfl, HR.out⟩
  case round =>
    clear HR
    obtain ⟨k, hk, rfl, hr⟩ := hrel
    have HR : Hid (RfAt w wr gB n (98 + k) 0 0) := hr
    have c2 := hr.cellI
    have c3 := hr.cellD
    have f2 := hr.frozen 2
    have f3 := hr.frozen 3
    clear hr
    by_cases hlt : 4096 * (k : Int) < n
    · have hR1 := HR.out.put 2 (.int .i64 (98 + k + 1)) (98 + k + 1) 0 0 rfl
      have HR1 : Hid (RfAt w (wr.setCell ⟨gB, 2, none⟩ (.int .i64 (98 + k + 1))) gB n (98 + k + 1) 0 0) := hR1
      clear hR1
      go_wp2
      exact ⟨⟨k + 1, by omega, by rw [show 4096 * ((k + 1 : Nat) : Int) = 4096 * k + 4096 by omega], by rw [show 98 + ((k + 1 : Nat) : Int) = 98 + k + 1 by omega]; exact HR1.out⟩, by simp [intOf]; omega⟩
    · have hk2 : 98 + (k : Int) = gI n := by unfold gI; omega
      rw [hk2] at c2
      have HR2 : Hid (RfAt w wr gB n (gI n) 0 0) := by have := HR.out; rw [hk2] at this; exact this
      have HR3 : Hid (RfAt w (wr.setCell ⟨gB, 3, none⟩ (.int .i64 (gI n))) gB n (gI n) (gI n) 0) := HR2.out.put 3 (.int .i64 (gI n)) (gI n) (gI n) 0 rfl
      clear hk2
      go_upto_region 9 with fail
      generalize wr.setCell ⟨gB, 3, none⟩ (.int .i64 (gI n)) = wb at *
      have hI : 98 ≤ gI n ∧ gI n ≤ 110 := by unfold gI; omega
      clear c2 c3 f2 f3 HR HR2
      go_wp2_with fail
      go_loopw [6] (fun i wq => ∃ k : Nat, 64 * (k : Int) ≤ n ∧ i = .int .i64 (64 + 64 * k) ∧ RfAt w wq gB n (gI n) (gI n + k) (8 * k)) (fun i _ => (n + 64 - intOf i).toNat)
      case atStart => exact ⟨0, by omega, rfl, by simpa using HR3.out⟩
      case round =>
        clear HR3
        rename World => wq
        obtain ⟨j, hj, rfl, hr⟩ := hrel
        have HR : Hid (RfAt w wq gB n (gI n) (gI n + j) (8 * j)) := hr
        by_cases hlt2 : 64 + 64 * (j : Int) ≤ n
        · have c3 := hr.cellD
          have f3 := hr.frozen 3
          have f4 := hr.frozen 4
          have h1 := hr.put 3 (.int .i64 (gI n + j + 1)) (gI n) (gI n + j + 1) (8 * j) rfl
          have c4 := h1.cellC
          have f4' := h1.frozen 4
          have HR1 : Hid (RfAt w ((wq.setCell ⟨gB, 3, none⟩ (.int .i64 (gI n + j + 1))).setCell ⟨gB, 4, none⟩ (.int .i64 (8 * j + 8))) gB n (gI n) (gI n + j + 1) (8 * j + 8)) := h1.put 4 (.int .i64 (8 * j + 8)) (gI n) (gI n + j + 1) (8 * j + 8) rfl
          clear hr h1
          go_wp2
          exact ⟨⟨j + 1, by omega, by rw [show 64 + 64 * ((j + 1 : Nat) : Int) = 64 + 64 * j + 64 by omega], by rw [show gI n + ((j + 1 : Nat) : Int) = gI n + j + 1 by omega, show 8 * ((j + 1 : Nat) : Int) = 8 * j + 8 by omega]; exact HR1.out⟩, by simp [intOf]; omega⟩
        · have e1 : gI n + (j : Int) = gD n := by unfold gD; omega
          have e2 : 8 * (j : Int) = gC n := by unfold gC; omega
          rw [e1, e2] at hr
          have HRe : Hid (RfAt w wq gB n (gI n) (gD n) (gC n)) := hr
          have c0 : wq.cell? ⟨gB, 0, none⟩ = some (.int .i64 n) := cell_of_row _ _ _ _ _ _ hr.geo
          have c1 : wq.cell? ⟨gB, 1, none⟩ = some (.int .i64 98) := cell_of_row _ _ _ _ _ _ hr.geo
          have c2 := hr.cellI
          have c3 := hr.cellD
          have c4 := hr.cellC
          have r0 := hr.ans
          have b0 : wq.cell? ⟨w.heap.size, 0, none⟩ = some (.int .i64 0) := cell_of_row _ _ _ _ _ _ r0
          have b1 : wq.cell? ⟨w.heap.size, 1, none⟩ = some (.int .i64 0) := cell_of_row _ _ _ _ _ _ r0
          have b2 : wq.cell? ⟨w.heap.size, 2, none⟩ = some (.int .i64 0) := cell_of_row _ _ _ _ _ _ r0
          have b3 : wq.cell? ⟨w.heap.size, 3, none⟩ = some (.int .i64 0) := cell_of_row _ _ _ _ _ _ r0
          have b4 : wq.cell? ⟨w.heap.size, 4, none⟩ = some (.int .i64 0) := cell_of_row _ _ _ _ _ _ r0
          have d0 : wq.frozen? ⟨w.heap.size, 0, none⟩ = false := frozen_of_row _ _ _ _ _ r0
          have d1 : wq.frozen? ⟨w.heap.size, 1, none⟩ = false := frozen_of_row _ _ _ _ _ r0
          have d2 : wq.frozen? ⟨w.heap.size, 2, none⟩ = false := frozen_of_row _ _ _ _ _ r0
          have d3 : wq.frozen? ⟨w.heap.size, 3, none⟩ = false := frozen_of_row _ _ _ _ _ r0
          have d4 : wq.frozen? ⟨w.heap.size, 4, none⟩ = false := frozen_of_row _ _ _ _ _ r0
          clear hr r0 HR e1 e2
          have HA : Hid (wq.heap[w.heap.size]? = some (.cells #[.int .i64 0, .int .i64 0, .int .i64 0, .int .i64 0, .int .i64 0] 40 (0, 0))) := HRe.out.ans
          have HB : Hid (Below w.heap.size w wq) := HRe.out.bel
          clear HRe
          go_wp2
          have r1 := heap_setCell_same _ _ 0 _ _ (.int .i64 n) HA.out
          have r2 := heap_setCell_same _ _ 1 _ _ (.int .i64 98) r1
          have r3 := heap_setCell_same _ _ 2 _ _ (.int .i64 (gI n)) r2
          have r4 := heap_setCell_same _ _ 3 _ _ (.int .i64 (gD n)) r3
          have r5 := heap_setCell_same _ _ 4 _ _ (.int .i64 (gC n)) r4
          refine bodyPost_ret (results_row_tmp7 rfl _ _ w.heap.size _ rfl (run_loadVar_row _ _ _ _ _ _ _ r5 Tryd.underlying40 rfl (by kernel_rfl))) rfl ?_
          have st : ∀ (wx : World) (k : Nat) (v : Value), Below w.heap.size w wx → Below w.heap.size w (wx.setCell ⟨w.heap.size, k, none⟩ v) := fun wx k v hx => hx.trans (below_of grown_set (Nat.le_refl _) hx.size)
          exact ⟨rfl, st _ _ _ (st _ _ _ (st _ _ _ (st _ _ _ (st _ _ _ HB.out))))⟩
end Go.Proofs.YtdheojhfgeabhaaDoor
