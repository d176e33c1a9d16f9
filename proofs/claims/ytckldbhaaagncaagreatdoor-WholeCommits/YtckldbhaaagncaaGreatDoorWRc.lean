import Derived.Test.YtckldbhaaagncaaGreatDoorKWCd
import Derived.Test.YtckldbhaaagncaaGreatDoorWCi
namespace Go.Proofs.YtckldbhaaagncaaGreatDoor
open Go.RowKit Rec

theorem DoneAt.set {w w1 w' : World} {D E : Dk} {acts : List WA} (h : DoneAt w1 D w' E acts) (hb : Below w.heap.size w w1) (hD : Disk w D) (p i : Nat) (h1 : w.heap.size ≤ p) (h2 : p < w1.heap.size) (v : Value) : DoneAt w D (w'.setCell ⟨p, i, none⟩ v) E acts := by
  have hF := h.from hb
  refine ⟨h.disk.fr Fr.set (fun k hk e => ?_), ⟨hF.mv.fr.trans Fr.set (fun k hk => .inr (by rw [hk]; exact h1)), hF.mv.has, hF.mv.d, hF.mv.nb⟩, hF.al, h.abs⟩
  subst e
  rcases h.al k hk with e | e
  · have := hD.allLt e; omega
  · omega
theorem homeA_length (Q : List (Nat × List Int)) : (homeA Q).length = Q.length + 3 := by simp [homeA]
theorem logH_length (F : List Int) (nb : Nat) : (logH F nb).length = (logN F nb).length := homes_length _ _ (logD_length _ _)
set_option maxRecDepth 100000 in
set_option maxHeartbeats 1600000 in
theorem recover_no (w : World) (D : Dk) (h : Disk w D) (hT : TabAt w) (he : openE D ≠ 0) :
    Calls Tryz.prog 31 #[.pointer (some ⟨D.d, 0, none⟩)] w fun e w' => e = .returned (.tuple #[.int .i64 0, .int .i64 (openE D)]) ∧ Below w.heap.size w w' := by
  have hmf : ∀ (fn : Fn) (first cap : Array Value) (w : World), (Instr.makeFunc fn first cap).run Tryz.prog w = .ok (.func fn first cap) w := fun _ _ _ _ => rfl
  have HB : Hid (Below w.heap.size w (w.alloc (.cells #[.int .i64 0] 25))) := (Below.refl _ _).alloc (Nat.le_refl _) _
  have HL : Hid (Calls Tryz.prog 45 #[.pointer (some ⟨D.d, 0, none⟩)] (w.alloc (.cells #[.int .i64 0] 25)) fun e w' => e = gave (openE D) ∧ Below (w.alloc (.cells #[.int .i64 0] 25)).heap.size (w.alloc (.cells #[.int .i64 0] 25)) w') := log_no _ D (h.on HB.out) (hT.on HB.out) he
  clear h hT he
  go_enter_defers Tryz.func31, Tryz.ntmps31
  go_wp2_with (go_at_call 45; refine HL.out.mono ?_; rintro e w1 ⟨rfl, hb⟩; have H1 : Hid (Below (w.alloc (.cells #[.int .i64 0] 25)).heap.size (w.alloc (.cells #[.int .i64 0] 25)) w1) := hb; clear hb)
  have hr : w1.heap[w.heap.size]? = some (.cells #[.int .i64 0] 25 (0, 0)) := (H1.out.block _ (heap_lt (heap_alloc_new w _))).trans (heap_alloc_new w _)
  refine leaves_cons (f := 43) (args := #[.pointer (some ⟨w.heap.size, 0, none⟩)]) (by simp) (by simp [go_sem]) ?_
  refine (catchR_panicking ⟨w.heap.size, 0, none⟩ 0 _ [] _ (by rw [cell_of_row _ _ _ _ _ _ hr]; rfl) (frozen_of_row _ _ _ _ _ hr)).mono ?_
  rintro e u' w'' ⟨rfl, rfl, rfl⟩
  have hc : (w1.setCell ⟨w.heap.size, 0, none⟩ (.int .i64 (openE D))).cell? ⟨w.heap.size, 0, none⟩ = some (.int .i64 (openE D)) := by rw [cell_of_row _ _ _ _ _ _ (heap_setCell_same _ _ _ _ _ _ hr)]; rfl
  have hbel : Below w.heap.size w (w1.setCell ⟨w.heap.size, 0, none⟩ (.int .i64 (openE D))) := (HB.out.trans (H1.out.mono HB.out.size)).trans (Fr.below Fr.set _ (fun k hk => by rw [hk]; exact Nat.le_refl _) (Nat.le_trans HB.out.size H1.out.size))
  simp [Leaves, settle, results, Tryz.results31, go_sem, hc]
  exact hbel
set_option maxRecDepth 100000 in
set_option maxHeartbeats 1600000 in
theorem recover_nil (w : World) (D : Dk) (h : Disk w D) (hT : TabAt w) (he : openE D = 0) (hn : logN D.full D.nb = []) :
    Calls Tryz.prog 31 #[.pointer (some ⟨D.d, 0, none⟩)] w fun e w' => e = .returned (.tuple #[.int .i64 0, .int .i64 0]) ∧ Below w.heap.size w w' := by
  have hmf : ∀ (fn : Fn) (first cap : Array Value) (w : World), (Instr.makeFunc fn first cap).run Tryz.prog w = .ok (.func fn first cap) w := fun _ _ _ _ => rfl
  have HB : Hid (Below w.heap.size w (w.alloc (.cells #[.int .i64 0] 25))) := (Below.refl _ _).alloc (Nat.le_refl _) _
  have HL : Hid (Calls Tryz.prog 45 #[.pointer (some ⟨D.d, 0, none⟩)] (w.alloc (.cells #[.int .i64 0] 25)) fun e w' => ∃ a c v2, e = .returned (.tuple #[.slice a 0 c, v2]) ∧ Below (w.alloc (.cells #[.int .i64 0] 25)).heap.size (w.alloc (.cells #[.int .i64 0] 25)) w') := by
    refine (log_yes _ D (h.on HB.out) (hT.on HB.out) he).mono ?_
    rintro e w' ⟨v1, v2, L, rfl, hA⟩
    obtain ⟨a, c, rfl⟩ := hA.nums.form
    rw [hn]
    exact ⟨a, c, v2, rfl, hA.bel⟩
  clear h hT he hn
  go_enter_defers Tryz.func31, Tryz.ntmps31
  go_upto_region 3 with (go_at_call 45; refine HL.out.mono ?_; rintro e w1 ⟨a, c, v2, rfl, hb⟩; have H1 : Hid (Below (w.alloc (.cells #[.int .i64 0] 25)).heap.size (w.alloc (.cells #[.int .i64 0] 25)) w1) := hb; clear hb)
  have hr : w1.heap[w.heap.size]? = some (.cells #[.int .i64 0] 25 (0, 0)) := (H1.out.block _ (heap_lt (heap_alloc_new w _))).trans (heap_alloc_new w _)
  have HR : Hid (w1.heap[w.heap.size]? = some (.cells #[.int .i64 0] 25 (0, 0))) := hr
  have c0 : w1.cell? ⟨w.heap.size, 0, none⟩ = some (.int .i64 0) := by rw [cell_of_row _ _ _ _ _ _ hr]; rfl
  have f0 : w1.frozen? ⟨w.heap.size, 0, none⟩ = false := frozen_of_row _ _ _ _ _ hr
  clear hr
  go_wp2
  refine leaves_cons (f := 43) (args := #[.pointer (some ⟨w.heap.size, 0, none⟩)]) (by simp) (by simp [go_sem]) ?_
  refine (catchR_idle ⟨w.heap.size, 0, none⟩ _).mono ?_
  rintro e u' w'' ⟨rfl, rfl, rfl⟩
  have hc : (w1.setCell ⟨w.heap.size, 0, none⟩ (.int .i64 0)).cell? ⟨w.heap.size, 0, none⟩ = some (.int .i64 0) := by rw [cell_of_row _ _ _ _ _ _ (heap_setCell_same _ _ _ _ _ _ HR.out)]; rfl
  have hbel : Below w.heap.size w (w1.setCell ⟨w.heap.size, 0, none⟩ (.int .i64 0)) := (HB.out.trans (H1.out.mono HB.out.size)).trans (Fr.below Fr.set _ (fun k hk => by rw [hk]; exact Nat.le_refl _) (Nat.le_trans HB.out.size H1.out.size))
  simp [Leaves, settle, results, Tryz.results31, go_sem, hc]
  exact hbel
end Go.Proofs.YtckldbhaaagncaaGreatDoor
