import Derived.Test.YtleakaddlgpamaaDoorInL
import Derived.Deep.OwnRows
namespace Go.Proofs.YtleakaddlgpamaaDoor
open Go.RowKit Go.Maps Rec

theorem info_ino : (Tryd.prog.info? 24).map (fun i => (i.zero, i.size, i.bytes)) = some (some (inV z15), 15, 120) := by kernel_rfl
/-- 'make([]api.Inode, C)' -/
theorem make15 (C : Nat) (hC : C ≤ 100000) : ∃ o : Obj, (∀ w : World, (Instr.makeSlice 38 (.int .i64 (C : Int)) (.int .i64 (C : Int))).run Tryd.prog w = .ok (.slice (some ⟨w.heap.size, 0, none⟩) C C) (w.alloc o)) ∧ ∀ w : World, (w.alloc o).rowIs w.heap.size 24 (C * 15) (fun _ => .int .i64 0) := by
  obtain ⟨i0, hi, hz0, hz1, hz2⟩ := info_parts info_ino
  refine ⟨.cells (madeCells (inC z15) (C * 15)) 24, fun w => ?_, fun w => ⟨_, heap_alloc_new _ _, size_madeCells _ _, fun i hi => ?_⟩⟩
  · have := run_make (P := Tryd.prog) w 38 24 i0 _ Tryd.underlying38 hi hz0 .i64 .i64 (C : Int) (C : Int) (by omega) (Int.le_refl _) (by rw [hz2]; omega) (by omega)
    rw [hz1, Int.toNat_natCast] at this
    exact this
  · have h15 : (inC z15).size = 15 := rfl
    have hm : i % 15 < 15 := Nat.mod_lt _ (by omega)
    have e : (inC z15)[i % 15]! = .int .i64 0 := by
      have := inC_at z15 (i % 15) hm
      rw [getElem!_def, this]
      rfl
    unfold madeCells
    rw [Array.getElem?_map, Array.getElem?_range, if_pos hi]
    show some ((inC z15)[i % (inC z15).size]!) = _
    rw [h15, e]
set_option maxRecDepth 100000 in
set_option maxHeartbeats 1600000 in
theorem copied3_any (w : World) (p : Addr) (n c : Nat) (l : List Int) (hb : Bytes w (some p) l) (hl : l.length = n) (h0 : 0 < n) (h1 : n ≤ 100000000) : Calls Tryd.prog 53 #[.slice (some p) n c] w fun e w' => ∃ g cap, e = .returned (.slice (some ⟨g, 0, none⟩) n cap) ∧ Below w.heap.size w w' := by
  have HB : Hid (Bytes w (some p) l ∧ l.length = n) := ⟨hb, hl⟩
  clear hb hl
  go_enter Tryd.func53, Tryd.ntmps53
  go_wp2_with (at_builtin; refine wp_bown rfl (.tmp 4) (.tmp 5) rfl (.slice none 0 0) 0 [] rfl ⟨rfl, .inl ⟨rfl, rfl⟩⟩ p n c l rfl h0 HB.out.2 HB.out.1 (by omega) ?_; intro g cap w1 h1 h2 h3; have H1 : Hid (Below w.heap.size w w1) := h2.below _ (fun k hk => by cases hk) (Nat.le_refl _); clear h1 h2 h3)
  go_ret
  exact ⟨g, cap, rfl, H1.out⟩
set_option maxRecDepth 100000 in
set_option maxHeartbeats 1600000 in
theorem r3of_any (w : World) (p : Addr) (n c : Nat) (l : List Int) (hb : Bytes w (some p) l) (hl : l.length = 512 * n) (h0 : 1 ≤ n) (h1 : n ≤ 16384) : Calls Tryd.prog 32 #[.slice (some p) (512 * n : Nat) c] w fun e w' => ∃ r, e = .returned (.tuple #[.pointer (some ⟨r, 0, none⟩), .int .i64 0]) ∧ Below w.heap.size w w' := by
  obtain ⟨K, hK⟩ : ∃ K, 512 * n = K := ⟨_, rfl⟩
  rw [hK]
  have HC : Hid (Calls Tryd.prog 53 #[.slice (some p) K c] w fun e w' => ∃ g cap, e = .returned (.slice (some ⟨g, 0, none⟩) K cap) ∧ Below w.heap.size w w') := copied3_any w p K c l hb (by omega) (by omega) (by omega)
  have k0 : ¬ (K : Int) = 0 := by omega
  have k0' : 0 < K := by omega
  have k1 : (K : Int) % 512 = 0 := by omega
  have k2 : (K : Int) / 512 = (n : Int) := by omega
  have k3 : (K : Int) ≤ 100000000 := by omega
  have k4 : ((K : Int) == 0) = false := by simp; omega
  have k5 : ¬ (16384 : Int) < (n : Int) := by omega
  have k6 : decide ((n : Int) > 16384) = false := by simp; omega
  have k7 : decide ((16384 : Int) < (n : Int)) = false := by simp; omega
  clear hb hl hK
  go_enter Tryd.func32, Tryd.ntmps32
  go_wp2_with (go_at_call 53; refine HC.out.mono ?_; rintro e w1 ⟨g, cap, rfl, h2⟩; have H2 : Hid (Below w.heap.size w w1) := h2; clear h2)
  go_ret2
  exact ⟨_, rfl, H2.out.alloc H2.out.size _⟩
set_option maxRecDepth 100000 in
theorem r6begin_any (w : World) (r : Nat) : Calls Tryd.prog 33 #[.pointer (some ⟨r, 0, none⟩)] w fun e w' => ∃ t, e = .returned (.pointer (some ⟨t, 0, none⟩)) ∧ Below w.heap.size w w' := by
  go_enter Tryd.func33, Tryd.ntmps33
  go_wp2
  go_ret
  exact ⟨_, rfl, (Below.refl _ _).alloc (Nat.le_refl _) _⟩
end Go.Proofs.YtleakaddlgpamaaDoor
