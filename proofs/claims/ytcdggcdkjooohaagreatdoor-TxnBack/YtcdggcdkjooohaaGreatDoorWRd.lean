import Derived.Test.YtcdggcdkjooohaaGreatDoorWSt
import Derived.Defers
import Derived.Recover
namespace Go.Proofs.YtcdggcdkjooohaaGreatDoor
open Go.RowKit Rec

/-- what is given up with -/
abbrev gaveV (e : Int) : Value := .iface 32 (.int .i64 e)
abbrev gave (e : Int) : Ending := .panicked [{ v := gaveV e, recovered := false }]
set_option maxRecDepth 100000 in
theorem must_yes (w : World) (e : Int) : Calls Tryz.prog 89 #[.bool true, .int .i64 e] w fun r w' => r = .returned (.tuple #[]) ∧ w = w' := by
  go_enter Tryz.func89, Tryz.ntmps89
  go_wp2
  go_end0
  exact ⟨rfl, rfl⟩
set_option maxRecDepth 100000 in
theorem must_no (w : World) (e : Int) : Calls Tryz.prog 89 #[.bool false, .int .i64 e] w fun r w' => r = gave e ∧ w = w' := by
  go_enter Tryz.func89, Tryz.ntmps89
  go_wp2
  exact ⟨rfl, rfl, rfl⟩
set_option maxRecDepth 100000 in
set_option maxHeartbeats 1600000 in
theorem wread_yes (w : World) (D : Dk) (h : Disk w D) (i : Nat) (hi : i < D.nb) (hd : D.down = false) : Calls Tryz.prog 87 #[.pointer (some ⟨D.d, 0, none⟩), .int .i64 i] w fun e w' => ∃ g cap, e = .returned (.slice (some ⟨g, 0, none⟩) 512 cap) ∧ w.heap.size ≤ g ∧ OwnB w' g cap (bck D.full i) ∧ Below w.heap.size w w' := by
  have HR : Hid (Calls Tryz.prog 19 #[.pointer (some ⟨D.d, 0, none⟩), .int .i64 i] w fun e w' => ∃ g cap, e = .returned (.tuple #[.slice (some ⟨g, 0, none⟩) 512 cap, .int .i64 0]) ∧ w.heap.size ≤ g ∧ OwnB w' g cap (bck D.full i) ∧ Below w.heap.size w w') := read_yes w D h i hi hd
  clear h hi hd
  go_enter Tryz.func87, Tryz.ntmps87
  go_wp2_with (first
    | (go_at_call 19; refine HR.out.mono ?_; rintro e w1 ⟨g, cap, rfl, h1, h2, h3⟩; have H1 : Hid (w.heap.size ≤ g ∧ OwnB w1 g cap (bck D.full i) ∧ Below w.heap.size w w1) := ⟨h1, h2, h3⟩; clear h1 h2 h3)
    | (go_at_call 89; refine (must_yes _ _).mono ?_; rintro e w' ⟨rfl, rfl⟩))
  go_ret
  exact ⟨g, cap, rfl, H1.out⟩
set_option maxRecDepth 100000 in
set_option maxHeartbeats 1600000 in
theorem wread_no (w : World) (D : Dk) (h : Disk w D) (i : Int) (ht : touchE D i ≠ 0) : Calls Tryz.prog 87 #[.pointer (some ⟨D.d, 0, none⟩), .int .i64 i] w fun e w' => e = gave (touchE D i) ∧ w = w' := by
  have HR : Hid (Calls Tryz.prog 19 #[.pointer (some ⟨D.d, 0, none⟩), .int .i64 i] w fun e w' => e = .returned (.tuple #[.slice none 0 0, .int .i64 (touchE D i)]) ∧ w = w') := read_no w D h i ht
  have hn : (touchE D i == 0) = false := by simpa using ht
  clear h ht
  go_enter Tryz.func87, Tryz.ntmps87
  go_wp2_with (first
    | (go_at_call 19; refine HR.out.mono ?_; rintro e w1 ⟨rfl, rfl⟩)
    | (go_at_call 89; refine (must_no _ _).mono ?_; rintro e w' ⟨rfl, rfl⟩))
  exact ⟨rfl, rfl, rfl⟩
end Go.Proofs.YtcdggcdkjooohaaGreatDoor
