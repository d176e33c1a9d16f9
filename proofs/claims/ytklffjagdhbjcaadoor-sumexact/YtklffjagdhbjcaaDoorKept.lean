import Derived.Test.YtklffjagdhbjcaaDoorRoomy
import Derived.Test.YtklffjagdhbjcaaDoorTurnsA
import Derived.Laws.BytesArg
namespace Go.Proofs.YtklffjagdhbjcaaDoor
open Go.RowKit
open Crc (W)

theorem str_of {w : World} {a : Option Addr} {n c : Nat} {l : List Int} (hB : Bytes w a l) (hn : l.length = n) (hz : a = none → n = 0) :
    ∃ s : ByteArray, s = strOfNums l ∧ ∀ k, (convert 24 9 (.slice a n c)).run Tryd.prog (w.drewN k) = .ok (.string s) (w.drewN k) := by
  refine ⟨_, rfl, fun k => ?_⟩
  cases a with
  | none =>
    have h0 := hz rfl
    subst h0
    have hl : l = [] := List.eq_nil_of_length_eq_zero hn
    subst hl
    exact run_convert_bytes_nil (P := Tryd.prog) (w.drewN k) 24 5 Tryd.underlying24 Tryd.underlying5 0 c 9 Tryd.underlying9
  | some p =>
    rcases hB.at_ with e | ⟨b, off, e, hc⟩
    · subst e
      simp at hn
      subst hn
      rw [run_convert_bytes_string (w.drewN k) 24 9 5 _ 0 c Tryd.underlying24 Tryd.underlying5 Tryd.underlying9]
      have hl : (loadCells p 0).run Tryd.prog (w.drewN k) = .ok ((([] : List Int).map (Value.int .u8)).toArray) (w.drewN k) := by
        have := run_loadCells_list (P := Tryd.prog) (w.drewN k) p [] (fun j v h => by simp at h)
        simpa using this
      rw [run_bytesToString (w.drewN k) p 0 c [] hl]
      rfl
    · cases e
      exact run_convert_bytes_arg (P := Tryd.prog) (w.drewN k) 24 5 Tryd.underlying24 Tryd.underlying5 b off n c l hn (fun i hi => hc i (by omega)) 9 Tryd.underlying9

set_option maxRecDepth 100000 in
set_option maxHeartbeats 800000 in
theorem kept_any (w : World) (g cap n c : Nat) (a : Option Addr) (l : List Int) (hn : l.length = n) (hO : OwnB w g cap (l ++ marks)) (hB : Bytes w a l) (hs : n ≤ 140737488351232) :
    Calls Tryd.prog 18 #[.slice (some ⟨g, 0, none⟩) n cap, .slice a n c] w fun e w' => e = .returned (.bool true) ∧ Below w.heap.size w w' := by
  have hr : n + 3 ≤ cap := by have := hO.room; rw [List.length_append, hn] at this; exact this
  have m0 : w.cell? ⟨g, n, none⟩ = some (.int .u8 209) := by rw [hO.cell n (by simp [marks]; omega)]; subst hn; simp [nth, marks]
  have m1 : w.cell? ⟨g, n + 1, none⟩ = some (.int .u8 210) := by rw [hO.cell (n + 1) (by simp [marks]; omega)]; subst hn; simp [nth, marks]
  have m2 : w.cell? ⟨g, n + 2, none⟩ = some (.int .u8 211) := by rw [hO.cell (n + 2) (by simp [marks]; omega)]; subst hn; simp [nth, marks]
  have hB1 : Bytes w (some ⟨g, 0, none⟩) l := by
    have := hO.bytes.take n
    rwa [List.take_left' hn] at this
  obtain ⟨s1, e1, k1⟩ := str_of (c := cap) hB1 hn (fun h => (nomatch h))
  obtain ⟨s2, e2, k2⟩ := str_of (c := c) hB hn (fun h => by have := hB.at_; rcases this with e | ⟨_, _, e, _⟩; · rw [e] at hn; simpa using hn.symm
                                                            · rw [h] at e; cases e)
  have hss : s1 = s2 := e1.trans e2.symm
  subst hss
  clear e1 e2 hB1 hB hO hn
  go_enter Tryd.func18, Tryd.ntmps18
  go_wp2
  go_quiet (fail)
  go_wp2
  go_ret
  exact ⟨rfl, below_drewN (Below.refl _ _) _⟩
end Go.Proofs.YtklffjagdhbjcaaDoor
