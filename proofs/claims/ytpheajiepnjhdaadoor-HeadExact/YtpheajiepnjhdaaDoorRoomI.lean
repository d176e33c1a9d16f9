import Derived.Test.YtpheajiepnjhdaaDoorRoomN
namespace Go.Proofs.YtpheajiepnjhdaaDoor
open Go.RowKit Rec

set_option maxRecDepth 100000 in
set_option maxHeartbeats 1600000 in
theorem in_any (B : Nat) (w : World) (p : Nat) (ds : List (List Int)) (m gD cD : Nat) (sF : Value) (vs fs : List Value) (gm : Nat) (h : RoomEnd B w p ds m gD cD sF vs fs gm) (hm9 : m ≤ 5864062014634) :
    Calls Tryd.prog 16 #[.pointer (some ⟨p, 0, none⟩)] w fun e w' => e = .returned (.slice (some ⟨gD, 0, none⟩) m cD) ∧ Below w.heap.size w w' := by
  obtain ⟨aF, cF, rfl⟩ := own_form h.ful
  have q0 : w.cell? ⟨p, 0, none⟩ = some (.slice (some ⟨gD, 0, none⟩) (m + 1) cD) := by rw [cell_of_row _ _ _ _ _ _ h.row]; rfl
  have q1 : w.cell? ⟨p, 1, none⟩ = some (.slice aF m cF) := by rw [cell_of_row _ _ _ _ _ _ h.row]; rfl
  have hc := own_cap h.dat
  have hc' : (m : Int) ≤ (cD : Int) := by omega
  have hc0 : (0 : Int) ≤ (m : Int) := by omega
  clear h hc
  go_enter Tryd.func16, Tryd.ntmps16
  go_wp2
  go_quiet (fail)
  go_wp2
  go_ret
  exact ⟨rfl, below_drewN (Below.refl _ _) _⟩
theorem RoomEnd.data {B : Nat} {w : World} {p : Nat} {ds : List (List Int)} {m gD cD : Nat} {sF : Value} {vs fs : List Value} {gm : Nat} (h : RoomEnd B w p ds m gD cD sF vs fs gm) (hm : ds.length = m) (hl : m ≤ 1000000000000000) : Data w (some ⟨gD, 0, none⟩) ds := by
  have hvl : vs.length = m := by have := h.dat.1; rw [List.length_append] at this; simp at this; omega
  refine ⟨by omega, .inr ⟨gD, 0, rfl, fun i hi => ?_⟩⟩
  obtain ⟨g, c, h1, _, h3, _⟩ := h.els i (by omega)
  refine ⟨Option.some ⟨g, 0, none⟩, c, ?_, ?_, fun e => by cases e⟩
  · have := h.dat.cells (g := gD) rfl i _ (show (vs ++ [Value.slice (some ⟨gm, 0, none⟩) 4 4])[i]? = some _ by rw [List.getElem?_append_left (by omega)]; exact h1)
    rw [Addr.add_lit] at this
    exact this
  · have := h3.bytes.take (Go.Proofs.YtpheajiepnjhdaaDoor.row ds i).length
    rwa [List.take_left] at this
end Go.Proofs.YtpheajiepnjhdaaDoor
