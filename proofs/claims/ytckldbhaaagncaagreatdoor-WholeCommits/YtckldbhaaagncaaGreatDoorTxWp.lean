import Derived.Test.YtckldbhaaagncaaGreatDoorTxWn
namespace Go.Proofs.YtckldbhaaagncaaGreatDoor
open Go.RowKit Go.Maps Rec

section
variable {w0 wr wz : World} {nb : Nat} {R : List (Nat × Array Value × Nat)} {E F : Dk} {l : List Int} {sI sN : Value} {is next : List Int} {i d0 n c g : Nat}
theorem WcA.succ (h : WcA w0 nb R wr E l sI is i) : WcA w0 nb R wr E l sI is (i + 1) :=
  ⟨h.mine, h.rest, h.hol, by have := h.c1; omega, by have := h.c2; omega, by have := h.c3; omega, h.c4, h.ints, h.il, h.ir, h.ap, h.kp⟩
theorem WcA.tail {r : Nat × Array Value × Nat} (h : WcA w0 nb (r :: R) wr E l sI is i) : WcA w0 nb R wr E l sI is i :=
  ⟨h.mine, h.rest, h.hol, h.c1, h.c2, h.c3, h.c4, h.ints, h.il, h.ir, h.ap, fun q hq => h.kp q (.tail _ hq)⟩
theorem wcF_holds (hM : Mine w0 wr F) (hR : Rest F.abs nb l) (hI : IntsAt wr (.slice (some ⟨g, 0, none⟩) n c) is) (hil : is.length = n) (h98 : 98 + n ≤ nb) (hir : ∀ k, -1 ≤ nth is k ∧ nth is k < 1000) (hd : F.d = d0) (z : Bool) (hz : z = true ↔ HoldsL l is) :
    Calls Tryz.prog 14 #[.slice (some ⟨g, 0, none⟩) n c, .pointer (some ⟨d0, 0, none⟩)] wr fun e w' => e = .returned (.bool z) ∧ Below wr.heap.size wr w' := by
  subst hd
  refine holds_any wr F hM.disk hR.down (some ⟨g, 0, none⟩) n c is hI hil ?_ (fun k _ => (hir k).2) z ?_
  · have : F.nb = nb := hR.size
    omega
  · rw [hR.fullD]; exact hz
theorem wcA_holds (h : WcA w0 nb R wr E l (.slice (some ⟨g, 0, none⟩) n c) is i) (hn : nb - 98 = n) (h98 : 98 ≤ nb) (hd : E.d = d0) :
    Calls Tryz.prog 14 #[.slice (some ⟨g, 0, none⟩) n c, .pointer (some ⟨d0, 0, none⟩)] wr fun e w' => e = .returned (.bool true) ∧ Below wr.heap.size wr w' :=
  wcF_holds h.mine h.rest h.ints (by rw [h.il]; exact hn) (by omega) h.ir hd true ⟨fun _ => h.hol, fun _ => rfl⟩
theorem wcA_pending (h : WcA w0 nb R wr E l sI is i) (hd : E.d = d0) :
    Calls Tryz.prog 18 #[.pointer (some ⟨d0, 0, none⟩)] wr fun e w' => ∃ g c, e = .returned (.slice (some ⟨g, 0, none⟩) 0 c) ∧ Below wr.heap.size wr w' := by
  subst hd
  have hp : E.pen.length = 0 := by
    have h1 : E.abs.P = [] := h.rest.pen
    have h2 := congrArg List.length h1
    simpa [Dk.abs] using h2
  refine (pending_any wr E h.mine.disk).mono ?_
  rintro e w' ⟨g, c, rfl, _, _, hb⟩
  rw [hp]
  exact ⟨g, c, rfl, hb⟩
theorem wcE_down {fb : Bool} (h : WcE w0 nb R sI sN is next i wr E d0 fb) : Calls Tryz.prog 17 #[.pointer (some ⟨d0, 0, none⟩)] wr fun e w' => e = .returned (.bool fb) ∧ wr = w' := by
  have := down_any wr E h.mine.disk
  rw [h.d, h.down] at this
  exact this
theorem wc_after (hM : Mine w0 wz F) (hR : Rest F.abs nb F.las) (h1 : F.abs.wr ≤ 1000) (h2 : F.abs.fl ≤ 1000) (h3 : F.abs.T.length ≤ 1000) (h4 : F.abs.keep = []) (hF : ∀ g, g < wr.heap.size → ¬ F.all g) (hb : Below wr.heap.size wr wz)
    (hN : Nd wr E sN next) (hol : HoldsL F.las next) (hl : next.length = nb - 98) (hr : ∀ k, -1 ≤ nth next k ∧ nth next k < 1000) (hk : Kp wr R) : WcA w0 nb R wz F F.las sN next (i + 1) :=
  ⟨hM, hR, hol, Nat.le_trans h1 (Nat.le_add_right _ _), Nat.le_trans h2 (Nat.le_add_right _ _), Nat.le_trans h3 (Nat.le_add_right _ _), h4, (hN.on hb).ints, hl, hr, fun g hg => ⟨hF g (hN.ap g hg).2, Nat.lt_of_lt_of_le (hN.ap g hg).2 hb.size⟩, hk.on hb⟩
end
end Go.Proofs.YtckldbhaaagncaaGreatDoor
