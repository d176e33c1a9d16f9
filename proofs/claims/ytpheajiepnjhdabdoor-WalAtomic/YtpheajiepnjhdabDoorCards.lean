/-
  DERIVED. GIVEN WITH THE SEED: THE CARDS: each row of YtpheajiepnjhdabDoorRows.lean that lists a variable, with what it lists TIED to the program's text (the seventh form; the later family's looks); each row that meets fmt, with fmt's text TOLD by the authors' own Lean function (tested against real Go, not proved from fmt's source: count such statements apart). THE CARD IS WHAT COUNTS. Prove the row's statement (the work); the ties are given (YtpheajiepnjhdabDoorTie.lean); close each card by the builder's one call (the guide's Derived/Test/ToyasCard.lean, 'card_holds'). Laid BY PROGRAM, IN A SANDBOX (cutbox-door.mjs). By AI agents, Wed Nov 11 2026. No macro, syntax, notation, axiom, sorry.
-/
import Derived.Test.YtpheajiepnjhdabDoorRows
import GoSem.ClaimSeven
namespace Go.Proofs.YtpheajiepnjhdabDoor
namespace Rows

/-- THE TIED CARD OF 'bolelaw05.WalAtomic'. -/
def walAtomicCard : Claim7 := { stood := { row := walAtomicRow, standIns := [], harness := (true, "efc079c86db0bdd232040be43c6ff9146ae80abf72f7f1b7f608399d448a9898"), looks := true }, kinds := [], alts := [], laidByText := true, laidKinds := [.called, .data], laidTests := true, laidLooks := .later }
def WalAtomicCardSaid : Prop := Claim7.holds Tryd.pinned (.plain (OpenSpec.ofChange walAtomicSpec)) walAtomicCard

/-- THE SECOND FORM's CARD OF 'bolelaw05.WalAtomic'. -/
def walAtomicUptoCard : Claim7 := { stood := { row := walAtomicUptoRow, standIns := [], harness := (true, "efc079c86db0bdd232040be43c6ff9146ae80abf72f7f1b7f608399d448a9898"), looks := true }, kinds := [], alts := [], laidByText := true, laidKinds := [.called, .data], laidTests := true, laidLooks := .later }
def WalAtomicUptoCardSaid : Prop := Claim7.holds Tryd.pinned (.plain (OpenSpec.upto walAtomicSpec)) walAtomicUptoCard
end Rows
end Go.Proofs.YtpheajiepnjhdabDoor
