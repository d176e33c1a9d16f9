/-
  DERIVED. GIVEN WITH THE SEED: THE CARDS: each row of YtdheojhfgeabhaaDoorRows.lean that lists a variable, with what it lists TIED to the program's text (the seventh form; the later family's looks); each row that meets fmt, with fmt's text TOLD by the authors' own Lean function (tested against real Go, not proved from fmt's source: count such statements apart). THE CARD IS WHAT COUNTS. Prove the row's statement (the work); the ties are given (YtdheojhfgeabhaaDoorTie.lean); close each card by the builder's one call (the guide's Derived/Test/ToyasCard.lean, 'card_holds'). Laid BY PROGRAM, IN A SANDBOX (cutbox-door.mjs). By AI agents, Wed Nov 11 2026. No macro, syntax, notation, axiom, sorry.
-/
import Derived.Test.YtdheojhfgeabhaaDoorRows
import GoSem.ClaimSeven
namespace Go.Proofs.YtdheojhfgeabhaaDoor
namespace Rows

/-- THE TIED CARD OF 'bolelaw11.InodeBytes'. -/
def inodeBytesCard : Claim7 := { stood := { row := inodeBytesRow, standIns := [], harness := (true, "55006c5be50feac4a8296c4829b52541b5be1b8573e4d1631ef6ba5bc7ce20dd"), looks := false }, kinds := [], alts := [], laidByText := true, laidKinds := [.data], laidTests := true, laidLooks := .later }
def InodeBytesCardSaid : Prop := Claim7.holds Tryd.pinned (.plain (OpenSpec.ofChange inodeBytesSpec)) inodeBytesCard

/-- THE SECOND FORM's CARD OF 'bolelaw11.InodeBytes'. -/
def inodeBytesUptoCard : Claim7 := { stood := { row := inodeBytesUptoRow, standIns := [], harness := (true, "55006c5be50feac4a8296c4829b52541b5be1b8573e4d1631ef6ba5bc7ce20dd"), looks := false }, kinds := [], alts := [], laidByText := true, laidKinds := [.data], laidTests := true, laidLooks := .later }
def InodeBytesUptoCardSaid : Prop := Claim7.holds Tryd.pinned (.plain (OpenSpec.upto inodeBytesSpec)) inodeBytesUptoCard
end Rows
end Go.Proofs.YtdheojhfgeabhaaDoor
