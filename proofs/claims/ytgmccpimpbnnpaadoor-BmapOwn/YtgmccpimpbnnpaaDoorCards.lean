/-
  DERIVED. GIVEN WITH THE SEED: THE CARDS: each row of YtgmccpimpbnnpaaDoorRows.lean that lists a variable, with what it lists TIED to the program's text (the seventh form; the later family's looks); each row that meets fmt, with fmt's text TOLD by the authors' own Lean function (tested against real Go, not proved from fmt's source: count such statements apart). THE CARD IS WHAT COUNTS. Prove the row's statement (the work); the ties are given (YtgmccpimpbnnpaaDoorTie.lean); close each card by the builder's one call (the guide's Derived/Test/ToyasCard.lean, 'card_holds'). Laid BY PROGRAM, IN A SANDBOX (cutbox-door.mjs). By AI agents, Wed Nov 11 2026. No macro, syntax, notation, axiom, sorry.
-/
import Derived.Test.YtgmccpimpbnnpaaDoorRows
import GoSem.ClaimSeven
namespace Go.Proofs.YtgmccpimpbnnpaaDoor
namespace Rows

/-- THE TIED CARD OF 'bolelaw10.BmapOwn'. -/
def bmapOwnCard : Claim7 := { stood := { row := bmapOwnRow, standIns := [], harness := (true, "bf957ce0e885024f0fd73a46925644434ce64fdf7b6223a1aec8613b6b3442e3"), looks := false }, kinds := [], alts := [], laidByText := true, laidKinds := [.data], laidTests := true, laidLooks := .later }
def BmapOwnCardSaid : Prop := Claim7.holds Tryd.pinned (.plain (OpenSpec.ofChange bmapOwnSpec)) bmapOwnCard

/-- THE SECOND FORM's CARD OF 'bolelaw10.BmapOwn'. -/
def bmapOwnUptoCard : Claim7 := { stood := { row := bmapOwnUptoRow, standIns := [], harness := (true, "bf957ce0e885024f0fd73a46925644434ce64fdf7b6223a1aec8613b6b3442e3"), looks := false }, kinds := [], alts := [], laidByText := true, laidKinds := [.data], laidTests := true, laidLooks := .later }
def BmapOwnUptoCardSaid : Prop := Claim7.holds Tryd.pinned (.plain (OpenSpec.upto bmapOwnSpec)) bmapOwnUptoCard
end Rows
end Go.Proofs.YtgmccpimpbnnpaaDoor
