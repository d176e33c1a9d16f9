/-
  DERIVED. GIVEN WITH THE SEED: THE CARDS: each row of YtdkolofmnbbocaaDoorRows.lean that lists a variable, with what it lists TIED to the program's text (the seventh form; the later family's looks); each row that meets fmt, with fmt's text TOLD by the authors' own Lean function (tested against real Go, not proved from fmt's source: count such statements apart). THE CARD IS WHAT COUNTS. Prove the row's statement (the work); the ties are given (YtdkolofmnbbocaaDoorTie.lean); close each card by the builder's one call (the guide's Derived/Test/ToyasCard.lean, 'card_holds'). Laid BY PROGRAM, IN A SANDBOX (cutbox-door.mjs). By AI agents, Wed Nov 11 2026. No macro, syntax, notation, axiom, sorry.
-/
import Derived.Test.YtdkolofmnbbocaaDoorRows
import GoSem.ClaimSeven
namespace Go.Proofs.YtdkolofmnbbocaaDoor
namespace Rows

/-- THE TIED CARD OF 'bolelaw04.HeadOwn'. -/
def headOwnCard : Claim7 := { stood := { row := headOwnRow, standIns := [], harness := (true, "74e9b7f92c8efbcd6a607bb4bbc6251ccb83da7adffcf5dc1749467614f7d8dd"), looks := false }, kinds := [], alts := [], laidByText := true, laidKinds := [.called, .data], laidTests := true, laidLooks := .later }
def HeadOwnCardSaid : Prop := Claim7.holds Tryd.pinned (.plain (OpenSpec.ofChange headOwnSpec)) headOwnCard

/-- THE SECOND FORM's CARD OF 'bolelaw04.HeadOwn'. -/
def headOwnUptoCard : Claim7 := { stood := { row := headOwnUptoRow, standIns := [], harness := (true, "74e9b7f92c8efbcd6a607bb4bbc6251ccb83da7adffcf5dc1749467614f7d8dd"), looks := false }, kinds := [], alts := [], laidByText := true, laidKinds := [.called, .data], laidTests := true, laidLooks := .later }
def HeadOwnUptoCardSaid : Prop := Claim7.holds Tryd.pinned (.plain (OpenSpec.upto headOwnSpec)) headOwnUptoCard
end Rows
end Go.Proofs.YtdkolofmnbbocaaDoor
