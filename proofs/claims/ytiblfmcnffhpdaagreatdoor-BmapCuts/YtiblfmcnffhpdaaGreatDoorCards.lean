/-
  DERIVED. GIVEN WITH THE SEED: THE CARDS: each row of YtiblfmcnffhpdaaGreatDoorRows.lean that lists a variable, with what it lists TIED to the program's text (the seventh form; the later family's looks); each row that meets fmt, with fmt's text TOLD by the authors' own Lean function (tested against real Go, not proved from fmt's source: count such statements apart). THE CARD IS WHAT COUNTS. Prove the row's statement (the work); the ties are given (YtiblfmcnffhpdaaGreatDoorTie.lean); close each card by the builder's one call (the guide's Derived/Test/ToyasCard.lean, 'card_holds'). Laid BY PROGRAM, IN A SANDBOX (cutbox-door.mjs). By AI agents, Wed Nov 11 2026. No macro, syntax, notation, axiom, sorry.
-/
import Derived.Test.YtiblfmcnffhpdaaGreatDoorRows
import GoSem.ClaimSeven
namespace Go.Proofs.YtiblfmcnffhpdaaGreatDoor
namespace Rows

/-- THE TIED CARD OF 'bolelaw10.BmapLowest'. -/
def bmapLowestCard : Claim7 := { stood := { row := bmapLowestRow, standIns := [], harness := (true, "5ef10889a1bbb7ef54b05da25794c78f1ffb6dc3bf5fb9b618c3bdd78c395e3f"), looks := false }, kinds := [], alts := [], laidByText := true, laidKinds := [.data], laidTests := true, laidLooks := .later }
def BmapLowestCardSaid : Prop := Claim7.holds Tryz.pinned (.plain (OpenSpec.ofChange bmapLowestSpec)) bmapLowestCard

/-- THE TIED CARD OF 'bolelaw10.BmapFull'. -/
def bmapFullCard : Claim7 := { stood := { row := bmapFullRow, standIns := [], harness := (true, "5ef10889a1bbb7ef54b05da25794c78f1ffb6dc3bf5fb9b618c3bdd78c395e3f"), looks := false }, kinds := [], alts := [], laidByText := true, laidKinds := [.data], laidTests := true, laidLooks := .later }
def BmapFullCardSaid : Prop := Claim7.holds Tryz.pinned (.plain (OpenSpec.ofChange bmapFullSpec)) bmapFullCard

/-- THE TIED CARD OF 'bolelaw10.BmapGrows'. -/
def bmapGrowsCard : Claim7 := { stood := { row := bmapGrowsRow, standIns := [], harness := (true, "5ef10889a1bbb7ef54b05da25794c78f1ffb6dc3bf5fb9b618c3bdd78c395e3f"), looks := false }, kinds := [], alts := [], laidByText := true, laidKinds := [.data], laidTests := true, laidLooks := .later }
def BmapGrowsCardSaid : Prop := Claim7.holds Tryz.pinned (.plain (OpenSpec.ofChange bmapGrowsSpec)) bmapGrowsCard

/-- THE TIED CARD OF 'bolelaw10.BmapCuts'. -/
def bmapCutsCard : Claim7 := { stood := { row := bmapCutsRow, standIns := [], harness := (true, "5ef10889a1bbb7ef54b05da25794c78f1ffb6dc3bf5fb9b618c3bdd78c395e3f"), looks := false }, kinds := [], alts := [], laidByText := true, laidKinds := [.data], laidTests := true, laidLooks := .later }
def BmapCutsCardSaid : Prop := Claim7.holds Tryz.pinned (.plain (OpenSpec.ofChange bmapCutsSpec)) bmapCutsCard

/-- THE TIED CARD OF 'bolelaw10.BmapExact'. -/
def bmapExactCard : Claim7 := { stood := { row := bmapExactRow, standIns := [], harness := (true, "5ef10889a1bbb7ef54b05da25794c78f1ffb6dc3bf5fb9b618c3bdd78c395e3f"), looks := false }, kinds := [], alts := [], laidByText := true, laidKinds := [.data], laidTests := true, laidLooks := .later }
def BmapExactCardSaid : Prop := Claim7.holds Tryz.pinned (.plain (OpenSpec.ofChange bmapExactSpec)) bmapExactCard

/-- THE SECOND FORM's CARD OF 'bolelaw10.BmapLowest'. -/
def bmapLowestUptoCard : Claim7 := { stood := { row := bmapLowestUptoRow, standIns := [], harness := (true, "5ef10889a1bbb7ef54b05da25794c78f1ffb6dc3bf5fb9b618c3bdd78c395e3f"), looks := false }, kinds := [], alts := [], laidByText := true, laidKinds := [.data], laidTests := true, laidLooks := .later }
def BmapLowestUptoCardSaid : Prop := Claim7.holds Tryz.pinned (.plain (OpenSpec.upto bmapLowestSpec)) bmapLowestUptoCard

/-- THE SECOND FORM's CARD OF 'bolelaw10.BmapFull'. -/
def bmapFullUptoCard : Claim7 := { stood := { row := bmapFullUptoRow, standIns := [], harness := (true, "5ef10889a1bbb7ef54b05da25794c78f1ffb6dc3bf5fb9b618c3bdd78c395e3f"), looks := false }, kinds := [], alts := [], laidByText := true, laidKinds := [.data], laidTests := true, laidLooks := .later }
def BmapFullUptoCardSaid : Prop := Claim7.holds Tryz.pinned (.plain (OpenSpec.upto bmapFullSpec)) bmapFullUptoCard

/-- THE SECOND FORM's CARD OF 'bolelaw10.BmapGrows'. -/
def bmapGrowsUptoCard : Claim7 := { stood := { row := bmapGrowsUptoRow, standIns := [], harness := (true, "5ef10889a1bbb7ef54b05da25794c78f1ffb6dc3bf5fb9b618c3bdd78c395e3f"), looks := false }, kinds := [], alts := [], laidByText := true, laidKinds := [.data], laidTests := true, laidLooks := .later }
def BmapGrowsUptoCardSaid : Prop := Claim7.holds Tryz.pinned (.plain (OpenSpec.upto bmapGrowsSpec)) bmapGrowsUptoCard

/-- THE SECOND FORM's CARD OF 'bolelaw10.BmapCuts'. -/
def bmapCutsUptoCard : Claim7 := { stood := { row := bmapCutsUptoRow, standIns := [], harness := (true, "5ef10889a1bbb7ef54b05da25794c78f1ffb6dc3bf5fb9b618c3bdd78c395e3f"), looks := false }, kinds := [], alts := [], laidByText := true, laidKinds := [.data], laidTests := true, laidLooks := .later }
def BmapCutsUptoCardSaid : Prop := Claim7.holds Tryz.pinned (.plain (OpenSpec.upto bmapCutsSpec)) bmapCutsUptoCard

/-- THE SECOND FORM's CARD OF 'bolelaw10.BmapExact'. -/
def bmapExactUptoCard : Claim7 := { stood := { row := bmapExactUptoRow, standIns := [], harness := (true, "5ef10889a1bbb7ef54b05da25794c78f1ffb6dc3bf5fb9b618c3bdd78c395e3f"), looks := false }, kinds := [], alts := [], laidByText := true, laidKinds := [.data], laidTests := true, laidLooks := .later }
def BmapExactUptoCardSaid : Prop := Claim7.holds Tryz.pinned (.plain (OpenSpec.upto bmapExactSpec)) bmapExactUptoCard
end Rows
end Go.Proofs.YtiblfmcnffhpdaaGreatDoor
