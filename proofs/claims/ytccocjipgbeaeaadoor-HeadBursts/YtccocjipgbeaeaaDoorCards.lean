/-
  DERIVED. GIVEN WITH THE SEED: THE CARDS: each row of YtccocjipgbeaeaaDoorRows.lean that lists a variable, with what it lists TIED to the program's text (the seventh form; the later family's looks); each row that meets fmt, with fmt's text TOLD by the authors' own Lean function (tested against real Go, not proved from fmt's source: count such statements apart). THE CARD IS WHAT COUNTS. Prove the row's statement (the work); the ties are given (YtccocjipgbeaeaaDoorTie.lean); close each card by the builder's one call (the guide's Derived/Test/ToyasCard.lean, 'card_holds'). Laid BY PROGRAM, IN A SANDBOX (cutbox-door.mjs). By AI agents, Wed Nov 11 2026. No macro, syntax, notation, axiom, sorry.
-/
import Derived.Test.YtccocjipgbeaeaaDoorRows
import GoSem.ClaimSeven
namespace Go.Proofs.YtccocjipgbeaeaaDoor
namespace Rows

/-- THE TIED CARD OF 'bolelaw04.HeadOnce'. -/
def headOnceCard : Claim7 := { stood := { row := headOnceRow, standIns := [], harness := (true, "a7da0992908bbae23296b622a4a23333de959b03987350b9dd712df484be970c"), looks := false }, kinds := [], alts := [], laidByText := true, laidKinds := [.called, .data], laidTests := true, laidLooks := .later }
def HeadOnceCardSaid : Prop := Claim7.holds Tryd.pinned (.plain (OpenSpec.ofChange headOnceSpec)) headOnceCard

/-- THE TIED CARD OF 'bolelaw04.HeadBack'. -/
def headBackCard : Claim7 := { stood := { row := headBackRow, standIns := [], harness := (true, "a7da0992908bbae23296b622a4a23333de959b03987350b9dd712df484be970c"), looks := false }, kinds := [], alts := [], laidByText := true, laidKinds := [.called, .data], laidTests := true, laidLooks := .later }
def HeadBackCardSaid : Prop := Claim7.holds Tryd.pinned (.plain (OpenSpec.ofChange headBackSpec)) headBackCard

/-- THE TIED CARD OF 'bolelaw04.HeadBursts'. -/
def headBurstsCard : Claim7 := { stood := { row := headBurstsRow, standIns := [], harness := (true, "a7da0992908bbae23296b622a4a23333de959b03987350b9dd712df484be970c"), looks := false }, kinds := [], alts := [], laidByText := true, laidKinds := [.called, .data], laidTests := true, laidLooks := .later }
def HeadBurstsCardSaid : Prop := Claim7.holds Tryd.pinned (.plain (OpenSpec.ofChange headBurstsSpec)) headBurstsCard

/-- THE TIED CARD OF 'bolelaw04.HeadOwn'. -/
def headOwnCard : Claim7 := { stood := { row := headOwnRow, standIns := [], harness := (true, "a7da0992908bbae23296b622a4a23333de959b03987350b9dd712df484be970c"), looks := false }, kinds := [], alts := [], laidByText := true, laidKinds := [.called, .data], laidTests := true, laidLooks := .later }
def HeadOwnCardSaid : Prop := Claim7.holds Tryd.pinned (.plain (OpenSpec.ofChange headOwnSpec)) headOwnCard

/-- THE TIED CARD OF 'bolelaw04.HeadExact'. -/
def headExactCard : Claim7 := { stood := { row := headExactRow, standIns := [], harness := (true, "a7da0992908bbae23296b622a4a23333de959b03987350b9dd712df484be970c"), looks := false }, kinds := [], alts := [], laidByText := true, laidKinds := [.called, .data], laidTests := true, laidLooks := .later }
def HeadExactCardSaid : Prop := Claim7.holds Tryd.pinned (.plain (OpenSpec.ofChange headExactSpec)) headExactCard

/-- THE SECOND FORM's CARD OF 'bolelaw04.HeadOnce'. -/
def headOnceUptoCard : Claim7 := { stood := { row := headOnceUptoRow, standIns := [], harness := (true, "a7da0992908bbae23296b622a4a23333de959b03987350b9dd712df484be970c"), looks := false }, kinds := [], alts := [], laidByText := true, laidKinds := [.called, .data], laidTests := true, laidLooks := .later }
def HeadOnceUptoCardSaid : Prop := Claim7.holds Tryd.pinned (.plain (OpenSpec.upto headOnceSpec)) headOnceUptoCard

/-- THE SECOND FORM's CARD OF 'bolelaw04.HeadBack'. -/
def headBackUptoCard : Claim7 := { stood := { row := headBackUptoRow, standIns := [], harness := (true, "a7da0992908bbae23296b622a4a23333de959b03987350b9dd712df484be970c"), looks := false }, kinds := [], alts := [], laidByText := true, laidKinds := [.called, .data], laidTests := true, laidLooks := .later }
def HeadBackUptoCardSaid : Prop := Claim7.holds Tryd.pinned (.plain (OpenSpec.upto headBackSpec)) headBackUptoCard

/-- THE SECOND FORM's CARD OF 'bolelaw04.HeadBursts'. -/
def headBurstsUptoCard : Claim7 := { stood := { row := headBurstsUptoRow, standIns := [], harness := (true, "a7da0992908bbae23296b622a4a23333de959b03987350b9dd712df484be970c"), looks := false }, kinds := [], alts := [], laidByText := true, laidKinds := [.called, .data], laidTests := true, laidLooks := .later }
def HeadBurstsUptoCardSaid : Prop := Claim7.holds Tryd.pinned (.plain (OpenSpec.upto headBurstsSpec)) headBurstsUptoCard

/-- THE SECOND FORM's CARD OF 'bolelaw04.HeadOwn'. -/
def headOwnUptoCard : Claim7 := { stood := { row := headOwnUptoRow, standIns := [], harness := (true, "a7da0992908bbae23296b622a4a23333de959b03987350b9dd712df484be970c"), looks := false }, kinds := [], alts := [], laidByText := true, laidKinds := [.called, .data], laidTests := true, laidLooks := .later }
def HeadOwnUptoCardSaid : Prop := Claim7.holds Tryd.pinned (.plain (OpenSpec.upto headOwnSpec)) headOwnUptoCard

/-- THE SECOND FORM's CARD OF 'bolelaw04.HeadExact'. -/
def headExactUptoCard : Claim7 := { stood := { row := headExactUptoRow, standIns := [], harness := (true, "a7da0992908bbae23296b622a4a23333de959b03987350b9dd712df484be970c"), looks := false }, kinds := [], alts := [], laidByText := true, laidKinds := [.called, .data], laidTests := true, laidLooks := .later }
def HeadExactUptoCardSaid : Prop := Claim7.holds Tryd.pinned (.plain (OpenSpec.upto headExactSpec)) headExactUptoCard
end Rows
end Go.Proofs.YtccocjipgbeaeaaDoor
