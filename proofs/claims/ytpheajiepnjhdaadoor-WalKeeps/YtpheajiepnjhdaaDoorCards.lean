/-
  DERIVED. GIVEN WITH THE SEED: THE CARDS: each row of YtpheajiepnjhdaaDoorRows.lean that lists a variable, with what it lists TIED to the program's text (the seventh form; the later family's looks); each row that meets fmt, with fmt's text TOLD by the authors' own Lean function (tested against real Go, not proved from fmt's source: count such statements apart). THE CARD IS WHAT COUNTS. Prove the row's statement (the work); the ties are given (YtpheajiepnjhdaaDoorTie.lean); close each card by the builder's one call (the guide's Derived/Test/ToyasCard.lean, 'card_holds'). Laid BY PROGRAM, IN A SANDBOX (cutbox-door.mjs). By AI agents, Wed Nov 11 2026. No macro, syntax, notation, axiom, sorry.
-/
import Derived.Test.YtpheajiepnjhdaaDoorRows
import GoSem.ClaimSeven
namespace Go.Proofs.YtpheajiepnjhdaaDoor
namespace Rows

/-- THE TIED CARD OF 'bolelaw04.HeadOwn'. -/
def headOwnCard : Claim7 := { stood := { row := headOwnRow, standIns := [], harness := (true, "1db804b894d6dc3af78b27ff9020f920436e1d6c393c308b81fd0997cd9ff6dd"), looks := true }, kinds := [], alts := [], laidByText := true, laidKinds := [.called, .data], laidTests := true, laidLooks := .later }
def HeadOwnCardSaid : Prop := Claim7.holds Tryd.pinned (.plain (OpenSpec.ofChange headOwnSpec)) headOwnCard

/-- THE TIED CARD OF 'bolelaw04.HeadExact'. -/
def headExactCard : Claim7 := { stood := { row := headExactRow, standIns := [], harness := (true, "1db804b894d6dc3af78b27ff9020f920436e1d6c393c308b81fd0997cd9ff6dd"), looks := true }, kinds := [], alts := [], laidByText := true, laidKinds := [.called, .data], laidTests := true, laidLooks := .later }
def HeadExactCardSaid : Prop := Claim7.holds Tryd.pinned (.plain (OpenSpec.ofChange headExactSpec)) headExactCard

/-- THE TIED CARD OF 'bolelaw05.WalHostile'. -/
def walHostileCard : Claim7 := { stood := { row := walHostileRow, standIns := [], harness := (true, "1db804b894d6dc3af78b27ff9020f920436e1d6c393c308b81fd0997cd9ff6dd"), looks := true }, kinds := [], alts := [], laidByText := true, laidKinds := [.called, .data], laidTests := true, laidLooks := .later }
def WalHostileCardSaid : Prop := Claim7.holds Tryd.pinned (.plain (OpenSpec.ofChange walHostileSpec)) walHostileCard

/-- THE TIED CARD OF 'bolelaw05.WalKeeps'. -/
def walKeepsCard : Claim7 := { stood := { row := walKeepsRow, standIns := [], harness := (true, "1db804b894d6dc3af78b27ff9020f920436e1d6c393c308b81fd0997cd9ff6dd"), looks := true }, kinds := [], alts := [], laidByText := true, laidKinds := [.called, .data], laidTests := true, laidLooks := .later }
def WalKeepsCardSaid : Prop := Claim7.holds Tryd.pinned (.plain (OpenSpec.ofChange walKeepsSpec)) walKeepsCard

/-- THE SECOND FORM's CARD OF 'bolelaw04.HeadOwn'. -/
def headOwnUptoCard : Claim7 := { stood := { row := headOwnUptoRow, standIns := [], harness := (true, "1db804b894d6dc3af78b27ff9020f920436e1d6c393c308b81fd0997cd9ff6dd"), looks := true }, kinds := [], alts := [], laidByText := true, laidKinds := [.called, .data], laidTests := true, laidLooks := .later }
def HeadOwnUptoCardSaid : Prop := Claim7.holds Tryd.pinned (.plain (OpenSpec.upto headOwnSpec)) headOwnUptoCard

/-- THE SECOND FORM's CARD OF 'bolelaw04.HeadExact'. -/
def headExactUptoCard : Claim7 := { stood := { row := headExactUptoRow, standIns := [], harness := (true, "1db804b894d6dc3af78b27ff9020f920436e1d6c393c308b81fd0997cd9ff6dd"), looks := true }, kinds := [], alts := [], laidByText := true, laidKinds := [.called, .data], laidTests := true, laidLooks := .later }
def HeadExactUptoCardSaid : Prop := Claim7.holds Tryd.pinned (.plain (OpenSpec.upto headExactSpec)) headExactUptoCard

/-- THE SECOND FORM's CARD OF 'bolelaw05.WalHostile'. -/
def walHostileUptoCard : Claim7 := { stood := { row := walHostileUptoRow, standIns := [], harness := (true, "1db804b894d6dc3af78b27ff9020f920436e1d6c393c308b81fd0997cd9ff6dd"), looks := true }, kinds := [], alts := [], laidByText := true, laidKinds := [.called, .data], laidTests := true, laidLooks := .later }
def WalHostileUptoCardSaid : Prop := Claim7.holds Tryd.pinned (.plain (OpenSpec.upto walHostileSpec)) walHostileUptoCard

/-- THE SECOND FORM's CARD OF 'bolelaw05.WalKeeps'. -/
def walKeepsUptoCard : Claim7 := { stood := { row := walKeepsUptoRow, standIns := [], harness := (true, "1db804b894d6dc3af78b27ff9020f920436e1d6c393c308b81fd0997cd9ff6dd"), looks := true }, kinds := [], alts := [], laidByText := true, laidKinds := [.called, .data], laidTests := true, laidLooks := .later }
def WalKeepsUptoCardSaid : Prop := Claim7.holds Tryd.pinned (.plain (OpenSpec.upto walKeepsSpec)) walKeepsUptoCard
end Rows
end Go.Proofs.YtpheajiepnjhdaaDoor
