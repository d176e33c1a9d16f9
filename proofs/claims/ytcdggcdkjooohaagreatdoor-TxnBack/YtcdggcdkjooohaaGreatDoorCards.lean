/-
  DERIVED. GIVEN WITH THE SEED: THE CARDS: each row of YtcdggcdkjooohaaGreatDoorRows.lean that lists a variable, with what it lists TIED to the program's text (the seventh form; the later family's looks); each row that meets fmt, with fmt's text TOLD by the authors' own Lean function (tested against real Go, not proved from fmt's source: count such statements apart). THE CARD IS WHAT COUNTS. Prove the row's statement (the work); the ties are given (YtcdggcdkjooohaaGreatDoorTie.lean); close each card by the builder's one call (the guide's Derived/Test/ToyasCard.lean, 'card_holds'). Laid BY PROGRAM, IN A SANDBOX (cutbox-door.mjs). By AI agents, Wed Nov 11 2026. No macro, syntax, notation, axiom, sorry.
-/
import Derived.Test.YtcdggcdkjooohaaGreatDoorRows
import GoSem.ClaimSeven
namespace Go.Proofs.YtcdggcdkjooohaaGreatDoor
namespace Rows

/-- THE TIED CARD OF 'bolelaw06.TxnBack'. -/
def txnBackCard : Claim7 := { stood := { row := txnBackRow, standIns := [], harness := (true, "db8e12657a36e7b384a603b144a53a3d4a1f30098dec53db2905e863d7820d98"), looks := true }, kinds := [], alts := [], laidByText := true, laidKinds := [.called, .data], laidTests := true, laidLooks := .later }
def TxnBackCardSaid : Prop := Claim7.holds Tryz.pinned (.plain (OpenSpec.ofChange txnBackSpec)) txnBackCard

/-- THE TIED CARD OF 'bolelaw06.TxnWhole'. -/
def txnWholeCard : Claim7 := { stood := { row := txnWholeRow, standIns := [], harness := (true, "db8e12657a36e7b384a603b144a53a3d4a1f30098dec53db2905e863d7820d98"), looks := true }, kinds := [], alts := [], laidByText := true, laidKinds := [.called, .data], laidTests := true, laidLooks := .later }
def TxnWholeCardSaid : Prop := Claim7.holds Tryz.pinned (.plain (OpenSpec.ofChange txnWholeSpec)) txnWholeCard

/-- THE TIED CARD OF 'bolelaw06.TxnPlays'. -/
def txnPlaysCard : Claim7 := { stood := { row := txnPlaysRow, standIns := [], harness := (true, "db8e12657a36e7b384a603b144a53a3d4a1f30098dec53db2905e863d7820d98"), looks := true }, kinds := [], alts := [], laidByText := true, laidKinds := [.called, .data], laidTests := true, laidLooks := .later }
def TxnPlaysCardSaid : Prop := Claim7.holds Tryz.pinned (.plain (OpenSpec.ofChange txnPlaysSpec)) txnPlaysCard

/-- THE TIED CARD OF 'boletop.WholeCommits'. -/
def wholeCommitsCard : Claim7 := { stood := { row := wholeCommitsRow, standIns := [], harness := (true, "db8e12657a36e7b384a603b144a53a3d4a1f30098dec53db2905e863d7820d98"), looks := true }, kinds := [], alts := [], laidByText := true, laidKinds := [.called, .data], laidTests := true, laidLooks := .later }
def WholeCommitsCardSaid : Prop := Claim7.holds Tryz.pinned (.plain (OpenSpec.ofChange wholeCommitsSpec)) wholeCommitsCard

/-- THE SECOND FORM's CARD OF 'bolelaw06.TxnBack'. -/
def txnBackUptoCard : Claim7 := { stood := { row := txnBackUptoRow, standIns := [], harness := (true, "db8e12657a36e7b384a603b144a53a3d4a1f30098dec53db2905e863d7820d98"), looks := true }, kinds := [], alts := [], laidByText := true, laidKinds := [.called, .data], laidTests := true, laidLooks := .later }
def TxnBackUptoCardSaid : Prop := Claim7.holds Tryz.pinned (.plain (OpenSpec.upto txnBackSpec)) txnBackUptoCard

/-- THE SECOND FORM's CARD OF 'bolelaw06.TxnWhole'. -/
def txnWholeUptoCard : Claim7 := { stood := { row := txnWholeUptoRow, standIns := [], harness := (true, "db8e12657a36e7b384a603b144a53a3d4a1f30098dec53db2905e863d7820d98"), looks := true }, kinds := [], alts := [], laidByText := true, laidKinds := [.called, .data], laidTests := true, laidLooks := .later }
def TxnWholeUptoCardSaid : Prop := Claim7.holds Tryz.pinned (.plain (OpenSpec.upto txnWholeSpec)) txnWholeUptoCard

/-- THE SECOND FORM's CARD OF 'bolelaw06.TxnPlays'. -/
def txnPlaysUptoCard : Claim7 := { stood := { row := txnPlaysUptoRow, standIns := [], harness := (true, "db8e12657a36e7b384a603b144a53a3d4a1f30098dec53db2905e863d7820d98"), looks := true }, kinds := [], alts := [], laidByText := true, laidKinds := [.called, .data], laidTests := true, laidLooks := .later }
def TxnPlaysUptoCardSaid : Prop := Claim7.holds Tryz.pinned (.plain (OpenSpec.upto txnPlaysSpec)) txnPlaysUptoCard

/-- THE SECOND FORM's CARD OF 'boletop.WholeCommits'. -/
def wholeCommitsUptoCard : Claim7 := { stood := { row := wholeCommitsUptoRow, standIns := [], harness := (true, "db8e12657a36e7b384a603b144a53a3d4a1f30098dec53db2905e863d7820d98"), looks := true }, kinds := [], alts := [], laidByText := true, laidKinds := [.called, .data], laidTests := true, laidLooks := .later }
def WholeCommitsUptoCardSaid : Prop := Claim7.holds Tryz.pinned (.plain (OpenSpec.upto wholeCommitsSpec)) wholeCommitsUptoCard
end Rows
end Go.Proofs.YtcdggcdkjooohaaGreatDoor
