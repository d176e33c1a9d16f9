/-
  DERIVED. GIVEN WITH THE SEED: THE CARDS: each row of YtcbebalakdkgnaaGreatDoorRows.lean that lists a variable, with what it lists TIED to the program's text (the seventh form; the later family's looks); each row that meets fmt, with fmt's text TOLD by the authors' own Lean function (tested against real Go, not proved from fmt's source: count such statements apart). THE CARD IS WHAT COUNTS. Prove the row's statement (the work); the ties are given (YtcbebalakdkgnaaGreatDoorTie.lean); close each card by the builder's one call (the guide's Derived/Test/ToyasCard.lean, 'card_holds'). Laid BY PROGRAM, IN A SANDBOX (cutbox-door.mjs). By AI agents, Wed Nov 11 2026. No macro, syntax, notation, axiom, sorry.
-/
import Derived.Test.YtcbebalakdkgnaaGreatDoorRows
import GoSem.ClaimSeven
namespace Go.Proofs.YtcbebalakdkgnaaGreatDoor
namespace Rows

/-- THE TIED CARD OF 'bolelaw06.TxnPlays'. -/
def txnPlaysCard : Claim7 := { stood := { row := txnPlaysRow, standIns := [], harness := (true, "7fa1748690ecc63bebe4ac0540e95919d04dfee45f595732a21a269b82ed115e"), looks := true }, kinds := [], alts := [], laidByText := true, laidKinds := [.called, .data], laidTests := true, laidLooks := .later }
def TxnPlaysCardSaid : Prop := Claim7.holds Tryz.pinned (.plain (OpenSpec.ofChange txnPlaysSpec)) txnPlaysCard

/-- THE SECOND FORM's CARD OF 'bolelaw06.TxnPlays'. -/
def txnPlaysUptoCard : Claim7 := { stood := { row := txnPlaysUptoRow, standIns := [], harness := (true, "7fa1748690ecc63bebe4ac0540e95919d04dfee45f595732a21a269b82ed115e"), looks := true }, kinds := [], alts := [], laidByText := true, laidKinds := [.called, .data], laidTests := true, laidLooks := .later }
def TxnPlaysUptoCardSaid : Prop := Claim7.holds Tryz.pinned (.plain (OpenSpec.upto txnPlaysSpec)) txnPlaysUptoCard
end Rows
end Go.Proofs.YtcbebalakdkgnaaGreatDoor
