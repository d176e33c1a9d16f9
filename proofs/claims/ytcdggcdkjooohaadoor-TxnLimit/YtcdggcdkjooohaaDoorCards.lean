/-
  DERIVED. GIVEN WITH THE SEED: THE CARDS: each row of YtcdggcdkjooohaaDoorRows.lean that lists a variable, with what it lists TIED to the program's text (the seventh form; the later family's looks); each row that meets fmt, with fmt's text TOLD by the authors' own Lean function (tested against real Go, not proved from fmt's source: count such statements apart). THE CARD IS WHAT COUNTS. Prove the row's statement (the work); the ties are given (YtcdggcdkjooohaaDoorTie.lean); close each card by the builder's one call (the guide's Derived/Test/ToyasCard.lean, 'card_holds'). Laid BY PROGRAM, IN A SANDBOX (cutbox-door.mjs). By AI agents, Wed Nov 11 2026. No macro, syntax, notation, axiom, sorry.
-/
import Derived.Test.YtcdggcdkjooohaaDoorRows
import GoSem.ClaimSeven
namespace Go.Proofs.YtcdggcdkjooohaaDoor
namespace Rows

/-- THE TIED CARD OF 'bolelaw06.TxnLimit'. -/
def txnLimitCard : Claim7 := { stood := { row := txnLimitRow, standIns := [], harness := (true, "a9e0537a0656733193e6dc748c3a66ff804474711cb80e28bd529711084ccb74"), looks := false }, kinds := [], alts := [], laidByText := true, laidKinds := [.called, .data], laidTests := true, laidLooks := .later }
def TxnLimitCardSaid : Prop := Claim7.holds Tryd.pinned (.plain (OpenSpec.ofChange txnLimitSpec)) txnLimitCard

/-- THE TIED CARD OF 'bolelaw06.TxnReads'. -/
def txnReadsCard : Claim7 := { stood := { row := txnReadsRow, standIns := [], harness := (true, "a9e0537a0656733193e6dc748c3a66ff804474711cb80e28bd529711084ccb74"), looks := false }, kinds := [], alts := [], laidByText := true, laidKinds := [.called, .data], laidTests := true, laidLooks := .later }
def TxnReadsCardSaid : Prop := Claim7.holds Tryd.pinned (.plain (OpenSpec.ofChange txnReadsSpec)) txnReadsCard

/-- THE SECOND FORM's CARD OF 'bolelaw06.TxnLimit'. -/
def txnLimitUptoCard : Claim7 := { stood := { row := txnLimitUptoRow, standIns := [], harness := (true, "a9e0537a0656733193e6dc748c3a66ff804474711cb80e28bd529711084ccb74"), looks := false }, kinds := [], alts := [], laidByText := true, laidKinds := [.called, .data], laidTests := true, laidLooks := .later }
def TxnLimitUptoCardSaid : Prop := Claim7.holds Tryd.pinned (.plain (OpenSpec.upto txnLimitSpec)) txnLimitUptoCard

/-- THE SECOND FORM's CARD OF 'bolelaw06.TxnReads'. -/
def txnReadsUptoCard : Claim7 := { stood := { row := txnReadsUptoRow, standIns := [], harness := (true, "a9e0537a0656733193e6dc748c3a66ff804474711cb80e28bd529711084ccb74"), looks := false }, kinds := [], alts := [], laidByText := true, laidKinds := [.called, .data], laidTests := true, laidLooks := .later }
def TxnReadsUptoCardSaid : Prop := Claim7.holds Tryd.pinned (.plain (OpenSpec.upto txnReadsSpec)) txnReadsUptoCard
end Rows
end Go.Proofs.YtcdggcdkjooohaaDoor
