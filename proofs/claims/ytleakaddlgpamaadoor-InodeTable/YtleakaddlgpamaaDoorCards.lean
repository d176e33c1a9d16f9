/-
  DERIVED. GIVEN WITH THE SEED: THE CARDS: each row of YtleakaddlgpamaaDoorRows.lean that lists a variable, with what it lists TIED to the program's text (the seventh form; the later family's looks); each row that meets fmt, with fmt's text TOLD by the authors' own Lean function (tested against real Go, not proved from fmt's source: count such statements apart). THE CARD IS WHAT COUNTS. Prove the row's statement (the work); the ties are given (YtleakaddlgpamaaDoorTie.lean); close each card by the builder's one call (the guide's Derived/Test/ToyasCard.lean, 'card_holds'). Laid BY PROGRAM, IN A SANDBOX (cutbox-door.mjs). By AI agents, Wed Nov 11 2026. No macro, syntax, notation, axiom, sorry.
-/
import Derived.Test.YtleakaddlgpamaaDoorRows
import GoSem.ClaimSeven
namespace Go.Proofs.YtleakaddlgpamaaDoor
namespace Rows

/-- THE TIED CARD OF 'bolelaw11.InodeForm'. -/
def inodeFormCard : Claim7 := { stood := { row := inodeFormRow, standIns := [], harness := (true, "59231e696738ee79b51ff440902efeaf0701c7e70eeb29af5c31901e81470fe1"), looks := false }, kinds := [], alts := [], laidByText := true, laidKinds := [.data], laidTests := true, laidLooks := .later }
def InodeFormCardSaid : Prop := Claim7.holds Tryd.pinned (.plain (OpenSpec.ofChange inodeFormSpec)) inodeFormCard

/-- THE TIED CARD OF 'bolelaw11.InodeBytes'. -/
def inodeBytesCard : Claim7 := { stood := { row := inodeBytesRow, standIns := [], harness := (true, "59231e696738ee79b51ff440902efeaf0701c7e70eeb29af5c31901e81470fe1"), looks := false }, kinds := [], alts := [], laidByText := true, laidKinds := [.data], laidTests := true, laidLooks := .later }
def InodeBytesCardSaid : Prop := Claim7.holds Tryd.pinned (.plain (OpenSpec.ofChange inodeBytesSpec)) inodeBytesCard

/-- THE TIED CARD OF 'bolelaw11.InodeTable'. -/
def inodeTableCard : Claim7 := { stood := { row := inodeTableRow, standIns := [], harness := (true, "59231e696738ee79b51ff440902efeaf0701c7e70eeb29af5c31901e81470fe1"), looks := false }, kinds := [], alts := [], laidByText := true, laidKinds := [.data], laidTests := true, laidLooks := .later }
def InodeTableCardSaid : Prop := Claim7.holds Tryd.pinned (.plain (OpenSpec.ofChange inodeTableSpec)) inodeTableCard

/-- THE SECOND FORM's CARD OF 'bolelaw11.InodeForm'. -/
def inodeFormUptoCard : Claim7 := { stood := { row := inodeFormUptoRow, standIns := [], harness := (true, "59231e696738ee79b51ff440902efeaf0701c7e70eeb29af5c31901e81470fe1"), looks := false }, kinds := [], alts := [], laidByText := true, laidKinds := [.data], laidTests := true, laidLooks := .later }
def InodeFormUptoCardSaid : Prop := Claim7.holds Tryd.pinned (.plain (OpenSpec.upto inodeFormSpec)) inodeFormUptoCard

/-- THE SECOND FORM's CARD OF 'bolelaw11.InodeBytes'. -/
def inodeBytesUptoCard : Claim7 := { stood := { row := inodeBytesUptoRow, standIns := [], harness := (true, "59231e696738ee79b51ff440902efeaf0701c7e70eeb29af5c31901e81470fe1"), looks := false }, kinds := [], alts := [], laidByText := true, laidKinds := [.data], laidTests := true, laidLooks := .later }
def InodeBytesUptoCardSaid : Prop := Claim7.holds Tryd.pinned (.plain (OpenSpec.upto inodeBytesSpec)) inodeBytesUptoCard

/-- THE SECOND FORM's CARD OF 'bolelaw11.InodeTable'. -/
def inodeTableUptoCard : Claim7 := { stood := { row := inodeTableUptoRow, standIns := [], harness := (true, "59231e696738ee79b51ff440902efeaf0701c7e70eeb29af5c31901e81470fe1"), looks := false }, kinds := [], alts := [], laidByText := true, laidKinds := [.data], laidTests := true, laidLooks := .later }
def InodeTableUptoCardSaid : Prop := Claim7.holds Tryd.pinned (.plain (OpenSpec.upto inodeTableSpec)) inodeTableUptoCard
end Rows
end Go.Proofs.YtleakaddlgpamaaDoor
