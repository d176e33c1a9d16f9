/-
  NARROWER THAN 'FOR EVERY INPUT', by the rows' own cells (each row's printed sentence says how): HeadOwn: laid · HeadExact: laid · WalHostile: laid · WalKeeps: laid.
  DERIVED. THE GIVEN ROWS OF THIS SEAT. 4 by the template 'for every input the law returns true; each argument reads behind the call as it read before'; 0 by the template 'total and deterministic' (their statements: YtpheajiepnjhdaaDoorTotals.lean).
  GIVEN WITH THE SEED: the statements are not yours to turn. If you find one false, say at which input.
  Laid BY PROGRAM, IN A SANDBOX (cutbox-rows.mjs): the forced cells as the released guide's own fill.sh prints them over the translation 19339f6e3d477719… (all of the seat's roots in one cut). By AI agents, Wed Nov 11 2026. No macro, syntax, notation, axiom, sorry.
-/
import Derived.Test.YtpheajiepnjhdaaDoorChecked
import GoSem.Claim
import GoSem.ClaimJoined
import GoSem.ClaimMapViews
import Derived.JoinedTies
import Derived.KernelRfl
namespace Go.Proofs.YtpheajiepnjhdaaDoor
/- THE CELL 'sum', in the pinned program and in every row, IS THE sha256 OF THE DUMP (.gsa) THAT YtpheajiepnjhdaaDoorProg.lean LOADS. Nothing in Lean hashes anything: it is a label: what it is worth is what the hold of that sum in a sandbox is worth. -/
noncomputable def Tryd.pinned : Pinned := { name := "ytpheajiepnjhdaadoor", sum := "19339f6e3d4777199ed7ab6c5bacfaa95a0ce4a0c2bce3d6abd8b237ace1de52", checked := Tryd.checked }
namespace Rows
def none {H : Type} : Left H := { results := [], args := [] }

/- WHAT THE LISTED PACKAGE-LEVEL VARIABLES READ AS WHEN THE CALL BEGINS. Each datum BY PROGRAM (the guide's laid-datum.mjs) off the statement by which the dump's own 'gosem.cut.vars' lays the variable. In a bare row this is a premise. The card (YtpheajiepnjhdaaDoorCards.lean) ties it to the program's text. -/
def laid_bole_sum_halves {H : Type} : DataW H := .agg [.lit (.int .u32 0), .lit (.int .u32 498536548), .lit (.int .u32 997073096), .lit (.int .u32 651767980), .lit (.int .u32 1994146192), .lit (.int .u32 1802195444), .lit (.int .u32 1303535960), .lit (.int .u32 1342533948), .lit (.int .u32 3988292384), .lit (.int .u32 4027552580), .lit (.int .u32 3604390888), .lit (.int .u32 3412177804), .lit (.int .u32 2607071920), .lit (.int .u32 2262029012), .lit (.int .u32 2685067896), .lit (.int .u32 3183342108)]
def laid_bole_rec_widths {H : Type} : DataW H := .agg [.lit (.int .i64 1), .lit (.int .i64 2), .lit (.int .i64 4), .lit (.int .i64 8)]

/-- 'bolelaw04.HeadOwn': WHATEVER THE INPUT: true; the input reads as it did. -/
def headOwnSpec : ChangeSpec := { name := "headOwn", fn := fun _ => fun
  | [d1, d2] => { results := [.lit (.bool true)], args := [d1, d2] }
  | _ => none }
def headOwnRow : OpenClaim := { program := "ytpheajiepnjhdaadoor", sum := "19339f6e3d4777199ed7ab6c5bacfaa95a0ce4a0c2bce3d6abd8b237ace1de52", func := "bole/bolelaw04.HeadOwn", spec := "headOwn", inPlace := ["internal/bytealg.IndexByteString", "internal/bytealg.IndexByte"], unfollowed := true, recurses := true, named := ["bole/rec.widths", "bole/sum.halves"], apart := false, laid := [("bole/sum.halves", laid_bole_sum_halves), ("bole/rec.widths", laid_bole_rec_widths)] }
def HeadOwnSaid : Prop := headOwnRow.holds Tryd.pinned (OpenSpec.ofChange headOwnSpec)

/-- ITS FALSE NEIGHBOUR: 'it returns false'. Refute it at one input. -/
def headOwnWrong : ChangeSpec := { name := "headOwn", fn := fun _ => fun
  | [d1, d2] => { results := [.lit (.bool false)], args := [d1, d2] }
  | _ => none }
def HeadOwnWrongFalsely : Prop := headOwnRow.holds Tryd.pinned (OpenSpec.ofChange headOwnWrong)

/-- 'bolelaw04.HeadExact': WHATEVER THE INPUT: true; the input reads as it did. -/
def headExactSpec : ChangeSpec := { name := "headExact", fn := fun _ => fun
  | [d1, d2, d3] => { results := [.lit (.bool true)], args := [d1, d2, d3] }
  | _ => none }
def headExactRow : OpenClaim := { program := "ytpheajiepnjhdaadoor", sum := "19339f6e3d4777199ed7ab6c5bacfaa95a0ce4a0c2bce3d6abd8b237ace1de52", func := "bole/bolelaw04.HeadExact", spec := "headExact", inPlace := ["internal/bytealg.IndexByteString", "internal/bytealg.IndexByte"], unfollowed := true, recurses := true, named := ["bole/rec.widths", "bole/sum.halves"], apart := false, laid := [("bole/sum.halves", laid_bole_sum_halves), ("bole/rec.widths", laid_bole_rec_widths)] }
def HeadExactSaid : Prop := headExactRow.holds Tryd.pinned (OpenSpec.ofChange headExactSpec)

/-- ITS FALSE NEIGHBOUR: 'it returns false'. Refute it at one input. -/
def headExactWrong : ChangeSpec := { name := "headExact", fn := fun _ => fun
  | [d1, d2, d3] => { results := [.lit (.bool false)], args := [d1, d2, d3] }
  | _ => none }
def HeadExactWrongFalsely : Prop := headExactRow.holds Tryd.pinned (OpenSpec.ofChange headExactWrong)

/-- 'bolelaw05.WalHostile': WHATEVER THE INPUT: true; the input reads as it did. -/
def walHostileSpec : ChangeSpec := { name := "walHostile", fn := fun _ => fun
  | [d1, d2, d3] => { results := [.lit (.bool true)], args := [d1, d2, d3] }
  | _ => none }
def walHostileRow : OpenClaim := { program := "ytpheajiepnjhdaadoor", sum := "19339f6e3d4777199ed7ab6c5bacfaa95a0ce4a0c2bce3d6abd8b237ace1de52", func := "bole/bolelaw05.WalHostile", spec := "walHostile", inPlace := ["internal/bytealg.IndexByteString", "internal/bytealg.IndexByte"], unfollowed := true, recurses := true, named := ["bole/rec.widths", "bole/sum.halves"], apart := false, laid := [("bole/sum.halves", laid_bole_sum_halves), ("bole/rec.widths", laid_bole_rec_widths)] }
def WalHostileSaid : Prop := walHostileRow.holds Tryd.pinned (OpenSpec.ofChange walHostileSpec)

/-- ITS FALSE NEIGHBOUR: 'it returns false'. Refute it at one input. -/
def walHostileWrong : ChangeSpec := { name := "walHostile", fn := fun _ => fun
  | [d1, d2, d3] => { results := [.lit (.bool false)], args := [d1, d2, d3] }
  | _ => none }
def WalHostileWrongFalsely : Prop := walHostileRow.holds Tryd.pinned (OpenSpec.ofChange walHostileWrong)

/-- 'bolelaw05.WalKeeps': WHATEVER THE INPUT: true; the input reads as it did. -/
def walKeepsSpec : ChangeSpec := { name := "walKeeps", fn := fun _ => fun
  | [d] => { results := [.lit (.bool true)], args := [d] }
  | _ => none }
def walKeepsRow : OpenClaim := { program := "ytpheajiepnjhdaadoor", sum := "19339f6e3d4777199ed7ab6c5bacfaa95a0ce4a0c2bce3d6abd8b237ace1de52", func := "bole/bolelaw05.WalKeeps", spec := "walKeeps", inPlace := ["internal/bytealg.IndexByteString", "internal/bytealg.IndexByte"], unfollowed := true, recurses := true, named := ["bole/rec.widths", "bole/sum.halves"], apart := false, laid := [("bole/sum.halves", laid_bole_sum_halves), ("bole/rec.widths", laid_bole_rec_widths)] }
def WalKeepsSaid : Prop := walKeepsRow.holds Tryd.pinned (OpenSpec.ofChange walKeepsSpec)

/-- ITS FALSE NEIGHBOUR: 'it returns false'. Refute it at one input. -/
def walKeepsWrong : ChangeSpec := { name := "walKeeps", fn := fun _ => fun
  | [d] => { results := [.lit (.bool false)], args := [d] }
  | _ => none }
def WalKeepsWrongFalsely : Prop := walKeepsRow.holds Tryd.pinned (OpenSpec.ofChange walKeepsWrong)

/- THE SECOND FORM. 'bulk': how many values and letters a reading holds, each counted each time it is reached (what is shared counts as often as it is met; a slice's spare places count too). A statement '..UptoSaid' is the law's where the arguments, and the package variables that the reading takes, are together of bulk at most 1048576: NARROWER than '..Said'. Prove '..Said' where nothing that the law and all that it calls make is longer than what came in: it says more and counts as full. Else prove '..UptoSaid'. A law counts once. -/
mutual
def uptoBulk {H : Type} : DataW H → Nat
  | .lit (.string bytes) => bytes.length + 1
  | .lit _ => 1
  | .nil => 1
  | .ptr d => uptoBulk d + 1
  | .slice elems spare => uptoBulkAll elems + uptoBulkAll spare + 1
  | .agg parts => uptoBulkAll parts + 1
  | .iface _ d => uptoBulk d + 1
  | .map entries => uptoBulkEntries entries + 1
  | .held _ => 1
def uptoBulkAll {H : Type} : List (DataW H) → Nat
  | [] => 0
  | d :: r => uptoBulk d + uptoBulkAll r
def uptoBulkEntries {H : Type} : List (Lit × DataW H) → Nat
  | [] => 0
  | x :: r => uptoBulkEntry x + uptoBulkEntries r
def uptoBulkEntry {H : Type} : Lit × DataW H → Nat
  | (.string bytes, d) => bytes.length + uptoBulk d + 1
  | (_, d) => uptoBulk d + 1
 end
def uptoSmall : (H : Type) → List (DataW H) → Bool := fun _ ds => decide (uptoBulkAll ds ≤ 1048576)
def OpenSpec.upto (s : _root_.Go.ChangeSpec) : _root_.Go.OpenSpec := { _root_.Go.OpenSpec.ofChange s with cond := some uptoSmall }

/-- 'bolelaw04.HeadOwn', WHERE WHAT IT READS IS OF BULK AT MOST 1048576: true; the input reads as it did. -/
def headOwnUptoRow : OpenClaim := { program := "ytpheajiepnjhdaadoor", sum := "19339f6e3d4777199ed7ab6c5bacfaa95a0ce4a0c2bce3d6abd8b237ace1de52", func := "bole/bolelaw04.HeadOwn", spec := "headOwn", inPlace := ["internal/bytealg.IndexByteString", "internal/bytealg.IndexByte"], unfollowed := true, recurses := true, named := ["bole/rec.widths", "bole/sum.halves"], apart := false, laid := [("bole/sum.halves", laid_bole_sum_halves), ("bole/rec.widths", laid_bole_rec_widths)], narrowed := true }
def HeadOwnUptoSaid : Prop := headOwnUptoRow.holds Tryd.pinned (OpenSpec.upto headOwnSpec)

/-- 'bolelaw04.HeadExact', WHERE WHAT IT READS IS OF BULK AT MOST 1048576: true; the input reads as it did. -/
def headExactUptoRow : OpenClaim := { program := "ytpheajiepnjhdaadoor", sum := "19339f6e3d4777199ed7ab6c5bacfaa95a0ce4a0c2bce3d6abd8b237ace1de52", func := "bole/bolelaw04.HeadExact", spec := "headExact", inPlace := ["internal/bytealg.IndexByteString", "internal/bytealg.IndexByte"], unfollowed := true, recurses := true, named := ["bole/rec.widths", "bole/sum.halves"], apart := false, laid := [("bole/sum.halves", laid_bole_sum_halves), ("bole/rec.widths", laid_bole_rec_widths)], narrowed := true }
def HeadExactUptoSaid : Prop := headExactUptoRow.holds Tryd.pinned (OpenSpec.upto headExactSpec)

/-- 'bolelaw05.WalHostile', WHERE WHAT IT READS IS OF BULK AT MOST 1048576: true; the input reads as it did. -/
def walHostileUptoRow : OpenClaim := { program := "ytpheajiepnjhdaadoor", sum := "19339f6e3d4777199ed7ab6c5bacfaa95a0ce4a0c2bce3d6abd8b237ace1de52", func := "bole/bolelaw05.WalHostile", spec := "walHostile", inPlace := ["internal/bytealg.IndexByteString", "internal/bytealg.IndexByte"], unfollowed := true, recurses := true, named := ["bole/rec.widths", "bole/sum.halves"], apart := false, laid := [("bole/sum.halves", laid_bole_sum_halves), ("bole/rec.widths", laid_bole_rec_widths)], narrowed := true }
def WalHostileUptoSaid : Prop := walHostileUptoRow.holds Tryd.pinned (OpenSpec.upto walHostileSpec)

/-- 'bolelaw05.WalKeeps', WHERE WHAT IT READS IS OF BULK AT MOST 1048576: true; the input reads as it did. -/
def walKeepsUptoRow : OpenClaim := { program := "ytpheajiepnjhdaadoor", sum := "19339f6e3d4777199ed7ab6c5bacfaa95a0ce4a0c2bce3d6abd8b237ace1de52", func := "bole/bolelaw05.WalKeeps", spec := "walKeeps", inPlace := ["internal/bytealg.IndexByteString", "internal/bytealg.IndexByte"], unfollowed := true, recurses := true, named := ["bole/rec.widths", "bole/sum.halves"], apart := false, laid := [("bole/sum.halves", laid_bole_sum_halves), ("bole/rec.widths", laid_bole_rec_widths)], narrowed := true }
def WalKeepsUptoSaid : Prop := walKeepsUptoRow.holds Tryd.pinned (OpenSpec.upto walKeepsSpec)

end Rows
end Go.Proofs.YtpheajiepnjhdaaDoor
