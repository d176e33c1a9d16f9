import Derived.Test.YtleakaddlgpamaaDoorGeK
namespace Go.Proofs.YtleakaddlgpamaaDoor
open Go.RowKit Rec

/-- a number of blocks that may be -/
def nOf (x : Int) : Int := 128 + IntKind.u64.wrap x % 16257
theorem nOf_ok (x : Int) : isLen (nOf x) = true := isLen_yes (by unfold nOf; omega)
theorem wrap_bd (x : Int) : 0 ≤ IntKind.u64.wrap x ∧ IntKind.u64.wrap x < 18446744073709551616 := by
  unfold IntKind.wrap
  simp only [IntKind.signed, IntKind.bits]
  simp
  omega
theorem keepL {w w' : World} {k : Nat} {o : Obj} (hb : Below w.heap.size w w') (h : w.heap[k]? = some o) : w'.heap[k]? = some o := (below_fr hb (fun _ => False)).heap h (fun e => e)

end Go.Proofs.YtleakaddlgpamaaDoor
