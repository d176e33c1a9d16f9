import Derived.Test.YtleakaddlgpamaaDoorTxI
namespace Go.Proofs.YtleakaddlgpamaaDoor
open Go.RowKit Go.Maps Rec

theorem Fr.mono' {S T : Nat → Prop} {a b : World} (x : Fr S a b) (h : ∀ k, S k → T k) : Fr T a b := x.mono h
/-- the two rows in a law's own variables -/
structure Rw (w : World) (A B : Nat) (now : Nat → Int) (is : Nat → Bool) : Prop where
  u : w.rangeAt A 0 (rowU now).toList
  b : w.rangeAt B 0 (rowB is).toList
theorem Rw.cu {w : World} {A B : Nat} {now : Nat → Int} {is : Nat → Bool} (h : Rw w A B now is) (i : Nat) (hi : i < 118) : w.cell? ⟨A, i, none⟩ = some (.int .u8 (now i)) := by
  have := h.u i (.int .u8 (now i)) (by have := rowU_at now i hi; simpa using this)
  simpa using this
theorem Rw.cb {w : World} {A B : Nat} {now : Nat → Int} {is : Nat → Bool} (h : Rw w A B now is) (i : Nat) (hi : i < 118) : w.cell? ⟨B, i, none⟩ = some (.bool (is i)) := by
  have := h.b i (.bool (is i)) (by have := rowB_at is i hi; simpa using this)
  simpa using this
theorem Rw.ltA {w : World} {A B : Nat} {now : Nat → Int} {is : Nat → Bool} (h : Rw w A B now is) : A < w.heap.size := block_lt_of_cell (h.cu 0 (by omega))
theorem Rw.ltB {w : World} {A B : Nat} {now : Nat → Int} {is : Nat → Bool} (h : Rw w A B now is) : B < w.heap.size := block_lt_of_cell (h.cb 0 (by omega))
theorem Rw.fr {S : Nat → Prop} {w w' : World} {A B : Nat} {now : Nat → Int} {is : Nat → Bool} (h : Rw w A B now is) (x : Fr S w w') (hA : ¬ S A) (hB : ¬ S B) : Rw w' A B now is :=
  ⟨fun j v hv => x.cell (h.u j v hv) hA, fun j v hv => x.cell (h.b j v hv) hB⟩
theorem Rw.on {w w' : World} {A B : Nat} {now : Nat → Int} {is : Nat → Bool} (h : Rw w A B now is) (x : Below w.heap.size w w') : Rw w' A B now is := h.fr (below_fr x (fun _ => False)) (fun e => e) (fun e => e)
/-- a law behind its fill -/
structure Pre6 (w0 w : World) (D : Dk) (T : Tx) (A B : Nat) (now : Nat → Int) (is : Nat → Bool) : Prop where
  ses : Ses w0 w D T
  rw : Rw w A B now is
  nA : ¬ T.all A ∧ ¬ D.all A ∧ w0.heap.size ≤ A
  nB : ¬ T.all B ∧ ¬ D.all B ∧ w0.heap.size ≤ B
  cnt : Cnt (fun _ => none) T.c now is
theorem Pre6.on {w0 w w' : World} {D : Dk} {T : Tx} {A B : Nat} {now : Nat → Int} {is : Nat → Bool} (h : Pre6 w0 w D T A B now is) (hb : Below w.heap.size w w') : Pre6 w0 w' D T A B now is := ⟨h.ses.on hb, h.rw.on hb, h.nA, h.nB, h.cnt⟩
end Go.Proofs.YtleakaddlgpamaaDoor
