import Derived.Test.YtleakaddlgpamaaDoorKTxF
namespace Go.Proofs.YtleakaddlgpamaaDoor
open Go.RowKit Go.Maps Rec

theorem ptr_nilT (w : World) (p : Addr) : (binOp .eql 47 (.pointer (some p)) (.pointer none)).run Tryd.prog w = .ok (.bool false) w := by
  have h : ∀ d : Nat, (Op.equalIn (d + 1) 47 (.pointer (some p)) (.pointer none)).run Tryd.prog w = .ok false w := fun d => by
    simp [Op.equalIn, run_underlying Tryd.underlying47]
  simp only [binOp]
  simp [Op.equal, Op.maxDepth, h 9999]
/-- behind the commit that is known -/
structure KnE (w w' : World) (d t : Nat) : Prop where
  dk : ∃ E ls, Mine w w' E ∧ E.d = d ∧ Rest E.abs 120 ls ∧ bck ls 98 = one 65 ∧ E.wr = 4 ∧ E.fl = 4
  over : OverAt w' t
theorem begin_ses (w0 w : World) (D : Dk) (hM : Mine w0 w D) (d0 : Nat) (hd : D.d = d0) :
    Calls Tryd.prog 21 #[.pointer (some ⟨d0, 0, none⟩)] w fun e w' => ∃ T, e = .returned (.pointer (some ⟨T.t, 0, none⟩)) ∧ Ses w0 w' D T ∧ T.c = (fun _ => none) ∧ T.us = [] ∧ Below w.heap.size w w' := by
  refine (begin_any w d0 D.nb hM.disk.nb1).mono ?_
  rintro e w' ⟨T, rfl, h1, h2, h3, h4, h5⟩
  exact ⟨T, rfl, ses_begin hM h1 (h2.trans hd.symm) h3, h4, h5, h1.bel⟩
end Go.Proofs.YtleakaddlgpamaaDoor
