import Derived.Test.YtleakaddlgpamaaDoorKTxP
namespace Go.Proofs.YtleakaddlgpamaaDoor
open Go.RowKit Go.Maps Rec

end Go.Proofs.YtleakaddlgpamaaDoor

namespace Go.Proofs.YtleakaddlgpamaaDoor
open Go.RowKit Go.Maps Rec

theorem step_look {ops : Array Oper} {o : Oper} {a : Act} {w : World} {K : Act → World → Prop} {Q : Exit → Act → World → Prop} {E : Prop} (hgd : o.guard = none) (m x : Operand) (ho : o.op = .lookup 85 m x true)
    (b nb i : Nat) (c : Cm) (hm : a.eval m = .map (some b)) (hx : a.eval x = .int .i64 (i : Int)) (hM : MapAt w b c nb) (ok : COk c nb) (hi : i ≤ 16384) (h : K (a.put o.dst (.tuple #[optV (c i), .bool (c i).isSome])) w) :
    if Region.wanted o (yielded ops a.tmps) = true then Oper.wp Tryd.prog o a w K Q else E := by
  have hw : Region.wanted o (yielded ops a.tmps) = true := by simp [Region.wanted, hgd]
  rw [if_pos hw]
  have hr := hM.look ok i hi
  unfold Oper.wp
  simp [execOp, ho, hm, hx, hr, Result.andThen]
  exact h
theorem step_mapput {ops : Array Oper} {o : Oper} {a : Act} {w : World} {K : Act → World → Prop} {Q : Exit → Act → World → Prop} {E : Prop} (hgd : o.guard = none) (m x v : Operand) (ho : o.op = .mapUpdate 85 m x v)
    (b nb i : Nat) (c : Cm) (q : Bk) (hm : a.eval m = .map (some b)) (hx : a.eval x = .int .i64 (i : Int)) (hv : a.eval v = q.v) (hM : MapAt w b c nb) (ok : COk c nb) (hi : i < nb) (hn : nb ≤ 16384) (hq : q.n = (i : Int)) (hs : (lst (ups c i (some q)) nb).length ≤ 1000)
    (h : ∀ w', MapAt w' b (ups c i (some q)) nb → Fr (fun k => k = b) w w' → K (a.put o.dst undef) w') :
    if Region.wanted o (yielded ops a.tmps) = true then Oper.wp Tryd.prog o a w K Q else E := by
  have hw : Region.wanted o (yielded ops a.tmps) = true := by simp [Region.wanted, hgd]
  rw [if_pos hw]
  obtain ⟨w', hr, h1, h2⟩ := hM.store ok hi hn q hq hs
  unfold Oper.wp
  simp [execOp, ho, hm, hx, hv, hr, Result.andThen]
  exact h w' h1 h2
theorem step_mapdel {ops : Array Oper} {o : Oper} {a : Act} {w : World} {K : Act → World → Prop} {Q : Exit → Act → World → Prop} {E : Prop} (hgd : o.guard = none) (m x : Operand) (ho : o.op = .call { callee := .builtin .delete, args := #[m, x], argTypes := #[85, 3] })
    (b nb i : Nat) (c : Cm) (hm : a.eval m = .map (some b)) (hx : a.eval x = .int .i64 (i : Int)) (hM : MapAt w b c nb) (ok : COk c nb) (hi : i < nb) (hn : nb ≤ 16384)
    (h : ∀ w', MapAt w' b (ups c i none) nb → Fr (fun k => k = b) w w' → K (a.put o.dst (.tuple #[])) w') :
    if Region.wanted o (yielded ops a.tmps) = true then Oper.wp Tryd.prog o a w K Q else E := by
  have hw : Region.wanted o (yielded ops a.tmps) = true := by simp [Region.wanted, hgd]
  rw [if_pos hw]
  obtain ⟨w', hr, h1, h2⟩ := hM.drop ok hi hn o.type
  unfold Oper.wp
  simp [execOp, ho, resolve, invoke, builtin, hm, hx, hr, Result.andThen]
  exact h w' h1 h2
theorem infoF0 : (Tryd.prog.info? 1).map (fun i => (i.zero, i.size, i.bytes)) = some (some .nilFunc, 1, 8) := by kernel_rfl
end Go.Proofs.YtleakaddlgpamaaDoor
