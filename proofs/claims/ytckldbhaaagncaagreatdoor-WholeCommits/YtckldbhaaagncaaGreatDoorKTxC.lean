import Derived.Test.YtckldbhaaagncaaGreatDoorTxB
namespace Go.Proofs.YtckldbhaaagncaaGreatDoor
open Go.RowKit Go.Maps Rec

set_option maxRecDepth 100000 in
theorem abortD (w : World) (t : Nat) (u : FrameMode) (cs : Array Value) (hs : cs.size = 4) (h : w.heap[t]? = some (.cells cs 61 (0, 0))) : CallsD Tryz.prog 12 #[.pointer (some ⟨t, 0, none⟩)] u w fun e u' w' => u' = u ∧ (e = .returned (.tuple #[]) ∧ OverAt w' t ∧ Fr (fun k => k = t) w w') := by
  have hO := over_row w t cs hs h
  have hf : ∀ j, w.frozen? ⟨t, j, none⟩ = false := fun j => frozen_of_row _ _ _ _ _ h
  have hc : ∀ j, w.cell? ⟨t, j, none⟩ = cs[j]? := fun j => cell_of_row _ _ _ _ _ _ h
  refine callsD_of_wp (R := fun e w' => e = .returned (.tuple #[]) ∧ OverAt w' t ∧ Fr (fun k => k = t) w w') Tryz.func12 rfl ?_
  simp only [Tryz.ntmps12, List.size_toArray, List.length_cons, List.length_nil, Nat.reduceAdd, Nat.reduceSub, Array.replicate_succ, Array.replicate_zero, List.push_toArray, List.append_toArray, List.nil_append, List.cons_append]
  go_wp2
  go_end0
  exact ⟨rfl, hO.1, hO.2⟩
set_option maxRecDepth 100000 in
set_option maxHeartbeats 4000000 in
/-- Commit over whatever wal.Commit does -/
theorem tcommit_any (w : World) (T : Tx) (h : TxAt w T) (P : Int → World → Prop) (n : Nat) (hn : (lst T.c T.nb).length = n)
    (hC : ∀ wx va vc, Below w.heap.size w wx → (lst T.c T.nb = [] ∨ ∃ g, va = some ⟨g, 0, none⟩ ∧ BlocksAt wx g (lst T.c T.nb)) →
      Calls Tryz.prog 27 #[.pointer (some ⟨T.d, 0, none⟩), .slice va n vc] wx fun e w' => ∃ r : Int, e = .returned (.int .i64 r) ∧ P r w' ∧ w'.heap[T.t]? = some (.cells T.cells 61 (0, 0))) :
    Calls Tryz.prog 16 #[.pointer (some ⟨T.t, 0, none⟩)] w fun e w' => ∃ (r : Int) (w2 : World), e = .returned (.int .i64 r) ∧ P r w2 ∧ OverAt w' T.t ∧ Fr (fun k => k = T.t) w2 w' := by
  have hc3 : w.cell? ⟨T.t, 3, none⟩ = some (.bool false) := h.cell 3
  have hc0 : w.cell? ⟨T.t, 0, none⟩ = some (.pointer (some ⟨T.d, 0, none⟩)) := h.cell 0
  have HK : Hid (∀ wx, Below w.heap.size w wx → Calls Tryz.prog 28 #[.pointer (some ⟨T.t, 0, none⟩)] wx fun e w' => ∃ va vc, e = .returned (.slice va n vc) ∧ (lst T.c T.nb = [] ∨ ∃ g, va = some ⟨g, 0, none⟩ ∧ BlocksAt w' g (lst T.c T.nb)) ∧ Below w.heap.size w w' ∧ w'.cell? ⟨T.t, 0, none⟩ = some (.pointer (some ⟨T.d, 0, none⟩))) := fun wx hb => by
    refine (tblocks_any wx T (h.on hb)).mono ?_
    rintro e w' ⟨va, vc, rfl, h1, h2⟩
    have h3 := hb.trans (h2.mono hb.size)
    exact ⟨va, vc, by rw [hn], h1, h3, (h.on h3).cell 0⟩
  have HC : Hid (∀ wx va vc, Below w.heap.size w wx → (lst T.c T.nb = [] ∨ ∃ g, va = some ⟨g, 0, none⟩ ∧ BlocksAt wx g (lst T.c T.nb)) →
      Calls Tryz.prog 27 #[.pointer (some ⟨T.d, 0, none⟩), .slice va n vc] wx fun e w' => ∃ r : Int, e = .returned (.int .i64 r) ∧ P r w' ∧ w'.heap[T.t]? = some (.cells T.cells 61 (0, 0))) := hC
  clear h hC hn
  go_enter_defers Tryz.func16, Tryz.ntmps16
  go_upto_region 4 with (fail)
  rename_i Q' K hK
  refine Code.wp_mono (Q := Exit.then K (fun _ _ _ => False)) (fun e a w => ?_) ?_
  · cases e <;> simp [Exit.then]
  go_region_law (go_simp; first
    | (go_at_call 28; refine (HK.out _ (by repeat (first | exact Below.refl _ _ | apply Below.drew))).mono ?_; rintro e w3 ⟨va, vc, rfl, hx, hb, hd3⟩; have H3 : Hid ((lst T.c T.nb = [] ∨ ∃ g, va = some ⟨g, 0, none⟩ ∧ BlocksAt w3 g (lst T.c T.nb)) ∧ Below w.heap.size w w3) := ⟨hx, hb⟩; clear hx hb)
    | (go_at_call 27; refine (HC.out _ _ _ H3.out.2 H3.out.1).mono ?_; rintro e w4 ⟨r, rfl, hp, hrow⟩; have H4 : Hid (P r w4 ∧ w4.heap[T.t]? = some (.cells T.cells 61 (0, 0))) := ⟨hp, hrow⟩; clear hp hrow))
  all_goals
    refine hK _ _ ?_
    go_wp2
    refine leaves_cons (f := 12) (args := #[.pointer (some ⟨T.t, 0, none⟩)]) (by simp) (by simp [go_sem]) ?_
    refine (abortD _ T.t _ T.cells rfl H4.out.2).mono ?_
    rintro e u' w5 ⟨rfl, rfl, h5, h6⟩
    simp [Leaves, settle, results, Tryz.results16, go_sem]
    exact ⟨w4, H4.out.1, h5, h6⟩
end Go.Proofs.YtckldbhaaagncaaGreatDoor

namespace Go.Proofs.YtckldbhaaagncaaGreatDoor
open Go.RowKit Go.Maps Rec

theorem step_look {ops : Array Oper} {o : Oper} {a : Act} {w : World} {K : Act → World → Prop} {Q : Exit → Act → World → Prop} {E : Prop} (hgd : o.guard = none) (m x : Operand) (ho : o.op = .lookup 58 m x true)
    (b nb i : Nat) (c : Cm) (hm : a.eval m = .map (some b)) (hx : a.eval x = .int .i64 (i : Int)) (hM : MapAt w b c nb) (ok : COk c nb) (hi : i ≤ 16384) (h : K (a.put o.dst (.tuple #[optV (c i), .bool (c i).isSome])) w) :
    if Region.wanted o (yielded ops a.tmps) = true then Oper.wp Tryz.prog o a w K Q else E := by
  have hw : Region.wanted o (yielded ops a.tmps) = true := by simp [Region.wanted, hgd]
  rw [if_pos hw]
  have hr := hM.look ok i hi
  unfold Oper.wp
  simp [execOp, ho, hm, hx, hr, Result.andThen]
  exact h
theorem step_mapput {ops : Array Oper} {o : Oper} {a : Act} {w : World} {K : Act → World → Prop} {Q : Exit → Act → World → Prop} {E : Prop} (hgd : o.guard = none) (m x v : Operand) (ho : o.op = .mapUpdate 58 m x v)
    (b nb i : Nat) (c : Cm) (q : Bk) (hm : a.eval m = .map (some b)) (hx : a.eval x = .int .i64 (i : Int)) (hv : a.eval v = q.v) (hM : MapAt w b c nb) (ok : COk c nb) (hi : i < nb) (hn : nb ≤ 16384) (hq : q.n = (i : Int)) (hs : (lst (ups c i (some q)) nb).length ≤ 1000)
    (h : ∀ w', MapAt w' b (ups c i (some q)) nb → Fr (fun k => k = b) w w' → K (a.put o.dst undef) w') :
    if Region.wanted o (yielded ops a.tmps) = true then Oper.wp Tryz.prog o a w K Q else E := by
  have hw : Region.wanted o (yielded ops a.tmps) = true := by simp [Region.wanted, hgd]
  rw [if_pos hw]
  obtain ⟨w', hr, h1, h2⟩ := hM.store ok hi hn q hq hs
  unfold Oper.wp
  simp [execOp, ho, hm, hx, hv, hr, Result.andThen]
  exact h w' h1 h2
theorem step_mapdel {ops : Array Oper} {o : Oper} {a : Act} {w : World} {K : Act → World → Prop} {Q : Exit → Act → World → Prop} {E : Prop} (hgd : o.guard = none) (m x : Operand) (ho : o.op = .call { callee := .builtin .delete, args := #[m, x], argTypes := #[58, 3] })
    (b nb i : Nat) (c : Cm) (hm : a.eval m = .map (some b)) (hx : a.eval x = .int .i64 (i : Int)) (hM : MapAt w b c nb) (ok : COk c nb) (hi : i < nb) (hn : nb ≤ 16384)
    (h : ∀ w', MapAt w' b (ups c i none) nb → Fr (fun k => k = b) w w' → K (a.put o.dst (.tuple #[])) w') :
    if Region.wanted o (yielded ops a.tmps) = true then Oper.wp Tryz.prog o a w K Q else E := by
  have hw : Region.wanted o (yielded ops a.tmps) = true := by simp [Region.wanted, hgd]
  rw [if_pos hw]
  obtain ⟨w', hr, h1, h2⟩ := hM.drop ok hi hn o.type
  unfold Oper.wp
  simp [execOp, ho, resolve, invoke, builtin, hm, hx, hr, Result.andThen]
  exact h w' h1 h2
theorem infoF0 : (Tryz.prog.info? 1).map (fun i => (i.zero, i.size, i.bytes)) = some (some .nilFunc, 1, 8) := by kernel_rfl
end Go.Proofs.YtckldbhaaagncaaGreatDoor
