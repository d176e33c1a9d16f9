import Derived.Test.YtckldbhaaagncaaGreatDoorKWMl
namespace Go.Proofs.YtckldbhaaagncaaGreatDoor
open Go.RowKit Rec

theorem assert_errno (e : Int) (w : World) : (Instr.typeAssert (.iface 25 (.int .i64 e)) 20 25 false).run Tryz.prog w = .ok (.int .i64 e) w := by
  simp [Instr.typeAssert, run_underlying Tryz.underlying25]
set_option maxRecDepth 100000 in
theorem why_any (w : World) (e : Int) : Calls Tryz.prog 44 #[gaveV e] w fun r w' => r = .returned (.int .i64 e) ∧ w = w' := by
  have ha := assert_errno e
  go_enter Tryz.func44, Tryz.ntmps44
  go_wp2
  go_ret
  exact ⟨rfl, rfl⟩
set_option maxRecDepth 100000 in
set_option maxHeartbeats 1600000 in
theorem catchR_panicking (p : Addr) (x e : Int) (older : List PanicEntry) (w : World) (hc : w.cell? p = some (.int .i64 x)) (hz : w.frozen? p = false) :
    CallsD Tryz.prog 43 #[.pointer (some p)] (.panicking ({ v := gaveV e, recovered := false } :: older)) w fun r u' w' =>
      r = .returned (.tuple #[]) ∧ u' = .panicking ({ v := gaveV e, recovered := true } :: older) ∧ w' = w.setCell p (.int .i64 e) := by
  refine callsD_of_wpS Tryz.func43 rfl fun c₀ cs hu => ?_
  apply wpS_seq
  apply wpS_region
  simp [wpOpsS, go_sem, recoverD, hu, Tryz.ntmps43, Exit.thenS]
  have et : (#[Value.pointer (some p)] ++ ((Array.replicate 6 undef).setIfInBounds 1 (gaveV e)).setIfInBounds 0 (gaveV e)) = #[.pointer (some p), gaveV e, gaveV e, undef, undef, undef, undef] := rfl
  rw [et]
  clear et
  refine wpS_of_wp ?_
  go_wp2_with (go_at_call 44; refine (why_any _ _).mono ?_; rintro r w' ⟨rfl, rfl⟩)
  simp [bodyPostS, results, Tryz.results43]
set_option maxRecDepth 100000 in
set_option maxHeartbeats 1600000 in
theorem catchR_idle (p : Addr) (w : World) :
    CallsD Tryz.prog 43 #[.pointer (some p)] .returning w fun r u' w' => r = .returned (.tuple #[]) ∧ u' = .returning ∧ w' = w := by
  refine callsD_of_wpS Tryz.func43 rfl fun c₀ cs hu => ?_
  apply wpS_seq
  apply wpS_region
  simp [wpOpsS, go_sem, recoverD, hu, Tryz.ntmps43, Exit.thenS]
  have et : (#[Value.pointer (some p)] ++ ((Array.replicate 6 undef).setIfInBounds 1 Value.nilIface).setIfInBounds 0 Value.nilIface) = #[.pointer (some p), .nilIface, .nilIface, undef, undef, undef, undef] := rfl
  rw [et]
  clear et
  refine wpS_of_wp ?_
  go_wp2
  cases c₀
  simp_all [bodyPostS, results, Tryz.results43]
end Go.Proofs.YtckldbhaaagncaaGreatDoor

namespace Go.Proofs.YtckldbhaaagncaaGreatDoor
open Go.RowKit Rec

theorem zn_cells (m : Nat) : Builtin.zeroCells (Value.int .u8 0).cells m = ((zn m).map (Value.int .u8)).toArray := by
  apply Array.ext'
  apply List.ext_getElem
  · simp [Builtin.zeroCells, zn, Value.cells]
  · intro i h1 h2
    simp [Builtin.zeroCells, zn, Value.cells, Nat.mod_one]
theorem run_zeros_nil {w : World} {m : Nat} (ty : TypeId) (h0 : 0 < m) (h47 : m ≤ 140737488355328) :
    (Builtin.append_ #[42, 3] ty #[.slice none 0 0, .int .i64 m]).run Tryz.prog w =
      .ok (.slice (some ⟨w.heap.size, 0, none⟩) m (grownCap w m 0 5)) (w.drew.alloc (.cells (((zn m).map (Value.int .u8)).toArray ++ Builtin.zeroCells (Value.int .u8 0).cells (grownCap w m 0 5 - m)) 5)) := by
  obtain ⟨i0, hi, hz0, hz1, hz2⟩ := info_parts info5
  have hw : IntKind.i64.wrap (m : Int) = (m : Int) := by rw [IntKind.wrap_i64]; omega
  have c1 : ¬ ((m : Int) < 0) := by omega
  have c2 : ¬ ((281474976710656 : Int) < m) := by omega
  have c3 : ¬ m = 0 := by omega
  have h63' : ¬ (9223372036854775807 < (m : Int)) := by omega
  have h48 := growslice_fits (need := m) (old := 0) (bytes := 1) (by omega) (by omega)
  have h48' : ¬ (281474976710656 < Builtin.nextslicecap m 0) := by omega
  simp [Builtin.append_, run_underlying Tryz.underlying42, run_underlying Tryz.underlying3, sizeOf, typeInfo, zeroValue, hi, hz0, hz1, hz2, asInt, asIntOf, hw, Builtin.lenOf, zn_cells, c1, c2, c3, h63', h48', Question.forced, run_firstCells_none, newRow, grownCap]
/-- 'append(nil, make([]byte, m)...)' -/
theorem wp_zeros_nil {ops : Array Oper} {rest : List Oper} {o : Oper} {a : Act} {Q : Exit → Act → World → Prop} {w : World} (hgd : o.guard = none) (s x : Operand)
    (ho : o.op = .call { callee := .builtin .append, args := #[s, x], argTypes := #[42, 3] }) (m : Nat) (hs : a.eval s = .slice none 0 0) (hx : a.eval x = .int .i64 m) (h0 : 0 < m) (h47 : m ≤ 140737488355328)
    (h : ∀ cap w', OwnB w' w.heap.size cap [] → Below w.heap.size w w' → wpList Tryz.prog ops Q rest (a.put o.dst (.slice (some ⟨w.heap.size, 0, none⟩) m cap)) w') :
    wpList Tryz.prog ops Q (o :: rest) a w := by
  have hrun := run_zeros_nil (w := w) (m := m) o.type h0 h47
  refine wpList_plain hgd fun K hK => ?_
  unfold Oper.wp execOp
  simp only [ho, resolve, invoke, builtin, Sem.run_bind, Sem.run_pure, Result.andThen_ok, List.map_toArray, List.map_cons, List.map_nil, hs, hx, hrun]
  have hge := grownCap_ge w m 0 5
  refine hK _ _ (h _ _ ⟨⟨_, heap_alloc_new w.drew _, ?_, rfl⟩, by simp, by simp, grownCap_le_maxLen w _ _ _ (by unfold maxLen; omega), by intro i; simp [nth]⟩ (((Below.refl _ _).drew).alloc (Nat.le_refl _) _))
  have e1 : (Value.int .u8 0).cells.size = 1 := rfl
  simp only [Array.size_append, List.size_toArray, List.length_map, zn_length, size_zeroCells, e1]; omega
end Go.Proofs.YtckldbhaaagncaaGreatDoor
