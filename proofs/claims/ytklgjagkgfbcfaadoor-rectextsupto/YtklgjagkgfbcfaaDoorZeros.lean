import Derived.Test.YtklgjagkgfbcfaaDoorFix
namespace Go.Proofs.YtklgjagkgfbcfaaDoor
open Go.RowKit Rec

def zs (m : Nat) : List Int := List.replicate m 0
theorem zs_length (m : Nat) : (zs m).length = m := by simp [zs]
theorem zs_cells (m : Nat) : (Builtin.zeroCells (Value.int .u8 0).cells m).toList = (zs m).map (Value.int .u8) := by
  apply List.ext_getElem
  · simp [Builtin.zeroCells, zs, Value.cells]
  · intro i h1 h2
    simp [Builtin.zeroCells, zs, Value.cells, Nat.mod_one]
theorem wf_zs (m : Nat) : ∀ i, 0 ≤ nth (zs m) i ∧ nth (zs m) i < 256 := fun i => by
  have : nth (zs m) i = 0 := by
    by_cases hi : i < m
    · simp [nth, zs, List.getD, hi]
    · exact nth_out _ _ (by rw [zs_length]; omega)
  omega
theorem wrap_small {x : Int} {k : Nat} (h : x = k) (h2 : k < 9223372036854775808) : IntKind.i64.wrap x = (k : Int) := by
  rw [IntKind.wrap_i64]; omega
theorem wrap_nat (k : Nat) (h2 : k < 9223372036854775808) : IntKind.i64.wrap (k : Int) = (k : Int) := by
  exact wrap_small rfl h2
theorem run_zeros_room {w : World} {g sLen sCap m : Nat} {cur : Array Value} (ty : TypeId) (hg : w.heap[g]? = some (.cells cur 5 (0, 0))) (h0 : 0 < m) (hm : m ≤ 8) (hroom : sLen + m ≤ sCap) (hfit : sLen + m ≤ cur.size) :
    (Builtin.append_ #[22, 3] ty #[.slice (some ⟨g, 0, none⟩) sLen sCap, .int .i64 m]).run Tryd.prog w =
      .ok (.slice (some ⟨g, 0, none⟩) (sLen + m) sCap) (w.setRow g (cur.toList.take sLen ++ (zs m).map (Value.int .u8) ++ cur.toList.drop (sLen + m)).toArray) := by
  obtain ⟨i0, hi, hz0, hz1, hz2⟩ := info_parts info5
  have hst := run_storeCells_at Tryd.prog g sLen 5 ((zs m).map (Value.int .u8)) 0 cur w hg (by simpa [zs_length] using hfit) (cells_u8 _)
  simp only [Nat.add_zero, List.length_map, zs_length] at hst
  have hw := wrap_nat m (by omega)
  have c1 : ¬ ((m : Int) < 0) := by omega
  have c2 : ¬ ((281474976710656 : Int) < m) := by omega
  have c3 : ¬ m = 0 := by omega
  simp [Builtin.append_, run_underlying Tryd.underlying22, run_underlying Tryd.underlying3, sizeOf, typeInfo, zeroValue, hi, hz0, hz1, hz2, asInt, asIntOf, hw, Builtin.lenOf, hroom, Addr.add_lit, zs_cells, hst, c1, c2, c3]
theorem run_zeros_grow {w : World} {g sLen sCap m : Nat} {l : List Int} (ty : TypeId) (hl : l.length = sLen) (holds : ∀ j v, (l.map (Value.int .u8))[j]? = some v → w.cell? ((⟨g, 0, none⟩ : Addr).add j) = some v) (h0 : 0 < m) (hm : m ≤ 8) (hroom : sCap < sLen + m) (h47 : sLen + m ≤ 140737488355328) :
    (Builtin.append_ #[22, 3] ty #[.slice (some ⟨g, 0, none⟩) sLen sCap, .int .i64 m]).run Tryd.prog w =
      .ok (.slice (some ⟨w.heap.size, 0, none⟩) (sLen + m) (grownCap w (sLen + m) sCap 5)) (w.drew.alloc (.cells ((l.map (Value.int .u8)).toArray ++ ((zs m).map (Value.int .u8)).toArray ++ Builtin.zeroCells (Value.int .u8 0).cells (grownCap w (sLen + m) sCap 5 - (sLen + m))) 5)) := by
  obtain ⟨i0, hi, hz0, hz1, hz2⟩ := info_parts info5
  have hw := wrap_nat m (by omega)
  have c1 : ¬ ((m : Int) < 0) := by omega
  have c2 : ¬ ((281474976710656 : Int) < m) := by omega
  have c3 : ¬ m = 0 := by omega
  have hn : ¬ (sLen + m ≤ sCap) := by omega
  have h63' : ¬ (9223372036854775807 < ((sLen : Int) + (m : Int))) := by omega
  have h48 := growslice_fits (bytes := 1) hroom (by omega)
  have h48' : ¬ (281474976710656 < Builtin.nextslicecap (sLen + m) sCap) := by omega
  have hfo := run_firstCells_some (P := Tryd.prog) w.drew 1 sLen ⟨g, 0, none⟩ sLen sCap (l.map (Value.int .u8)) (by simpa using hl) (by simpa using holds)
  have ez : Builtin.zeroCells (Value.int .u8 0).cells m = ((zs m).map (Value.int .u8)).toArray := by rw [← zs_cells]
  simp [Builtin.append_, run_underlying Tryd.underlying22, run_underlying Tryd.underlying3, sizeOf, typeInfo, zeroValue, hi, hz0, hz1, hz2, asInt, asIntOf, hw, Builtin.lenOf, hn, ez, c1, c2, c3, h63', h48', Question.forced, hfo, newRow, grownCap]
  congr 2
  apply Array.ext'
  simp [List.append_assoc]
/-- 'append(s, make([]byte, m)...)', s a row of one's own -/
theorem wp_zeros {ops : Array Oper} {rest : List Oper} {o : Oper} {a : Act} {Q : Exit → Act → World → Prop} {w : World} (hgd : o.guard = none) (s x : Operand)
    (ho : o.op = .call { callee := .builtin .append, args := #[s, x], argTypes := #[22, 3] }) (B g k cap m : Nat) (l : List Int) (hk : l.length = k) (hs : a.eval s = .slice (some ⟨g, 0, none⟩) k cap) (hown : OwnB w g cap l) (hg : B ≤ g) (hB : B ≤ w.heap.size)
    (hx : a.eval x = .int .i64 m) (h0 : 0 < m) (hm : m ≤ 8) (h47 : k + m ≤ 140737488355328)
    (h : ∀ g' cap' w', B ≤ g' → OwnB w' g' cap' (l ++ zs m) → w.grownBy w' (some g) → wpList Tryd.prog ops Q rest (a.put o.dst (.slice (some ⟨g', 0, none⟩) (k + m) cap')) w') :
    wpList Tryd.prog ops Q (o :: rest) a w := by
  subst hk
  obtain ⟨cur, hr, hsz, htk⟩ := hown.row
  by_cases hroom : l.length + m ≤ cap
  · have hrun := run_zeros_room o.type hr h0 hm hroom (by omega)
    refine wpList_plain hgd fun K hK => ?_
    unfold Oper.wp execOp
    simp only [ho, resolve, invoke, builtin, Sem.run_bind, Sem.run_pure, Result.andThen_ok, List.map_toArray, List.map_cons, List.map_nil, hs, hx, hrun]
    refine hK _ _ (h g cap _ hg ⟨⟨_, setRow_heap w g cur _ 5 _ hr, ?_, ?_⟩, by rw [List.length_append, zs_length]; omega, by rw [List.length_append, zs_length]; omega, hown.top, wf_two hown.wf (wf_zs m)⟩ ⟨rfl, rfl, rfl, by simp, fun k _ hk => setRow_other w g k _ (fun e => hk (by rw [e]))⟩)
    · simp [zs_length]; omega
    · rw [htk, ← List.map_append]
      have : (l ++ zs m).length = ((l ++ zs m).map (Value.int .u8)).length := by simp
      rw [this]
      exact List.take_left
  · have hrun := run_zeros_grow (w := w) (g := g) (l := l) o.type rfl (hown.bytes.news) h0 hm (sCap := cap) (by omega) h47
    refine wpList_plain hgd fun K hK => ?_
    unfold Oper.wp execOp
    simp only [ho, resolve, invoke, builtin, Sem.run_bind, Sem.run_pure, Result.andThen_ok, List.map_toArray, List.map_cons, List.map_nil, hs, hx, hrun]
    have hge := grownCap_ge w (l.length + m) cap 5
    refine hK _ _ (h w.heap.size _ _ hB ⟨⟨_, heap_alloc_new w.drew _, ?_, ?_⟩, by rw [List.length_append, zs_length]; omega, by rw [List.length_append, zs_length]; exact hge, grownCap_le_maxLen w _ _ _ (by unfold maxLen; omega), wf_two hown.wf (wf_zs m)⟩ ⟨rfl, rfl, rfl, by simp, fun k hk _ => heap_alloc_old w.drew _ hk⟩)
    · have e1 : (Value.int .u8 0).cells.size = 1 := rfl
      simp only [Array.size_append, List.size_toArray, List.length_map, zs_length, size_zeroCells, e1]; omega
    · simp only [Array.toList_append, List.append_assoc]
      rw [← List.append_assoc, ← List.map_append]
      have : (l ++ zs m).length = ((l ++ zs m).map (Value.int .u8)).length := by simp
      rw [this]
      exact List.take_left
end Go.Proofs.YtklgjagkgfbcfaaDoor
