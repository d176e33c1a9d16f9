import Derived.Test.YtiblfmcnffhpdaaGreatDoorCtB
import Derived.WideKeyEntry
namespace Go.Proofs.YtiblfmcnffhpdaaGreatDoor
open Go.RowKit Go.Maps Rec Go.MapKept Go.ChangeMaps
theorem ent_two (w : World) (b : Nat) (es : Array MapEntry) (ck : Nat) (hb : w.heap[b]? = some (.map es ck)) {R : Value → Option (DataW Unit × List MemPlace)} (F : WideElems.Fit Tryz.prog 3 R es ck) (z : Int) (hz : (kI z).wf = true) :
    ∃ (v0 : Value) (st : Nat) (es1 : Array MapEntry) (c1 : Nat), (Instr.mapEntry 36 (.map (some b)) (.int .i64 z)).run Tryz.prog w = .ok (.tuple #[v0, goInt st]) (setBlock w b (.map es1 c1)) ∧
      ∀ (w2 : World) (u : Value), w2.heap[b]? = some (.map es1 c1) → ∃ es' c', (Instr.entryStore 36 (.map (some b)) (goInt st) u).run Tryz.prog w2 = .ok () (setBlock w2 b (.map es' c')) ∧ (Instr.mapUpdate 36 (.map (some b)) (.int .i64 z) u).run Tryz.prog w = .ok () (setBlock w b (.map es' c')) := by
  have hk : keyOf Tryz.prog 3 (.int .i64 z) = some (kI z) := keyOf_int_mk Tryz.underlying3 hz
  have hu := run_underlying Tryz.underlying36
  have hck := fun em => lawI.check w em hk
  have hst := lawI.stays w hk
  obtain ⟨q1, q2, _⟩ := F.stamped
  have findB : ∀ (xs : Array MapEntry) (j : Nat) (e0 : MapEntry), (xs.toList.map (·.born)).Nodup → xs.toList[j]? = some e0 → xs.findIdx? (fun e => ((e.born : Nat) : Int) == ((e0.born : Nat) : Int)) = some j := fun xs j e0 h1 h2 => by
    rw [WideElems.findIdx_arr]; exact WideElems.findIdx_born h1 h2
  rcases lawI.find w hk es.toList F.keys with ⟨f1, f2⟩ | ⟨j, e0, f1, f2, f3⟩
  · refine ⟨.int .i64 0, ck, es.push ⟨.int .i64 z, .int .i64 0, ck⟩, ck + 1, ?_, fun w2 u h2 => ⟨es.push ⟨.int .i64 z, u, ck⟩, ck + 1, ?_, ?_⟩⟩
    · have hz0 := zeroI
      simp [Instr.mapEntry, hu, MapKept.run_getObj_map hb, hck, f1, hz0, MapKept.run_setObj_map _ hb, Result.andThen, setBlock]
    · have hf := findB (es.push ⟨.int .i64 z, .int .i64 0, ck⟩) es.size ⟨.int .i64 z, .int .i64 0, ck⟩ (by
        rw [Array.toList_push, List.map_append]
        refine List.nodup_append.2 ⟨q2, by simp, fun a ha c hc e => ?_⟩
        obtain ⟨y, hy, rfl⟩ := List.mem_map.1 ha
        have h5 := q1 y hy
        simp at hc
        omega) (by simp)
      have hm : (es.push ⟨.int .i64 z, .int .i64 0, ck⟩).modify es.size (fun e => { e with val := u }) = es.push ⟨.int .i64 z, u, ck⟩ := by
        apply Array.ext
        · simp
        · intro i h1 h3
          rw [Array.getElem_modify]
          by_cases e : es.size = i
          · subst e; simp
          · have hi : i < es.size := by simp at h1; omega
            simp [e, Array.getElem_push, hi]
      simp [Instr.entryStore, MapKept.run_getObj_map h2, asInt, asIntOf, goInt, hf, hm, MapKept.run_setObj_map _ h2, Result.andThen, setBlock]
    · simp [Instr.mapUpdate, hu, MapKept.run_getObj_map hb, hck, f1, MapKept.run_setObj_map _ hb, Result.andThen, setBlock]
  · have hj : es[j]? = some e0 := by simpa using f2
    have hsm : es.modify j (fun e => { e with key := .int .i64 z }) = es := by
      obtain ⟨hlt, hje⟩ := Array.getElem?_eq_some_iff.1 hj
      apply Array.ext
      · simp
      · intro i h1 h3
        rw [Array.getElem_modify]
        by_cases e : j = i
        · subst e
          simp only [if_true, hje]
          cases e0
          simp_all
        · simp [e]
    refine ⟨e0.val, e0.born, es, ck, ?_, fun w2 u h2 => ⟨es.modify j (fun e => { e with key := .int .i64 z, val := u }), ck, ?_, ?_⟩⟩
    · simp [Instr.mapEntry, hu, MapKept.run_getObj_map hb, hck, f1, hj, f3, hst, hsm, MapKept.run_setObj_map _ hb, Result.andThen, setBlock]
    · have hf := findB es j e0 q2 f2
      have hm : es.modify j (fun e => { e with val := u }) = es.modify j (fun e => { e with key := .int .i64 z, val := u }) := by
        obtain ⟨hlt, hje⟩ := Array.getElem?_eq_some_iff.1 hj
        apply Array.ext
        · simp
        · intro i h1 h3
          rw [Array.getElem_modify, Array.getElem_modify]
          by_cases e : j = i
          · subst e
            simp only [if_true, hje]
            cases e0
            simp_all
          · simp [e]
      simp [Instr.entryStore, MapKept.run_getObj_map h2, asInt, asIntOf, goInt, hf, hm, MapKept.run_setObj_map _ h2, Result.andThen, setBlock]
    · simp [Instr.mapUpdate, hu, MapKept.run_getObj_map hb, hck, f1, hj, f3, hst, MapKept.run_setObj_map _ hb, Result.andThen, setBlock]
theorem setB_same {w : World} {b : Nat} {o o' : Obj} (hb : w.heap[b]? = some o) : (setBlock w b o').heap[b]? = some o' := by
  have := (Array.getElem?_eq_some_iff.1 hb).1
  simp [setBlock, this]
theorem setB_grown (w : World) (b : Nat) (o' : Obj) : w.grownBy (setBlock w b o') (some b) :=
  ⟨rfl, rfl, rfl, by simp [setBlock], fun k _ hne => by simp [setBlock, show b ≠ k from fun e => hne (by rw [e])]⟩
theorem has_entry {w : World} {D : Dk} {T T1 : Tx} {n k N H : Nat} {x : Nat → Int} {ν ν' : Nat → Nat} (h : HasM w H ν) (hk : k < 16522) (hp : AdP D T T1 n k x ν ν' N) (hn : n ≤ 4427) :
    ∃ (v0 : Value) (st : Nat) (w8 : World), (Instr.mapEntry 36 (.map (some H)) (.int .i64 (k : Int))).run Tryz.prog w = .ok (.tuple #[v0, goInt st]) w8 ∧ w.grownBy w8 (some H) ∧
      ∃ w9, (Instr.entryStore 36 (.map (some H)) (goInt st) (.int .i64 (N : Int))).run Tryz.prog w8 = .ok () w9 ∧ HasM w9 H ν' ∧ w.grownBy w9 (some H) := by
  obtain ⟨ks', q1, q2⟩ := h
  obtain ⟨E', e1, e2⟩ := q1
  have hNb : N < n := by have := (hp.wd.own.good (ixP k) (by rw [hp.nE]; exact hp.N0)).2.1; rw [hp.nE] at this; exact this
  have hlen : ks'.length ≤ 16522 := by
    have h1 : (ks'.map Prod.fst).length ≤ ((List.range 16522).map fun k : Nat => (k : Int)).length := sub_len e2.nd (fun x hx => by
      obtain ⟨k, k1, _, k3⟩ := (has_keys q2 x).1 hx
      exact List.mem_map.2 ⟨k, List.mem_range.2 k1, k3.symm⟩)
    rw [List.length_map, List.length_map, List.length_range] at h1
    exact h1
  obtain ⟨w9, r1, r2, r3⟩ := e1.update lawI Tryz.underlying36 (by unfold maxLen; omega) (keyOf_int_mk (a := (k : Int)) Tryz.underlying3 (wf64 (by omega))) (plainElem_int (a := (N : Int)) Tryz.underlying3 (wf64 (by omega)))
  obtain ⟨ks9, k1, k2, k3, k4⟩ := e2.put (k : Int) (N : Int)
  have hm9 : HasM w9 H ν' := HasM.put hk q2 (MpAt.of r2 k1) (by rw [hp.nE]; exact k3) (by rw [hp.nE]; exact hp.N0) (fun j j1 j2 => hp.tks.off _ (ixP_way_off hk j1 j2))
  obtain ⟨es, ck, hb, F, _, _⟩ := e1
  obtain ⟨v0, st, es1, c1, m1, m2⟩ := ent_two w H es ck hb F (k : Int) (wf64 (by omega))
  obtain ⟨es', c', s1, s2⟩ := m2 (setBlock w H (.map es1 c1)) (.int .i64 (N : Int)) (setB_same hb)
  have e9 : w9 = setBlock w H (.map es' c') := by
    rw [r1] at s2
    injection s2
  refine ⟨v0, st, _, m1, setB_grown _ _ _, _, s1, ?_, ?_⟩
  · refine hm9.hp ?_
    rw [e9, setB_same (setB_same hb), setB_same hb]
  · exact ⟨rfl, rfl, rfl, by simp [setBlock], fun j hj hne => by simp [setBlock, show H ≠ j from fun e => hne (by rw [e])]⟩
def S15 (y : Nat → Int) (Y : Nat) (w : World) : Prop := w.cell? ⟨Y, 0, none⟩ = some (.int .i64 (y 0)) ∧ w.cell? ⟨Y, 1, none⟩ = some (.int .i64 (y 1)) ∧ w.cell? ⟨Y, 2, none⟩ = some (.int .i64 (y 2)) ∧ w.cell? ⟨Y, 3, none⟩ = some (.int .i64 (y 3)) ∧ w.cell? ⟨Y, 4, none⟩ = some (.int .i64 (y 4)) ∧ w.cell? ⟨Y, 5, none⟩ = some (.int .i64 (y 5)) ∧ w.cell? ⟨Y, 6, none⟩ = some (.int .i64 (y 6)) ∧ w.cell? ⟨Y, 7, none⟩ = some (.int .i64 (y 7)) ∧ w.cell? ⟨Y, 8, none⟩ = some (.int .i64 (y 8)) ∧ w.cell? ⟨Y, 9, none⟩ = some (.int .i64 (y 9)) ∧ w.cell? ⟨Y, 10, none⟩ = some (.int .i64 (y 10)) ∧ w.cell? ⟨Y, 11, none⟩ = some (.int .i64 (y 11)) ∧ w.cell? ⟨Y, 12, none⟩ = some (.int .i64 (y 12)) ∧ w.cell? ⟨Y, 13, none⟩ = some (.int .i64 (y 13)) ∧ w.cell? ⟨Y, 14, none⟩ = some (.int .i64 (y 14))
theorem s15_of {y : Nat → Int} {Y : Nat} {w : World} (h : w.heap[Y]? = some (.cells #[.int .i64 (y 0), .int .i64 (y 1), .int .i64 (y 2), .int .i64 (y 3), .int .i64 (y 4), .int .i64 (y 5), .int .i64 (y 6), .int .i64 (y 7), .int .i64 (y 8), .int .i64 (y 9), .int .i64 (y 10), .int .i64 (y 11), .int .i64 (y 12), .int .i64 (y 13), .int .i64 (y 14)] 35 (0, 0))) : S15 y Y w := by
  unfold S15
  refine ⟨?_, ?_, ?_, ?_, ?_, ?_, ?_, ?_, ?_, ?_, ?_, ?_, ?_, ?_, ?_⟩ <;> (rw [cell_of_row _ _ _ _ _ _ h]; rfl)
end Go.Proofs.YtiblfmcnffhpdaaGreatDoor
