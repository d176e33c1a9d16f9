import Derived.Test.YtdheojhfgeabhaaDoorTxS
import Derived.Test.YtdheojhfgeabhaaDoorKWRo
namespace Go.Proofs.YtdheojhfgeabhaaDoor
open Go.RowKit Go.Maps Rec

def Tx.setC (T : Tx) (c : Cm) : Tx := { T with c := c }
def Tx.setU (T : Tx) (v : Value) (us : List Un) : Tx := { T with uv := v, us := us }
theorem setC_held {T : Tx} {i : Nat} {q : Option Bk} {k : Nat} (h : (T.setC (ups T.c i q)).held k) : T.held k ∨ ∃ x, q = some x ∧ x.g = k := by
  rcases h with ⟨j, x, hj, rfl⟩ | ⟨u, hu, hk⟩
  · have hj : ups T.c i q j = some x := hj
    by_cases e : j = i
    · subst e
      rw [ups_same] at hj
      exact .inr ⟨x, hj, rfl⟩
    · rw [ups_other _ _ e] at hj
      exact .inl (.inl ⟨j, x, hj, rfl⟩)
  · exact .inl (.inr ⟨u, hu, hk⟩)
/-- an entry of the map changes -/
theorem TxAt.setC {w w' : World} {T : Tx} {i : Nat} {q : Option Bk} (h : TxAt w T) (hM : MapAt w' T.mb (ups T.c i q) T.nb) (hF : Fr (fun k => k = T.mb) w w') (hb : ∀ x, q = some x → BlkAt w x.g x.x ∧ ¬ T.has x.g ∧ x.n = (i : Int)) (h0 : 98 ≤ i) (h1 : i < T.nb) (hl : (lst (ups T.c i q) T.nb).length ≤ 96) :
    TxAt w' (T.setC (ups T.c i q)) := by
  have ne : ∀ k, T.held k → k ≠ T.mb := fun k hk e => h.ap3 k hk (.inr (.inl e))
  refine ⟨hF.heap h.row h.ap1, hM, h.ok.ups q h0 h1 (fun x hx => (hb x hx).2.2), fun j x hj => ?_, owns_fr h.und hF (fun k hk => (h.ap2 k hk).2), fun u hu => (h.una u hu).fr hF (fun k hk => ne k (.inr ⟨u, hu, hk⟩)), h.unb, h.ap1, h.ap2, fun k hk => ?_, h.ul, h.n16, hl⟩
  · have hj' : ups T.c i q j = some x := hj
    by_cases e : j = i
    · subst e
      rw [ups_same] at hj'
      obtain ⟨b1, b2, _⟩ := hb x hj'
      exact b1.fr hF (fun e => b2 (.inr (.inl e)))
    · rw [ups_other _ _ e] at hj'
      exact (h.blk j x hj').fr hF (ne _ (.inl ⟨j, x, hj', rfl⟩))
  · rcases setC_held hk with hk | ⟨x, hx, rfl⟩
    · exact h.ap3 k hk
    · exact (hb x hx).2.1
theorem TxAt.setC_mv {w w' : World} {T : Tx} {i : Nat} {q : Option Bk} (hF : Fr (fun k => k = T.mb) w w') (hb : ∀ x, q = some x → T.all x.g ∨ w.heap.size ≤ x.g) : TMv w T w' (T.setC (ups T.c i q)) := by
  refine ⟨hF.mono (fun k hk => .inr (.inl hk)), fun k hk => ?_, fun k hk => .inl hk, rfl, rfl, rfl⟩
  rcases hk with hk | hk
  · exact .inl (.inl hk)
  · rcases setC_held hk with hk | ⟨x, hx, rfl⟩
    · exact .inl (.inr hk)
    · exact hb x hx
/-- an undo step is laid at the end -/
theorem TxAt.push {w w1 : World} {T : Tx} {u : Un} {g cap : Nat} (h : TxAt w T) (hu : UnAt w T.t u) (hn : ∀ k, u.all k → ¬ T.has k) (hb : 98 ≤ u.i ∧ u.i < T.nb ∧ ∀ q, u.old = some q → q.n = (u.i : Int)) (hl : T.us.length + 1 ≤ 1000000)
    (hr : w1.ownsRow 0 1 1 (.slice (some ⟨g, 0, none⟩) (T.us.length + 1) cap) (T.us.length + 1) (T.us.map Un.v ++ [u.v])) (hF : Fr (fun k => T.uv.ownBlock = some k) w w1) (hg : T.uv.ownBlock = some g ∨ w.heap.size ≤ g) :
    TxAt (w1.setCell ⟨T.t, 2, none⟩ (.slice (some ⟨g, 0, none⟩) (T.us.length + 1) cap)) (T.setU (.slice (some ⟨g, 0, none⟩) (T.us.length + 1) cap) (T.us ++ [u])) ∧ Fr T.has w (w1.setCell ⟨T.t, 2, none⟩ (.slice (some ⟨g, 0, none⟩) (T.us.length + 1) cap)) := by
  have hgt : g ≠ T.t ∧ g ≠ T.mb := by
    rcases hg with e | e
    · exact h.ap2 g e
    · have a1 := h.lt (k := T.t) (.inl (.inl rfl))
      have a2 := h.lt (k := T.mb) (.inl (.inr (.inl rfl)))
      exact ⟨by omega, by omega⟩
  have hut : ∀ k, T.uv.ownBlock = some k → k ≠ T.t := fun k hk => (h.ap2 k hk).1
  have F2 : Fr (fun k => k = T.t) w1 (w1.setCell ⟨T.t, 2, none⟩ (.slice (some ⟨g, 0, none⟩) (T.us.length + 1) cap)) := Fr.set
  have FA : Fr (fun k => k = T.t ∨ T.uv.ownBlock = some k) w (w1.setCell ⟨T.t, 2, none⟩ (.slice (some ⟨g, 0, none⟩) (T.us.length + 1) cap)) := (hF.mono (fun k hk => .inr hk)).trans F2 (fun k hk => .inl (.inl hk))
  have held : ∀ k, T.held k → ¬ (k = T.t ∨ T.uv.ownBlock = some k) := fun k hk e => h.ap3 k hk (e.elim .inl (fun e => .inr (.inr e)))
  have hnu : ∀ k, u.all k → ¬ (k = T.t ∨ T.uv.ownBlock = some k) := fun k hk e => hn k hk (e.elim .inl (fun e => .inr (.inr e)))
  have rowt : w1.heap[T.t]? = some (.cells T.cells 65 (0, 0)) := hF.heap h.row (fun e => hut _ e rfl)
  have heldS : ∀ k, (T.setU (.slice (some ⟨g, 0, none⟩) (T.us.length + 1) cap) (T.us ++ [u])).held k → T.held k ∨ u.all k := fun k hk => by
    rcases hk with hk | ⟨x, hx, hk⟩
    · exact .inl (.inl hk)
    · rcases List.mem_append.1 hx with hx | hx
      · exact .inl (.inr ⟨x, hx, hk⟩)
      · simp at hx; subst hx; exact .inr hk
  refine ⟨⟨?_, ?_, h.ok, ?_, ?_, ?_, ?_, h.ap1, ?_, ?_, ?_, h.n16, h.cnt⟩, FA.mono (fun k hk => hk.elim .inl (fun e => .inr (.inr e)))⟩
  · have := heap_setCell_same w1 T.t 2 _ _ (.slice (some ⟨g, 0, none⟩) (T.us.length + 1) cap) rowt
    exact this
  · exact h.map.fr FA (fun e => e.elim (fun e => h.ap1 e.symm) (fun e => (h.ap2 _ e).2 rfl))
  · exact fun i q hq => (h.blk i q hq).fr FA (held _ (.inl ⟨i, q, hq, rfl⟩))
  · have := owns_fr hr F2 (fun k hk => by cases hk; exact hgt.1)
    show World.ownsRow _ 0 1 1 _ (T.us ++ [u]).length ((T.us ++ [u]).map Un.v)
    rw [List.length_append, List.map_append]
    exact this
  · intro x hx
    rcases List.mem_append.1 hx with hx | hx
    · exact (h.una x hx).fr FA (fun k hk => held k (.inr ⟨x, hx, hk⟩))
    · simp at hx; subst hx
      exact hu.fr FA hnu
  · intro x hx
    rcases List.mem_append.1 hx with hx | hx
    · exact h.unb x hx
    · simp at hx; subst hx; exact hb
  · intro k hk
    cases hk
    exact hgt
  · intro k hk hh
    have hlt : k < w.heap.size := (heldS k hk).elim (fun e => h.lt (.inr e)) (fun e => hu.lt e)
    have hno : ¬ T.has k := (heldS k hk).elim (h.ap3 k) (hn k)
    rcases hh with e | e | e
    · exact hno (.inl e)
    · exact hno (.inr (.inl e))
    · have e : g = k := by
        have : (Value.slice (some ⟨g, 0, none⟩) (T.us.length + 1) cap).ownBlock = some k := e
        simpa [Value.ownBlock] using this
      rcases hg with e1 | e1
      · rw [e] at e1
        exact hno (.inr (.inr e1))
      · omega
  · show (T.us ++ [u]).length ≤ _
    rw [List.length_append]; exact hl
end Go.Proofs.YtdheojhfgeabhaaDoor

namespace Go.Proofs.YtdheojhfgeabhaaDoor
open Go.RowKit Rec

end Go.Proofs.YtdheojhfgeabhaaDoor

namespace Go.Proofs.YtdheojhfgeabhaaDoor
open Go.RowKit Go.Maps Rec

theorem cells_bk (q : Bk) : ∀ u ∈ q.cells, u.oneCell' = true := fun u hu => by
  simp [Bk.cells, Bk.v] at hu
  rcases hu with rfl | rfl <;> rfl
end Go.Proofs.YtdheojhfgeabhaaDoor

namespace Go.Proofs.YtdheojhfgeabhaaDoor
open Go.RowKit Go.Maps Rec

end Go.Proofs.YtdheojhfgeabhaaDoor

namespace Go.Proofs.YtdheojhfgeabhaaDoor
open Go.RowKit Go.Maps Rec

theorem step_look {ops : Array Oper} {o : Oper} {a : Act} {w : World} {K : Act → World → Prop} {Q : Exit → Act → World → Prop} {E : Prop} (hgd : o.guard = none) (m x : Operand) (ho : o.op = .lookup 62 m x true)
    (b nb i : Nat) (c : Cm) (hm : a.eval m = .map (some b)) (hx : a.eval x = .int .i64 (i : Int)) (hM : MapAt w b c nb) (ok : COk c nb) (hi : i ≤ 16384) (h : K (a.put o.dst (.tuple #[optV (c i), .bool (c i).isSome])) w) :
    if Region.wanted o (yielded ops a.tmps) = true then Oper.wp Tryd.prog o a w K Q else E := by
  have hw : Region.wanted o (yielded ops a.tmps) = true := by simp [Region.wanted, hgd]
  rw [if_pos hw]
  have hr := hM.look ok i hi
  unfold Oper.wp
  simp [execOp, ho, hm, hx, hr, Result.andThen]
  exact h
theorem step_mapput {ops : Array Oper} {o : Oper} {a : Act} {w : World} {K : Act → World → Prop} {Q : Exit → Act → World → Prop} {E : Prop} (hgd : o.guard = none) (m x v : Operand) (ho : o.op = .mapUpdate 62 m x v)
    (b nb i : Nat) (c : Cm) (q : Bk) (hm : a.eval m = .map (some b)) (hx : a.eval x = .int .i64 (i : Int)) (hv : a.eval v = q.v) (hM : MapAt w b c nb) (ok : COk c nb) (hi : i < nb) (hn : nb ≤ 16384) (hq : q.n = (i : Int)) (hs : (lst (ups c i (some q)) nb).length ≤ 1000)
    (h : ∀ w', MapAt w' b (ups c i (some q)) nb → Fr (fun k => k = b) w w' → K (a.put o.dst undef) w') :
    if Region.wanted o (yielded ops a.tmps) = true then Oper.wp Tryd.prog o a w K Q else E := by
  have hw : Region.wanted o (yielded ops a.tmps) = true := by simp [Region.wanted, hgd]
  rw [if_pos hw]
  obtain ⟨w', hr, h1, h2⟩ := hM.store ok hi hn q hq hs
  unfold Oper.wp
  simp [execOp, ho, hm, hx, hv, hr, Result.andThen]
  exact h w' h1 h2
theorem step_mapdel {ops : Array Oper} {o : Oper} {a : Act} {w : World} {K : Act → World → Prop} {Q : Exit → Act → World → Prop} {E : Prop} (hgd : o.guard = none) (m x : Operand) (ho : o.op = .call { callee := .builtin .delete, args := #[m, x], argTypes := #[62, 3] })
    (b nb i : Nat) (c : Cm) (hm : a.eval m = .map (some b)) (hx : a.eval x = .int .i64 (i : Int)) (hM : MapAt w b c nb) (ok : COk c nb) (hi : i < nb) (hn : nb ≤ 16384)
    (h : ∀ w', MapAt w' b (ups c i none) nb → Fr (fun k => k = b) w w' → K (a.put o.dst (.tuple #[])) w') :
    if Region.wanted o (yielded ops a.tmps) = true then Oper.wp Tryd.prog o a w K Q else E := by
  have hw : Region.wanted o (yielded ops a.tmps) = true := by simp [Region.wanted, hgd]
  rw [if_pos hw]
  obtain ⟨w', hr, h1, h2⟩ := hM.drop ok hi hn o.type
  unfold Oper.wp
  simp [execOp, ho, resolve, invoke, builtin, hm, hx, hr, Result.andThen]
  exact h w' h1 h2
theorem infoF0 : (Tryd.prog.info? 1).map (fun i => (i.zero, i.size, i.bytes)) = some (some .nilFunc, 1, 8) := by kernel_rfl
end Go.Proofs.YtdheojhfgeabhaaDoor
