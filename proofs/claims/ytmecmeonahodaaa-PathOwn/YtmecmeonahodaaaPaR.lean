import Derived.RangeFuncNested
import Derived.RangeFuncBound
import Derived.RangeFuncCalls
import Derived.RangeFuncLeaves
import Derived.Shelf.Abstract
import Derived.Shelf.RegionOpen
import Derived.WalkKit
import Derived.OwnWalkIn
import Derived.TacticsInMore
import Derived.LoopNIn
import Derived.LoopIn
import Derived.Test.YtmecmeonahodaaaProg
namespace Go.Proofs.Ytmecmeonahodaaa
open Go.RowKit Go.Shelf

/-- d blocks from block k on lie as they lay -/
structure Rng (k d : Nat) (W W' : World) : Prop where
  size : W.heap.size ≤ W'.heap.size
  same : ∀ i, k ≤ i → i < k + d → W'.heap[i]? = W.heap[i]?
theorem Rng.refl (k d : Nat) (W : World) : Rng k d W W := ⟨Nat.le_refl _, fun _ _ _ => rfl⟩
theorem Rng.trans {k d : Nat} {A B C : World} (h : Rng k d A B) (g : Rng k d B C) : Rng k d A C := ⟨Nat.le_trans h.size g.size, fun i h1 h2 => (g.same i h1 h2).trans (h.same i h1 h2)⟩
theorem Rng.part {k d k' d' : Nat} {A B : World} (h : Rng k d A B) (h1 : k ≤ k') (h2 : k' + d' ≤ k + d) : Rng k' d' A B := ⟨h.size, fun i a b => h.same i (by omega) (by omega)⟩
theorem Rng.put {k d l : Nat} (W : World) (o : Obj) (h : l < k ∨ k + d ≤ l) : Rng k d W (W.putObj l o) := ⟨by simp, fun i h1 h2 => World.putObj_heap_other (by omega)⟩
theorem Rng.alloc {k d : Nat} (W : World) (o : Obj) (h : k + d ≤ W.heap.size) : Rng k d W (W.alloc o) := ⟨by simp, fun i _ h2 => Below.heap_alloc W o i (by omega)⟩
theorem Rng.drewN (k d : Nat) (W : World) (m : Nat) : Rng k d W (W.drewN m) := ⟨Nat.le_refl _, fun _ _ _ => rfl⟩
theorem Rng.of_below {k d n : Nat} {W W' : World} (h : Below n W W') (hn : k + d ≤ n) : Rng k d W W' := ⟨h.size, fun i _ h2 => h.block i (by omega)⟩
theorem Rng.setCell {k d : Nat} (W : World) (a : Addr) (v : Value) (h : a.block < k ∨ k + d ≤ a.block) : Rng k d W (W.setCell a v) :=
  ⟨by show W.heap.size ≤ (W.heap.modify _ _).size; rw [Array.size_modify]; exact Nat.le_refl _, fun i h1 h2 => Below.heap_setCell W a v i (by omega)⟩
theorem Rng.grown {k d : Nat} {W W' : World} {row : Option Nat} (hg : W.grownBy W' row) (hk : k + d ≤ W.heap.size) (h : ∀ r, row = some r → r < k ∨ k + d ≤ r) : Rng k d W W' :=
  ⟨hg.size, fun i h1 h2 => hg.block i (by omega) (fun e => by have := h i e.symm; omega)⟩

/-- an iterator that may itself go through another one: a round keeps the first d blocks that the iterator's call has laid -/
def SeqR {α : Type} (P : Program) (g : Nat) (lb : Array Value) (enc : α → Value) (d : Nat) (S Sp : List α → Prop) (w : World) : Prop :=
  ∀ (l : Nat) (J Jx : List α → World → Prop) (W : World), Below w.heap.size w W → OwnFrom W.heap.size J → OwnFrom W.heap.size Jx →
    (∀ pre x W1, J pre W1 → Sp (pre ++ [x]) → W.heap.size + d ≤ W1.heap.size → YieldAt Fence.wide 4 P l #[enc x] W1 fun e W' =>
      (e = .returned (.bool true) ∧ J (pre ++ [x]) W' ∧ Rng W.heap.size d W1 W') ∨ (e = .returned (.bool false) ∧ Jx (pre ++ [x]) W' ∧ Rng W.heap.size d W1 W')) →
    J [] W →
    Calls P g (#[.func (.yield l) #[] #[]] ++ lb) W fun e W' => (∃ v, e = .returned v) ∧ ((∃ xs, S xs ∧ J xs W') ∨ (∃ pre, Sp pre ∧ Jx pre W'))

/-- how a round's body is left: it keeps the loop's own two blocks and the iterator's d -/
def postR {α : Type} (B d : Nat) (I : List α → World → Prop) (Ix : List α → World → Prop) (xs : List α) (W : World) : Exit → Act → World → Prop
  | .normal, _, W' => Rng B (2 + d) W W' ∧ I xs W'
  | .ret, _, W' => Rng B (2 + d) W W' ∧ Ix xs W'
  | _, _, _ => False

theorem roundIn_any {m m' : Nat} {P : Program} {l : Nat} {f : FuncId} {tmps : Array Value} {assign body : Code} {w : World} {R : Ending → World → Prop}
    (h : RoundIn Fence.wide m P l f tmps assign body w R) : RoundIn Fence.wide m' P l f tmps assign body w R := ⟨h.1, fun c cs _ => h.2 c cs (room_wide _)⟩
theorem roundIn_in {m : Nat} (k : Nat) {P : Program} {l : Nat} {f : FuncId} {tmps : Array Value} {assign body : Code} {w : World} {R : Ending → World → Prop}
    (h : RoundIn Fence.wide m P l f tmps assign body w R) : RoundIn (Fence.wide.inRound k) m P l f tmps assign body w R := h

/-- a range over such an iterator, in a function's own frame -/
theorem wpIn_rangeR {α : Type} {P : Program} {n : Nat} {g : Operand} {p : Tmp} {assign body : Code} {Q : Exit → Act → World → Prop} {a : Act} {w : World}
    {gf : Nat} {lb : Array Value} (hg : a.eval g = .func (.func gf) #[] lb) (eg : ∀ args w, (callFunc gf args).run P w = .ok (.enter gf args) w)
    {enc : α → Value} {d : Nat} {S Sp : List α → Prop} {w0 : World} (hseq : SeqR P gf lb enc d S Sp w0) (hb0 : Below w0.heap.size w0 w)
    (I Ix : List α → World → Prop) (hI : OwnFrom w.heap.size I) (hIx : OwnFrom w.heap.size Ix) (h0 : I [] w) (a₁ : α → Act)
    (hassign : ∀ (l : Nat) (x : α) (W : World) (K : Act → World → Prop), K (a₁ x) W →
      assign.wpIn (Fence.wide.inRound l) 4 P (Exit.then K (fun _ _ _ => False)) { tmps := a.tmps.setIfInBounds p (enc x), defers := [] } W)
    (hbody : ∀ (l : Nat) (pre : List α) (x : α) (W : World), I pre W → Sp (pre ++ [x]) → w.heap.size + (2 + d) ≤ W.heap.size → body.wpIn (Fence.wide.inRound l) 4 P (postR w.heap.size d I Ix (pre ++ [x]) W) (a₁ x) W)
    (hdone : ∀ (xs : List α) (W : World), S xs → I xs W → W.heap[w.heap.size]? = some (.deferred (some [])) → Q .normal { a with defers := { target := .collected w.heap.size, args := #[] } :: a.defers } W)
    (hstop : ∀ (pre : List α) (W : World), Sp pre → Ix pre W → W.heap[w.heap.size]? = some (.deferred (some [])) → Code.ret.wpIn Fence.wide n P Q { a with defers := { target := .collected w.heap.size, args := #[] } :: a.defers } W) :
    (Code.rangeFunc g #[p] assign body).wpIn Fence.wide n P Q a w := by
  refine wpIn_rangeFunc fun fn hfn => ?_
  -- the two blocks that the statement lays: for deferred calls, and the record
  obtain ⟨mk, hmk⟩ : ∃ mk : LoopState → Option Code → Obj, mk = fun st pe => .loop { state := st, pending := pe, fn, tmps := a.tmps, params := #[p], assign, body, defers := w.heap.size } := ⟨_, rfl⟩
  have hnc : ∀ st pe, (mk st pe).isCells = false := fun st pe => by rw [hmk]; rfl
  have hen := run_enterLoop_outer (P := P) (w := w) fn a.tmps #[p] assign body
  rw [show (Obj.loop { state := .ready, pending := none, fn, tmps := a.tmps, params := #[p], assign, body, defers := w.heap.size }) = mk .ready none by rw [hmk]] at hen
  obtain ⟨u, hu⟩ : ∃ u, (w.alloc (.deferred (some []))).alloc (mk .ready none) = u := ⟨_, rfl⟩
  rw [hu] at hen
  have usz : u.heap.size = w.heap.size + 2 := by rw [← hu]; simp
  have hr0 : u.heap[w.heap.size + 1]? = some (mk .ready none) := by
    have := World.alloc_heap_new (w.alloc (.deferred (some []))) (mk .ready none)
    rw [World.size_alloc, hu] at this; exact this
  have hd0 : u.heap[w.heap.size]? = some (.deferred (some [])) := by
    rw [← hu]; exact (Below.heap_alloc _ _ _ (by simp)).trans (World.alloc_heap_new w _)
  have hi0 : I [] u := by rw [← hu]; exact hI.alloc _ (hI.alloc _ h0)
  have hbu : Below w0.heap.size w0 u := by
    rw [← hu]; exact hb0.trans ((((Below.refl _ w).alloc (Nat.le_refl _) _).alloc (by simp) _).mono hb0.size)
  refine ⟨w.heap.size + 1, _, u, { target := .fn (.func gf) lb, args := #[.func (.yield (w.heap.size + 1)) #[] #[]] }, u, gf, #[.func (.yield (w.heap.size + 1)) #[] #[]] ++ lb, u, hen, ?_, fun _ _ => trivial, ?_, fun h => (by cases h), callsIn_wide.2 ?_⟩
  · simp only [resolve, hg]
    simp [go_sem]
  · simp [invoke, go_sem, eg]
  have hmove : ∀ {T : List α → World → Prop} (_ : OwnFrom w.heap.size T) (o1 : Obj), OwnFrom u.heap.size fun pre W => T pre W ∧ W.heap[w.heap.size + 1]? = some o1 ∧ W.heap[w.heap.size]? = some (.deferred (some [])) := by
    intro T hT o1 s A B row hs hgr hrow
    refine ⟨hT s A B row hs.1 hgr (fun r e => ⟨by have := (hrow r e).1; omega, (hrow r e).2⟩), ?_, ?_⟩
    · exact (hgr.block _ (Array.getElem?_eq_some_iff.1 hs.2.1).1 (fun e => by have := (hrow _ e.symm).1; omega)).trans hs.2.1
    · exact (hgr.block _ (Array.getElem?_eq_some_iff.1 hs.2.2).1 (fun e => by have := (hrow _ e.symm).1; omega)).trans hs.2.2
  refine (hseq (w.heap.size + 1) (fun pre W => I pre W ∧ W.heap[w.heap.size + 1]? = some (mk .ready none) ∧ W.heap[w.heap.size]? = some (.deferred (some [])))
    (fun pre W => Ix pre W ∧ W.heap[w.heap.size + 1]? = some (mk .done (some .ret)) ∧ W.heap[w.heap.size]? = some (.deferred (some []))) u hbu (hmove hI _) (hmove hIx _) ?_ ⟨hi0, hr0, hd0⟩).mono ?_
  · rintro pre x A ⟨hi, hr, hd⟩ hsp hsz
    have hr' := hr
    rw [hmk] at hr'
    have hy : (Instr.yield (w.heap.size + 1) #[enc x]).run P A = .ok (.round (w.heap.size + 1) fn (a.tmps.setIfInBounds p (enc x)) assign body) A := by
      have := run_yield (P := P) (args := #[enc x]) hr' rfl
      simpa using this
    refine ⟨fn, _, assign, body, hy, roundIn_of_wpIn hfn ?_⟩
    refine hassign _ x A _ ?_
    refine ⟨_, run_beginRound hr' rfl, ?_⟩
    have hlt := (Array.getElem?_eq_some_iff.1 hr).1
    obtain ⟨o2, ho2⟩ : ∃ o2 : Obj, o2 = mk .busy none := ⟨_, rfl⟩
    have e2 : Obj.loop { state := .busy, pending := none, fn, tmps := a.tmps, params := #[p], assign, body, defers := w.heap.size } = o2 := by rw [ho2, hmk]
    obtain ⟨A2, hA2⟩ : ∃ A2, A.putObj (w.heap.size + 1) o2 = A2 := ⟨_, rfl⟩
    have q1 : A2.heap[w.heap.size + 1]? = some o2 := by rw [← hA2]; exact World.putObj_heap_same hlt
    have q2 : A2.heap[w.heap.size]? = some (.deferred (some [])) := by rw [← hA2]; exact (World.putObj_heap_other (by omega)).trans hd
    have q3 : I pre A2 := by rw [← hA2]; exact hI.putObj _ hi (by omega) hr (hnc _ _)
    have q4 : A2.heap.size = A.heap.size := by rw [← hA2]; simp
    have q5 : Rng u.heap.size d A A2 := by rw [← hA2]; exact Rng.put _ _ (.inl (by omega))
    show body.wpIn _ _ _ _ _ (A.putObj (w.heap.size + 1) (Obj.loop { state := .busy, pending := none, fn, tmps := a.tmps, params := #[p], assign, body, defers := w.heap.size }))
    rw [e2, hA2]
    refine wpIn_mono (hbody _ pre x A2 q3 hsp (by omega)) ?_
    have hend : ∀ (j : Option Code) (C : World), Rng w.heap.size (2 + d) A2 C → ∃ o3, o3 = mk (if j.isNone then .ready else .done) j ∧ (Instr.endRound (w.heap.size + 1) j).run P C = .ok (.bool j.isNone) (C.putObj (w.heap.size + 1) o3) ∧ C.heap[w.heap.size + 1]? = some o2 ∧
        (C.putObj (w.heap.size + 1) o3).heap[w.heap.size + 1]? = some o3 ∧ (C.putObj (w.heap.size + 1) o3).heap[w.heap.size]? = some (.deferred (some [])) ∧ Rng u.heap.size d A (C.putObj (w.heap.size + 1) o3) := by
      intro j C hC
      have c1 : C.heap[w.heap.size + 1]? = some o2 := (hC.same _ (by omega) (by omega)).trans q1
      have c2 : C.heap[w.heap.size]? = some (.deferred (some [])) := (hC.same _ (Nat.le_refl _) (by omega)).trans q2
      have c3 := c1
      rw [ho2, hmk] at c3
      have c4 := run_endRound (P := P) j c3
      refine ⟨_, rfl, ?_, c1, World.putObj_heap_same (Array.getElem?_eq_some_iff.1 c1).1, (World.putObj_heap_other (by omega)).trans c2, (q5.trans (hC.part (by omega) (by omega))).trans (Rng.put _ _ (.inl (by omega)))⟩
      rw [hmk]; exact c4
    rintro e a3 C hp
    cases e with
    | normal =>
      obtain ⟨o3, ho3, t1, t2, t3, t4, t5⟩ := hend none C hp.1
      subst ho3
      exact ⟨_, _, t1, .inl ⟨rfl, ⟨hI.putObj _ hp.2 (by omega) t2 (by rw [ho2]; exact hnc _ _), t3, t4⟩, t5⟩⟩
    | ret =>
      obtain ⟨o3, ho3, t1, t2, t3, t4, t5⟩ := hend (some .ret) C hp.1
      subst ho3
      exact ⟨_, _, t1, .inr ⟨rfl, ⟨hIx.putObj _ hp.2 (by omega) t2 (by rw [ho2]; exact hnc _ _), t3, t4⟩, t5⟩⟩
    | exit id => exact hp.elim
    | goto t => exact hp.elim
    | panic c => exact hp.elim
    | outgrown => exact hp.elim
  · have hfin : ∀ (st : LoopState) (pe : Option Code) (C : World), st ≠ .busy → C.heap[w.heap.size + 1]? = some (mk st pe) → ∃ o, (Instr.endLoop (w.heap.size + 1)).run P C = .ok pe (C.putObj (w.heap.size + 1) o) := by
      intro st pe C hst hC
      rw [hmk] at hC
      exact ⟨_, run_endLoop (P := P) hC hst⟩
    rintro e C ⟨⟨v, rfl⟩, (⟨xs, hS, hi, hr, hd⟩ | ⟨pre, hSp, hi, hr, hd⟩)⟩
    · obtain ⟨o, ho⟩ := hfin _ _ C (by simp) hr
      exact ⟨none, _, ho, hdone xs _ hS (hI.putObj _ hi (by omega) hr (hnc _ _)) ((World.putObj_heap_other (by omega)).trans hd)⟩
    · obtain ⟨o, ho⟩ := hfin _ _ C (by simp) hr
      exact ⟨some .ret, _, ho, hstop pre _ hSp (hIx.putObj _ hi (by omega) hr (hnc _ _)) ((World.putObj_heap_other (by omega)).trans hd)⟩
end Go.Proofs.Ytmecmeonahodaaa
