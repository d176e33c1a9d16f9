import Derived.Test.YtckldbhaaagncaaGreatDoorKWalM
namespace Go.Proofs.YtckldbhaaagncaaGreatDoor
open Go.RowKit Rec

/-- a block's bytes in a row of their own -/
structure BlkAt (w : World) (g : Nat) (x : List Int) : Prop where
  own : ∃ cap y, OwnB w g cap (x ++ y)
  len : x.length = 512
theorem BlkAt.lt {w : World} {g : Nat} {x : List Int} (h : BlkAt w g x) : g < w.heap.size := by obtain ⟨c, y, ho⟩ := h.own; exact ho.lt
theorem BlkAt.fr {S : Nat → Prop} {w w' : World} {g : Nat} {x : List Int} (h : BlkAt w g x) (f : Fr S w w') (hk : ¬ S g) : BlkAt w' g x := by
  obtain ⟨c, y, ho⟩ := h.own
  exact ⟨⟨c, y, ho.fr f hk⟩, h.len⟩
theorem BlkAt.on {w w' : World} {g : Nat} {x : List Int} (h : BlkAt w g x) (f : Below w.heap.size w w') : BlkAt w' g x := h.fr (below_fr f (fun _ => False)) (fun e => e)
theorem BlkAt.bytes {w : World} {g : Nat} {x : List Int} (h : BlkAt w g x) : Bytes w (some ⟨g, 0, none⟩) x := by
  obtain ⟨c, y, ho⟩ := h.own
  have := ho.bytes.take x.length
  rwa [List.take_left] at this
theorem BlkAt.row {w : World} {g : Nat} {x : List Int} (h : BlkAt w g x) : ∃ cur, w.heap[g]? = some (.cells cur 5 (0, 0)) := by
  obtain ⟨c, y, ho⟩ := h.own
  obtain ⟨cur, hc, _⟩ := ho.row
  exact ⟨cur, hc⟩
theorem BlkAt.of {w : World} {g cap : Nat} {x : List Int} (h : OwnB w g cap x) (hl : x.length = 512) : BlkAt w g x := ⟨⟨cap, [], by rw [List.append_nil]; exact h⟩, hl⟩
/-- a step: a closure, and what it does to the disk -/
def JobAt (w : World) (D : Dk) (p : Nat) (f : Value) : WA → Prop
  | some q => ∃ s n b g c, f = .func (.func 47) #[] #[.pointer (some ⟨s, 0, none⟩), .pointer (some ⟨n, 0, none⟩), .pointer (some ⟨b, 0, none⟩)] ∧ w.heap[s]? = some (.cells #[.pointer (some ⟨p, 0, none⟩)] 85 (0, 0)) ∧ w.heap[n]? = some (.cells #[.int .i64 q.1] 3 (0, 0)) ∧ w.heap[b]? = some (.cells #[.slice (some ⟨g, 0, none⟩) 512 c] 42 (0, 0)) ∧ BlkAt w g q.2 ∧ q.1 < D.nb ∧ ¬ D.has s ∧ ¬ D.has n ∧ ¬ D.has b ∧ ¬ D.has g
  | none => ∃ s, f = .func (.func 49) #[] #[.pointer (some ⟨s, 0, none⟩)] ∧ w.heap[s]? = some (.cells #[.pointer (some ⟨p, 0, none⟩)] 85 (0, 0)) ∧ ¬ D.has s
theorem JobAt.fr {S : Nat → Prop} {w w' : World} {D : Dk} {p : Nat} {f : Value} {t : WA} (h : JobAt w D p f t) (x : Fr S w w') (hS : ∀ k cs ty fz, w.heap[k]? = some (.cells cs ty fz) → (ty = 85 ∨ ty = 3 ∨ ty = 42 ∨ ty = 5) → ¬ D.has k → ¬ S k) : JobAt w' D p f t := by
  cases t with
  | none =>
    obtain ⟨s, e, h1, h2⟩ := h
    exact ⟨s, e, x.heap h1 (hS _ _ _ _ h1 (.inl rfl) h2), h2⟩
  | some q =>
    obtain ⟨s, n, b, g, c, e, h1, h2, h3, h4, h5, h6, h7, h8, h9⟩ := h
    obtain ⟨cur, hc⟩ := h4.row
    exact ⟨s, n, b, g, c, e, x.heap h1 (hS _ _ _ _ h1 (.inl rfl) h6), x.heap h2 (hS _ _ _ _ h2 (.inr (.inl rfl)) h7), x.heap h3 (hS _ _ _ _ h3 (.inr (.inr (.inl rfl))) h8), h4.fr x (hS _ _ _ _ hc (.inr (.inr (.inr rfl))) h9), h5, h6, h7, h8, h9⟩
theorem JobAt.on {w w' : World} {D : Dk} {p : Nat} {f : Value} {t : WA} (h : JobAt w D p f t) (x : Below w.heap.size w w') : JobAt w' D p f t := h.fr (below_fr x (fun _ => False)) (fun _ _ _ _ _ _ _ e => e)
theorem JobAt.mv {w w' : World} {D D' : Dk} {p : Nat} {f : Value} {t : WA} (h : JobAt w D p f t) (x : Mv w D w' D') : JobAt w' D' p f t := by
  have hn : ∀ {k : Nat}, k < w.heap.size → ¬ D.has k → ¬ D'.has k := fun hk hd e => (x.has _ e).elim hd (fun e => by omega)
  cases t with
  | none =>
    obtain ⟨s, e, h1, h2⟩ := h
    exact ⟨s, e, x.fr.heap h1 h2, hn (heap_lt h1) h2⟩
  | some q =>
    obtain ⟨s, n, b, g, c, e, h1, h2, h3, h4, h5, h6, h7, h8, h9⟩ := h
    exact ⟨s, n, b, g, c, e, x.fr.heap h1 h6, x.fr.heap h2 h7, x.fr.heap h3 h8, h4.fr x.fr h9, by rw [x.nb]; exact h5, hn (heap_lt h1) h6, hn (heap_lt h2) h7, hn (heap_lt h3) h8, hn h4.lt h9⟩
/-- the steps that are still to be done -/
structure StepsAt (w : World) (D : Dk) (p : Nat) (v : Value) (fs : List Value) (acts : List WA) : Prop where
  row : w.heap[p]? = some (.cells #[.pointer (some ⟨D.d, 0, none⟩), v] 88 (0, 0))
  own : w.ownsRow 0 51 1 v acts.length fs
  jobs : ∀ (i : Nat) (t : WA), acts[i]? = some t → ∃ f, fs[i]? = some f ∧ JobAt w D p f t
  np : ¬ D.has p
  nv : ∀ k, v.ownBlock = some k → ¬ D.has k
theorem StepsAt.fsl {w : World} {D : Dk} {p : Nat} {v : Value} {fs : List Value} {acts : List WA} (h : StepsAt w D p v fs acts) : fs.length = acts.length := by
  have := h.own.1; omega
theorem StepsAt.on {w w' : World} {D : Dk} {p : Nat} {v : Value} {fs : List Value} {acts : List WA} (h : StepsAt w D p v fs acts) (x : Below w.heap.size w w') : StepsAt w' D p v fs acts :=
  ⟨(x.block _ (heap_lt h.row)).trans h.row, owns_on h.own x, fun i t ht => by obtain ⟨f, hf, hj⟩ := h.jobs i t ht; exact ⟨f, hf, hj.on x⟩, h.np, h.nv⟩
theorem StepsAt.mv {w w' : World} {D D' : Dk} {p : Nat} {v : Value} {fs : List Value} {acts : List WA} (h : StepsAt w D p v fs acts) (x : Mv w D w' D') : StepsAt w' D' p v fs acts := by
  have hn : ∀ {k : Nat}, k < w.heap.size → ¬ D.has k → ¬ D'.has k := fun hk hd e => (x.has _ e).elim hd (fun e => by omega)
  refine ⟨?_, owns_fr h.own x.fr h.nv, fun i t ht => by obtain ⟨f, hf, hj⟩ := h.jobs i t ht; exact ⟨f, hf, hj.mv x⟩, hn (heap_lt h.row) h.np, fun k hk => hn (owns_block h.own hk) (h.nv k hk)⟩
  rw [x.d]
  exact x.fr.heap h.row h.np
theorem StepsAt.cells {w : World} {D : Dk} {p : Nat} {v : Value} {fs : List Value} {acts : List WA} (h : StepsAt w D p v fs acts) : w.cell? ⟨p, 0, none⟩ = some (.pointer (some ⟨D.d, 0, none⟩)) ∧ w.cell? ⟨p, 1, none⟩ = some v ∧ (∀ i, w.frozen? ⟨p, i, none⟩ = false) :=
  ⟨by rw [cell_of_row _ _ _ _ _ _ h.row]; rfl, by rw [cell_of_row _ _ _ _ _ _ h.row]; rfl, fun i => frozen_of_row _ _ _ _ _ h.row⟩
/-- one step more -/
theorem StepsAt.more {w w' : World} {D : Dk} {p : Nat} {v : Value} {fs : List Value} {acts : List WA} {f : Value} {t : WA} {g cap : Nat} (h : StepsAt w D p v fs acts) (hj : JobAt w D p f t)
    (ho : w'.ownsRow 0 51 1 (.slice (some ⟨g, 0, none⟩) (acts.length + 1) cap) (acts.length + 1) (fs ++ [f])) (hf : Fr (fun k => v.ownBlock = some k) w w') (hg : v.ownBlock = some g ∨ w.heap.size ≤ g) (hlt : ∀ k, D.has k → k < w.heap.size) :
    StepsAt (w'.setCell ⟨p, 1, none⟩ (.slice (some ⟨g, 0, none⟩) (acts.length + 1) cap)) D p (.slice (some ⟨g, 0, none⟩) (acts.length + 1) cap) (fs ++ [f]) (acts ++ [t]) := by
  have hnp : ¬ v.ownBlock = some p := own_apartR h.own h.row (by decide)
  have hrow : w'.heap[p]? = some (.cells #[.pointer (some ⟨D.d, 0, none⟩), v] 88 (0, 0)) := hf.heap h.row hnp
  have hgp : g ≠ p := fun e => by
    have := own_apartR ho hrow (by decide)
    exact this (by rw [e]; rfl)
  have hset : Fr (fun k => k = p) w' (w'.setCell ⟨p, 1, none⟩ (.slice (some ⟨g, 0, none⟩) (acts.length + 1) cap)) := Fr.set
  have keep : ∀ {f t}, JobAt w D p f t → JobAt (w'.setCell ⟨p, 1, none⟩ (.slice (some ⟨g, 0, none⟩) (acts.length + 1) cap)) D p f t := fun hj => by
    refine (hj.fr hf (fun k cs ty fz hk hty _ e => ?_)).fr hset (fun k cs ty fz hk hty _ e => ?_)
    · obtain ⟨c1, h1⟩ := own_type h.own e
      rw [h1] at hk; cases hk
      rcases hty with hty | hty | hty | hty <;> exact absurd hty (by decide)
    · subst e
      rw [hrow] at hk; cases hk
      rcases hty with hty | hty | hty | hty <;> exact absurd hty (by decide)
  refine ⟨?_, ?_, fun i u hu => ?_, h.np, fun k hk => ?_⟩
  · exact heap_setCell_same _ _ _ _ _ _ hrow
  · rw [List.length_append]
    exact owns_fr ho hset (fun k hk e => by cases hk; exact hgp e)
  · by_cases hi : i < acts.length
    · rw [List.getElem?_append_left hi] at hu
      obtain ⟨f', hf', hj'⟩ := h.jobs i u hu
      exact ⟨f', by rw [List.getElem?_append_left (by rw [h.fsl]; exact hi)]; exact hf', keep hj'⟩
    · have hi2 : i = acts.length := by
        have := List.getElem?_eq_some_iff.1 hu
        obtain ⟨hl, _⟩ := this
        simp at hl; omega
      subst hi2
      rw [List.getElem?_append_right (Nat.le_refl _)] at hu
      simp at hu
      subst hu
      exact ⟨f, by rw [List.getElem?_append_right (by rw [h.fsl]; exact Nat.le_refl _), h.fsl]; simp, keep hj⟩
  · cases hk
    rcases hg with e | e
    · exact h.nv g e
    · intro hd; have : g < w.heap.size := hlt _ hd; omega
end Go.Proofs.YtckldbhaaagncaaGreatDoor
