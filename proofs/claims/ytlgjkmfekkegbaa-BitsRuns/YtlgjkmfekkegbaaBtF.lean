import Derived.Test.YtlgjkmfekkegbaaBtE
namespace Go.Proofs.Ytlgjkmfekkegbaa
open Go.RowKit Go.Shelf Rec
attribute [local go_sem] Oper.semAt_some

/-- the first row's beginning -/
def fst1 : List (Nat × Nat) → Int
  | [] => -1
  | p :: _ => p.1
theorem fst1_snoc (pre : List (Nat × Nat)) (p : Nat × Nat) : fst1 (pre ++ [p]) = if pre = [] then (p.1 : Int) else fst1 pre := by
  cases pre <;> simp [fst1]
theorem fst1_neg (pre : List (Nat × Nat)) : fst1 pre < 0 ↔ pre = [] := by
  cases pre <;> simp [fst1]
/-- rows that rise: their sum is no more than where they end -/
inductive Rise : List (Nat × Nat) → Prop
  | nil : Rise []
  | snoc {pre p} : Rise pre → endOf pre ≤ p.1 → Rise (pre ++ [p])
theorem Rise.tot_le {pre : List (Nat × Nat)} (h : Rise pre) : tot pre ≤ endOf pre := by
  induction h with
  | nil => simp [tot, endOf]
  | snoc h1 h2 ih => rw [tot_app, endOf_snoc]; simp only [tot]; omega
/-- three boxes, and else nothing that lay has changed -/
structure Bx3 (w : World) (E O F : Nat) (e o f : Int) (W : World) : Prop where
  cE : W.cell? ⟨E, 0, none⟩ = some (.int .i64 e)
  fE : W.frozen? ⟨E, 0, none⟩ = false
  cO : W.cell? ⟨O, 0, none⟩ = some (.int .i64 o)
  fO : W.frozen? ⟨O, 0, none⟩ = false
  cF : W.cell? ⟨F, 0, none⟩ = some (.int .i64 f)
  fF : W.frozen? ⟨F, 0, none⟩ = false
  fr : Fr (fun k => k = E ∨ k = O ∨ k = F ∨ w.heap.size ≤ k) w W
theorem frozen_block {W W' : World} {S : Nat} (h : W'.heap[S]? = W.heap[S]?) : W'.frozen? ⟨S, 0, none⟩ = W.frozen? ⟨S, 0, none⟩ := by
  simp only [World.frozen?, h]
theorem Bx3.next {w : World} {E O F : Nat} {e o f : Int} {W W' : World} (h : Bx3 w E O F e o f W) (hE : W'.heap[E]? = W.heap[E]?) (hO : W'.heap[O]? = W.heap[O]?) (hF : W'.heap[F]? = W.heap[F]?) (hf : Fr (fun k => k = E ∨ k = O ∨ k = F ∨ w.heap.size ≤ k) W W') : Bx3 w E O F e o f W' :=
  ⟨(World.cell?_of_block hE).trans h.cE, (frozen_block hE).trans h.fE, (World.cell?_of_block hO).trans h.cO, (frozen_block hO).trans h.fO, (World.cell?_of_block hF).trans h.cF, (frozen_block hF).trans h.fF, h.fr.trans hf (fun _ hk => .inl hk)⟩
theorem Bx3.drewN {w : World} {E O F : Nat} {e o f : Int} {W : World} (h : Bx3 w E O F e o f W) (m : Nat) : Bx3 w E O F e o f (W.drewN m) := h.next rfl rfl rfl (frN _ _ m)
theorem set_other {W : World} {S T : Nat} {v : Value} (h : T ≠ S) : (W.setCell ⟨S, 0, none⟩ v).heap[T]? = W.heap[T]? := Below.heap_setCell W ⟨S, 0, none⟩ v T h
theorem Bx3.setE {w : World} {E O F : Nat} {e o f : Int} {W : World} (h : Bx3 w E O F e o f W) (hO : O ≠ E) (hF : F ≠ E) (y : Int) : Bx3 w E O F y o f (W.setCell ⟨E, 0, none⟩ (.int .i64 y)) :=
  ⟨World.cell?_setCell_same' _ _ _ (by rw [h.cE]; rfl), by rw [World.frozen?_setCell]; exact h.fE, (World.cell?_of_block (set_other hO)).trans h.cO, (frozen_block (set_other hO)).trans h.fO, (World.cell?_of_block (set_other hF)).trans h.cF, (frozen_block (set_other hF)).trans h.fF, h.fr.trans Fr.set (fun _ hk => .inl (.inl hk))⟩
theorem Bx3.setO {w : World} {E O F : Nat} {e o f : Int} {W : World} (h : Bx3 w E O F e o f W) (hE : E ≠ O) (hF : F ≠ O) (y : Int) : Bx3 w E O F e y f (W.setCell ⟨O, 0, none⟩ (.int .i64 y)) :=
  ⟨(World.cell?_of_block (set_other hE)).trans h.cE, (frozen_block (set_other hE)).trans h.fE, World.cell?_setCell_same' _ _ _ (by rw [h.cO]; rfl), by rw [World.frozen?_setCell]; exact h.fO, (World.cell?_of_block (set_other hF)).trans h.cF, (frozen_block (set_other hF)).trans h.fF, h.fr.trans Fr.set (fun _ hk => .inl (.inr (.inl hk)))⟩
theorem Bx3.setF {w : World} {E O F : Nat} {e o f : Int} {W : World} (h : Bx3 w E O F e o f W) (hE : E ≠ F) (hO : O ≠ F) (y : Int) : Bx3 w E O F e o y (W.setCell ⟨F, 0, none⟩ (.int .i64 y)) :=
  ⟨(World.cell?_of_block (set_other hE)).trans h.cE, (frozen_block (set_other hE)).trans h.fE, (World.cell?_of_block (set_other hO)).trans h.cO, (frozen_block (set_other hO)).trans h.fO, World.cell?_setCell_same' _ _ _ (by rw [h.cF]; rfl), by rw [World.frozen?_setCell]; exact h.fF, h.fr.trans Fr.set (fun _ hk => .inl (.inr (.inr (.inl hk))))⟩
/-- a round's move: what is no cells is kept, and the iterator's rows -/
structure Rm (n B g : Nat) (W W' : World) : Prop where
  keeps : KeepsFrom n W W'
  kp : KpB B g W W'
theorem Rm.refl (n B g : Nat) (W : World) : Rm n B g W W := ⟨(KeepsOthers.refl _).from _, KpB.refl _ _ _⟩
theorem KeepsFrom.trans' {n : Nat} {A C D : World} (h : KeepsFrom n A C) (k : KeepsFrom n C D) : KeepsFrom n A D := ⟨Nat.le_trans h.size k.size, fun i o hB hi hc => k.same i o hB (h.same i o hB hi hc) hc⟩
theorem Rm.drewN {n B g : Nat} {A W : World} (h : Rm n B g A W) (m : Nat) : Rm n B g A (W.drewN m) := ⟨⟨h.keeps.size, h.keeps.same⟩, h.kp.trans (KpB.drewN _ _ _ _)⟩
theorem Rm.set {n B g : Nat} {A W : World} (h : Rm n B g A W) (S : Nat) (v : Value) (hB : B ≠ S) (hg : g ≠ S) : Rm n B g A (W.setCell ⟨S, 0, none⟩ v) := ⟨KeepsFrom.trans' h.keeps ((KeepsOthers.setCell _ _ _).from _), h.kp.trans ⟨set_other hB, set_other hg⟩⟩
end Go.Proofs.Ytlgjkmfekkegbaa
