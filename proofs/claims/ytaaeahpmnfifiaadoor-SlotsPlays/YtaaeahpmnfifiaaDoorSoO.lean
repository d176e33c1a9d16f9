import Derived.Test.YtaaeahpmnfifiaaDoorSoN
namespace Go.Proofs.YtaaeahpmnfifiaaDoor
open Go.RowKit Rec Sc
theorem BkW.mid {w w1 : World} {kb B i : Nat} {S : Nat → Prop} {V : Nat → Value} {X : Nat → List Value} (h : BkW w kb B S V X) (hi : i < 4) (h2 : Fr (fun k => (V i).ownBlock = some k) w w1) : w1.heap[kb]? = some (.cells #[V 0, V 1, V 2, V 3] 58 (0, 0)) := h2.heap h.box (fun e => (h.own i hi kb e).2.2 rfl)
theorem BkW.step2 {w w1 : World} {kb B i b cap n : Nat} {S : Nat → Prop} {V : Nat → Value} {X : Nat → List Value} {u v : Value} (h : BkW w kb B S V X) (hi : i < 4) (hn : (X i).length = n) (hv : V i = v)
    (h1 : w1.ownsRow 0 36 1 (.slice (some ⟨b, 0, none⟩) (n + 1) cap) (n + 1) (X i ++ [u])) (h2 : Fr (fun k => v.ownBlock = some k) w w1) (h3 : v.ownBlock = some b ∨ w.heap.size ≤ b) :
    BkW (w1.setCell ⟨kb, i, none⟩ (.slice (some ⟨b, 0, none⟩) (n + 1) cap)) kb B S (upd V i (.slice (some ⟨b, 0, none⟩) (n + 1) cap)) (upd X i (X i ++ [u])) ∧ Fr S w (w1.setCell ⟨kb, i, none⟩ (.slice (some ⟨b, 0, none⟩) (n + 1) cap)) ∧ Below B w (w1.setCell ⟨kb, i, none⟩ (.slice (some ⟨b, 0, none⟩) (n + 1) cap)) := by
  subst hn hv
  obtain ⟨a1, a2⟩ := h.step hi h1 h2 h3
  refine ⟨a1, a2.mono ?_, a2.below B ?_ h.bz⟩
  · rintro k (e | rfl)
    · exact (h.own i hi k e).2.1
    · exact h.kb1.2
  · rintro k (e | rfl)
    · exact (h.own i hi k e).1
    · exact h.kb1.1
/-- the book with its N lists, for writing -/
structure BoW (w : World) (kb N B : Nat) (S : Nat → Prop) (V : Nat → Value) (X : Nat → List Value) : Prop where
  bk : BkW w kb B S V X
  len : ∀ i, i < 4 → (X i).length = N
  en : ∀ k, k < N → ∃ a b c d, (X 0)[k]? = some a ∧ (X 1)[k]? = some b ∧ (X 2)[k]? = some c ∧ (X 3)[k]? = some d ∧ EnI w B S k a b c d
theorem BoW.boi {w : World} {kb N B : Nat} {S : Nat → Prop} {V : Nat → Value} {X : Nat → List Value} (h : BoW w kb N B S V X) : BoI w kb N B S (V 0) (V 1) (V 2) (V 3) (X 0) (X 1) (X 2) (X 3) := by
  have t : ∀ i, i < 4 → w.ownsRow 0 36 1 (V i) N (X i) := fun i hi => by
    have := h.bk.row i hi
    rw [h.len i hi] at this
    exact this
  exact ⟨h.bk.box, t 0 (by omega), t 1 (by omega), t 2 (by omega), t 3 (by omega), h.en⟩
theorem BoW.on {w w' : World} {kb N B : Nat} {S : Nat → Prop} {V : Nat → Value} {X : Nat → List Value} (h : BoW w kb N B S V X) (hb : Below w.heap.size w w') : BoW w' kb N B S V X :=
  ⟨h.bk.on hb, h.len, fun k hk => by
    obtain ⟨a, b, c, d, h1, h2, h3, h4, h5⟩ := h.en k hk
    exact ⟨a, b, c, d, h1, h2, h3, h4, h5.on hb⟩⟩
/-- what lies elsewhere is written -/
theorem BoW.off {w w' : World} {kb N B : Nat} {S Q : Nat → Prop} {V : Nat → Value} {X : Nat → List Value} (h : BoW w kb N B S V X) (x : Fr Q w w') (hQ : ∀ k, Q k → k < B) : BoW w' kb N B S V X :=
  ⟨h.bk.fr x (fun e => absurd (hQ _ e) (Nat.not_lt.2 h.bk.kb1.1)) (fun i hi b e e2 => absurd (hQ _ e2) (Nat.not_lt.2 (h.bk.own i hi b e).1)), h.len, fun k hk => by
    obtain ⟨a, b, c, d, h1, h2, h3, h4, T, t0, t1, t2, t3, t4⟩ := h.en k hk
    have t : ∀ {v : Value} {xs : List ET}, LsAt w B S v xs → LsAt w' B S v xs := fun {v xs} hl => by
      obtain ⟨a, c, g1, g2, g3⟩ := hl
      exact ⟨a, c, g1, g2.fr x (fun p hp e => absurd (hQ _ e) (Nat.not_lt.2 (g3 p hp).1)), g3⟩
    exact ⟨a, b, c, d, h1, h2, h3, h4, T, t0, t t1, t t2, t t3, t t4⟩⟩
theorem BoW.less {w : World} {kb N B : Nat} {S S' : Nat → Prop} {V : Nat → Value} {X : Nat → List Value} (h : BoW w kb N B S V X) (hs : ∀ x, S' x → S x) (hk : S' kb) (hS : ∀ i, i < 4 → ∀ b, (V i).ownBlock = some b → S' b) (hb : ∀ b, w.heap.size ≤ b → S' b) : BoW w kb N B S' V X :=
  ⟨h.bk.less hk hS hb, h.len, fun k hk => by
    obtain ⟨a, b, c, d, h1, h2, h3, h4, h5⟩ := h.en k hk
    exact ⟨a, b, c, d, h1, h2, h3, h4, h5.less hs⟩⟩
theorem BoW.next {w w' : World} {kb N B : Nat} {S S' : Nat → Prop} {V V' : Nat → Value} {X X' : Nat → List Value} {u : Nat → Value} (h : BoW w kb N B S V X) (x : Fr S w w') (hk : BkW w' kb B S' V' X') (hX : ∀ i, i < 4 → X' i = X i ++ [u i]) (hs : ∀ k, S' k → S k) (he : EnI w' B S' N (u 0) (u 1) (u 2) (u 3)) : BoW w' kb (N + 1) B S' V' X' := by
  refine ⟨hk, fun i hi => by rw [hX i hi, List.length_append, h.len i hi]; rfl, fun k hkN => ?_⟩
  have g : ∀ i, i < 4 → ∀ a, (X i)[k]? = some a → (X' i)[k]? = some a := fun i hi a ha => by
    rw [hX i hi, List.getElem?_append_left (List.getElem?_eq_some_iff.1 ha).1]; exact ha
  by_cases e : k < N
  · obtain ⟨a, b, c, d, h1, h2, h3, h4, h5⟩ := h.en k e
    exact ⟨a, b, c, d, g 0 (by omega) a h1, g 1 (by omega) b h2, g 2 (by omega) c h3, g 3 (by omega) d h4, (h5.fr x).less hs⟩
  · have e2 : k = N := by omega
    subst e2
    have g2 : ∀ i, i < 4 → (X' i)[k]? = some (u i) := fun i hi => by
      rw [hX i hi, List.getElem?_append_right (by rw [h.len i hi]; exact Nat.le_refl _), h.len i hi, Nat.sub_self]; rfl
    exact ⟨_, _, _, _, g2 0 (by omega), g2 1 (by omega), g2 2 (by omega), g2 3 (by omega), he⟩
end Go.Proofs.YtaaeahpmnfifiaaDoor
