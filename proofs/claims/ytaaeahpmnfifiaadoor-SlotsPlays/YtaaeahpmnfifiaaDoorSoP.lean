import Derived.Test.YtaaeahpmnfifiaaDoorSoA
import Derived.Test.YtaaeahpmnfifiaaDoorOp14v
namespace Go.Proofs.YtaaeahpmnfifiaaDoor
open Go.RowKit Rec Sc
/-- the document's Read, its list in a row of one's own -/
theorem rreadR (w : World) (g c : Nat) (L : List Int) (hB : Bytes w (some ⟨g, 0, none⟩) L) (hc : L.length ≤ c) :
    Calls Tryd.prog 17 #[.slice (some ⟨g, 0, none⟩) L.length c] w fun e w' => ∃ v, e = .returned (.tuple #[v, .int .i64 (erU L)]) ∧ RowE w.heap.size w' v (tlU L) ∧ Below w.heap.size w w' := by
  by_cases h : L.length = 512
  · rw [h] at hc ⊢
    refine (rread_any w g 0 c L h hB hc).mono ?_
    rintro e w' ⟨hb, ⟨hr, v, h1, h3⟩ | ⟨hr, h1⟩⟩
    · obtain ⟨e1, e2, _⟩ := er_ok h hr
      rw [e1, e2]
      exact ⟨_, h1, h3, hb⟩
    · obtain ⟨e1, e2, _⟩ := er_no h hr
      rw [e1, e2]
      exact ⟨_, h1, RowE.nil _ _, hb⟩
  · obtain ⟨e1, e2, _⟩ := er_size h
    rw [e1, e2]
    refine (rread_size w _ _ c h).mono ?_
    rintro e w' ⟨h1, rfl⟩
    exact ⟨_, h1, RowE.nil _ _, Below.refl _ _⟩
/-- what stands between two calls of the script -/
structure PlI (w wr : World) (g cap g2 cap2 kb N B : Nat) (x : List Int) : Prop where
  a : OwnB wr g cap (x ++ [77, 78, 79])
  b : OwnB wr g2 cap2 x
  bk : ∃ S V X, BoW wr kb N B S V X
  bel : Below w.heap.size w wr
theorem PlI.on {w wr w' : World} {g cap g2 cap2 kb N B : Nat} {x : List Int} (h : PlI w wr g cap g2 cap2 kb N B x) (hb : Below wr.heap.size wr w') : PlI w w' g cap g2 cap2 kb N B x := by
  obtain ⟨S, V, X, hk⟩ := h.bk
  exact ⟨h.a.on hb, h.b.on hb, ⟨S, V, X, hk.on hb⟩, h.bel.trans (hb.mono h.bel.size)⟩
theorem PlI.bytes {w wr : World} {g cap g2 cap2 kb N B : Nat} {x : List Int} (h : PlI w wr g cap g2 cap2 kb N B x) : Bytes wr (some ⟨g, 0, none⟩) x ∧ Bytes wr (some ⟨g2, 0, none⟩) x := by
  refine ⟨?_, h.b.bytes⟩
  have := h.a.bytes.take x.length
  rw [List.take_left] at this
  exact this
structure PlG (w : World) (g g2 B : Nat) : Prop where
  g1 : w.heap.size ≤ g
  g2_ : w.heap.size ≤ g2
  gB : g < B
  g2B : g2 < B
  ne : g ≠ g2
/-- both rows are written -/
theorem PlI.mv {w wr w1 w2 : World} {g cap g2 cap2 kb N B : Nat} {x x' : List Int} (h : PlI w wr g cap g2 cap2 kb N B x) (G : PlG w g g2 B) (h1 : OwnB w1 g2 cap2 x') (r1 : wr.grownBy w1 (some g2)) (h2 : OwnB w2 g cap (x' ++ [77, 78, 79])) (r2 : w1.grownBy w2 (some g)) : PlI w w2 g cap g2 cap2 kb N B x' := by
  obtain ⟨S, V, X, hk⟩ := h.bk
  have hs := h.bel.size
  have hb1 : Below w.heap.size wr w1 := below_of r1 G.g2_ hs
  have hb2 : Below w.heap.size w1 w2 := below_of r2 G.g1 (Nat.le_trans hs r1.size)
  refine ⟨h2, h1.grown r2 (fun e => G.ne (by cases e; rfl)), ⟨S, V, X, (hk.off (grown_fr r1) (fun k e => by cases e; exact G.g2B)).off (grown_fr r2) (fun k e => by cases e; exact G.gB)⟩, (h.bel.trans hb1).trans hb2⟩
theorem PlI.mid {w wr w1 : World} {g cap g2 cap2 kb N B : Nat} {x : List Int} (h : PlI w wr g cap g2 cap2 kb N B x) (G : PlG w g g2 B) (r1 : wr.grownBy w1 (some g2)) : OwnB w1 g cap (x ++ [77, 78, 79]) := h.a.grown r1 (fun e => G.ne (by cases e; rfl))
/-- the book reads -/
theorem PlI.read {w wr w1 w2 : World} {g cap g2 cap2 kb N B : Nat} {x : List Int} (h : PlI w wr g cap g2 cap2 kb N B x) (G : PlG w g g2 B) (hwB : w.heap.size ≤ B) (hb1 : Below wr.heap.size wr w1) (hb2 : Below B w1 w2) (hk : ∃ S V X, BoW w2 kb (N + 1) B S V X) : PlI w w2 g cap g2 cap2 kb (N + 1) B x :=
  ⟨(h.a.on hb1).below hb2 G.gB, (h.b.on hb1).below hb2 G.g2B, hk, (h.bel.trans (hb1.mono h.bel.size)).trans (hb2.mono hwB)⟩
/-- the document's list is none of the book's -/
theorem PlI.list {w wr w1 : World} {g cap g2 cap2 kb N B : Nat} {x : List Int} {v : Value} {T : List ET} (h : PlI w wr g cap g2 cap2 kb N B x) (hb1 : Below wr.heap.size wr w1) (hv : RowE wr.heap.size w1 v T) : ∃ S V X a c, v = .slice a T.length c ∧ EntAt w1 a T ∧ BoW w1 kb N B S V X ∧ ∀ p, a = some p → ¬ S p.block := by
  obtain ⟨S, V, X, hk⟩ := h.bk
  obtain ⟨a, c, rfl, he⟩ := hv.sl
  refine ⟨fun k => S k ∧ (Value.slice a T.length c).ownBlock ≠ some k, V, X, a, c, rfl, he, (hk.on hb1).less (fun k e => e.1) ⟨hk.bk.kb1.2, fun e => ?_⟩ (fun i hi b e => ⟨(hk.bk.own i hi b e).2.1, fun e2 => ?_⟩) (fun b hb => ⟨hk.bk.big b (Nat.le_trans hb1.size hb), fun e => ?_⟩), fun p hp e => e.2 (by rw [hp]; rfl)⟩
  · have := hv.far kb e; have := heap_lt hk.bk.box; omega
  · have := hv.far b e2; have := hk.bk.lt hi e; omega
  · have := hv.lt e; omega
end Go.Proofs.YtaaeahpmnfifiaaDoor
