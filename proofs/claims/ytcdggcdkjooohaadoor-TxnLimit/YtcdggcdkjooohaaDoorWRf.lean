import Derived.Test.YtcdggcdkjooohaaDoorWRd
namespace Go.Proofs.YtcdggcdkjooohaaDoor
open Go.RowKit Rec

/-- a block that was read: where its bytes lie, its bytes -/
structure Rb where
  g : Nat
  c : Nat
  x : List Int
def Rb.v (q : Rb) : Value := .slice (some ⟨q.g, 0, none⟩) 512 q.c
/-- blocks that were read, from one on -/
structure ReadAt (w0 w : World) (F : List Int) (f k : Nat) (v : Value) (L : List Rb) : Prop where
  row : w.ownsRow 0 32 1 v k (L.map Rb.v)
  len : L.length = k
  at_ : ∀ (i : Nat) (q : Rb), L[i]? = some q → q.x = bck F (f + i) ∧ OwnB w q.g q.c q.x ∧ w0.heap.size ≤ q.g
  far : ∀ b, v.ownBlock = some b → w0.heap.size ≤ b
  bel : Below w0.heap.size w0 w
theorem ReadAt.on {w0 w w' : World} {F : List Int} {f k : Nat} {v : Value} {L : List Rb} (h : ReadAt w0 w F f k v L) (hb : Below w.heap.size w w') : ReadAt w0 w' F f k v L :=
  ⟨owns_on h.row hb, h.len, fun i q hq => ⟨(h.at_ i q hq).1, (h.at_ i q hq).2.1.on hb, (h.at_ i q hq).2.2⟩, h.far, h.bel.trans (hb.mono h.bel.size)⟩
theorem ReadAt.from {w0 w1 w : World} {F : List Int} {f k : Nat} {v : Value} {L : List Rb} (h : ReadAt w1 w F f k v L) (hb : Below w0.heap.size w0 w1) : ReadAt w0 w F f k v L :=
  ⟨h.row, h.len, fun i q hq => ⟨(h.at_ i q hq).1, (h.at_ i q hq).2.1, Nat.le_trans hb.size (h.at_ i q hq).2.2⟩, fun b hk => Nat.le_trans hb.size (h.far b hk), hb.trans (h.bel.mono hb.size)⟩
theorem ReadAt.start {w0 : World} {F : List Int} {f : Nat} : ReadAt w0 w0 F f 0 (.slice none 0 0) [] :=
  ⟨⟨rfl, .inl ⟨rfl, rfl⟩⟩, rfl, (fun i q h => by simp at h), (fun b h => by cases h), Below.refl _ _⟩
theorem ReadAt.next {w0 wr w1 w' : World} {F : List Int} {f k g g2 c c2 : Nat} {v : Value} {L : List Rb} (h : ReadAt w0 wr F f k v L) (hb : Below wr.heap.size wr w1) (hg : wr.heap.size ≤ g) (ho : OwnB w1 g c (bck F (f + k)))
    (h1 : w'.ownsRow 0 32 1 (.slice (some ⟨g2, 0, none⟩) (k + 1) c2) (k + 1) (L.map Rb.v ++ [.slice (some ⟨g, 0, none⟩) 512 c])) (h2 : Fr (fun b => v.ownBlock = some b) w1 w') (h3 : v.ownBlock = some g2 ∨ w1.heap.size ≤ g2) :
    ReadAt w0 w' F f (k + 1) (.slice (some ⟨g2, 0, none⟩) (k + 1) c2) (L ++ [⟨g, c, bck F (f + k)⟩]) := by
  have hA := h.on hb
  have hs : w0.heap.size ≤ wr.heap.size := h.bel.size
  have hs1 : wr.heap.size ≤ w1.heap.size := hb.size
  refine ⟨by rw [List.map_append]; exact h1, by rw [List.length_append, h.len]; rfl, fun i q hq => ?_, fun b hk => ?_, hA.bel.trans (h2.below _ h.far hA.bel.size)⟩
  · by_cases hi : i < L.length
    · rw [List.getElem?_append_left hi] at hq
      obtain ⟨a1, a2, a3⟩ := hA.at_ i q hq
      exact ⟨a1, a2.fr h2 (own_apartB hA.row a2 (by decide)), a3⟩
    · have hi2 : i = L.length := by
        have := (List.getElem?_eq_some_iff.1 hq).1
        simp at this; omega
      subst hi2
      simp at hq
      subst hq
      rw [h.len]
      exact ⟨rfl, ho.fr h2 (own_apartB hA.row ho (by decide)), by show w0.heap.size ≤ g; omega⟩
  · cases hk
    rcases h3 with e | e
    · exact h.far _ e
    · exact Nat.le_trans (Nat.le_trans hs hs1) e
end Go.Proofs.YtcdggcdkjooohaaDoor
