import Derived.Test.YtcdggcdkjooohaaGreatDoorWFx
namespace Go.Proofs.YtcdggcdkjooohaaGreatDoor
open Go.RowKit Rec

theorem flatK (f : Bk → List Value) (l : List Bk) (k : Nat) (hk : k < l.length) (j : Nat) (hj : j < 2) (hf : ∀ p, (f p).length = 2 := by intro p; rfl) : (l.flatMap f)[k * 2 + j]? = (f l[k])[j]? := by
  induction l generalizing k with
  | nil => simp at hk
  | cons p l ih =>
    rw [List.flatMap_cons]
    cases k with
    | zero => rw [List.getElem?_append_left (by rw [hf]; omega)]; simp
    | succ k =>
      rw [List.getElem?_append_right (by rw [hf]; omega), hf, show (k + 1) * 2 + j - 2 = k * 2 + j by omega, ih k (by simpa using hk)]; rfl
/-- puts that are handed in -/
structure PtsAt (w : World) (a : Option Addr) (P : List (Int × Int)) : Prop where
  len : P.length ≤ 1000000000000000
  at_ : P = [] ∨ ∃ b off, a = some ⟨b, off, none⟩ ∧ ∀ i q, P[i]? = some q → w.cell? ⟨b, off + i * 2, none⟩ = some (.int .i64 q.1) ∧ w.cell? ⟨b, off + i * 2 + 1, none⟩ = some (.int .u8 q.2) ∧ 0 ≤ q.2 ∧ q.2 < 256
theorem PtsAt.on {w w' : World} {a : Option Addr} {P : List (Int × Int)} (h : PtsAt w a P) (hb : Below w.heap.size w w') : PtsAt w' a P := by
  refine ⟨h.len, ?_⟩
  rcases h.at_ with e | ⟨b, off, e, hc⟩
  · exact .inl e
  · refine .inr ⟨b, off, e, fun i q hq => ?_⟩
    obtain ⟨h1, h2, h3⟩ := hc i q hq
    exact ⟨(hb.cell (block_lt_of_cell h1)).trans h1, (hb.cell (block_lt_of_cell h2)).trans h2, h3⟩
def Bk.cells (q : Bk) : List Value := [.int .i64 q.n, q.v]
/-- blocks such as may be committed, in rows of one's own -/
structure RowsAt (w0 w : World) (k : Nat) (v : Value) (L : List Bk) : Prop where
  row : w.ownsRow 0 148 2 v L.length (L.flatMap Bk.cells)
  blk : ∀ q ∈ L, BlkAt w q.g q.x ∧ w0.heap.size ≤ q.g
  num : ∀ q ∈ L, 98 ≤ q.n ∧ q.n < 98 + (k : Int)
  ris : L.Pairwise fun p q => p.n < q.n
  len : L.length ≤ k
  far : ∀ b, v.ownBlock = some b → w0.heap.size ≤ b
  bel : Below w0.heap.size w0 w
theorem RowsAt.on {w0 w w' : World} {k : Nat} {v : Value} {L : List Bk} (h : RowsAt w0 w k v L) (hb : Below w.heap.size w w') : RowsAt w0 w' k v L :=
  ⟨owns_on h.row hb, fun q hq => ⟨(h.blk q hq).1.on hb, (h.blk q hq).2⟩, h.num, h.ris, h.len, h.far, h.bel.trans (hb.mono h.bel.size)⟩
theorem RowsAt.up {w0 w : World} {k : Nat} {v : Value} {L : List Bk} (h : RowsAt w0 w k v L) : RowsAt w0 w (k + 1) v L :=
  ⟨h.row, h.blk, fun q hq => by have := h.num q hq; omega, h.ris, by have := h.len; omega, h.far, h.bel⟩
theorem RowsAt.start {w0 : World} : RowsAt w0 w0 0 (.slice none 0 0) [] :=
  ⟨⟨rfl, .inl ⟨rfl, rfl⟩⟩, (fun q h => by cases h), (fun q h => by cases h), List.Pairwise.nil, Nat.le_refl _, (fun b h => by cases h), Below.refl _ _⟩
theorem infoK : (Tryz.prog.info? 148).map (fun i => (i.zero, i.size, i.bytes)) = some (some (.agg #[.int .i64 0, .slice none 0 0]), 2, 32) := by kernel_rfl
theorem RowsAt.next {w0 wr w1 w' : World} {k g c g2 c2 : Nat} {v : Value} {L : List Bk} {x : List Int} (h : RowsAt w0 wr k v L) (hb : Below wr.heap.size wr w1) (hg : wr.heap.size ≤ g) (ho : BlkAt w1 g x)
    (h1 : w'.ownsRow 0 148 2 (.slice (some ⟨g2, 0, none⟩) (L.length + 1) c2) (L.length + 1) (L.flatMap Bk.cells ++ [.int .i64 (98 + (k : Int)), .slice (some ⟨g, 0, none⟩) 512 c])) (h2 : Fr (fun b => v.ownBlock = some b) w1 w') (h3 : v.ownBlock = some g2 ∨ w1.heap.size ≤ g2) :
    RowsAt w0 w' (k + 1) (.slice (some ⟨g2, 0, none⟩) (L.length + 1) c2) (L ++ [⟨98 + (k : Int), g, c, x⟩]) := by
  have hA := h.on hb
  have hs : w0.heap.size ≤ wr.heap.size := h.bel.size
  have hs1 : wr.heap.size ≤ w1.heap.size := hb.size
  have hne : ∀ {g : Nat} {x : List Int}, BlkAt w1 g x → ¬ v.ownBlock = some g := fun hx => by
    obtain ⟨cap, y, hy⟩ := hx.own
    exact own_apartB hA.row hy (by decide)
  refine ⟨?_, fun q hq => ?_, fun q hq => ?_, ?_, by rw [List.length_append]; have := h.len; simp; omega, fun b hk => ?_, hA.bel.trans (h2.below _ h.far hA.bel.size)⟩
  · rw [List.flatMap_append, List.length_append]; exact h1
  · rcases List.mem_append.1 hq with hq | hq
    · obtain ⟨a1, a2⟩ := hA.blk q hq
      exact ⟨a1.fr h2 (hne a1), a2⟩
    · simp at hq; subst hq
      exact ⟨ho.fr h2 (hne ho), Nat.le_trans hs hg⟩
  · rcases List.mem_append.1 hq with hq | hq
    · have := h.num q hq; omega
    · simp at hq; subst hq
      show 98 ≤ 98 + (k : Int) ∧ 98 + (k : Int) < 98 + ((k + 1 : Nat) : Int)
      omega
  · refine List.pairwise_append.2 ⟨h.ris, List.pairwise_singleton _ _, fun p hp q hq => ?_⟩
    simp at hq; subst hq
    exact (h.num p hp).2
  · cases hk
    rcases h3 with e | e
    · exact h.far _ e
    · exact Nat.le_trans (Nat.le_trans hs hs1) e
theorem RowsAt.blocks {w0 w : World} {k g c : Nat} {L : List Bk} (h : RowsAt w0 w k (.slice (some ⟨g, 0, none⟩) L.length c) L) : BlocksAt w g L := by
  refine ⟨fun i q hq => ?_⟩
  have hi : i < L.length := (List.getElem?_eq_some_iff.1 hq).1
  have hq' : L[i] = q := (List.getElem?_eq_some_iff.1 hq).2
  have hf : ∀ j, j < 2 → (L.flatMap Bk.cells)[i * 2 + j]? = q.cells[j]? := fun j hj => by
    rw [← hq']
    exact flatK Bk.cells L i hi j hj (fun _ => rfl)
  have h0 := h.row.cells (g := g) rfl (i * 2 + 0) (.int .i64 q.n) (by rw [hf 0 (by omega)]; rfl)
  have h1 := h.row.cells (g := g) rfl (i * 2 + 1) q.v (by rw [hf 1 (by omega)]; rfl)
  rw [Addr.add_lit] at h0 h1
  simp only [Nat.zero_add, Nat.add_zero] at h0 h1
  exact ⟨h0, h1, (h.blk q (List.mem_of_getElem? hq)).1⟩
theorem pre_nsB (L : List Bk) (h1 : ∀ q ∈ L, 98 ≤ q.n) (h2 : L.Pairwise fun p q => p.n < q.n) (n : Int) (h3 : ∀ q ∈ L, q.n < n) : may (nsB L) n = true := by
  refine decide_eq_true fun i hi => ?_
  have hi' : i < L.length := by simpa [nsB] using hi
  have e : nth (nsB L) i = (L[i]).n := nth_nsB L i _ (List.getElem?_eq_getElem hi')
  refine ⟨?_, by rw [e]; exact h3 _ (List.getElem_mem hi')⟩
  cases i with
  | zero =>
    have := h1 _ (List.getElem_mem hi')
    simp only [pre, e]
    simp
    omega
  | succ i =>
    have hp : pre (nsB L) (i + 1) = nth (nsB L) i := by simp [pre]
    rw [hp, e, nth_nsB L i _ (List.getElem?_eq_getElem (by omega))]
    exact List.pairwise_iff_getElem.1 h2 i (i + 1) (by omega) hi' (by omega)
theorem RowsAt.ok {w0 w : World} {v : Value} {L : List Bk} (h : RowsAt w0 w 30 v L) (h0 : L ≠ []) : ComOk 128 (nsB L) (dsB L) := by
  have hl := h.len
  have hp : 0 < L.length := by cases L with
    | nil => exact absurd rfl h0
    | cons a l => simp
  refine ⟨by omega, by omega, pre_nsB L (fun q hq => (h.num q hq).1) h.ris _ (fun q hq => by have := h.num q hq; omega), by simp [nsB]; omega, by simp [nsB]; omega, by simp [nsB, dsB], fun b hb => ?_⟩
  simp only [dsB, List.mem_map] at hb
  obtain ⟨q, hq, rfl⟩ := hb
  exact (h.blk q hq).1.len
end Go.Proofs.YtcdggcdkjooohaaGreatDoor
