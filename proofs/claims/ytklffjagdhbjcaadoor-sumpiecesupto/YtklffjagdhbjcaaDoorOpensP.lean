import Derived.Test.YtklffjagdhbjcaaDoorOpensU
import Derived.Test.YtklffjagdhbjcaaDoorPieces
import Derived.Deep.Slices
namespace Go.Proofs.YtklffjagdhbjcaaDoor
open Go.ChangeShapes Go.WideShapes Go.ChangeAt Go.RowKit

theorem open_bytes_small {H : Type} {enc : TypeId × Value → H} {W : World} {cs : List Value} {d : DataW H} {p : List MemPlace} {fuel : Nat}
    (hf : DataW.trod enc Tryd.prog W 0 (fun _ => true) true fuel 24 cs = some (d, p)) (hs : Rows.uptoBulk d ≤ 1048576) :
    ∃ q : Piece, cs = [.slice q.a q.l.length q.cap] ∧ Bytes W q.a q.l ∧ (q.a = none → q.cap = 0) ∧ q.l.length ≤ Rows.uptoBulk d := by
  rcases open_ints Tryd.underlying24 Tryd.underlying5 cells5 hf with ⟨hcs, _⟩ | ⟨x, len, cap, zs, rfl, _, hl, hm, hlen, hx, hcell, hwz⟩
  · exact ⟨⟨none, 0, []⟩, hcs, ⟨by simp, fun i => by simp [nth], .inl rfl⟩, fun _ => rfl, Nat.zero_le _⟩
  · simp only [Prod.mk.injEq] at hx
    obtain ⟨rfl, _⟩ := hx
    simp only [if_true] at hlen
    have hb := bulk_slice (lits (H := H) .u8 (zs.take len)) (lits .u8 (zs.drop len))
    have hle : (lits (H := H) .u8 (zs.take len)).length = len := by simp [lits]; omega
    rw [hle] at hb
    have hlt : (zs.take len).length = len := by rw [List.length_take]; omega
    refine ⟨⟨some x, cap, zs.take len⟩, by dsimp only; rw [hlt], ⟨by dsimp only; omega, nth_wf fun n hn => wf_u8 (hwz n (List.mem_of_mem_take hn)), ?_⟩, fun h => (nomatch h), by dsimp only; omega⟩
    by_cases h0 : len = 0
    · exact .inl (by simp [h0])
    · obtain ⟨b, off, rfl, hc⟩ := ints_at hcell (by omega)
      refine .inr ⟨b, off, rfl, fun i hi => ?_⟩
      have hi' : i < len := by dsimp only at hi; omega
      rw [hc i (by omega)]
      have e : nth (zs.take len) i = zs.getD i 0 := by simp [nth, List.getD, hi']
      rw [e]

theorem cells24 : Tryd.prog.cellsOf 24 = 1 := by kernel_rfl
theorem pieces_list {H : Type} (W : World) (x : Addr) (D : Nat → DataW H) (len : Nat)
    (hex : ∀ i, i < len → ∃ q : Piece, W.cell? (x.add i) = some (.slice q.a q.l.length q.cap) ∧ Bytes W q.a q.l ∧ (q.a = none → q.cap = 0) ∧ q.l.length ≤ Rows.uptoBulk (D i)) :
    ∀ k, k ≤ len → ∃ L : List Piece, L.length = k ∧ (∀ i q, L[i]? = some q → W.cell? (x.add i) = some (.slice q.a q.l.length q.cap)) ∧ (∀ q ∈ L, Bytes W q.a q.l ∧ (q.a = none → q.cap = 0)) ∧
      (joined L).length ≤ Rows.uptoBulkAll ((List.range k).map D)
  | 0, _ => ⟨[], rfl, fun i q h => by simp at h, fun q h => by simp at h, by simp [joined]⟩
  | k + 1, hk => by
    obtain ⟨L, hl, h1, h2, h3⟩ := pieces_list W x D len hex k (by omega)
    obtain ⟨q, q1, q2, q3, q4⟩ := hex k (by omega)
    have app : ∀ (l r : List (DataW H)), Rows.uptoBulkAll (l ++ r) = Rows.uptoBulkAll l + Rows.uptoBulkAll r := by
      intro l r
      induction l with
      | nil => simp [Rows.uptoBulkAll]
      | cons d l ih => simp only [List.cons_append, Rows.uptoBulkAll, ih]; omega
    refine ⟨L ++ [q], by simp [hl], fun i r hr => ?_, fun r hr => ?_, ?_⟩
    · by_cases hi : i < L.length
      · rw [List.getElem?_append_left hi] at hr; exact h1 i r hr
      · rw [List.getElem?_append_right (by omega)] at hr
        have : i - L.length = 0 := by
          by_cases h : i - L.length = 0
          · exact h
          · rw [List.getElem?_eq_none (by simp; omega)] at hr; cases hr
        rw [this] at hr
        simp at hr
        subst hr
        have e : i = k := by omega
        rw [e]; exact q1
    · rcases List.mem_append.1 hr with h | h
      · exact h2 r h
      · simp at h; subst h; exact ⟨q2, q3⟩
    · rw [List.range_succ, List.map_append, app]
      have e : joined (L ++ [q]) = joined L ++ q.l := by simp [joined]
      rw [e, List.length_append]
      simp only [List.map_cons, List.map_nil, Rows.uptoBulkAll]
      omega

/-- a [][]byte among the arguments -/
theorem open_pieces {H : Type} {enc : TypeId × Value → H} {W : World} {a : Option Addr} {len cap : Nat} {d : DataW H} {p : List MemPlace} {fuel : Nat}
    (hf : DataW.trod enc Tryd.prog W 0 (fun _ => true) true fuel 22 [.slice a len cap] = some (d, p)) (hs : Rows.uptoBulk d ≤ 1048576) :
    ∃ L : List Piece, L.length = len ∧ len ≤ 1048576 ∧ Pieces W a L ∧ (a = none → cap = 0) ∧ (joined L).length ≤ 1048576 := by
  rcases Deep.open_slice Tryd.underlying22 hf with ⟨hcs, _⟩ | ⟨x, len', cap', m, n, D, Pl, hcs, _, hl, hm, hmm, hx, hel⟩
  · simp at hcs
    obtain ⟨rfl, rfl, rfl⟩ := hcs
    exact ⟨[], rfl, by omega, ⟨.inl rfl, fun q h => by simp at h⟩, fun _ => rfl, by simp [joined]⟩
  · simp only [List.cons.injEq, Value.slice.injEq, and_true] at hcs
    obtain ⟨rfl, rfl, rfl⟩ := hcs
    simp only [Prod.mk.injEq] at hx
    obtain ⟨rfl, _⟩ := hx
    simp only [if_true] at hmm
    subst hmm
    have hbk : Rows.uptoBulkAll ((List.range len).map D) ≤ 1048576 := by
      simp only [Rows.uptoBulk] at hs; omega
    have hlen := bulk_many ((List.range len).map D)
    simp only [List.length_map, List.length_range] at hlen
    have each : ∀ i, i < len → Rows.uptoBulk (D i) ≤ 1048576 := by
      intro i hi
      have part : ∀ (l : List (DataW H)) (e : DataW H), e ∈ l → Rows.uptoBulk e ≤ Rows.uptoBulkAll l := by
        intro l e he
        induction l with
        | nil => cases he
        | cons x r ih =>
          simp only [Rows.uptoBulkAll]
          rcases List.mem_cons.1 he with h | h
          · subst h; omega
          · have := ih h; omega
      have := part _ (D i) (List.mem_map.2 ⟨i, List.mem_range.2 hi, rfl⟩)
      omega
    have hex : ∀ i, i < len → ∃ q : Piece, W.cell? (x.add i) = some (.slice q.a q.l.length q.cap) ∧ Bytes W q.a q.l ∧ (q.a = none → q.cap = 0) ∧ q.l.length ≤ Rows.uptoBulk (D i) := by
      intro i hi
      obtain ⟨cs', hc1, hc2⟩ := hel i (by omega)
      rw [cells24, Nat.mul_one] at hc1
      obtain ⟨q, rfl, q2, q3, q4⟩ := open_bytes_small hc2 (each i hi)
      obtain ⟨_, _, hcell⟩ := World.cells?_some hc1
      have := hcell 0 (by omega)
      have e : (x.add i).add 0 = x.add i := by
        unfold Addr.add
        split <;> simp_all
      rw [e] at this
      exact ⟨q, by rw [this]; rfl, q2, q3, q4⟩
    obtain ⟨L, hL, h1, h2, h3⟩ := pieces_list W x D len hex len (Nat.le_refl _)
    refine ⟨L, hL, by omega, ⟨?_, h2⟩, fun h => (nomatch h), by omega⟩
    by_cases h0 : len = 0
    · exact .inl (List.eq_nil_of_length_eq_zero (by omega))
    · obtain ⟨q, q1, _⟩ := hex 0 (by omega)
      obtain ⟨b, off, spot⟩ := x
      have hspot : spot = none := by simpa [Addr.add] using World.cell?_spot q1
      subst hspot
      exact .inr ⟨b, off, rfl, fun i q hq => by rw [← Addr.add_lit]; exact h1 i q hq⟩
end Go.Proofs.YtklffjagdhbjcaaDoor
