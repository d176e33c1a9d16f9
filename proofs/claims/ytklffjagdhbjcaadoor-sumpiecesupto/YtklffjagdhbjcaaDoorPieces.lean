import Derived.Test.YtklffjagdhbjcaaDoorTurnsA
import Derived.Laws.AppendOwnNone
namespace Go.Proofs.YtklffjagdhbjcaaDoor
open Go.RowKit
open Crc (W)

structure Piece where
  a : Option Addr
  cap : Nat
  l : List Int
def joined (L : List Piece) : List Int := L.flatMap Piece.l
theorem joined_snoc (L : List Piece) (k : Nat) (p : Piece) (h : L[k]? = some p) : joined (L.take (k + 1)) = joined (L.take k) ++ p.l := by
  unfold joined
  obtain ⟨hk, rfl⟩ := List.getElem?_eq_some_iff.1 h
  rw [List.take_succ_eq_append_getElem hk, List.flatMap_append]; simp
theorem joined_cons (L : List Piece) (k : Nat) (p : Piece) (h : L[k]? = some p) : joined (L.drop k) = p.l ++ joined (L.drop (k + 1)) := by
  unfold joined
  obtain ⟨hk, rfl⟩ := List.getElem?_eq_some_iff.1 h
  rw [List.drop_eq_getElem_cons hk, List.flatMap_cons]
theorem joined_le (L : List Piece) (k : Nat) : (joined (L.take k)).length ≤ (joined L).length ∧ (joined (L.drop k)).length ≤ (joined L).length := by
  have e : joined L = joined (L.take k) ++ joined (L.drop k) := by
    unfold joined
    rw [← List.flatMap_append, List.take_append_drop]
  rw [e, List.length_append]; omega

structure Pieces (w : World) (a0 : Option Addr) (L : List Piece) : Prop where
  at_ : L = [] ∨ ∃ b off, a0 = some ⟨b, off, none⟩ ∧ ∀ i p, L[i]? = some p → w.cell? ⟨b, off + i, none⟩ = some (.slice p.a p.l.length p.cap)
  each : ∀ p ∈ L, Bytes w p.a p.l ∧ (p.a = none → p.cap = 0)
theorem Pieces.on {w w' : World} {a0 : Option Addr} {L : List Piece} (h : Pieces w a0 L) (hb : Below w.heap.size w w') : Pieces w' a0 L := by
  refine ⟨?_, fun p hp => ⟨(h.each p hp).1.on hb, (h.each p hp).2⟩⟩
  rcases h.at_ with e | ⟨b, off, rfl, hc⟩
  · exact .inl e
  · refine .inr ⟨b, off, rfl, fun i p hp => ?_⟩
    rw [hb.cell (p := ⟨b, off + i, none⟩) (block_lt_of_cell (hc i p hp))]; exact hc i p hp

/-- bytes that grow -/
structure OwnV (w : World) (B : Nat) (a : Option Addr) (n cap : Nat) (l : List Int) : Prop where
  owns : w.ownsRow B 5 1 (.slice a n cap) n (l.map (Value.int .u8))
  len : l.length = n
  wf : ∀ i, 0 ≤ nth l i ∧ nth l i < 256
  small : n ≤ 1048576
theorem OwnV.room {w : World} {B : Nat} {a : Option Addr} {n cap : Nat} {l : List Int} (h : OwnV w B a n cap l) : n ≤ cap := by
  rcases h.owns.2 with ⟨hv, h0⟩ | ⟨g, c, cur, hv, hg, hh, hc, _⟩
  · cases hv; omega
  · cases hv; exact hc
theorem wf_append {l m : List Int} (h : ∀ i, 0 ≤ nth l i ∧ nth l i < 256) (k : ∀ i, 0 ≤ nth m i ∧ nth m i < 256) : ∀ i, 0 ≤ nth (l ++ m) i ∧ nth (l ++ m) i < 256 := by
  intro i
  unfold nth at *
  by_cases hi : i < l.length
  · have : (l ++ m).getD i 0 = l.getD i 0 := by simp [List.getD, List.getElem?_append, hi]
    rw [this]; exact h i
  · have : (l ++ m).getD i 0 = m.getD (i - l.length) 0 := by simp [List.getD, List.getElem?_append, hi]
    rw [this]; exact k _
theorem OwnV.bytes {w : World} {B : Nat} {a : Option Addr} {n cap : Nat} {l : List Int} (h : OwnV w B a n cap l) : Bytes w a l := by
  refine ⟨by have := h.len; have := h.small; omega, h.wf, ?_⟩
  rcases h.owns.2 with ⟨hv, h0⟩ | ⟨g, c, cur, hv, hg, hh, hc, hm, hsz, htk⟩
  · exact .inl (List.eq_nil_of_length_eq_zero (by rw [h.len, h0]))
  · cases hv
    refine .inr ⟨g, 0, rfl, fun i hi => ?_⟩
    rw [Nat.zero_add, cell_of_row _ _ _ _ _ _ hh, ← nth_cell l i hi]
    have e : (l.map (Value.int .u8))[i]? = cur.toList[i]? := by
      rw [← htk, List.getElem?_take, if_pos (by have := h.len; omega)]
    simpa using e.symm

/-- 'append(all, p...)' -/
theorem wp_more {ops : Array Oper} {rest : List Oper} {o : Oper} {ac : Act} {Q : Exit → Act → World → Prop} (w : World) (hgd : o.guard = none) (s x : Operand)
    (ho : o.op = .call { callee := .builtin .append, args := #[s, x], argTypes := #[24, 24] }) (B : Nat) (hB : B ≤ w.heap.size) (a : Option Addr) (n cap : Nat) (l : List Int) (hs : ac.eval s = .slice a n cap) (hown : OwnV w B a n cap l)
    (p : Piece) (hx : ac.eval x = .slice p.a p.l.length p.cap) (hb : Bytes w p.a p.l) (hz : p.a = none → p.cap = 0) (hsum : n + p.l.length ≤ 1048576)
    (h : ∀ a' cap' w', OwnV w' B a' (n + p.l.length) cap' (l ++ p.l) → Below B w w' → wpList Tryd.prog ops Q rest (ac.put o.dst (.slice a' (n + p.l.length) cap')) w') :
    wpList Tryd.prog ops Q (o :: rest) ac w := by
  obtain ⟨i0, hi, hz0, hz1, hz2⟩ := info_parts info5
  obtain ⟨pa, pc, pl⟩ := p
  cases pa with
  | none =>
    have hl : pl = [] := by
      rcases hb.at_ with e | ⟨_, _, e, _⟩
      · exact e
      · cases e
    subst hl
    have hc : pc = 0 := hz rfl
    subst hc
    refine wpList_append_own_none hgd s x 24 ho B 5 i0 1 Tryd.underlying24 hi _ n _ hs hown.owns hx ?_
    have := h a cap w (by simpa using hown) (Below.refl _ _)
    simpa using this
  | some q =>
    refine wpList_append_own w hgd s x 24 ho B 5 i0 (.int .u8 0) 1 1 Tryd.underlying24 hi hz0 hz1 hz2 rfl (by decide) _ n _ hs hown.owns q pl.length pc (pl.map (Value.int .u8)) hx (by simp) ?_ (cells_u8 pl) ?_ ?_ hB ?_
    · intro j u hj
      rcases hb.at_ with e | ⟨b, off, e, hc⟩
      · dsimp only at e; subst e; simp at hj
      · cases e
        have hlt : j < pl.length := by
          by_cases hlt : j < pl.length
          · exact hlt
          · rw [List.getElem?_eq_none (by simp; omega)] at hj; cases hj
        have e2 : (pl.map (Value.int .u8))[j]? = some (.int .u8 (nth pl j)) := by
          have := nth_cell pl j hlt
          simpa using this
        rw [e2] at hj
        cases hj
        rw [Addr.add_lit]
        exact hc j hlt
    · unfold maxLen; dsimp only at hsum; omega
    · dsimp only at hsum; omega
    · intro v' w' ho' hg' hnil
      rw [← List.map_append] at ho'
      have hb2 : Below B w w' := (Below.refl _ _).grown hg' hB (fun k hk => by
        rcases hown.owns.2 with ⟨hv, h0⟩ | ⟨g, c, cur, hv, hgB, _⟩
        · cases hv; cases hk
        · cases hv; cases hk; exact hgB)
      have hw := wf_append hown.wf hb.wf
      have hll := hown.len
      rcases ho'.2 with ⟨hv, h0⟩ | ⟨g, c, cur, hv, hgB, hgr, hcap, hcm, hsz, htk⟩
      · subst hv
        have := h none 0 w' ⟨by rw [show n + pl.length = 0 from h0] at ho' ⊢; exact ho', by simp; omega, hw, hsum⟩ hb2
        rw [show n + pl.length = 0 from h0] at this
        exact this
      · subst hv
        exact h _ _ w' ⟨ho', by simp; omega, hw, hsum⟩ hb2
end Go.Proofs.YtklffjagdhbjcaaDoor
