import Derived.Test.YtcbebalakdkgnaaGreatDoorKXtE
import Derived.Deep.CutBlock
import Derived.Deep.RegionHeld3
namespace Go.Proofs.YtcbebalakdkgnaaGreatDoor
open Go.RowKit Rec

theorem LV.sep {ty rs el sz ty' rs' el' sz' : Nat} {w : World} {lv lv' : Value} {n n' : Nat} {R R' : Nat → List Value} {V V' : Nat → Value} {M M' : Nat → Nat} {C C' : Nat → List Value} (h : LV ty rs el sz w lv n R V M C) (h' : LV ty' rs' el' sz' w lv' n' R' V' M' C') (h1 : ty ≠ ty') (h2 : ty ≠ el') (h3 : el ≠ ty') (h4 : el ≠ el') : ∀ k, hasL lv n V k → ¬ hasL lv' n' V' k := by
  rintro k (e | ⟨i, hi, e⟩) (e' | ⟨j, hj, e'⟩)
  · exact own_two h.row h'.row h1 e e'
  · exact own_two h.row (h'.ls j hj) h2 e e'
  · exact own_two (h.ls i hi) h'.row h3 e e'
  · exact own_two (h.ls i hi) (h'.ls j hj) h4 e e'
/-- all marks -/
def mkB (K : Kb) (j : Nat) : List Value := (List.replicate ((K.bX j).length + 3) (mk8 j)).map (Value.int .u8)
abbrev NL (w : World) (K : Kb) (lv : Value) (i : Nat) (V : Nat → Value) : Prop := LV 86 5 5 1 w lv i (fun j => heR (V j) (K.bX j) j) V (fun j => (K.bX j).length + 3) (mkB K)
/-- within the third loop: i rows are marked and long -/
structure H3 (w wr : World) (K : Kb) (lv : Value) (i : Nat) (V : Nat → Value) : Prop where
  nl : NL wr K lv i V
  row : wr.ownsRow 0 86 5 K.bv K.bn ((List.range K.bn).flatMap (fun i => heR (K.bV i) (K.bX i) i))
  old : ∀ j, i ≤ j → j < K.bn → wr.ownsRow 0 5 1 (K.bV j) (heC (K.bX j) j).length ((heC (K.bX j) j).map (Value.int .u8))
  fr : Fr (fun k => ∃ j, j < K.bn ∧ (K.bV j).ownBlock = some k) w wr
  lvb : ∀ k, lv.ownBlock = some k → w.heap.size ≤ k
  vb : ∀ j, j < i → ∀ k, (V j).ownBlock = some k → (K.bV j).ownBlock = some k ∨ w.heap.size ≤ k
theorem H3.zero {w wr : World} {K : Kb} {V : Nat → Value} (h : KbI w K) (hb : Below w.heap.size w wr) : H3 w wr K (.slice none 0 0) 0 V :=
  ⟨LV.zero _, (h.b.on hb).row, fun j _ hj => (h.b.on hb).ls j hj, below_fr hb _, fun _ e => (by cases e), fun _ h => absurd h (Nat.not_lt_zero _)⟩
/-- the held row number i -/
theorem H3.cells {w wr : World} {K : Kb} {lv : Value} {i : Nat} {V : Nat → Value} (h : H3 w wr K lv i V) (hi : i < K.bn) : ∃ g cap, K.bv = .slice (some ⟨g, 0, none⟩) K.bn cap ∧ wr.cell? ⟨g, i * 5, none⟩ = some (K.bV i) ∧ wr.cell? ⟨g, i * 5 + 1, none⟩ = some (.int .i64 ((K.bX i).length : Int)) ∧ wr.cell? ⟨g, i * 5 + 2, none⟩ = some (.int .u8 (mk8 i)) ∧ wr.cell? ⟨g, i * 5 + 3, none⟩ = some (.string (strOfNums (K.bX i))) ∧ wr.cell? ⟨g, i * 5 + 4, none⟩ = some (.bool (decide (i % 2 = 0))) := by
  have h0 := h.row
  rcases h.row.2 with ⟨_, e2⟩ | ⟨g, cap, cur, e, _, _, h2, h3, _⟩
  · omega
  · rw [e] at h0
    have c : ∀ j, j < 5 → wr.cell? ⟨g, i * 5 + j, none⟩ = (heR (K.bV i) (K.bX i) i)[j]? := fun j hj => by
      rw [h0.cellAt (i * 5 + j) (by omega), flat_at _ 5 K.bn i j (fun _ => rfl) hi hj]
    exact ⟨g, cap, e, c 0 (by omega), c 1 (by omega), c 2 (by omega), c 3 (by omega), c 4 (by omega)⟩
/-- one row more -/
theorem H3.next {w wr wy w1 : World} {K : Kb} {lv u : Value} {i b cap : Nat} {V : Nat → Value} (hK : KbI w K) (h : H3 w wr K lv i V) (hi : i < K.bn) (f : Fr (fun k => (K.bV i).ownBlock = some k) wr wy)
    (hu : wy.ownsRow 0 5 1 u ((K.bX i).length + 3) (mkB K i)) (hub : ∀ k, u.ownBlock = some k → (K.bV i).ownBlock = some k ∨ wr.heap.size ≤ k)
    (h1 : w1.ownsRow 0 86 5 (.slice (some ⟨b, 0, none⟩) (i + 1) cap) (i + 1) ((List.range i).flatMap (fun j => heR (V j) (K.bX j) j) ++ heR u (K.bX i) i)) (h2 : Fr (fun k => lv.ownBlock = some k) wy w1) (h3 : lv.ownBlock = some b ∨ wy.heap.size ≤ b) : H3 w w1 K (.slice (some ⟨b, 0, none⟩) (i + 1) cap) (i + 1) (up V i u) := by
  have hio := hK.b.ls i hi
  have hiB : ∀ k, (K.bV i).ownBlock = some k → k < w.heap.size := fun k e => owns_block hio e
  have hws := h.fr.size
  have hsep : ∀ j, j < i → ∀ k, (V j).ownBlock = some k → (K.bV i).ownBlock ≠ some k := fun j hj k e e2 => by
    rcases h.vb j hj k e with e3 | e3
    · exact hK.b.ap j i (by omega) hi (by omega) k e3 e2
    · have := hiB k e2; omega
  have ho := h.old i (Nat.le_refl _) hi
  have ny := h.nl.fr f (fun k e e2 => by
    rcases e with e | ⟨j, hj, e⟩
    · have := h.lvb k e; have := hiB k e2; omega
    · exact hsep j hj k e e2)
  have n1 := ny.one (by decide) hu (fun j hj k e e2 => by
    rcases hub k e2 with e3 | e3
    · exact hsep j hj k e e3
    · have := h.nl.lt (.inr ⟨j, hj, e⟩); omega) h1 h2
  have hl2 : ∀ k, lv.ownBlock = some k → w.heap.size ≤ k := h.lvb
  refine ⟨?_, ?_, fun j hj hjn => ?_, ?_, fun k e => ?_, fun j hj k e => ?_⟩
  · have e1 : (fun j => heR (up V i u j) (K.bX j) j) = up (fun j => heR (V j) (K.bX j) j) i (heR u (K.bX i) i) := up1 (fun x j => heR x (K.bX j) j) V i u
    have e2 : (fun j => (K.bX j).length + 3) = up (fun j => (K.bX j).length + 3) i ((K.bX i).length + 3) := by
      funext j; by_cases c : j = i
      · subst c; rw [up_eq1]
      · rw [up_ne _ _ c]
    have e3 : mkB K = up (mkB K) i (mkB K i) := by
      funext j; by_cases c : j = i
      · subst c; rw [up_eq1]
      · rw [up_ne _ _ c]
    show LV _ 5 _ 1 _ _ _ (fun j => heR (up V i u j) (K.bX j) j) _ (fun j => (K.bX j).length + 3) (mkB K)
    rw [e1, e2, e3]
    have e4 := n1
    rw [← e2, ← e3] at e4 ⊢
    exact e4
  · refine owns_fr (owns_fr h.row f (fun k e e2 => own_two h.row ho (by decide) e e2)) h2 (fun k e e2 => ?_)
    have h5 : k < w.heap.size := owns_block hK.b.row e
    have := hl2 k e2; omega
  · refine owns_fr (owns_fr (h.old j (by omega) hjn) f (fun k e e2 => hK.b.ap j i hjn hi (by omega) k e e2)) h2 (fun k e e2 => ?_)
    have h5 : k < w.heap.size := owns_block (hK.b.ls j hjn) e
    have := hl2 k e2; omega
  · exact (h.fr.trans f (fun k e => .inl ⟨i, hi, e⟩)).trans h2 (fun k e => .inr (hl2 k e))
  · cases e
    rcases h3 with h3 | h3
    · exact hl2 b h3
    · exact Nat.le_trans hws (Nat.le_trans f.size h3)
  · by_cases c : j = i
    · subst c; rw [up_eq1] at e
      exact (hub k e).imp id (fun e => Nat.le_trans hws e)
    · rw [up_ne _ _ c] at e; exact h.vb j (by omega) k e
section
variable {ty el sz : Nat} {w w1 wr : World} {lv : Value} {n : Nat} {V V0 : Nat → Value} {M M0 : Nat → Nat} {C C0 mC : Nat → List Value}
/-- one list of the row is another -/
theorem LV.app {g c i m : Nat} {u : Value} {c' : List Value} (hne : ty ≠ el) (h : LV ty 1 el sz w lv n (fun j => [V j]) V M C) (hlv : lv = .slice (some ⟨g, 0, none⟩) n c) (hi : i < n) (x : Fr (fun k => (V i).ownBlock = some k) w w1) (hu : w1.ownsRow 0 el sz u m c') (hub : ∀ k, u.ownBlock = some k → (V i).ownBlock = some k ∨ w.heap.size ≤ k) :
    LV ty 1 el sz (w1.setCell ⟨g, i, none⟩ u) lv n (fun j => [up V i u j]) (up V i u) (up M i m) (up C i c') := by
  have r1 := owns_fr h.row x (fun k e e2 => own_two h.row (h.ls i hi) hne e e2)
  have hg : lv.ownBlock = some g := by rw [hlv]; rfl
  have hgt : ∀ {v : Value} {m' : Nat} {cc : List Value}, w1.ownsRow 0 el sz v m' cc → ∀ k, v.ownBlock = some k → ¬ k = g := fun hv k e e2 => own_two r1 hv hne (by rw [hg, e2]) e
  refine ⟨?_, fun j hj => ?_, fun j j' hj hj' hjj k e => ?_⟩
  · rw [hlv] at r1 ⊢
    have r2 := (r1.stored i u).1
    rw [flat_set _ n i u hi (fun _ => rfl)] at r2
    rw [up1 (fun y _ => [y])]
    exact r2
  · by_cases e : j = i
    · subst e; rw [up_eq1, up_eq1, up_eq1]; exact owns_fr hu Fr.set (hgt hu)
    · rw [up_ne _ _ e, up_ne _ _ e, up_ne _ _ e]
      have h1 := owns_fr (h.ls j hj) x (fun k e1 e2 => h.ap j i hj hi e k e1 e2)
      exact owns_fr h1 Fr.set (hgt h1)
  · by_cases e1 : j = i
    · subst e1
      rw [up_eq1] at e
      rw [up_ne _ _ (fun z => hjj z.symm)]
      intro e2
      rcases hub k e with e3 | e3
      · exact h.ap j j' hi hj' hjj k e3 e2
      · have := h.lt (.inr ⟨j', hj', e2⟩); omega
    · rw [up_ne _ _ e1] at e
      by_cases e2 : j' = i
      · subst e2; rw [up_eq1]
        intro e3
        rcases hub k e3 with e4 | e4
        · exact h.ap j j' hj hj' hjj k e e4
        · have := h.lt (.inr ⟨j, hj, e⟩); omega
      · rw [up_ne _ _ e2]; exact h.ap j j' hj hj' hjj k e
/-- i lists of a row are marked and longer by one -/
structure H4 (ty el sz : Nat) (w wr : World) (lv : Value) (n : Nat) (V0 : Nat → Value) (M0 : Nat → Nat) (C0 mC : Nat → List Value) (i : Nat) (V : Nat → Value) : Prop where
  l : LV ty 1 el sz wr lv n (fun j => [V j]) V (fun j => if j < i then M0 j + 1 else M0 j) (fun j => if j < i then mC j else C0 j)
  o : ∀ j, i ≤ j → V j = V0 j
  fr : Fr (fun k => hasL lv n V0 k) w wr
  vb : ∀ j, j < n → ∀ k, (V j).ownBlock = some k → (V0 j).ownBlock = some k ∨ w.heap.size ≤ k
theorem ifup {α : Type} (f g : Nat → α) (i : Nat) : (fun j => if j < i + 1 then f j else g j) = up (fun j => if j < i then f j else g j) i (f i) := by
  funext j
  by_cases e : j = i
  · subst e; rw [up_eq1, if_pos (by omega)]
  · rw [up_ne _ _ e]
    by_cases c : j < i
    · rw [if_pos c, if_pos (by omega)]
    · rw [if_neg c, if_neg (by omega)]
theorem H4.zero (h : LV ty 1 el sz w lv n (fun j => [V0 j]) V0 M0 C0) : H4 ty el sz w w lv n V0 M0 C0 mC 0 V0 := by
  refine ⟨?_, fun _ _ => rfl, Fr.refl _ _, fun j _ k e => .inl e⟩
  have e1 : (fun j => if j < 0 then M0 j + 1 else M0 j) = M0 := by funext j; exact if_neg (Nat.not_lt_zero _)
  have e2 : (fun j => if j < 0 then mC j else C0 j) = C0 := by funext j; exact if_neg (Nat.not_lt_zero _)
  rw [e1, e2]; exact h
theorem H4.on {i : Nat} {w' : World} (h : H4 ty el sz w wr lv n V0 M0 C0 mC i V) (hb : Below wr.heap.size wr w') : H4 ty el sz w w' lv n V0 M0 C0 mC i V := ⟨h.l.on hb, h.o, h.fr.trans (below_fr hb (fun _ => False)) (fun _ e => e.elim), h.vb⟩
theorem H4.next {g c i b cap : Nat} (hne : ty ≠ el) (h : H4 ty el sz w wr lv n V0 M0 C0 mC i V) (hlv : lv = .slice (some ⟨g, 0, none⟩) n c) (hi : i < n) (x : Fr (fun k => (V0 i).ownBlock = some k) wr w1) (hu : w1.ownsRow 0 el sz (.slice (some ⟨b, 0, none⟩) (M0 i + 1) cap) (M0 i + 1) (mC i)) (hub : (V0 i).ownBlock = some b ∨ wr.heap.size ≤ b) :
    H4 ty el sz w (w1.setCell ⟨g, i, none⟩ (.slice (some ⟨b, 0, none⟩) (M0 i + 1) cap)) lv n V0 M0 C0 mC (i + 1) (up V i (.slice (some ⟨b, 0, none⟩) (M0 i + 1) cap)) := by
  have hvi := h.o i (Nat.le_refl _)
  refine ⟨?_, fun j hj => by rw [up_ne _ _ (by omega)]; exact h.o j (by omega), ?_, fun j hj k e => ?_⟩
  · rw [ifup (fun j => M0 j + 1) M0 i, ifup mC C0 i]
    exact h.l.app hne hlv hi (by rw [hvi]; exact x) hu (fun k e => by cases e; rw [hvi]; exact hub)
  · refine (h.fr.trans x (fun k e => .inl (.inr ⟨i, hi, e⟩))).trans Fr.set (fun k e => .inl (.inl (by rw [hlv, show k = g from e]; rfl)))
  · by_cases e1 : j = i
    · subst e1; rw [up_eq1] at e; cases e
      exact hub.imp id (fun e => Nat.le_trans h.fr.size e)
    · rw [up_ne _ _ e1] at e; exact h.vb j hj k e
end
/-- a held row is marked and long -/
structure Ah5 (wr wz : World) (v : Value) (P : Nat) (V : Value) (x : List Int) (n : Nat) (m : Int) (kp : Bool) : Prop where
  z : wz.heap[P]? = some (.cells #[V, .int .i64 (n : Int), .int .u8 m, .string (strOfNums x), .bool kp] 86 (0, 0))
  fr : Fr (fun k => v.ownBlock = some k) wr wz
  row : wz.ownsRow 0 5 1 V (n + 3) ((List.replicate (n + 3) m).map (Value.int .u8))
  blk : ∀ k, V.ownBlock = some k → v.ownBlock = some k ∨ wr.heap.size ≤ k
  one : V.oneCell' = true
theorem ah5 {w wP w5 : World} {v : Value} {P g cap n : Nat} {x : List Int} {m : Int} {kp : Bool} (hP : P = w.heap.size) (hb : Below w.heap.size w wP)
    (h1 : w5.heap[P]? = some (.cells #[v, .int .i64 (n : Int), .int .u8 m, .string (strOfNums x), .bool kp] 86 (0, 0))) (hg : ∀ b, v.ownBlock = some b → b < P) (hlt : P < wP.heap.size)
    (h2 : w5.ownsRow 0 5 1 (.slice (some ⟨g, 0, none⟩) (n + 3) cap) (n + 3) ((List.replicate (n + 3) m).map (Value.int .u8))) (h3 : v.ownBlock = some g ∨ wP.heap.size ≤ g) (h4 : Fr (fun k => v.ownBlock = some k) wP w5) :
    Ah5 w (((((w5.setCell ⟨P, 0, none⟩ (.slice (some ⟨g, 0, none⟩) (n + 3) cap)).setCell ⟨P, 1, none⟩ (.int .i64 (n : Int))).setCell ⟨P, 2, none⟩ (.int .u8 m)).setCell ⟨P, 3, none⟩ (.string (strOfNums x))).setCell ⟨P, 4, none⟩ (.bool kp)) v P (.slice (some ⟨g, 0, none⟩) (n + 3) cap) x n m kp := by
  obtain ⟨y, f⟩ := five_set (a' := .slice (some ⟨g, 0, none⟩) (n + 3) cap) (b' := .int .i64 (n : Int)) (c' := .int .u8 m) (d' := .string (strOfNums x)) (e' := .bool kp) h1
  refine ⟨y, ((below_fr hb _).trans h4 (fun k e => .inl e)).trans f (fun k e => .inr (by rw [e, hP]; exact Nat.le_refl _)), ?_, fun k e => ?_, rfl⟩
  · exact owns_fr h2 f (fun k e e2 => by
      cases e
      have e3 : g = P := e2
      rcases h3 with h3 | h3
      · have := hg _ h3; omega
      · omega)
  · cases e
    exact h3.imp id (fun e => Nat.le_trans hb.size e)
theorem own_one {w : World} {B e sz n : Nat} {v : Value} {xs : List Value} (h : w.ownsRow B e sz v n xs) : v.oneCell' = true := by
  rcases h.2 with ⟨e, _⟩ | ⟨_, _, _, e, _⟩ <;> rw [e] <;> rfl
/-- the append to the list of what is long -/
theorem ah6 {w wr wz wy w4 : World} {K : Kb} {lv u : Value} {i P b cap n : Nat} {V : Nat → Value} {m : Int} {kp : Bool} (hK : KbI w K) (h : H3 w wr K lv i V) (hi : i < K.bn) (hA : Ah5 wr wz (K.bV i) P u (K.bX i) n m kp) (hn : (K.bX i).length = n) (hm : mk8 i = m) (hk : decide (i % 2 = 0) = kp) (hy : Below wz.heap.size wz wy)
    (h1 : w4.ownsRow 0 86 5 (.slice (some ⟨b, 0, none⟩) (i + 1) cap) (i + 1) ((List.range i).flatMap (fun j => heR (V j) (K.bX j) j) ++ [u, .int .i64 (n : Int), .int .u8 m, .string (strOfNums (K.bX i)), .bool kp])) (h2 : Fr (fun k => lv.ownBlock = some k) wy w4) (h3 : lv.ownBlock = some b ∨ wy.heap.size ≤ b) : H3 w w4 K (.slice (some ⟨b, 0, none⟩) (i + 1) cap) (i + 1) (up V i u) := by
  refine h.next hK hi (hA.fr.trans (below_fr hy (fun _ => False)) (fun _ e => e.elim)) ?_ hA.blk ?_ h2 h3
  · have e : mkB K i = (List.replicate (n + 3) m).map (Value.int .u8) := by unfold mkB; rw [hn, hm]
    rw [e, hn]
    exact owns_fr hA.row (below_fr hy (fun _ => False)) (fun _ _ e => e)
  · have e : heR u (K.bX i) i = [u, .int .i64 (n : Int), .int .u8 m, .string (strOfNums (K.bX i)), .bool kp] := by unfold heR; rw [hn, hm, hk]
    rw [e]; exact h1
/-- what the third loop leaves of the rest -/
theorem H3.rest {w wr : World} {K : Kb} {lv : Value} {i : Nat} {V : Nat → Value} (h : H3 w wr K lv i V) (hK : KbI w K) : LV 70 1 3 1 wr K.iv K.im (fun i => [K.iV i]) K.iV (fun i => (K.iX i).length) (fun i => (K.iX i).map (Value.int .i64)) ∧ wr.heap[K.kb]? = some (.cells K.cells 41 (0, 0)) := by
  refine ⟨hK.i.fr h.fr (fun k e e2 => ?_), h.fr.heap hK.box (fun e2 => ?_)⟩
  · obtain ⟨j, hj, e2⟩ := e2
    exact hK.b.sep hK.i (by decide) (by decide) (by decide) (by decide) k (.inr ⟨j, hj, e2⟩) e
  · obtain ⟨j, hj, e2⟩ := e2
    exact own_apartX (hK.b.ls j hj) hK.box (by decide) e2
/-- marks of a row of numbers -/
def mI (K : Kb) (j : Nat) : List Value := (List.replicate ((K.iX j).length + 1) (-1000 - (j : Int))).map (Value.int .i64)
abbrev HI4 (w wr : World) (K : Kb) (i : Nat) (V : Nat → Value) : Prop := H4 70 3 1 w wr K.iv K.im K.iV (fun j => (K.iX j).length) (fun j => (K.iX j).map (Value.int .i64)) (mI K) i V
/-- within a round over a row of numbers -/
structure IqS (w wr : World) (K : Kb) (k g im ic kb : Nat) (pa : Option Addr) (n pc : Nat) (x : List Int) (m : Int) : Prop where
  v : K.iV k = .slice pa n pc
  own : wr.ownsRow 0 3 1 (.slice pa n pc) n (x.map (Value.int .i64))
  xl : x.length = n ∧ K.iX k = x
  nl : n ≤ 10000000
  icl : im ≤ ic
  box : wr.heap[kb]? = some (.cells K.cells 41 (0, 0))
  kc : wr.cell? ⟨kb, 1, none⟩ = some (.slice (some ⟨g, 0, none⟩) im ic)
  gc : wr.cell? ⟨g, k, none⟩ = some (.slice pa n pc)
  gf : wr.frozen? ⟨g, k, none⟩ = false
  me : (-1000 : Int) - (k : Int) = m
  pf : n = 0 ∨ ∃ p, pa = some ⟨p, 0, none⟩
  gt : ∃ cs, wr.heap[g]? = some (.cells cs 70 (0, 0))
structure IqL (wr wy : World) (pa : Option Addr) (n pc : Nat) (c : List Value) : Prop where
  own : wy.ownsRow 0 3 1 (.slice pa n pc) n c
  fr : Fr (fun b => (Value.slice pa n pc).ownBlock = some b) wr wy
theorem IqS.zero {w wr : World} {K : Kb} {k g im ic kb : Nat} {pa : Option Addr} {n pc : Nat} {x : List Int} {m : Int} (h : IqS w wr K k g im ic kb pa n pc x m) : IqL wr wr pa n pc ((mks 0 m x).map (Value.int .i64)) := by
  have e : mks 0 m x = x := rfl
  rw [e]; exact ⟨h.own, Fr.refl _ _⟩
theorem HI4.open {w0 w wr : World} {K : Kb} {V : Nat → Value} {k kb : Nat} (hK : KbI w0 K) (hL : LV 70 1 3 1 w K.iv K.im (fun i => [K.iV i]) K.iV (fun i => (K.iX i).length) (fun i => (K.iX i).map (Value.int .i64))) (h : HI4 w wr K k V) (hb : w.heap[kb]? = some (.cells K.cells 41 (0, 0))) (hk : k < K.im) : ∃ g pa n pc x m ic, K.iv = .slice (some ⟨g, 0, none⟩) K.im ic ∧ IqS w wr K k g K.im ic kb pa n pc x m := by
  obtain ⟨g, ic, e, h1, _, h2, h3⟩ := h.l.cell (fun _ => rfl) hk
  have hv := h.o k (Nat.le_refl _)
  have ho := h.l.ls k hk
  rw [hv] at ho
  simp only [Nat.lt_irrefl, if_false] at ho
  obtain ⟨pa, pc, e1, _, hpf, _⟩ := owns_slice ho
  have hg := h3 0 (by omega)
  rw [Nat.mul_one, Nat.add_zero] at hg
  have hg2 : wr.cell? ⟨g, k, none⟩ = some (V k) := hg
  rw [hv, e1] at hg2
  have hbx : wr.heap[kb]? = some (.cells K.cells 41 (0, 0)) := h.fr.heap hb (fun e2 => hL.box hb (by decide) (by decide) e2 rfl)
  rw [e1] at ho
  refine ⟨g, pa, (K.iX k).length, pc, K.iX k, _, ic, e, ⟨e1, ho, ⟨rfl, rfl⟩, hK.ix k hk, h1, hbx, by rw [← e]; exact cell_of_row _ _ 1 _ _ _ hbx, hg2, h2 k, rfl, hpf, ?_⟩⟩
  have hr := h.l.row
  rw [e] at hr
  rcases hr.2 with ⟨e5, _⟩ | ⟨g', c', cur, e5, _, e6, _⟩
  · cases e5
  · cases e5; exact ⟨_, e6⟩
theorem IqL.next {wr wy : World} {p n pc r : Nat} {m : Int} {x : List Int} (h : IqL wr wy (some ⟨p, 0, none⟩) n pc ((mks r m x).map (Value.int .i64))) (hr : r < n) (hx : x.length = n) : IqL wr (wy.setCell ⟨p, r, none⟩ (.int .i64 m)) (some ⟨p, 0, none⟩) n pc ((mks (r + 1) m x).map (Value.int .i64)) := by
  have e := (h.own.stored r (.int .i64 m)).1
  rw [← List.map_set, mks_set (by omega)] at e
  exact ⟨e, h.fr.trans Fr.set (fun b e => .inl (by rw [show b = p from e]; rfl))⟩
theorem IqL.cell {wr wy : World} {p n pc r : Nat} {y : List Int} (h : IqL wr wy (some ⟨p, 0, none⟩) n pc (y.map (Value.int .i64))) (hr : r < n) : ∃ z, wy.cell? ⟨p, r, none⟩ = some (.int .i64 z) := by
  have hl : y.length = n := by have := h.own.1; rw [List.length_map] at this; omega
  have d := h.own.cellAt r (by omega)
  rw [List.getElem?_map, List.getElem?_eq_getElem (by omega)] at d
  exact ⟨_, d⟩
theorem IqS.keep {w wr wy : World} {K : Kb} {k g im ic kb : Nat} {pa : Option Addr} {n pc : Nat} {x : List Int} {m : Int} {c : List Value} (h : IqS w wr K k g im ic kb pa n pc x m) (hL : IqL wr wy pa n pc c) : wy.cell? ⟨kb, 1, none⟩ = some (.slice (some ⟨g, 0, none⟩) im ic) ∧ wy.cell? ⟨g, k, none⟩ = some (.slice pa n pc) ∧ wy.frozen? ⟨g, k, none⟩ = false := by
  obtain ⟨cs, hg⟩ := h.gt
  have hgn : ¬ (Value.slice pa n pc).ownBlock = some g := fun e => own_apartX h.own hg (by decide) e
  have hbn : ¬ (Value.slice pa n pc).ownBlock = some kb := fun e => own_apartX h.own h.box (by decide) e
  have hg2 := hL.fr.heap hg hgn
  exact ⟨hL.fr.cell h.kc hbn, hL.fr.cell h.gc hgn, frozen_of_row _ _ k _ _ hg2⟩
theorem IqL.full {wr wy : World} {pa : Option Addr} {n pc : Nat} {m : Int} {x : List Int} (h : IqL wr wy pa n pc ((mks n m x).map (Value.int .i64))) (hx : x.length = n) : IqL wr wy pa n pc ((List.replicate n m).map (Value.int .i64)) := by
  have e : mks n m x = List.replicate n m := by unfold mks; rw [List.drop_of_length_le (by omega), List.append_nil]
  rw [e] at h; exact h
/-- a round's end over a row of numbers -/
theorem HI4.done {w wr wy wz w1 : World} {K : Kb} {V : Nat → Value} {k g ic kb b cap : Nat} {pa : Option Addr} {n pc : Nat} {x : List Int} {m : Int} (h : HI4 w wr K k V) (hk : k < K.im) (hq : IqS w wr K k g K.im ic kb pa n pc x m) (hiv : K.iv = .slice (some ⟨g, 0, none⟩) K.im ic) (hL : IqL wr wy pa n pc ((List.replicate n m).map (Value.int .i64))) (hz : Below wy.heap.size wy wz)
    (h1 : w1.ownsRow 0 3 1 (.slice (some ⟨b, 0, none⟩) (n + 1) cap) (n + 1) ((List.replicate n m).map (Value.int .i64) ++ [.int .i64 m])) (h2 : Fr (fun e => (Value.slice pa n pc).ownBlock = some e) wz w1) (h3 : (Value.slice pa n pc).ownBlock = some b ∨ wz.heap.size ≤ b) :
    (w1.cell? ⟨g, k, none⟩ = some (.slice pa n pc) ∧ w1.frozen? ⟨g, k, none⟩ = false) ∧ HI4 w (w1.setCell ⟨g, k, none⟩ (.slice (some ⟨b, 0, none⟩) (n + 1) cap)) K (k + 1) (up V k (.slice (some ⟨b, 0, none⟩) (n + 1) cap)) := by
  obtain ⟨cs, hg⟩ := hq.gt
  have hgn : ¬ (Value.slice pa n pc).ownBlock = some g := fun e => own_apartX hq.own hg (by decide) e
  have fa : Fr (fun e => (Value.slice pa n pc).ownBlock = some e) wr w1 := (hL.fr.trans (below_fr hz (fun _ => False)) (fun _ e => e.elim)).trans h2 (fun _ e => .inl e)
  have hg1 := fa.heap hg hgn
  refine ⟨⟨fa.cell hq.gc hgn, frozen_of_row _ _ k _ _ hg1⟩, ?_⟩
  have hn : (K.iX k).length = n := by rw [hq.xl.2, hq.xl.1]
  have e : mI K k = (List.replicate n m).map (Value.int .i64) ++ [.int .i64 m] := by
    unfold mI; rw [hn, hq.me, List.replicate_succ', List.map_append]; rfl
  have hu : w1.ownsRow 0 3 1 (.slice (some ⟨b, 0, none⟩) ((K.iX k).length + 1) cap) ((K.iX k).length + 1) (mI K k) := by rw [hn, e]; exact h1
  have hh := H4.next (by decide) h hiv hk (by rw [hq.v]; exact fa) hu (by rw [hq.v]; exact h3.imp id (fun e => Nat.le_trans (Nat.le_trans hL.fr.size hz.size) e))
  rw [hn] at hh
  exact hh
end Go.Proofs.YtcbebalakdkgnaaGreatDoor

namespace Go.Proofs.YtcbebalakdkgnaaGreatDoor
open Go.RowKit Rec
section
variable {o : Oper} {ρ : Operand → Value} {w : World}
theorem ex_move {x : Operand} {v : Value} (ho : o.op = .move x) (hx : ρ x = v) : (execOp ρ o).run Tryz.prog w = .ok (.value v) w := by
  simp only [execOp, ho, hx, Sem.run_pure]
theorem ex_nil {x : Operand} {p : Addr} (ho : o.op = .nilCheck x) (hx : ρ x = .pointer (some p)) : (execOp ρ o).run Tryz.prog w = .ok (.value (.pointer (some p))) w := by
  simp only [execOp, ho, hx, Sem.run_pure]
theorem ex_field1 {x : Operand} {kb : Nat} (ho : o.op = .fieldAddr 41 x 1) (hx : ρ x = .pointer (some ⟨kb, 0, none⟩)) : (execOp ρ o).run Tryz.prog w = .ok (.value (.pointer (some ⟨kb, 1, none⟩))) w := by
  simp [execOp, ho, hx, go_sem]
theorem ex_load1 {x : Operand} {p : Addr} {a : Option Addr} {n c : Nat} (ho : o.op = .load 39 x) (hx : ρ x = .pointer (some p)) (hc : w.cell? p = some (.slice a n c)) : (execOp ρ o).run Tryz.prog w = .ok (.value (.slice a n c)) w := by
  simp [execOp, ho, hx, hc, go_sem]
theorem ex_index1 {x y : Operand} {g n c k : Nat} (ho : o.op = .indexAddr 39 x y) (hx : ρ x = .slice (some ⟨g, 0, none⟩) n c) (hy : ρ y = .int .i64 (k : Int)) (hk : k < n) : (execOp ρ o).run Tryz.prog w = .ok (.value (.pointer (some ⟨g, k, none⟩))) w := by
  have h1 : ¬ (k : Int) < 0 := by omega
  simp [execOp, ho, hx, hy, go_sem, hk]
theorem ex_sub {y : Operand} {k : Nat} {m : Int} (ho : o.op = .binOp .sub 3 (.const (.int .i64 (-1000))) y 3) (hc : ρ (.const (.int .i64 (-1000))) = .int .i64 (-1000)) (hy : ρ y = .int .i64 (k : Int)) (hk : k ≤ 1000000000000) (hm : (-1000 : Int) - (k : Int) = m) : (execOp ρ o).run Tryz.prog w = .ok (.value (.int .i64 m)) w := by
  have h1 : -9223372036854775808 ≤ (-1000 : Int) - (k : Int) ∧ (-1000 : Int) - (k : Int) ≤ 9223372036854775807 := by omega
  subst hm
  have h2 : IntKind.i64.wrap ((-1000 : Int) - (k : Int)) = (-1000 : Int) - (k : Int) := IntWalk.i64_in _ h1
  simp [execOp, ho, hc, hy, go_sem, h2]
theorem ex_loadI {x : Operand} {p : Addr} {a : Option Addr} {n c : Nat} (ho : o.op = .load 70 x) (hx : ρ x = .pointer (some p)) (hc : w.cell? p = some (.slice a n c)) : (execOp ρ o).run Tryz.prog w = .ok (.value (.slice a n c)) w := by
  simp [execOp, ho, hx, hc, go_sem]
theorem ex_buildI {x : Operand} {m : Int} (ho : o.op = .buildSlice 70 1 #[(0, x)]) (hx : ρ x = .int .i64 m) : (execOp ρ o).run Tryz.prog w = .ok (.value (.slice (some ⟨w.heap.size, 0, none⟩) 1 1)) (w.alloc (.cells #[.int .i64 m] 3)) := by
  simp [execOp, ho, hx, go_sem]
theorem ex_storeI {x y : Operand} {p : Addr} {v0 : Value} {pa : Option Addr} {n c : Nat} (ho : o.op = .store 70 x y) (hx : ρ x = .pointer (some p)) (hy : ρ y = .slice pa n c) (hc : w.cell? p = some v0) (hf : w.frozen? p = false) : (execOp ρ o).run Tryz.prog w = .ok .skip (w.setCell p (.slice pa n c)) := by
  simp [execOp, ho, hx, hy, hc, hf, go_sem]
end
section
variable {o : Oper} {a : Act} {w : World} {K : Act → World → Prop} {Q : Exit → Act → World → Prop}
theorem stw_load {x : Operand} {p : Addr} {pa : Option Addr} {n c : Nat} (ho : o.op = .load 70 x) (hx : a.eval x = .pointer (some p)) (hc : w.cell? p = some (.slice pa n c)) (d : Nat) (hd : o.dst = some d) (h : K (a.put (some d) (.slice pa n c)) w) : o.wp Tryz.prog a w K Q := by
  unfold Oper.wp
  rw [ex_loadI ho hx hc]
  rw [← hd] at h
  exact h
theorem stw_build {x : Operand} {m : Int} (ho : o.op = .buildSlice 70 1 #[(0, x)]) (hx : a.eval x = .int .i64 m) (d : Nat) (hd : o.dst = some d) (h : K (a.put (some d) (.slice (some ⟨w.heap.size, 0, none⟩) 1 1)) (w.alloc (.cells #[.int .i64 m] 3))) : o.wp Tryz.prog a w K Q := by
  unfold Oper.wp
  rw [ex_buildI ho hx]
  rw [← hd] at h
  exact h
theorem stw_store {x y : Operand} {p : Addr} {v0 : Value} {pa : Option Addr} {n c : Nat} (ho : o.op = .store 70 x y) (hx : a.eval x = .pointer (some p)) (hy : a.eval y = .slice pa n c) (hc : w.cell? p = some v0) (hf : w.frozen? p = false) (hd : o.dst = none) (h : K a (w.setCell p (.slice pa n c))) : o.wp Tryz.prog a w K Q := by
  unfold Oper.wp
  rw [ex_storeI ho hx hy hc hf]
  simp only [Oper.upon, hd]
  exact h
end
/-- a step that may be taken first, its slot by name -/
theorem tkH {P : Program} {md : Region.Mode} {ops : Array Oper} {Q : Exit → Act → World → Prop} {S : World → Prop} {i : Nat} {oi : Oper} {v : Value} (d : Nat) {fuel : Nat} {listed : Array Bool} {a : Act} {w : World} (hi : ops[i]? = some oi) (hd : oi.dst = some d)
    (hs : Region.noSelect ops = true) (hf : Region.free md ops listed i = true) (hr : (Region.ready md ops listed).contains i = true)
    (hQ : ∀ c a w, Q (.panic c) (a.put oi.dst v) w → Q (.panic c) a w) (hy : YieldsIf P ops S oi v a) (hS : S w)
    (h : wpAnyH P md ops Q S fuel (listed.setIfInBounds i true) (a.put (some d) v) w) : wpAnyH P md ops Q S (fuel + 1) listed a w :=
  wpAnyH_take hi hs hf hr hQ hy hS (by rw [hd]; exact h)
end Go.Proofs.YtcbebalakdkgnaaGreatDoor

namespace Go.Proofs.YtcbebalakdkgnaaGreatDoor
open Go.RowKit Rec

theorem KbI.rowI {w : World} {K : Kb} (h : KbI w K) {k : Nat} (hk : k < K.im) : ∃ g c g' c', K.iv = .slice (some ⟨g, 0, none⟩) K.im c ∧ K.tv = .slice (some ⟨g', 0, none⟩) K.im c' ∧ w.cell? ⟨g, k, none⟩ = some (K.iV k) ∧ w.cell? ⟨g', k, none⟩ = some (K.tV k) := by
  obtain ⟨g, c, e, _, _, _, h1⟩ := h.i.cell (fun _ => rfl) hk
  obtain ⟨g', c', e', _, _, _, h2⟩ := h.t.cell (fun _ => rfl) hk
  have z1 := h1 0 (by omega)
  have z2 := h2 0 (by omega)
  rw [Nat.mul_one, Nat.add_zero] at z1 z2
  exact ⟨g, c, g', c', e, e', z1, z2⟩
theorem KbI.kc {w : World} {K : Kb} (h : KbI w K) (j : Nat) : w.cell? ⟨K.kb, j, none⟩ = K.cells[j]? := cell_of_row _ _ j _ _ _ h.box
theorem ah6x {w wr wz wy w4 : World} {K : Kb} {lv u pV : Value} {i P b cap n pl : Nat} {V : Nat → Value} {m : Int} {kp : Bool} {x : List Int} (hK : KbI w K) (h : H3 w wr K lv i V)
    (hO : wr.ownsRow 0 5 1 pV pl ((heC x i).map (Value.int .u8)) ∧ K.bV i = pV ∧ mk8 i = m ∧ decide (i % 2 = 0) = kp ∧ K.bX i = x ∧ x.length = n ∧ (∀ j, 0 ≤ nth x j ∧ nth x j < 256) ∧ i < K.bn) (hA : Ah5 wr wz pV P u x n m kp) (hy : Below wz.heap.size wz wy)
    (h1 : w4.ownsRow 0 86 5 (.slice (some ⟨b, 0, none⟩) (i + 1) cap) (i + 1) ((List.range i).flatMap (fun j => heR (V j) (K.bX j) j) ++ [u, .int .i64 (n : Int), .int .u8 m, .string (strOfNums x), .bool kp])) (h2 : Fr (fun k => lv.ownBlock = some k) wy w4) (h3 : lv.ownBlock = some b ∨ wy.heap.size ≤ b) : H3 w w4 K (.slice (some ⟨b, 0, none⟩) (i + 1) cap) (i + 1) (up V i u) := by
  obtain ⟨_, e1, e2, e3, e4, e5, _, e7⟩ := hO
  subst e4 e1
  exact ah6 hK h e7 hA e5 e2 e3 hy h1 h2 h3
theorem stepw_own {o : Oper} {a : Act} {w : World} {K : Act → World → Prop} {Q : Exit → Act → World → Prop} (s x : Operand) (t : TypeId)
    (ho : o.op = .call { callee := .builtin .append, args := #[s, x], argTypes := #[t, t] }) (e : TypeId) (i0 : TypeInfo) (z : Value) (size bytes : Nat) (ht : Tryz.prog.underlying t = some (.slice e)) (hi : Tryz.prog.info? e = some i0) (hz : i0.zero = some z)
    (hsize : i0.size = size) (hby : i0.bytes = bytes) (hzs : z.cells.size = size) (hsz : 0 < size) (v : Value) (k : Nat) (xs : List Value) (hs : a.eval s = v) (hown : w.ownsRow 0 e size v k xs)
    (P : Nat) (hx : a.eval x = .slice (some ⟨P, 0, none⟩) 1 1) (news : List Value) (hl : news.length = size) (hP : w.heap[P]? = some (.cells news.toArray e (0, 0))) (h1 : ∀ u ∈ news, u.oneCell' = true) (h63 : k + 1 ≤ maxLen) (h47 : (k + 1) * bytes ≤ 140737488355328) (d : Nat) (hd : o.dst = some d)
    (h : ∀ g cap w', w'.ownsRow 0 e size (.slice (some ⟨g, 0, none⟩) (k + 1) cap) (k + 1) (xs ++ news) → Fr (fun k => v.ownBlock = some k) w w' → (v.ownBlock = some g ∨ w.heap.size ≤ g) → K (a.put (some d) (.slice (some ⟨g, 0, none⟩) (k + 1) cap)) w') :
    o.wp Tryz.prog a w K Q := by
  obtain ⟨g, cap, w', hr, h2, h3, hgb⟩ := run_own t o.type e i0 z size bytes ht hi hz hsize hby hzs hsz v k xs hown ⟨P, 0, none⟩ 1 1 news (by decide) (by omega) (news_of hP _ rfl) h1 h63 h47
  unfold Oper.wp
  simp only [execOp, ho, resolve, invoke, builtin, Sem.run_bind, Sem.run_pure, Result.andThen_ok, List.map_toArray, List.map_cons, List.map_nil, hs, hx, hr]
  have hh := h g cap w' h2 h3 hgb
  rw [← hd] at hh
  exact hh
def S1h (kb : Nat) (v : Value) (w : World) : Prop := w.cell? ⟨kb, 1, none⟩ = some v
structure Hi4 (w w4 : World) (K : Kb) (k g b bc2 : Nat) (pa : Option Addr) (n pc im ic kb : Nat) (V : Nat → Value) : Prop where
  c : w4.cell? ⟨g, k, none⟩ = some (.slice pa n pc)
  f : w4.frozen? ⟨g, k, none⟩ = false
  kc : w4.cell? ⟨kb, 1, none⟩ = some (.slice (some ⟨g, 0, none⟩) im ic)
  kd : S1h kb (.slice (some ⟨g, 0, none⟩) im ic) (w4.setCell ⟨g, k, none⟩ (.slice (some ⟨b, 0, none⟩) (n + 1) bc2))
  h : HI4 w (w4.setCell ⟨g, k, none⟩ (.slice (some ⟨b, 0, none⟩) (n + 1) bc2)) K (k + 1) (up V k (.slice (some ⟨b, 0, none⟩) (n + 1) bc2))
theorem hi4d {w wr wy wz w1 : World} {K : Kb} {V : Nat → Value} {k g im ic kb b cap : Nat} {pa : Option Addr} {n pc : Nat} {x : List Int} {m : Int} (h : HI4 w wr K k V) (hi : K.iv = .slice (some ⟨g, 0, none⟩) K.im ic ∧ k < K.im) (hq : IqS w wr K k g im ic kb pa n pc x m) (him : K.im = im) (hL : IqL wr wy pa n pc ((List.replicate n m).map (Value.int .i64))) (hz : Below wy.heap.size wy wz)
    (h1 : w1.ownsRow 0 3 1 (.slice (some ⟨b, 0, none⟩) (n + 1) cap) (n + 1) ((List.replicate n m).map (Value.int .i64) ++ [.int .i64 m])) (h2 : Fr (fun e => (Value.slice pa n pc).ownBlock = some e) wz w1) (h3 : (Value.slice pa n pc).ownBlock = some b ∨ wz.heap.size ≤ b) : Hi4 w w1 K k g b cap pa n pc im ic kb V := by
  subst him
  obtain ⟨⟨a1, a2⟩, a3⟩ := h.done hi.2 hq hi.1 hL hz h1 h2 h3
  have hbn : ¬ (Value.slice pa n pc).ownBlock = some kb := fun e => own_apartX hq.own hq.box (by decide) e
  have hgk : kb ≠ g := fun e => by
    obtain ⟨cs, hg⟩ := hq.gt
    rw [← e, hq.box] at hg
    injection hg with hg
    injection hg with _ hg _
    exact absurd hg (by decide)
  refine ⟨a1, a2, ?_, ?_, a3⟩
  rotate_left
  · exact (Fr.set (g := g)).cell (h2.cell ((below_fr hz (fun _ => False)).cell (hL.fr.cell hq.kc hbn) (fun e => e)) hbn) hgk
  exact h2.cell ((below_fr hz (fun _ => False)).cell (hL.fr.cell hq.kc hbn) (fun e => e)) hbn
end Go.Proofs.YtcbebalakdkgnaaGreatDoor

namespace Go.Proofs.YtcbebalakdkgnaaGreatDoor
open Go.RowKit Rec
theorem LV.congr {ty rs el sz : Nat} {w : World} {lv : Value} {n : Nat} {R : Nat → List Value} {V : Nat → Value} {M M' : Nat → Nat} {C C' : Nat → List Value} (h : LV ty rs el sz w lv n R V M C) (hM : ∀ j, j < n → M j = M' j) (hC : ∀ j, j < n → C j = C' j) : LV ty rs el sz w lv n R V M' C' :=
  ⟨h.row, fun i hi => by rw [← hM i hi, ← hC i hi]; exact h.ls i hi, h.ap⟩
structure HF (w : World) (K : Kb) (kb : Nat) (lv : Value) (V3 V4 : Nat → Value) : Prop where
  nl : NL w K lv K.bn V3
  i : LV 70 1 3 1 w K.iv K.im (fun j => [V4 j]) V4 (fun j => (K.iX j).length + 1) (mI K)
  box : w.heap[kb]? = some (.cells K.cells 41 (0, 0))
theorem HF.on {w w' : World} {K : Kb} {kb : Nat} {lv : Value} {V3 V4 : Nat → Value} (h : HF w K kb lv V3 V4) (hb : Below w.heap.size w w') : HF w' K kb lv V3 V4 := ⟨h.nl.on hb, h.i.on hb, (below_fr hb (fun _ => False)).heap h.box (fun e => e)⟩
theorem HF.of {w2 w3 w4 : World} {K : Kb} {kb : Nat} {lv : Value} {V3 V4 : Nat → Value} (hK : KbI w2 K) (h3 : H3 w2 w3 K lv K.bn V3) (hkb : K.kb = kb) (h4 : HI4 w3 w4 K K.im V4) : HF w4 K kb lv V3 V4 ∧ Fr K.all w2 w4 := by
  subst hkb
  have r3 := h3.rest hK
  have n4 := h3.nl.fr h4.fr (fun k e e2 => r3.1.sep h3.nl (by decide) (by decide) (by decide) (by decide) k e2 e)
  refine ⟨⟨n4, h4.l.congr (fun j hj => if_pos hj) (fun j hj => if_pos hj), h4.fr.heap r3.2 (fun e2 => r3.1.box r3.2 (by decide) (by decide) e2 rfl)⟩, ?_⟩
  exact (h3.fr.mono (fun k e => by obtain ⟨j, hj, e⟩ := e; exact .inr (.inl (.inr ⟨j, hj, e⟩)))).trans h4.fr (fun k e => .inl (.inr (.inr (.inl e))))
/-- a marked row of bytes -/
theorem HF.bcells {w : World} {K : Kb} {kb k : Nat} {lv : Value} {V3 V4 : Nat → Value} (h : HF w K kb lv V3 V4) (hk : k < K.bn) : ∃ g cap p pc n m, lv = .slice (some ⟨g, 0, none⟩) K.bn cap ∧ (K.bX k).length = n ∧ K.bn ≤ cap ∧ n + 3 ≤ pc ∧ w.cell? ⟨g, k * 5, none⟩ = some (.slice (some ⟨p, 0, none⟩) (n + 3) pc) ∧ w.cell? ⟨g, k * 5 + 1, none⟩ = some (.int .i64 (n : Int)) ∧ w.cell? ⟨g, k * 5 + 2, none⟩ = some (.int .u8 m) ∧ w.cell? ⟨g, k * 5 + 3, none⟩ = some (.string (strOfNums (K.bX k))) ∧ w.cell? ⟨g, k * 5 + 4, none⟩ = some (.bool (decide (k % 2 = 0))) ∧ ∀ w', Below w.heap.size w w' → ∀ r, r < n + 3 → w'.cell? ⟨p, r, none⟩ = some (.int .u8 m) := by
  obtain ⟨g, cap, e, h2, h3, _, hc⟩ := h.nl.cell (fun _ => rfl) hk
  have ho := h.nl.ls k hk
  obtain ⟨pa, pc, e1, e2, hpf, _⟩ := owns_slice ho
  obtain ⟨p, rfl⟩ := hpf.resolve_left (by omega)
  refine ⟨g, cap, p, pc, _, mk8 k, e, rfl, h2, e2, ?_, hc 1 (by omega), hc 2 (by omega), hc 3 (by omega), hc 4 (by omega), fun w' hb r hr => ?_⟩
  · rw [← e1]; exact hc 0 (by omega)
  · rw [e1] at ho
    have ho' := owns_fr ho (below_fr hb (fun _ => False)) (fun _ _ e => e)
    rw [ho'.cellAt r (by omega)]
    unfold mkB
    rw [List.getElem?_map, List.getElem?_replicate, if_pos hr]; rfl
/-- a marked row of numbers -/
theorem HF.icells {w : World} {K : Kb} {kb k : Nat} {lv : Value} {V3 V4 : Nat → Value} (h : HF w K kb lv V3 V4) (hk : k < K.im) : ∃ g cap p pc n m, K.iv = .slice (some ⟨g, 0, none⟩) K.im cap ∧ (K.iX k).length = n ∧ (-1000 : Int) - (k : Int) = m ∧ K.im ≤ cap ∧ n + 1 ≤ pc ∧ w.cell? ⟨kb, 1, none⟩ = some (.slice (some ⟨g, 0, none⟩) K.im cap) ∧ w.cell? ⟨g, k, none⟩ = some (.slice (some ⟨p, 0, none⟩) (n + 1) pc) ∧ ∀ r, r < n + 1 → w.cell? ⟨p, r, none⟩ = some (.int .i64 m) := by
  obtain ⟨g, cap, e, h2, h3, _, hc⟩ := h.i.cell (fun _ => rfl) hk
  have ho := h.i.ls k hk
  obtain ⟨pa, pc, e1, e2, hpf, _⟩ := owns_slice ho
  obtain ⟨p, rfl⟩ := hpf.resolve_left (by omega)
  have hg := hc 0 (by omega)
  rw [Nat.mul_one, Nat.add_zero] at hg
  refine ⟨g, cap, p, pc, _, _, e, rfl, rfl, h2, e2, by rw [← e]; exact cell_of_row _ _ 1 _ _ _ h.box, by rw [← e1]; exact hg, fun r hr => ?_⟩
  rw [e1] at ho
  rw [ho.cellAt r (by omega)]
  unfold mI
  rw [List.getElem?_map, List.getElem?_replicate, if_pos hr]; rfl
end Go.Proofs.YtcbebalakdkgnaaGreatDoor
