import Derived.Test.YtflienghgobmoaaGreatDoorKXsA
import Derived.Test.YtflienghgobmoaaGreatDoorKXmB
import Derived.Laws.OwnMore
import Derived.Test.YtflienghgobmoaaGreatDoorKMathR
import Derived.Test.YtflienghgobmoaaGreatDoorKMay
import Derived.Laws.ResultCell
import Derived.Deep.RegionHeld3
import Derived.Test.YtflienghgobmoaaGreatDoorKXsB
import Derived.Test.YtflienghgobmoaaGreatDoorKWFm
import Derived.Test.YtflienghgobmoaaGreatDoorKTxN0
import Derived.Test.YtflienghgobmoaaGreatDoorKFit
import Derived.Test.YtflienghgobmoaaGreatDoorKXsK
import Derived.Test.YtflienghgobmoaaGreatDoorKALasts
namespace Go.Proofs.YtflienghgobmoaaGreatDoor
open Go.RowKit Rec

theorem up_eq1 {α : Type} (f : Nat → α) (n : Nat) (v : α) : up f n v n = v := if_pos rfl
theorem up_ne {α : Type} (f : Nat → α) {n i : Nat} (v : α) (h : i ≠ n) : up f n v i = f i := if_neg h
/-- rows of two types lie in two blocks -/
theorem own_two {w : World} {B B' e e' sz sz' n n' : Nat} {v v' : Value} {xs xs' : List Value} (h : w.ownsRow B e sz v n xs) (h' : w.ownsRow B' e' sz' v' n' xs') (hne : e ≠ e') {b : Nat} (hb : v.ownBlock = some b) : v'.ownBlock ≠ some b := by
  intro hb'
  rcases h.2 with ⟨e1, _⟩ | ⟨g, cap, cur, e1, _, h1, _⟩
  · rw [e1] at hb; cases hb
  · rcases h'.2 with ⟨e2, _⟩ | ⟨g', cap', cur', e2, _, h2, _⟩
    · rw [e2] at hb'; cases hb'
    · rw [e1] at hb; rw [e2] at hb'
      cases hb; cases hb'
      rw [h1] at h2
      injection h2 with h2
      injection h2 with _ h3 _
      exact hne h3
/-- a row of lists, each with a block of its own: an element has rs cells in the row -/
structure LV (ty rs el sz : Nat) (w : World) (lv : Value) (n : Nat) (R : Nat → List Value) (V : Nat → Value) (M : Nat → Nat) (C : Nat → List Value) : Prop where
  row : w.ownsRow 0 ty rs lv n ((List.range n).flatMap R)
  ls : ∀ i, i < n → w.ownsRow 0 el sz (V i) (M i) (C i)
  ap : ∀ i j, i < n → j < n → i ≠ j → ∀ b, (V i).ownBlock = some b → (V j).ownBlock ≠ some b
/-- its blocks -/
def hasL (lv : Value) (n : Nat) (V : Nat → Value) (k : Nat) : Prop := lv.ownBlock = some k ∨ ∃ i, i < n ∧ (V i).ownBlock = some k
section
variable {ty rs el sz : Nat} {w w' : World} {lv : Value} {n : Nat} {R : Nat → List Value} {V : Nat → Value} {M : Nat → Nat} {C : Nat → List Value}
theorem LV.zero (w : World) : LV ty rs el sz w (.slice none 0 0) 0 R V M C := ⟨⟨by simp, .inl ⟨rfl, rfl⟩⟩, fun _ h => absurd h (Nat.not_lt_zero _), fun _ _ h => absurd h (Nat.not_lt_zero _)⟩
theorem LV.fr {S : Nat → Prop} (h : LV ty rs el sz w lv n R V M C) (x : Fr S w w') (hS : ∀ k, hasL lv n V k → ¬ S k) : LV ty rs el sz w' lv n R V M C :=
  ⟨owns_fr h.row x (fun k e => hS k (.inl e)), fun i hi => owns_fr (h.ls i hi) x (fun k e => hS k (.inr ⟨i, hi, e⟩)), h.ap⟩
theorem LV.on (h : LV ty rs el sz w lv n R V M C) (hb : Below w.heap.size w w') : LV ty rs el sz w' lv n R V M C := h.fr (below_fr hb (fun _ => False)) (fun _ _ e => e)
theorem LV.lt (h : LV ty rs el sz w lv n R V M C) {k : Nat} (hk : hasL lv n V k) : k < w.heap.size := by
  rcases hk with e | ⟨i, hi, e⟩
  · exact owns_block h.row e
  · exact owns_block (h.ls i hi) e
theorem flat_up (R : Nat → List Value) (k : Nat) (r : List Value) : (List.range (k + 1)).flatMap (up R k r) = (List.range k).flatMap R ++ r := by
  rw [List.range_succ, List.flatMap_append, List.flatMap_cons, List.flatMap_nil, List.append_nil, up_eq1]
  congr 1
  have : ∀ l : List Nat, (∀ i ∈ l, i ≠ k) → l.flatMap (up R k r) = l.flatMap R := fun l => by
    induction l with
    | nil => intro _; rfl
    | cons a l ih => intro h; rw [List.flatMap_cons, List.flatMap_cons, ih (fun i hi => h i (List.mem_cons_of_mem _ hi)), up_ne _ _ (h a List.mem_cons_self)]
  exact this _ (fun i hi => by have := List.mem_range.1 hi; omega)
/-- one list more -/
theorem LV.one {u : Value} {m b cap : Nat} {c r : List Value} (hne : ty ≠ el) (h : LV ty rs el sz w lv n R V M C) (hu : w.ownsRow 0 el sz u m c) (hap : ∀ i, i < n → ∀ b, (V i).ownBlock = some b → u.ownBlock ≠ some b)
    (h1 : w'.ownsRow 0 ty rs (.slice (some ⟨b, 0, none⟩) (n + 1) cap) (n + 1) ((List.range n).flatMap R ++ r)) (h2 : Fr (fun k => lv.ownBlock = some k) w w') :
    LV ty rs el sz w' (.slice (some ⟨b, 0, none⟩) (n + 1) cap) (n + 1) (up R n r) (up V n u) (up M n m) (up C n c) := by
  refine ⟨by rw [flat_up]; exact h1, fun i hi => ?_, fun i j hi hj hij x hx => ?_⟩
  · by_cases e : i = n
    · subst e; rw [up_eq1, up_eq1, up_eq1]; exact owns_fr hu h2 (fun x e1 e2 => own_two h.row hu hne e2 e1)
    · rw [up_ne _ _ e, up_ne _ _ e, up_ne _ _ e]; exact owns_fr (h.ls i (by omega)) h2 (fun x e1 e2 => own_two h.row (h.ls i (by omega)) hne e2 e1)
  · by_cases e : i = n
    · subst e
      rw [up_eq1] at hx
      rw [up_ne _ _ (fun e => hij e.symm)]
      exact fun e2 => hap j (by omega) x e2 hx
    · rw [up_ne _ _ e] at hx
      by_cases e2 : j = n
      · subst e2; rw [up_eq1]; exact hap i (by omega) x hx
      · rw [up_ne _ _ e2]; exact h.ap i j (by omega) (by omega) hij x hx
/-- one list is another, where it lies -/
theorem LV.put {k : Nat} {c : List Value} (hne : ty ≠ el) (h : LV ty rs el sz w lv n R V M C) (hk : k < n) (x : Fr (fun b => (V k).ownBlock = some b) w w') (ht : w'.ownsRow 0 el sz (V k) (M k) c) : LV ty rs el sz w' lv n R V M (up C k c) :=
  ⟨owns_fr h.row x (fun _ e1 e2 => own_two h.row (h.ls k hk) hne e1 e2), fun i hi => by
    by_cases e : i = k
    · subst e; rw [up_eq1]; exact ht
    · rw [up_ne _ _ e]; exact owns_fr (h.ls i hi) x (fun b e1 e2 => h.ap i k hi hk e b e1 e2), h.ap⟩
theorem flat_at (R : Nat → List Value) (rs : Nat) (n i j : Nat) (hR : ∀ i, (R i).length = rs) (hi : i < n) (hj : j < rs) : ((List.range n).flatMap R)[i * rs + j]? = (R i)[j]? := by
  induction n with
  | zero => omega
  | succ n ih =>
    have hl : ((List.range n).flatMap R).length = n * rs := by
      clear ih hi
      induction n with
      | zero => simp
      | succ n ih => rw [List.range_succ, List.flatMap_append, List.length_append, ih, List.flatMap_cons, List.flatMap_nil, List.append_nil, hR, Nat.succ_mul]
    rw [List.range_succ, List.flatMap_append, List.flatMap_cons, List.flatMap_nil, List.append_nil]
    by_cases e : i = n
    · subst e
      rw [List.getElem?_append_right (by omega), hl]
      congr 1; omega
    · rw [List.getElem?_append_left, ih (by omega)]
      rw [hl]
      have : i + 1 ≤ n := by omega
      have := Nat.mul_le_mul_right rs this
      rw [Nat.succ_mul] at this
      omega
/-- a row's cells -/
theorem LV.cell (h : LV ty rs el sz w lv n R V M C) (hR : ∀ i, (R i).length = rs) {i : Nat} (hi : i < n) : ∃ g cap, lv = .slice (some ⟨g, 0, none⟩) n cap ∧ n ≤ cap ∧ cap ≤ maxLen ∧ (∀ j, w.frozen? ⟨g, j, none⟩ = false) ∧ ∀ j, j < rs → w.cell? ⟨g, i * rs + j, none⟩ = (R i)[j]? := by
  have h0 := h.row
  rcases h.row.2 with ⟨_, e2⟩ | ⟨g, cap, cur, e, _, _, h2, h3, _⟩
  · omega
  · rw [e] at h0
    refine ⟨g, cap, e, h2, h3, fun j => h0.frozenAt j, fun j hj => ?_⟩
    rw [h0.cellAt (i * rs + j) (by have := Nat.mul_le_mul_right rs (show i + 1 ≤ n by omega); rw [Nat.succ_mul] at this; omega), flat_at R rs n i j hR hi hj]
end
end Go.Proofs.YtflienghgobmoaaGreatDoor

namespace Go.Proofs.YtflienghgobmoaaGreatDoor
open Go.RowKit Rec

end Go.Proofs.YtflienghgobmoaaGreatDoor

namespace Go.Proofs.YtflienghgobmoaaGreatDoor
open Go.RowKit Rec

section
variable {ty rs el sz : Nat} {w w' : World} {lv : Value} {n : Nat} {R : Nat → List Value} {V : Nat → Value} {M : Nat → Nat} {C : Nat → List Value}
/-- what changes a row of another type leaves it -/
theorem LV.oth (h : LV ty rs el sz w lv n R V M C) {v : Value} (x : Fr (fun b => v.ownBlock = some b) w w') {B e s k : Nat} {xs : List Value} (hv : w.ownsRow B e s v k xs) (h1 : e ≠ el) (h2 : e ≠ ty) : LV ty rs el sz w' lv n R V M C :=
  h.fr x (fun k hk e1 => by
    rcases hk with e2 | ⟨i, hi, e2⟩
    · exact own_two hv h.row h2 e1 e2
    · exact own_two hv (h.ls i hi) h1 e1 e2)
theorem LV.box (h : LV ty rs el sz w lv n R V M C) {p t : Nat} {cs : Array Value} {fz : Nat × Nat} (hp : w.heap[p]? = some (.cells cs t fz)) (h1 : t ≠ el) (h2 : t ≠ ty) {k : Nat} (hk : hasL lv n V k) : k ≠ p := fun e => by
  subst e
  rcases hk with e2 | ⟨i, hi, e2⟩
  · exact own_apartX h.row hp h2.symm e2
  · exact own_apartX (h.ls i hi) hp h1.symm e2
end
/-- no book: the number of blocks alone -/
structure Kb where
  kb : Nat
abbrev Kb.n (K : Kb) : Nat := K.kb
def Kb.all (_ : Kb) (_ : Nat) : Prop := False
def Kb.bn (_ : Kb) : Nat := 0
def Kb.im (_ : Kb) : Nat := 0
structure KbI (w : World) (K : Kb) : Prop where
  lo : 128 ≤ K.n
  hi : K.n ≤ 16384
theorem KbI.fr {S : Nat → Prop} {w w' : World} {K : Kb} (h : KbI w K) (_ : Fr S w w') (_ : ∀ k, K.all k → ¬ S k) : KbI w' K := ⟨h.lo, h.hi⟩
theorem KbI.on {w w' : World} {K : Kb} (h : KbI w K) (_ : Below w.heap.size w w') : KbI w' K := ⟨h.lo, h.hi⟩
theorem KbI.lt {w : World} {K : Kb} (_ : KbI w K) {k : Nat} (hk : K.all k) : k < w.heap.size := hk.elim
end Go.Proofs.YtflienghgobmoaaGreatDoor

namespace Go.Proofs.YtflienghgobmoaaGreatDoor
open Rec
open Crc (W)

/-- may a disk have so many blocks? -/
def isLen (n : Int) : Bool := decide (128 ≤ n ∧ n ≤ 16384)
/-- the regions -/
def gI (n : Int) : Int := 98 + (n + 4095) / 4096
def gD (n : Int) : Int := gI n + n / 64
def gC (n : Int) : Int := n / 64 * 8

theorem isLen_bd {n : Int} (h : isLen n = true) : 128 ≤ n ∧ n ≤ 16384 := of_decide_eq_true h
theorem isLen_yes {n : Int} (h : 128 ≤ n ∧ n ≤ 16384) : isLen n = true := decide_eq_true h
/-- the document's own number: two bytes -/
def rf (b : List Int) : Int := nth b 8 + nth b 9 * 256
end Go.Proofs.YtflienghgobmoaaGreatDoor

namespace Go.Proofs.YtflienghgobmoaaGreatDoor
open Go.RowKit Rec

theorem results_row_tmp7 {fn : Func} {p u : Tmp} {ty : TypeId} (h : fn.results = #[.cell p ty, .tmp u]) (tmps : Array Value) (w : World) (g : Nat) (cs : Array Value)
    (hp : tmps.getD p undef = .pointer (some ⟨g, 0, none⟩)) (hl : (loadVar ty ⟨g, 0, none⟩).run Tryz.prog w = .ok (.agg cs) w) :
    (results fn tmps).run Tryz.prog w = .ok (.tuple #[.agg cs, tmps.getD u undef]) w := by
  rw [results_cell_tmp h, hp]
  simp [asAddr, hl]
/-- a Geo -/
def geoV (n : Int) : Value := .agg #[.int .i64 n, .int .i64 98, .int .i64 (gI n), .int .i64 (gD n), .int .i64 (gC n)]
/-- what Bit answers, and Record -/
def bitA (n i : Int) : Array Value := if 0 ≤ i ∧ i < n then #[.int .i64 (98 + i / 4096), .int .i64 (i % 4096), .int .i64 0] else #[.int .i64 0, .int .i64 0, .int .i64 31]
theorem bitA_in {n i : Int} (h : 0 ≤ i ∧ i < n) : bitA n i = #[.int .i64 (98 + i / 4096), .int .i64 (i % 4096), .int .i64 0] := if_pos h
theorem bitA_out {n i : Int} (h : ¬ (0 ≤ i ∧ i < n)) : bitA n i = #[.int .i64 0, .int .i64 0, .int .i64 31] := if_neg h
set_option maxRecDepth 100000 in
set_option maxHeartbeats 1600000 in
theorem gbit_any (w : World) (n i : Int) (h : isLen n = true) (hi : -9223372036854775808 ≤ i ∧ i ≤ 9223372036854775807) : Calls Tryz.prog 108 #[geoV n, .int .i64 i] w fun e w' =>
    e = .returned (.tuple (bitA n i)) ∧ Below w.heap.size w w' := by
  have hb := isLen_bd h
  go_enter Tryz.func108, Tryz.ntmps108
  unfold geoV
  have hA : Hid (∀ o, Below w.heap.size w (w.alloc o)) := fun o => (Below.refl _ _).alloc (Nat.le_refl _) o
  by_cases h1 : i < 0
  · go_wp2
    go_ret3
    exact ⟨by rw [bitA_out (by omega)]; rfl, hA.out _⟩
  · by_cases h2 : n ≤ i
    · go_wp2
      go_ret3
      exact ⟨by rw [bitA_out (by omega)]; rfl, hA.out _⟩
    · go_wp2
      go_ret3
      exact ⟨by rw [bitA_in (by omega)]; rfl, hA.out _⟩
end Go.Proofs.YtflienghgobmoaaGreatDoor



namespace Go.Proofs.YtflienghgobmoaaGreatDoor
open Go.RowKit Rec
theorem lnCells_get (Q : List LnR) (r : List Value) (j : Nat) (q : LnR) (h : Q[j]? = some q) : (Q.flatMap LnR.cells ++ r)[j * 2]? = some (.int .i64 q.n) ∧ (Q.flatMap LnR.cells ++ r)[j * 2 + 1]? = some (.slice (some ⟨q.g, 0, none⟩) q.x.length q.c) := by
  induction Q generalizing j with
  | nil => simp at h
  | cons p Q ih =>
    rw [List.flatMap_cons, List.append_assoc]
    cases j with
    | zero => simp only [List.getElem?_cons_zero, Option.some.injEq] at h; subst h; exact ⟨rfl, rfl⟩
    | succ j =>
      rw [List.getElem?_cons_succ] at h
      have := ih j h
      rw [show (j + 1) * 2 = j * 2 + 2 by omega, show j * 2 + 2 + 1 = (j * 2 + 1) + 2 by omega]
      exact this
/-- what was lent, as it was -/
structure KpA (w : World) (g cap n : Nat) (Q : List LnR) : Prop where
  row : w.ownsRow 0 141 2 (.slice (some ⟨g, 0, none⟩) (n + 1) cap) (n + 1) (Q.flatMap LnR.cells ++ [.int .i64 (-7), .slice none 0 0])
  len : Q.length = n
  each : ∀ q ∈ Q, OwnB w q.g q.c (q.x ++ [77, 78, 79])
theorem KpA.fr {S : Nat → Prop} {w w' : World} {g cap n : Nat} {Q : List LnR} (h : KpA w g cap n Q) (x : Fr S w w') (hg : ¬ S g) (hq : ∀ q ∈ Q, ¬ S q.g) : KpA w' g cap n Q := ⟨owns_fr h.row x (fun k e => by cases e; exact hg), h.len, fun q hm => (h.each q hm).fr x (hq q hm)⟩
theorem KpA.on {w w' : World} {g cap n : Nat} {Q : List LnR} (h : KpA w g cap n Q) (hb : Below w.heap.size w w') : KpA w' g cap n Q := h.fr (below_fr hb (fun _ => False)) (fun e => e) (fun _ _ e => e)
theorem KpA.cell {w : World} {g cap n j : Nat} {Q : List LnR} {q : LnR} (h : KpA w g cap n Q) (hq : Q[j]? = some q) : w.cell? ⟨g, j * 2, none⟩ = some (.int .i64 q.n) ∧ w.cell? ⟨g, j * 2 + 1, none⟩ = some (.slice (some ⟨q.g, 0, none⟩) q.x.length q.c) := by
  obtain ⟨h1, h2⟩ := lnCells_get Q [.int .i64 (-7), .slice none 0 0] j q hq
  have hl := (List.getElem?_eq_some_iff.1 hq).1
  have := h.len
  constructor
  · rw [h.row.cellAt (j * 2) (by omega), h1]
  · rw [h.row.cellAt (j * 2 + 1) (by omega), h2]
theorem KpA.last {w : World} {g cap n : Nat} {Q : List LnR} (h : KpA w g cap n Q) : w.cell? ⟨g, n * 2, none⟩ = some (.int .i64 (-7)) := by
  rw [h.row.cellAt (n * 2) (by omega), List.getElem?_append_right (by rw [lnCells_len, h.len]; exact Nat.le_refl _), lnCells_len, h.len, Nat.sub_self]; rfl
/-- behind the first append -/
structure Du1 (w w1 : World) (v : Value) (m : Nat) (x : List Int) : Prop where
  own : w1.ownsRow 0 5 1 v m (x.map (Value.int .u8))
  far : ∀ k, v.ownBlock = some k → w.heap.size ≤ k
  bel : Below w.heap.size w w1
theorem Du1.on {w w1 w2 : World} {v : Value} {m : Nat} {x : List Int} (h : Du1 w w1 v m x) (hb : Below w1.heap.size w1 w2) : Du1 w w2 v m x := ⟨owns_on h.own hb, h.far, h.bel.trans (hb.mono h.bel.size)⟩
end Go.Proofs.YtflienghgobmoaaGreatDoor

namespace Go.Proofs.YtflienghgobmoaaGreatDoor
open Go.RowKit Rec
theorem keep_settle (a : AD) (kp : Nat → Bool) : (a.settle kp).keep = a.keep := rfl
theorem keep_cut (a : AD) (kp : Nat → Bool) : (a.cut kp).keep = a.keep := rfl
theorem keep_tick (a : AD) : a.tick.keep = a.keep := by unfold AD.tick; split <;> rfl
theorem keep_write (a : AD) (i : Nat) (x : List Int) : (a.write i x).keep = a.keep := by
  unfold AD.write
  simp only []
  split
  · rfl
  · rw [keep_tick]
theorem keep_flush (a : AD) : a.flush.keep = a.keep := by
  unfold AD.flush
  simp only []
  split
  · rfl
  · rw [keep_settle]; show AD.keep (AD.tick _) = _; rw [keep_tick]
theorem keep_act (a : AD) (t : WA) : (a.act t).keep = a.keep := by
  cases t with
  | none => exact keep_flush a
  | some p => exact keep_write a p.1 p.2
theorem keep_take (xs : List WA) (a : AD) : (a.take xs).keep = a.keep := by
  induction xs generalizing a with
  | nil => rfl
  | cons t r ih =>
    rw [AD.take]
    split
    · rfl
    · split
      · exact keep_act a t
      · rw [ih, keep_act]
def LnR.bk (q : LnR) : Bk := ⟨q.n, q.g, q.c, q.x⟩
theorem WS.roomN {w0 w : World} {D : Dk} {R : RDk} {j : Nat} (h : WS w0 w D R j) (hj : j + 200 ≤ 1000000000) (n : Nat) (hn : n ≤ 200) : RoomN D.abs n := by
  obtain ⟨h1, h2, h3, h4⟩ := h.lens
  have h5 := h.kd
  exact ⟨by omega, by omega, by omega, by omega, by show D.keep.length ≤ _; omega⟩
/-- what was told, and what it was -/
structure TB where
  a : Option Addr
  c : Nat
  x : List Int
def TB.v (q : TB) : Value := .slice q.a q.x.length q.c
def TB.s (q : TB) : Value := .string (strOfNums q.x)
end Go.Proofs.YtflienghgobmoaaGreatDoor

namespace Go.Proofs.YtflienghgobmoaaGreatDoor
open Go.RowKit Rec
theorem WS.up {w0 w : World} {D : Dk} {R : RDk} {j j' : Nat} (h : WS w0 w D R j) (hj : j ≤ j') : WS w0 w D R j' := ⟨h.d, h.t.up hj, h.ap, h.new, h.be, h.kd⟩
end Go.Proofs.YtflienghgobmoaaGreatDoor

namespace Go.Proofs.YtflienghgobmoaaGreatDoor
open Go.RowKit Rec
/-- what Behind answers, in one word -/
def bhX (a : AD) : List Int := if opE a = 0 then behind a.full a.nb else []
structure Tl (w : World) (lo : Nat) (pa : Option Addr) (c : Nat) (x : List Int) : Prop where
  own : w.ownsRow 0 5 1 (.slice pa x.length c) x.length (x.map (Value.int .u8))
  far : ∀ k, (Value.slice pa x.length c).ownBlock = some k → lo ≤ k
  wf : ∀ i, 0 ≤ nth x i ∧ nth x i < 256
theorem Tl.on {w w' : World} {lo c : Nat} {pa : Option Addr} {x : List Int} (h : Tl w lo pa c x) (hb : Below w.heap.size w w') : Tl w' lo pa c x := ⟨owns_on h.own hb, h.far, h.wf⟩
theorem Tl.pt {w : World} {lo c : Nat} {pa : Option Addr} {x : List Int} (h : Tl w lo pa c x) (hx : x.length ≤ 1000000000000000) : (x = [] ∧ pa = none ∧ c = 0) ∨ ∃ g, pa = some ⟨g, 0, none⟩ ∧ OwnB w g c x ∧ lo ≤ g := by
  rcases h.own.2 with ⟨e, h0⟩ | ⟨g, cap, cur, e, _⟩
  · injection e with e1 e2 e3
    exact .inl ⟨List.eq_nil_of_length_eq_zero h0, e1, e3⟩
  · injection e with e1 e2 e3
    subst e1 e3
    exact .inr ⟨g, rfl, ownB_of h.own rfl hx h.wf, h.far g rfl⟩
theorem Tl.bytes {w : World} {lo c : Nat} {pa : Option Addr} {x : List Int} (h : Tl w lo pa c x) (hx : x.length ≤ 1000000000000000) : Bytes w pa x := by
  rcases h.pt hx with ⟨rfl, rfl, _⟩ | ⟨g, rfl, ho, _⟩
  · exact nil_bytes w
  · exact ho.bytes
def BhQ (w : World) (n : Nat) (x : List Int) (E : Int) (e : Ending) (w' : World) : Prop := ∃ pa c, e = .returned (.tuple #[.slice pa n c, .int .i64 E]) ∧ Tl w' w.heap.size pa c x ∧ Below w.heap.size w w'
theorem BhP.q {w w' : World} {a : AD} {e : Ending} (_hn : a.nb ≤ 16384) (hl : a.down = false → a.full.length = 512 * a.nb) (h : BhP w a e w') : BhQ w (bhX a).length (bhX a) (opE a) e w' := by
  unfold bhX
  rcases h with ⟨h1, rfl, hb⟩ | ⟨h1, g, cap, rfl, ho, hg, hb⟩
  · rw [if_neg h1]
    exact ⟨none, 0, rfl, ⟨⟨rfl, .inl ⟨rfl, rfl⟩⟩, fun k e => (by cases e), fun i => (by simp [nth])⟩, hb⟩
  · rw [if_pos h1]
    have hd : a.down = false := by
      cases e : a.down with
      | false => rfl
      | true => unfold opE at h1; rw [e] at h1; simp at h1
    have hlen : (behind a.full a.nb).length = 512 * a.nb := by rw [behind_length]; exact hl hd
    rw [h1]
    exact ⟨_, cap, by rw [hlen], ⟨owns_of ho (Nat.zero_le _), fun k e => (by cases e; exact hg), ho.wf⟩, hb⟩
end Go.Proofs.YtflienghgobmoaaGreatDoor

namespace Go.Proofs.YtflienghgobmoaaGreatDoor
open Go.RowKit Rec
/-- the document's disk, new -/
def newR (r nb g cap : Nat) (l : List Int) : RDk := { r := r, nb := nb, gf := g, cf := cap, f := l, av := .slice none 0 0, L := [], kv := .slice none 0 0, keep := [], left := 0, out := false, wr := 0, fl := 0 }
theorem newR_disk {w : World} {r nb g cap : Nat} {l : List Int} (hb : w.heap[r]? = some (.cells (newR r nb g cap l).cells 52 (0, 0))) (ho : OwnB w g cap l) (hl : l.length = 512 * nb) (h0 : 1 ≤ nb) (h1 : nb ≤ 16384) : RDisk w (newR r nb g cap l) :=
  ⟨hb, ho, hl, ⟨h0, h1⟩, ⟨rfl, .inl ⟨rfl, rfl⟩⟩, (fun _ h => by cases h), ⟨rfl, .inl ⟨rfl, rfl⟩⟩, (by show 0 ≤ _; omega), Int.le_refl _⟩
theorem newR_all {r nb g cap : Nat} {l : List Int} {k : Nat} (h : (newR r nb g cap l).all k) : k = r ∨ k = g := by
  rcases h with e | e | e | e | ⟨q, hq, _⟩
  · exact .inl e
  · exact .inr e
  · cases e
  · cases e
  · cases hq
theorem newDk_each {d L nw capL nb : Nat} {l : List Int} {k : Nat} (h : (newDk d L nw capL nb l).all k) : k = d ∨ k = L ∨ k = nw := by
  rcases h with (e | e | e | e | e) | e | ⟨_, hp, _⟩ | ⟨_, hp, _⟩
  · exact .inl e
  · exact .inr (.inl e)
  · exact .inr (.inr e)
  · cases e
  · cases e
  · cases e
  · cases hp
  · cases hp
theorem new_tie (d L nw capL nb r g cap : Nat) (l : List Int) : Tie (newDk d L nw capL nb l).abs (newR r nb g cap l) :=
  ⟨rfl, rfl, rfl, rfl, rfl, (fun i hi => absurd hi (Nat.not_lt_zero _)), fun _ => ⟨rfl, rfl, .inl ⟨Int.le_refl _, rfl⟩⟩, (fun e => by cases e)⟩
/-- a new disk of the document's -/
def OfR (w : World) (nb : Nat) (l : List Int) (e : Ending) (w' : World) : Prop := ∃ r g cap, e = .returned (.tuple #[.pointer (some ⟨r, 0, none⟩), .int .i64 0]) ∧ w.heap.size ≤ r ∧ w.heap.size ≤ g ∧ RDisk w' (newR r nb g cap l) ∧ Below w.heap.size w w'
set_option maxRecDepth 100000 in
set_option maxHeartbeats 800000 in
theorem of_yesR (w : World) (p : Addr) (c nb : Nat) (l : List Int) (hb : Bytes w (some p) l) (hn : l.length = 512 * nb) (h0 : 1 ≤ nb) (h1 : nb ≤ 16384) :
    Calls Tryz.prog 7 #[.slice (some p) (512 * nb : Nat) c] w (OfR w nb l) := by
  have HI : Hid (Bytes w (some p) l) := hb
  have HN : Hid (l.length = 512 * nb) := hn
  clear hb hn
  have hz : ((512 * (nb : Int)) == 0) = false := by rw [beq_eq_false_iff_ne]; omega
  have hz2 : ¬ 512 * (nb : Int) = 0 := by omega
  go_enter Tryz.func7, Tryz.ntmps7
  go_wp2_with (go_at_call 20; refine (copied_any _ p (512 * nb) c l HI.out HN.out (by omega) (by omega)).mono ?_; rintro e w1 ⟨g, cap, rfl, hg, ho, hb⟩; have H1 : Hid (w.heap.size ≤ g ∧ OwnB w1 g cap l ∧ Below w.heap.size w w1) := ⟨hg, ho, hb⟩; clear hg ho hb)
  go_ret2
  have ha : Below w1.heap.size w1 (w1.alloc (.cells (newR w1.heap.size nb g cap l).cells 52)) := (Below.refl _ _).alloc (Nat.le_refl _) _
  exact ⟨w1.heap.size, g, cap, rfl, H1.out.2.2.size, H1.out.1, newR_disk (heap_alloc_new w1 _) (H1.out.2.1.on ha) HN.out h0 h1, H1.out.2.2.alloc H1.out.2.2.size _⟩
theorem new_rt {w : World} {d L nw capL nb r g cap j : Nat} {l : List Int} (h : RDisk w (newR r nb g cap l)) : RT w (newDk d L nw capL nb l).abs (newR r nb g cap l) j :=
  ⟨h, new_tie _ _ _ _ _ _ _ _ _, Nat.zero_le _, (by show (0 : Int) ≤ _; omega), (by show (0 : Int) ≤ _; omega), Nat.zero_le _, (by show (0 : Int) ≤ _; omega)⟩
/-- two new disks -/
structure NewW (w w' : World) (D : Dk) (R : RDk) (j : Nat) : Prop where
  d : Disk w' D
  t : RT w' D.abs R j
  ap : ∀ k, D.all k → ¬ R.all k
  nd : ∀ k, D.all k ∨ R.all k → w.heap.size ≤ k
  be : Below w.heap.size w w'
  kd : D.keep.length ≤ 1000000000000000
theorem new_ww {w w1 w2 w3 w4 : World} {d L nw capL nb r g cap j : Nat} {l : List Int} (h1 : w1.heap.size ≤ d ∧ w1.heap.size ≤ nw ∧ w1.heap.size ≤ L) (hD : Disk w2 (newDk d L nw capL nb l)) (h3 : w3.heap.size ≤ r ∧ w3.heap.size ≤ g) (hR : RDisk w4 (newR r nb g cap l)) (b1 : Below w.heap.size w w1) (b2 : Below w1.heap.size w1 w2) (b3 : Below w2.heap.size w2 w3) (b4 : Below w3.heap.size w3 w4) : NewW w w4 (newDk d L nw capL nb l) (newR r nb g cap l) j := by
  have s1 := b1.size
  have s2 := b2.size
  have s3 := b3.size
  have l1 : d < w2.heap.size := hD.ltAll (.inl (.inl rfl))
  have l2 : L < w2.heap.size := hD.ltAll (.inl (.inr (.inl rfl)))
  have l3 : nw < w2.heap.size := hD.ltAll (.inl (.inr (.inr (.inl rfl))))
  refine ⟨(hD.on b3).on b4, new_rt hR, fun k e e2 => ?_, fun k e => ?_, b1.trans ((b2.trans ((b3.trans (b4.mono b3.size)).mono b2.size)).mono b1.size), Nat.zero_le _⟩
  · rcases newDk_each e with e | e | e <;> rcases newR_all e2 with e2 | e2 <;> omega
  · rcases e with e | e
    · rcases newDk_each e with e | e | e <;> omega
    · rcases newR_all e with e | e <;> omega
end Go.Proofs.YtflienghgobmoaaGreatDoor

namespace Go.Proofs.YtflienghgobmoaaGreatDoor
open Go.RowKit Rec
/-- blocks of several owners, none of two -/
def Sep (A : Nat → Nat → Prop) : Prop := ∃ lab : Nat → Nat, ∀ i k, A i k → lab k = i
theorem Sep.ne {A : Nat → Nat → Prop} (h : Sep A) {i j k : Nat} (hij : i ≠ j) (h1 : A i k) : ¬ A j k := fun h2 => by
  obtain ⟨lab, hl⟩ := h
  exact hij ((hl i k h1).symm.trans (hl j k h2))
theorem Sep.step {A A' : Nat → Nat → Prop} (N : Nat → Prop) (h : Sep A) (hA : ∀ i k, A' i k → A i k ∨ N k) (hn : ∀ i i' k, N k → A' i k → A' i' k → i = i') : Sep A' := by
  obtain ⟨lab, hl⟩ := h
  classical
  refine ⟨fun k => if N k then (if hx : ∃ i, A' i k then hx.choose else 0) else lab k, fun i k hk => ?_⟩
  dsimp only
  by_cases hN : N k
  · rw [if_pos hN, dif_pos ⟨i, hk⟩]
    have hx : ∃ i, A' i k := ⟨i, hk⟩
    exact hn _ _ k hN hx.choose_spec hk
  · rw [if_neg hN]
    exact hl i k ((hA i k hk).resolve_right hN)
/-- a disk whose log is empty, or, without power, good -/
structure Rs (a : AD) : Prop where
  len : a.las.length = 512 * a.nb
  pen : a.P = []
  up : a.down = false → bck a.las 1 = zs
  dn : a.down = true → ∃ W, Well a.nb W a.las
theorem Rs.nb98 {a : AD} (h : Rs a) (hd : a.down = true) : 98 ≤ a.nb := by
  obtain ⟨W, hW⟩ := h.dn hd
  have := hW.ok
  unfold logE at this
  by_cases h9 : a.nb < 98
  · rw [if_pos h9] at this; exact absurd this (by decide)
  · omega
theorem Rs.full {a : AD} (h : Rs a) : a.full = a.las := by rw [AD.full_fw, h.pen]; rfl
/-- a commit leaves it so -/
theorem Rs.commit {a : AD} {ns : List Int} {ds : List (List Int)} (h : Rs a) (ok : ComOk a.nb ns ds) : Rs (a.take (commitA ns ds)) := by
  have hnb : (a.take (commitA ns ds)).nb = a.nb := take_nb _ _
  by_cases hd : a.down = true
  · have e : a.take (commitA ns ds) = a := by
      obtain ⟨t, xs, e⟩ : ∃ t xs, commitA ns ds = t :: xs := by
        cases e : commitA ns ds with
        | nil => unfold commitA at e; simp at e
        | cons t xs => exact ⟨t, xs, rfl⟩
      rw [e]; exact (take_down a t xs hd).2
    rw [e]; exact h
  · have hd' : a.down = false := by cases e : a.down with | true => exact absurd e hd | false => rfl
    obtain ⟨t1, t2⟩ := take_commit a a.nb ns ds ok h.len (h.up hd') h.pen hd'
    by_cases hc : 1 ≤ a.at_ ∧ a.at_ ≤ 2 * (ns.length : Int) + 6
    · obtain ⟨_, e2, e3, _, e5⟩ := t2 hc
      exact ⟨by rw [hnb]; exact e5.len, e3, (fun e => by rw [e2] at e; cases e), fun _ => ⟨_, by rw [hnb]; exact e5⟩⟩
    · obtain ⟨e1, _, e3, e5⟩ := t1 hc
      have h98 : 98 ≤ a.nb := ok.n98
      refine ⟨by rw [hnb]; exact e5.len, by rw [e1]; rfl, fun _ => ?_, fun e => ?_⟩
      · rw [e3, behind_one _ _ (headed_log ok h.len).1 h98]
      · rw [e1] at e; exact absurd e (by show ¬ a.down = true; exact hd)
/-- what Behind says of such an image -/
theorem Rs.behind {a : AD} (h : Rs a) (hd : a.down = true) (hw : ∀ i, 0 ≤ nth a.las i ∧ nth a.las i < 256) : (nth a.las 512 = 0 ∧ behind a.las a.nb = a.las) ∨ ∃ k, Lg6 a.las a.nb k ∧ Rec.wr (fw a.las (hm6 a.las k)) 1 zs = behind a.las a.nb := by
  obtain ⟨W, hW⟩ := h.dn hd
  rcases log6 h.len (h.nb98 hd) hW.ok hw with e | ⟨h0, h1, h2, h3, h4⟩
  · exact .inl e
  · refine .inr ⟨_, ⟨h.nb98 hd, h0, h1, h2, fun i hi => ?_⟩, ?_⟩
    · obtain ⟨q1, q2, q3⟩ := h3 i hi
      rw [q1]; exact ⟨q2, q3⟩
    · rw [h4]; rfl
end Go.Proofs.YtflienghgobmoaaGreatDoor

namespace Go.Proofs.YtflienghgobmoaaGreatDoor
open Go.RowKit Rec
/-- who has which blocks -/
def cps (D : Dk) (R : RDk) (T : Tx) (U : RTx) (K : Kb) (P : Nat) : Nat → Nat → Prop
  | 0, k => D.all k
  | 1, k => R.all k
  | 2, k => T.all k
  | 3, k => U.all k
  | 4, k => K.all k
  | 5, k => k = P
  | _, _ => False
structure TP (w : World) (T : Tx) (U : RTx) (D : Dk) : Prop where
  live : U.ends = false → TxAt w T ∧ D.d = T.d ∧ D.nb = T.nb ∧ TU T U
  over : U.ends = true → OverAt w T.t
  lt : ∀ k, T.all k → k < w.heap.size
theorem TP.fr {S : Nat → Prop} {w w' : World} {T : Tx} {U : RTx} {D D' : Dk} (h : TP w T U D) (x : Fr S w w') (hS : ∀ k, T.all k → ¬ S k) (hd : D'.d = D.d) (hn : D'.nb = D.nb) : TP w' T U D' :=
  ⟨fun e => by obtain ⟨h1, h2, h3, h4⟩ := h.live e; exact ⟨h1.fr x hS, hd.trans h2, hn.trans h3, h4⟩, fun e => x.heap (h.over e) (hS _ (.inl (.inl rfl))), fun k hk => Nat.lt_of_lt_of_le (h.lt k hk) x.size⟩
def sdC (D : Dk) (R : RDk) (T : Tx) (U : RTx) (K : Kb) : Array Value := #[.pointer (some ⟨D.d, 0, none⟩), .pointer (some ⟨R.r, 0, none⟩), .pointer (some ⟨T.t, 0, none⟩), .pointer (some ⟨U.u, 0, none⟩), .int .i64 (K.n : Int), .int .i64 98, .int .i64 (gI K.n), .int .i64 (gD K.n), .int .i64 (gC K.n)]
/-- all that the law has -/
structure XS (w0 w : World) (P : Nat) (D : Dk) (R : RDk) (T : Tx) (U : RTx) (K : Kb) (j : Nat) : Prop where
  ws : WS w0 w D R (200 * j)
  rs : Rs D.abs
  tp : TP w T U D
  ux : RTxAt w U
  ur : U.r = R.r
  ul : U.row.length ≤ j
  bk : KbI w K
  bn : K.bn ≤ 2 * j
  im : K.im ≤ 2 * j
  px : w.heap[P]? = some (.cells (sdC D R T U K) 42 (0, 0))
  sep : Sep (cps D R T U K P)
  far : ∀ i k, cps D R T U K P i k → w0.heap.size ≤ k
variable {w0 w w' : World} {P j j' : Nat} {D D' : Dk} {R R' : RDk} {T T' : Tx} {U U' : RTx} {K K' : Kb}
theorem XS.lt (h : XS w0 w P D R T U K j) : ∀ i k, cps D R T U K P i k → k < w.heap.size
  | 0, k, e => h.ws.lt (.inl e)
  | 1, k, e => h.ws.lt (.inr e)
  | 2, k, e => h.tp.lt k e
  | 3, k, e => h.ux.lt e
  | 4, k, e => h.bk.lt e
  | 5, k, e => by have e : k = P := e; rw [e]; exact heap_lt h.px
  | _ + 6, k, e => e.elim
theorem XS.on (h : XS w0 w P D R T U K j) (hb : Below w.heap.size w w') : XS w0 w' P D R T U K j :=
  ⟨h.ws.on hb, h.rs, h.tp.fr (below_fr hb (fun _ => False)) (fun _ _ e => e) rfl rfl, h.ux.on hb, h.ur, h.ul, h.bk.on hb, h.bn, h.im, (hb.block _ (heap_lt h.px)).trans h.px, h.sep, h.far⟩
theorem XS.up (h : XS w0 w P D R T U K j) (hj : j ≤ j') : XS w0 w P D R T U K j' :=
  ⟨h.ws.up (by omega), h.rs, h.tp, h.ux, h.ur, Nat.le_trans h.ul hj, h.bk, by have := h.bn; omega, by have := h.im; omega, h.px, h.sep, h.far⟩
theorem XS.cell (h : XS w0 w P D R T U K j) (i : Nat) : w.cell? ⟨P, i, none⟩ = (sdC D R T U K)[i]? := cell_of_row _ _ i _ _ _ h.px
/-- disks and transactions go on -/
theorem XS.gen (h : XS w0 w P D R T U K j) (hF : Fr (fun k => ∃ i, i ≤ 3 ∧ cps D R T U K P i k) w w') (hws : WS w0 w' D' R' (200 * j')) (hrs : Rs D'.abs) (htp : TP w' T' U' D') (hux : RTxAt w' U') (hur : U'.r = R'.r) (hul : U'.row.length ≤ j') (hj : j ≤ j') (hd : D'.d = D.d) (hr : R'.r = R.r) (ht : T'.t = T.t) (hu : U'.u = U.u)
    (al : ∀ i k, i ≤ 3 → cps D' R' T' U' K P i k → cps D R T U K P i k ∨ w.heap.size ≤ k) (hn : ∀ i i' k, i ≤ 3 → i' ≤ 3 → w.heap.size ≤ k → cps D' R' T' U' K P i k → cps D' R' T' U' K P i' k → i = i') : XS w0 w' P D' R' T' U' K j' := by
  have hA : ∀ i k, cps D' R' T' U' K P i k → cps D R T U K P i k ∨ w.heap.size ≤ k := fun i k e => by
    by_cases hi : i ≤ 3
    · exact al i k hi e
    · match i, hi, e with
      | 4, _, e => exact .inl e
      | 5, _, e => exact .inl e
      | _ + 6, _, e => exact e.elim
  have hlow : ∀ i k, ¬ i ≤ 3 → cps D' R' T' U' K P i k → k < w.heap.size := fun i k hi e => h.lt i k (by
    match i, hi, e with
    | 4, _, e => exact e
    | 5, _, e => exact e
    | _ + 6, _, e => exact e.elim
    | 0, hi, _ => omega
    | 1, hi, _ => omega
    | 2, hi, _ => omega
    | 3, hi, _ => omega)
  have hkeep : ∀ i k, ¬ i ≤ 3 → cps D R T U K P i k → ¬ ∃ i, i ≤ 3 ∧ cps D R T U K P i k := fun i k hi e ⟨i', hi', e'⟩ => h.sep.ne (i := i) (j := i') (by omega) e e'
  refine ⟨hws, hrs, htp, hux, hur, hul, h.bk.fr hF (fun k e => hkeep 4 k (by omega) e), by have := h.bn; omega, by have := h.im; omega, ?_, h.sep.step (fun k => w.heap.size ≤ k) hA (fun i i' k hk e e' => ?_), fun i k e => ?_⟩
  · have : sdC D' R' T' U' K = sdC D R T U K := by unfold sdC; rw [hd, hr, ht, hu]
    rw [this]
    exact hF.heap h.px (hkeep 5 P (by omega) rfl)
  · by_cases hi : i ≤ 3
    · by_cases hi' : i' ≤ 3
      · exact hn i i' k hi hi' hk e e'
      · have := hlow i' k hi' e'; omega
    · have := hlow i k hi e; omega
  · rcases hA i k e with e | e
    · exact h.far i k e
    · exact Nat.le_trans h.ws.be.size e
/-- the transactions alone -/
theorem XS.tu (h : XS w0 w P D R T U K j) (hF : Fr (fun k => T.all k ∨ U.all k) w w') (htp : TP w' T' U' D) (hux : RTxAt w' U') (hul : U'.row.length ≤ j') (hj : j ≤ j') (ht : T'.t = T.t) (hu : U'.u = U.u) (hr : U'.r = U.r) (a1 : ∀ k, T'.all k → T.all k ∨ w.heap.size ≤ k) (a2 : ∀ k, U'.all k → U.all k ∨ w.heap.size ≤ k) (hn : ∀ k, w.heap.size ≤ k → T'.all k → ¬ U'.all k) : XS w0 w' P D R T' U' K j' := by
  have hD : ∀ k, D.all k ∨ R.all k → ¬ (T.all k ∨ U.all k) := fun k e e' => by
    rcases e with e | e <;> rcases e' with e' | e'
    · exact h.sep.ne (i := 0) (j := 2) (by omega) e e'
    · exact h.sep.ne (i := 0) (j := 3) (by omega) e e'
    · exact h.sep.ne (i := 1) (j := 2) (by omega) e e'
    · exact h.sep.ne (i := 1) (j := 3) (by omega) e e'
  refine h.gen (hF.mono (fun k e => e.elim (fun e => ⟨2, by omega, e⟩) (fun e => ⟨3, by omega, e⟩))) ((h.ws.fr hF hD (fun k e => e.elim (fun e => h.far 2 k e) (fun e => h.far 3 k e))).up (by omega)) h.rs htp hux (by rw [hr, h.ur]) hul hj rfl rfl ht hu (fun i k hi e => ?_) (fun i i' k hi hi' hk e e' => ?_)
  · match i, hi, e with
    | 0, _, e => exact .inl e
    | 1, _, e => exact .inl e
    | 2, _, e => exact a1 k e
    | 3, _, e => exact a2 k e
  · have l0 : ¬ D.all k := fun e => by have := h.lt 0 k e; omega
    have l1 : ¬ R.all k := fun e => by have := h.lt 1 k e; omega
    match i, i', hi, hi', e, e' with
    | 0, _, _, _, e, _ => exact absurd e l0
    | 1, _, _, _, e, _ => exact absurd e l1
    | _, 0, _, _, _, e' => exact absurd e' l0
    | _, 1, _, _, _, e' => exact absurd e' l1
    | 2, 2, _, _, _, _ => rfl
    | 3, 3, _, _, _, _ => rfl
    | 2, 3, _, _, e, e' => exact absurd e' (hn k hk e)
    | 3, 2, _, _, e, e' => exact absurd e (hn k hk e')
    | _ + 4, _, hi, _, _, _ => exact absurd hi (by omega)
    | _, _ + 4, _, hi', _, _ => exact absurd hi' (by omega)
end Go.Proofs.YtflienghgobmoaaGreatDoor
