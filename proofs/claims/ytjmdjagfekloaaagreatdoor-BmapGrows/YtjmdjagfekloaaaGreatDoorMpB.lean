import Derived.Test.YtjmdjagfekloaaaGreatDoorTkN
import Derived.Test.YtjmdjagfekloaaaGreatDoorBfA
namespace Go.Proofs.YtjmdjagfekloaaaGreatDoor
open Go.RowKit Go.Maps Rec

section
variable (w : World) {ops : Array Oper} {rest : List Oper} {o : Oper} {a : Act} {Q : Exit → Act → World → Prop}
theorem lk_ok (hg : o.guard = none) (m x : Operand) (hop : o.op = Op.lookup 36 m x true) (b : Nat) (ks : List (Int × Int)) (z v : Int) (hm : a.eval m = .map (some b)) (h : MpAt w b ks) (hz : (z, v) ∈ ks) (hwf : (kI z).wf = true) (hx : a.eval x = .int .i64 z)
    (hK : wpList Tryz.prog ops Q rest (a.put o.dst (.tuple #[.int .i64 v, .bool true])) w) : wpList Tryz.prog ops Q (o :: rest) a w := by
  obtain ⟨D, h1, h2⟩ := h
  refine wpList_lookup_own_ok_int w hg m x 36 hop 3 3 .i64 lawI Tryz.underlying36 Tryz.underlying3 (zeroI _) b _ D hm h1 _ _ hx (keyOf_int_mk Tryz.underlying3 hwf) ?_
  intro c hat _
  have e := h2.at1 hz hat
  subst e
  have e2 : Maps.has D (Lit.int .i64 z) = true := by rw [show Lit.int .i64 z = kI z from rfl, h2.has]; exact decide_eq_true (List.mem_map.2 ⟨_, hz, rfl⟩)
  rw [e2]
  exact hK
theorem lk_new (hg : o.guard = none) (m x : Operand) (hop : o.op = Op.lookup 36 m x false) (b : Nat) (ks : List (Int × Int)) (z : Int) (hm : a.eval m = .map (some b)) (h : MpAt w b ks) (hz : z ∉ ks.map Prod.fst) (hwf : (kI z).wf = true) (hx : a.eval x = .int .i64 z)
    (hK : wpList Tryz.prog ops Q rest (a.put o.dst (.int .i64 0)) w) : wpList Tryz.prog ops Q (o :: rest) a w := by
  obtain ⟨D, h1, h2⟩ := h
  refine wpList_lookup_own_int w hg m x 36 hop 3 3 .i64 lawI Tryz.underlying36 Tryz.underlying3 (zeroI _) b _ D hm h1 _ _ hx (keyOf_int_mk Tryz.underlying3 hwf) ?_
  intro c hat _
  have e := h2.at0 hz hat
  subst e
  exact hK
theorem up_any (hg : o.guard = none) (m x v : Operand) (hop : o.op = Op.mapUpdate 36 m x v) (b : Nat) (ks : List (Int × Int)) (z u : Int) (hm : a.eval m = .map (some b)) (h : MpAt w b ks) (hl : ks.length < 100000000) (hwf : (kI z).wf = true) (hwu : (kI u).wf = true) (hx : a.eval x = .int .i64 z) (hv : a.eval v = .int .i64 u)
    (hK : ∀ w' ks', MpAt w' b ks' → (∀ t y, (t, y) ∈ ks' ↔ (t = z ∧ y = u) ∨ (t ≠ z ∧ (t, y) ∈ ks)) → (z ∉ ks.map Prod.fst → ks' = ks ++ [(z, u)]) → ks'.length ≤ ks.length + 1 → w.grownBy w' (some b) → wpList Tryz.prog ops Q rest (a.put o.dst undef) w') : wpList Tryz.prog ops Q (o :: rest) a w := by
  obtain ⟨D, h1, h2⟩ := h
  refine wpList_mapUpdate_own w hg m x v 36 hop 3 3 lawI Tryz.underlying36 _ b _ D hm h1 (by unfold maxLen; omega) _ _ _ hx hv (keyOf_int_mk Tryz.underlying3 hwf) _ [] (plainElem_int Tryz.underlying3 hwu) ?_
  intro w1 h3 h4
  obtain ⟨ks', k1, k2, k3, k4⟩ := h2.put z u
  have hm' := MpAt.of h3 k1
  exact hK w1 ks' hm' k3 k4 (by have := h3.size_le; rw [k1.size] at this; exact this) h4
theorem up_new (hg : o.guard = none) (m x v : Operand) (hop : o.op = Op.mapUpdate 36 m x v) (b : Nat) (ks : List (Int × Int)) (z u : Int) (hm : a.eval m = .map (some b)) (h : MpAt w b ks) (hl : ks.length < 100000000) (hz : z ∉ ks.map Prod.fst) (hwf : (kI z).wf = true) (hwu : (kI u).wf = true) (hx : a.eval x = .int .i64 z) (hv : a.eval v = .int .i64 u)
    (hK : ∀ w', MpAt w' b (ks ++ [(z, u)]) → w.grownBy w' (some b) → wpList Tryz.prog ops Q rest (a.put o.dst undef) w') : wpList Tryz.prog ops Q (o :: rest) a w :=
  up_any w hg m x v hop b ks z u hm h hl hwf hwu hx hv (fun w' ks' h1 _ h2 _ h3 => hK w' (by rw [← h2 hz]; exact h1) h3)
end
theorem below_grown {w w' : World} (h : Below w.heap.size w w') : w.grownBy w' none := ⟨h.os, h.tape, h.output, h.size, fun k hk _ => h.block k hk⟩
theorem isT_of_fd {lo hi : Nat} {B : Nat → List Int} {i : Nat} (h1 : lo ≤ i) (h2 : i < hi) (h : fd lo hi B i = false) : isT B i = true := by
  unfold fd at h
  rw [decide_eq_true ⟨h1, h2⟩] at h
  simpa using h
/-- a map that tells a tree's indices -/
def HasM (w : World) (b : Nat) (ν : Nat → Nat) : Prop := ∃ ks, MpAt w b ks ∧ ∀ z v, (z, v) ∈ ks ↔ ∃ k : Nat, k < 16522 ∧ ν (ixP k) ≠ 0 ∧ z = (k : Int) ∧ v = (ν (ixP k) : Int)
theorem has_keys {ks : List (Int × Int)} {ν : Nat → Nat} (h : ∀ z v, (z, v) ∈ ks ↔ ∃ k : Nat, k < 16522 ∧ ν (ixP k) ≠ 0 ∧ z = (k : Int) ∧ v = (ν (ixP k) : Int)) (z : Int) : z ∈ ks.map Prod.fst ↔ ∃ k : Nat, k < 16522 ∧ ν (ixP k) ≠ 0 ∧ z = (k : Int) := by
  rw [List.mem_map]
  constructor
  · rintro ⟨⟨z', v⟩, h1, rfl⟩
    obtain ⟨k, k1, k2, k3, _⟩ := (h z' v).1 h1
    exact ⟨k, k1, k2, k3⟩
  · rintro ⟨k, k1, k2, rfl⟩
    exact ⟨(_, _), (h _ _).2 ⟨k, k1, k2, rfl, rfl⟩, rfl⟩
/-- told's state -/
structure TlS (w wr : World) (P n b mb Lb Lt : Nat) (x p1 p2 p3 : Nat → Int) (a a' : Option Addr) (ks ms : List (Int × Int)) : Prop where
  bel : Below w.heap.size w wr
  far : w.heap.size ≤ P ∧ P + 1 < mb ∧ b < mb ∧ mb < wr.heap.size
  geo : GeoAt wr P n
  ino : wr.heap[P + 1]? = some (.cells #[.int .i64 (x 0), .int .i64 (x 1), .int .i64 (x 2), .int .i64 (x 3), .int .i64 (x 4), .int .i64 (x 5), .int .i64 (x 6), .int .i64 (x 7), .int .i64 (x 8), .int .i64 (x 9), .int .i64 (x 10), .int .i64 (x 11), .int .i64 (x 12), .int .i64 (x 13), .int .i64 (x 14)] 35 (0, 0))
  prs : PrsAt wr a Lb p1 p2
  pa : ∀ q, a = some q → 0 < Lb → q.block < mb
  num : NumAt wr a' Lt p3
  na : ∀ q, a' = some q → 0 < Lt → q.block < mb
  has : MpAt wr b ks
  met : MpAt wr mb ms
theorem TlS.on {w wr wr' : World} {P n b mb Lb Lt : Nat} {x p1 p2 p3 : Nat → Int} {a a' : Option Addr} {ks ms : List (Int × Int)} (h : TlS w wr P n b mb Lb Lt x p1 p2 p3 a a' ks ms) (hb : Below wr.heap.size wr wr') : TlS w wr' P n b mb Lb Lt x p1 p2 p3 a a' ks ms :=
  ⟨h.bel.trans (hb.mono h.bel.size), ⟨h.far.1, h.far.2.1, h.far.2.2.1, Nat.lt_of_lt_of_le h.far.2.2.2 hb.size⟩, (hb.block _ (heap_lt h.geo)).trans h.geo, (hb.block _ (heap_lt h.ino)).trans h.ino, h.prs.on hb, h.pa, h.num.on hb, h.na, h.has.on hb, h.met.on hb⟩
theorem TlS.put {w wr wr' : World} {P n b mb Lb Lt : Nat} {x p1 p2 p3 : Nat → Int} {a a' : Option Addr} {ks ms ms' : List (Int × Int)} (h : TlS w wr P n b mb Lb Lt x p1 p2 p3 a a' ks ms) (hg : wr.grownBy wr' (some mb)) (hm : MpAt wr' mb ms') : TlS w wr' P n b mb Lb Lt x p1 p2 p3 a a' ks ms' := by
  have hs := h.bel.size
  have hf := h.far
  have hk : ∀ k, k < mb → wr'.heap[k]? = wr.heap[k]? := fun k hk => hg.block k (by omega) (fun e => by have := Option.some.inj e; omega)
  have hc : ∀ (q : Addr), q.block < mb → wr'.cell? q = wr.cell? q := fun q hq => World.cell?_of_block (hk _ hq)
  refine ⟨h.bel.grown hg hs (fun j hj => by cases hj; omega), ⟨hf.1, hf.2.1, hf.2.2.1, Nat.lt_of_lt_of_le hf.2.2.2 hg.size⟩, (hk P (by omega)).trans h.geo, (hk (P + 1) (by omega)).trans h.ino, ?_, h.pa, ?_, h.na, h.has.hp (hk b hf.2.2.1), hm⟩
  · rcases h.prs with e | ⟨g, o, e, hq⟩
    · exact .inl e
    · by_cases h0 : Lb = 0
      · exact .inl h0
      · have hl := h.pa _ e (by omega)
        exact .inr ⟨g, o, e, fun i hi => ⟨(hc ⟨g, o + i * 2, none⟩ hl).trans (hq i hi).1, (hc ⟨g, o + i * 2 + 1, none⟩ hl).trans (hq i hi).2⟩⟩
  · rcases h.num with e | ⟨g, o, e, hq⟩
    · exact .inl e
    · by_cases h0 : Lt = 0
      · exact .inl h0
      · have hl := h.na _ e (by omega)
        exact .inr ⟨g, o, e, fun i hi => (hc ⟨g, o + i, none⟩ hl).trans (hq i hi)⟩
theorem TlS.xc {w wr : World} {P n b mb Lb Lt : Nat} {x p1 p2 p3 : Nat → Int} {a a' : Option Addr} {ks ms : List (Int × Int)} (h : TlS w wr P n b mb Lb Lt x p1 p2 p3 a a' ks ms) : wr.cell? ⟨P + 1, 0, none⟩ = some (.int .i64 (x 0)) ∧ wr.cell? ⟨P + 1, 1, none⟩ = some (.int .i64 (x 1)) ∧ wr.cell? ⟨P + 1, 2, none⟩ = some (.int .i64 (x 2)) ∧ wr.cell? ⟨P + 1, 3, none⟩ = some (.int .i64 (x 3)) ∧ wr.cell? ⟨P + 1, 4, none⟩ = some (.int .i64 (x 4)) ∧ wr.cell? ⟨P + 1, 5, none⟩ = some (.int .i64 (x 5)) ∧ wr.cell? ⟨P + 1, 6, none⟩ = some (.int .i64 (x 6)) ∧ wr.cell? ⟨P + 1, 7, none⟩ = some (.int .i64 (x 7)) ∧ wr.cell? ⟨P + 1, 8, none⟩ = some (.int .i64 (x 8)) ∧ wr.cell? ⟨P + 1, 9, none⟩ = some (.int .i64 (x 9)) ∧ wr.cell? ⟨P + 1, 10, none⟩ = some (.int .i64 (x 10)) ∧ wr.cell? ⟨P + 1, 11, none⟩ = some (.int .i64 (x 11)) ∧ wr.cell? ⟨P + 1, 12, none⟩ = some (.int .i64 (x 12)) ∧ wr.cell? ⟨P + 1, 13, none⟩ = some (.int .i64 (x 13)) ∧ wr.cell? ⟨P + 1, 14, none⟩ = some (.int .i64 (x 14)) := by
  have hc := fun j => cell_of_row _ _ j _ _ _ h.ino
  exact ⟨hc 0, hc 1, hc 2, hc 3, hc 4, hc 5, hc 6, hc 7, hc 8, hc 9, hc 10, hc 11, hc 12, hc 13, hc 14⟩
end Go.Proofs.YtjmdjagfekloaaaGreatDoor
