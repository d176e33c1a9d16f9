import Derived.Test.YtjmdjagfekloaaaGreatDoorTkO
import Derived.Test.YtjmdjagfekloaaaGreatDoorLwM
import Derived.Test.YtjmdjagfekloaaaGreatDoorBfA
namespace Go.Proofs.YtjmdjagfekloaaaGreatDoor
open Go.RowKit Go.Maps Rec

section
variable (w : World) {ops : Array Oper} {rest : List Oper} {o : Oper} {a : Act} {Q : Exit → Act → World → Prop}
theorem ins_any (hg : o.guard = none) (m x v : Operand) (hop : o.op = Op.insert 36 m x v) (b : Nat) (ks : List (Int × Int)) (z u : Int) (hm : a.eval m = .map (some b)) (h : MpAt w b ks) (hl : ks.length < 100000000) (hwf : (kI z).wf = true) (hwu : (kI u).wf = true) (hx : a.eval x = .int .i64 z) (hv : a.eval v = .int .i64 u)
    (hK : ∀ w' ks', MpAt w' b ks' → (∀ t y, (t, y) ∈ ks' ↔ (t = z ∧ y = u) ∨ (t ≠ z ∧ (t, y) ∈ ks)) → (z ∉ ks.map Prod.fst → ks' = ks ++ [(z, u)]) → ks'.length ≤ ks.length + 1 → w.grownBy w' (some b) → wpList Tryz.prog ops Q rest (a.put o.dst undef) w') : wpList Tryz.prog ops Q (o :: rest) a w := by
  obtain ⟨D, h1, h2⟩ := h
  obtain ⟨w', hrun, r1, r2⟩ := h1.update lawI Tryz.underlying36 (by unfold maxLen; omega) (keyOf_int_mk Tryz.underlying3 hwf) (plainElem_int Tryz.underlying3 hwu)
  obtain ⟨ks', k1, k2, k3, k4⟩ := h2.put z u
  have hm' := MpAt.of r1 k1
  have hlen : ks'.length ≤ ks.length + 1 := by have := r1.size_le; rw [k1.size] at this; exact this
  refine wpList_plain hg fun K' hK' => ?_
  unfold Oper.wp
  simp [execOp, hop, hm, hx, hv, hrun, Result.andThen]
  exact hK' _ _ (hK w' ks' hm' k3 k4 hlen r2)
end
theorem HasM.hp {w w' : World} {b : Nat} {ν : Nat → Nat} (h : HasM w b ν) (e : w'.heap[b]? = w.heap[b]?) : HasM w' b ν := let ⟨ks, h1, h2⟩ := h; ⟨ks, h1.hp e, h2⟩
theorem HasM.lt {w : World} {b : Nat} {ν : Nat → Nat} (h : HasM w b ν) : b < w.heap.size := let ⟨_, h1, _⟩ := h; h1.lt
theorem HasM.on {w w' : World} {b : Nat} {ν : Nat → Nat} (h : HasM w b ν) (hb : Below w.heap.size w w') : HasM w' b ν := h.hp (hb.block _ h.lt)
theorem HasM.mv {w0 w w' : World} {D : Dk} {T T' : Tx} {b : Nat} {ν : Nat → Nat} (h : HasM w b ν) (ho : Out w0 w D T b) (x : SMv (fun _ => False) w T w' T') : HasM w' b ν :=
  h.hp (x.fr.block b h.lt (fun e => e.elim (fun e => ho.no e) id))
theorem HasM.none {w : World} {b : Nat} (h : MpAt w b []) : HasM w b (fun _ => 0) := ⟨[], h, fun z v => ⟨fun e => by simp at e, fun ⟨k, _, k2, _⟩ => absurd rfl k2⟩⟩
/-- an index more in the map -/
theorem HasM.put {w : World} {b k : Nat} {ν ν' : Nat → Nat} {ks ks' : List (Int × Int)} (hk : k < 16522) (h : ∀ z v, (z, v) ∈ ks ↔ ∃ k : Nat, k < 16522 ∧ ν (ixP k) ≠ 0 ∧ z = (k : Int) ∧ v = (ν (ixP k) : Int)) (hm : MpAt w b ks') (hp : ∀ t y, (t, y) ∈ ks' ↔ (t = (k : Int) ∧ y = (ν' (ixP k) : Int)) ∨ (t ≠ (k : Int) ∧ (t, y) ∈ ks)) (hn : ν' (ixP k) ≠ 0) (hs : ∀ j, j < 16522 → j ≠ k → ν' (ixP j) = ν (ixP j)) : HasM w b ν' := by
  refine ⟨ks', hm, fun z v => ?_⟩
  rw [hp]
  constructor
  · rintro (⟨rfl, rfl⟩ | ⟨h1, h2⟩)
    · exact ⟨k, hk, hn, rfl, rfl⟩
    · obtain ⟨j, j1, j2, rfl, rfl⟩ := (h z v).1 h2
      have e := hs j j1 (fun e => h1 (by rw [e]))
      exact ⟨j, j1, by rw [e]; exact j2, rfl, by rw [e]⟩
  · rintro ⟨j, j1, j2, rfl, rfl⟩
    by_cases e : j = k
    · subst e; exact .inl ⟨rfl, rfl⟩
    · have e2 := hs j j1 e
      exact .inr ⟨by omega, (h _ _).2 ⟨j, j1, by rw [← e2]; exact j2, rfl, by rw [e2]⟩⟩
theorem ixP_way_off {k j : Nat} (hk : k < 16522) (hj : j < 16522) (hne : j ≠ k) : ixP j ∉ wayP k := fun h => hne ((way_ix hk hj).1 h)
end Go.Proofs.YtjmdjagfekloaaaGreatDoor
