import Derived.Test.YtjmdjagfekloaaaGreatDoorKTvD
import Derived.Test.YtjmdjagfekloaaaGreatDoorTkM
import Derived.Maps.RangeWalk
import Derived.Maps.OwnOps
import Derived.Maps.OwnSet
import Derived.Maps.Ext
namespace Go.Proofs.YtjmdjagfekloaaaGreatDoor
open Go.RowKit Go.Maps Rec

theorem lawI : Keyed Tryz.prog 3 := int_keyed Tryz.underlying3
theorem zeroI (w : World) : (zeroValue 3).run Tryz.prog w = .ok (.int .i64 0) w := by kernel_rfl
abbrev kI (z : Int) : Lit := .int .i64 z
theorem isK (z : Int) : WideAt.IsKeyLit (kI z) := trivial
abbrev OwM (w : World) (b n : Nat) (D : DataW Unit) : Prop := w.ownsMap Tryz.prog 3 (plainElem Tryz.prog 3) b n D
/-- a map's entries -/
structure MpL (D : DataW Unit) (ks : List (Int × Int)) : Prop where
  tidy : Tidy D
  has : ∀ z, Maps.has D (kI z) = decide (z ∈ ks.map Prod.fst)
  at_ : ∀ z v, (z, v) ∈ ks → ∀ d, D.atKey (kI z) d = .lit (.int .i64 v)
  nd : (ks.map Prod.fst).Nodup
  size : Maps.size D = ks.length
def MpAt (w : World) (b : Nat) (ks : List (Int × Int)) : Prop := ∃ D, OwM w b ks.length D ∧ MpL D ks
theorem ownsMap_tight {w : World} {b n : Nat} {D : DataW Unit} (h : OwM w b n D) : OwM w b (Maps.size D) D := by
  obtain ⟨es, clock, hb, F, hn, rfl⟩ := h
  exact ⟨es, clock, hb, F, by rw [Maps.size_eq, length_read]; exact Nat.le_refl _, rfl⟩
theorem MpAt.of {w : World} {b n : Nat} {D : DataW Unit} {ks : List (Int × Int)} (h : OwM w b n D) (hl : MpL D ks) : MpAt w b ks := ⟨D, by rw [← hl.size]; exact ownsMap_tight h, hl⟩
theorem MpL.none : MpL (.map []) [] := ⟨tidy_empty, fun z => by simp [Maps.has], fun z v h => by simp at h, by simp, rfl⟩
theorem mpAt_made (w : World) : MpAt (w.alloc (.map #[] 0)) w.heap.size [] := ⟨_, World.ownsMap_made _ _ _ _, MpL.none⟩
theorem MpAt.kept {w w' : World} {row : Option Nat} {b : Nat} {ks : List (Int × Int)} (h : MpAt w b ks) (hg : w.grownBy w' row) (hne : some b ≠ row) : MpAt w' b ks := let ⟨D, h1, h2⟩ := h; ⟨D, h1.kept hg hne, h2⟩
theorem MpAt.lt {w : World} {b : Nat} {ks : List (Int × Int)} (h : MpAt w b ks) : b < w.heap.size := let ⟨_, h1, _⟩ := h; h1.lt
theorem MpAt.hp {w w' : World} {b : Nat} {ks : List (Int × Int)} (h : MpAt w b ks) (e : w'.heap[b]? = w.heap[b]?) : MpAt w' b ks := by
  obtain ⟨D, ⟨es, clock, hb, F, hn, rfl⟩, h2⟩ := h
  exact ⟨_, ⟨es, clock, by rw [e]; exact hb, F, hn, rfl⟩, h2⟩
theorem MpAt.on {w w' : World} {b : Nat} {ks : List (Int × Int)} (h : MpAt w b ks) (hb : Below w.heap.size w w') : MpAt w' b ks := h.hp (hb.block _ h.lt)
theorem kI_ne {z y : Int} (h : z ≠ y) : kI z ≠ kI y := fun e => h (by injection e)
/-- a store at a key -/
theorem MpL.put {D : DataW Unit} {ks : List (Int × Int)} (h : MpL D ks) (z v : Int) : ∃ ks', MpL (D.put (kI z) (.lit (.int .i64 v))) ks' ∧ (∀ t, t ∈ ks'.map Prod.fst ↔ t = z ∨ t ∈ ks.map Prod.fst) ∧ (∀ t u, (t, u) ∈ ks' ↔ (t = z ∧ u = v) ∨ (t ≠ z ∧ (t, u) ∈ ks)) ∧ (z ∉ ks.map Prod.fst → ks' = ks ++ [(z, v)]) := by
  have hm := h.tidy.isMap
  have hh : ∀ y, Maps.has (D.put (kI z) (.lit (.int .i64 v))) (kI y) = (decide (y = z) || decide (y ∈ ks.map Prod.fst)) := fun y => by
    by_cases e : y = z
    · subst e; rw [has_put_same hm (isK _)]; simp
    · rw [has_put_other (kI_ne e), h.has]; simp [e]
  by_cases hz : z ∈ ks.map Prod.fst
  · have hfst : (ks.map fun q : Int × Int => if q.1 = z then (z, v) else q).map Prod.fst = ks.map Prod.fst := by
      rw [List.map_map]
      apply List.map_congr_left
      intro q _
      simp only [Function.comp]
      split
      · rename_i e; exact e.symm
      · rfl
    have hmem : ∀ t u, (t, u) ∈ (ks.map fun q : Int × Int => if q.1 = z then (z, v) else q) ↔ (t = z ∧ u = v) ∨ (t ≠ z ∧ (t, u) ∈ ks) := fun t u => by
      rw [List.mem_map]
      constructor
      · rintro ⟨q, q1, q2⟩
        split at q2
        · injection q2 with e1 e2; exact .inl ⟨e1.symm, e2.symm⟩
        · rename_i e
          subst q2
          exact .inr ⟨e, q1⟩
      · rintro (⟨rfl, rfl⟩ | ⟨e, q1⟩)
        · obtain ⟨q, q1, q2⟩ := List.mem_map.1 hz
          exact ⟨q, q1, by rw [if_pos q2]⟩
        · exact ⟨(t, u), q1, by rw [if_neg e]⟩
    refine ⟨ks.map fun q => if q.1 = z then (z, v) else q, ⟨h.tidy.put (isK _) _, fun y => ?_, fun y u hy d => ?_, by rw [hfst]; exact h.nd, ?_⟩, fun t => ?_, hmem, fun e => absurd hz e⟩
    · rw [hh, hfst]
      by_cases e : y = z
      · subst e; simp [hz]
      · simp [e]
    · rcases (hmem y u).1 hy with ⟨rfl, rfl⟩ | ⟨e, q1⟩
      · rw [atKey_put_same hm (isK _)]
      · rw [atKey_put_other (kI_ne e), h.at_ y u q1]
    · rw [size_put h.tidy, h.has, h.size]; simp [hz]
    · rw [hfst]
      constructor
      · exact .inr
      · rintro (rfl | e)
        · exact hz
        · exact e
  · have hmem : ∀ t u, (t, u) ∈ ks ++ [(z, v)] ↔ (t = z ∧ u = v) ∨ (t ≠ z ∧ (t, u) ∈ ks) := fun t u => by
      rw [List.mem_append, List.mem_singleton]
      constructor
      · rintro (q1 | q1)
        · exact .inr ⟨fun e => hz (e ▸ List.mem_map.2 ⟨_, q1, rfl⟩), q1⟩
        · injection q1 with e1 e2; exact .inl ⟨e1, e2⟩
      · rintro (⟨rfl, rfl⟩ | ⟨_, q1⟩)
        · exact .inr rfl
        · exact .inl q1
    refine ⟨ks ++ [(z, v)], ⟨h.tidy.put (isK _) _, fun y => ?_, fun y u hy d => ?_, ?_, ?_⟩, fun t => ?_, hmem, fun _ => rfl⟩
    · rw [hh]
      by_cases e : y = z
      · simp [e]
      · simp [e]
    · rcases (hmem y u).1 hy with ⟨rfl, rfl⟩ | ⟨e, q1⟩
      · rw [atKey_put_same hm (isK _)]
      · rw [atKey_put_other (kI_ne e), h.at_ y u q1]
    · rw [List.map_append]
      refine List.nodup_append.2 ⟨h.nd, by simp, fun a ha b hb e => ?_⟩
      simp at hb
      subst hb
      subst e
      exact hz ha
    · rw [size_put h.tidy, h.has, h.size]; simp [hz]
    · rw [List.map_append, List.mem_append]
      constructor
      · rintro (e | e)
        · exact .inr e
        · simp at e; exact .inl e
      · rintro (rfl | e)
        · exact .inr (by simp)
        · exact .inl e
theorem MpL.at0 {D : DataW Unit} {ks : List (Int × Int)} (h : MpL D ks) {z c : Int} (hz : z ∉ ks.map Prod.fst) (ha : D.atKey (kI z) (.lit (.int .i64 0)) = .lit (.int .i64 c)) : c = 0 := by
  rw [atKey_of_not_has (by rw [h.has]; simpa using hz)] at ha
  injection ha with ha
  injection ha with _ ha
  exact ha.symm
theorem MpL.at1 {D : DataW Unit} {ks : List (Int × Int)} (h : MpL D ks) {z c v : Int} (hz : (z, v) ∈ ks) {d : DataW Unit} (ha : D.atKey (kI z) d = .lit (.int .i64 c)) : c = v := by
  rw [h.at_ z v hz] at ha
  injection ha with ha
  injection ha with _ ha
  exact ha.symm
end Go.Proofs.YtjmdjagfekloaaaGreatDoor
