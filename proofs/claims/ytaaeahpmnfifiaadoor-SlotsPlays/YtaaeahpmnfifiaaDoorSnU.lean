import Derived.Test.YtaaeahpmnfifiaaDoorR14e
import Derived.Test.YtaaeahpmnfifiaaDoorSnS
import Derived.Deep.CutBlock
namespace Go.Proofs.YtaaeahpmnfifiaaDoor
open Go.RowKit Rec Sc
open Classical in
/-- the document's error of any bytes -/
noncomputable def erU (L : List Int) : Int := if L.length = 512 then (if ∀ k, k < 16 → rt L k = true then 0 else 140) else 32
open Classical in
noncomputable def tlU (L : List Int) : List ET := if erU L = 0 then taken L else []
open Classical in
noncomputable def lwU (L : List Int) : Int := if erU L = 0 then fi (allE L 16) else 0
theorem tlU_len (L : List Int) : (tlU L).length ≤ 16 := by
  unfold tlU
  split
  · exact tkn_len L 16
  · simp
theorem er_size {L : List Int} (h : L.length ≠ 512) : erU L = 32 ∧ tlU L = [] ∧ lwU L = 0 := by
  have e : erU L = 32 := if_neg h
  exact ⟨e, by rw [tlU, if_neg (by rw [e]; decide)], by rw [lwU, if_neg (by rw [e]; decide)]⟩
theorem er_ok {L : List Int} (h : L.length = 512) (hr : ∀ k, k < 16 → rt L k = true) : erU L = 0 ∧ tlU L = taken L ∧ lwU L = fi (allE L 16) := by
  have e : erU L = 0 := by rw [erU, if_pos h, if_pos hr]
  exact ⟨e, by rw [tlU, if_pos e], by rw [lwU, if_pos e]⟩
theorem er_no {L : List Int} (h : L.length = 512) (hr : ∃ k, k < 16 ∧ rt L k = false) : erU L = 140 ∧ tlU L = [] ∧ lwU L = 0 := by
  have e : erU L = 140 := by
    rw [erU, if_pos h, if_neg]
    intro h2
    obtain ⟨k, hk, h3⟩ := hr
    rw [h2 k hk] at h3; cases h3
  exact ⟨e, by rw [tlU, if_neg (by rw [e]; decide)], by rw [lwU, if_neg (by rw [e]; decide)]⟩
theorem readU (w : World) (g c : Nat) (L : List Int) (hB : Bytes w (some ⟨g, 0, none⟩) L) (hc : L.length ≤ c) (hT : TabAt w) :
    Calls Tryd.prog 13 #[.slice (some ⟨g, 0, none⟩) L.length c] w fun e w' => ∃ a m, e = .returned (.tuple #[.slice a (tlU L).length m, .int .i64 (erU L)]) ∧ EntAt w' a (tlU L) ∧ Below w.heap.size w w' := by
  by_cases h : L.length = 512
  · rw [h] at hc ⊢
    refine (read_any w g 0 c L h hB hc hT).mono ?_
    rintro e w' ⟨hb, ⟨hr, b, cap, h1, _, h3⟩ | ⟨hr, h1⟩⟩
    · obtain ⟨e1, e2, _⟩ := er_ok h hr
      rw [e1, e2]
      exact ⟨_, cap, h1, h3.ents, hb⟩
    · obtain ⟨e1, e2, _⟩ := er_no h hr
      rw [e1, e2]
      exact ⟨_, _, h1, .inl rfl, hb⟩
  · obtain ⟨e1, e2, _⟩ := er_size h
    rw [e1, e2]
    refine (read_size w _ _ c h).mono ?_
    rintro e w' ⟨h1, rfl⟩
    exact ⟨_, _, h1, .inl rfl, Below.refl _ _⟩
theorem rreadU (w : World) (g c : Nat) (L : List Int) (hB : Bytes w (some ⟨g, 0, none⟩) L) (hc : L.length ≤ c) :
    Calls Tryd.prog 17 #[.slice (some ⟨g, 0, none⟩) L.length c] w fun e w' => ∃ a m, e = .returned (.tuple #[.slice a (tlU L).length m, .int .i64 (erU L)]) ∧ EntAt w' a (tlU L) ∧ Below w.heap.size w w' := by
  by_cases h : L.length = 512
  · rw [h] at hc ⊢
    refine (rread_any w g 0 c L h hB hc).mono ?_
    rintro e w' ⟨hb, ⟨hr, v, h1, h3⟩ | ⟨hr, h1⟩⟩
    · obtain ⟨e1, e2, _⟩ := er_ok h hr
      rw [e1, e2]
      obtain ⟨a, m, rfl, he⟩ := h3.form
      exact ⟨_, m, h1, he, hb⟩
    · obtain ⟨e1, e2, _⟩ := er_no h hr
      rw [e1, e2]
      exact ⟨_, _, h1, .inl rfl, hb⟩
  · obtain ⟨e1, e2, _⟩ := er_size h
    rw [e1, e2]
    refine (rread_size w _ _ c h).mono ?_
    rintro e w' ⟨h1, rfl⟩
    exact ⟨_, _, h1, .inl rfl, Below.refl _ _⟩
theorem lowU (w : World) (g c : Nat) (L : List Int) (hB : Bytes w (some ⟨g, 0, none⟩) L) (hc : L.length ≤ c) (hT : TabAt w) :
    Calls Tryd.prog 14 #[.slice (some ⟨g, 0, none⟩) L.length c] w fun e w' => e = .returned (.tuple #[.int .i64 (lwU L), .int .i64 (erU L)]) ∧ Below w.heap.size w w' := by
  by_cases h : L.length = 512
  · rw [h] at hc ⊢
    refine (low_any w g 0 c L h hB hc hT).mono ?_
    rintro e w' ⟨hb, ⟨hr, h1⟩ | ⟨hr, h1⟩⟩
    · obtain ⟨e1, _, e3⟩ := er_ok h hr
      rw [e1, e3]
      exact ⟨h1, hb⟩
    · obtain ⟨e1, _, e3⟩ := er_no h hr
      rw [e1, e3]
      exact ⟨h1, hb⟩
  · obtain ⟨e1, _, e3⟩ := er_size h
    rw [e1, e3]
    refine (low_size w _ _ c h).mono ?_
    rintro e w' ⟨h1, rfl⟩
    exact ⟨h1, Below.refl _ _⟩
theorem rlowU (w : World) (g c : Nat) (L : List Int) (hB : Bytes w (some ⟨g, 0, none⟩) L) (hc : L.length ≤ c) :
    Calls Tryd.prog 18 #[.slice (some ⟨g, 0, none⟩) L.length c] w fun e w' => e = .returned (.tuple #[.int .i64 (lwU L), .int .i64 (erU L)]) ∧ Below w.heap.size w w' := by
  by_cases h : L.length = 512
  · rw [h] at hc ⊢
    refine (rlow_any w g 0 c L h hB hc).mono ?_
    rintro e w' ⟨hb, ⟨hr, h1⟩ | ⟨hr, h1⟩⟩
    · obtain ⟨e1, _, e3⟩ := er_ok h hr
      rw [e1, e3]
      exact ⟨h1, hb⟩
    · obtain ⟨e1, _, e3⟩ := er_no h hr
      rw [e1, e3]
      exact ⟨h1, hb⟩
  · obtain ⟨e1, _, e3⟩ := er_size h
    rw [e1, e3]
    refine (rlow_size w _ _ c h).mono ?_
    rintro e w' ⟨h1, rfl⟩
    exact ⟨h1, Below.refl _ _⟩
end Go.Proofs.YtaaeahpmnfifiaaDoor
