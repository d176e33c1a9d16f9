import Derived.Test.YtiblfmcnffhpdaaGreatDoorKCvM
namespace Go.Proofs.YtiblfmcnffhpdaaGreatDoor
open Rec
theorem cv_zero {ν : Nat → Nat} {k p : Nat} (h : ν p = 0) : cvP ν k p = 0 := by
  unfold cvP
  split
  · rfl
  · exact h
theorem ac_low {ν : Nat → Nat} {l h p : Nat} (hl : l ≤ h) (e : acP ν h p = true) : acP ν l p = true := by
  simp only [acP, Bool.and_eq_true, decide_eq_true_eq] at e ⊢
  exact ⟨e.1, by omega⟩
theorem ac_cong {ν μ : Nat → Nat} {k p : Nat} (e : μ p = ν p) : acP μ k p = acP ν k p := by simp only [acP, e]
theorem cv_tab {ν : Nat → Nat} {l h p : Nat} (hl : l ≤ h) (G : ∀ (ν : Nat → Nat) k, gone ν k p = (acP ν k p && all128 (fun i => cvP ν k (kid p i)))) (hk : ∀ i, i < 128 → cvP (cvP ν h) l (kid p i) = cvP ν l (kid p i)) : cvP (cvP ν h) l p = cvP ν l p := by
  cases e : gone ν h p
  · have e1 : cvP ν h p = ν p := by unfold cvP; rw [e]; simp
    have e2 : gone (cvP ν h) l p = gone ν l p := by
      rw [G, G, ac_cong e1, all128_cong hk]
    show (if gone (cvP ν h) l p = true then 0 else cvP ν h p) = (if gone ν l p = true then 0 else ν p)
    rw [e2, e1]
  · have e1 : cvP ν h p = 0 := by unfold cvP; rw [e]; simp
    rw [cv_zero e1]
    have e2 : gone ν l p = true := by
      rw [G, Bool.and_eq_true, all128_iff] at e ⊢
      refine ⟨ac_low hl e.1, fun i hi => ?_⟩
      rw [← hk i hi]
      exact cv_zero (e.2 i hi)
    unfold cvP; rw [e2]; simp
theorem cv_leaf {ν : Nat → Nat} {l h p : Nat} (hl : l ≤ h) (h1 : ¬ p = 11) (h2 : ¬ isT1 p) : cvP (cvP ν h) l p = cvP ν l p := by
  cases e : gone ν h p
  · have e1 : cvP ν h p = ν p := by unfold cvP; rw [e]; simp
    show (if gone (cvP ν h) l p = true then 0 else cvP ν h p) = (if gone ν l p = true then 0 else ν p)
    rw [gone_leaf h1 h2, gone_leaf h1 h2, ac_cong e1, e1]
  · have e1 : cvP ν h p = 0 := by unfold cvP; rw [e]; simp
    rw [cv_zero e1]
    have e2 : gone ν l p = true := by
      rw [gone_leaf h1 h2] at e ⊢
      exact ac_low hl e
    unfold cvP; rw [e2]; simp
theorem cv_cv {ν : Nat → Nat} {l h : Nat} (hl : l ≤ h) : cvP (cvP ν h) l = cvP ν l := by
  have t1 : ∀ p, isT1 p → cvP (cvP ν h) l p = cvP ν l p := fun p hp => cv_tab hl (fun _ _ => gone_t1 hp) (fun i hi => cv_leaf hl (kid_leaf hp hi).1 (kid_leaf hp hi).2.1)
  funext p
  by_cases c1 : p = 11
  · subst c1
    exact cv_tab hl (fun _ _ => gone_t2) (fun i hi => t1 _ (kid11 i hi).2.1)
  · by_cases c2 : isT1 p
    · exact t1 p c2
    · exact cv_leaf hl c1 c2
theorem gone_iff {ν : Nat → Nat} {k p : Nat} : gone ν k p = true ↔ ν p ≠ 0 ∧ cvP ν k p = 0 := by
  constructor
  · intro e
    exact ⟨gone_nz e, by unfold cvP; rw [e]; simp⟩
  · rintro ⟨h0, h1⟩
    cases e : gone ν k p
    · unfold cvP at h1; rw [e] at h1; simp at h1; exact absurd h1 h0
    · rfl
theorem cv_or (ν : Nat → Nat) (k p : Nat) : cvP ν k p = 0 ∨ cvP ν k p = ν p := by
  unfold cvP
  split
  · exact .inl rfl
  · exact .inr rfl
theorem gone_again {ν : Nat → Nat} {k p : Nat} : gone (cvP ν k) k p = false := by
  cases e : gone (cvP ν k) k p
  · rfl
  · obtain ⟨h0, h1⟩ := gone_iff.1 e
    rw [cv_cv (Nat.le_refl k)] at h1
    exact absurd h1 h0
theorem gone_two {ν : Nat → Nat} {l h p : Nat} (hl : l ≤ h) : gone ν l p = true ↔ gone ν h p = true ∨ gone (cvP ν h) l p = true := by
  rw [gone_iff, gone_iff, gone_iff, cv_cv hl]
  constructor
  · rintro ⟨h0, h1⟩
    rcases cv_or ν h p with e | e
    · exact .inl ⟨h0, e⟩
    · exact .inr ⟨by rw [e]; exact h0, h1⟩
  · rintro (⟨h0, h1⟩ | ⟨h0, h1⟩)
    · exact ⟨h0, by rw [← cv_cv hl]; exact cv_zero h1⟩
    · rcases cv_or ν h p with e | e
      · exact absurd e h0
      · exact ⟨by rw [← e]; exact h0, h1⟩
end Go.Proofs.YtiblfmcnffhpdaaGreatDoor
