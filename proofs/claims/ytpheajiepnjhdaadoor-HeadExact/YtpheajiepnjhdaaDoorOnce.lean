import Derived.Test.YtpheajiepnjhdaaDoorKnown
namespace Go.Proofs.YtpheajiepnjhdaaDoor
open Go.RowKit Rec

theorem numsL_nil_of_err {h : List Int} {n : Int} (he : numsE h n ≠ 0) : numsL h n = [] := by
  unfold numsL
  rw [if_neg]
  rintro ⟨h1, h2, h3⟩
  apply he
  unfold numsE
  rw [if_pos h1, h2, h3]; rfl
theorem numsL_some {h : List Int} {n : Int} (hl : numsL h n ≠ []) : h.length = 512 ∧ zr h 0 512 = false ∧ isH h n = true ∧ numsL h n = nsOf h ∧ 1 ≤ (nsOf h).length ∧ (nsOf h).length ≤ 96 ∧ may (nsOf h) n = true := by
  by_cases hh : h.length = 512 ∧ zr h 0 512 = false ∧ isH h n = true
  · have hf := hh.2.2
    simp only [isH, form, Bool.and_eq_true, decide_eq_true_eq] at hf
    have hlen : (nsOf h).length = cnt h := by simp [nsOf]
    refine ⟨hh.1, hh.2.1, hh.2.2, ?_, by rw [hlen]; exact hf.1.1.2.1, by rw [hlen]; exact hf.1.1.2.2, hf.1.2⟩
    unfold numsL; rw [if_pos hh]
  · unfold numsL at hl; rw [if_neg hh] at hl; exact absurd rfl hl
/-- the numbers rise -/
theorem rises (ns : List Int) (n : Int) (hm : may ns n = true) : ∀ d i, i + d < ns.length → nth ns i ≤ nth ns (i + d)
  | 0, _, _ => Int.le_refl _
  | d + 1, i, h => by
    have a := rises ns n hm d i (by omega)
    have b := (of_decide_eq_true hm) (i + d + 1) h
    simp only [pre] at b
    rw [if_neg (by omega), Nat.add_sub_cancel] at b
    show nth ns i ≤ nth ns (i + d + 1)
    omega
theorem last_big (ns : List Int) (n : Int) (hm : may ns n = true) (h : may ns 16384 = false) : 16384 ≤ nth ns (ns.length - 1) := by
  have h2 := of_decide_eq_false h
  have ⟨i, hi⟩ : ∃ i, ¬ (i < ns.length → pre ns i < nth ns i ∧ nth ns i < 16384) := Classical.not_forall.1 h2
  have ⟨hi1, hi2⟩ : i < ns.length ∧ ¬ (pre ns i < nth ns i ∧ nth ns i < 16384) := by
    constructor
    · exact Classical.byContradiction fun e => hi (fun x => absurd x e)
    · exact fun e => hi (fun _ => e)
  have h3 := (of_decide_eq_true hm) i hi1
  have h4 := rises ns n hm (ns.length - 1 - i) i (by omega)
  rw [show i + (ns.length - 1 - i) = ns.length - 1 by omega] at h4
  omega
/-- what is good is what Make makes -/
theorem once_made {h : List Int} {n : Int} {ds : List (List Int)} (hw : ∀ i, 0 ≤ nth h i ∧ nth h i < 256) (hl : numsL h n ≠ []) (hg : good h n ds = true) (hm : may (nsOf h) 16384 = true) : makeE (nsOf h) ds = 0 ∧ made (nsOf h) ds = h := by
  obtain ⟨h1, h2, h3, h4, h5, h6, h7⟩ := numsL_some hl
  simp only [good, Bool.and_eq_true, decide_eq_true_eq] at hg
  rw [h4] at hg
  have ho := one_form h n h1 hw h3
  refine ⟨by unfold makeE; rw [if_pos ⟨⟨h5, h6⟩, hm⟩, hg.1.2]; rfl, ?_⟩
  unfold made
  have e : sumV (hd (nsOf h) 0) ds = num h 12 4 := by
    rw [hg.2]
    conv => rhs; rw [ho]
    exact (sumV_hd (nsOf h) (num h 12 4) ds).symm
  rw [e]; exact ho.symm

end Go.Proofs.YtpheajiepnjhdaaDoor
