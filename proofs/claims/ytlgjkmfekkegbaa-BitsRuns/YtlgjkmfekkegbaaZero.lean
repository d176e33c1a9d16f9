import Derived.Test.YtlgjkmfekkegbaaPut
namespace Go.Proofs.Ytlgjkmfekkegbaa
open Go.RowKit Rec

/-- n bytes from A on -/
def fld (l : List Int) (A N : Nat) : List Int := (l.drop A).take N
theorem fld_length (l : List Int) (A N : Nat) (h : A + N ≤ l.length) : (fld l A N).length = N := by unfold fld; rw [List.length_take, List.length_drop]; omega
theorem nth_fld (l : List Int) (A N i : Nat) (h : i < N) : nth (fld l A N) i = nth l (A + i) := by unfold fld; rw [nth_take _ _ _ h, nth_drop]
theorem zr_fld (l : List Int) (A N : Nat) : zr (fld l A N) 0 N = zr l A N := by
  unfold zr
  refine decide_eq_decide.2 (forall_congr' fun i => ⟨fun h hi => ?_, fun h hi => ?_⟩)
  · have := h hi; rwa [Nat.zero_add, nth_fld _ _ _ _ hi] at this
  · rw [Nat.zero_add, nth_fld _ _ _ _ hi]; exact h hi
theorem fz_fld (l : List Int) (A N : Nat) : fz (fld l A N) 0 N = fz l A N := by
  obtain ⟨h1, h2, h3⟩ := fz_spec l A N
  refine fz_eq _ _ _ _ h1 (fun i hi => ?_) (fun h => ?_)
  · rw [Nat.zero_add, nth_fld _ _ _ _ (by omega)]; exact h2 i hi
  · rw [Nat.zero_add, nth_fld _ _ _ _ h]; exact h3 h
theorem wf_fld {l : List Int} (h : ∀ i, 0 ≤ nth l i ∧ nth l i < 256) (A N : Nat) : ∀ i, 0 ≤ nth (fld l A N) i ∧ nth (fld l A N) i < 256 := wf_take (wf_drop h A) N
theorem Bytes.field {w : World} {b off A N : Nat} {l : List Int} (h : Bytes w (some ⟨b, off, none⟩) l) (hA : A + N ≤ l.length) (B : Nat) (hB : B = off + A ∨ N = 0) : Bytes w (some ⟨b, B, none⟩) (fld l A N) := by
  have hl := h.len
  refine ⟨by rw [fld_length l A N hA]; omega, wf_fld h.wf A N, ?_⟩
  rcases hB with rfl | rfl
  · refine .inr ⟨b, off + A, rfl, fun i hi => ?_⟩
    rw [fld_length l A N hA] at hi
    rw [nth_fld _ _ _ _ hi, Nat.add_assoc]; exact h.cell (by omega)
  · exact .inl (by simp [fld])

end Go.Proofs.Ytlgjkmfekkegbaa
