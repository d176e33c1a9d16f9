import Derived.Test.YtgkgcocpkammfaaGet
namespace Go.Proofs.Ytgkgcocpkammfaa
open Go.RowKit Rec

theorem OwnB.ovs {w : World} {g cap : Nat} {L : List Int} {A k : Nat} {f : Nat → Int} (h : OwnB w g cap (ov L A k f)) (hk : A + k < L.length) (hf : 0 ≤ f k ∧ f k < 256) :
    OwnB (w.setCell ⟨g, A + k, none⟩ (.int .u8 (f k))) g cap (ov L A (k + 1) f) := by
  have := h.set (A + k) (f k) (by rw [ov_length]; exact hk) hf
  rwa [ov_set _ _ _ _ hk] at this

end Go.Proofs.Ytgkgcocpkammfaa
