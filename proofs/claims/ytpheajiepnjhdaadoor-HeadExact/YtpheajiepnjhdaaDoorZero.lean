import Derived.Test.YtpheajiepnjhdaaDoorPut
namespace Go.Proofs.YtpheajiepnjhdaaDoor
open Go.RowKit Rec

/-- n bytes from A on -/
def fld (l : List Int) (A N : Nat) : List Int := (l.drop A).take N
theorem fld_length (l : List Int) (A N : Nat) (h : A + N ≤ l.length) : (fld l A N).length = N := by unfold fld; rw [List.length_take, List.length_drop]; omega
theorem nth_fld (l : List Int) (A N i : Nat) (h : i < N) : nth (fld l A N) i = nth l (A + i) := by unfold fld; rw [nth_take _ _ _ h, nth_drop]
theorem zr_fld (l : List Int) (A N : Nat) : zr (fld l A N) 0 N = zr l A N := by
  unfold zr
  refine decide_eq_decide.2 (forall_congr' fun i => ⟨fun h hi => ?_, fun h hi => ?_⟩)
  · have := h hi; rwa [Nat.zero_add, nth_fld _ _ _ _ hi] at this
  · rw [Nat.zero_add, nth_fld _ _ _ _ hi]; exact h hi
theorem fz_fld (l : List Int) (A N : Nat) : fz (fld l A N) 0 N = fz l A N := by
  obtain ⟨h1, h2, h3⟩ := fz_spec l A N
  refine fz_eq _ _ _ _ h1 (fun i hi => ?_) (fun h => ?_)
  · rw [Nat.zero_add, nth_fld _ _ _ _ (by omega)]; exact h2 i hi
  · rw [Nat.zero_add, nth_fld _ _ _ _ h]; exact h3 h
theorem wf_fld {l : List Int} (h : ∀ i, 0 ≤ nth l i ∧ nth l i < 256) (A N : Nat) : ∀ i, 0 ≤ nth (fld l A N) i ∧ nth (fld l A N) i < 256 := wf_take (wf_drop h A) N
theorem Bytes.field {w : World} {b off A N : Nat} {l : List Int} (h : Bytes w (some ⟨b, off, none⟩) l) (hA : A + N ≤ l.length) (B : Nat) (hB : B = off + A ∨ N = 0) : Bytes w (some ⟨b, B, none⟩) (fld l A N) := by
  have hl := h.len
  refine ⟨by rw [fld_length l A N hA]; omega, wf_fld h.wf A N, ?_⟩
  rcases hB with rfl | rfl
  · refine .inr ⟨b, off + A, rfl, fun i hi => ?_⟩
    rw [fld_length l A N hA] at hi
    rw [nth_fld _ _ _ _ hi, Nat.add_assoc]; exact h.cell (by omega)
  · exact .inl (by simp [fld])

set_option maxRecDepth 100000 in
set_option maxHeartbeats 800000 in
theorem zero_in (w : World) (b off n c A N : Nat) (l : List Int) (hn : l.length = n) (hO : Bytes w (some ⟨b, off, none⟩) l) (hc : n ≤ c) (hA : A + N ≤ n) :
    Calls Tryd.prog 85 #[.slice (some ⟨b, off, none⟩) n c, .int .i64 A, .int .i64 N] w fun e w' => e = .returned (.tuple #[.bool (zr l A N), .int .i64 0]) ∧ w = w' := by
  have hlen := hO.len
  rw [hn] at hlen
  have HF : Hid (∀ B, B = off + A ∨ N = 0 → Bytes w (some ⟨b, B, none⟩) (fld l A N)) := fun B hB => hO.field (by omega) B hB
  have HL : Hid ((fld l A N).length = N) := fld_length _ _ _ (by omega)
  have hl : Hid (lies n A N = true) := by unfold lies; exact decide_eq_true (by omega)
  clear hO hn
  go_enter Tryd.func85, Tryd.ntmps85
  go_wp2_with (go_at_call 80; refine (lie_any _ _ _ _ _ _ (by omega) (by omega) (by omega)).mono ?_; rintro e w' ⟨rfl, rfl⟩; rw [hl.out])
  all_goals
    refine (allZero_any _ _ _ _ _ HL.out (HF.out _ (by omega))).mono ?_
    rintro e w' ⟨rfl, rfl⟩
    rw [zr_fld]
    go_wp2
    go_ret2
    exact ⟨rfl, rfl⟩
end Go.Proofs.YtpheajiepnjhdaaDoor
