import Derived.Test.YtgkgcocpkammfaaPut
import Derived.Deep.DeepCutAuto
import Derived.Lib.LazyBuf
import Derived.Lib.BufferWrite
import Derived.Lib.SliceRun
namespace Go.Proofs.Ytgkgcocpkammfaa
open Go.RowKit Rec

/-- n bytes from A on -/
def fld (l : List Int) (A N : Nat) : List Int := (l.drop A).take N
theorem fld_length (l : List Int) (A N : Nat) (h : A + N ≤ l.length) : (fld l A N).length = N := by unfold fld; rw [List.length_take, List.length_drop]; omega
theorem nth_fld (l : List Int) (A N i : Nat) (h : i < N) : nth (fld l A N) i = nth l (A + i) := by unfold fld; rw [nth_take _ _ _ h, nth_drop]
theorem zr_fld (l : List Int) (A N : Nat) : zr (fld l A N) 0 N = zr l A N := by
  unfold zr
  refine decide_eq_decide.2 (forall_congr' fun i => ⟨fun h hi => ?_, fun h hi => ?_⟩)
  · have := h hi; rwa [Nat.zero_add, nth_fld _ _ _ _ hi] at this
  · rw [Nat.zero_add, nth_fld _ _ _ _ hi]; exact h hi
theorem fz_fld (l : List Int) (A N : Nat) : fz (fld l A N) 0 N = fz l A N := by
  obtain ⟨h1, h2, h3⟩ := fz_spec l A N
  refine fz_eq _ _ _ _ h1 (fun i hi => ?_) (fun h => ?_)
  · rw [Nat.zero_add, nth_fld _ _ _ _ (by omega)]; exact h2 i hi
  · rw [Nat.zero_add, nth_fld _ _ _ _ h]; exact h3 h
theorem wf_fld {l : List Int} (h : ∀ i, 0 ≤ nth l i ∧ nth l i < 256) (A N : Nat) : ∀ i, 0 ≤ nth (fld l A N) i ∧ nth (fld l A N) i < 256 := wf_take (wf_drop h A) N
theorem Bytes.field {w : World} {b off A N : Nat} {l : List Int} (h : Bytes w (some ⟨b, off, none⟩) l) (hA : A + N ≤ l.length) (B : Nat) (hB : B = off + A ∨ N = 0) : Bytes w (some ⟨b, B, none⟩) (fld l A N) := by
  have hl := h.len
  refine ⟨by rw [fld_length l A N hA]; omega, wf_fld h.wf A N, ?_⟩
  rcases hB with rfl | rfl
  · refine .inr ⟨b, off + A, rfl, fun i hi => ?_⟩
    rw [fld_length l A N hA] at hi
    rw [nth_fld _ _ _ _ hi, Nat.add_assoc]; exact h.cell (by omega)
  · exact .inl (by simp [fld])

end Go.Proofs.Ytgkgcocpkammfaa

namespace Go.Proofs.Ytgkgcocpkammfaa
open Go.RowKit Rec

theorem fld_take (l : List Int) (A N k : Nat) (h : k ≤ N) : fld l A k = (fld l A N).take k := by
  unfold fld; rw [List.take_take, Nat.min_eq_left h]

end Go.Proofs.Ytgkgcocpkammfaa

namespace Go.Proofs.Ytgkgcocpkammfaa
open Go.RowKit Rec

theorem OwnB.cells {g cap : Nat} : ∀ (m : List Int) (w : World) (off : Nat) (L : List Int), OwnB w g cap L → off + m.length ≤ L.length → (∀ i, 0 ≤ nth m i ∧ nth m i < 256) →
    OwnB (w.setCells g off (m.map (Value.int .u8))) g cap (ov L off m.length (nth m)) ∧ w.grownBy (w.setCells g off (m.map (Value.int .u8))) (some g)
  | [], w, off, L, h, _, _ => ⟨by rw [List.length_nil, ov_zero]; exact h, grown_refl _ _⟩
  | c :: t, w, off, L, h, hl, hw => by
    rw [List.length_cons] at hl
    have hc := hw 0
    have h1 := h.set off c (by omega) hc
    have hw' : ∀ i, 0 ≤ nth t i ∧ nth t i < 256 := fun i => hw (i + 1)
    have ⟨h2, h3⟩ := OwnB.cells t _ (off + 1) _ h1 (by rw [List.length_set]; omega) hw'
    refine ⟨?_, grown_trans grown_set h3⟩
    have e1 : L.set off c = ov L off 1 (nth (c :: t)) := by
      have := ov_set L off 0 (nth (c :: t)) (by omega)
      rw [ov_zero] at this
      exact this
    rw [e1] at h2
    rw [ov_ov L off 1 t.length (nth (c :: t)) (nth t) (nth (c :: t)) (fun _ _ => rfl) (fun i _ => by rw [Nat.add_comm]; rfl)] at h2
    rw [List.length_cons, Nat.add_comm]
    exact h2

theorem zero5 (w : World) : (zeroValue 5).run Try.prog w = .ok (.int .u8 0) w := by kernel_rfl
theorem sizeOf5 (w : World) : (Go.sizeOf 5).run Try.prog w = .ok 1 w := by kernel_rfl
theorem sb_cells (s : ByteArray) : (s.data.toList.map fun x => Value.int .u8 (x.toNat : Int)) = (sb s).map (Value.int .u8) := by unfold sb; rw [List.map_map]; rfl

end Go.Proofs.Ytgkgcocpkammfaa
