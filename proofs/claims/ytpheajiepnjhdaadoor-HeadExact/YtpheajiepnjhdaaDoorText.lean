import Derived.Test.YtpheajiepnjhdaaDoorZero
import Derived.Deep.DeepCutAuto
namespace Go.Proofs.YtpheajiepnjhdaaDoor
open Go.RowKit Rec

theorem str_of {w : World} {b off n c : Nat} {l : List Int} (hB : Bytes w (some ⟨b, off, none⟩) l) (hn : l.length = n) :
    (convert 23 9 (.slice (some ⟨b, off, none⟩) n c)).run Tryd.prog w = .ok (.string (strOfNums l)) w := by
  have hc : ∀ i, i < n → w.cell? ⟨b, off + i, none⟩ = some (.int .u8 (nth l i)) := by
    rcases hB.at_ with h | ⟨b, off, e, hc⟩
    · subst h; simp at hn; subst hn
      intro i hi; omega
    · cases e; intro i hi; exact hc i (by omega)
  exact run_convert_bytes_arg (P := Tryd.prog) w 23 5 Tryd.underlying23 Tryd.underlying5 b off n c l hn (fun i hi => hc i hi) 9 Tryd.underlying9

theorem fld_take (l : List Int) (A N k : Nat) (h : k ≤ N) : fld l A k = (fld l A N).take k := by
  unfold fld; rw [List.take_take, Nat.min_eq_left h]

set_option maxRecDepth 100000 in
set_option maxHeartbeats 1000000 in
theorem text_in (w : World) (b off n c A N : Nat) (l : List Int) (S : ByteArray) (E : Int) (hn : l.length = n) (hO : Bytes w (some ⟨b, off, none⟩) l) (hc : n ≤ c) (hA : A + N ≤ n)
    (hR : (cl l A N = true ∧ S = strOfNums (fld l A (fz l A N)) ∧ E = 0) ∨ (cl l A N = false ∧ S = strOfNums [] ∧ E = 1)) :
    Calls Tryd.prog 86 #[.slice (some ⟨b, off, none⟩) n c, .int .i64 A, .int .i64 N] w fun e w' => e = .returned (.tuple #[.string S, .int .i64 E]) ∧ w = w' := by
  have hlen := hO.len
  rw [hn] at hlen
  obtain ⟨z1, z2, z3⟩ := fz_spec l A N
  have HF : Hid (∀ B X M, B = off + X ∨ M = 0 → X + M ≤ n → Bytes w (some ⟨b, B, none⟩) (fld l X M)) := fun B X M hB hX => hO.field (by omega) B hB
  have HL : Hid (∀ X M, X + M ≤ n → (fld l X M).length = M) := fun X M h => fld_length _ _ _ (by omega)
  have HS : Hid (∀ B X M c, B = off + X ∨ M = 0 → X + M ≤ n → (convert 23 9 (.slice (some ⟨b, B, none⟩) M c)).run Tryd.prog w = .ok (.string (strOfNums (fld l X M))) w) := fun B X M c hB hX => str_of (HF.out B X M hB hX) (HL.out X M hX)
  have hl : Hid (lies n A N = true) := by unfold lies; exact decide_eq_true (by omega)
  have HZ : Hid (fz (fld l A N) 0 N = fz l A N) := fz_fld l A N
  have hC : cl l A N = zr l (A + fz l A N) (N - fz l A N) := rfl
  rw [hC] at hR
  generalize fz l A N = k at *
  have HR : Hid ((zr l (A + k) (N - k) = true ∧ S = strOfNums (fld l A k) ∧ E = 0) ∨ (zr l (A + k) (N - k) = false ∧ S = strOfNums [] ∧ E = 1)) := hR
  clear hO hn z2 z3 hR hC
  go_enter Tryd.func86, Tryd.ntmps86
  go_wp2_with (go_at_call 80; refine (lie_any _ _ _ _ _ _ (by omega) (by omega) (by omega)).mono ?_; rintro e w' ⟨rfl, rfl⟩; rw [hl.out])
  all_goals
    refine (index_any _ _ _ _ _ _ (HL.out A N hA) (HF.out _ A N (by omega) hA)).mono ?_
    rintro e w' ⟨r1, hr, rfl, rfl⟩
    unfold Found at hr
    rw [HZ.out] at hr
  case inl =>
    obtain rfl : N = 0 := by omega
    obtain rfl : k = 0 := by omega
    obtain rfl : r1 = -1 := by omega
    clear hr
    have hs := HS.out off A 0 0 (by omega) hA
    go_wp2
    go_ret2
    rcases HR.out with ⟨_, e1, e2⟩ | ⟨e0, _, _⟩
    · rw [e1, e2]; exact ⟨rfl, rfl⟩
    · rw [zr_true _ _ _ (fun i hi => absurd hi (by omega))] at e0; cases e0
  rcases hr with ⟨rfl, hk⟩ | ⟨rfl, hk⟩
  · subst hk
    have hs := HS.out (off + A) A k (c - A) (by omega) hA
    go_wp2
    go_ret2
    rcases HR.out with ⟨_, e1, e2⟩ | ⟨e0, _, _⟩
    · rw [e1, e2]; exact ⟨rfl, rfl⟩
    · rw [zr_true _ _ _ (fun i hi => absurd hi (by omega))] at e0; cases e0
  · have hs := HS.out (off + A) A k (c - A) (by omega) (by omega)
    go_wp2_with (go_at_call 102; refine (allZero_any _ _ _ _ (fld l (A + k) (N - k)) (HL.out _ _ (by omega)) (HF.out _ _ _ (by omega) (by omega))).mono ?_; rintro e w' ⟨rfl, rfl⟩; rw [zr_fld])
    all_goals
      rename_i hz
      go_ret2
      rcases HR.out with ⟨e0, e1, e2⟩ | ⟨e0, e1, e2⟩
    · rw [e0] at hz; cases hz
    · rw [e1, e2]; exact ⟨rfl, rfl⟩
    · rw [e1, e2]; exact ⟨rfl, rfl⟩
    · rw [e0] at hz; cases hz
end Go.Proofs.YtpheajiepnjhdaaDoor
