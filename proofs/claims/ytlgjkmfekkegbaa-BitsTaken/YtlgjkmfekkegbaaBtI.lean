import Derived.Test.YtlgjkmfekkegbaaBtE
import Derived.Test.YtlgjkmfekkegbaaOp8
namespace Go.Proofs.Ytlgjkmfekkegbaa
open Go.RowKit Rec

/-- is j one of the first i numbers, brought into 0 .. N - 1? -/
def gn (G : List Int) (N : Nat) : Nat → Nat → Bool
  | 0, _ => false
  | i + 1, j => gn G N i j || decide (nth G i % (N : Int) = (j : Int))
/-- the least of the first i -/
def lstG (G : List Int) (N : Nat) : Nat → Nat
  | 0 => N
  | i + 1 => min (lstG G N i) (nth G i % (N : Int)).toNat
theorem lst_gn (G : List Int) (N : Nat) (hN : 0 < N) (i : Nat) : lstG G N i ≤ N ∧ (∀ j, gn G N i j = true → lstG G N i ≤ j) ∧ (lstG G N i < N → gn G N i (lstG G N i) = true) := by
  induction i with
  | zero => exact ⟨Nat.le_refl _, fun j h => by simp [gn] at h, fun h => by simp [lstG] at h⟩
  | succ i ih =>
    have h0 := Int.emod_nonneg (nth G i) (b := (N : Int)) (by omega)
    have h1 := Int.emod_lt_of_pos (nth G i) (b := (N : Int)) (by omega)
    refine ⟨by rw [lstG]; omega, fun j h => ?_, fun h => ?_⟩
    · rw [gn, Bool.or_eq_true, decide_eq_true_eq] at h
      rw [lstG]
      rcases h with h | h
      · have := ih.2.1 j h; omega
      · omega
    · rw [gn, Bool.or_eq_true, decide_eq_true_eq]
      by_cases c : lstG G N i ≤ (nth G i % (N : Int)).toNat
      · have e : lstG G N (i + 1) = lstG G N i := by rw [lstG]; omega
        rw [e] at h ⊢
        exact .inl (ih.2.2 h)
      · have e : lstG G N (i + 1) = (nth G i % (N : Int)).toNat := by rw [lstG]; omega
        rw [e]
        right; omega
theorem lst_lt (G : List Int) (N : Nat) (hN : 0 < N) (i : Nat) : lstG G N (i + 1) < N := by
  have h1 := Int.emod_lt_of_pos (nth G i) (b := (N : Int)) (by omega)
  have h0 := Int.emod_nonneg (nth G i) (b := (N : Int)) (by omega)
  rw [lstG]; omega
/-- the bytes behind i that are put off -/
def Gone (x G : List Int) (N i : Nat) : Prop := ∀ j, j < N → bn x j = if gn G N i j then 0 else 1
theorem Gone.low {x G : List Int} {N i : Nat} (h : Gone x G N (i + 1)) (hN : 0 < N) (hl : 8 * x.length = N) : low x 0 = (lstG G N (i + 1) : Int) ∧ low x (lstG G N (i + 1)) = (lstG G N (i + 1) : Int) := by
  have h1 := lst_gn G N hN (i + 1)
  have h2 := lst_lt G N hN i
  have h3 : bn x (lstG G N (i + 1)) = 0 := by rw [h _ h2, h1.2.2 h2]; rfl
  have h4 : ∀ j, j < lstG G N (i + 1) → bn x j = 1 := fun j hj => by
    rw [h j (by omega)]
    rcases hg : gn G N (i + 1) j with _ | _
    · rfl
    · have := h1.2.1 j hg; omega
  exact ⟨by rw [low_skip (Nat.zero_le _) (fun j _ hj => h4 j hj)]; exact low_here h3 (by omega), low_here h3 (by omega)⟩
theorem Gone.put {x G : List Int} {N i : Nat} (h : Gone x G N i) (hx : ∀ i, 0 ≤ nth x i ∧ nth x i < 256) (hl : 8 * x.length = N) (k : Nat) (hk : nth G i % (N : Int) = (k : Int)) (hkN : k < N) : Gone (bput x k false) G N (i + 1) := fun j hj => by
  rw [bn_bput x k j false hx (by omega), gn, hk]
  by_cases e : j = k
  · subst e; simp
  · rw [if_neg e, h j hj]
    have : ¬ (k : Int) = (j : Int) := by omega
    simp [this]
theorem tmod_neg8 (v : Int) (n : Nat) (h0 : 0 < n) (h : v.tmod n < 0) : v.tmod n + n = v % n := by
  have h1 := Int.tmod_add_mul_tdiv v n
  have h2 := Int.lt_tmod_of_pos v (b := (n : Int)) (by omega)
  have h3 := Int.emod_nonneg v (b := (n : Int)) (by omega)
  have h4 := Int.emod_lt_of_pos v (b := (n : Int)) (by omega)
  have h5 : (v.tmod n + n) % n = v % n := by
    rw [Int.add_emod_right, Int.emod_eq_emod_iff_emod_sub_eq_zero]
    have : v.tmod n - v = n * (-(v.tdiv n)) := by rw [Int.mul_neg]; omega
    rw [this, Int.mul_emod_right]
  rw [← h5, Int.emod_eq_of_lt (by omega) (by omega)]
theorem tmod_pos8 (v : Int) (n : Nat) (h0 : 0 < n) (h : 0 ≤ v.tmod n) : v.tmod n = v % n := by
  have h1 := Int.tmod_add_mul_tdiv v n
  have h2 := Int.tmod_lt_of_pos v (b := (n : Int)) (by omega)
  have h5 : (v.tmod n) % n = v % n := by
    rw [Int.emod_eq_emod_iff_emod_sub_eq_zero]
    have : v.tmod n - v = n * (-(v.tdiv n)) := by rw [Int.mul_neg]; omega
    rw [this, Int.mul_emod_right]
  rw [← h5, Int.emod_eq_of_lt h (by omega)]
theorem mod8_any (w : World) (v : Int) (n : Nat) (h0 : 0 < n) (h1 : n ≤ 1000000000) :
    Calls Try.prog 14 #[.int .i64 v, .int .i64 (n : Int)] w fun e w' => e = .returned (.int .i64 (v % n)) ∧ w = w' := by
  go_enter Try.func14, Try.ntmps14
  by_cases h : v.tmod n < 0
  · have h2 : -(n : Int) ≤ v.tmod n := by
      have := tmod_neg8 v n h0 h
      have := Int.emod_nonneg v (b := n) (by omega)
      omega
    go_wp2
    go_ret
    refine ⟨?_, rfl⟩
    show Ending.returned (Value.int IntKind.i64 (v.tmod n + n)) = _
    rw [tmod_neg8 v n h0 h]
  · go_wp2
    go_ret
    refine ⟨?_, rfl⟩
    show Ending.returned (Value.int IntKind.i64 (v.tmod n)) = _
    rw [tmod_pos8 v n h0 (by omega)]
theorem Ints.cellI {w : World} {b off i : Nat} {l : List Int} (h : Ints w (some ⟨b, off, none⟩) l) (hi : i < l.length) : w.cell? ⟨b, off + i, none⟩ = some (.int .i64 (nth l i)) := by
  rcases h.at_ with e | ⟨b', off', e, hc⟩
  · subst e; exact absurd hi (by simp)
  · cases e; exact hc i hi
end Go.Proofs.Ytlgjkmfekkegbaa
