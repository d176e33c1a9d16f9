import Derived.Test.YtpbpblpbjkegfaaBzM
namespace Go.Proofs.Ytpbpblpbjkegfaa
open Rec

/-- how many numbers below n have it -/
def ct (f : Nat → Bool) : Nat → Nat
  | 0 => 0
  | n + 1 => ct f n + (if f n then 1 else 0)
theorem ct_add (f : Nat → Bool) (a n : Nat) : ct f (a + n) = ct f a + ct (fun j => f (a + j)) n := by
  induction n with
  | zero => rfl
  | succ n ih => rw [← Nat.add_assoc, ct, ct, ih]; omega
theorem ct_cong {f g : Nat → Bool} {n : Nat} (h : ∀ j, j < n → f j = g j) : ct f n = ct g n := by
  induction n with
  | zero => rfl
  | succ n ih => rw [ct, ct, ih (fun j hj => h j (by omega)), h n (by omega)]
theorem ct_le (f : Nat → Bool) (n : Nat) : ct f n ≤ n := by
  induction n with
  | zero => exact Nat.le_refl _
  | succ n ih => rw [ct]; split <;> omega
theorem ct_zero {f : Nat → Bool} {n : Nat} : ct f n = 0 ↔ ∀ j, j < n → f j = false := by
  induction n with
  | zero => exact ⟨fun _ j hj => by omega, fun _ => rfl⟩
  | succ n ih =>
    rw [ct]
    constructor
    · intro h j hj
      by_cases e : f n = true
      · rw [if_pos e] at h; omega
      · rw [if_neg e] at h
        by_cases ej : j = n
        · subst ej; simpa using e
        · exact ih.1 (by omega) j (by omega)
    · intro h
      rw [ih.2 (fun j hj => h j (by omega)), h n (by omega)]
      rfl
theorem ct_set {f : Nat → Bool} {n i : Nat} (hi : i < n) (b : Bool) : ct (fun j => if j = i then b else f j) n + (if f i then 1 else 0) = ct f n + (if b then 1 else 0) := by
  induction n with
  | zero => omega
  | succ n ih =>
    rw [ct, ct]
    by_cases e : i = n
    · subst e
      have : ct (fun j => if j = i then b else f j) i = ct f i := ct_cong fun j hj => by rw [if_neg (by omega)]
      rw [this]
      simp
      omega
    · have := ih (by omega)
      rw [if_neg (c := n = i) (fun h => e h.symm)]
      omega
/-- the lowest that has it -/
def IsLo (f : Nat → Bool) (i : Nat) : Prop := f i = true ∧ ∀ j, j < i → f j = false
theorem IsLo.eq {f : Nat → Bool} {i j : Nat} (h : IsLo f i) (k : IsLo f j) : i = j := by
  rcases Nat.lt_trichotomy i j with e | e | e
  · have := k.2 i e; rw [h.1] at this; cases this
  · exact e
  · have := h.2 j e; rw [k.1] at this; cases this
/-- of a row what is data -/
def clip (lo hi first : Nat) (p : Nat × Nat) : Nat := min (first + p.1 + p.2) hi - max (first + p.1) lo
def clips (lo hi first : Nat) : List (Nat × Nat) → Nat
  | [] => 0
  | p :: r => clip lo hi first p + clips lo hi first r
theorem clips_app (lo hi first : Nat) (a b : List (Nat × Nat)) : clips lo hi first (a ++ b) = clips lo hi first a + clips lo hi first b := by
  induction a with
  | nil => simp [clips]
  | cons p a ih => simp [clips, ih]; omega
theorem clips_snoc (lo hi first : Nat) (a : List (Nat × Nat)) (p : Nat × Nat) : clips lo hi first (a ++ [p]) = clips lo hi first a + clip lo hi first p := by
  rw [clips_app]; rfl
/-- bit j is off, and of a data block -/
def fb (lo hi first : Nat) (s : List Int) (j : Nat) : Bool := decide (lo ≤ first + j ∧ first + j < hi) && (bn s j == 0)
theorem ct_off (lo hi first : Nat) (s : List Int) (a o : Nat) (h : ∀ j, a ≤ j → j < a + o → bn s j = 0) : ct (fun j => fb lo hi first s (a + j)) o = clip lo hi first (a, o) := by
  induction o with
  | zero => simp [ct, clip]; omega
  | succ o ih =>
    rw [ct, ih (fun j h1 h2 => h j h1 (by omega))]
    have h0 := h (a + o) (by omega) (by omega)
    simp only [fb, h0, clip, beq_self_eq_true, Bool.and_true, decide_eq_true_eq]
    split <;> omega
theorem rows_clip (lo hi first : Nat) (t : List Int) (n : Nat) : ct (fb lo hi first t) (n - offs t n) = clips lo hi first (rows t n) := by
  induction n with
  | zero => rfl
  | succ n ih =>
    have hle := offs_le t n
    rw [rows, offs, clips_app]
    rcases bn_or t n with h | h
    · rw [if_pos h, if_neg (by omega), Nat.add_sub_add_right, ih]; rfl
    · rw [if_neg (by omega), Nat.sub_zero, ct]
      have hz : fb lo hi first t n = false := by simp [fb, h]
      rw [hz, if_neg (by simp), Nat.add_zero]
      by_cases ho : 0 < offs t n
      · rw [if_pos ⟨h, ho⟩, ← ih]
        have e : n = (n - offs t n) + offs t n := by omega
        conv => lhs; rw [e]
        rw [ct_add, ct_off _ _ _ _ _ _ (fun j h1 h2 => (offs_off t n).1 j h1 (by omega))]
        rfl
      · rw [if_neg (fun x => ho x.2), ← ih, show offs t n = 0 by omega]; rfl
theorem fb_app {lo hi first : Nat} {s m : List Int} {j : Nat} (h : j < 8 * s.length) : fb lo hi first (s ++ m) j = fb lo hi first s j := by rw [fb, fb, bn_app h]
theorem runs_clip (lo hi first : Nat) (s : List Int) : clips lo hi first (runs s) = ct (fb lo hi first s) (8 * s.length) := by
  have h := rows_clip lo hi first (s ++ [255]) (8 * s.length + 1)
  rw [(rows_all s 1 (by omega) (by omega)).1, (rows_all s 1 (by omega) (by omega)).2, Nat.sub_zero, ct] at h
  have hz : fb lo hi first (s ++ [255]) (8 * s.length) = false := by simp [fb, bn_255 (l := s) (Nat.le_refl _) (by omega)]
  rw [hz, if_neg (by simp), Nat.add_zero] at h
  rw [← h]
  exact ct_cong fun j hj => fb_app hj
theorem rows_upto (lo hi first : Nat) (t : List Int) (n : Nat) (pre : List (Nat × Nat)) (p : Nat × Nat) (h : pre ++ [p] <+: rows t n) : ct (fb lo hi first t) p.1 = clips lo hi first pre := by
  induction n with
  | zero => obtain ⟨u, hu⟩ := h; simp [rows] at hu
  | succ n ih =>
    rw [rows] at h
    split at h
    · rcases snoc_prefix h with e | ⟨rfl, rfl⟩
      · exact ih e
      · exact rows_clip lo hi first t n
    · rw [List.append_nil] at h; exact ih h
theorem runs_upto (lo hi first : Nat) (s : List Int) (pre : List (Nat × Nat)) (p : Nat × Nat) (h : pre ++ [p] <+: runs s) : ct (fb lo hi first s) p.1 = clips lo hi first pre := by
  have hr := runs_row (h.subset (List.mem_append_right _ (.head _)))
  have htop := hr.top
  rw [← (rows_all s 1 (by omega) (by omega)).1] at h
  rw [← rows_upto lo hi first _ _ pre p h]
  exact (ct_cong fun j hj => fb_app (by omega)).symm
/-- the first row that meets the data: its first block is the lowest one -/
theorem first_clip {lo hi first : Nat} {s : List Int} {pre : List (Nat × Nat)} {p : Nat × Nat} (h : pre ++ [p] <+: runs s) (h0 : clips lo hi first pre = 0) (hp : max (first + p.1) lo < min (first + p.1 + p.2) hi) :
    ∃ j, max (first + p.1) lo = first + j ∧ j < 8 * s.length ∧ IsLo (fb lo hi first s) j := by
  have hr := runs_row (h.subset (List.mem_append_right _ (.head _)))
  have htop := hr.top
  refine ⟨max (first + p.1) lo - first, by omega, by omega, ?_, fun i hii => ?_⟩
  · have := hr.off (max (first + p.1) lo - first) (by omega) (by omega)
    simp only [fb, this, beq_self_eq_true, Bool.and_true, decide_eq_true_eq]
    omega
  · by_cases e : i < p.1
    · exact ct_zero.1 ((runs_upto lo hi first s pre p h).trans h0) i e
    · simp only [fb, Bool.and_eq_false_iff, decide_eq_false_iff_not]
      left
      omega
/-- the bit of block i in the bitmap B, told in blocks of 512 bytes -/
def isT (B : Nat → List Int) (i : Nat) : Bool := bt (B (i / 4096)) (i % 4096)
def fd (lo hi : Nat) (B : Nat → List Int) (i : Nat) : Bool := decide (lo ≤ i ∧ i < hi) && !isT B i
theorem isT_at (B : Nat → List Int) (k j : Nat) (h : j < 4096) : isT B (4096 * k + j) = bt (B k) j := by
  rw [isT, show (4096 * k + j) / 4096 = k by omega, show (4096 * k + j) % 4096 = j by omega]
theorem fd_at (lo hi : Nat) (B : Nat → List Int) (k j : Nat) (h : j < 4096) : fd lo hi B (4096 * k + j) = fb lo hi (4096 * k) (B k) j := by
  rw [fd, fb, isT_at B k j h]
  congr 1
  rcases bn_or (B k) j with e | e <;> simp [bt, e]
theorem ct_blk (lo hi : Nat) (B : Nat → List Int) (k : Nat) : ct (fd lo hi B) (4096 * (k + 1)) = ct (fd lo hi B) (4096 * k) + ct (fb lo hi (4096 * k) (B k)) 4096 := by
  rw [show 4096 * (k + 1) = 4096 * k + 4096 by omega, ct_add, ct_cong (n := 4096) fun j hj => fd_at lo hi B k j hj]
theorem lo_blk {lo hi : Nat} {B : Nat → List Int} {k j : Nat} (h0 : ct (fd lo hi B) (4096 * k) = 0) (hj : j < 4096) (h : IsLo (fb lo hi (4096 * k) (B k)) j) : IsLo (fd lo hi B) (4096 * k + j) := by
  refine ⟨by rw [fd_at _ _ _ _ _ hj]; exact h.1, fun i hi => ?_⟩
  by_cases e : i < 4096 * k
  · exact ct_zero.1 h0 i e
  · obtain ⟨m, rfl⟩ : ∃ m, i = 4096 * k + m := ⟨i - 4096 * k, by omega⟩
    rw [fd_at _ _ _ _ _ (by omega)]
    exact h.2 m (by omega)
theorem ct_tail {lo hi : Nat} {B : Nat → List Int} {n : Nat} (h : hi ≤ n) : ct (fd lo hi B) n = ct (fd lo hi B) hi := by
  obtain ⟨m, rfl⟩ : ∃ m, n = hi + m := ⟨n - hi, by omega⟩
  rw [ct_add, (ct_zero (n := m)).2 (fun j hj => by simp [fd]; omega), Nat.add_zero]
/-- the bitmap with i's bit put -/
def setT (B : Nat → List Int) (i : Nat) (on : Bool) : Nat → List Int := fun k => if k = i / 4096 then bput (B k) (i % 4096) on else B k
structure Bm (B : Nat → List Int) (M : Nat) : Prop where
  len : ∀ k, k < M → (B k).length = 512
  wf : ∀ k, k < M → ∀ i, 0 ≤ nth (B k) i ∧ nth (B k) i < 256
theorem isT_set {B : Nat → List Int} {M : Nat} (h : Bm B M) (i : Nat) (hi : i / 4096 < M) (on : Bool) (j : Nat) : isT (setT B i on) j = if j = i then on else isT B j := by
  rw [isT, setT]
  by_cases e : j / 4096 = i / 4096
  · rw [if_pos e]
    have hb := bn_bput (B (j / 4096)) (i % 4096) (j % 4096) on (h.wf _ (by omega)) (by rw [h.len _ (by omega)]; omega)
    rw [bt, hb]
    by_cases ej : j = i
    · subst ej
      rw [if_pos rfl, if_pos rfl]
      cases on <;> rfl
    · rw [if_neg (by omega), if_neg ej]; rfl
  · rw [if_neg e, if_neg (fun x => e (by rw [x]))]; rfl
theorem fd_set {B : Nat → List Int} {M : Nat} (h : Bm B M) (lo hi i : Nat) (hM : i / 4096 < M) (h0 : lo ≤ i) (h1 : i < hi) (on : Bool) : fd lo hi (setT B i on) = fun j => if j = i then !on else fd lo hi B j := by
  funext j
  rw [fd, isT_set h i hM]
  by_cases e : j = i
  · subst e
    rw [if_pos rfl, if_pos rfl]
    simp [h0, h1]
  · rw [if_neg e, if_neg e]; rfl
end Go.Proofs.Ytpbpblpbjkegfaa
