namespace Rec

/-- one of a row's numbers -/
def nth (l : List Int) (k : Nat) : Int := l.getD k 0
/-- is it a width? -/
def isW (n : Int) : Bool := n == 1 || n == 2 || n == 4 || n == 8
/-- do n bytes from 'at' on lie in so many? -/
def lies (size at_ n : Int) : Bool := decide (0 ≤ at_ ∧ at_ + n ≤ size)
/-- the number of n bytes from 'at' on -/
def num (l : List Int) (at_ : Nat) : Nat → Int
  | 0 => 0
  | n + 1 => num l at_ n + nth l (at_ + n) * 256 ^ n
/-- n bytes from 'at' on are f's -/
def ov (l : List Int) (at_ n : Nat) (f : Nat → Int) : List Int := (List.range l.length).map fun i => if at_ ≤ i ∧ i < at_ + n then f (i - at_) else nth l i
/-- a number's bytes -/
def dig (v : Int) (k : Nat) : Int := v / 256 ^ k % 256
/-- has a number that width? -/
def has (v n : Int) : Bool := decide (v < 256 ^ n.toNat)

theorem ext_nth {a b : List Int} (hl : a.length = b.length) (h : ∀ i, i < a.length → nth a i = nth b i) : a = b := by
  apply List.ext_getElem hl
  intro i h1 h2
  have := h i h1
  simpa [nth, List.getD, h1, h2] using this
theorem nth_set (l : List Int) (k i : Nat) (c : Int) (hk : k < l.length) : nth (l.set k c) i = if i = k then c else nth l i := by
  unfold nth
  simp only [List.getD, List.getElem?_set]
  by_cases h : k = i
  · subst h; simp [hk]
  · have : ¬ i = k := fun e => h e.symm
    simp [h, this]
theorem ov_length (l : List Int) (at_ n : Nat) (f : Nat → Int) : (ov l at_ n f).length = l.length := by simp [ov]
theorem nth_out (l : List Int) (i : Nat) (h : l.length ≤ i) : nth l i = 0 := by simp [nth, List.getD, h]
theorem nth_ov (l : List Int) (at_ n : Nat) (f : Nat → Int) (i : Nat) (hi : i < l.length) : nth (ov l at_ n f) i = if at_ ≤ i ∧ i < at_ + n then f (i - at_) else nth l i := by
  show (ov l at_ n f).getD i 0 = _
  rw [List.getD, ov, List.getElem?_map, List.getElem?_range hi]; rfl
theorem ov_zero (l : List Int) (at_ : Nat) (f : Nat → Int) : ov l at_ 0 f = l := by
  refine ext_nth (ov_length _ _ _ _) fun i hi => ?_
  rw [ov_length] at hi
  rw [nth_ov _ _ _ _ _ hi, if_neg (by omega)]
theorem ov_set (l : List Int) (at_ k : Nat) (f : Nat → Int) (h : at_ + k < l.length) : (ov l at_ k f).set (at_ + k) (f k) = ov l at_ (k + 1) f := by
  refine ext_nth (by simp [ov_length]) fun i hi => ?_
  have hi' : i < l.length := by simpa [ov_length] using hi
  rw [nth_set _ _ _ _ (by rw [ov_length]; exact h), nth_ov _ _ _ _ _ hi', nth_ov _ _ _ _ _ hi']
  by_cases e : i = at_ + k
  · subst e; rw [if_pos rfl, if_pos (by omega), Nat.add_sub_cancel_left]
  · rw [if_neg e]
    by_cases h2 : at_ ≤ i ∧ i < at_ + k
    · rw [if_pos h2, if_pos (by omega)]
    · rw [if_neg h2, if_neg (by omega)]
theorem ov_ov (l : List Int) (at_ m n : Nat) (f g h : Nat → Int) (h1 : ∀ i, i < m → f i = h i) (h2 : ∀ i, i < n → g i = h (m + i)) :
    ov (ov l at_ m f) (at_ + m) n g = ov l at_ (m + n) h := by
  refine ext_nth (by simp [ov_length]) fun i hi => ?_
  have hi' : i < l.length := by simpa [ov_length] using hi
  rw [nth_ov _ _ _ _ _ (by rw [ov_length]; exact hi'), nth_ov _ _ _ _ _ hi', nth_ov _ _ _ _ _ hi']
  by_cases c1 : at_ + m ≤ i ∧ i < at_ + m + n
  · rw [if_pos c1, if_pos (by omega), h2 _ (by omega)]; congr 1; omega
  · rw [if_neg c1]
    by_cases c2 : at_ ≤ i ∧ i < at_ + m
    · rw [if_pos c2, if_pos (by omega), h1 _ (by omega)]
    · rw [if_neg c2, if_neg (by omega)]
theorem wf_ov (l : List Int) (at_ n : Nat) (f : Nat → Int) (hl : ∀ i, 0 ≤ nth l i ∧ nth l i < 256) (hf : ∀ i, i < n → 0 ≤ f i ∧ f i < 256) (i : Nat) : 0 ≤ nth (ov l at_ n f) i ∧ nth (ov l at_ n f) i < 256 := by
  by_cases hi : i < l.length
  · rw [nth_ov _ _ _ _ _ hi]
    split
    · exact hf _ (by omega)
    · exact hl i
  · rw [nth_out _ _ (by rw [ov_length]; omega)]; omega
theorem ov_append (l m : List Int) (at_ n : Nat) (f : Nat → Int) (h : at_ + n ≤ l.length) : ov (l ++ m) at_ n f = ov l at_ n f ++ m := by
  refine ext_nth (by simp [ov_length]) fun i hi => ?_
  rw [ov_length] at hi
  rw [nth_ov _ _ _ _ _ hi]
  by_cases c : i < l.length
  · have e1 : nth (ov l at_ n f ++ m) i = nth (ov l at_ n f) i := by simp [nth, List.getD, List.getElem?_append, ov_length, c]
    have e2 : nth (l ++ m) i = nth l i := by simp [nth, List.getD, List.getElem?_append, c]
    rw [e1, nth_ov _ _ _ _ _ c, e2]
  · rw [if_neg (by omega)]
    simp [nth, List.getD, List.getElem?_append, ov_length, c]
theorem ov_append2 (a l : List Int) (at_ n : Nat) (f : Nat → Int) (h : at_ = a.length) : ov (a ++ l) at_ n f = a ++ ov l 0 n f := by
  subst h
  refine ext_nth (by simp [ov_length]) fun i hi => ?_
  rw [ov_length] at hi
  rw [nth_ov _ _ _ _ _ hi]
  simp at hi
  by_cases c : i < a.length
  · rw [if_neg (by omega)]
    simp [nth, List.getD, List.getElem?_append, c]
  · have e1 : nth (a ++ ov l 0 n f) i = nth (ov l 0 n f) (i - a.length) := by simp [nth, List.getD, List.getElem?_append, c]
    have e2 : nth (a ++ l) i = nth l (i - a.length) := by simp [nth, List.getD, List.getElem?_append, c]
    rw [e1, nth_ov _ _ _ _ _ (by omega), e2]
    by_cases d : a.length ≤ i ∧ i < a.length + n
    · rw [if_pos d, if_pos (by omega)]; simp
    · rw [if_neg d, if_neg (by omega)]
theorem dig_bd (v : Int) (k : Nat) : 0 ≤ dig v k ∧ dig v k < 256 := by unfold dig; omega
theorem pow_pos (n : Nat) : (0 : Int) < 256 ^ n := Int.pow_pos (by decide)
theorem num_ov (l : List Int) (at_ n m : Nat) (v : Int) (h : at_ + n ≤ l.length) (hm : m ≤ n) : num (ov l at_ n (dig v)) at_ m = v % 256 ^ m := by
  induction m with
  | zero => simp [num]
  | succ m ih =>
    have ih := ih (by omega)
    rw [num, ih, nth_ov _ _ _ _ _ (by omega), if_pos (by omega), Nat.add_sub_cancel_left, dig]
    have := pow_pos m
    rw [Int.pow_succ]
    generalize (256 : Int) ^ m = p at *
    have e1 := Int.emod_add_mul_ediv v p
    have e2 := Int.emod_add_mul_ediv (v / p) 256
    have b1 := Int.emod_nonneg v (Int.ne_of_gt this)
    have b2 := Int.emod_lt_of_pos v this
    have c1 : 0 ≤ v / p % 256 := by omega
    have c2 : v / p % 256 < 256 := by omega
    have hv : v = (v % p + v / p % 256 * p) + (p * 256) * (v / p / 256) := by
      have : p * (v / p) = p * (v / p % 256) + p * (256 * (v / p / 256)) := by rw [← Int.mul_add, e2]
      rw [Int.mul_assoc, Int.mul_comm (v / p % 256) p]; omega
    have hr : v % p + v / p % 256 * p < p * 256 := by
      have : v / p % 256 * p ≤ 255 * p := Int.mul_le_mul_of_nonneg_right (by omega) (by omega)
      omega
    have hr0 : 0 ≤ v % p + v / p % 256 * p := by
      have := Int.mul_nonneg c1 (Int.le_of_lt this)
      omega
    have : v % (p * 256) = v % p + v / p % 256 * p := by
      conv => lhs; rw [hv]
      rw [Int.add_mul_emod_self_left, Int.emod_eq_of_lt hr0 hr]
    rw [this]
theorem num_bd (l : List Int) (at_ n : Nat) (hl : ∀ i, 0 ≤ nth l i ∧ nth l i < 256) : 0 ≤ num l at_ n ∧ num l at_ n < 256 ^ n := by
  induction n with
  | zero => simp [num]
  | succ n ih =>
    have := hl (at_ + n)
    have p := pow_pos n
    rw [num, Int.pow_succ]
    refine ⟨by have := Int.mul_nonneg this.1 (Int.le_of_lt p); omega, ?_⟩
    have : nth l (at_ + n) * 256 ^ n ≤ 255 * 256 ^ n := Int.mul_le_mul_of_nonneg_right (by omega) (Int.le_of_lt p)
    omega

/-- how many bytes from 'at' on stand ahead of the first zero, of n -/
def fz (l : List Int) (at_ : Nat) : Nat → Nat
  | 0 => 0
  | n + 1 => if fz l at_ n = n ∧ nth l (at_ + n) ≠ 0 then n + 1 else fz l at_ n
theorem fz_spec (l : List Int) (at_ n : Nat) : fz l at_ n ≤ n ∧ (∀ i, i < fz l at_ n → nth l (at_ + i) ≠ 0) ∧ (fz l at_ n < n → nth l (at_ + fz l at_ n) = 0) := by
  induction n with
  | zero => exact ⟨Nat.le_refl _, fun i h => absurd h (by simp [fz]), fun h => absurd h (by simp [fz])⟩
  | succ n ih =>
    obtain ⟨h1, h2, h3⟩ := ih
    rw [fz]
    by_cases c : fz l at_ n = n ∧ nth l (at_ + n) ≠ 0
    · rw [if_pos c]
      refine ⟨Nat.le_refl _, fun i hi => ?_, fun h => absurd h (by omega)⟩
      by_cases e : i = n
      · subst e; exact c.2
      · exact h2 i (by omega)
    · rw [if_neg c]
      refine ⟨by omega, h2, fun _ => ?_⟩
      by_cases e : fz l at_ n = n
      · rw [e]
        exact Decidable.byContradiction fun h => c ⟨e, h⟩
      · exact h3 (by omega)
theorem fz_eq (l : List Int) (at_ n k : Nat) (h1 : k ≤ n) (h2 : ∀ i, i < k → nth l (at_ + i) ≠ 0) (h3 : k < n → nth l (at_ + k) = 0) : fz l at_ n = k := by
  obtain ⟨g1, g2, g3⟩ := fz_spec l at_ n
  rcases Nat.lt_trichotomy (fz l at_ n) k with h | h | h
  · exact absurd (g3 (by omega)) (h2 _ h)
  · exact h
  · exact absurd (h3 (by omega)) (g2 _ h)
/-- are n bytes from 'at' on zero? -/
def zr (l : List Int) (at_ n : Nat) : Bool := decide (∀ i, i < n → nth l (at_ + i) = 0)
/-- do but zeros stand behind the first zero? -/
def cl (l : List Int) (at_ n : Nat) : Bool := zr l (at_ + fz l at_ n) (n - fz l at_ n)
theorem zr_true (l : List Int) (at_ n : Nat) (h : ∀ i, i < n → nth l (at_ + i) = 0) : zr l at_ n = true := by simpa [zr] using h
theorem zr_false (l : List Int) (at_ n i : Nat) (hi : i < n) (h : nth l (at_ + i) ≠ 0) : zr l at_ n = false := by
  simp [zr]; exact ⟨i, hi, h⟩
/-- a string's bytes -/
def sb (s : ByteArray) : List Int := s.data.toList.map fun c => (c.toNat : Int)
theorem sb_length (s : ByteArray) : (sb s).length = s.size := by rw [sb, List.length_map, Array.length_toList]; rfl
theorem sb_nth (s : ByteArray) (k : Nat) (h : k < s.size) : nth (sb s) k = (s[k].toNat : Int) := by
  have h' : k < s.data.size := h
  rw [nth, sb, List.getD, List.getElem?_map, Array.getElem?_toList, Array.getElem?_eq_getElem h']; rfl
theorem sb_bd (s : ByteArray) (k : Nat) : 0 ≤ nth (sb s) k ∧ nth (sb s) k < 256 := by
  by_cases h : k < s.size
  · rw [sb_nth s k h]
    have := s[k].toNat_lt
    omega
  · rw [nth_out _ _ (by rw [sb_length]; omega)]; omega
/-- is a string a text of n bytes? -/
def tx (s : ByteArray) (n : Int) : Bool := decide ((s.size : Int) ≤ n) && decide (∀ i, i < s.size → nth (sb s) i ≠ 0)

def getV (l : List Int) (a n : Int) : Int := if isW n && lies l.length a n then num l a.toNat n.toNat else 0
def getE (l : List Int) (a n : Int) : Int := if isW n then if lies l.length a n then 0 else 20 else 1
def putE (l : List Int) (a n v : Int) : Int := if isW n && has v n then if lies l.length a n then 0 else 20 else 1
def putL (l : List Int) (a n v : Int) : List Int := if putE l a n v = 0 then ov l a.toNat n.toNat (dig v) else l
def texE (l : List Int) (a n : Int) : Int := if n < 0 then 1 else if lies l.length a n then if cl l a.toNat n.toNat then 0 else 1 else 20
def texL (l : List Int) (a n : Int) : List Int := if texE l a n = 0 then (l.drop a.toNat).take (fz l a.toNat n.toNat) else []
def ptxE (l : List Int) (a n : Int) (s : ByteArray) : Int := if tx s n then if lies l.length a n then 0 else 20 else 1
def ptxL (l : List Int) (a n : Int) (s : ByteArray) : List Int := if ptxE l a n s = 0 then ov l a.toNat n.toNat (nth (sb s)) else l
def zerE (l : List Int) (a n : Int) : Int := if n < 0 then 1 else if lies l.length a n then 0 else 20
def zerV (l : List Int) (a n : Int) : Bool := zerE l a n == 0 && zr l a.toNat n.toNat
end Rec
