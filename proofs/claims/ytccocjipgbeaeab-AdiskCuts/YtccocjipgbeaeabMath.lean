namespace Adk
/-- one of a row's numbers -/
def nth (l : List Int) (k : Nat) : Int := l.getD k 0
/-- n bytes from 'at' on are f's -/
def ov (l : List Int) (at_ n : Nat) (f : Nat → Int) : List Int := (List.range l.length).map fun i => if at_ ≤ i ∧ i < at_ + n then f (i - at_) else nth l i

theorem ext_nth {a b : List Int} (hl : a.length = b.length) (h : ∀ i, i < a.length → nth a i = nth b i) : a = b := by
  apply List.ext_getElem hl
  intro i h1 h2
  have := h i h1
  simpa [nth, List.getD, h1, h2] using this
theorem nth_set (l : List Int) (k i : Nat) (c : Int) (hk : k < l.length) : nth (l.set k c) i = if i = k then c else nth l i := by
  unfold nth
  simp only [List.getD, List.getElem?_set]
  by_cases h : k = i
  · subst h; simp [hk]
  · have : ¬ i = k := fun e => h e.symm
    simp [h, this]
theorem ov_length (l : List Int) (at_ n : Nat) (f : Nat → Int) : (ov l at_ n f).length = l.length := by simp [ov]
theorem nth_out (l : List Int) (i : Nat) (h : l.length ≤ i) : nth l i = 0 := by simp [nth, List.getD, h]
theorem nth_ov (l : List Int) (at_ n : Nat) (f : Nat → Int) (i : Nat) (hi : i < l.length) : nth (ov l at_ n f) i = if at_ ≤ i ∧ i < at_ + n then f (i - at_) else nth l i := by
  show (ov l at_ n f).getD i 0 = _
  rw [List.getD, ov, List.getElem?_map, List.getElem?_range hi]; rfl
theorem ov_zero (l : List Int) (at_ : Nat) (f : Nat → Int) : ov l at_ 0 f = l := by
  refine ext_nth (ov_length _ _ _ _) fun i hi => ?_
  rw [ov_length] at hi
  rw [nth_ov _ _ _ _ _ hi, if_neg (by omega)]
theorem ov_set (l : List Int) (at_ k : Nat) (f : Nat → Int) (h : at_ + k < l.length) : (ov l at_ k f).set (at_ + k) (f k) = ov l at_ (k + 1) f := by
  refine ext_nth (by simp [ov_length]) fun i hi => ?_
  have hi' : i < l.length := by simpa [ov_length] using hi
  rw [nth_set _ _ _ _ (by rw [ov_length]; exact h), nth_ov _ _ _ _ _ hi', nth_ov _ _ _ _ _ hi']
  by_cases e : i = at_ + k
  · subst e; rw [if_pos rfl, if_pos (by omega), Nat.add_sub_cancel_left]
  · rw [if_neg e]
    by_cases h2 : at_ ≤ i ∧ i < at_ + k
    · rw [if_pos h2, if_pos (by omega)]
    · rw [if_neg h2, if_neg (by omega)]
theorem ov_ov (l : List Int) (at_ m n : Nat) (f g h : Nat → Int) (h1 : ∀ i, i < m → f i = h i) (h2 : ∀ i, i < n → g i = h (m + i)) :
    ov (ov l at_ m f) (at_ + m) n g = ov l at_ (m + n) h := by
  refine ext_nth (by simp [ov_length]) fun i hi => ?_
  have hi' : i < l.length := by simpa [ov_length] using hi
  rw [nth_ov _ _ _ _ _ (by rw [ov_length]; exact hi'), nth_ov _ _ _ _ _ hi', nth_ov _ _ _ _ _ hi']
  by_cases c1 : at_ + m ≤ i ∧ i < at_ + m + n
  · rw [if_pos c1, if_pos (by omega), h2 _ (by omega)]; congr 1; omega
  · rw [if_neg c1]
    by_cases c2 : at_ ≤ i ∧ i < at_ + m
    · rw [if_pos c2, if_pos (by omega), h1 _ (by omega)]
    · rw [if_neg c2, if_neg (by omega)]
theorem wf_ov (l : List Int) (at_ n : Nat) (f : Nat → Int) (hl : ∀ i, 0 ≤ nth l i ∧ nth l i < 256) (hf : ∀ i, i < n → 0 ≤ f i ∧ f i < 256) (i : Nat) : 0 ≤ nth (ov l at_ n f) i ∧ nth (ov l at_ n f) i < 256 := by
  by_cases hi : i < l.length
  · rw [nth_ov _ _ _ _ _ hi]
    split
    · exact hf _ (by omega)
    · exact hl i
  · rw [nth_out _ _ (by rw [ov_length]; omega)]; omega
theorem ov_append (l m : List Int) (at_ n : Nat) (f : Nat → Int) (h : at_ + n ≤ l.length) : ov (l ++ m) at_ n f = ov l at_ n f ++ m := by
  refine ext_nth (by simp [ov_length]) fun i hi => ?_
  rw [ov_length] at hi
  rw [nth_ov _ _ _ _ _ hi]
  by_cases c : i < l.length
  · have e1 : nth (ov l at_ n f ++ m) i = nth (ov l at_ n f) i := by simp [nth, List.getD, List.getElem?_append, ov_length, c]
    have e2 : nth (l ++ m) i = nth l i := by simp [nth, List.getD, List.getElem?_append, c]
    rw [e1, nth_ov _ _ _ _ _ c, e2]
  · rw [if_neg (by omega)]
    simp [nth, List.getD, List.getElem?_append, ov_length, c]
theorem ov_append2 (a l : List Int) (at_ n : Nat) (f : Nat → Int) (h : at_ = a.length) : ov (a ++ l) at_ n f = a ++ ov l 0 n f := by
  subst h
  refine ext_nth (by simp [ov_length]) fun i hi => ?_
  rw [ov_length] at hi
  rw [nth_ov _ _ _ _ _ hi]
  simp at hi
  by_cases c : i < a.length
  · rw [if_neg (by omega)]
    simp [nth, List.getD, List.getElem?_append, c]
  · have e1 : nth (a ++ ov l 0 n f) i = nth (ov l 0 n f) (i - a.length) := by simp [nth, List.getD, List.getElem?_append, c]
    have e2 : nth (a ++ l) i = nth l (i - a.length) := by simp [nth, List.getD, List.getElem?_append, c]
    rw [e1, nth_ov _ _ _ _ _ (by omega), e2]
    by_cases d : a.length ≤ i ∧ i < a.length + n
    · rw [if_pos d, if_pos (by omega)]; simp
    · rw [if_neg d, if_neg (by omega)]
/-- a string's bytes -/
def sb (s : ByteArray) : List Int := s.data.toList.map fun c => (c.toNat : Int)
theorem sb_length (s : ByteArray) : (sb s).length = s.size := by rw [sb, List.length_map, Array.length_toList]; rfl
theorem sb_nth (s : ByteArray) (k : Nat) (h : k < s.size) : nth (sb s) k = (s[k].toNat : Int) := by
  have h' : k < s.data.size := h
  rw [nth, sb, List.getD, List.getElem?_map, Array.getElem?_toList, Array.getElem?_eq_getElem h']; rfl
theorem sb_bd (s : ByteArray) (k : Nat) : 0 ≤ nth (sb s) k ∧ nth (sb s) k < 256 := by
  by_cases h : k < s.size
  · rw [sb_nth s k h]
    have := s[k].toNat_lt
    omega
  · rw [nth_out _ _ (by rw [sb_length]; omega)]; omega
/-- a block laid over -/
def wr (l : List Int) (b : Nat) (x : List Int) : List Int := ov l (512 * b) 512 (nth x)
theorem wr_length (l : List Int) (b : Nat) (x : List Int) : (wr l b x).length = l.length := ov_length _ _ _ _
theorem nth_wr (l : List Int) (b : Nat) (x : List Int) (i : Nat) (hi : i < l.length) : nth (wr l b x) i = if i / 512 = b then nth x (i % 512) else nth l i := by
  rw [wr, nth_ov _ _ _ _ _ hi]
  by_cases h : i / 512 = b
  · rw [if_pos (by omega), if_pos h]; congr 1; omega
  · rw [if_neg (by omega), if_neg h]
/-- those that are kept are laid over, in their order -/
def lay (kp : Nat → Bool) (f : Nat → Nat) (x : Nat → List Int) (l : List Int) : Nat → List Int
  | 0 => l
  | k + 1 => if kp k then wr (lay kp f x l k) (f k) (x k) else lay kp f x l k
theorem lay_length (kp : Nat → Bool) (f : Nat → Nat) (x : Nat → List Int) (l : List Int) (k : Nat) : (lay kp f x l k).length = l.length := by
  induction k with
  | zero => rfl
  | succ k ih => rw [lay]; split; rw [wr_length, ih]; exact ih
theorem lay_congr {kp kp' : Nat → Bool} {f f' : Nat → Nat} {x x' : Nat → List Int} (l : List Int) (n : Nat) (h : ∀ k, k < n → kp k = kp' k ∧ f k = f' k ∧ x k = x' k) : lay kp f x l n = lay kp' f' x' l n := by
  induction n with
  | zero => rfl
  | succ n ih =>
    obtain ⟨h1, h2, h3⟩ := h n (by omega)
    rw [lay, lay, ih (fun k hk => h k (by omega)), h1, h2, h3]
/-- numbers made zero -/
def nz (f : Nat → Nat) (l : List Int) : Nat → List Int
  | 0 => l
  | k + 1 => (nz f l k).set (f k) 0
theorem nz_length (f : Nat → Nat) (l : List Int) (k : Nat) : (nz f l k).length = l.length := by
  induction k with
  | zero => rfl
  | succ k ih => rw [nz, List.length_set, ih]
/-- how many there are up to the last of them that is b; 0 if none is -/
def lst (f : Nat → Nat) (b : Nat) : Nat → Nat
  | 0 => 0
  | k + 1 => if f k = b then k + 1 else lst f b k
theorem lst_le (f : Nat → Nat) (b k : Nat) : lst f b k ≤ k := by
  induction k with
  | zero => exact Nat.le_refl _
  | succ k ih => rw [lst]; split <;> omega
theorem lst_pos (f : Nat → Nat) (b k : Nat) (h : 0 < lst f b k) : f (lst f b k - 1) = b := by
  induction k with
  | zero => simp [lst] at h
  | succ k ih =>
    rw [lst] at h ⊢
    by_cases e : f k = b
    · rw [if_pos e]; simpa using e
    · rw [if_neg e] at h ⊢; exact ih h
theorem lst_congr {f f' : Nat → Nat} (b n : Nat) (h : ∀ k, k < n → f k = f' k) : lst f b n = lst f' b n := by
  induction n with
  | zero => rfl
  | succ n ih => rw [lst, lst, ih (fun k hk => h k (by omega)), h n (by omega)]
/-- the list of these -/
def newest (f : Nat → Nat) (N n : Nat) : List Int := (List.range N).map fun b => (lst f b n : Int)
theorem newest_length (f : Nat → Nat) (N n : Nat) : (newest f N n).length = N := by simp [newest]
theorem nth_newest (f : Nat → Nat) (N n b : Nat) (h : b < N) : nth (newest f N n) b = (lst f b n : Int) := by simp [newest, nth, List.getD, h]
theorem newest_set (f : Nat → Nat) (N n : Nat) (h : f n < N) : (newest f N n).set (f n) ((n : Int) + 1) = newest f N (n + 1) := by
  refine ext_nth (by simp [newest_length]) fun i hi => ?_
  rw [List.length_set, newest_length] at hi
  rw [nth_set _ _ _ _ (by rw [newest_length]; exact h), nth_newest _ _ _ _ hi, nth_newest _ _ _ _ hi, lst]
  by_cases e : i = f n
  · rw [if_pos e, if_pos e.symm]; rfl
  · rw [if_neg e, if_neg (fun x => e x.symm)]
theorem newest_zero (f : Nat → Nat) (N : Nat) : newest f N 0 = List.replicate N 0 := by
  refine ext_nth (by simp [newest_length]) fun i hi => ?_
  rw [newest_length] at hi
  rw [nth_newest _ _ _ _ hi]
  simp [lst, nth, List.getD, hi]
theorem newest_congr {f f' : Nat → Nat} (N n : Nat) (h : ∀ k, k < n → f k = f' k) : newest f N n = newest f' N n := by
  unfold newest
  apply List.map_congr_left
  intro b _
  rw [lst_congr b n h]
theorem nth_nz (f : Nat → Nat) (l : List Int) (k i : Nat) (hf : ∀ j, j < k → f j < l.length) : nth (nz f l k) i = if lst f i k = 0 then nth l i else 0 := by
  induction k with
  | zero => simp [nz, lst]
  | succ k ih =>
    rw [nz, nth_set _ _ _ _ (by rw [nz_length]; exact hf k (by omega)), ih (fun j hj => hf j (by omega)), lst]
    by_cases e : i = f k
    · simp [e]
    · have e' : ¬ f k = i := fun x => e x.symm
      simp only [if_neg e, if_neg e']
theorem nz_newest (f : Nat → Nat) (N n : Nat) (hf : ∀ j, j < n → f j < N) : nz f (newest f N n) n = List.replicate N 0 := by
  refine ext_nth (by simp [nz_length, newest_length]) fun i hi => ?_
  rw [nz_length, newest_length] at hi
  rw [nth_nz _ _ _ _ (by simpa [newest_length] using hf), nth_newest _ _ _ _ hi]
  have e : nth (List.replicate N 0) i = 0 := by simp [nth, List.getD, hi]
  rw [e]
  split <;> omega
/-- a block as all writes left it: the last one's bytes, or what lasts -/
theorem nth_lay_all (f : Nat → Nat) (x : Nat → List Int) (l : List Int) (n i : Nat) (hi : i < l.length) :
    nth (lay (fun _ => true) f x l n) i = if lst f (i / 512) n = 0 then nth l i else nth (x (lst f (i / 512) n - 1)) (i % 512) := by
  induction n with
  | zero => simp [lay, lst]
  | succ n ih =>
    rw [lay, if_pos rfl, nth_wr _ _ _ _ (by rw [lay_length]; exact hi), lst]
    by_cases e : i / 512 = f n
    · simp [e]
    · have e' : ¬ f n = i / 512 := fun h => e h.symm
      simp only [if_neg e, if_neg e']; exact ih
/-- block b's bytes -/
def blk (l : List Int) (b : Nat) : List Int := (l.drop (512 * b)).take 512
end Adk
