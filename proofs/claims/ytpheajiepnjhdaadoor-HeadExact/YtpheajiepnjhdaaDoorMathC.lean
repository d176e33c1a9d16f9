namespace Go.Proofs.YtpheajiepnjhdaaDoor.Crc

abbrev W := BitVec 32

def pl (w : W) : W := if w.getLsbD 0 = true then (w >>> 1) ^^^ 0xEDB88320#32 else w >>> 1
def Lin (f : W → W) : Prop := ∀ a b, f (a ^^^ b) = f a ^^^ f b

theorem pl_lin : Lin pl := by
  intro a b
  unfold pl
  rw [BitVec.getLsbD_xor, BitVec.ushiftRight_xor_distrib]
  cases a.getLsbD 0 <;> cases b.getLsbD 0 <;> simp
  · rw [BitVec.xor_assoc]
  · rw [BitVec.xor_assoc, BitVec.xor_assoc, BitVec.xor_comm (b >>> 1)]
  · rw [BitVec.xor_assoc, ← BitVec.xor_assoc 3988292384#32, BitVec.xor_comm 3988292384#32, BitVec.xor_assoc (b >>> 1), BitVec.xor_self, BitVec.xor_zero]

def pw (f : W → W) : Nat → W → W
  | 0, w => w
  | n + 1, w => pw f n (f w)

theorem Lin.pw {f : W → W} (h : Lin f) : ∀ n, Lin (pw f n)
  | 0 => fun _ _ => rfl
  | n + 1 => fun a b => by
    show Crc.pw f n (f (a ^^^ b)) = Crc.pw f n (f a) ^^^ Crc.pw f n (f b)
    rw [h, Lin.pw h n]
theorem pw_add (f : W → W) (m : Nat) : ∀ n w, pw f (n + m) w = pw f m (pw f n w)
  | 0, w => by rw [Nat.zero_add]; rfl
  | n + 1, w => by
    rw [Nat.add_right_comm]
    show pw f (n + m) (f w) = pw f m (pw f n (f w))
    exact pw_add f m n (f w)
theorem pw_mul (f : W → W) (m : Nat) : ∀ n w, pw f (m * n) w = pw (pw f m) n w
  | 0, _ => rfl
  | n + 1, w => by
    rw [Nat.mul_succ, Nat.add_comm, pw_add, pw_mul f m n]; rfl
theorem Lin.zero {f : W → W} (h : Lin f) : f 0#32 = 0#32 := by
  have := h 0#32 0#32
  rw [BitVec.xor_self, BitVec.xor_self] at this
  exact this

def e8 (w : W) : W := pw pl 8 w
theorem e8_lin : Lin e8 := pl_lin.pw 8

/-- the low bits of a word -/
def low (w : W) (k : Nat) : W := BitVec.ofNat 32 (w.toNat % 2 ^ k)
theorem low_bit (w : W) (k i : Nat) (hi : i < 32) : (low w k).getLsbD i = (decide (i < k) && w.getLsbD i) := by
  unfold low
  rw [BitVec.getLsbD_ofNat, Nat.testBit_mod_two_pow]
  simp [hi, BitVec.getLsbD]
theorem one_bit (k i : Nat) (hi : i < 32) : (1#32 <<< k).getLsbD i = decide (i = k) := by
  rw [BitVec.getLsbD_shiftLeft]
  simp only [hi, decide_true, Bool.true_and, BitVec.getLsbD_one]
  by_cases h : i = k
  · subst h; simp
  · simp [h]; omega
theorem low_succ (w : W) (k : Nat) : low w (k + 1) = low w k ^^^ (if w.getLsbD k = true then 1#32 <<< k else 0#32) := by
  apply BitVec.eq_of_getLsbD_eq
  intro i hi
  rw [BitVec.getLsbD_xor, low_bit w _ i hi, low_bit w _ i hi]
  by_cases hw : w.getLsbD k = true
  · rw [if_pos hw, one_bit k i hi]
    by_cases h : i = k
    · subst h; simp [hw]
    · have : (i < k + 1) ↔ i < k := by omega
      simp [h, this]
  · rw [if_neg hw]
    by_cases h : i = k
    · subst h; simp [hw]
    · have : (i < k + 1) ↔ i < k := by omega
      simp [this]
theorem low_all (w : W) : low w 32 = w := by
  apply BitVec.eq_of_getLsbD_eq
  intro i hi
  rw [low_bit w _ i hi]; simp [hi]
theorem low_none (w : W) : low w 0 = 0#32 := by
  apply BitVec.eq_of_getLsbD_eq
  intro i hi
  rw [low_bit w _ i hi]; simp

/-- what is done to a word, by what is done to its first k bits -/
def app (z : Nat → W) (w : W) : Nat → W
  | 0 => 0#32
  | k + 1 => app z w k ^^^ (if w.getLsbD k = true then z k else 0#32)
theorem app_lin {f : W → W} (h : Lin f) (z : Nat → W) (w : W) : ∀ k, k ≤ 32 → (∀ i, i < 32 → z i = f (1#32 <<< i)) → app z w k = f (low w k)
  | 0, _, _ => by rw [low_none, h.zero]; rfl
  | k + 1, hk, hz => by
    show app z w k ^^^ (if w.getLsbD k = true then z k else 0#32) = f (low w (k + 1))
    rw [low_succ, h, app_lin h z w k (by omega) hz]
    by_cases hw : w.getLsbD k = true
    · rw [if_pos hw, if_pos hw, hz k (by omega)]
    · rw [if_neg hw, if_neg hw, h.zero]
theorem app_all {f : W → W} (h : Lin f) (z : Nat → W) (w : W) (hz : ∀ i, i < 32 → z i = f (1#32 <<< i)) : app z w 32 = f w := by
  rw [app_lin h z w 32 (Nat.le_refl _) hz, low_all]

/-- half a byte by the table -/
def tab : List Nat := [0, 498536548, 997073096, 651767980, 1994146192, 1802195444, 1303535960, 1342533948, 3988292384, 4027552580, 3604390888, 3412177804, 2607071920, 2262029012, 2685067896, 3183342108]
def half (w : W) : W := (w >>> 4) ^^^ BitVec.ofNat 32 (tab.getD (w.toNat % 16) 0)

theorem pl_even (w : W) (h : w.getLsbD 0 = false) : pl w = w >>> 1 := by unfold pl; rw [if_neg (by rw [h]; decide)]
theorem pw4_even (w : W) (h : ∀ i, i < 4 → w.getLsbD i = false) : pw pl 4 w = w >>> 4 := by
  show pl (pl (pl (pl w))) = w >>> 4
  have sh : ∀ k, k < 4 → (w >>> k).getLsbD 0 = false := fun k hk => by simp [h k hk]
  rw [pl_even w (h 0 (by omega)), pl_even (w >>> 1) (sh 1 (by omega)), ← BitVec.shiftRight_add, pl_even _ (sh 2 (by omega)), ← BitVec.shiftRight_add, pl_even _ (sh 3 (by omega)), ← BitVec.shiftRight_add]
theorem tab_ok : ∀ k, k < 16 → pw pl 4 (BitVec.ofNat 32 k) = BitVec.ofNat 32 (tab.getD k 0) := by decide +kernel
theorem half_ok (w : W) : half w = pw pl 4 w := by
  have e : w = (w ^^^ low w 4) ^^^ low w 4 := by rw [BitVec.xor_assoc, BitVec.xor_self, BitVec.xor_zero]
  have h0 : ∀ i, i < 4 → (w ^^^ low w 4).getLsbD i = false := fun i hi => by rw [BitVec.getLsbD_xor, low_bit w 4 i (by omega)]; simp [hi]
  have e2 : w >>> 4 = (w ^^^ low w 4) >>> 4 := by
    apply BitVec.eq_of_getLsbD_eq
    intro i hi
    rw [BitVec.getLsbD_ushiftRight, BitVec.getLsbD_ushiftRight, BitVec.getLsbD_xor]
    by_cases h : 4 + i < 32
    · rw [low_bit w 4 _ h, decide_eq_false (by omega), Bool.false_and, Bool.xor_false]
    · rw [BitVec.getLsbD_of_ge (low w 4) _ (by omega), Bool.xor_false]
  have e3 : pw pl 4 w = pw pl 4 (w ^^^ low w 4) ^^^ pw pl 4 (low w 4) := by
    conv => lhs; rw [e]
    exact pl_lin.pw 4 _ _
  rw [e3, pw4_even _ h0, ← e2]
  unfold half
  congr 1
  exact (tab_ok _ (Nat.mod_lt _ (by omega))).symm
theorem half_half (w : W) : half (half w) = e8 w := by
  rw [half_ok, half_ok, ← pw_add]; rfl

/-- bytes over a word -/
def fold (w : W) (l : List Int) : W := l.foldl (fun w c => e8 (w ^^^ BitVec.ofInt 32 c)) w
def ones : W := 4294967295#32
def crc (l : List Int) : W := fold ones l ^^^ ones
theorem fold_append (w : W) (a b : List Int) : fold w (a ++ b) = fold (fold w a) b := List.foldl_append
theorem fold_snoc (w : W) (a : List Int) (c : Int) : fold w (a ++ [c]) = e8 (fold w a ^^^ BitVec.ofInt 32 c) := by rw [fold_append]; rfl
theorem fold_split (l : List Int) : ∀ u v : W, fold (u ^^^ v) l = pw e8 l.length u ^^^ fold v l := by
  induction l with
  | nil => intro u v; rfl
  | cons c l ih =>
    intro u v
    show fold (e8 ((u ^^^ v) ^^^ BitVec.ofInt 32 c)) l = pw e8 l.length (e8 u) ^^^ fold (e8 (v ^^^ BitVec.ofInt 32 c)) l
    rw [BitVec.xor_assoc, e8_lin, ih]
theorem join (x y : List Int) : pw e8 y.length (crc x) ^^^ crc y = crc (x ++ y) := by
  unfold crc
  rw [fold_append, (e8_lin.pw y.length) (fold ones x) ones]
  have h1 : fold (fold ones x) y = pw e8 y.length (fold ones x) ^^^ fold 0#32 y := by
    have := fold_split y (fold ones x) 0#32
    rwa [BitVec.xor_zero] at this
  have h2 : fold ones y = pw e8 y.length ones ^^^ fold 0#32 y := by
    have := fold_split y ones 0#32
    rwa [BitVec.xor_zero] at this
  rw [h1, h2]
  generalize pw e8 y.length (fold ones x) = A
  generalize pw e8 y.length ones = B
  generalize fold 0#32 y = C
  rw [BitVec.xor_assoc A B, ← BitVec.xor_assoc B, ← BitVec.xor_assoc B, BitVec.xor_self, BitVec.zero_xor, BitVec.xor_assoc]
theorem turn (x p q y : List Int) (h : p.length = q.length) : crc (x ++ p ++ y) ^^^ pw e8 y.length (crc p ^^^ crc q) = crc (x ++ q ++ y) := by
  rw [← join (x ++ p) y, ← join (x ++ q) y, ← join x p, ← join x q, h, (e8_lin.pw _) (pw e8 q.length (crc x)) (crc p), (e8_lin.pw _) (pw e8 q.length (crc x)) (crc q), (e8_lin.pw _) (crc p) (crc q)]
  generalize pw e8 y.length (pw e8 q.length (crc x)) = A
  generalize pw e8 y.length (crc p) = B
  generalize pw e8 y.length (crc q) = C
  generalize crc y = D
  have : ∀ a b c d : Bool, Bool.xor (Bool.xor (Bool.xor a b) d) (Bool.xor b c) = Bool.xor (Bool.xor a c) d := by decide
  apply BitVec.eq_of_getLsbD_eq
  intro i _
  simp only [BitVec.getLsbD_xor]
  exact this _ _ _ _
end Go.Proofs.YtpheajiepnjhdaaDoor.Crc
namespace Go.Proofs.YtpheajiepnjhdaaDoor.Crc

theorem pl_zero (w : W) (h : pl w = 0#32) : w = 0#32 := by
  unfold pl at h
  by_cases hb : w.getLsbD 0 = true
  · rw [if_pos hb] at h
    have h31 : ((w >>> 1) ^^^ 0xEDB88320#32).getLsbD 31 = (0#32).getLsbD 31 := by rw [h]
    rw [BitVec.getLsbD_xor, BitVec.getLsbD_ushiftRight, BitVec.getLsbD_of_ge w _ (by omega)] at h31
    exact absurd h31 (by decide)
  · rw [if_neg hb] at h
    apply BitVec.eq_of_getLsbD_eq
    intro i hi
    rw [BitVec.getLsbD_zero]
    cases i with
    | zero => simpa using hb
    | succ i =>
      have : (w >>> 1).getLsbD i = (0#32).getLsbD i := by rw [h]
      rw [BitVec.getLsbD_ushiftRight, BitVec.getLsbD_zero, Nat.add_comm] at this
      exact this
theorem pw_zero : ∀ (n : Nat) (w : W), pw pl n w = 0#32 → w = 0#32
  | 0, _, h => h
  | n + 1, w, h => pl_zero w (pw_zero n (pl w) h)
theorem pl_one (k : Nat) (hk : k < 31) : pl (1#32 <<< (k + 1)) = 1#32 <<< k := by
  rw [pl_even _ (by rw [one_bit (k + 1) 0 (by omega)]; simp)]
  apply BitVec.eq_of_getLsbD_eq
  intro i hi
  rw [BitVec.getLsbD_ushiftRight, one_bit k i hi]
  by_cases h : 1 + i < 32
  · rw [one_bit (k + 1) (1 + i) h]
    have : (1 + i = k + 1) ↔ i = k := by omega
    simp [this]
  · rw [BitVec.getLsbD_of_ge _ _ (by omega)]
    have : ¬ i = k := by omega
    simp [this]
theorem pw_one : ∀ k, k < 32 → pw pl k (1#32 <<< k) = 1#32
  | 0, _ => by rfl
  | k + 1, hk => by
    show pw pl k (pl (1#32 <<< (k + 1))) = 1#32
    rw [pl_one k (by omega)]; exact pw_one k (by omega)
theorem pw_pull (N i : Nat) (hi : i < 32) (hN : i ≤ N) : pw pl (N - i) 1#32 = pw pl N (1#32 <<< i) := by
  conv => rhs; rw [show N = i + (N - i) by omega, pw_add]
  rw [pw_one i hi]
theorem e8_pw (n : Nat) (w : W) : pw e8 n w = pw pl (8 * n) w := (pw_mul pl 8 n w).symm
theorem flip (x y : List Int) (c d : Int) (r : Nat) (hr : r < 8) (h : BitVec.ofInt 32 d = BitVec.ofInt 32 c ^^^ (1#32 <<< r)) :
    crc (x ++ d :: y) = crc (x ++ c :: y) ^^^ pw pl (8 * (y.length + 1) - r) 1#32 := by
  unfold crc
  rw [fold_append, fold_append]
  show fold (e8 (fold ones x ^^^ BitVec.ofInt 32 d)) y ^^^ ones = fold (e8 (fold ones x ^^^ BitVec.ofInt 32 c)) y ^^^ ones ^^^ _
  rw [h, ← BitVec.xor_assoc, e8_lin, BitVec.xor_comm (e8 (fold ones x ^^^ BitVec.ofInt 32 c)), fold_split, pw_pull _ r (by omega) (by omega), Nat.mul_succ, Nat.add_comm, pw_add, ← e8_pw]
  show pw e8 y.length (e8 (1#32 <<< r)) ^^^ _ ^^^ ones = _ ^^^ ones ^^^ pw e8 y.length (e8 (1#32 <<< r))
  generalize pw e8 y.length (e8 (1#32 <<< r)) = A
  rw [BitVec.xor_assoc A, BitVec.xor_comm A]
/-- one bit of a burst more -/
theorem burst_step (x y : List Int) (c d : Int) (r N i : Nat) (C m : W) (hr : r < 8) (h : BitVec.ofInt 32 d = BitVec.ofInt 32 c ^^^ (1#32 <<< r))
    (hi : i < 32) (hN : N - i = 8 * (y.length + 1) - r) (hNi : i < N) (hm : m.getLsbD i = true) (hC : crc (x ++ c :: y) = C ^^^ pw pl N (low m i)) :
    crc (x ++ d :: y) = C ^^^ pw pl N (low m (i + 1)) := by
  rw [flip x y c d r hr h, hC, low_succ, if_pos hm, (pl_lin.pw N), ← hN, pw_pull N i hi (by omega), BitVec.xor_assoc]
theorem low_zero_succ (m : W) (i : Nat) (h : low m (i + 1) = 0#32) : low m i = 0#32 ∧ (i < 32 → m.getLsbD i = false) := by
  have hb : ∀ j, j < 32 → (decide (j < i + 1) && m.getLsbD j) = false := fun j hj => by rw [← low_bit m (i + 1) j hj, h, BitVec.getLsbD_zero]
  constructor
  · apply BitVec.eq_of_getLsbD_eq
    intro j hj
    rw [low_bit m i j hj, BitVec.getLsbD_zero]
    have := hb j hj
    by_cases hj' : j < i
    · simpa [hj', show j < i + 1 by omega] using this
    · simp [hj']
  · intro hi
    have := hb i hi
    simpa using this
theorem burst_end (C m : W) (N j : Nat) : (C ^^^ pw pl N (low m j) = C) ↔ low m j = 0#32 := by
  constructor
  · intro h
    apply pw_zero N
    have : C ^^^ (C ^^^ pw pl N (low m j)) = C ^^^ C := by rw [h]
    rwa [← BitVec.xor_assoc, BitVec.xor_self, BitVec.zero_xor] at this
  · intro h
    rw [h, (pl_lin.pw N).zero, BitVec.xor_zero]
end Go.Proofs.YtpheajiepnjhdaaDoor.Crc
