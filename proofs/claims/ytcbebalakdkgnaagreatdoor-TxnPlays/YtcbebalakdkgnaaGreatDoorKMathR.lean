
namespace Rec

/-- one of a row's numbers -/
def nth (l : List Int) (k : Nat) : Int := l.getD k 0
/-- is it a width? -/
def isW (n : Int) : Bool := n == 1 || n == 2 || n == 4 || n == 8
/-- do n bytes from 'at' on lie in so many? -/
def lies (size at_ n : Int) : Bool := decide (0 ≤ at_ ∧ at_ + n ≤ size)
/-- the number of n bytes from 'at' on -/
def num (l : List Int) (at_ : Nat) : Nat → Int
  | 0 => 0
  | n + 1 => num l at_ n + nth l (at_ + n) * 256 ^ n
/-- n bytes from 'at' on are f's -/
def ov (l : List Int) (at_ n : Nat) (f : Nat → Int) : List Int := (List.range l.length).map fun i => if at_ ≤ i ∧ i < at_ + n then f (i - at_) else nth l i
/-- a number's bytes -/
def dig (v : Int) (k : Nat) : Int := v / 256 ^ k % 256
/-- has a number that width? -/
def has (v n : Int) : Bool := decide (v < 256 ^ n.toNat)

theorem ext_nth {a b : List Int} (hl : a.length = b.length) (h : ∀ i, i < a.length → nth a i = nth b i) : a = b := by
  apply List.ext_getElem hl
  intro i h1 h2
  have := h i h1
  simpa [nth, List.getD, h1, h2] using this
theorem nth_set (l : List Int) (k i : Nat) (c : Int) (hk : k < l.length) : nth (l.set k c) i = if i = k then c else nth l i := by
  unfold nth
  simp only [List.getD, List.getElem?_set]
  by_cases h : k = i
  · subst h; simp [hk]
  · have : ¬ i = k := fun e => h e.symm
    simp [h, this]
theorem ov_length (l : List Int) (at_ n : Nat) (f : Nat → Int) : (ov l at_ n f).length = l.length := by simp [ov]
theorem nth_out (l : List Int) (i : Nat) (h : l.length ≤ i) : nth l i = 0 := by simp [nth, List.getD, h]
theorem nth_ov (l : List Int) (at_ n : Nat) (f : Nat → Int) (i : Nat) (hi : i < l.length) : nth (ov l at_ n f) i = if at_ ≤ i ∧ i < at_ + n then f (i - at_) else nth l i := by
  show (ov l at_ n f).getD i 0 = _
  rw [List.getD, ov, List.getElem?_map, List.getElem?_range hi]; rfl
theorem ov_zero (l : List Int) (at_ : Nat) (f : Nat → Int) : ov l at_ 0 f = l := by
  refine ext_nth (ov_length _ _ _ _) fun i hi => ?_
  rw [ov_length] at hi
  rw [nth_ov _ _ _ _ _ hi, if_neg (by omega)]
theorem ov_set (l : List Int) (at_ k : Nat) (f : Nat → Int) (h : at_ + k < l.length) : (ov l at_ k f).set (at_ + k) (f k) = ov l at_ (k + 1) f := by
  refine ext_nth (by simp [ov_length]) fun i hi => ?_
  have hi' : i < l.length := by simpa [ov_length] using hi
  rw [nth_set _ _ _ _ (by rw [ov_length]; exact h), nth_ov _ _ _ _ _ hi', nth_ov _ _ _ _ _ hi']
  by_cases e : i = at_ + k
  · subst e; rw [if_pos rfl, if_pos (by omega), Nat.add_sub_cancel_left]
  · rw [if_neg e]
    by_cases h2 : at_ ≤ i ∧ i < at_ + k
    · rw [if_pos h2, if_pos (by omega)]
    · rw [if_neg h2, if_neg (by omega)]
theorem ov_ov (l : List Int) (at_ m n : Nat) (f g h : Nat → Int) (h1 : ∀ i, i < m → f i = h i) (h2 : ∀ i, i < n → g i = h (m + i)) :
    ov (ov l at_ m f) (at_ + m) n g = ov l at_ (m + n) h := by
  refine ext_nth (by simp [ov_length]) fun i hi => ?_
  have hi' : i < l.length := by simpa [ov_length] using hi
  rw [nth_ov _ _ _ _ _ (by rw [ov_length]; exact hi'), nth_ov _ _ _ _ _ hi', nth_ov _ _ _ _ _ hi']
  by_cases c1 : at_ + m ≤ i ∧ i < at_ + m + n
  · rw [if_pos c1, if_pos (by omega), h2 _ (by omega)]; congr 1; omega
  · rw [if_neg c1]
    by_cases c2 : at_ ≤ i ∧ i < at_ + m
    · rw [if_pos c2, if_pos (by omega), h1 _ (by omega)]
    · rw [if_neg c2, if_neg (by omega)]
theorem wf_ov (l : List Int) (at_ n : Nat) (f : Nat → Int) (hl : ∀ i, 0 ≤ nth l i ∧ nth l i < 256) (hf : ∀ i, i < n → 0 ≤ f i ∧ f i < 256) (i : Nat) : 0 ≤ nth (ov l at_ n f) i ∧ nth (ov l at_ n f) i < 256 := by
  by_cases hi : i < l.length
  · rw [nth_ov _ _ _ _ _ hi]
    split
    · exact hf _ (by omega)
    · exact hl i
  · rw [nth_out _ _ (by rw [ov_length]; omega)]; omega
theorem dig_bd (v : Int) (k : Nat) : 0 ≤ dig v k ∧ dig v k < 256 := by unfold dig; omega
theorem pow_pos (n : Nat) : (0 : Int) < 256 ^ n := Int.pow_pos (by decide)
theorem num_ov (l : List Int) (at_ n m : Nat) (v : Int) (h : at_ + n ≤ l.length) (hm : m ≤ n) : num (ov l at_ n (dig v)) at_ m = v % 256 ^ m := by
  induction m with
  | zero => simp [num]
  | succ m ih =>
    have ih := ih (by omega)
    rw [num, ih, nth_ov _ _ _ _ _ (by omega), if_pos (by omega), Nat.add_sub_cancel_left, dig]
    have := pow_pos m
    rw [Int.pow_succ]
    generalize (256 : Int) ^ m = p at *
    have e1 := Int.emod_add_mul_ediv v p
    have e2 := Int.emod_add_mul_ediv (v / p) 256
    have b1 := Int.emod_nonneg v (Int.ne_of_gt this)
    have b2 := Int.emod_lt_of_pos v this
    have c1 : 0 ≤ v / p % 256 := by omega
    have c2 : v / p % 256 < 256 := by omega
    have hv : v = (v % p + v / p % 256 * p) + (p * 256) * (v / p / 256) := by
      have : p * (v / p) = p * (v / p % 256) + p * (256 * (v / p / 256)) := by rw [← Int.mul_add, e2]
      rw [Int.mul_assoc, Int.mul_comm (v / p % 256) p]; omega
    have hr : v % p + v / p % 256 * p < p * 256 := by
      have : v / p % 256 * p ≤ 255 * p := Int.mul_le_mul_of_nonneg_right (by omega) (by omega)
      omega
    have hr0 : 0 ≤ v % p + v / p % 256 * p := by
      have := Int.mul_nonneg c1 (Int.le_of_lt this)
      omega
    have : v % (p * 256) = v % p + v / p % 256 * p := by
      conv => lhs; rw [hv]
      rw [Int.add_mul_emod_self_left, Int.emod_eq_of_lt hr0 hr]
    rw [this]
theorem num_bd (l : List Int) (at_ n : Nat) (hl : ∀ i, 0 ≤ nth l i ∧ nth l i < 256) : 0 ≤ num l at_ n ∧ num l at_ n < 256 ^ n := by
  induction n with
  | zero => simp [num]
  | succ n ih =>
    have := hl (at_ + n)
    have p := pow_pos n
    rw [num, Int.pow_succ]
    refine ⟨by have := Int.mul_nonneg this.1 (Int.le_of_lt p); omega, ?_⟩
    have : nth l (at_ + n) * 256 ^ n ≤ 255 * 256 ^ n := Int.mul_le_mul_of_nonneg_right (by omega) (Int.le_of_lt p)
    omega

/-- how many bytes from 'at' on stand ahead of the first zero, of n -/
def fz (l : List Int) (at_ : Nat) : Nat → Nat
  | 0 => 0
  | n + 1 => if fz l at_ n = n ∧ nth l (at_ + n) ≠ 0 then n + 1 else fz l at_ n
theorem fz_spec (l : List Int) (at_ n : Nat) : fz l at_ n ≤ n ∧ (∀ i, i < fz l at_ n → nth l (at_ + i) ≠ 0) ∧ (fz l at_ n < n → nth l (at_ + fz l at_ n) = 0) := by
  induction n with
  | zero => exact ⟨Nat.le_refl _, fun i h => absurd h (by simp [fz]), fun h => absurd h (by simp [fz])⟩
  | succ n ih =>
    obtain ⟨h1, h2, h3⟩ := ih
    rw [fz]
    by_cases c : fz l at_ n = n ∧ nth l (at_ + n) ≠ 0
    · rw [if_pos c]
      refine ⟨Nat.le_refl _, fun i hi => ?_, fun h => absurd h (by omega)⟩
      by_cases e : i = n
      · subst e; exact c.2
      · exact h2 i (by omega)
    · rw [if_neg c]
      refine ⟨by omega, h2, fun _ => ?_⟩
      by_cases e : fz l at_ n = n
      · rw [e]
        exact Decidable.byContradiction fun h => c ⟨e, h⟩
      · exact h3 (by omega)
theorem fz_eq (l : List Int) (at_ n k : Nat) (h1 : k ≤ n) (h2 : ∀ i, i < k → nth l (at_ + i) ≠ 0) (h3 : k < n → nth l (at_ + k) = 0) : fz l at_ n = k := by
  obtain ⟨g1, g2, g3⟩ := fz_spec l at_ n
  rcases Nat.lt_trichotomy (fz l at_ n) k with h | h | h
  · exact absurd (g3 (by omega)) (h2 _ h)
  · exact h
  · exact absurd (h3 (by omega)) (g2 _ h)
/-- are n bytes from 'at' on zero? -/
def zr (l : List Int) (at_ n : Nat) : Bool := decide (∀ i, i < n → nth l (at_ + i) = 0)
/-- do but zeros stand behind the first zero? -/
def cl (l : List Int) (at_ n : Nat) : Bool := zr l (at_ + fz l at_ n) (n - fz l at_ n)
theorem zr_true (l : List Int) (at_ n : Nat) (h : ∀ i, i < n → nth l (at_ + i) = 0) : zr l at_ n = true := by simpa [zr] using h
theorem zr_false (l : List Int) (at_ n i : Nat) (hi : i < n) (h : nth l (at_ + i) ≠ 0) : zr l at_ n = false := by
  simp [zr]; exact ⟨i, hi, h⟩
/-- a string's bytes -/
def sb (s : ByteArray) : List Int := s.data.toList.map fun c => (c.toNat : Int)
theorem sb_length (s : ByteArray) : (sb s).length = s.size := by rw [sb, List.length_map, Array.length_toList]; rfl
theorem sb_nth (s : ByteArray) (k : Nat) (h : k < s.size) : nth (sb s) k = (s[k].toNat : Int) := by
  have h' : k < s.data.size := h
  rw [nth, sb, List.getD, List.getElem?_map, Array.getElem?_toList, Array.getElem?_eq_getElem h']; rfl
theorem sb_bd (s : ByteArray) (k : Nat) : 0 ≤ nth (sb s) k ∧ nth (sb s) k < 256 := by
  by_cases h : k < s.size
  · rw [sb_nth s k h]
    have := s[k].toNat_lt
    omega
  · rw [nth_out _ _ (by rw [sb_length]; omega)]; omega
/-- is a string a text of n bytes? -/
def tx (s : ByteArray) (n : Int) : Bool := decide ((s.size : Int) ≤ n) && decide (∀ i, i < s.size → nth (sb s) i ≠ 0)

end Rec

namespace Go.Proofs.YtcbebalakdkgnaaGreatDoor.Crc

abbrev W := BitVec 32

def pl (w : W) : W := if w.getLsbD 0 = true then (w >>> 1) ^^^ 0xEDB88320#32 else w >>> 1
def Lin (f : W → W) : Prop := ∀ a b, f (a ^^^ b) = f a ^^^ f b

theorem pl_lin : Lin pl := by
  intro a b
  unfold pl
  rw [BitVec.getLsbD_xor, BitVec.ushiftRight_xor_distrib]
  cases a.getLsbD 0 <;> cases b.getLsbD 0 <;> simp
  · rw [BitVec.xor_assoc]
  · rw [BitVec.xor_assoc, BitVec.xor_assoc, BitVec.xor_comm (b >>> 1)]
  · rw [BitVec.xor_assoc, ← BitVec.xor_assoc 3988292384#32, BitVec.xor_comm 3988292384#32, BitVec.xor_assoc (b >>> 1), BitVec.xor_self, BitVec.xor_zero]

def pw (f : W → W) : Nat → W → W
  | 0, w => w
  | n + 1, w => pw f n (f w)

theorem Lin.pw {f : W → W} (h : Lin f) : ∀ n, Lin (pw f n)
  | 0 => fun _ _ => rfl
  | n + 1 => fun a b => by
    show Crc.pw f n (f (a ^^^ b)) = Crc.pw f n (f a) ^^^ Crc.pw f n (f b)
    rw [h, Lin.pw h n]
theorem pw_add (f : W → W) (m : Nat) : ∀ n w, pw f (n + m) w = pw f m (pw f n w)
  | 0, w => by rw [Nat.zero_add]; rfl
  | n + 1, w => by
    rw [Nat.add_right_comm]
    show pw f (n + m) (f w) = pw f m (pw f n (f w))
    exact pw_add f m n (f w)
theorem Lin.zero {f : W → W} (h : Lin f) : f 0#32 = 0#32 := by
  have := h 0#32 0#32
  rw [BitVec.xor_self, BitVec.xor_self] at this
  exact this

def e8 (w : W) : W := pw pl 8 w
/-- the low bits of a word -/
def low (w : W) (k : Nat) : W := BitVec.ofNat 32 (w.toNat % 2 ^ k)
theorem low_bit (w : W) (k i : Nat) (hi : i < 32) : (low w k).getLsbD i = (decide (i < k) && w.getLsbD i) := by
  unfold low
  rw [BitVec.getLsbD_ofNat, Nat.testBit_mod_two_pow]
  simp [hi, BitVec.getLsbD]
/-- what is done to a word, by what is done to its first k bits -/
def app (z : Nat → W) (w : W) : Nat → W
  | 0 => 0#32
  | k + 1 => app z w k ^^^ (if w.getLsbD k = true then z k else 0#32)
/-- half a byte by the table -/
def tab : List Nat := [0, 498536548, 997073096, 651767980, 1994146192, 1802195444, 1303535960, 1342533948, 3988292384, 4027552580, 3604390888, 3412177804, 2607071920, 2262029012, 2685067896, 3183342108]
def half (w : W) : W := (w >>> 4) ^^^ BitVec.ofNat 32 (tab.getD (w.toNat % 16) 0)

theorem pl_even (w : W) (h : w.getLsbD 0 = false) : pl w = w >>> 1 := by unfold pl; rw [if_neg (by rw [h]; decide)]
theorem pw4_even (w : W) (h : ∀ i, i < 4 → w.getLsbD i = false) : pw pl 4 w = w >>> 4 := by
  show pl (pl (pl (pl w))) = w >>> 4
  have sh : ∀ k, k < 4 → (w >>> k).getLsbD 0 = false := fun k hk => by simp [h k hk]
  rw [pl_even w (h 0 (by omega)), pl_even (w >>> 1) (sh 1 (by omega)), ← BitVec.shiftRight_add, pl_even _ (sh 2 (by omega)), ← BitVec.shiftRight_add, pl_even _ (sh 3 (by omega)), ← BitVec.shiftRight_add]
theorem tab_ok : ∀ k, k < 16 → pw pl 4 (BitVec.ofNat 32 k) = BitVec.ofNat 32 (tab.getD k 0) := by decide +kernel
theorem half_ok (w : W) : half w = pw pl 4 w := by
  have e : w = (w ^^^ low w 4) ^^^ low w 4 := by rw [BitVec.xor_assoc, BitVec.xor_self, BitVec.xor_zero]
  have h0 : ∀ i, i < 4 → (w ^^^ low w 4).getLsbD i = false := fun i hi => by rw [BitVec.getLsbD_xor, low_bit w 4 i (by omega)]; simp [hi]
  have e2 : w >>> 4 = (w ^^^ low w 4) >>> 4 := by
    apply BitVec.eq_of_getLsbD_eq
    intro i hi
    rw [BitVec.getLsbD_ushiftRight, BitVec.getLsbD_ushiftRight, BitVec.getLsbD_xor]
    by_cases h : 4 + i < 32
    · rw [low_bit w 4 _ h, decide_eq_false (by omega), Bool.false_and, Bool.xor_false]
    · rw [BitVec.getLsbD_of_ge (low w 4) _ (by omega), Bool.xor_false]
  have e3 : pw pl 4 w = pw pl 4 (w ^^^ low w 4) ^^^ pw pl 4 (low w 4) := by
    conv => lhs; rw [e]
    exact pl_lin.pw 4 _ _
  rw [e3, pw4_even _ h0, ← e2]
  unfold half
  congr 1
  exact (tab_ok _ (Nat.mod_lt _ (by omega))).symm
theorem half_half (w : W) : half (half w) = e8 w := by
  rw [half_ok, half_ok, ← pw_add]; rfl

/-- bytes over a word -/
def fold (w : W) (l : List Int) : W := l.foldl (fun w c => e8 (w ^^^ BitVec.ofInt 32 c)) w
def ones : W := 4294967295#32
def crc (l : List Int) : W := fold ones l ^^^ ones
theorem fold_append (w : W) (a b : List Int) : fold w (a ++ b) = fold (fold w a) b := List.foldl_append
theorem fold_snoc (w : W) (a : List Int) (c : Int) : fold w (a ++ [c]) = e8 (fold w a ^^^ BitVec.ofInt 32 c) := by rw [fold_append]; rfl
end Go.Proofs.YtcbebalakdkgnaaGreatDoor.Crc
namespace Go.Proofs.YtcbebalakdkgnaaGreatDoor.Crc

end Go.Proofs.YtcbebalakdkgnaaGreatDoor.Crc

namespace Go.Proofs.YtcbebalakdkgnaaGreatDoor
open Rec

/-- the header's first eight bytes -/
def mag : List Int := [66, 79, 76, 69, 76, 79, 71, 49]
/-- the number ahead of one -/
def pre (ns : List Int) (i : Nat) : Int := if i = 0 then 97 else nth ns (i - 1)
/-- may these numbers be, on a disk of n blocks? -/
def may (ns : List Int) (n : Int) : Bool := decide (∀ i, i < ns.length → pre ns i < nth ns i ∧ nth ns i < n)
/-- a header's byte -/
def hb (ns : List Int) (s : Int) (i : Nat) : Int :=
  if i < 8 then nth mag i else if i < 10 then dig ns.length (i - 8) else if i < 12 then 0 else if i < 16 then dig s (i - 12)
  else if i < 16 + 4 * ns.length then dig (nth ns ((i - 16) / 4)) ((i - 16) % 4) else 0
/-- a header -/
def hd (ns : List Int) (s : Int) : List Int := (List.range 512).map (hb ns s)
/-- a header with only some of its numbers -/
def hp (ns : List Int) (j : Nat) : List Int := (List.range 512).map fun i => if i < 16 + 4 * j then hb ns 0 i else 0
/-- 512 zeros -/
def zs : List Int := List.replicate 512 0
/-- how many numbers a header says that it has -/
def cnt (h : List Int) : Nat := (num h 8 2).toNat
/-- its numbers -/
def nsOf (h : List Int) : List Int := (List.range (cnt h)).map fun i => num h (16 + 4 * i) 4
/-- are the bytes ahead of the sum a header's? -/
def form (h : List Int) : Bool := decide (h.take 8 = mag) && (nth h 10 == 0 && nth h 11 == 0) && (decide (1 ≤ cnt h) && decide (cnt h ≤ 96))
/-- is it a header of numbers? -/
def isH (h : List Int) (n : Int) : Bool := form h && may (nsOf h) n && zr h (16 + 4 * cnt h) (512 - (16 + 4 * cnt h))
/-- P4.2: the error -/
def numsE (h : List Int) (n : Int) : Int := if h.length = 512 then if zr h 0 512 then 0 else if isH h n then 0 else 41 else 32
/-- P4.2: the numbers -/
def numsL (h : List Int) (n : Int) : List Int := if h.length = 512 ∧ zr h 0 512 = false ∧ isH h n = true then nsOf h else []
/-- so many blocks? -/
def blk (ds : List (List Int)) (k : Nat) : Bool := decide (ds.length = k) && decide (∀ b, b ∈ ds → b.length = 512)
/-- the sum of a header with these blocks -/
def sumV (h : List Int) (ds : List (List Int)) : Int := ((Crc.crc (ov h 12 4 (fun _ => 0) ++ ds.flatten)).toNat : Int)
/-- P4.3 -/
def good (h : List Int) (n : Int) (ds : List (List Int)) : Bool := decide (numsL h n ≠ []) && blk ds (numsL h n).length && decide (num h 12 4 = sumV h ds)
/-- P4.1: the error -/
def makeE (ns : List Int) (ds : List (List Int)) : Int := if (1 ≤ ns.length ∧ ns.length ≤ 96) ∧ may ns 16384 = true then if blk ds ns.length then 0 else 32 else 40
/-- P4.1: the header -/
def made (ns : List Int) (ds : List (List Int)) : List Int := hd ns (sumV (hd ns 0) ds)

theorem mag_len : mag.length = 8 := rfl
theorem hd_length (ns : List Int) (s : Int) : (hd ns s).length = 512 := by simp [hd]
theorem hp_length (ns : List Int) (j : Nat) : (hp ns j).length = 512 := by simp [hp]
theorem nth_map (f : Nat → Int) (n i : Nat) (h : i < n) : nth ((List.range n).map f) i = f i := by simp [nth, List.getD, h]
theorem nth_hd (ns : List Int) (s : Int) (i : Nat) (h : i < 512) : nth (hd ns s) i = hb ns s i := nth_map _ _ _ h
theorem nth_hp (ns : List Int) (j i : Nat) (h : i < 512) : nth (hp ns j) i = if i < 16 + 4 * j then hb ns 0 i else 0 := nth_map _ _ _ h
theorem dig_zero (k : Nat) : dig 0 k = 0 := by simp [dig]
theorem mag_bd : ∀ i, 0 ≤ nth mag i ∧ nth mag i < 256 := by
  intro i
  by_cases h : i < 8
  · have : i = 0 ∨ i = 1 ∨ i = 2 ∨ i = 3 ∨ i = 4 ∨ i = 5 ∨ i = 6 ∨ i = 7 := by omega
    rcases this with rfl | rfl | rfl | rfl | rfl | rfl | rfl | rfl <;> decide
  · rw [nth_out _ _ (by rw [mag_len]; omega)]; omega
theorem zs_length : zs.length = 512 := List.length_replicate
theorem nth_zs (i : Nat) : nth zs i = 0 := by
  by_cases h : i < 512
  · unfold nth zs; rw [List.getD_eq_getElem?_getD, List.getElem?_replicate, if_pos h]; rfl
  · exact nth_out _ _ (by rw [zs_length]; omega)
/-- the first two puts -/
theorem hp_zero (ns : List Int) : ov (ov zs 0 8 (nth mag)) 8 2 (dig ns.length) = hp ns 0 := by
  refine ext_nth (by rw [ov_length, ov_length, zs_length, hp_length]) (fun i hi => ?_)
  rw [ov_length, ov_length, zs_length] at hi
  rw [nth_ov _ _ _ _ _ (by rw [ov_length, zs_length]; exact hi), nth_ov _ _ _ _ _ (by rw [zs_length]; exact hi), nth_hp _ _ _ hi, nth_zs]
  unfold hb
  by_cases h1 : i < 8
  · rw [if_neg (by omega), if_pos (by omega), if_pos (by omega), if_pos h1]; rfl
  · by_cases h2 : i < 10
    · rw [if_pos (by omega), if_pos (by omega), if_neg h1, if_pos h2]
    · rw [if_neg (by omega), if_neg (by omega)]
      by_cases h3 : i < 12
      · rw [if_pos (by omega), if_neg h1, if_neg h2, if_pos h3]
      · by_cases h4 : i < 16
        · rw [if_pos (by omega), if_neg h1, if_neg h2, if_neg h3, if_pos h4, dig_zero]
        · rw [if_neg (by omega)]
theorem hp_succ (ns : List Int) (j : Nat) (h : j < ns.length) (h96 : ns.length ≤ 96) : ov (hp ns j) (16 + 4 * j) 4 (dig (nth ns j)) = hp ns (j + 1) := by
  refine ext_nth (by rw [ov_length, hp_length, hp_length]) (fun i hi => ?_)
  rw [ov_length, hp_length] at hi
  rw [nth_ov _ _ _ _ _ (by rw [hp_length]; exact hi), nth_hp _ _ _ hi, nth_hp _ _ _ hi]
  by_cases h1 : i < 16 + 4 * j
  · rw [if_neg (by omega), if_pos h1, if_pos (by omega)]
  · by_cases h2 : i < 16 + 4 * (j + 1)
    · rw [if_pos (by omega), if_pos h2]
      unfold hb
      rw [if_neg (by omega), if_neg (by omega), if_neg (by omega), if_neg (by omega), if_pos (by omega)]
      have e1 : (i - 16) / 4 = j := by omega
      have e2 : (i - 16) % 4 = i - (16 + 4 * j) := by omega
      rw [e1, e2]
    · rw [if_neg (by omega), if_neg h1, if_neg h2]
theorem hp_all (ns : List Int) : hp ns ns.length = hd ns 0 := by
  refine ext_nth (by rw [hp_length, hd_length]) (fun i hi => ?_)
  rw [hp_length] at hi
  rw [nth_hp _ _ _ hi, nth_hd _ _ _ hi]
  split
  · rfl
  · unfold hb
    rw [if_neg (by omega), if_neg (by omega), if_neg (by omega), if_neg (by omega), if_neg (by omega)]
theorem hd_put (ns : List Int) (s t : Int) : ov (hd ns s) 12 4 (dig t) = hd ns t := by
  refine ext_nth (by rw [ov_length, hd_length, hd_length]) (fun i hi => ?_)
  rw [ov_length, hd_length] at hi
  rw [nth_ov _ _ _ _ _ (by rw [hd_length]; exact hi), nth_hd _ _ _ hi, nth_hd _ _ _ hi]
  split
  · unfold hb
    rw [if_neg (by omega), if_neg (by omega), if_neg (by omega), if_pos (by omega)]
  · unfold hb
    by_cases h1 : i < 12
    · split
      · rfl
      · split
        · rfl
        · rfl
    · have h2 : ¬ i < 8 := by omega
      have h3 : ¬ i < 10 := by omega
      have h4 : ¬ i < 16 := by omega
      simp only [if_neg h1, if_neg h2, if_neg h3, if_neg h4]
theorem hd_clear (ns : List Int) (s : Int) : ov (hd ns s) 12 4 (fun _ => 0) = hd ns 0 := by
  rw [← hd_put ns s 0]; congr 1; funext k; exact (dig_zero k).symm
theorem sumV_hd (ns : List Int) (s : Int) (ds : List (List Int)) : sumV (hd ns s) ds = sumV (hd ns 0) ds := by unfold sumV; rw [hd_clear, hd_clear]
theorem sumV_bd (h : List Int) (ds : List (List Int)) : 0 ≤ sumV h ds ∧ sumV h ds < 4294967296 := by
  unfold sumV
  have := (Crc.crc (ov h 12 4 (fun _ => 0) ++ ds.flatten)).isLt
  omega
/-- numbers and their bytes -/
theorem num_dig (l : List Int) (A : Nat) (v : Int) : ∀ n, (∀ k, k < n → nth l (A + k) = dig v k) → num l A n = v % 256 ^ n
  | 0, _ => by simp [num]
  | n + 1, h => by
    have e := num_ov (List.replicate (n + 1) 0) 0 (n + 1) (n + 1) v (by simp) (Nat.le_refl _)
    have key : ∀ m, m ≤ n + 1 → num l A m = num (ov (List.replicate (n + 1) 0) 0 (n + 1) (dig v)) 0 m := by
      intro m
      induction m with
      | zero => intro _; rfl
      | succ m ih =>
        intro hm
        rw [num, num, ih (by omega), h m (by omega), nth_ov _ _ _ _ _ (by simp; omega), if_pos (by omega)]
        simp
    rw [key _ (Nat.le_refl _), e]
theorem num_hd (ns : List Int) (s : Int) (i : Nat) (h : i < ns.length) (h96 : ns.length ≤ 96) (hb0 : 0 ≤ nth ns i ∧ nth ns i < 4294967296) : num (hd ns s) (16 + 4 * i) 4 = nth ns i := by
  rw [num_dig _ _ (nth ns i) 4]
  · have e : (256 : Int) ^ 4 = 4294967296 := rfl
    rw [e]; omega
  · intro k hk
    rw [nth_hd _ _ _ (by omega)]
    unfold hb
    rw [if_neg (by omega), if_neg (by omega), if_neg (by omega), if_neg (by omega), if_pos (by omega)]
    have e1 : (16 + 4 * i + k - 16) / 4 = i := by omega
    have e2 : (16 + 4 * i + k - 16) % 4 = k := by omega
    rw [e1, e2]
theorem num_sum (ns : List Int) (s : Int) (hs : 0 ≤ s ∧ s < 4294967296) : num (hd ns s) 12 4 = s := by
  rw [num_dig _ _ s 4]
  · have e : (256 : Int) ^ 4 = 4294967296 := rfl
    rw [e]; omega
  · intro k hk
    rw [nth_hd _ _ _ (by omega)]
    unfold hb
    rw [if_neg (by omega), if_neg (by omega), if_neg (by omega), if_pos (by omega)]
    congr 1; omega
theorem cnt_hd (ns : List Int) (s : Int) (h96 : ns.length ≤ 96) : cnt (hd ns s) = ns.length := by
  unfold cnt
  rw [num_dig _ _ (ns.length : Int) 2]
  · have e : (256 : Int) ^ 2 = 65536 := rfl
    rw [e]; omega
  · intro k hk
    rw [nth_hd _ _ _ (by omega)]
    unfold hb
    rw [if_neg (by omega), if_pos (by omega)]
    congr 1; omega
theorem pre_bd (ns : List Int) (n : Int) (h : may ns n = true) : ∀ i, i < ns.length → 98 ≤ nth ns i ∧ nth ns i < n := by
  have h := of_decide_eq_true h
  intro i
  induction i with
  | zero => intro hi; have := h 0 hi; simp [pre] at this; omega
  | succ i ih =>
    intro hi
    have a := ih (by omega)
    have b := h (i + 1) hi
    simp [pre] at b
    omega
theorem nsOf_hd (ns : List Int) (s : Int) (h96 : ns.length ≤ 96) (hb0 : ∀ i, i < ns.length → 0 ≤ nth ns i ∧ nth ns i < 4294967296) : nsOf (hd ns s) = ns := by
  refine ext_nth (by simp [nsOf, cnt_hd ns s h96]) (fun i hi => ?_)
  simp only [nsOf, cnt_hd ns s h96, List.length_map, List.length_range] at hi
  rw [nsOf, cnt_hd ns s h96, nth_map _ _ _ hi, num_hd ns s i hi h96 (hb0 i hi)]
theorem take8 (h : List Int) (hl : h.length = 512) : h.take 8 = mag ↔ ∀ i, i < 8 → nth h i = nth mag i := by
  have ht : (h.take 8).length = 8 := by rw [List.length_take, hl]; rfl
  have en : ∀ i, i < 8 → nth (h.take 8) i = nth h i := fun i hi => by simp [nth, List.getD, hi]
  constructor
  · intro e i hi; rw [← en i hi, e]
  · intro e
    exact ext_nth (by rw [ht, mag_len]) (fun i hi => by rw [ht] at hi; rw [en i hi]; exact e i hi)
theorem form_hd (ns : List Int) (s : Int) (h1 : 1 ≤ ns.length) (h96 : ns.length ≤ 96) : form (hd ns s) = true := by
  unfold form
  rw [cnt_hd ns s h96]
  simp only [Bool.and_eq_true, decide_eq_true_eq, beq_iff_eq]
  rw [take8 _ (hd_length _ _)]
  refine ⟨⟨fun i hi => ?_, ?_, ?_⟩, h1, h96⟩
  · rw [nth_hd _ _ _ (by omega)]; unfold hb; rw [if_pos hi]
  · rw [nth_hd _ _ _ (by omega)]; rfl
  · rw [nth_hd _ _ _ (by omega)]; rfl
theorem zr_hd (ns : List Int) (s : Int) (h96 : ns.length ≤ 96) : zr (hd ns s) (16 + 4 * ns.length) (512 - (16 + 4 * ns.length)) = true := by
  refine zr_true _ _ _ (fun i hi => ?_)
  rw [nth_hd _ _ _ (by omega)]; unfold hb
  rw [if_neg (by omega), if_neg (by omega), if_neg (by omega), if_neg (by omega), if_neg (by omega)]
theorem isH_hd (ns : List Int) (s n : Int) (h1 : 1 ≤ ns.length) (h96 : ns.length ≤ 96) (hb0 : ∀ i, i < ns.length → 0 ≤ nth ns i ∧ nth ns i < 4294967296) : isH (hd ns s) n = may ns n := by
  unfold isH
  rw [nsOf_hd ns s h96 hb0, cnt_hd ns s h96, form_hd ns s h1 h96, zr_hd ns s h96]
  simp
theorem zr_hd_no (ns : List Int) (s : Int) : zr (hd ns s) 0 512 = false := by
  refine zr_false _ _ _ 0 (by omega) ?_
  rw [nth_hd _ _ _ (by omega)]; show nth mag 0 ≠ 0; decide
theorem numsL_hd (ns : List Int) (s n : Int) (h1 : 1 ≤ ns.length) (h96 : ns.length ≤ 96) (hb0 : ∀ i, i < ns.length → 0 ≤ nth ns i ∧ nth ns i < 4294967296) : numsL (hd ns s) n = if may ns n then ns else [] := by
  unfold numsL
  rw [isH_hd ns s n h1 h96 hb0, nsOf_hd ns s h96 hb0, hd_length, zr_hd_no]
  simp
theorem numsE_hd (ns : List Int) (s n : Int) (h1 : 1 ≤ ns.length) (h96 : ns.length ≤ 96) (hb0 : ∀ i, i < ns.length → 0 ≤ nth ns i ∧ nth ns i < 4294967296) : numsE (hd ns s) n = if may ns n then 0 else 41 := by
  unfold numsE
  rw [isH_hd ns s n h1 h96 hb0, hd_length, zr_hd_no]
  simp
end Go.Proofs.YtcbebalakdkgnaaGreatDoor
