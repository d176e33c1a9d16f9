import Derived.Test.YtflienghgobmoaaGreatDoorRows
import Derived.WalkKit
import Derived.WalkLawsBesides
import Derived.WalkSmall
import Derived.Laws.AppendOwnNone
import Derived.Laws.CopyOwn
import Derived.Laws.BytesArg
import Derived.Deep.QuietTactic
import Derived.BigQuiet
namespace Rec

/-- one of a row's numbers -/
def nth (l : List Int) (k : Nat) : Int := l.getD k 0
/-- is it a width? -/
def isW (n : Int) : Bool := n == 1 || n == 2 || n == 4 || n == 8
/-- do n bytes from 'at' on lie in so many? -/
def lies (size at_ n : Int) : Bool := decide (0 ≤ at_ ∧ at_ + n ≤ size)
/-- the number of n bytes from 'at' on -/
def num (l : List Int) (at_ : Nat) : Nat → Int
  | 0 => 0
  | n + 1 => num l at_ n + nth l (at_ + n) * 256 ^ n
/-- n bytes from 'at' on are f's -/
def ov (l : List Int) (at_ n : Nat) (f : Nat → Int) : List Int := (List.range l.length).map fun i => if at_ ≤ i ∧ i < at_ + n then f (i - at_) else nth l i
/-- a number's bytes -/
def dig (v : Int) (k : Nat) : Int := v / 256 ^ k % 256
/-- has a number that width? -/
def has (v n : Int) : Bool := decide (v < 256 ^ n.toNat)

theorem ext_nth {a b : List Int} (hl : a.length = b.length) (h : ∀ i, i < a.length → nth a i = nth b i) : a = b := by
  apply List.ext_getElem hl
  intro i h1 h2
  have := h i h1
  simpa [nth, List.getD, h1, h2] using this
theorem nth_set (l : List Int) (k i : Nat) (c : Int) (hk : k < l.length) : nth (l.set k c) i = if i = k then c else nth l i := by
  unfold nth
  simp only [List.getD, List.getElem?_set]
  by_cases h : k = i
  · subst h; simp [hk]
  · have : ¬ i = k := fun e => h e.symm
    simp [h, this]
theorem ov_length (l : List Int) (at_ n : Nat) (f : Nat → Int) : (ov l at_ n f).length = l.length := by simp [ov]
theorem nth_out (l : List Int) (i : Nat) (h : l.length ≤ i) : nth l i = 0 := by simp [nth, List.getD, h]
theorem nth_ov (l : List Int) (at_ n : Nat) (f : Nat → Int) (i : Nat) (hi : i < l.length) : nth (ov l at_ n f) i = if at_ ≤ i ∧ i < at_ + n then f (i - at_) else nth l i := by
  show (ov l at_ n f).getD i 0 = _
  rw [List.getD, ov, List.getElem?_map, List.getElem?_range hi]; rfl
theorem ov_zero (l : List Int) (at_ : Nat) (f : Nat → Int) : ov l at_ 0 f = l := by
  refine ext_nth (ov_length _ _ _ _) fun i hi => ?_
  rw [ov_length] at hi
  rw [nth_ov _ _ _ _ _ hi, if_neg (by omega)]
theorem ov_set (l : List Int) (at_ k : Nat) (f : Nat → Int) (h : at_ + k < l.length) : (ov l at_ k f).set (at_ + k) (f k) = ov l at_ (k + 1) f := by
  refine ext_nth (by simp [ov_length]) fun i hi => ?_
  have hi' : i < l.length := by simpa [ov_length] using hi
  rw [nth_set _ _ _ _ (by rw [ov_length]; exact h), nth_ov _ _ _ _ _ hi', nth_ov _ _ _ _ _ hi']
  by_cases e : i = at_ + k
  · subst e; rw [if_pos rfl, if_pos (by omega), Nat.add_sub_cancel_left]
  · rw [if_neg e]
    by_cases h2 : at_ ≤ i ∧ i < at_ + k
    · rw [if_pos h2, if_pos (by omega)]
    · rw [if_neg h2, if_neg (by omega)]
theorem ov_ov (l : List Int) (at_ m n : Nat) (f g h : Nat → Int) (h1 : ∀ i, i < m → f i = h i) (h2 : ∀ i, i < n → g i = h (m + i)) :
    ov (ov l at_ m f) (at_ + m) n g = ov l at_ (m + n) h := by
  refine ext_nth (by simp [ov_length]) fun i hi => ?_
  have hi' : i < l.length := by simpa [ov_length] using hi
  rw [nth_ov _ _ _ _ _ (by rw [ov_length]; exact hi'), nth_ov _ _ _ _ _ hi', nth_ov _ _ _ _ _ hi']
  by_cases c1 : at_ + m ≤ i ∧ i < at_ + m + n
  · rw [if_pos c1, if_pos (by omega), h2 _ (by omega)]; congr 1; omega
  · rw [if_neg c1]
    by_cases c2 : at_ ≤ i ∧ i < at_ + m
    · rw [if_pos c2, if_pos (by omega), h1 _ (by omega)]
    · rw [if_neg c2, if_neg (by omega)]
theorem wf_ov (l : List Int) (at_ n : Nat) (f : Nat → Int) (hl : ∀ i, 0 ≤ nth l i ∧ nth l i < 256) (hf : ∀ i, i < n → 0 ≤ f i ∧ f i < 256) (i : Nat) : 0 ≤ nth (ov l at_ n f) i ∧ nth (ov l at_ n f) i < 256 := by
  by_cases hi : i < l.length
  · rw [nth_ov _ _ _ _ _ hi]
    split
    · exact hf _ (by omega)
    · exact hl i
  · rw [nth_out _ _ (by rw [ov_length]; omega)]; omega
theorem dig_bd (v : Int) (k : Nat) : 0 ≤ dig v k ∧ dig v k < 256 := by unfold dig; omega
theorem pow_pos (n : Nat) : (0 : Int) < 256 ^ n := Int.pow_pos (by decide)
theorem num_ov (l : List Int) (at_ n m : Nat) (v : Int) (h : at_ + n ≤ l.length) (hm : m ≤ n) : num (ov l at_ n (dig v)) at_ m = v % 256 ^ m := by
  induction m with
  | zero => simp [num]
  | succ m ih =>
    have ih := ih (by omega)
    rw [num, ih, nth_ov _ _ _ _ _ (by omega), if_pos (by omega), Nat.add_sub_cancel_left, dig]
    have := pow_pos m
    rw [Int.pow_succ]
    generalize (256 : Int) ^ m = p at *
    have e1 := Int.emod_add_mul_ediv v p
    have e2 := Int.emod_add_mul_ediv (v / p) 256
    have b1 := Int.emod_nonneg v (Int.ne_of_gt this)
    have b2 := Int.emod_lt_of_pos v this
    have c1 : 0 ≤ v / p % 256 := by omega
    have c2 : v / p % 256 < 256 := by omega
    have hv : v = (v % p + v / p % 256 * p) + (p * 256) * (v / p / 256) := by
      have : p * (v / p) = p * (v / p % 256) + p * (256 * (v / p / 256)) := by rw [← Int.mul_add, e2]
      rw [Int.mul_assoc, Int.mul_comm (v / p % 256) p]; omega
    have hr : v % p + v / p % 256 * p < p * 256 := by
      have : v / p % 256 * p ≤ 255 * p := Int.mul_le_mul_of_nonneg_right (by omega) (by omega)
      omega
    have hr0 : 0 ≤ v % p + v / p % 256 * p := by
      have := Int.mul_nonneg c1 (Int.le_of_lt this)
      omega
    have : v % (p * 256) = v % p + v / p % 256 * p := by
      conv => lhs; rw [hv]
      rw [Int.add_mul_emod_self_left, Int.emod_eq_of_lt hr0 hr]
    rw [this]
/-- how many bytes from 'at' on stand ahead of the first zero, of n -/
def fz (l : List Int) (at_ : Nat) : Nat → Nat
  | 0 => 0
  | n + 1 => if fz l at_ n = n ∧ nth l (at_ + n) ≠ 0 then n + 1 else fz l at_ n
/-- are n bytes from 'at' on zero? -/
def zr (l : List Int) (at_ n : Nat) : Bool := decide (∀ i, i < n → nth l (at_ + i) = 0)
theorem zr_true (l : List Int) (at_ n : Nat) (h : ∀ i, i < n → nth l (at_ + i) = 0) : zr l at_ n = true := by simpa [zr] using h
theorem zr_false (l : List Int) (at_ n i : Nat) (hi : i < n) (h : nth l (at_ + i) ≠ 0) : zr l at_ n = false := by
  simp [zr]; exact ⟨i, hi, h⟩
/-- a string's bytes -/
def sb (s : ByteArray) : List Int := s.data.toList.map fun c => (c.toNat : Int)
theorem sb_length (s : ByteArray) : (sb s).length = s.size := by rw [sb, List.length_map, Array.length_toList]; rfl
theorem sb_nth (s : ByteArray) (k : Nat) (h : k < s.size) : nth (sb s) k = (s[k].toNat : Int) := by
  have h' : k < s.data.size := h
  rw [nth, sb, List.getD, List.getElem?_map, Array.getElem?_toList, Array.getElem?_eq_getElem h']; rfl
theorem sb_bd (s : ByteArray) (k : Nat) : 0 ≤ nth (sb s) k ∧ nth (sb s) k < 256 := by
  by_cases h : k < s.size
  · rw [sb_nth s k h]
    have := s[k].toNat_lt
    omega
  · rw [nth_out _ _ (by rw [sb_length]; omega)]; omega
/-- is a string a text of n bytes? -/
def tx (s : ByteArray) (n : Int) : Bool := decide ((s.size : Int) ≤ n) && decide (∀ i, i < s.size → nth (sb s) i ≠ 0)

end Rec

namespace Go.Proofs.YtflienghgobmoaaGreatDoor.Crc

abbrev W := BitVec 32

def pl (w : W) : W := if w.getLsbD 0 = true then (w >>> 1) ^^^ 0xEDB88320#32 else w >>> 1
def Lin (f : W → W) : Prop := ∀ a b, f (a ^^^ b) = f a ^^^ f b

theorem pl_lin : Lin pl := by
  intro a b
  unfold pl
  rw [BitVec.getLsbD_xor, BitVec.ushiftRight_xor_distrib]
  cases a.getLsbD 0 <;> cases b.getLsbD 0 <;> simp
  · rw [BitVec.xor_assoc]
  · rw [BitVec.xor_assoc, BitVec.xor_assoc, BitVec.xor_comm (b >>> 1)]
  · rw [BitVec.xor_assoc, ← BitVec.xor_assoc 3988292384#32, BitVec.xor_comm 3988292384#32, BitVec.xor_assoc (b >>> 1), BitVec.xor_self, BitVec.xor_zero]

def pw (f : W → W) : Nat → W → W
  | 0, w => w
  | n + 1, w => pw f n (f w)

theorem Lin.pw {f : W → W} (h : Lin f) : ∀ n, Lin (pw f n)
  | 0 => fun _ _ => rfl
  | n + 1 => fun a b => by
    show Crc.pw f n (f (a ^^^ b)) = Crc.pw f n (f a) ^^^ Crc.pw f n (f b)
    rw [h, Lin.pw h n]
theorem pw_add (f : W → W) (m : Nat) : ∀ n w, pw f (n + m) w = pw f m (pw f n w)
  | 0, w => by rw [Nat.zero_add]; rfl
  | n + 1, w => by
    rw [Nat.add_right_comm]
    show pw f (n + m) (f w) = pw f m (pw f n (f w))
    exact pw_add f m n (f w)
theorem Lin.zero {f : W → W} (h : Lin f) : f 0#32 = 0#32 := by
  have := h 0#32 0#32
  rw [BitVec.xor_self, BitVec.xor_self] at this
  exact this

def e8 (w : W) : W := pw pl 8 w
/-- the low bits of a word -/
def low (w : W) (k : Nat) : W := BitVec.ofNat 32 (w.toNat % 2 ^ k)
theorem low_bit (w : W) (k i : Nat) (hi : i < 32) : (low w k).getLsbD i = (decide (i < k) && w.getLsbD i) := by
  unfold low
  rw [BitVec.getLsbD_ofNat, Nat.testBit_mod_two_pow]
  simp [hi, BitVec.getLsbD]
/-- half a byte by the table -/
def tab : List Nat := [0, 498536548, 997073096, 651767980, 1994146192, 1802195444, 1303535960, 1342533948, 3988292384, 4027552580, 3604390888, 3412177804, 2607071920, 2262029012, 2685067896, 3183342108]
def half (w : W) : W := (w >>> 4) ^^^ BitVec.ofNat 32 (tab.getD (w.toNat % 16) 0)

theorem pl_even (w : W) (h : w.getLsbD 0 = false) : pl w = w >>> 1 := by unfold pl; rw [if_neg (by rw [h]; decide)]
theorem pw4_even (w : W) (h : ∀ i, i < 4 → w.getLsbD i = false) : pw pl 4 w = w >>> 4 := by
  show pl (pl (pl (pl w))) = w >>> 4
  have sh : ∀ k, k < 4 → (w >>> k).getLsbD 0 = false := fun k hk => by simp [h k hk]
  rw [pl_even w (h 0 (by omega)), pl_even (w >>> 1) (sh 1 (by omega)), ← BitVec.shiftRight_add, pl_even _ (sh 2 (by omega)), ← BitVec.shiftRight_add, pl_even _ (sh 3 (by omega)), ← BitVec.shiftRight_add]
theorem tab_ok : ∀ k, k < 16 → pw pl 4 (BitVec.ofNat 32 k) = BitVec.ofNat 32 (tab.getD k 0) := by decide +kernel
theorem half_ok (w : W) : half w = pw pl 4 w := by
  have e : w = (w ^^^ low w 4) ^^^ low w 4 := by rw [BitVec.xor_assoc, BitVec.xor_self, BitVec.xor_zero]
  have h0 : ∀ i, i < 4 → (w ^^^ low w 4).getLsbD i = false := fun i hi => by rw [BitVec.getLsbD_xor, low_bit w 4 i (by omega)]; simp [hi]
  have e2 : w >>> 4 = (w ^^^ low w 4) >>> 4 := by
    apply BitVec.eq_of_getLsbD_eq
    intro i hi
    rw [BitVec.getLsbD_ushiftRight, BitVec.getLsbD_ushiftRight, BitVec.getLsbD_xor]
    by_cases h : 4 + i < 32
    · rw [low_bit w 4 _ h, decide_eq_false (by omega), Bool.false_and, Bool.xor_false]
    · rw [BitVec.getLsbD_of_ge (low w 4) _ (by omega), Bool.xor_false]
  have e3 : pw pl 4 w = pw pl 4 (w ^^^ low w 4) ^^^ pw pl 4 (low w 4) := by
    conv => lhs; rw [e]
    exact pl_lin.pw 4 _ _
  rw [e3, pw4_even _ h0, ← e2]
  unfold half
  congr 1
  exact (tab_ok _ (Nat.mod_lt _ (by omega))).symm
theorem half_half (w : W) : half (half w) = e8 w := by
  rw [half_ok, half_ok, ← pw_add]; rfl

/-- bytes over a word -/
def fold (w : W) (l : List Int) : W := l.foldl (fun w c => e8 (w ^^^ BitVec.ofInt 32 c)) w
def ones : W := 4294967295#32
def crc (l : List Int) : W := fold ones l ^^^ ones
theorem fold_append (w : W) (a b : List Int) : fold w (a ++ b) = fold (fold w a) b := List.foldl_append
theorem fold_snoc (w : W) (a : List Int) (c : Int) : fold w (a ++ [c]) = e8 (fold w a ^^^ BitVec.ofInt 32 c) := by rw [fold_append]; rfl
end Go.Proofs.YtflienghgobmoaaGreatDoor.Crc
namespace Go.Proofs.YtflienghgobmoaaGreatDoor.Crc

end Go.Proofs.YtflienghgobmoaaGreatDoor.Crc

namespace Go.Proofs.YtflienghgobmoaaGreatDoor
open Rec

/-- the header's first eight bytes -/
def mag : List Int := [66, 79, 76, 69, 76, 79, 71, 49]
/-- the number ahead of one -/
def pre (ns : List Int) (i : Nat) : Int := if i = 0 then 97 else nth ns (i - 1)
/-- may these numbers be, on a disk of n blocks? -/
def may (ns : List Int) (n : Int) : Bool := decide (∀ i, i < ns.length → pre ns i < nth ns i ∧ nth ns i < n)
/-- a header's byte -/
def hb (ns : List Int) (s : Int) (i : Nat) : Int :=
  if i < 8 then nth mag i else if i < 10 then dig ns.length (i - 8) else if i < 12 then 0 else if i < 16 then dig s (i - 12)
  else if i < 16 + 4 * ns.length then dig (nth ns ((i - 16) / 4)) ((i - 16) % 4) else 0
/-- a header -/
def hd (ns : List Int) (s : Int) : List Int := (List.range 512).map (hb ns s)
/-- a header with only some of its numbers -/
def hp (ns : List Int) (j : Nat) : List Int := (List.range 512).map fun i => if i < 16 + 4 * j then hb ns 0 i else 0
/-- 512 zeros -/
def zs : List Int := List.replicate 512 0
/-- how many numbers a header says that it has -/
def cnt (h : List Int) : Nat := (num h 8 2).toNat
/-- its numbers -/
def nsOf (h : List Int) : List Int := (List.range (cnt h)).map fun i => num h (16 + 4 * i) 4
/-- are the bytes ahead of the sum a header's? -/
def form (h : List Int) : Bool := decide (h.take 8 = mag) && (nth h 10 == 0 && nth h 11 == 0) && (decide (1 ≤ cnt h) && decide (cnt h ≤ 96))
/-- is it a header of numbers? -/
def isH (h : List Int) (n : Int) : Bool := form h && may (nsOf h) n && zr h (16 + 4 * cnt h) (512 - (16 + 4 * cnt h))
/-- P4.2: the error -/
def numsE (h : List Int) (n : Int) : Int := if h.length = 512 then if zr h 0 512 then 0 else if isH h n then 0 else 41 else 32
/-- P4.2: the numbers -/
def numsL (h : List Int) (n : Int) : List Int := if h.length = 512 ∧ zr h 0 512 = false ∧ isH h n = true then nsOf h else []
/-- so many blocks? -/
def blk (ds : List (List Int)) (k : Nat) : Bool := decide (ds.length = k) && decide (∀ b, b ∈ ds → b.length = 512)
/-- the sum of a header with these blocks -/
def sumV (h : List Int) (ds : List (List Int)) : Int := ((Crc.crc (ov h 12 4 (fun _ => 0) ++ ds.flatten)).toNat : Int)
/-- P4.3 -/
def good (h : List Int) (n : Int) (ds : List (List Int)) : Bool := decide (numsL h n ≠ []) && blk ds (numsL h n).length && decide (num h 12 4 = sumV h ds)
/-- P4.1: the error -/
def makeE (ns : List Int) (ds : List (List Int)) : Int := if (1 ≤ ns.length ∧ ns.length ≤ 96) ∧ may ns 16384 = true then if blk ds ns.length then 0 else 32 else 40
/-- P4.1: the header -/
def made (ns : List Int) (ds : List (List Int)) : List Int := hd ns (sumV (hd ns 0) ds)

theorem mag_len : mag.length = 8 := rfl
theorem hd_length (ns : List Int) (s : Int) : (hd ns s).length = 512 := by simp [hd]
theorem hp_length (ns : List Int) (j : Nat) : (hp ns j).length = 512 := by simp [hp]
theorem nth_map (f : Nat → Int) (n i : Nat) (h : i < n) : nth ((List.range n).map f) i = f i := by simp [nth, List.getD, h]
theorem nth_hd (ns : List Int) (s : Int) (i : Nat) (h : i < 512) : nth (hd ns s) i = hb ns s i := nth_map _ _ _ h
theorem nth_hp (ns : List Int) (j i : Nat) (h : i < 512) : nth (hp ns j) i = if i < 16 + 4 * j then hb ns 0 i else 0 := nth_map _ _ _ h
theorem dig_zero (k : Nat) : dig 0 k = 0 := by simp [dig]
theorem mag_bd : ∀ i, 0 ≤ nth mag i ∧ nth mag i < 256 := by
  intro i
  by_cases h : i < 8
  · have : i = 0 ∨ i = 1 ∨ i = 2 ∨ i = 3 ∨ i = 4 ∨ i = 5 ∨ i = 6 ∨ i = 7 := by omega
    rcases this with rfl | rfl | rfl | rfl | rfl | rfl | rfl | rfl <;> decide
  · rw [nth_out _ _ (by rw [mag_len]; omega)]; omega
theorem zs_length : zs.length = 512 := List.length_replicate
theorem nth_zs (i : Nat) : nth zs i = 0 := by
  by_cases h : i < 512
  · unfold nth zs; rw [List.getD_eq_getElem?_getD, List.getElem?_replicate, if_pos h]; rfl
  · exact nth_out _ _ (by rw [zs_length]; omega)
/-- the first two puts -/
theorem hp_zero (ns : List Int) : ov (ov zs 0 8 (nth mag)) 8 2 (dig ns.length) = hp ns 0 := by
  refine ext_nth (by rw [ov_length, ov_length, zs_length, hp_length]) (fun i hi => ?_)
  rw [ov_length, ov_length, zs_length] at hi
  rw [nth_ov _ _ _ _ _ (by rw [ov_length, zs_length]; exact hi), nth_ov _ _ _ _ _ (by rw [zs_length]; exact hi), nth_hp _ _ _ hi, nth_zs]
  unfold hb
  by_cases h1 : i < 8
  · rw [if_neg (by omega), if_pos (by omega), if_pos (by omega), if_pos h1]; rfl
  · by_cases h2 : i < 10
    · rw [if_pos (by omega), if_pos (by omega), if_neg h1, if_pos h2]
    · rw [if_neg (by omega), if_neg (by omega)]
      by_cases h3 : i < 12
      · rw [if_pos (by omega), if_neg h1, if_neg h2, if_pos h3]
      · by_cases h4 : i < 16
        · rw [if_pos (by omega), if_neg h1, if_neg h2, if_neg h3, if_pos h4, dig_zero]
        · rw [if_neg (by omega)]
theorem hp_succ (ns : List Int) (j : Nat) (h : j < ns.length) (h96 : ns.length ≤ 96) : ov (hp ns j) (16 + 4 * j) 4 (dig (nth ns j)) = hp ns (j + 1) := by
  refine ext_nth (by rw [ov_length, hp_length, hp_length]) (fun i hi => ?_)
  rw [ov_length, hp_length] at hi
  rw [nth_ov _ _ _ _ _ (by rw [hp_length]; exact hi), nth_hp _ _ _ hi, nth_hp _ _ _ hi]
  by_cases h1 : i < 16 + 4 * j
  · rw [if_neg (by omega), if_pos h1, if_pos (by omega)]
  · by_cases h2 : i < 16 + 4 * (j + 1)
    · rw [if_pos (by omega), if_pos h2]
      unfold hb
      rw [if_neg (by omega), if_neg (by omega), if_neg (by omega), if_neg (by omega), if_pos (by omega)]
      have e1 : (i - 16) / 4 = j := by omega
      have e2 : (i - 16) % 4 = i - (16 + 4 * j) := by omega
      rw [e1, e2]
    · rw [if_neg (by omega), if_neg h1, if_neg h2]
theorem hp_all (ns : List Int) : hp ns ns.length = hd ns 0 := by
  refine ext_nth (by rw [hp_length, hd_length]) (fun i hi => ?_)
  rw [hp_length] at hi
  rw [nth_hp _ _ _ hi, nth_hd _ _ _ hi]
  split
  · rfl
  · unfold hb
    rw [if_neg (by omega), if_neg (by omega), if_neg (by omega), if_neg (by omega), if_neg (by omega)]
theorem hd_put (ns : List Int) (s t : Int) : ov (hd ns s) 12 4 (dig t) = hd ns t := by
  refine ext_nth (by rw [ov_length, hd_length, hd_length]) (fun i hi => ?_)
  rw [ov_length, hd_length] at hi
  rw [nth_ov _ _ _ _ _ (by rw [hd_length]; exact hi), nth_hd _ _ _ hi, nth_hd _ _ _ hi]
  split
  · unfold hb
    rw [if_neg (by omega), if_neg (by omega), if_neg (by omega), if_pos (by omega)]
  · unfold hb
    by_cases h1 : i < 12
    · split
      · rfl
      · split
        · rfl
        · rfl
    · have h2 : ¬ i < 8 := by omega
      have h3 : ¬ i < 10 := by omega
      have h4 : ¬ i < 16 := by omega
      simp only [if_neg h1, if_neg h2, if_neg h3, if_neg h4]
theorem hd_clear (ns : List Int) (s : Int) : ov (hd ns s) 12 4 (fun _ => 0) = hd ns 0 := by
  rw [← hd_put ns s 0]; congr 1; funext k; exact (dig_zero k).symm
theorem sumV_hd (ns : List Int) (s : Int) (ds : List (List Int)) : sumV (hd ns s) ds = sumV (hd ns 0) ds := by unfold sumV; rw [hd_clear, hd_clear]
theorem sumV_bd (h : List Int) (ds : List (List Int)) : 0 ≤ sumV h ds ∧ sumV h ds < 4294967296 := by
  unfold sumV
  have := (Crc.crc (ov h 12 4 (fun _ => 0) ++ ds.flatten)).isLt
  omega
/-- numbers and their bytes -/
theorem num_dig (l : List Int) (A : Nat) (v : Int) : ∀ n, (∀ k, k < n → nth l (A + k) = dig v k) → num l A n = v % 256 ^ n
  | 0, _ => by simp [num]
  | n + 1, h => by
    have e := num_ov (List.replicate (n + 1) 0) 0 (n + 1) (n + 1) v (by simp) (Nat.le_refl _)
    have key : ∀ m, m ≤ n + 1 → num l A m = num (ov (List.replicate (n + 1) 0) 0 (n + 1) (dig v)) 0 m := by
      intro m
      induction m with
      | zero => intro _; rfl
      | succ m ih =>
        intro hm
        rw [num, num, ih (by omega), h m (by omega), nth_ov _ _ _ _ _ (by simp; omega), if_pos (by omega)]
        simp
    rw [key _ (Nat.le_refl _), e]
theorem num_hd (ns : List Int) (s : Int) (i : Nat) (h : i < ns.length) (h96 : ns.length ≤ 96) (hb0 : 0 ≤ nth ns i ∧ nth ns i < 4294967296) : num (hd ns s) (16 + 4 * i) 4 = nth ns i := by
  rw [num_dig _ _ (nth ns i) 4]
  · have e : (256 : Int) ^ 4 = 4294967296 := rfl
    rw [e]; omega
  · intro k hk
    rw [nth_hd _ _ _ (by omega)]
    unfold hb
    rw [if_neg (by omega), if_neg (by omega), if_neg (by omega), if_neg (by omega), if_pos (by omega)]
    have e1 : (16 + 4 * i + k - 16) / 4 = i := by omega
    have e2 : (16 + 4 * i + k - 16) % 4 = k := by omega
    rw [e1, e2]
theorem num_sum (ns : List Int) (s : Int) (hs : 0 ≤ s ∧ s < 4294967296) : num (hd ns s) 12 4 = s := by
  rw [num_dig _ _ s 4]
  · have e : (256 : Int) ^ 4 = 4294967296 := rfl
    rw [e]; omega
  · intro k hk
    rw [nth_hd _ _ _ (by omega)]
    unfold hb
    rw [if_neg (by omega), if_neg (by omega), if_neg (by omega), if_pos (by omega)]
    congr 1; omega
theorem cnt_hd (ns : List Int) (s : Int) (h96 : ns.length ≤ 96) : cnt (hd ns s) = ns.length := by
  unfold cnt
  rw [num_dig _ _ (ns.length : Int) 2]
  · have e : (256 : Int) ^ 2 = 65536 := rfl
    rw [e]; omega
  · intro k hk
    rw [nth_hd _ _ _ (by omega)]
    unfold hb
    rw [if_neg (by omega), if_pos (by omega)]
    congr 1; omega
theorem pre_bd (ns : List Int) (n : Int) (h : may ns n = true) : ∀ i, i < ns.length → 98 ≤ nth ns i ∧ nth ns i < n := by
  have h := of_decide_eq_true h
  intro i
  induction i with
  | zero => intro hi; have := h 0 hi; simp [pre] at this; omega
  | succ i ih =>
    intro hi
    have a := ih (by omega)
    have b := h (i + 1) hi
    simp [pre] at b
    omega
theorem nsOf_hd (ns : List Int) (s : Int) (h96 : ns.length ≤ 96) (hb0 : ∀ i, i < ns.length → 0 ≤ nth ns i ∧ nth ns i < 4294967296) : nsOf (hd ns s) = ns := by
  refine ext_nth (by simp [nsOf, cnt_hd ns s h96]) (fun i hi => ?_)
  simp only [nsOf, cnt_hd ns s h96, List.length_map, List.length_range] at hi
  rw [nsOf, cnt_hd ns s h96, nth_map _ _ _ hi, num_hd ns s i hi h96 (hb0 i hi)]
theorem take8 (h : List Int) (hl : h.length = 512) : h.take 8 = mag ↔ ∀ i, i < 8 → nth h i = nth mag i := by
  have ht : (h.take 8).length = 8 := by rw [List.length_take, hl]; rfl
  have en : ∀ i, i < 8 → nth (h.take 8) i = nth h i := fun i hi => by simp [nth, List.getD, hi]
  constructor
  · intro e i hi; rw [← en i hi, e]
  · intro e
    exact ext_nth (by rw [ht, mag_len]) (fun i hi => by rw [ht] at hi; rw [en i hi]; exact e i hi)
theorem form_hd (ns : List Int) (s : Int) (h1 : 1 ≤ ns.length) (h96 : ns.length ≤ 96) : form (hd ns s) = true := by
  unfold form
  rw [cnt_hd ns s h96]
  simp only [Bool.and_eq_true, decide_eq_true_eq, beq_iff_eq]
  rw [take8 _ (hd_length _ _)]
  refine ⟨⟨fun i hi => ?_, ?_, ?_⟩, h1, h96⟩
  · rw [nth_hd _ _ _ (by omega)]; unfold hb; rw [if_pos hi]
  · rw [nth_hd _ _ _ (by omega)]; rfl
  · rw [nth_hd _ _ _ (by omega)]; rfl
theorem zr_hd (ns : List Int) (s : Int) (h96 : ns.length ≤ 96) : zr (hd ns s) (16 + 4 * ns.length) (512 - (16 + 4 * ns.length)) = true := by
  refine zr_true _ _ _ (fun i hi => ?_)
  rw [nth_hd _ _ _ (by omega)]; unfold hb
  rw [if_neg (by omega), if_neg (by omega), if_neg (by omega), if_neg (by omega), if_neg (by omega)]
theorem isH_hd (ns : List Int) (s n : Int) (h1 : 1 ≤ ns.length) (h96 : ns.length ≤ 96) (hb0 : ∀ i, i < ns.length → 0 ≤ nth ns i ∧ nth ns i < 4294967296) : isH (hd ns s) n = may ns n := by
  unfold isH
  rw [nsOf_hd ns s h96 hb0, cnt_hd ns s h96, form_hd ns s h1 h96, zr_hd ns s h96]
  simp
theorem zr_hd_no (ns : List Int) (s : Int) : zr (hd ns s) 0 512 = false := by
  refine zr_false _ _ _ 0 (by omega) ?_
  rw [nth_hd _ _ _ (by omega)]; show nth mag 0 ≠ 0; decide
theorem numsL_hd (ns : List Int) (s n : Int) (h1 : 1 ≤ ns.length) (h96 : ns.length ≤ 96) (hb0 : ∀ i, i < ns.length → 0 ≤ nth ns i ∧ nth ns i < 4294967296) : numsL (hd ns s) n = if may ns n then ns else [] := by
  unfold numsL
  rw [isH_hd ns s n h1 h96 hb0, nsOf_hd ns s h96 hb0, hd_length, zr_hd_no]
  simp
theorem numsE_hd (ns : List Int) (s n : Int) (h1 : 1 ≤ ns.length) (h96 : ns.length ≤ 96) (hb0 : ∀ i, i < ns.length → 0 ≤ nth ns i ∧ nth ns i < 4294967296) : numsE (hd ns s) n = if may ns n then 0 else 41 := by
  unfold numsE
  rw [isH_hd ns s n h1 h96 hb0, hd_length, zr_hd_no]
  simp
end Go.Proofs.YtflienghgobmoaaGreatDoor

namespace Go.Proofs.YtflienghgobmoaaGreatDoor
open Go.RowKit Rec

/-- the two tables 200 -/
structure TabAt (w : World) : Prop where
  wid : ∀ i, i < 4 → w.cell? ⟨0, i, none⟩ = some (.int .i64 (nth [1, 2, 4, 8] i))
  hal : ∀ i, i < 16 → w.cell? ⟨1, i, none⟩ = some (.int .u32 ((Crc.tab.getD i 0 : Nat) : Int))
/-- 200 -/
theorem TabAt.size {w : World} (h : TabAt w) : 1 < w.heap.size := block_lt_of_cell (h.hal 0 (by omega))
/-- 200 -/
theorem TabAt.below {B : Nat} {w w' : World} (h : TabAt w) (hb : Below B w w') (hB : 1 < B) : TabAt w' :=
  ⟨fun i hi => by rw [hb.cell (p := ⟨0, i, none⟩) (show 0 < B by omega)]; exact h.wid i hi, fun i hi => by rw [hb.cell (p := ⟨1, i, none⟩) hB]; exact h.hal i hi⟩
/-- 200 -/
theorem TabAt.on {w w' : World} (h : TabAt w) (hb : Below w.heap.size w w') : TabAt w' := h.below hb h.size
/-- 200 -/
theorem TabAt.grown {w w' : World} {r : Option Nat} (h : TabAt w) (hb : w.grownBy w' r) (h0 : r ≠ some 0) (h1 : r ≠ some 1) : TabAt w' :=
  ⟨fun i hi => hb.cell (h.wid i hi) (fun e => h0 e.symm), fun i hi => hb.cell (h.hal i hi) (fun e => h1 e.symm)⟩
/-- bytes in memory -/
structure Bytes (w : World) (a : Option Addr) (l : List Int) : Prop where
  len : l.length ≤ 1000000000000000
  wf : ∀ i, 0 ≤ nth l i ∧ nth l i < 256
  at_ : l = [] ∨ ∃ b off, a = some ⟨b, off, none⟩ ∧ ∀ i, i < l.length → w.cell? ⟨b, off + i, none⟩ = some (.int .u8 (nth l i))
theorem Bytes.cell {w : World} {b off i : Nat} {l : List Int} (h : Bytes w (some ⟨b, off, none⟩) l) (hi : i < l.length) : w.cell? ⟨b, off + i, none⟩ = some (.int .u8 (nth l i)) := by
  rcases h.at_ with e | ⟨b', off', e, hc⟩
  · subst e; exact absurd hi (by simp)
  · cases e; exact hc i hi
theorem heap_lt {w : World} {B : Nat} {o : Obj} (h : w.heap[B]? = some o) : B < w.heap.size := by
  by_cases hb : B < w.heap.size
  · exact hb
  · rw [Array.getElem?_eq_none (by omega)] at h; exact absurd h (by simp)
theorem nth_cell (l : List Int) (k : Nat) (h : k < l.length) : ((l.map (Value.int .u8)).toArray)[k]? = some (.int .u8 (nth l k)) := by
  simp [nth, List.getD, h]
theorem nth_cellL (l : List Int) (k : Nat) (h : k < l.length) : (l.map (Value.int .u8))[k]? = some (.int .u8 (nth l k)) := by
  simp [nth, List.getD, h]
theorem grown_trans {a b c : World} {r : Option Nat} (h : a.grownBy b r) (k : b.grownBy c r) : a.grownBy c r :=
  ⟨k.os.trans h.os, k.tape.trans h.tape, k.output.trans h.output, Nat.le_trans h.size k.size, fun i hi hr => (k.block i (Nat.lt_of_lt_of_le hi h.size) hr).trans (h.block i hi hr)⟩
theorem grown_refl (w : World) (r : Option Nat) : w.grownBy w r := ⟨rfl, rfl, rfl, Nat.le_refl _, fun _ _ _ => rfl⟩
theorem below_of {w w' : World} {g B : Nat} (h : w.grownBy w' (some g)) (hB : B ≤ g) (hs : B ≤ w.heap.size) : Below B w w' := (Below.refl B w).grown h hs (by intro k hk; cases hk; exact hB)

/-- bytes in a row of one's own -/
structure OwnB (w : World) (g cap : Nat) (l : List Int) : Prop where
  row : ∃ cur : Array Value, w.heap[g]? = some (.cells cur 5 (0, 0)) ∧ cur.size = cap ∧ cur.toList.take l.length = l.map (Value.int .u8)
  len : l.length ≤ 1000000000000000
  room : l.length ≤ cap
  top : cap ≤ maxLen
  wf : ∀ i, 0 ≤ nth l i ∧ nth l i < 256

theorem OwnB.cell {w : World} {g cap : Nat} {l : List Int} (h : OwnB w g cap l) (i : Nat) (hi : i < l.length) : w.cell? ⟨g, i, none⟩ = some (.int .u8 (nth l i)) := by
  obtain ⟨cur, hg, _, ht⟩ := h.row
  rw [cell_of_row _ _ _ _ _ _ hg, ← nth_cell l i hi, ← ht]
  simp [hi]
theorem OwnB.frozen {w : World} {g cap : Nat} {l : List Int} (h : OwnB w g cap l) (i : Nat) : w.frozen? ⟨g, i, none⟩ = false := by
  obtain ⟨cur, hg, _, _⟩ := h.row
  exact frozen_of_row _ _ _ _ _ hg
theorem OwnB.bytes {w : World} {g cap : Nat} {l : List Int} (h : OwnB w g cap l) : Bytes w (some ⟨g, 0, none⟩) l :=
  ⟨h.len, h.wf, .inr ⟨g, 0, rfl, fun i hi => by rw [Nat.zero_add]; exact h.cell i hi⟩⟩
theorem OwnB.lt {w : World} {g cap : Nat} {l : List Int} (h : OwnB w g cap l) : g < w.heap.size := by
  obtain ⟨cur, hg, _, _⟩ := h.row
  exact heap_lt hg
theorem OwnB.below {B : Nat} {w w' : World} {g cap : Nat} {l : List Int} (h : OwnB w g cap l) (hb : Below B w w') (hB : g < B) : OwnB w' g cap l := by
  obtain ⟨cur, hg, h2, h3⟩ := h.row
  exact ⟨⟨cur, by rw [hb.block g hB]; exact hg, h2, h3⟩, h.len, h.room, h.top, h.wf⟩
theorem OwnB.on {w w' : World} {g cap : Nat} {l : List Int} (h : OwnB w g cap l) (hb : Below w.heap.size w w') : OwnB w' g cap l := h.below hb h.lt
theorem OwnB.grown {r : Option Nat} {w w' : World} {g cap : Nat} {l : List Int} (h : OwnB w g cap l) (hb : w.grownBy w' r) (hr : some g ≠ r) : OwnB w' g cap l := by
  obtain ⟨cur, hg, h2, h3⟩ := h.row
  exact ⟨⟨cur, by rw [hb.block g h.lt hr]; exact hg, h2, h3⟩, h.len, h.room, h.top, h.wf⟩
theorem grown_set {w : World} {g k : Nat} {v : Value} : w.grownBy (w.setCell ⟨g, k, none⟩ v) (some g) :=
  ⟨rfl, rfl, rfl, by simp [World.setCell], fun i _ hr => Below.heap_setCell w ⟨g, k, none⟩ v i (fun e => hr (by rw [e]))⟩
theorem OwnB.set {w : World} {g cap : Nat} {l : List Int} (h : OwnB w g cap l) (k : Nat) (c : Int) (hk : k < l.length) (hc : 0 ≤ c ∧ c < 256) :
    OwnB (w.setCell ⟨g, k, none⟩ (.int .u8 c)) g cap (l.set k c) := by
  obtain ⟨cur, hg, h2, h3⟩ := h.row
  refine ⟨⟨cur.setIfInBounds k (.int .u8 c), heap_setCell_same _ _ _ _ _ _ hg, by simp [h2], ?_⟩, by simpa using h.len, by simpa using h.room, h.top, fun i => ?_⟩
  · rw [List.length_set, Array.toList_setIfInBounds, List.take_set, h3, List.map_set]
  · rw [nth_set l k i c hk]
    split
    · exact hc
    · exact h.wf i
theorem Bytes.below {B : Nat} {w w' : World} {a : Option Addr} {l : List Int} (h : Bytes w a l) (hb : Below B w w') (hB : ∀ p, a = some p → p.block < B) : Bytes w' a l := by
  refine ⟨h.len, h.wf, ?_⟩
  rcases h.at_ with e | ⟨b, off, rfl, hc⟩
  · exact .inl e
  · refine .inr ⟨b, off, rfl, fun i hi => ?_⟩
    have := hB _ rfl
    rw [hb.cell (p := ⟨b, off + i, none⟩) this]; exact hc i hi
theorem Bytes.on {w w' : World} {a : Option Addr} {l : List Int} (h : Bytes w a l) (hb : Below w.heap.size w w') : Bytes w' a l := by
  refine ⟨h.len, h.wf, ?_⟩
  rcases h.at_ with e | ⟨b, off, rfl, hc⟩
  · exact .inl e
  · exact .inr ⟨b, off, rfl, fun i hi => by rw [hb.cell (block_lt_of_cell (hc i hi))]; exact hc i hi⟩
theorem nth_take (l : List Int) (k i : Nat) (h : i < k) : nth (l.take k) i = nth l i := by simp [nth, List.getD, h]
theorem nth_drop (l : List Int) (k i : Nat) : nth (l.drop k) i = nth l (k + i) := by simp [nth, List.getD]
theorem wf_drop {l : List Int} (h : ∀ i, 0 ≤ nth l i ∧ nth l i < 256) (k : Nat) : ∀ i, 0 ≤ nth (l.drop k) i ∧ nth (l.drop k) i < 256 := fun i => by rw [nth_drop]; exact h _
theorem wf_take {l : List Int} (h : ∀ i, 0 ≤ nth l i ∧ nth l i < 256) (k : Nat) : ∀ i, 0 ≤ nth (l.take k) i ∧ nth (l.take k) i < 256 := by
  intro i
  by_cases hi : i < k
  · rw [nth_take l k i hi]; exact h i
  · rw [nth_out _ _ (by rw [List.length_take]; omega)]; omega
theorem wf_two {l m : List Int} (h : ∀ i, 0 ≤ nth l i ∧ nth l i < 256) (k : ∀ i, 0 ≤ nth m i ∧ nth m i < 256) : ∀ i, 0 ≤ nth (l ++ m) i ∧ nth (l ++ m) i < 256 := by
  intro i
  unfold nth at *
  by_cases hi : i < l.length
  · have : (l ++ m).getD i 0 = l.getD i 0 := by simp [List.getD, List.getElem?_append, hi]
    rw [this]; exact h i
  · have : (l ++ m).getD i 0 = m.getD (i - l.length) 0 := by simp [List.getD, List.getElem?_append, hi]
    rw [this]; exact k _
theorem wf_list {l : List Int} (h : l.all (fun c => decide (0 ≤ c ∧ c < 256)) = true) : ∀ i, 0 ≤ nth l i ∧ nth l i < 256 := by
  intro i
  by_cases hi : i < l.length
  · have e : nth l i = l[i] := by simp [nth, List.getD, hi]
    rw [e]
    have := List.all_eq_true.1 h l[i] (List.getElem_mem hi)
    simpa using this
  · rw [nth_out _ _ (by omega)]; omega
theorem Bytes.take {w : World} {a : Option Addr} {l : List Int} (h : Bytes w a l) (k : Nat) : Bytes w a (l.take k) := by
  refine ⟨by have := h.len; rw [List.length_take]; omega, wf_take h.wf k, ?_⟩
  rcases h.at_ with e | ⟨b, off, rfl, hc⟩
  · exact .inl (by rw [e]; simp)
  · refine .inr ⟨b, off, rfl, fun i hi => ?_⟩
    rw [List.length_take] at hi
    rw [nth_take _ _ _ (by omega)]; exact hc i (by omega)

theorem info5 : (Tryz.prog.info? 5).map (fun i => (i.zero, i.size, i.bytes)) = some (some (.int .u8 0), 1, 1) := by kernel_rfl
theorem cells_u8 (l : List Int) : ∀ u ∈ l.map (Value.int .u8), u.oneCell' = true := by
  intro u hu
  obtain ⟨c, _, rfl⟩ := List.mem_map.1 hu
  rfl
theorem Bytes.news {w : World} {p : Addr} {l : List Int} (hb : Bytes w (some p) l) : ∀ j u, (l.map (Value.int .u8))[j]? = some u → w.cell? (p.add j) = some u := by
  intro j u hj
  rcases hb.at_ with e | ⟨b, off, e, hc⟩
  · subst e; simp at hj
  · cases e
    have hlt : j < l.length := by
      by_cases hlt : j < l.length
      · exact hlt
      · rw [List.getElem?_eq_none (by simp; omega)] at hj; cases hj
    rw [nth_cellL l j hlt] at hj
    cases hj
    rw [Addr.add_lit, ← hc j hlt]
theorem Bytes.nil {w : World} {l : List Int} (hb : Bytes w none l) : l = [] := by
  rcases hb.at_ with e | ⟨_, _, e, _⟩
  · exact e
  · cases e
theorem owns_of {w : World} {B g cap : Nat} {l : List Int} (h : OwnB w g cap l) (hg : B ≤ g) : w.ownsRow B 5 1 (.slice (some ⟨g, 0, none⟩) l.length cap) l.length (l.map (Value.int .u8)) := by
  obtain ⟨cur, h1, h2, h3⟩ := h.row
  exact ⟨by simp, .inr ⟨g, cap, cur, rfl, hg, h1, h.room, h.top, by omega, by simpa using h3⟩⟩
/-- 'append(s, x...)', s a row of one's own -/
theorem wp_app {ops : Array Oper} {rest : List Oper} {o : Oper} {a : Act} {Q : Exit → Act → World → Prop} {w : World} (hgd : o.guard = none) (s x : Operand)
    (ho : o.op = .call { callee := .builtin .append, args := #[s, x], argTypes := #[22, 22] }) (B g k cap : Nat) (l m : List Int) (hk : l.length = k) (hs : a.eval s = .slice (some ⟨g, 0, none⟩) k cap) (hown : OwnB w g cap l) (hg : B ≤ g) (hB : B ≤ w.heap.size)
    (ad : Option Addr) (n c : Nat) (hx : a.eval x = .slice ad n c) (hn : m.length = n) (hb : Bytes w ad m) (hz : ad = none → c = 0) (h47 : k + n ≤ 140737488355328)
    (h : ∀ g' cap' w', B ≤ g' → OwnB w' g' cap' (l ++ m) → w.grownBy w' (some g) → wpList Tryz.prog ops Q rest (a.put o.dst (.slice (some ⟨g', 0, none⟩) (k + n) cap')) w') :
    wpList Tryz.prog ops Q (o :: rest) a w := by
  subst hn hk
  obtain ⟨i0, hi, hz0, hz1, hz2⟩ := info_parts info5
  have hown' := owns_of (B := B) hown hg
  cases ad with
  | none =>
    have hm := hb.nil
    subst hm
    have hc := hz rfl
    subst hc
    refine wpList_append_own_none hgd s x 22 ho B 5 i0 1 Tryz.underlying22 hi _ _ _ hs hown' hx ?_
    exact h g cap w hg (by simpa using hown) (grown_refl _ _)
  | some p =>
    refine wpList_append_own _ hgd s x 22 ho B 5 i0 (.int .u8 0) 1 1 Tryz.underlying22 hi hz0 hz1 hz2 rfl (by decide) _ _ _ hs hown' p m.length c (m.map (Value.int .u8)) hx (by simp) hb.news (cells_u8 m) ?_ (by omega) hB ?_
    · unfold maxLen; omega
    · intro v' w' ho' hg' hnil
      rw [← List.map_append] at ho'
      rcases ho'.2 with ⟨hv, h0⟩ | ⟨g', cap', cur, hv, hgB, hgr, hcap, hcm, hsz, htk⟩
      · have := (hnil.1 hv).1
        cases this
      · subst hv
        refine h _ _ _ hgB ⟨⟨cur, hgr, by simpa using hsz, by simpa using htk⟩, by rw [List.length_append]; omega, by simpa using hcap, hcm, wf_two hown.wf hb.wf⟩ hg'
/-- an empty row of one's own -/
theorem own_empty {w : World} {g : Nat} (h : w.heap[g]? = some (.cells #[] 5 (0, 0))) : OwnB w g 0 [] :=
  ⟨⟨#[], h, rfl, rfl⟩, by simp, by simp, by unfold maxLen; omega, by intro i; simp [nth]⟩
end Go.Proofs.YtflienghgobmoaaGreatDoor
