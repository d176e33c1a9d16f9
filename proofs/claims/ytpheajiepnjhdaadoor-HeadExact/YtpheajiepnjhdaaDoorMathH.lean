import Derived.Test.YtpheajiepnjhdaaDoorMathR
import Derived.Test.YtpheajiepnjhdaaDoorMathC
namespace Go.Proofs.YtpheajiepnjhdaaDoor
open Rec

/-- the header's first eight bytes -/
def mag : List Int := [66, 79, 76, 69, 76, 79, 71, 49]
/-- the number ahead of one -/
def pre (ns : List Int) (i : Nat) : Int := if i = 0 then 97 else nth ns (i - 1)
/-- may these numbers be, on a disk of n blocks? -/
def may (ns : List Int) (n : Int) : Bool := decide (∀ i, i < ns.length → pre ns i < nth ns i ∧ nth ns i < n)
/-- a header's byte -/
def hb (ns : List Int) (s : Int) (i : Nat) : Int :=
  if i < 8 then nth mag i else if i < 10 then dig ns.length (i - 8) else if i < 12 then 0 else if i < 16 then dig s (i - 12)
  else if i < 16 + 4 * ns.length then dig (nth ns ((i - 16) / 4)) ((i - 16) % 4) else 0
/-- a header -/
def hd (ns : List Int) (s : Int) : List Int := (List.range 512).map (hb ns s)
/-- a header with only some of its numbers -/
def hp (ns : List Int) (j : Nat) : List Int := (List.range 512).map fun i => if i < 16 + 4 * j then hb ns 0 i else 0
/-- 512 zeros -/
def zs : List Int := List.replicate 512 0
/-- how many numbers a header says that it has -/
def cnt (h : List Int) : Nat := (num h 8 2).toNat
/-- its numbers -/
def nsOf (h : List Int) : List Int := (List.range (cnt h)).map fun i => num h (16 + 4 * i) 4
/-- are the bytes ahead of the sum a header's? -/
def form (h : List Int) : Bool := decide (h.take 8 = mag) && (nth h 10 == 0 && nth h 11 == 0) && (decide (1 ≤ cnt h) && decide (cnt h ≤ 96))
/-- is it a header of numbers? -/
def isH (h : List Int) (n : Int) : Bool := form h && may (nsOf h) n && zr h (16 + 4 * cnt h) (512 - (16 + 4 * cnt h))
/-- P4.2: the error -/
def numsE (h : List Int) (n : Int) : Int := if h.length = 512 then if zr h 0 512 then 0 else if isH h n then 0 else 41 else 32
/-- P4.2: the numbers -/
def numsL (h : List Int) (n : Int) : List Int := if h.length = 512 ∧ zr h 0 512 = false ∧ isH h n = true then nsOf h else []
/-- so many blocks? -/
def blk (ds : List (List Int)) (k : Nat) : Bool := decide (ds.length = k) && decide (∀ b, b ∈ ds → b.length = 512)
/-- the sum of a header with these blocks -/
def sumV (h : List Int) (ds : List (List Int)) : Int := ((Crc.crc (ov h 12 4 (fun _ => 0) ++ ds.flatten)).toNat : Int)
/-- P4.3 -/
def good (h : List Int) (n : Int) (ds : List (List Int)) : Bool := decide (numsL h n ≠ []) && blk ds (numsL h n).length && decide (num h 12 4 = sumV h ds)
/-- P4.1: the error -/
def makeE (ns : List Int) (ds : List (List Int)) : Int := if (1 ≤ ns.length ∧ ns.length ≤ 96) ∧ may ns 16384 = true then if blk ds ns.length then 0 else 32 else 40
/-- P4.1: the header -/
def made (ns : List Int) (ds : List (List Int)) : List Int := hd ns (sumV (hd ns 0) ds)

theorem mag_len : mag.length = 8 := rfl
theorem hd_length (ns : List Int) (s : Int) : (hd ns s).length = 512 := by simp [hd]
theorem hp_length (ns : List Int) (j : Nat) : (hp ns j).length = 512 := by simp [hp]
theorem nth_map (f : Nat → Int) (n i : Nat) (h : i < n) : nth ((List.range n).map f) i = f i := by simp [nth, List.getD, h]
theorem nth_hd (ns : List Int) (s : Int) (i : Nat) (h : i < 512) : nth (hd ns s) i = hb ns s i := nth_map _ _ _ h
theorem nth_hp (ns : List Int) (j i : Nat) (h : i < 512) : nth (hp ns j) i = if i < 16 + 4 * j then hb ns 0 i else 0 := nth_map _ _ _ h
theorem dig_zero (k : Nat) : dig 0 k = 0 := by simp [dig]
theorem mag_bd : ∀ i, 0 ≤ nth mag i ∧ nth mag i < 256 := by
  intro i
  by_cases h : i < 8
  · have : i = 0 ∨ i = 1 ∨ i = 2 ∨ i = 3 ∨ i = 4 ∨ i = 5 ∨ i = 6 ∨ i = 7 := by omega
    rcases this with rfl | rfl | rfl | rfl | rfl | rfl | rfl | rfl <;> decide
  · rw [nth_out _ _ (by rw [mag_len]; omega)]; omega
theorem hb_bd (ns : List Int) (s : Int) (i : Nat) : 0 ≤ hb ns s i ∧ hb ns s i < 256 := by
  unfold hb
  split
  · exact mag_bd i
  · split
    · exact dig_bd _ _
    · split
      · omega
      · split
        · exact dig_bd _ _
        · split
          · exact dig_bd _ _
          · omega
theorem hd_bd (ns : List Int) (s : Int) (i : Nat) : 0 ≤ nth (hd ns s) i ∧ nth (hd ns s) i < 256 := by
  by_cases h : i < 512
  · rw [nth_hd _ _ _ h]; exact hb_bd _ _ _
  · rw [nth_out _ _ (by rw [hd_length]; omega)]; omega
theorem hp_bd (ns : List Int) (j i : Nat) : 0 ≤ nth (hp ns j) i ∧ nth (hp ns j) i < 256 := by
  by_cases h : i < 512
  · rw [nth_hp _ _ _ h]; split
    · exact hb_bd _ _ _
    · omega
  · rw [nth_out _ _ (by rw [hp_length]; omega)]; omega
theorem zs_length : zs.length = 512 := List.length_replicate
theorem nth_zs (i : Nat) : nth zs i = 0 := by
  by_cases h : i < 512
  · unfold nth zs; rw [List.getD_eq_getElem?_getD, List.getElem?_replicate, if_pos h]; rfl
  · exact nth_out _ _ (by rw [zs_length]; omega)
/-- the first two puts -/
theorem hp_zero (ns : List Int) : ov (ov zs 0 8 (nth mag)) 8 2 (dig ns.length) = hp ns 0 := by
  refine ext_nth (by rw [ov_length, ov_length, zs_length, hp_length]) (fun i hi => ?_)
  rw [ov_length, ov_length, zs_length] at hi
  rw [nth_ov _ _ _ _ _ (by rw [ov_length, zs_length]; exact hi), nth_ov _ _ _ _ _ (by rw [zs_length]; exact hi), nth_hp _ _ _ hi, nth_zs]
  unfold hb
  by_cases h1 : i < 8
  · rw [if_neg (by omega), if_pos (by omega), if_pos (by omega), if_pos h1]; rfl
  · by_cases h2 : i < 10
    · rw [if_pos (by omega), if_pos (by omega), if_neg h1, if_pos h2]
    · rw [if_neg (by omega), if_neg (by omega)]
      by_cases h3 : i < 12
      · rw [if_pos (by omega), if_neg h1, if_neg h2, if_pos h3]
      · by_cases h4 : i < 16
        · rw [if_pos (by omega), if_neg h1, if_neg h2, if_neg h3, if_pos h4, dig_zero]
        · rw [if_neg (by omega)]
theorem hp_succ (ns : List Int) (j : Nat) (h : j < ns.length) (h96 : ns.length ≤ 96) : ov (hp ns j) (16 + 4 * j) 4 (dig (nth ns j)) = hp ns (j + 1) := by
  refine ext_nth (by rw [ov_length, hp_length, hp_length]) (fun i hi => ?_)
  rw [ov_length, hp_length] at hi
  rw [nth_ov _ _ _ _ _ (by rw [hp_length]; exact hi), nth_hp _ _ _ hi, nth_hp _ _ _ hi]
  by_cases h1 : i < 16 + 4 * j
  · rw [if_neg (by omega), if_pos h1, if_pos (by omega)]
  · by_cases h2 : i < 16 + 4 * (j + 1)
    · rw [if_pos (by omega), if_pos h2]
      unfold hb
      rw [if_neg (by omega), if_neg (by omega), if_neg (by omega), if_neg (by omega), if_pos (by omega)]
      have e1 : (i - 16) / 4 = j := by omega
      have e2 : (i - 16) % 4 = i - (16 + 4 * j) := by omega
      rw [e1, e2]
    · rw [if_neg (by omega), if_neg h1, if_neg h2]
theorem hp_all (ns : List Int) : hp ns ns.length = hd ns 0 := by
  refine ext_nth (by rw [hp_length, hd_length]) (fun i hi => ?_)
  rw [hp_length] at hi
  rw [nth_hp _ _ _ hi, nth_hd _ _ _ hi]
  split
  · rfl
  · unfold hb
    rw [if_neg (by omega), if_neg (by omega), if_neg (by omega), if_neg (by omega), if_neg (by omega)]
theorem hd_put (ns : List Int) (s t : Int) : ov (hd ns s) 12 4 (dig t) = hd ns t := by
  refine ext_nth (by rw [ov_length, hd_length, hd_length]) (fun i hi => ?_)
  rw [ov_length, hd_length] at hi
  rw [nth_ov _ _ _ _ _ (by rw [hd_length]; exact hi), nth_hd _ _ _ hi, nth_hd _ _ _ hi]
  split
  · unfold hb
    rw [if_neg (by omega), if_neg (by omega), if_neg (by omega), if_pos (by omega)]
  · unfold hb
    by_cases h1 : i < 12
    · split
      · rfl
      · split
        · rfl
        · rfl
    · have h2 : ¬ i < 8 := by omega
      have h3 : ¬ i < 10 := by omega
      have h4 : ¬ i < 16 := by omega
      simp only [if_neg h1, if_neg h2, if_neg h3, if_neg h4]
theorem hd_clear (ns : List Int) (s : Int) : ov (hd ns s) 12 4 (fun _ => 0) = hd ns 0 := by
  rw [← hd_put ns s 0]; congr 1; funext k; exact (dig_zero k).symm
theorem sumV_hd (ns : List Int) (s : Int) (ds : List (List Int)) : sumV (hd ns s) ds = sumV (hd ns 0) ds := by unfold sumV; rw [hd_clear, hd_clear]
theorem sumV_bd (h : List Int) (ds : List (List Int)) : 0 ≤ sumV h ds ∧ sumV h ds < 4294967296 := by
  unfold sumV
  have := (Crc.crc (ov h 12 4 (fun _ => 0) ++ ds.flatten)).isLt
  omega
/-- numbers and their bytes -/
theorem num_dig (l : List Int) (A : Nat) (v : Int) : ∀ n, (∀ k, k < n → nth l (A + k) = dig v k) → num l A n = v % 256 ^ n
  | 0, _ => by simp [num]
  | n + 1, h => by
    have e := num_ov (List.replicate (n + 1) 0) 0 (n + 1) (n + 1) v (by simp) (Nat.le_refl _)
    have key : ∀ m, m ≤ n + 1 → num l A m = num (ov (List.replicate (n + 1) 0) 0 (n + 1) (dig v)) 0 m := by
      intro m
      induction m with
      | zero => intro _; rfl
      | succ m ih =>
        intro hm
        rw [num, num, ih (by omega), h m (by omega), nth_ov _ _ _ _ _ (by simp; omega), if_pos (by omega)]
        simp
    rw [key _ (Nat.le_refl _), e]
theorem dig_num (l : List Int) (A : Nat) (hl : ∀ i, 0 ≤ nth l i ∧ nth l i < 256) : ∀ n k, k < n → dig (num l A n) k = nth l (A + k)
  | 0, k, h => absurd h (by omega)
  | n + 1, k, h => by
    have p := pow_pos n
    have b := num_bd l A n hl
    have c := hl (A + n)
    by_cases hk : k < n
    · rw [← dig_num l A hl n k hk]
      unfold dig
      rw [num]
      have e : (256 : Int) ^ n = 256 ^ k * (256 * 256 ^ (n - k - 1)) := by
        rw [← Int.mul_assoc, ← Int.pow_succ, ← Int.pow_add]; congr 1; omega
      rw [e, show nth l (A + n) * (256 ^ k * (256 * 256 ^ (n - k - 1))) = 256 ^ k * (256 * (256 ^ (n - k - 1) * nth l (A + n))) by
        rw [Int.mul_comm, Int.mul_assoc, Int.mul_assoc], Int.add_mul_ediv_left _ _ (Int.ne_of_gt (pow_pos k)), Int.add_mul_emod_self_left]
    · obtain rfl : k = n := by omega
      unfold dig
      rw [num, Int.add_mul_ediv_right _ _ (Int.ne_of_gt p), Int.ediv_eq_zero_of_lt b.1 b.2, Int.zero_add]
      omega
theorem num_hd (ns : List Int) (s : Int) (i : Nat) (h : i < ns.length) (h96 : ns.length ≤ 96) (hb0 : 0 ≤ nth ns i ∧ nth ns i < 4294967296) : num (hd ns s) (16 + 4 * i) 4 = nth ns i := by
  rw [num_dig _ _ (nth ns i) 4]
  · have e : (256 : Int) ^ 4 = 4294967296 := rfl
    rw [e]; omega
  · intro k hk
    rw [nth_hd _ _ _ (by omega)]
    unfold hb
    rw [if_neg (by omega), if_neg (by omega), if_neg (by omega), if_neg (by omega), if_pos (by omega)]
    have e1 : (16 + 4 * i + k - 16) / 4 = i := by omega
    have e2 : (16 + 4 * i + k - 16) % 4 = k := by omega
    rw [e1, e2]
theorem num_sum (ns : List Int) (s : Int) (hs : 0 ≤ s ∧ s < 4294967296) : num (hd ns s) 12 4 = s := by
  rw [num_dig _ _ s 4]
  · have e : (256 : Int) ^ 4 = 4294967296 := rfl
    rw [e]; omega
  · intro k hk
    rw [nth_hd _ _ _ (by omega)]
    unfold hb
    rw [if_neg (by omega), if_neg (by omega), if_neg (by omega), if_pos (by omega)]
    congr 1; omega
theorem cnt_hd (ns : List Int) (s : Int) (h96 : ns.length ≤ 96) : cnt (hd ns s) = ns.length := by
  unfold cnt
  rw [num_dig _ _ (ns.length : Int) 2]
  · have e : (256 : Int) ^ 2 = 65536 := rfl
    rw [e]; omega
  · intro k hk
    rw [nth_hd _ _ _ (by omega)]
    unfold hb
    rw [if_neg (by omega), if_pos (by omega)]
    congr 1; omega
theorem pre_bd (ns : List Int) (n : Int) (h : may ns n = true) : ∀ i, i < ns.length → 98 ≤ nth ns i ∧ nth ns i < n := by
  have h := of_decide_eq_true h
  intro i
  induction i with
  | zero => intro hi; have := h 0 hi; simp [pre] at this; omega
  | succ i ih =>
    intro hi
    have a := ih (by omega)
    have b := h (i + 1) hi
    simp [pre] at b
    omega
theorem nsOf_hd (ns : List Int) (s : Int) (h96 : ns.length ≤ 96) (hb0 : ∀ i, i < ns.length → 0 ≤ nth ns i ∧ nth ns i < 4294967296) : nsOf (hd ns s) = ns := by
  refine ext_nth (by simp [nsOf, cnt_hd ns s h96]) (fun i hi => ?_)
  simp only [nsOf, cnt_hd ns s h96, List.length_map, List.length_range] at hi
  rw [nsOf, cnt_hd ns s h96, nth_map _ _ _ hi, num_hd ns s i hi h96 (hb0 i hi)]
theorem take8 (h : List Int) (hl : h.length = 512) : h.take 8 = mag ↔ ∀ i, i < 8 → nth h i = nth mag i := by
  have ht : (h.take 8).length = 8 := by rw [List.length_take, hl]; rfl
  have en : ∀ i, i < 8 → nth (h.take 8) i = nth h i := fun i hi => by simp [nth, List.getD, hi]
  constructor
  · intro e i hi; rw [← en i hi, e]
  · intro e
    exact ext_nth (by rw [ht, mag_len]) (fun i hi => by rw [ht] at hi; rw [en i hi]; exact e i hi)
theorem form_hd (ns : List Int) (s : Int) (h1 : 1 ≤ ns.length) (h96 : ns.length ≤ 96) : form (hd ns s) = true := by
  unfold form
  rw [cnt_hd ns s h96]
  simp only [Bool.and_eq_true, decide_eq_true_eq, beq_iff_eq]
  rw [take8 _ (hd_length _ _)]
  refine ⟨⟨fun i hi => ?_, ?_, ?_⟩, h1, h96⟩
  · rw [nth_hd _ _ _ (by omega)]; unfold hb; rw [if_pos hi]
  · rw [nth_hd _ _ _ (by omega)]; rfl
  · rw [nth_hd _ _ _ (by omega)]; rfl
theorem zr_hd (ns : List Int) (s : Int) (h96 : ns.length ≤ 96) : zr (hd ns s) (16 + 4 * ns.length) (512 - (16 + 4 * ns.length)) = true := by
  refine zr_true _ _ _ (fun i hi => ?_)
  rw [nth_hd _ _ _ (by omega)]; unfold hb
  rw [if_neg (by omega), if_neg (by omega), if_neg (by omega), if_neg (by omega), if_neg (by omega)]
theorem isH_hd (ns : List Int) (s n : Int) (h1 : 1 ≤ ns.length) (h96 : ns.length ≤ 96) (hb0 : ∀ i, i < ns.length → 0 ≤ nth ns i ∧ nth ns i < 4294967296) : isH (hd ns s) n = may ns n := by
  unfold isH
  rw [nsOf_hd ns s h96 hb0, cnt_hd ns s h96, form_hd ns s h1 h96, zr_hd ns s h96]
  simp
theorem zr_hd_no (ns : List Int) (s : Int) : zr (hd ns s) 0 512 = false := by
  refine zr_false _ _ _ 0 (by omega) ?_
  rw [nth_hd _ _ _ (by omega)]; show nth mag 0 ≠ 0; decide
theorem numsL_hd (ns : List Int) (s n : Int) (h1 : 1 ≤ ns.length) (h96 : ns.length ≤ 96) (hb0 : ∀ i, i < ns.length → 0 ≤ nth ns i ∧ nth ns i < 4294967296) : numsL (hd ns s) n = if may ns n then ns else [] := by
  unfold numsL
  rw [isH_hd ns s n h1 h96 hb0, nsOf_hd ns s h96 hb0, hd_length, zr_hd_no]
  simp
theorem numsE_hd (ns : List Int) (s n : Int) (h1 : 1 ≤ ns.length) (h96 : ns.length ≤ 96) (hb0 : ∀ i, i < ns.length → 0 ≤ nth ns i ∧ nth ns i < 4294967296) : numsE (hd ns s) n = if may ns n then 0 else 41 := by
  unfold numsE
  rw [isH_hd ns s n h1 h96 hb0, hd_length, zr_hd_no]
  simp
/-- one form -/
theorem one_form (h : List Int) (n : Int) (hl : h.length = 512) (hw : ∀ i, 0 ≤ nth h i ∧ nth h i < 256) (hh : isH h n = true) : h = hd (nsOf h) (num h 12 4) := by
  simp only [isH, form, Bool.and_eq_true, decide_eq_true_eq, beq_iff_eq] at hh
  obtain ⟨⟨⟨⟨hm, h10, h11⟩, h1, h96⟩, _⟩, hz⟩ := hh
  have hz := of_decide_eq_true hz
  rw [take8 h hl] at hm
  have hlen : (nsOf h).length = cnt h := by simp [nsOf]
  refine ext_nth (by rw [hl, hd_length]) (fun i hi => ?_)
  rw [hl] at hi
  rw [nth_hd _ _ _ hi]
  unfold hb
  rw [hlen]
  by_cases c1 : i < 8
  · rw [if_pos c1]; exact hm i c1
  · rw [if_neg c1]
    by_cases c2 : i < 10
    · rw [if_pos c2]
      have b := num_bd h 8 2 hw
      have e : ((cnt h : Nat) : Int) = num h 8 2 := by unfold cnt; omega
      rw [e, dig_num h 8 hw 2 (i - 8) (by omega)]
      congr 1; omega
    · rw [if_neg c2]
      by_cases c3 : i < 12
      · rw [if_pos c3]
        have : i = 10 ∨ i = 11 := by omega
        rcases this with rfl | rfl
        · exact h10
        · exact h11
      · rw [if_neg c3]
        by_cases c4 : i < 16
        · rw [if_pos c4, dig_num h 12 hw 4 (i - 12) (by omega)]
          congr 1; omega
        · rw [if_neg c4]
          by_cases c5 : i < 16 + 4 * cnt h
          · rw [if_pos c5, nsOf, nth_map _ _ _ (by omega), dig_num h _ hw 4 _ (by omega)]
            congr 1; omega
          · rw [if_neg c5]
            have := hz (i - (16 + 4 * cnt h)) (by omega)
            rwa [show 16 + 4 * cnt h + (i - (16 + 4 * cnt h)) = i by omega] at this
theorem nsOf_bd (h : List Int) (hw : ∀ i, 0 ≤ nth h i ∧ nth h i < 256) : ∀ i, 0 ≤ nth (nsOf h) i ∧ nth (nsOf h) i < 4294967296 := by
  intro i
  by_cases hi : i < cnt h
  · rw [nsOf, nth_map _ _ _ hi]; exact num_bd h _ 4 hw
  · rw [nth_out _ _ (by simp [nsOf]; omega)]; omega
end Go.Proofs.YtpheajiepnjhdaaDoor
