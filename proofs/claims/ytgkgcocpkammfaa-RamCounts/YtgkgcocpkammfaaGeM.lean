import Derived.Test.YtgkgcocpkammfaaKMathR
namespace Go.Proofs.Ytgkgcocpkammfaa
open Rec
open Crc (W)

/-- 'BOLEFS01' -/
def mg : List Int := [66, 79, 76, 69, 70, 83, 48, 49]
/-- may a disk have so many blocks? -/
def isLen (n : Int) : Bool := decide (128 ≤ n ∧ n ≤ 16384)
/-- the first twelve bytes, zeros behind -/
def supA (n : Int) : List Int := ov (ov zs 0 8 (nth mg)) 8 4 (dig n)
/-- their sum -/
def supS (n : Int) : Int := ((Crc.crc ((supA n).take 12)).toNat : Int)
/-- the super block of n blocks -/
def sup (n : Int) : List Int := ov (supA n) 12 4 (dig (supS n))
/-- what Read answers -/
def rdOk (b : List Int) : Bool := isLen (num b 8 4) && decide (b = sup (num b 8 4))
def rdE (b : List Int) : Int := if b.length = 512 then if rdOk b then 0 else 71 else 32
def rdV (b : List Int) : Int := if b.length = 512 then if rdOk b then num b 8 4 else 0 else 0
/-- the regions -/
def gI (n : Int) : Int := 98 + (n + 4095) / 4096
def gD (n : Int) : Int := gI n + n / 64
def gC (n : Int) : Int := n / 64 * 8

theorem mg_bd : ∀ i, 0 ≤ nth mg i ∧ nth mg i < 256 := by
  intro i
  by_cases h : i < 8
  · have : ∀ i, i < 8 → 0 ≤ nth mg i ∧ nth mg i < 256 := by decide
    exact this i h
  · rw [nth_out _ _ (by simp [mg]; omega)]; omega
theorem supA_len (n : Int) : (supA n).length = 512 := by simp only [supA, ov_length, zs_length]
theorem sup_len (n : Int) : (sup n).length = 512 := by simp only [sup, ov_length, supA_len]
theorem supS_bd (n : Int) : 0 ≤ supS n ∧ supS n < 4294967296 := by
  unfold supS; have := (Crc.crc ((supA n).take 12)).isLt; omega
theorem nth_supA (n : Int) (i : Nat) (h : i < 512) : nth (supA n) i = if 8 ≤ i ∧ i < 12 then dig n (i - 8) else if i < 8 then nth mg i else 0 := by
  unfold supA
  rw [nth_ov _ _ _ _ _ (by rw [ov_length, zs_length]; exact h), nth_ov _ _ _ _ _ (by rw [zs_length]; exact h), nth_zs]
  by_cases h1 : 8 ≤ i ∧ i < 8 + 4
  · rw [if_pos h1, if_pos h1]
  · rw [if_neg h1, if_neg h1]
    by_cases h2 : i < 8
    · rw [if_pos (by omega), if_pos h2, Nat.sub_zero]
    · rw [if_neg (by omega), if_neg h2]
theorem nth_sup (n : Int) (i : Nat) (h : i < 512) : nth (sup n) i = if 12 ≤ i ∧ i < 16 then dig (supS n) (i - 12) else nth (supA n) i := by
  unfold sup
  rw [nth_ov _ _ _ _ _ (by rw [supA_len]; exact h)]
theorem sup_bd (n : Int) (i : Nat) : 0 ≤ nth (sup n) i ∧ nth (sup n) i < 256 := by
  by_cases h : i < 512
  · rw [nth_sup n i h, nth_supA n i h]
    have := dig_bd (supS n) (i - 12)
    have := dig_bd n (i - 8)
    have := mg_bd i
    split
    · assumption
    · split
      · assumption
      · split <;> omega
  · rw [nth_out _ _ (by rw [sup_len]; omega)]; omega
theorem supA_bd (n : Int) (i : Nat) : 0 ≤ nth (supA n) i ∧ nth (supA n) i < 256 := by
  by_cases h : i < 512
  · rw [nth_supA n i h]
    have := dig_bd n (i - 8)
    have := mg_bd i
    split
    · assumption
    · split <;> omega
  · rw [nth_out _ _ (by rw [supA_len]; omega)]; omega
theorem isLen_bd {n : Int} (h : isLen n = true) : 128 ≤ n ∧ n ≤ 16384 := of_decide_eq_true h
theorem isLen_no {n : Int} (h : isLen n = false) : ¬ (128 ≤ n ∧ n ≤ 16384) := of_decide_eq_false h
theorem isLen_yes {n : Int} (h : 128 ≤ n ∧ n ≤ 16384) : isLen n = true := decide_eq_true h
theorem num_sup (n : Int) (h : 0 ≤ n ∧ n < 4294967296) : num (sup n) 8 4 = n := by
  rw [num_dig (sup n) 8 n 4 (fun k hk => by rw [nth_sup _ _ (by omega), if_neg (by omega), nth_supA _ _ (by omega), if_pos (by omega)]; congr 1; omega)]
  exact Int.emod_eq_of_lt h.1 (by simpa using h.2)
theorem num_supI {n : Int} (h : isLen n = true) : num (sup n) 8 4 = n := by have := isLen_bd h; exact num_sup n (by omega)
theorem sup_inj {n m : Int} (hn : isLen n = true) (hm : isLen m = true) (h : sup n = sup m) : n = m := by
  rw [← num_supI hn, h, num_supI hm]
theorem rdOk_sup {n : Int} (h : isLen n = true) : rdOk (sup n) = true := by
  unfold rdOk; rw [num_supI h, h]; simp
theorem rdE_sup {n : Int} (h : isLen n = true) : rdE (sup n) = 0 := by
  unfold rdE; rw [if_pos (sup_len n), if_pos (rdOk_sup h)]
theorem rdV_sup {n : Int} (h : isLen n = true) : rdV (sup n) = n := by
  unfold rdV; rw [if_pos (sup_len n), if_pos (rdOk_sup h), num_supI h]
theorem rdOk_no {b : List Int} {n : Int} (hb : num b 8 4 = n) (hn : isLen n = false) : rdOk b = false := by
  unfold rdOk; rw [hb, hn]; rfl
theorem rdOk_is {b : List Int} (h : rdOk b = true) : isLen (num b 8 4) = true ∧ b = sup (num b 8 4) := by
  simpa [rdOk] using h
/-- two rows of one byte each that have one sum are one -/
theorem crc_one (c d : Int) (hc : 0 ≤ c ∧ c < 256) (hd : 0 ≤ d ∧ d < 256) (x y : List Int) (h : Crc.crc (x ++ [c] ++ y) = Crc.crc (x ++ [d] ++ y)) : c = d := by
  have h1 := Crc.turn x [c] [d] y rfl
  rw [← h] at h1
  have h2 : Crc.pw Crc.e8 y.length (Crc.crc [c] ^^^ Crc.crc [d]) = 0#32 := by
    have h3 := congrArg (fun z => Crc.crc (x ++ [c] ++ y) ^^^ z) h1
    simpa [← BitVec.xor_assoc] using h3
  rw [Crc.e8_pw] at h2
  have h4 := Crc.pw_zero _ _ h2
  have h5 : Crc.crc [c] ^^^ Crc.crc [d] = Crc.e8 (BitVec.ofInt 32 c ^^^ BitVec.ofInt 32 d) := by
    have := Crc.e8_lin (Crc.ones ^^^ BitVec.ofInt 32 c) (Crc.ones ^^^ BitVec.ofInt 32 d)
    have e1 : Crc.crc [c] = Crc.e8 (Crc.ones ^^^ BitVec.ofInt 32 c) ^^^ Crc.ones := rfl
    have e2 : Crc.crc [d] = Crc.e8 (Crc.ones ^^^ BitVec.ofInt 32 d) ^^^ Crc.ones := rfl
    rw [e1, e2]
    have e3 : (Crc.ones ^^^ BitVec.ofInt 32 c) ^^^ (Crc.ones ^^^ BitVec.ofInt 32 d) = BitVec.ofInt 32 c ^^^ BitVec.ofInt 32 d := by
      rw [BitVec.xor_comm Crc.ones (BitVec.ofInt 32 c), BitVec.xor_assoc, ← BitVec.xor_assoc Crc.ones, BitVec.xor_self, BitVec.zero_xor]
    rw [e3] at this
    rw [this]
    generalize Crc.e8 (Crc.ones ^^^ BitVec.ofInt 32 c) = p
    generalize Crc.e8 (Crc.ones ^^^ BitVec.ofInt 32 d) = q
    rw [BitVec.xor_comm q Crc.ones, BitVec.xor_assoc, ← BitVec.xor_assoc Crc.ones, BitVec.xor_self, BitVec.zero_xor]
  rw [h5] at h4
  have h6 := Crc.pw_zero 8 _ h4
  have h7 : BitVec.ofInt 32 c = BitVec.ofInt 32 d := by
    have := congrArg (fun z => z ^^^ BitVec.ofInt 32 d) h6
    simpa [BitVec.xor_assoc] using this
  have h8 := congrArg BitVec.toInt h7
  rw [BitVec.toInt_ofInt, BitVec.toInt_ofInt] at h8
  simp only [Int.bmod] at h8
  omega
theorem split_at (l : List Int) (k : Nat) (h : k < l.length) : l = l.take k ++ [nth l k] ++ l.drop (k + 1) := by
  have e : nth l k = l[k] := by simp [nth, List.getD, h]
  rw [e, List.append_assoc, List.singleton_append, List.getElem_cons_drop, List.take_append_drop]
theorem take_eq {l m : List Int} (k : Nat) (hl : l.length = m.length) (h : ∀ i, i < k → nth l i = nth m i) : l.take k = m.take k := by
  refine ext_nth (by simp [hl]) fun i hi => ?_
  have : i < k := by simp at hi; omega
  rw [nth_take' l k i this, nth_take' m k i this, h i this]
where nth_take' (l : List Int) (k i : Nat) (h : i < k) : nth (l.take k) i = nth l i := by simp [nth, List.getD, h]
theorem drop_eq {l m : List Int} (k : Nat) (hl : l.length = m.length) (h : ∀ i, k ≤ i → i < l.length → nth l i = nth m i) : l.drop k = m.drop k := by
  refine ext_nth (by simp [hl]) fun i hi => ?_
  have hi' : k + i < l.length := by simp at hi; omega
  have e : ∀ z : List Int, nth (z.drop k) i = nth z (k + i) := fun z => by simp [nth, List.getD]
  rw [e, e, h (k + i) (by omega) hi']
/-- a super block with one byte another one is none -/
theorem spoilt {n : Int} (hn : isLen n = true) (k : Nat) (hk : k < 512) (v : Int) (hv : v ≠ nth (sup n) k) : rdOk ((sup n).set k v) = false := by
  cases hc : rdOk ((sup n).set k v) with
  | false => rfl
  | true =>
    exfalso
    obtain ⟨hm, he⟩ := rdOk_is hc
    generalize num ((sup n).set k v) 8 4 = m at hm he
    have hat : ∀ i, i < 512 → nth (sup m) i = if i = k then v else nth (sup n) i := fun i _ => by
      rw [← he, nth_set _ _ _ _ (by rw [sup_len]; exact hk)]
    by_cases hmn : m = n
    · subst hmn
      have := hat k hk
      rw [if_pos rfl] at this
      exact hv this.symm
    · have hd : ∃ j, j < 4 ∧ dig m j ≠ dig n j := by
        apply Classical.byContradiction
        intro hno
        apply hmn
        have h1 := num_dig (sup n) 8 m 4 (fun j hj => by
          rw [nth_sup _ _ (by omega), if_neg (by omega), nth_supA _ _ (by omega), if_pos (by omega), show 8 + j - 8 = j by omega]
          exact (Classical.not_not.1 fun hne => hno ⟨j, hj, fun e => hne e.symm⟩))
        rw [num_supI hn] at h1
        have := isLen_bd hm
        rw [h1]
        exact (Int.emod_eq_of_lt (by omega) (by simp; omega)).symm
      obtain ⟨j, hj, hne⟩ := hd
      have hkj : k = 8 + j := by
        apply Classical.byContradiction
        intro hno
        have := hat (8 + j) (by omega)
        rw [if_neg (fun e => hno e.symm), nth_sup _ _ (by omega), nth_sup _ _ (by omega), if_neg (by omega), if_neg (by omega), nth_supA _ _ (by omega), nth_supA _ _ (by omega), if_pos (by omega), if_pos (by omega), show 8 + j - 8 = j by omega] at this
        exact hne this
      have hA : ∀ i, i < 12 → i ≠ k → nth (supA m) i = nth (supA n) i := fun i hi hik => by
        have := hat i (by omega)
        rwa [if_neg hik, nth_sup _ _ (by omega), nth_sup _ _ (by omega), if_neg (by omega), if_neg (by omega)] at this
      have hS : supS m = supS n := by
        have e : ∀ z, supS z = num (sup z) 12 4 := fun z => by
          rw [num_dig (sup z) 12 (supS z) 4 (fun i hi => by rw [nth_sup _ _ (by omega), if_pos (by omega), show 12 + i - 12 = i by omega])]
          exact (Int.emod_eq_of_lt (supS_bd z).1 (by have := (supS_bd z).2; simp; omega)).symm
        rw [e n, num_dig (sup n) 12 (supS m) 4 (fun i hi => by
          have := hat (12 + i) (by omega)
          rw [if_neg (by omega)] at this
          rw [← this, nth_sup _ _ (by omega), if_pos (by omega), show 12 + i - 12 = i by omega])]
        exact (Int.emod_eq_of_lt (supS_bd m).1 (by have := (supS_bd m).2; simp; omega)).symm
      have hC : Crc.crc ((supA m).take 12) = Crc.crc ((supA n).take 12) := by
        unfold supS at hS
        exact BitVec.eq_of_toNat_eq (by omega)
      have lm : ((supA m).take 12).length = 12 := by rw [List.length_take, supA_len]; rfl
      have ln : ((supA n).take 12).length = 12 := by rw [List.length_take, supA_len]; rfl
      have nt : ∀ (z : List Int) i, i < 12 → nth (z.take 12) i = nth z i := fun z i h => by simp [nth, List.getD, h]
      rw [split_at ((supA m).take 12) k (by omega), split_at ((supA n).take 12) k (by omega),
        take_eq (l := (supA m).take 12) (m := (supA n).take 12) k (by omega) (fun i hi => by rw [nt _ _ (by omega), nt _ _ (by omega)]; exact hA i (by omega) (by omega)),
        drop_eq (l := (supA m).take 12) (m := (supA n).take 12) (k + 1) (by omega) (fun i hi hl => by rw [nt _ _ (by omega), nt _ _ (by omega)]; exact hA i (by omega) (by omega)),
        nt _ _ (by omega), nt _ _ (by omega)] at hC
      have h9 := crc_one _ _ (supA_bd m k) (supA_bd n k) _ _ hC
      rw [nth_supA _ _ (by omega), nth_supA _ _ (by omega), if_pos (by omega), if_pos (by omega), show k - 8 = j by omega] at h9
      exact hne h9
/-- the document's own number: two bytes -/
def rf (b : List Int) : Int := nth b 8 + nth b 9 * 256
theorem rf_sup {n : Int} (h : isLen n = true) : rf (sup n) = n := by
  have hb := isLen_bd h
  unfold rf
  rw [nth_sup _ _ (by omega), nth_sup _ _ (by omega), if_neg (by omega), if_neg (by omega), nth_supA _ _ (by omega), nth_supA _ _ (by omega), if_pos (by omega), if_pos (by omega)]
  show n / 256 ^ 0 % 256 + n / 256 ^ 1 % 256 * 256 = n
  simp only [Int.pow_zero, Int.ediv_one, Int.reducePow]
  omega
theorem rf_val {b : List Int} (h : rdOk b = true) : rf b = num b 8 4 := by
  obtain ⟨h1, h2⟩ := rdOk_is h
  generalize num b 8 4 = m at h1 h2 ⊢
  rw [h2, rf_sup h1]
theorem rf_ok (b : List Int) : (isLen (rf b) && decide (b = sup (rf b))) = rdOk b := by
  cases hc : rdOk b with
  | true =>
    obtain ⟨h1, h2⟩ := rdOk_is hc
    rw [rf_val hc, h1, decide_eq_true h2]; rfl
  | false =>
    cases h1 : isLen (rf b) with
    | false => rfl
    | true =>
      rw [Bool.true_and, decide_eq_false_iff_not]
      intro h2
      have h3 : num b 8 4 = rf b := by
        have := num_supI h1
        rwa [← h2] at this
      have : rdOk b = true := by unfold rdOk; rw [h3, h1, decide_eq_true h2]; rfl
      rw [this] at hc; cases hc
/-- the reference's first twelve, and its sixteen -/
theorem supA_twelve {n : Int} (h : isLen n = true) : (supA n).take 12 = mg ++ [n % 256, n / 256 % 256, 0, 0] := by
  have hb := isLen_bd h
  refine ext_nth (by rw [List.length_take, supA_len]; rfl) fun i hi => ?_
  have hi : i < 12 := by rw [List.length_take, supA_len] at hi; omega
  have e : nth ((supA n).take 12) i = nth (supA n) i := by simp [nth, List.getD, hi]
  rw [e, nth_supA _ _ (by omega)]
  by_cases h8 : i < 8
  · rw [if_neg (by omega), if_pos h8]
    have : i < mg.length := h8
    simp [nth, List.getD, List.getElem?_append, this]
  · rw [if_pos (by omega)]
    obtain rfl | rfl | rfl | rfl : i = 8 ∨ i = 9 ∨ i = 10 ∨ i = 11 := by omega
    · show n / 256 ^ 0 % 256 = n % 256
      simp only [Int.pow_zero, Int.ediv_one]
    · show n / 256 ^ 1 % 256 = n / 256 % 256
      rfl
    · show n / 256 ^ 2 % 256 = 0
      simp only [Int.reducePow]; omega
    · show n / 256 ^ 3 % 256 = 0
      simp only [Int.reducePow]; omega
theorem sup_sixteen (n : Int) : (sup n).take 16 = (supA n).take 12 ++ [supS n % 256, supS n / 256 % 256, supS n / 65536 % 256, supS n / 16777216 % 256] := by
  have l12 : ((supA n).take 12).length = 12 := by rw [List.length_take, supA_len]; rfl
  refine ext_nth (by rw [List.length_take, sup_len, List.length_append, l12]; rfl) fun i hi => ?_
  have hi : i < 16 := by rw [List.length_take, sup_len] at hi; omega
  have e : nth ((sup n).take 16) i = nth (sup n) i := by simp [nth, List.getD, hi]
  rw [e, nth_sup _ _ (by omega)]
  generalize hS : supS n = s
  by_cases h12 : i < 12
  · rw [if_neg (by omega)]
    have e2 : nth ((supA n).take 12) i = nth (supA n) i := by simp [nth, List.getD, h12]
    rw [← e2]
    generalize (supA n).take 12 = l at l12
    have : i < l.length := by omega
    simp [nth, List.getD, List.getElem?_append, this]
  · rw [if_pos (by omega)]
    generalize (supA n).take 12 = l at l12
    have e3 : ∀ m : List Int, nth (l ++ m) i = nth m (i - 12) := fun m => by
      simp [nth, List.getD, List.getElem?_append, l12, h12]
    rw [e3]
    obtain rfl | rfl | rfl | rfl : i = 12 ∨ i = 13 ∨ i = 14 ∨ i = 15 := by omega
    · show s / 256 ^ 0 % 256 = s % 256
      simp only [Int.pow_zero, Int.ediv_one]
    · rfl
    · rfl
    · rfl
theorem sup_more (n : Int) (k : Nat) (h : 16 ≤ k) (h5 : k < 512) : (sup n).take (k + 1) = (sup n).take k ++ [0] := by
  have e := List.take_succ_eq_append_getElem (l := sup n) (i := k) (by rw [sup_len]; exact h5)
  rw [e]
  have z : nth (sup n) k = 0 := by
    rw [nth_sup _ _ h5, if_neg (by omega), nth_supA _ _ h5, if_neg (by omega), if_neg (by omega)]
  have : (sup n)[k]'(by rw [sup_len]; exact h5) = nth (sup n) k := by simp [nth, List.getD, sup_len, h5]
  rw [this, z]
/-- the regions of the disks that may be -/
theorem geo_lays {n : Int} (h : isLen n = true) : 98 < gI n ∧ gI n < gD n ∧ gD n + 27 ≤ n ∧ 16 ≤ gC n ∧ n ≤ (gI n - 98) * 4096 ∧ (gI n - 98 - 1) * 4096 < n ∧ (gD n - gI n) * 8 = gC n ∧ (gD n - gI n) * 64 ≤ n ∧ n < (gD n - gI n + 1) * 64 := by
  have := isLen_bd h
  unfold gD gC gI
  omega
theorem geo_grows {n m : Int} (h : isLen n = true) (h' : isLen m = true) (hnm : n ≤ m) : n - gD n ≤ m - gD m ∧ gC n ≤ gC m := by
  have := isLen_bd h
  have := isLen_bd h'
  unfold gD gC gI
  omega
end Go.Proofs.Ytgkgcocpkammfaa
