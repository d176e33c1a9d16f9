import Derived.Test.YtccocjipgbeaeaaDoorFit
import Derived.Test.YtccocjipgbeaeaaDoorBurstM
namespace Go.Proofs.YtccocjipgbeaeaaDoor
open Go.RowKit Rec
open Crc (W)

theorem num_congr (a b : List Int) (A : Nat) : ∀ n, (∀ k, k < n → nth a (A + k) = nth b (A + k)) → num a A n = num b A n
  | 0, _ => rfl
  | n + 1, h => by rw [num, num, num_congr a b A n (fun k hk => h k (by omega)), h n (by omega)]
theorem Fit.goodS {ns : List Int} {ds : List (List Int)} {K : Nat} (h : Fit ns ds K) (es : List (List Int)) : good (made ns ds) 16384 es = (Go.Proofs.YtccocjipgbeaeaaDoor.blk es K && decide (made ns ds = made ns es)) := by
  have hl : nth ns (K - 1) < 16384 := (pre_bd ns _ h.may (K - 1) (by have := h.nl; have := h.k1; omega)).2
  rw [h.goodE, decide_eq_true hl, Bool.true_and]
theorem Fit.good1 {ns : List Int} {ds : List (List Int)} {K : Nat} (h : Fit ns ds K) : good (made ns ds) 16384 ds = true := by
  rw [h.goodS, h.blk, decide_eq_true rfl]; rfl
theorem flat_set (ds : List (List Int)) (i : Nat) (own : List Int) (hi : i < ds.length) : (ds.set i own).flatten = (ds.take i).flatten ++ own ++ (ds.drop (i + 1)).flatten := by
  rw [List.set_eq_take_append_cons_drop, if_pos hi, List.flatten_append, List.flatten_cons, List.append_assoc]
theorem flat_row (ds : List (List Int)) (i : Nat) (hi : i < ds.length) : ds.flatten = (ds.take i).flatten ++ row ds i ++ (ds.drop (i + 1)).flatten := by
  have e : ds.set i (row ds i) = ds := by
    have : row ds i = ds[i] := by simp [row, List.getD, hi]
    rw [this]; simp
  conv => lhs; rw [← e]
  exact flat_set ds i _ hi
theorem row_set (ds : List (List Int)) (i j : Nat) (own : List Int) (hi : i < ds.length) : row (ds.set i own) j = if j = i then own else row ds j := by
  unfold row
  rw [List.getD_eq_getElem?_getD, List.getElem?_set]
  by_cases e : i = j
  · subst e; rw [if_pos rfl, if_pos hi, if_pos rfl]; rfl
  · rw [if_neg e, if_neg (fun c => e c.symm), List.getD_eq_getElem?_getD]
theorem Fit.set {ns : List Int} {ds : List (List Int)} {K : Nat} (h : Fit ns ds K) (i : Nat) (own : List Int) (hi : i < K) (ho : own.length = 512) : Fit ns (ds.set i own) K :=
  ⟨h.nl, by rw [List.length_set]; exact h.dl, h.k1, h.k96, h.may, fun j hj => by
    rw [row_set _ _ _ _ (by rw [h.dl]; exact hi)]
    split
    · exact ho
    · exact h.rows j hj⟩
/-- is no bit turned? -/
def quiet (T : Nat → Bool) (n : Nat) : Bool := decide (∀ j, j < n → T j = false)
/-- a burst in a block -/
theorem burst_block {ns : List Int} {ds : List (List Int)} {K : Nat} (h : Fit ns ds K) (i : Nat) (hi : i < K) (T : Nat → Bool) (A : Nat) (own : List Int) (hF : Fl T A 32 (row ds i) own) :
    good (made ns ds) 16384 (ds.set i own) = quiet T 32 := by
  have hil : i < ds.length := by rw [h.dl]; exact hi
  rw [h.goodS, (h.set i own hi (by rw [hF.len]; exact h.rows i hi)).blk, Bool.true_and]
  unfold quiet
  refine decide_eq_decide.2 ?_
  rw [made_inj, sumV_eq, flat_row ds i hil, flat_set ds i own hil]
  constructor
  · intro e
    refine Classical.byContradiction fun hT => ?_
    have := hF.told (Nat.le_refl _) hT (ov (hd ns 0) 12 4 (fun _ => 0) ++ (ds.take i).flatten) (ds.drop (i + 1)).flatten
    apply this
    simpa [List.append_assoc] using e
  · intro e
    rw [hF.zero e]
/-- the same first bytes: the same difference of sums -/
theorem crc_front (p q y z : List Int) (hp : p.length = q.length) (hy : y.length = z.length) (h : Crc.crc (p ++ y) = Crc.crc (p ++ z)) : Crc.crc (q ++ y) = Crc.crc (q ++ z) := by
  have t1 := Crc.turn [] p q y hp
  have t2 := Crc.turn [] p q z hp
  simp only [List.nil_append] at t1 t2
  rw [← t1, ← t2, h, hy]
theorem take_same (a b : List Int) (n : Nat) (hl : a.length = b.length) (h : ∀ i, i < n → nth a i = nth b i) : a.take n = b.take n := by
  refine ext_nth (by rw [List.length_take, List.length_take, hl]) fun i hi => ?_
  rw [List.length_take] at hi
  rw [nth_take _ _ _ (by omega), nth_take _ _ _ (by omega)]; exact h i (by omega)
/-- a burst in a header -/
theorem burst_head {ns : List Int} {ds : List (List Int)} {K : Nat} (h : Fit ns ds K) (T : Nat → Bool) (A : Nat) (own : List Int) (hF : Fl T A 32 (made ns ds) own)
    (hA : (∀ j, j < 32 → T j = true → A + j < 128) ∨ (∀ j, j < 32 → T j = true → 128 ≤ A + j)) : good own 16384 ds = quiet T 32 := by
  by_cases hT : ∀ j, j < 32 → T j = false
  · unfold quiet; rw [decide_eq_true hT, hF.zero hT]; exact h.good1
  · unfold quiet; rw [decide_eq_false hT]
    have hne := hF.ne (Nat.le_refl _) hT
    have hol : own.length = 512 := hF.len.trans (made_length ns ds)
    refine Classical.byContradiction fun hg => hne ?_
    have hg : good own 16384 ds = true := by simpa using hg
    have hg' := hg
    simp only [good, Bool.and_eq_true, decide_eq_true_eq] at hg'
    obtain ⟨h1, h2, h3, h4, h5, h6, h7⟩ := numsL_some hg'.1.1
    have ho := one_form own 16384 h1 hF.wf h3
    rcases hA with hA | hA
    · have hout : ∀ i, 16 ≤ i → nth own i = nth (made ns ds) i := fun i hi => hF.out i (fun j hj ht => by have := hA j hj ht; omega)
      have hlen : (nsOf own).length = K := by
        have := hg'.1.2
        rw [h4] at this
        simp only [blk, Bool.and_eq_true, decide_eq_true_eq] at this
        rw [← this.1, h.dl]
      have hns : nsOf own = ns := by
        refine ext_nth (by rw [hlen, h.nl]) fun i hi => ?_
        rw [hlen] at hi
        have hc : i < cnt own := by have : (nsOf own).length = cnt own := by simp [nsOf]
                                    omega
        rw [nsOf, nth_map _ _ _ hc, num_congr own (made ns ds) _ 4 (fun k hk => hout _ (by omega))]
        exact num_hd ns _ i (by rw [h.nl]; exact hi) (by rw [h.nl]; exact h.k96) (by have := pre_bd ns _ h.may i (by rw [h.nl]; exact hi); omega)
      have hs : num own 12 4 = sumV (hd ns 0) ds := by
        rw [hg'.2]
        conv => lhs; rw [ho, hns]
        exact sumV_hd ns _ ds
      rw [ho, hns, hs]; rfl
    · have hout : ∀ i, i < 16 → nth own i = nth (made ns ds) i := fun i hi => hF.out i (fun j hj ht => by have := hA j hj ht; omega)
      have hs : sumV own ds = sumV (made ns ds) ds := by
        rw [← hg'.2, num_congr own (made ns ds) 12 4 (fun k hk => hout _ (by omega))]
        unfold made
        rw [num_sum ns _ (sumV_bd _ _)]
        exact (sumV_hd ns _ ds).symm
      exfalso
      have hc : Crc.crc (ov own 12 4 (fun _ => 0) ++ ds.flatten) = Crc.crc (ov (made ns ds) 12 4 (fun _ => 0) ++ ds.flatten) := by
        unfold sumV at hs; exact BitVec.eq_of_toNat_eq (by omega)
      have ht := take_same own (made ns ds) 16 hF.len hout
      have z : ∀ x : List Int, x.length = 512 → ov x 12 4 (fun _ => 0) = (ov x 12 4 (fun _ => 0)).take 16 ++ x.drop 16 := fun x hx => by
        refine ext_nth (by rw [ov_length, List.length_append, List.length_take, ov_length, List.length_drop]; omega) fun i hi => ?_
        rw [ov_length] at hi
        rw [nth_app, List.length_take, ov_length]
        by_cases h16 : i < 16
        · rw [if_pos (by omega), nth_take _ _ _ h16]
        · rw [if_neg (by omega), nth_drop, nth_ov _ _ _ _ _ hi, if_neg (by omega)]
          rw [show 16 + (i - min 16 x.length) = i by omega]
      have zt : (ov own 12 4 (fun _ => 0)).take 16 = (ov (made ns ds) 12 4 (fun _ => 0)).take 16 := take_same _ _ 16 (by rw [ov_length, ov_length]; exact hF.len) (fun i hi => by
        rw [nth_ov _ _ _ _ _ (by omega), nth_ov _ _ _ _ _ (by rw [made_length]; omega)]
        split
        · rfl
        · exact hout i hi)
      rw [z own hol, z (made ns ds) (made_length _ _), zt, List.append_assoc, List.append_assoc] at hc
      have hq := crc_front _ ((made ns ds).take 16) _ _ (by rw [List.length_take, List.length_take, ov_length]) (by rw [List.length_append, List.length_append, List.length_drop, List.length_drop, hF.len]) hc
      have hq2 := hF.told (Nat.le_refl _) hT [] ds.flatten
      apply hq2
      rw [List.nil_append, List.nil_append, ← List.take_append_drop 16 own, ht]
      conv => lhs; rw [← List.take_append_drop 16 (made ns ds)]
      rw [List.append_assoc, List.append_assoc]
      exact hq.symm
end Go.Proofs.YtccocjipgbeaeaaDoor
