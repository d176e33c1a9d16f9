import Derived.Test.YtklgjagkgfbcfaaDoorBackM
namespace Go.Proofs.YtklgjagkgfbcfaaDoor
open Go.RowKit Rec

theorem sb_str {l : List Int} (h : ∀ i, 0 ≤ nth l i ∧ nth l i < 256) : sb (strOfNums l) = l := by
  have e : sb (strOfNums l) = l.map fun n => ((UInt8.ofNat n.toNat).toNat : Int) := by
    unfold sb
    rw [strOfNums_data, List.map_map]; rfl
  rw [e]
  refine ext_nth (by simp) fun i hi => ?_
  have hi' : i < l.length := by simpa using hi
  have h1 : nth (l.map fun n => ((UInt8.ofNat n.toNat).toNat : Int)) i = ((UInt8.ofNat (nth l i).toNat).toNat : Int) := by
    simp [nth, List.getD, hi']
  rw [h1]
  have := h i
  rw [UInt8.toNat_ofNat']
  omega
theorem nth_left (a b : List Int) (i : Nat) (h : i < a.length) : nth (a ++ b) i = nth a i := by simp [nth, List.getD, List.getElem?_append, h]
theorem nth_right (a b : List Int) (i : Nat) : nth (a ++ b) (a.length + i) = nth b i := by
  unfold nth; rw [List.getD, List.getD, List.getElem?_append_right (by omega), Nat.add_sub_cancel_left]
theorem zs_nth (m i : Nat) : nth (zs m) i = 0 := by
  by_cases hi : i < m
  · simp [nth, zs, List.getD, hi]
  · exact nth_out _ _ (by rw [zs_length]; omega)

def t1 (la lb l : List Int) (M : Nat) : List Int := la ++ ([9] ++ (l ++ (zs M ++ ([9] ++ lb))))
def t0 (la lb : List Int) (n : Nat) : List Int := la ++ [9] ++ List.replicate n 200 ++ [9] ++ lb
structure Tx (la lb l : List Int) (n1 n2 p M : Nat) (S : ByteArray) (T : List Int) : Prop where
  len : T.length = n1 + 1 + (p + M) + 1 + n2
  size : S.size = p
  put : ∀ a n : Int, a = n1 + 1 → n = p + M → ptxE (t0 la lb (p + M)) a n S = 0 ∧ ptxL (t0 la lb (p + M)) a n S = T
  get : ∀ a n : Int, a = n1 + 1 → n = p + M → texE T a n = 0 ∧ texS T a n = S
  zer : ∀ a n : Int, a = n1 + 1 + p → n = M → zerE T a n = 0 ∧ zerV T a n = true
  fore : T.take n1 = la
  mid1 : nth T n1 = 9
  mid2 : nth T (n1 + 1 + (p + M)) = 9
  aft : T.drop (n1 + 1 + (p + M) + 1) = lb
  cut : ∀ (a n : Int) (k : Nat), a = n1 + 1 → n = k → k ≤ p → texE T a n = 0 ∧ texS T a n = strOfNums (l.take k)
  less : ∀ a n : Int, n < p → ptxE T a n S = 1 ∧ ptxL T a n S = T
  zero : ∀ (a n : Int) (S2 : ByteArray), (∃ i, i < S2.size ∧ nth (sb S2) i = 0) → ptxE T a n S2 = 1 ∧ ptxL T a n S2 = T
  out : ∀ a : Int, a = n1 + 1 + (p + M) + 1 + n2 → ptxE T a 1 ⟨#[]⟩ = 20 ∧ ptxL T a 1 ⟨#[]⟩ = T
  one : ∀ (a n : Int) (q : Nat), a = n1 + 1 → n = p + M → q = n1 + (p + M) → 2 ≤ M → texE (T.set q 1) a n = 1

theorem t1_nth_l (la lb l : List Int) (M n1 i : Nat) (h1 : la.length = n1) (hi : i < l.length) : nth (t1 la lb l M) (n1 + 1 + i) = nth l i := by
  subst h1
  unfold t1
  rw [Nat.add_assoc, nth_right, show (1 : Nat) + i = ([9] : List Int).length + i from rfl, nth_right, nth_left _ _ _ hi]
theorem t1_nth_z (la lb l : List Int) (M n1 p i : Nat) (h1 : la.length = n1) (hp : l.length = p) (hi : i < M) : nth (t1 la lb l M) (n1 + 1 + (p + i)) = 0 := by
  subst h1 hp
  unfold t1
  rw [Nat.add_assoc, nth_right, show (1 : Nat) + (l.length + i) = ([9] : List Int).length + (l.length + i) from rfl, nth_right, nth_right, nth_left _ _ _ (by rw [zs_length]; exact hi), zs_nth]
theorem fld_t1 (la lb l : List Int) (M n1 k : Nat) (h1 : la.length = n1) (hk : k ≤ l.length) : fld (t1 la lb l M) (n1 + 1) k = l.take k := by
  subst h1
  unfold fld t1
  rw [← List.append_assoc, show la.length + 1 = (la ++ [9]).length by simp, List.drop_left, List.take_append_of_le_length hk]
theorem tx_mk (la lb l : List Int) (n1 n2 p M : Nat) (h1 : la.length = n1) (h2 : lb.length = n2) (h3 : l.length = p) (hw : ∀ i, 0 ≤ nth l i ∧ nth l i < 256) (hz : ∀ i, i < p → nth l i ≠ 0) : Tx la lb l n1 n2 p M (strOfNums l) (t1 la lb l M) := by
  have hl : (t1 la lb l M).length = n1 + 1 + (p + M) + 1 + n2 := by simp [t1, zs_length, h1, h2, h3]; omega
  have hl0 : (t0 la lb (p + M)).length = n1 + 1 + (p + M) + 1 + n2 := by simp [t0, h1, h2]; omega
  have hs : (strOfNums l).size = p := by rw [strOfNums_size, h3]
  have hsb := sb_str hw
  have hfz : ∀ n, n ≤ p + M → fz (t1 la lb l M) (n1 + 1) n = if n ≤ p then n else p := fun n hn => by
    by_cases h : n ≤ p
    · rw [if_pos h]
      refine fz_eq _ _ _ _ (Nat.le_refl _) (fun i hi => ?_) (fun h => absurd h (by omega))
      rw [t1_nth_l _ _ _ _ _ _ h1 (by omega)]; exact hz i (by omega)
    · rw [if_neg h]
      refine fz_eq _ _ _ _ (by omega) (fun i hi => ?_) (fun _ => ?_)
      · rw [t1_nth_l _ _ _ _ _ _ h1 (by omega)]; exact hz i (by omega)
      · have := t1_nth_z la lb l M n1 p 0 h1 h3 (by omega)
        rwa [Nat.add_zero] at this
  have hcl : ∀ n, n ≤ p + M → cl (t1 la lb l M) (n1 + 1) n = true := fun n hn => by
    unfold cl
    rw [hfz n hn]
    refine zr_true _ _ _ fun i hi => ?_
    split at hi <;> rename_i h
    · omega
    · rw [if_neg h, Nat.add_assoc]; exact t1_nth_z la lb l M n1 p i h1 h3 (by omega)
  have hli : ∀ n : Nat, n ≤ p + M → lies (t1 la lb l M).length ((n1 : Int) + 1) n = true := fun n hn => lies_true (by rw [hl]; omega)
  have hE : ∀ n : Nat, n ≤ p + M → texE (t1 la lb l M) ((n1 : Int) + 1) n = 0 := fun n hn => by
    unfold texE
    rw [if_neg (by omega), hli n hn, show ((n1 : Int) + 1).toNat = n1 + 1 by omega, Int.toNat_natCast, hcl n hn]; rfl
  have hS : ∀ n : Nat, n ≤ p + M → texS (t1 la lb l M) ((n1 : Int) + 1) n = strOfNums (l.take (if n ≤ p then n else p)) := fun n hn => by
    unfold texS texL
    rw [hE n hn, if_pos rfl, show ((n1 : Int) + 1).toNat = n1 + 1 by omega, Int.toNat_natCast, hfz n hn]
    have := fld_t1 la lb l M n1 (if n ≤ p then n else p) h1 (by split <;> omega)
    unfold fld at this
    rw [this]
  refine ⟨hl, hs, ?_, ?_, ?_, ?_, ?_, ?_, ?_, ?_, ?_, ?_, ?_, ?_⟩
  · intro a n ha hn
    have ht : tx (strOfNums l) n = true := by
      unfold tx
      rw [hs, hsb, Bool.and_eq_true]
      exact ⟨decide_eq_true (by omega), decide_eq_true hz⟩
    have e : ptxE (t0 la lb (p + M)) a n (strOfNums l) = 0 := by
      unfold ptxE; rw [ht, lies_true (by rw [hl0]; omega)]; rfl
    refine ⟨e, ?_⟩
    unfold ptxL
    rw [e, if_pos rfl, hsb, show a.toNat = n1 + 1 by omega, show n.toNat = p + M by omega]
    refine ext_nth (by rw [ov_length, hl0, hl]) fun i hi => ?_
    rw [ov_length] at hi
    rw [nth_ov _ _ _ _ _ hi]
    by_cases hc : n1 + 1 ≤ i ∧ i < n1 + 1 + (p + M)
    · rw [if_pos hc]
      obtain ⟨j, rfl⟩ : ∃ j, i = n1 + 1 + j := ⟨i - (n1 + 1), by omega⟩
      rw [Nat.add_sub_cancel_left]
      by_cases hj : j < p
      · rw [t1_nth_l _ _ _ _ _ _ h1 (by omega)]
      · rw [nth_out _ _ (by omega)]
        obtain ⟨q, rfl⟩ : ∃ q, j = p + q := ⟨j - p, by omega⟩
        rw [t1_nth_z la lb l M n1 p q h1 h3 (by omega)]
    · rw [if_neg hc]
      by_cases hi1 : i < n1 + 1
      · have e1 : nth (t0 la lb (p + M)) i = nth (la ++ [9]) i := by
          unfold t0; rw [List.append_assoc, List.append_assoc, nth_left _ _ _ (by simp; omega)]
        have e2 : nth (t1 la lb l M) i = nth (la ++ [9]) i := by
          unfold t1; rw [← List.append_assoc, nth_left _ _ _ (by simp; omega)]
        rw [e1, e2]
      · obtain ⟨j, rfl⟩ : ∃ j, i = n1 + 1 + (p + M) + j := ⟨i - (n1 + 1 + (p + M)), by omega⟩
        have e1 : nth (t0 la lb (p + M)) (n1 + 1 + (p + M) + j) = nth ([9] ++ lb) j := by
          unfold t0
          rw [List.append_assoc, show n1 + 1 + (p + M) = (la ++ [9] ++ List.replicate (p + M) (200 : Int)).length by simp [h1]; omega, nth_right]
        have e2 : nth (t1 la lb l M) (n1 + 1 + (p + M) + j) = nth ([9] ++ lb) j := by
          have e3 : t1 la lb l M = (la ++ [9] ++ l ++ zs M) ++ ([9] ++ lb) := by simp [t1]
          rw [e3, show n1 + 1 + (p + M) = (la ++ [9] ++ l ++ zs M).length by simp [h1, h3, zs_length]; omega, nth_right]
        rw [e1, e2]
  · rintro a n rfl rfl
    have x := hE (p + M) (Nat.le_refl _)
    have y := hS (p + M) (Nat.le_refl _)
    have z : (if p + M ≤ p then p + M else p) = p := by split <;> omega
    rw [z, List.take_of_length_le (by omega)] at y
    rw [← Int.natCast_add]
    exact ⟨x, y⟩
  · rintro a n rfl rfl
    have e : zerE (t1 la lb l M) ((n1 : Int) + 1 + p) M = 0 := by
      unfold zerE; rw [if_neg (by omega), lies_true (by rw [hl]; omega)]; rfl
    refine ⟨e, ?_⟩
    unfold zerV
    rw [e, show ((n1 : Int) + 1 + p).toNat = n1 + 1 + p by omega, Int.toNat_natCast, zr_true _ _ _ (fun i hi => by rw [Nat.add_assoc]; exact t1_nth_z la lb l M n1 p i h1 h3 hi)]; rfl
  · rw [← h1]; exact List.take_left
  · have e3 : t1 la lb l M = la ++ ([9] ++ (l ++ (zs M ++ ([9] ++ lb)))) := rfl
    rw [e3, ← h1, show la.length = la.length + 0 from rfl, nth_right]; rfl
  · have e3 : t1 la lb l M = (la ++ [9] ++ l ++ zs M) ++ ([9] ++ lb) := by simp [t1]
    rw [e3, show n1 + 1 + (p + M) = (la ++ [9] ++ l ++ zs M).length + 0 by simp [h1, h3, zs_length]; omega, nth_right]; rfl
  · have e3 : t1 la lb l M = (la ++ [9] ++ l ++ zs M ++ [9]) ++ lb := by simp [t1]
    rw [e3, show n1 + 1 + (p + M) + 1 = (la ++ [9] ++ l ++ zs M ++ [9]).length by simp [h1, h3, zs_length]; omega, List.drop_left]
  · rintro a n k rfl rfl hk
    have y := hS k (by omega)
    rw [if_pos hk] at y
    exact ⟨hE k (by omega), y⟩
  · intro a n hn
    have ht : tx (strOfNums l) n = false := by
      unfold tx
      rw [hs, Bool.and_eq_false_iff]
      exact .inl (decide_eq_false (by omega))
    have e : ptxE (t1 la lb l M) a n (strOfNums l) = 1 := by unfold ptxE; rw [ht]; rfl
    exact ⟨e, by unfold ptxL; rw [e]; rfl⟩
  · intro a n S2 h
    have ht : tx S2 n = false := by
      unfold tx
      rw [Bool.and_eq_false_iff]
      obtain ⟨i, hi, e⟩ := h
      exact .inr (decide_eq_false fun x => x i hi e)
    have e : ptxE (t1 la lb l M) a n S2 = 1 := by unfold ptxE; rw [ht]; rfl
    exact ⟨e, by unfold ptxL; rw [e]; rfl⟩
  · intro a ha
    have ht : tx ⟨#[]⟩ 1 = true := by decide
    have e : ptxE (t1 la lb l M) a 1 ⟨#[]⟩ = 20 := by unfold ptxE; rw [ht, lies_false (by rw [hl]; omega)]; rfl
    exact ⟨e, by unfold ptxL; rw [e]; rfl⟩
  · rintro a n q rfl rfl rfl hM
    have hq : n1 + (p + M) < (t1 la lb l M).length := by omega
    have hlen : ((t1 la lb l M).set (n1 + (p + M)) 1).length = (t1 la lb l M).length := List.length_set ..
    have hn1 : ∀ i, i ≠ n1 + (p + M) → nth ((t1 la lb l M).set (n1 + (p + M)) 1) i = nth (t1 la lb l M) i := fun i hi => by rw [nth_set _ _ _ _ hq, if_neg hi]
    have hf : fz ((t1 la lb l M).set (n1 + (p + M)) 1) (n1 + 1) (p + M) = p := by
      refine fz_eq _ _ _ _ (by omega) (fun i hi => ?_) (fun _ => ?_)
      · rw [hn1 _ (by omega), t1_nth_l _ _ _ _ _ _ h1 (by omega)]; exact hz i hi
      · rw [hn1 _ (by omega)]
        have := t1_nth_z la lb l M n1 p 0 h1 h3 (by omega)
        rwa [Nat.add_zero] at this
    have hc : cl ((t1 la lb l M).set (n1 + (p + M)) 1) (n1 + 1) (p + M) = false := by
      unfold cl
      rw [hf]
      refine zr_false _ _ _ (M - 1) (by omega) ?_
      rw [show n1 + 1 + p + (M - 1) = n1 + (p + M) by omega, nth_set _ _ _ _ hq, if_pos rfl]; decide
    unfold texE
    rw [← Int.natCast_add, if_neg (by omega), hlen, hli (p + M) (Nat.le_refl _), show ((n1 : Int) + 1).toNat = n1 + 1 by omega, Int.toNat_natCast, hc]; rfl
end Go.Proofs.YtklgjagkgfbcfaaDoor
