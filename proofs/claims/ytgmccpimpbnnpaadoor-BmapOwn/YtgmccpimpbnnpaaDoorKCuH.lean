import Derived.Test.YtgmccpimpbnnpaaDoorKCvM
namespace Go.Proofs.YtgmccpimpbnnpaaDoor
open Go.RowKit Go.Maps Rec
theorem sub11 {i q : Nat} (hi : i < 128) : subP (kid 11 i) q ↔ q = 140 + i ∨ (268 + 128 * i ≤ q ∧ q < 268 + 128 * i + 128) := by
  have e1 := (kid11 i hi).1
  have e2 : ∀ j, kid (140 + i) j = 268 + 128 * i + j := fun j => by unfold kid; rw [if_neg (by omega), if_neg (by omega)]; omega
  unfold subP
  rw [e1]
  constructor
  · rintro (e | ⟨j, hj, e⟩)
    · exact .inl e
    · rw [e2] at e; exact .inr (by omega)
  · rintro (e | e)
    · exact .inl e
    · exact .inr ⟨q - (268 + 128 * i), by omega, by rw [e2]; omega⟩
theorem sub10 {q : Nat} : subP 10 q ↔ q = 10 ∨ (12 ≤ q ∧ q < 140) := by
  have e2 : ∀ j, kid 10 j = 12 + j := fun j => by unfold kid; rw [if_pos rfl]
  unfold subP
  constructor
  · rintro (e | ⟨j, hj, e⟩)
    · exact .inl e
    · rw [e2] at e; exact .inr (by omega)
  · rintro (e | e)
    · exact .inl e
    · exact .inr ⟨q - 12, by omega, by rw [e2]; omega⟩
theorem sub_none {w0 : World} {D : Dk} {T0 : Tx} {n : Nat} {x : Nat → Int} {ν : Nat → Nat} {k p q : Nat} (hk : Ck w0 D T0 n x ν k) (hp : isT1 p) (ha : acP ν k p = false) (h : subP p q) : gone ν k q = false ∧ ¬ modP ν k q := by
  have hole : ∀ i, i < 128 → ν p = 0 → ν (kid p i) = 0 := fun i hi e => by
    obtain ⟨k1, k2, k3, k4⟩ := kid_par (.inr hp) hi
    exact hk.wd.tre.hole _ k1 k2 (by rw [k3]; exact e)
  have hg : ∀ i, i < 128 → gone ν k (kid p i) = false := fun i hi => by
    cases e : gone ν k (kid p i)
    · rfl
    · have := ac_kid (.inr hp) hi (hole i hi) (gone_ac e)
      rw [ha] at this
      cases this
  rcases h with rfl | ⟨i, hi, rfl⟩
  · refine ⟨?_, fun m => ?_⟩
    · cases e : gone ν k q
      · rfl
      · have := gone_ac e; rw [ha] at this; cases this
    · obtain ⟨i, hi, e⟩ := m.2.2.2
      rw [hg i hi] at e
      cases e
  · exact ⟨hg i hi, fun m => m.1.elim (kid_leaf hp hi).1 (kid_leaf hp hi).2.1⟩
theorem cv_bd {w0 : World} {D : Dk} {T0 : Tx} {n : Nat} {x : Nat → Int} {ν : Nat → Nat} {k p : Nat} (hk : Ck w0 D T0 n x ν k) : cvP ν k p ≤ 16384 := by
  unfold cvP
  split
  · omega
  · by_cases e : ν p = 0
    · omega
    · have := (hk.wd.own.good _ e).2.1; have := hk.hi; omega
theorem cn_t2 (w0 w : World) (D : Dk) (T0 T : Tx) (n : Nat) (x : Nat → Int) (ν : Nat → Nat) (k u tt a0 : Nat) (Pr : Nat → Prop) (hk : Ck w0 D T0 n x ν k) (h : Spc w0 w D T n) (htt : T.t = tt) (c : Cq D T0 T n ν k Pr u) (hu : u ≤ 1000) (hp : ∀ q, Pr q → q < 11 ∨ (12 ≤ q ∧ q < 140)) (ha : acP ν k 11 = true) (Pr' : Nat → Prop) (hPr : ∀ q, Pr' q ↔ Pr q ∨ q = 11 ∨ (140 ≤ q ∧ q < 16652)) :
    Calls Tryd.prog 56 #[.pointer (some ⟨tt, 0, none⟩), geoV n, stV a0 138 16384, .int .i64 (ν 11 : Int), .int .i64 (k : Int)] w (CnE w0 w D T n (gone ν k 11) (fun T' => Cq D T0 T' n ν k Pr' (u + 16513)) (NotIn T0 n ν)) := by
  have h0 : ν 11 ≠ 0 := by unfold acP at ha; simp at ha; exact ha.1
  have hpp : ¬ Pr 11 := fun e => by rcases hp 11 e with e | e <;> omega
  obtain ⟨b1, b2, b3⟩ := hk.bit c hpp h0
  have hus := c.us
  have hus0 := hk.us
  have hac : actB (fun i => ν (kid 11 i)) (fun i => 138 + i * (16384 / 128)) (fun _ => 16384 / 128) k = fun i => decide (ν (kid 11 i) ≠ 0) && decide (k < 138 + i * 128 + 128) := rfl
  have hacP : ∀ i, i < 128 → (decide (ν (kid 11 i) ≠ 0) && decide (k < 138 + i * 128 + 128)) = acP ν k (kid 11 i) := fun i hi => by
    obtain ⟨_, _, _, e4, e5⟩ := kid11 i hi
    rw [acP, e4, e5]
  have hrowN : ∀ i, i < 128 → nth (rowC 128 (fun i => ν (kid 11 i)) (fun i => decide (ν (kid 11 i) ≠ 0) && decide (k < 138 + i * 128 + 128)) (fun i => gone ν k (kid 11 i)) 128) i = (cvP ν k (kid 11 i) : Int) := fun i hi => by
    rw [nth_rowC _ _ _ _ _ _ hi]
    exact cv_row (ν := ν) (k := k) (p := kid 11 i) (i := i) (ac := fun i => decide (ν (kid 11 i) ≠ 0) && decide (k < 138 + i * 128 + 128)) (gn := fun i => gone ν k (kid 11 i)) (by show ((decide (ν (kid 11 i) ≠ 0) && decide (k < 138 + i * 128 + 128)) = true ∧ gone ν k (kid 11 i) = true) ↔ _; rw [hacP i hi]; exact ⟨fun e => e.2, fun e => ⟨gone_ac e, e⟩⟩) hi
  have hgp : gone ν k 11 = all128 (fun i => cvP ν k (kid 11 i)) := by rw [gone_t2, ha, Bool.true_and]
  have hno : ∀ j, j ≤ 128 → ¬ (Pr 11 ∨ ∃ i, i < j ∧ subP (kid 11 i) 11) := fun j hj e => e.elim hpp (fun ⟨i, hi, e⟩ => by rw [sub11 (by omega)] at e; omega)
  have hfin : ∀ q, Pr' q ↔ (Pr q ∨ ∃ i, i < 128 ∧ subP (kid 11 i) q) ∨ q = 11 := fun q => by
    rw [hPr]
    constructor
    · rintro (e | e | e)
      · exact .inl (.inl e)
      · exact .inr e
      · refine .inl (.inr ?_)
        by_cases e2 : q < 268
        · exact ⟨q - 140, by omega, (sub11 (by omega)).2 (.inl (by omega))⟩
        · exact ⟨(q - 268) / 128, by omega, (sub11 (by omega)).2 (.inr (by omega))⟩
    · rintro ((e | ⟨i, hi, e⟩) | e)
      · exact .inl e
      · rw [sub11 hi] at e
        exact .inr (.inr (by omega))
      · exact .inr (.inl e)
  refine cn_tab w0 w D T n h hk.tab tt a0 138 16384 (ν 11) k htt (by omega) (by omega) (by omega) hk.k b2 b3 (fun i => ν (kid 11 i)) (fun i hi => ?_) (fun i => gone ν k (kid 11 i)) (fun j T1 => Cq D T0 T1 n ν k (fun q => Pr q ∨ ∃ i, i < j ∧ subP (kid 11 i) q) (u + 129 * j)) (NotIn T0 n ν) (fun T1 c1 e => c1.no h0 b3 e) ?_ (fun j T' hj hb cj => ?_) (fun j hj hb wx Tx_ hs ht cj => ?_) _ hac (fun T' => Cq D T0 T' n ν k Pr' (u + 16513)) (gone ν k 11) ?_ (fun T1 c1 => ?_) (fun w1 w2 T1 T2 c1 he g => ?_) (fun T1 T2 c1 he hch hc hl => ?_) (fun T1 c1 he hch => ?_)
  · have hN := nM_bd hk.lo hk.hi
    rw [c.tvN (ν 11) (by omega) (fun q hq hm e => hpp (by rw [← hk.wd.own.inj q 11 hm.2.1 e]; exact hq))]
    obtain ⟨k1, k2, k3, k4⟩ := kid_par (.inl rfl) hi
    have := hk.wd.tre.tab (kid 11 i) k1 k2 (by rw [k3]; exact h0)
    rw [k3, k4] at this
    exact this
  · exact c.add (by omega) (fun q e => .inl e) (fun q e => e.elim .inl (fun ⟨i, hi, _⟩ => by omega))
  · rw [hac] at hb
    have hb2 : acP ν k (kid 11 j) = false := by rw [← hacP j hj]; exact hb
    refine cj.add (by omega) (fun q e => e.imp id (fun ⟨i, hi, e⟩ => ⟨i, by omega, e⟩)) (fun q e => ?_)
    rcases e with e | ⟨i, hi, e⟩
    · exact .inl (.inl e)
    · by_cases e2 : i = j
      · subst e2
        exact .inr (sub_none hk (kid11 i hj).2.1 hb2 e)
      · exact .inl (.inr ⟨i, by omega, e⟩)
  · rw [hac] at hb
    have ha2 : acP ν k (kid 11 j) = true := by rw [← hacP j hj]; exact hb
    have hnp : ∀ q, subP (kid 11 j) q → ¬ (Pr q ∨ ∃ i, i < j ∧ subP (kid 11 i) q) := fun q hq e => by
      rw [sub11 hj] at hq
      rcases e with e | ⟨i, hi, e⟩
      · rcases hp q e with e | e <;> omega
      · rw [sub11 (by omega)] at e; omega
    have h0k : ν (kid 11 j) ≠ 0 := by unfold acP at ha2; simp at ha2; exact ha2.1
    obtain ⟨d1, d2, d3⟩ := hk.bit cj (hnp _ (.inl rfl)) h0k
    refine ⟨⟨d2, d3⟩, ?_⟩
    have := cn_t1 w0 wx D T0 Tx_ n x ν k (u + 129 * j) tt j (kid 11 j) _ hk hs ht cj (by omega) (kid11 j hj).2.1 hnp ha2 (fun q => Pr q ∨ ∃ i, i < j + 1 ∧ subP (kid 11 i) q) (fun q => ?_)
    · have e1 : fiP (kid 11 j) = 138 + j * (16384 / 128) := (kid11 j hj).2.2.2.2
      rw [e1] at this
      exact this
    · constructor
      · rintro (e | ⟨i, hi, e⟩)
        · exact .inl (.inl e)
        · by_cases e2 : i = j
          · subst e2; exact .inr e
          · exact .inl (.inr ⟨i, by omega, e⟩)
      · rintro ((e | ⟨i, hi, e⟩) | e)
        · exact .inl e
        · exact .inr ⟨i, by omega, e⟩
        · exact .inr ⟨j, by omega, e⟩
  · rw [hgp]; exact any_row hrowN
  · have := c1.us
    exact ⟨(hk.bit c1 (p := 11) (hno 128 (Nat.le_refl _)) h0).1, by omega⟩
  · exact c1.give hk he g (by rw [g.u]; omega) hfin
  · obtain ⟨i, hi, hi2, hi3⟩ := chC_iff.1 hch
    have hm : modP ν k 11 := ⟨.inl rfl, h0, he, i, hi, hi3⟩
    refine c1.put hk (hno 128 (Nat.le_refl _)) hm hc (by omega) (fun i => ?_) hrowN hfin
    by_cases hi : i < 128
    · rw [hrowN i hi]
      have := cv_bd (p := kid 11 i) hk
      omega
    · rw [nth_out _ _ (by rw [rowC_length]; omega)]; omega
  · refine c1.add (by omega) (fun q e => (hfin q).2 (.inl e)) (fun q e => ?_)
    rcases (hfin q).1 e with e | e
    · exact .inl e
    · subst e
      refine .inr ⟨he, fun m => ?_⟩
      obtain ⟨i, hi, hg⟩ := m.2.2.2
      have : chC (fun i => decide (ν (kid 11 i) ≠ 0) && decide (k < 138 + i * 128 + 128)) (fun i => gone ν k (kid 11 i)) 128 = true := chC_iff.2 ⟨i, hi, by show (decide (ν (kid 11 i) ≠ 0) && decide (k < 138 + i * 128 + 128)) = true; rw [hacP i hi]; exact gone_ac hg, hg⟩
      rw [this] at hch
      cases hch
def topP (q : Nat) : Nat := if q < 12 then q else if q < 140 then 10 else 11
def uoP (j : Nat) : Nat := if j ≤ 10 then j else if j = 11 then 139 else 16652
theorem own_fi {p : Nat} (hp : p < 12) : fiP p = oF p ∧ szP p = oS p := by
  unfold fiP szP oF oS
  refine ⟨?_, ?_⟩ <;> (repeat' split) <;> omega
theorem cutOwn (w0 w : World) (D : Dk) (T : Tx) (n : Nat) (x : Nat → Int) (ν : Nat → Nat) (k tt tb g cap : Nat) (hk : Ck w0 D T n x ν k) (h : Spc w0 w D T n) (htt : T.t = tt) (ho : OwnI w g cap (ownN ν)) (hO : Out w0 w D T g) :
    Calls Tryd.prog 41 #[.pointer (some ⟨tt, 0, none⟩), geoV n, .agg #[.int .i64 (tb : Int), .slice (some ⟨g, 0, none⟩) 12 cap], .func (.func 32) #[] #[], .int .i64 (k : Int)] w fun e w' => ∃ (b : Bool) (z : Nat) (T' : Tx), e = .returned (.tuple #[.bool b, .int .i64 (z : Int)]) ∧ Gon w0 w w' D T T' n (fun i => i = g) ∧ (∃ m, Ext T T' m) ∧ ((z = 0 ∧ Cq D T T' n ν k (fun q => q < 16652) 16652 ∧ OwnI w' g cap (ownN (cvP ν k))) ∨ (z = 60 ∧ NotIn T n ν)) := by
  have hacP : ∀ j, j < 12 → actB ν oF oS k j = acP ν k j := fun j hj => by rw [actB, acP, (own_fi hj).1, (own_fi hj).2]
  have hrow0 : rowC 12 ν (actB ν oF oS k) (gone ν k) 0 = ownN ν := by
    refine ext_nth (by rw [rowC_length, ownN_length]) (fun i hi => ?_)
    rw [rowC_length] at hi
    rw [nth_rowC _ _ _ _ _ _ hi, nth_ownN _ _ hi, if_neg (by omega)]
  have hrow1 : rowC 12 ν (actB ν oF oS k) (gone ν k) 12 = ownN (cvP ν k) := by
    refine ext_nth (by rw [rowC_length, ownN_length]) (fun i hi => ?_)
    rw [rowC_length] at hi
    rw [nth_rowC _ _ _ _ _ _ hi, nth_ownN _ _ hi, hacP i hi]
    unfold cvP
    by_cases e : gone ν k i = true
    · rw [if_pos ⟨hi, gone_ac e, e⟩, if_pos e]; rfl
    · rw [if_neg (fun e2 => e e2.2.2), if_neg e]
  have hiff : ∀ j q, j < 12 → ((q < 16652 ∧ topP q < j + 1) ↔ ((q < 16652 ∧ topP q < j) ∨ (q < 16652 ∧ topP q = j))) := fun j q hj => by
    constructor
    · rintro ⟨e1, e2⟩
      by_cases e : topP q = j
      · exact .inr ⟨e1, e⟩
      · exact .inl ⟨e1, by omega⟩
    · rintro (⟨e1, e2⟩ | ⟨e1, e2⟩) <;> exact ⟨e1, by omega⟩
  have hleaf : ∀ j q, j < 10 → ((q < 16652 ∧ topP q = j) ↔ q = j) := fun j q hj => by
    unfold topP
    constructor
    · rintro ⟨e1, e2⟩
      repeat' split at e2
      all_goals omega
    · rintro rfl
      exact ⟨by omega, by rw [if_pos (by omega)]⟩
  have hten : ∀ q, (q < 16652 ∧ topP q = 10) ↔ subP 10 q := fun q => by
    rw [sub10]
    unfold topP
    constructor
    · rintro ⟨e1, e2⟩
      repeat' split at e2
      all_goals omega
    · rintro (rfl | e)
      · exact ⟨by omega, rfl⟩
      · exact ⟨by omega, by rw [if_neg (by omega), if_pos (by omega)]⟩
  have helv : ∀ q, (q < 16652 ∧ topP q = 11) ↔ (q = 11 ∨ (140 ≤ q ∧ q < 16652)) := fun q => by
    unfold topP
    constructor
    · rintro ⟨e1, e2⟩
      repeat' split at e2
      all_goals omega
    · rintro (rfl | e)
      · exact ⟨by omega, rfl⟩
      · exact ⟨by omega, by rw [if_neg (by omega), if_neg (by omega)]⟩
  have hne10 : ∀ j, j < 10 → ¬ j = 11 ∧ ¬ isT1 j := fun j hj => ⟨by omega, fun e => by rcases e with e | e <;> omega⟩
  have hzero : Cq D T T n ν k (fun q => q < 16652 ∧ topP q < 0) (uoP 0) := Cq.zero (fun p e => by omega) h.bm
  have hnone : ∀ j q, j < 12 → acP ν k j = false → (q < 16652 ∧ topP q = j) → gone ν k q = false ∧ ¬ modP ν k q := fun j q hj ha hq => by
    by_cases e : j < 10
    · rw [hleaf j q e] at hq
      subst hq
      exact ⟨by rw [gone_leaf (hne10 q e).1 (hne10 q e).2]; exact ha, fun m => m.1.elim (hne10 q e).1 (hne10 q e).2⟩
    · by_cases e2 : j = 10
      · subst e2
        rw [hten] at hq
        exact sub_none hk (.inl rfl) ha hq
      · have e3 : j = 11 := by omega
        subst e3
        rw [helv] at hq
        have hac : ∀ i, i < 128 → acP ν k (kid 11 i) = false := fun i hi => by
          cases e : acP ν k (kid 11 i)
          · rfl
          · obtain ⟨k1, k2, k3, k4⟩ := kid_par (p := 11) (.inl rfl) hi
            have := ac_kid (.inl rfl) hi (fun e => hk.wd.tre.hole _ k1 k2 (by rw [k3]; exact e)) e
            rw [ha] at this
            cases this
        rcases hq with rfl | hq
        · refine ⟨?_, fun m => ?_⟩
          · cases e : gone ν k 11
            · rfl
            · have := gone_ac e; rw [ha] at this; cases this
          · obtain ⟨i, hi, e⟩ := m.2.2.2
            have := gone_ac e
            rw [hac i hi] at this
            cases this
        · by_cases e4 : q < 268
          · exact sub_none hk (kid11 (q - 140) (by omega)).2.1 (hac _ (by omega)) ((sub11 (by omega)).2 (.inl (by omega)))
          · exact sub_none hk (kid11 ((q - 268) / 128) (by omega)).2.1 (hac _ (by omega)) ((sub11 (by omega)).2 (.inr (by omega)))
  have huo : ∀ j, j < 12 → uoP j ≤ uoP (j + 1) := fun j hj => by unfold uoP; repeat' split
                                                                 all_goals omega
  refine (cutRow_own w0 w D T n h tt k tb g 12 cap htt hk.k (by omega) ν (gone ν k) (fun j T1 => Cq D T T1 n ν k (fun q => q < 16652 ∧ topP q < j) (uoP j)) (NotIn T n ν) hO (by rw [hrow0]; exact ho) hzero (fun j T' hj hb cj => ?_) (fun j hj hb wx Tx_ hs ht cj => ?_)).mono ?_
  · rw [hacP j hj] at hb
    exact cj.add (huo j hj) (fun q e => ⟨e.1, by omega⟩) (fun q e => ((hiff j q hj).1 e).imp id (fun e => hnone j q hj hb e))
  · rw [hacP j hj] at hb
    have h0k : ν j ≠ 0 := by unfold acP at hb; simp at hb; exact hb.1
    have htop : topP j = j := by unfold topP; rw [if_pos hj]
    obtain ⟨d1, d2, d3⟩ := hk.bit cj (p := j) (fun e => by omega) h0k
    refine ⟨⟨d2, d3⟩, ?_⟩
    rw [← (own_fi hj).1, ← (own_fi hj).2]
    by_cases e : j < 10
    · have hg : gone ν k j = true := by rw [gone_leaf (hne10 j e).1 (hne10 j e).2]; exact hb
      have h1 := cn_leafq w0 wx D T Tx_ n x ν k (uoP j) tt j j _ hk hs ht cj (by unfold uoP; rw [if_pos (by omega)]; omega) (hne10 j e).1 (hne10 j e).2 (fun e => by omega) hb (fun q => q < 16652 ∧ topP q < j + 1) (fun q => by rw [hiff j q hj, hleaf j q e])
      have e1 : uoP j + 1 = uoP (j + 1) := by unfold uoP; rw [if_pos (by omega), if_pos (by omega)]
      have e2 : szP j = 1 := by unfold szP; rw [if_neg (by omega), if_neg (by omega), if_neg (by omega)]
      rw [e1] at h1
      rw [e2, hg]
      exact h1
    · by_cases e2 : j = 10
      · subst e2
        exact cn_t1 w0 wx D T Tx_ n x ν k 10 tt 10 10 _ hk hs ht cj (by omega) (.inl rfl) (fun q hq e => by rw [← hten] at hq; omega) hb (fun q => q < 16652 ∧ topP q < 10 + 1) (fun q => by rw [hiff 10 q (by omega), hten q])
      · have e3 : j = 11 := by omega
        subst e3
        exact cn_t2 w0 wx D T Tx_ n x ν k 139 tt 11 _ hk hs ht cj (by omega) (fun q hq => by
          obtain ⟨q1, q2⟩ := hq
          unfold topP at q2
          repeat' split at q2
          all_goals omega) hb (fun q => q < 16652 ∧ topP q < 11 + 1) (fun q => by rw [hiff 11 q (by omega), helv q])
  · rintro e w' ⟨b, z, T', rfl, h1, h2, h3⟩
    refine ⟨b, z, T', rfl, h1, h2, h3.imp (fun ⟨e1, e2, e3, _⟩ => ⟨e1, ?_, by rw [← hrow1]; exact e3⟩) id⟩
    refine e2.add (by unfold uoP; rw [if_neg (by omega), if_neg (by omega)]; omega) (fun q e => e.1) (fun q e => .inl ⟨e, ?_⟩)
    unfold topP
    repeat' split
    all_goals omega
end Go.Proofs.YtgmccpimpbnnpaaDoor

namespace Go.Proofs.YtgmccpimpbnnpaaDoor
open Go.RowKit Go.Maps Rec
def CtA (D : Dk) (T : Tx) (n k g0 cap0 : Nat) (ν : Nat → Nat) (z : Nat) (T' : Tx) (w' : World) : Prop :=
  (z = 0 ∧ Cq D T T' n ν k (fun q => q < 16652) 16652 ∧ OwnI w' g0 cap0 (ownN (cvP ν k))) ∨ (z = 60 ∧ NotIn T n ν)
set_option maxRecDepth 100000 in
set_option maxHeartbeats 4000000 in
theorem cut1_any (w0 w : World) (D : Dk) (T : Tx) (n : Nat) (h : Spc w0 w D T n) (x : Nat → Int) (ν : Nat → Nat) (k : Nat) (hk : Ck w0 D T n x ν k) (g0 cap0 : Nat) (ho : OwnI w g0 cap0 (ownN ν)) (hO : Out w0 w D T g0) (Tb Gb Rb Kb : Nat) (ht : w.cell? ⟨Tb, 0, none⟩ = some (.pointer (some ⟨T.t, 0, none⟩))) (hg : GeoAt w Gb n) (hr : w.heap[Rb]? = some (.cells #[.int .i64 0, .slice (some ⟨g0, 0, none⟩) 12 cap0] 69 (0, 0))) (hkc : w.cell? ⟨Kb, 0, none⟩ = some (.int .i64 (k : Int))) :
    Calls Tryd.prog 40 #[.pointer (some ⟨Tb, 0, none⟩), .pointer (some ⟨Gb, 0, none⟩), .pointer (some ⟨Rb, 0, none⟩), .pointer (some ⟨Kb, 0, none⟩)] w fun e w' => ∃ (z : Nat) (T' : Tx), e = .returned (.int .i64 (z : Int)) ∧ Gon w0 w w' D T T' n (fun i => i = g0) ∧ (∃ m, Ext T T' m) ∧ CtA D T n k g0 cap0 ν z T' w' := by
  obtain ⟨tt, htt⟩ : ∃ tt, T.t = tt := ⟨_, rfl⟩
  have HC := cutOwn w0 w D T n x ν k tt 0 g0 cap0 hk h htt ho hO
  unfold geoV at HC
  have HCu : Hid (Calls Tryd.prog 41 #[.pointer (some ⟨tt, 0, none⟩), .agg #[.int .i64 (n : Int), .int .i64 98, .int .i64 (gI n), .int .i64 (gD n), .int .i64 (gC n)], .agg #[.int .i64 0, .slice (some ⟨g0, 0, none⟩) 12 cap0], .func (.func 32) #[] #[], .int .i64 (k : Int)] w fun e w' => ∃ (b : Bool) (z : Nat) (T' : Tx), e = .returned (.tuple #[.bool b, .int .i64 (z : Int)]) ∧ Gon w0 w w' D T T' n (fun i => i = g0) ∧ (∃ m, Ext T T' m) ∧ CtA D T n k g0 cap0 ν z T' w') := HC
  obtain ⟨z0, z1, z2, z3, z4⟩ := hg.cells
  have r0 : w.cell? ⟨Rb, 0, none⟩ = some (.int .i64 0) := by rw [cell_of_row _ _ _ _ _ _ hr]; rfl
  have r1 : w.cell? ⟨Rb, 1, none⟩ = some (.slice (some ⟨g0, 0, none⟩) 12 cap0) := by rw [cell_of_row _ _ _ _ _ _ hr]; rfl
  rw [htt] at ht
  clear HC h hk ho hO hg hr htt
  go_enter Tryd.func40, Tryd.ntmps40
  go_wp2_with (go_at_call 41; refine HCu.out.mono ?_; rintro e w1 ⟨b, z, T1, rfl, h1, h2, h3⟩; have H1 : Hid (Gon w0 w w1 D T T1 n (fun i => i = g0) ∧ (∃ m, Ext T T1 m) ∧ CtA D T n k g0 cap0 ν z T1 w1) := ⟨h1, h2, h3⟩; clear h1 h2 h3 HCu)
  go_ret
  exact ⟨z, T1, rfl, H1.out⟩
structure CtP (D : Dk) (T T' : Tx) (n : Nat) (x : Nat → Int) (ν : Nat → Nat) (k : Nat) : Prop where
  wd : Wd D T' n (withN x (cvP ν k)) (cvP ν k)
  fdT : ∀ b, fd (nD n) n (bmp D T') b = true ↔ (fd (nD n) n (bmp D T) b = true ∨ ∃ p, gone ν k p = true ∧ ν p = b)
  tvO : ∀ b, ¬ (98 ≤ b ∧ b < 98 + nM n) → (∀ p, cvP ν k p ≠ b) → tv D T' b = tv D T b
  dom : Dom T T'
  us : T'.us.length ≤ T.us.length + 16652
  bm : Bm (bmp D T') (nM n)
  bitO : ∀ i, i / 4096 < nM n → ¬ (nD n ≤ i ∧ i < n) → isT (bmp D T') i = isT (bmp D T) i
  new : (∀ p, gone ν k p = false) → ∀ j, (T'.c j).isSome = true → (T.c j).isSome = true
theorem gone_lt {V : Nat → Nat → Int} {x : Nat → Int} {ν : Nat → Nat} (h : Tre V x ν) {p : Nat} (hp : ν p ≠ 0) : p < 16652 := by
  by_cases e : p < 16652
  · exact e
  · exact absurd (h.out p (by omega)) hp
theorem ctP {w0 : World} {D : Dk} {T T' : Tx} {n : Nat} {x : Nat → Int} {ν : Nat → Nat} {k : Nat} (hk : Ck w0 D T n x ν k) (c : Cq D T T' n ν k (fun q => q < 16652) 16652) : CtP D T T' n x ν k := by
  have hN := nM_bd hk.lo hk.hi
  have hfd : ∀ b, fd (nD n) n (bmp D T') b = true ↔ (fd (nD n) n (bmp D T) b = true ∨ ∃ p, gone ν k p = true ∧ ν p = b) := fun b => (c.fdT b).trans ⟨fun e => e.imp id (fun ⟨p, _, e1, e2⟩ => ⟨p, e1, e2⟩), fun e => e.imp id (fun ⟨p, e1, e2⟩ => ⟨p, gone_lt hk.wd.tre (gone_nz e1), e1, e2⟩)⟩
  refine ⟨⟨cut_tre hk.wd.tre (fun p hp => withN_own _ _ _ hp) (fun p hp hg hm => ?_) (fun p hm i hi => ?_), cut_own hk.wd.own (fun p hp hg => ?_)⟩, hfd, fun b hb hc => ?_, c.dom, c.us, c.bm, c.bitO, fun h0 j hj => (c.new j hj).elim id (fun ⟨p, _, e⟩ => e.elim (fun e => by rw [h0 p] at e; cases e) (fun e => by obtain ⟨i, _, e⟩ := e.2.2.2; rw [h0] at e; cases e))⟩
  · have hd := hk.wd.own.good p hp
    funext a
    show nm (tv D T' (ν p)) a = nm (tv D T (ν p)) a
    rw [c.tvN (ν p) (by omega) (fun q hq hm2 e => hm (by rw [← hk.wd.own.inj q p hm2.2.1 e]; exact hm2))]
  · exact c.tvS p (gone_lt hk.wd.tre hm.2.1) hm i hi
  · cases e : fd (nD n) n (bmp D T') (ν p)
    · rfl
    · rcases (hfd _).1 e with e | ⟨q, e1, e2⟩
      · rw [(hk.wd.own.good p hp).2.2] at e; cases e
      · have := hk.wd.own.inj q p (gone_nz e1) e2
        subst this
        rw [hg] at e1
        cases e1
  · refine c.tvN b hb (fun p hp hm e => hc p ?_)
    unfold cvP
    rw [hm.2.2.1]
    exact e
set_option maxRecDepth 100000 in
set_option maxHeartbeats 8000000 in
theorem cut_any (w0 w : World) (D : Dk) (T : Tx) (n : Nat) (h : Spc w0 w D T n) (x : Nat → Int) (ν : Nat → Nat) (k : Nat) (hkk : k ≤ 16522) (hck : Ck w0 D T n x ν k) :
    Calls Tryd.prog 18 #[.pointer (some ⟨T.t, 0, none⟩), geoV n, inV x, .int .i64 (k : Int)] w fun e w' => ∃ (z : Nat) (y : Nat → Int) (T' : Tx), e = .returned (.tuple #[inV y, .int .i64 (z : Int)]) ∧ ((z = 0 ∧ y = withN x (cvP ν k) ∧ CtP D T T' n x ν k ∧ Gon w0 w w' D T T' n (fun _ => False) ∧ ∃ m, Ext T T' m) ∨ (z = 60 ∧ y = (fun _ => 0) ∧ NotIn T n ν ∧ BigE w0 w w' D T T' n)) := by
  have hk1 : ¬ (k : Int) < 0 := by omega
  have hk2 : ¬ (16522 : Int) < (k : Int) := by omega
  obtain ⟨tt, htt⟩ : ∃ tt, T.t = tt := ⟨_, rfl⟩
  have hA := ab_new w tt n x (k : Int)
  obtain ⟨wz, hwz⟩ : ∃ wz, ((((w.alloc (.cells #[.pointer (some ⟨tt, 0, none⟩)] 26)).alloc (.cells #[.int .i64 (n : Int), .int .i64 98, .int .i64 (gI n), .int .i64 (gD n), .int .i64 (gC n)] 29)).alloc (.cells #[.int .i64 (x 0), .int .i64 (x 1), .int .i64 (x 2), .int .i64 (x 3), .int .i64 (x 4), .int .i64 (x 5), .int .i64 (x 6), .int .i64 (x 7), .int .i64 (x 8), .int .i64 (x 9), .int .i64 (x 10), .int .i64 (x 11), .int .i64 (x 12), .int .i64 (x 13), .int .i64 (x 14)] 35)).alloc (.cells #[.int .i64 (k : Int)] 3)).alloc (.cells #[.int .i64 0, .int .i64 0, .int .i64 0, .int .i64 0, .int .i64 0, .int .i64 0, .int .i64 0, .int .i64 0, .int .i64 0, .int .i64 0, .int .i64 0, .int .i64 0, .int .i64 0, .int .i64 0, .int .i64 0] 35) = wz := ⟨_, rfl⟩
  rw [hwz] at hA
  obtain ⟨P, hP⟩ : ∃ P, w.heap.size = P := ⟨_, rfl⟩
  have HA : Hid (Below w.heap.size w wz ∧ Ab wz P tt n x (k : Int) ∧ wz.heap.size = P + 5 ∧ w.heap.size = P) := ⟨hA.1, by rw [← hP]; exact hA.2.1, by rw [← hP]; exact hA.2.2, hP⟩
  have HS : Hid (Spc w0 w D T n ∧ Ck w0 D T n x ν k ∧ T.t = tt) := ⟨h, hck, htt⟩
  have HOr : Hid (∀ wx, Calls Tryd.prog 20 #[inV x] wx fun e w' => ∃ g cap, e = .returned (.agg #[.int .i64 0, .slice (some ⟨g, 0, none⟩) 12 cap]) ∧ wx.heap.size ≤ g ∧ OwnI w' g cap (ownN ν) ∧ Below wx.heap.size wx w') := fun wx => by
    rw [← inN_own hck.wd.tre]; exact ownRow_any wx x
  rw [htt]
  clear hA h hck hkk htt
  unfold geoV
  unfold inV at HOr ⊢
  have k0 : wz.cell? ⟨P + 1 + 1 + 1, 0, none⟩ = some (.int .i64 (k : Int)) := by rw [cell_of_row _ _ _ _ _ _ HA.out.2.1.k]; rfl
  obtain ⟨x0, x1, x2, x3, x4, x5, x6, x7, x8, x9, x10, x11, x12, x13, x14⟩ := HA.out.2.1.xc
  go_enter Tryd.func18, Tryd.ntmps18
  go_upto_region 4 with (go_at_call 20; refine (HOr.out _).mono ?_; rintro e w1 ⟨g0, cap0, rfl, h1, h2, h3⟩; have H1 : Hid (wz.heap.size ≤ g0 ∧ OwnI w1 g0 cap0 (ownN ν) ∧ Below wz.heap.size wz w1) := ⟨h1, h2, h3⟩; clear h1 h2 h3 HOr)
  obtain ⟨R1, hR1⟩ : ∃ R1, w1.heap.size = R1 := ⟨_, rfl⟩
  obtain ⟨w2, hw2⟩ : ∃ w2, w1.alloc (.cells #[.int .i64 0, .slice (some ⟨g0, 0, none⟩) 12 cap0] 69) = w2 := ⟨_, rfl⟩
  have H2 : Hid (Ab w2 P tt n x (k : Int) ∧ w2.heap[R1]? = some (.cells #[.int .i64 0, .slice (some ⟨g0, 0, none⟩) 12 cap0] 69 (0, 0)) ∧ OwnI w2 g0 cap0 (ownN ν) ∧ Below w.heap.size w w2 ∧ P + 5 ≤ g0 ∧ g0 < R1 ∧ w2.heap.size = R1 + 1) := by
    have hb1 : Below w.heap.size w w1 := HA.out.1.trans (H1.out.2.2.mono HA.out.1.size)
    have hb2 : Below w1.heap.size w1 w2 := by rw [← hw2]; exact below_new _
    have hs := HA.out.2.2.1
    have hg := H1.out.1
    have hgl := H1.out.2.1.lt
    refine ⟨(HA.out.2.1.on H1.out.2.2).on hb2, ?_, H1.out.2.1.on hb2, hb1.trans (hb2.mono hb1.size), by omega, by omega, by rw [← hw2]; simp [hR1]⟩
    rw [← hw2, ← hR1]
    exact heap_alloc_new _ _
  rw [hw2, hR1]
  clear hw2 hwz hR1 k0 x0 x1 x2 x3 x4 x5 x6 x7 x8 x9 x10 x11 x12 x13 x14
  have t0 : w2.cell? ⟨P, 0, none⟩ = some (.pointer (some ⟨tt, 0, none⟩)) := by rw [cell_of_row _ _ _ _ _ _ H2.out.1.t]; rfl
  have HWh : Hid (Calls Tryd.prog 21 #[.pointer (some ⟨tt, 0, none⟩), .func (.func 40) #[] #[.pointer (some ⟨P, 0, none⟩), .pointer (some ⟨P + 1, 0, none⟩), .pointer (some ⟨R1, 0, none⟩), .pointer (some ⟨P + 1 + 1 + 1, 0, none⟩)]] w2 fun e w' => ∃ (z : Nat) (T' : Tx), e = .returned (.int .i64 (z : Int)) ∧ ((z = 0 ∧ ∃ E w1, WhE w0 w2 w' D T T' n (fun i => i = g0) (CtA D T n k g0 cap0 ν) E w1) ∨ (z ≠ 0 ∧ (∃ T1 w1, CtA D T n k g0 cap0 ν z T1 w1) ∧ Bck w0 w2 w' D T T' n (fun i => i = g0)))) := by
    obtain ⟨h1, h2, h4, h5, h6, h7, h8⟩ := H2.out
    obtain ⟨s1, s2, s6⟩ := HS.out
    have hP := HA.out.2.2.2
    have hb9 : ∀ wx, Below w2.heap.size w2 wx → Below w.heap.size w wx := fun wx hb => h5.trans (hb.mono h5.size)
    have := whole_cut w0 w2 D T n (s1.on h5) (fun i => i = g0) (fun i hi => by have hi : i = g0 := hi; omega) P (P + 1) R1 (P + 1 + 1 + 1) (CtA D T n k g0 cap0 ν) (fun wx hb => cut1_any w0 wx D T n (s1.on (hb9 wx hb)) x ν k s2 g0 cap0 (h4.on hb) (Out.of s1 (by omega) (by have := hb.size; omega)) P (P + 1) R1 (P + 1 + 1 + 1) (by rw [s6, cell_of_row _ _ _ _ _ _ (h1.on hb).t]; rfl) (h1.on hb).g ((hb.block _ (by omega)).trans h2) (by rw [cell_of_row _ _ _ _ _ _ (h1.on hb).k]; rfl))
    rw [s6] at this
    exact this
  go_upto_region 5 with (go_at_call 21; refine HWh.out.mono ?_; rintro e w3 ⟨z, T1, rfl, hor⟩; have H3 : Hid ((z = 0 ∧ ∃ E w1, WhE w0 w2 w3 D T T1 n (fun i => i = g0) (CtA D T n k g0 cap0 ν) E w1) ∨ (z ≠ 0 ∧ (∃ T1 w1, CtA D T n k g0 cap0 ν z T1 w1) ∧ Bck w0 w2 w3 D T T1 n (fun i => i = g0))) := hor; clear hor HWh)
  clear t0
  rcases H3.out with ⟨rfl, E, w4, hWe⟩ | ⟨hz, ⟨T2, w4, hA⟩, hBk⟩
  · obtain ⟨hAd, hog⟩ : Cq D T T1 n ν k (fun q => q < 16652) 16652 ∧ OwnI w4 g0 cap0 (ownN (cvP ν k)) := by
      rcases hWe.a with ⟨_, e⟩ | ⟨e, _⟩
      · exact e
      · omega
    have HE : Hid (CtP D T T1 n x ν k ∧ Gon w0 w w3 D T T1 n (fun _ => False) ∧ Out w0 w3 D T1 (P + 1 + 1 + 1 + 1) ∧ ∃ m, Ext T T1 m) := by
      refine ⟨ctP HS.out.2.1 hAd, ⟨?_, ?_, hWe.gon.dom⟩, ((Out.of HS.out.1 (w1 := w2) (by have := HA.out.2.2.2; omega) H2.out.1.lt).mv hWe.gon.mv).mv (SMv.fr_ hWe.fr), hWe.ext⟩
      · refine (((SMv.on H2.out.2.2.2.1).trans hWe.gon.mv (fun i hi => .inr ?_)).trans (SMv.fr_ hWe.fr) (fun i hi => .inr ?_))
        · have := HA.out.2.2.2; have := H2.out.2.2.2.2; have hi : i = g0 := hi; omega
        · have hi : i = E := hi
          have := hWe.le; have := H2.out.2.2.2.1.size; omega
      · exact hWe.gon.spc.frG hWe.fr (fun i hi => by have hi : i = E := hi; subst hi; exact .inr hWe.out)
    have H4 : Hid (Ab w3 P tt n x (k : Int) ∧ w3.heap[R1]? = some (.cells #[.int .i64 0, .slice (some ⟨g0, 0, none⟩) 12 cap0] 69 (0, 0)) ∧ OwnI w3 g0 cap0 (ownN (cvP ν k))) := by
      obtain ⟨h1, h2, h4, h5, h6, h7, h8⟩ := H2.out
      have hP := HA.out.2.2.2
      have hE := hWe.le
      have hno : ∀ i, P ≤ i → i ≠ g0 → ¬ (T.has i ∨ i = g0) := fun i hi e1 e => by
        rcases e with e | e
        · have := HS.out.1.ses.tx.lt (.inl e); omega
        · exact e1 e
      have hlt := h1.lt
      exact ⟨(h1.fr hWe.gon.mv.fr (fun i e1 e2 => hno i e1 (by omega))).fr hWe.fr (fun i e1 e2 => by show ¬ i = E; omega), hWe.fr.heap (hWe.gon.mv.fr.heap h2 (hno _ (by omega) (by omega))) (by show ¬ R1 = E; omega), hog.fr hWe.fr (by show ¬ g0 = E; omega)⟩
    clear hAd hog hWe
    have HIn : Hid (∀ wx, Below w3.heap.size w3 wx → Calls Tryd.prog 26 #[.agg #[.int .i64 0, .slice (some ⟨g0, 0, none⟩) 12 cap0], .agg #[.int .i64 (x 0), .int .i64 (x 1), .int .i64 (x 2), .int .i64 (x 3), .int .i64 (x 4), .int .i64 (x 5), .int .i64 (x 6), .int .i64 (x 7), .int .i64 (x 8), .int .i64 (x 9), .int .i64 (x 10), .int .i64 (x 11), .int .i64 (x 12), .int .i64 (x 13), .int .i64 (x 14)]] wx fun e w' => e = .returned (inV (withN x (cvP ν k))) ∧ Below wx.heap.size wx w') := fun wx hb => in_any wx x (cvP ν k) g0 cap0 0 (H4.out.2.2.on hb)
    have hr := H4.out.2.1
    have q0 : w3.cell? ⟨R1, 0, none⟩ = some (.int .i64 0) := by rw [cell_of_row _ _ _ _ _ _ hr]; rfl
    have q1 : w3.cell? ⟨R1, 1, none⟩ = some (.slice (some ⟨g0, 0, none⟩) 12 cap0) := by rw [cell_of_row _ _ _ _ _ _ hr]; rfl
    clear hr
    obtain ⟨y, hy⟩ : ∃ y, withN x (cvP ν k) = y := ⟨_, rfl⟩
    have HY : Hid (withN x (cvP ν k) = y) := hy
    rw [hy] at HIn
    unfold inV at HIn
    clear hy
    obtain ⟨x0, x1, x2, x3, x4, x5, x6, x7, x8, x9, x10, x11, x12, x13, x14⟩ := H4.out.1.xc
    have HRs : Hid (∀ wx, Below w3.heap.size w3 wx → wx.heap[P + 1 + 1 + 1 + 1]? = some (.cells #[.int .i64 0, .int .i64 0, .int .i64 0, .int .i64 0, .int .i64 0, .int .i64 0, .int .i64 0, .int .i64 0, .int .i64 0, .int .i64 0, .int .i64 0, .int .i64 0, .int .i64 0, .int .i64 0, .int .i64 0] 35 (0, 0))) := fun wx hb => (H4.out.1.on hb).r
    go_wp2_with (go_at_call 26; refine (HIn.out _ (by repeat (first | exact Below.refl _ _ | apply Below.drew))).mono ?_; rintro e w5 ⟨rfl, hb⟩; have H5 : Hid (Below w3.heap.size w3 w5) := hb; have hrs := HRs.out _ hb; have d0 : w5.cell? ⟨P + 1 + 1 + 1 + 1, 0, none⟩ = some (.int .i64 0) := cell_of_row _ _ 0 _ _ _ hrs; have e0 : w5.frozen? ⟨P + 1 + 1 + 1 + 1, 0, none⟩ = false := frozen_of_row _ _ _ _ _ hrs; have d1 : w5.cell? ⟨P + 1 + 1 + 1 + 1, 1, none⟩ = some (.int .i64 0) := cell_of_row _ _ 1 _ _ _ hrs; have e1 : w5.frozen? ⟨P + 1 + 1 + 1 + 1, 1, none⟩ = false := frozen_of_row _ _ _ _ _ hrs; have d2 : w5.cell? ⟨P + 1 + 1 + 1 + 1, 2, none⟩ = some (.int .i64 0) := cell_of_row _ _ 2 _ _ _ hrs; have e2 : w5.frozen? ⟨P + 1 + 1 + 1 + 1, 2, none⟩ = false := frozen_of_row _ _ _ _ _ hrs; have d3 : w5.cell? ⟨P + 1 + 1 + 1 + 1, 3, none⟩ = some (.int .i64 0) := cell_of_row _ _ 3 _ _ _ hrs; have e3 : w5.frozen? ⟨P + 1 + 1 + 1 + 1, 3, none⟩ = false := frozen_of_row _ _ _ _ _ hrs; have d4 : w5.cell? ⟨P + 1 + 1 + 1 + 1, 4, none⟩ = some (.int .i64 0) := cell_of_row _ _ 4 _ _ _ hrs; have e4 : w5.frozen? ⟨P + 1 + 1 + 1 + 1, 4, none⟩ = false := frozen_of_row _ _ _ _ _ hrs; have d5 : w5.cell? ⟨P + 1 + 1 + 1 + 1, 5, none⟩ = some (.int .i64 0) := cell_of_row _ _ 5 _ _ _ hrs; have e5 : w5.frozen? ⟨P + 1 + 1 + 1 + 1, 5, none⟩ = false := frozen_of_row _ _ _ _ _ hrs; have d6 : w5.cell? ⟨P + 1 + 1 + 1 + 1, 6, none⟩ = some (.int .i64 0) := cell_of_row _ _ 6 _ _ _ hrs; have e6 : w5.frozen? ⟨P + 1 + 1 + 1 + 1, 6, none⟩ = false := frozen_of_row _ _ _ _ _ hrs; have d7 : w5.cell? ⟨P + 1 + 1 + 1 + 1, 7, none⟩ = some (.int .i64 0) := cell_of_row _ _ 7 _ _ _ hrs; have e7 : w5.frozen? ⟨P + 1 + 1 + 1 + 1, 7, none⟩ = false := frozen_of_row _ _ _ _ _ hrs; have d8 : w5.cell? ⟨P + 1 + 1 + 1 + 1, 8, none⟩ = some (.int .i64 0) := cell_of_row _ _ 8 _ _ _ hrs; have e8 : w5.frozen? ⟨P + 1 + 1 + 1 + 1, 8, none⟩ = false := frozen_of_row _ _ _ _ _ hrs; have d9 : w5.cell? ⟨P + 1 + 1 + 1 + 1, 9, none⟩ = some (.int .i64 0) := cell_of_row _ _ 9 _ _ _ hrs; have e9 : w5.frozen? ⟨P + 1 + 1 + 1 + 1, 9, none⟩ = false := frozen_of_row _ _ _ _ _ hrs; have d10 : w5.cell? ⟨P + 1 + 1 + 1 + 1, 10, none⟩ = some (.int .i64 0) := cell_of_row _ _ 10 _ _ _ hrs; have e10 : w5.frozen? ⟨P + 1 + 1 + 1 + 1, 10, none⟩ = false := frozen_of_row _ _ _ _ _ hrs; have d11 : w5.cell? ⟨P + 1 + 1 + 1 + 1, 11, none⟩ = some (.int .i64 0) := cell_of_row _ _ 11 _ _ _ hrs; have e11 : w5.frozen? ⟨P + 1 + 1 + 1 + 1, 11, none⟩ = false := frozen_of_row _ _ _ _ _ hrs; have d12 : w5.cell? ⟨P + 1 + 1 + 1 + 1, 12, none⟩ = some (.int .i64 0) := cell_of_row _ _ 12 _ _ _ hrs; have e12 : w5.frozen? ⟨P + 1 + 1 + 1 + 1, 12, none⟩ = false := frozen_of_row _ _ _ _ _ hrs; have d13 : w5.cell? ⟨P + 1 + 1 + 1 + 1, 13, none⟩ = some (.int .i64 0) := cell_of_row _ _ 13 _ _ _ hrs; have e13 : w5.frozen? ⟨P + 1 + 1 + 1 + 1, 13, none⟩ = false := frozen_of_row _ _ _ _ _ hrs; have d14 : w5.cell? ⟨P + 1 + 1 + 1 + 1, 14, none⟩ = some (.int .i64 0) := cell_of_row _ _ 14 _ _ _ hrs; have e14 : w5.frozen? ⟨P + 1 + 1 + 1 + 1, 14, none⟩ = false := frozen_of_row _ _ _ _ _ hrs; clear hb hrs HIn)
    refine bodyPost_ret (v := .tuple #[.agg #[.int .i64 (y 0), .int .i64 (y 1), .int .i64 (y 2), .int .i64 (y 3), .int .i64 (y 4), .int .i64 (y 5), .int .i64 (y 6), .int .i64 (y 7), .int .i64 (y 8), .int .i64 (y 9), .int .i64 (y 10), .int .i64 (y 11), .int .i64 (y 12), .int .i64 (y 13), .int .i64 (y 14)], .int .i64 0]) (res_row_tmp (fn := Tryd.f18) (p := 8) (u := 9) (ty := 35) rfl _ _ (P + 1 + 1 + 1 + 1) #[.int .i64 (y 0), .int .i64 (y 1), .int .i64 (y 2), .int .i64 (y 3), .int .i64 (y 4), .int .i64 (y 5), .int .i64 (y 6), .int .i64 (y 7), .int .i64 (y 8), .int .i64 (y 9), .int .i64 (y 10), .int .i64 (y 11), .int .i64 (y 12), .int .i64 (y 13), .int .i64 (y 14)] rfl ?_) rfl ?_
    · exact load15 _ (P + 1 + 1 + 1 + 1) (y 0) (y 1) (y 2) (y 3) (y 4) (y 5) (y 6) (y 7) (y 8) (y 9) (y 10) (y 11) (y 12) (y 13) (y 14) (set15 w5 (P + 1 + 1 + 1 + 1) (.int .i64 0) (.int .i64 0) (.int .i64 0) (.int .i64 0) (.int .i64 0) (.int .i64 0) (.int .i64 0) (.int .i64 0) (.int .i64 0) (.int .i64 0) (.int .i64 0) (.int .i64 0) (.int .i64 0) (.int .i64 0) (.int .i64 0) (.int .i64 (y 0)) (.int .i64 (y 1)) (.int .i64 (y 2)) (.int .i64 (y 3)) (.int .i64 (y 4)) (.int .i64 (y 5)) (.int .i64 (y 6)) (.int .i64 (y 7)) (.int .i64 (y 8)) (.int .i64 (y 9)) (.int .i64 (y 10)) (.int .i64 (y 11)) (.int .i64 (y 12)) (.int .i64 (y 13)) (.int .i64 (y 14)) (HRs.out _ H5.out))
    · refine ⟨0, y, T1, rfl, .inl ⟨rfl, HY.out.symm, HE.out.1, HE.out.2.1.box H5.out ?_ (by have := HA.out.2.2.2; omega) HE.out.2.2.1, HE.out.2.2.2⟩⟩
      iterate 15 refine Fr.trans ?_ (Fr.set (g := P + 1 + 1 + 1 + 1)) (fun _ h => .inl h)
      exact Fr.refl _ _
  · have hz60 : z = 60 ∧ NotIn T n ν := by
      rcases hA with ⟨e, _⟩ | e
      · exact absurd e hz
      · exact e
    obtain ⟨rfl, hNI⟩ := hz60
    have H4 : Hid (Ab w3 P tt n x (k : Int) ∧ Out w0 w3 D T1 (P + 1 + 1 + 1 + 1) ∧ NotIn T n ν) := by
      obtain ⟨h1, h2, h4, h5, h6, h7, h8⟩ := H2.out
      have hP := HA.out.2.2.2
      have hno : ∀ i, P ≤ i → i ≠ g0 → ¬ (T.has i ∨ i = g0) := fun i hi e1 e => by
        rcases e with e | e
        · have := HS.out.1.ses.tx.lt (.inl e); omega
        · exact e1 e
      have hlt := h1.lt
      exact ⟨h1.fr hBk.mv.fr (fun i e1 e2 => hno i e1 (by omega)), (Out.of HS.out.1 (w1 := w2) (by omega) h1.lt).mv hBk.mv, hNI⟩
    have HE : Hid (BigE w0 w w3 D T T1 n) := by
      refine ⟨?_, hBk.spc, hBk.c, hBk.us⟩
      have hm : SMv (fun _ => False) w T w3 T1 := (SMv.on H2.out.2.2.2.1).trans hBk.mv (fun i hi => .inr (by have := HA.out.2.2.2; have := H2.out.2.2.2.2; have hi : i = g0 := hi; omega))
      exact ⟨hm.fr.mono (fun i hi => hi.elim id (fun e => e.elim)), hm.al, hm.has, hm.t, hm.d, hm.nb⟩
    have hrs := H4.out.1.r
    have d0 : w3.cell? ⟨P + 1 + 1 + 1 + 1, 0, none⟩ = some (.int .i64 0) := cell_of_row _ _ 0 _ _ _ hrs
    have e0 : w3.frozen? ⟨P + 1 + 1 + 1 + 1, 0, none⟩ = false := frozen_of_row _ _ _ _ _ hrs
    have d1 : w3.cell? ⟨P + 1 + 1 + 1 + 1, 1, none⟩ = some (.int .i64 0) := cell_of_row _ _ 1 _ _ _ hrs
    have e1 : w3.frozen? ⟨P + 1 + 1 + 1 + 1, 1, none⟩ = false := frozen_of_row _ _ _ _ _ hrs
    have d2 : w3.cell? ⟨P + 1 + 1 + 1 + 1, 2, none⟩ = some (.int .i64 0) := cell_of_row _ _ 2 _ _ _ hrs
    have e2 : w3.frozen? ⟨P + 1 + 1 + 1 + 1, 2, none⟩ = false := frozen_of_row _ _ _ _ _ hrs
    have d3 : w3.cell? ⟨P + 1 + 1 + 1 + 1, 3, none⟩ = some (.int .i64 0) := cell_of_row _ _ 3 _ _ _ hrs
    have e3 : w3.frozen? ⟨P + 1 + 1 + 1 + 1, 3, none⟩ = false := frozen_of_row _ _ _ _ _ hrs
    have d4 : w3.cell? ⟨P + 1 + 1 + 1 + 1, 4, none⟩ = some (.int .i64 0) := cell_of_row _ _ 4 _ _ _ hrs
    have e4 : w3.frozen? ⟨P + 1 + 1 + 1 + 1, 4, none⟩ = false := frozen_of_row _ _ _ _ _ hrs
    have d5 : w3.cell? ⟨P + 1 + 1 + 1 + 1, 5, none⟩ = some (.int .i64 0) := cell_of_row _ _ 5 _ _ _ hrs
    have e5 : w3.frozen? ⟨P + 1 + 1 + 1 + 1, 5, none⟩ = false := frozen_of_row _ _ _ _ _ hrs
    have d6 : w3.cell? ⟨P + 1 + 1 + 1 + 1, 6, none⟩ = some (.int .i64 0) := cell_of_row _ _ 6 _ _ _ hrs
    have e6 : w3.frozen? ⟨P + 1 + 1 + 1 + 1, 6, none⟩ = false := frozen_of_row _ _ _ _ _ hrs
    have d7 : w3.cell? ⟨P + 1 + 1 + 1 + 1, 7, none⟩ = some (.int .i64 0) := cell_of_row _ _ 7 _ _ _ hrs
    have e7 : w3.frozen? ⟨P + 1 + 1 + 1 + 1, 7, none⟩ = false := frozen_of_row _ _ _ _ _ hrs
    have d8 : w3.cell? ⟨P + 1 + 1 + 1 + 1, 8, none⟩ = some (.int .i64 0) := cell_of_row _ _ 8 _ _ _ hrs
    have e8 : w3.frozen? ⟨P + 1 + 1 + 1 + 1, 8, none⟩ = false := frozen_of_row _ _ _ _ _ hrs
    have d9 : w3.cell? ⟨P + 1 + 1 + 1 + 1, 9, none⟩ = some (.int .i64 0) := cell_of_row _ _ 9 _ _ _ hrs
    have e9 : w3.frozen? ⟨P + 1 + 1 + 1 + 1, 9, none⟩ = false := frozen_of_row _ _ _ _ _ hrs
    have d10 : w3.cell? ⟨P + 1 + 1 + 1 + 1, 10, none⟩ = some (.int .i64 0) := cell_of_row _ _ 10 _ _ _ hrs
    have e10 : w3.frozen? ⟨P + 1 + 1 + 1 + 1, 10, none⟩ = false := frozen_of_row _ _ _ _ _ hrs
    have d11 : w3.cell? ⟨P + 1 + 1 + 1 + 1, 11, none⟩ = some (.int .i64 0) := cell_of_row _ _ 11 _ _ _ hrs
    have e11 : w3.frozen? ⟨P + 1 + 1 + 1 + 1, 11, none⟩ = false := frozen_of_row _ _ _ _ _ hrs
    have d12 : w3.cell? ⟨P + 1 + 1 + 1 + 1, 12, none⟩ = some (.int .i64 0) := cell_of_row _ _ 12 _ _ _ hrs
    have e12 : w3.frozen? ⟨P + 1 + 1 + 1 + 1, 12, none⟩ = false := frozen_of_row _ _ _ _ _ hrs
    have d13 : w3.cell? ⟨P + 1 + 1 + 1 + 1, 13, none⟩ = some (.int .i64 0) := cell_of_row _ _ 13 _ _ _ hrs
    have e13 : w3.frozen? ⟨P + 1 + 1 + 1 + 1, 13, none⟩ = false := frozen_of_row _ _ _ _ _ hrs
    have d14 : w3.cell? ⟨P + 1 + 1 + 1 + 1, 14, none⟩ = some (.int .i64 0) := cell_of_row _ _ 14 _ _ _ hrs
    have e14 : w3.frozen? ⟨P + 1 + 1 + 1 + 1, 14, none⟩ = false := frozen_of_row _ _ _ _ _ hrs
    clear hA hBk hrs hz H3 hNI
    go_wp2
    refine bodyPost_ret (v := .tuple #[.agg #[.int .i64 0, .int .i64 0, .int .i64 0, .int .i64 0, .int .i64 0, .int .i64 0, .int .i64 0, .int .i64 0, .int .i64 0, .int .i64 0, .int .i64 0, .int .i64 0, .int .i64 0, .int .i64 0, .int .i64 0], .int .i64 60]) (res_row_tmp (fn := Tryd.f18) (p := 8) (u := 9) (ty := 35) rfl _ _ (P + 1 + 1 + 1 + 1) #[.int .i64 0, .int .i64 0, .int .i64 0, .int .i64 0, .int .i64 0, .int .i64 0, .int .i64 0, .int .i64 0, .int .i64 0, .int .i64 0, .int .i64 0, .int .i64 0, .int .i64 0, .int .i64 0, .int .i64 0] rfl ?_) rfl ?_
    · exact load15 _ (P + 1 + 1 + 1 + 1) 0 0 0 0 0 0 0 0 0 0 0 0 0 0 0 (set15 w3 (P + 1 + 1 + 1 + 1) (.int .i64 0) (.int .i64 0) (.int .i64 0) (.int .i64 0) (.int .i64 0) (.int .i64 0) (.int .i64 0) (.int .i64 0) (.int .i64 0) (.int .i64 0) (.int .i64 0) (.int .i64 0) (.int .i64 0) (.int .i64 0) (.int .i64 0) (.int .i64 0) (.int .i64 0) (.int .i64 0) (.int .i64 0) (.int .i64 0) (.int .i64 0) (.int .i64 0) (.int .i64 0) (.int .i64 0) (.int .i64 0) (.int .i64 0) (.int .i64 0) (.int .i64 0) (.int .i64 0) (.int .i64 0) H4.out.1.r)
    · refine ⟨60, (fun _ => 0), T1, rfl, .inr ⟨rfl, rfl, H4.out.2.2, HE.out.box ?_ (by have := HA.out.2.2.2; omega) H4.out.2.1⟩⟩
      iterate 15 refine Fr.trans ?_ (Fr.set (g := P + 1 + 1 + 1 + 1)) (fun _ h => .inl h)
      exact Fr.refl _ _
end Go.Proofs.YtgmccpimpbnnpaaDoor
