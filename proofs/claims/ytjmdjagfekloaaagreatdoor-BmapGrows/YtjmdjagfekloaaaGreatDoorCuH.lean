import Derived.Test.YtjmdjagfekloaaaGreatDoorKCvM
namespace Go.Proofs.YtjmdjagfekloaaaGreatDoor
open Go.RowKit Go.Maps Rec

theorem sub11 {i q : Nat} (hi : i < 128) : subP (kid 11 i) q ↔ q = 140 + i ∨ (268 + 128 * i ≤ q ∧ q < 268 + 128 * i + 128) := by
  have e1 := (kid11 i hi).1
  have e2 : ∀ j, kid (140 + i) j = 268 + 128 * i + j := fun j => by unfold kid; rw [if_neg (by omega), if_neg (by omega)]; omega
  unfold subP
  rw [e1]
  constructor
  · rintro (e | ⟨j, hj, e⟩)
    · exact .inl e
    · rw [e2] at e; exact .inr (by omega)
  · rintro (e | e)
    · exact .inl e
    · exact .inr ⟨q - (268 + 128 * i), by omega, by rw [e2]; omega⟩
theorem sub10 {q : Nat} : subP 10 q ↔ q = 10 ∨ (12 ≤ q ∧ q < 140) := by
  have e2 : ∀ j, kid 10 j = 12 + j := fun j => by unfold kid; rw [if_pos rfl]
  unfold subP
  constructor
  · rintro (e | ⟨j, hj, e⟩)
    · exact .inl e
    · rw [e2] at e; exact .inr (by omega)
  · rintro (e | e)
    · exact .inl e
    · exact .inr ⟨q - 12, by omega, by rw [e2]; omega⟩
/-- below a number that is passed over nothing is cut -/
theorem sub_none {w0 : World} {D : Dk} {T0 : Tx} {n : Nat} {x : Nat → Int} {ν : Nat → Nat} {k p q : Nat} (hk : Ck w0 D T0 n x ν k) (hp : isT1 p) (ha : acP ν k p = false) (h : subP p q) : gone ν k q = false ∧ ¬ modP ν k q := by
  have hole : ∀ i, i < 128 → ν p = 0 → ν (kid p i) = 0 := fun i hi e => by
    obtain ⟨k1, k2, k3, k4⟩ := kid_par (.inr hp) hi
    exact hk.wd.tre.hole _ k1 k2 (by rw [k3]; exact e)
  have hg : ∀ i, i < 128 → gone ν k (kid p i) = false := fun i hi => by
    cases e : gone ν k (kid p i)
    · rfl
    · have := ac_kid (.inr hp) hi (hole i hi) (gone_ac e)
      rw [ha] at this
      cases this
  rcases h with rfl | ⟨i, hi, rfl⟩
  · refine ⟨?_, fun m => ?_⟩
    · cases e : gone ν k q
      · rfl
      · have := gone_ac e; rw [ha] at this; cases this
    · obtain ⟨i, hi, e⟩ := m.2.2.2
      rw [hg i hi] at e
      cases e
  · exact ⟨hg i hi, fun m => m.1.elim (kid_leaf hp hi).1 (kid_leaf hp hi).2.1⟩
theorem cv_bd {w0 : World} {D : Dk} {T0 : Tx} {n : Nat} {x : Nat → Int} {ν : Nat → Nat} {k p : Nat} (hk : Ck w0 D T0 n x ν k) : cvP ν k p ≤ 16384 := by
  unfold cvP
  split
  · omega
  · by_cases e : ν p = 0
    · omega
    · have := (hk.wd.own.good _ e).2.1; have := hk.hi; omega
theorem cn_t2 (w0 w : World) (D : Dk) (T0 T : Tx) (n : Nat) (x : Nat → Int) (ν : Nat → Nat) (k u tt a0 : Nat) (Pr : Nat → Prop) (hk : Ck w0 D T0 n x ν k) (h : Spc w0 w D T n) (htt : T.t = tt) (c : Cq D T0 T n ν k Pr u) (hu : u ≤ 1000) (hp : ∀ q, Pr q → q < 11 ∨ (12 ≤ q ∧ q < 140)) (ha : acP ν k 11 = true) (Pr' : Nat → Prop) (hPr : ∀ q, Pr' q ↔ Pr q ∨ q = 11 ∨ (140 ≤ q ∧ q < 16652)) :
    Calls Tryz.prog 95 #[.pointer (some ⟨tt, 0, none⟩), geoV n, stV a0 138 16384, .int .i64 (ν 11 : Int), .int .i64 (k : Int)] w (CnE w0 w D T n (gone ν k 11) (fun T' => Cq D T0 T' n ν k Pr' (u + 16513)) (NotIn T0 n ν)) := by
  have h0 : ν 11 ≠ 0 := by unfold acP at ha; simp at ha; exact ha.1
  have hpp : ¬ Pr 11 := fun e => by rcases hp 11 e with e | e <;> omega
  obtain ⟨b1, b2, b3⟩ := hk.bit c hpp h0
  have hus := c.us
  have hus0 := hk.us
  have hac : actB (fun i => ν (kid 11 i)) (fun i => 138 + i * (16384 / 128)) (fun _ => 16384 / 128) k = fun i => decide (ν (kid 11 i) ≠ 0) && decide (k < 138 + i * 128 + 128) := rfl
  have hacP : ∀ i, i < 128 → (decide (ν (kid 11 i) ≠ 0) && decide (k < 138 + i * 128 + 128)) = acP ν k (kid 11 i) := fun i hi => by
    obtain ⟨_, _, _, e4, e5⟩ := kid11 i hi
    rw [acP, e4, e5]
  have hrowN : ∀ i, i < 128 → nth (rowC 128 (fun i => ν (kid 11 i)) (fun i => decide (ν (kid 11 i) ≠ 0) && decide (k < 138 + i * 128 + 128)) (fun i => gone ν k (kid 11 i)) 128) i = (cvP ν k (kid 11 i) : Int) := fun i hi => by
    rw [nth_rowC _ _ _ _ _ _ hi]
    exact cv_row (ν := ν) (k := k) (p := kid 11 i) (i := i) (ac := fun i => decide (ν (kid 11 i) ≠ 0) && decide (k < 138 + i * 128 + 128)) (gn := fun i => gone ν k (kid 11 i)) (by show ((decide (ν (kid 11 i) ≠ 0) && decide (k < 138 + i * 128 + 128)) = true ∧ gone ν k (kid 11 i) = true) ↔ _; rw [hacP i hi]; exact ⟨fun e => e.2, fun e => ⟨gone_ac e, e⟩⟩) hi
  have hgp : gone ν k 11 = all128 (fun i => cvP ν k (kid 11 i)) := by rw [gone_t2, ha, Bool.true_and]
  have hno : ∀ j, j ≤ 128 → ¬ (Pr 11 ∨ ∃ i, i < j ∧ subP (kid 11 i) 11) := fun j hj e => e.elim hpp (fun ⟨i, hi, e⟩ => by rw [sub11 (by omega)] at e; omega)
  have hfin : ∀ q, Pr' q ↔ (Pr q ∨ ∃ i, i < 128 ∧ subP (kid 11 i) q) ∨ q = 11 := fun q => by
    rw [hPr]
    constructor
    · rintro (e | e | e)
      · exact .inl (.inl e)
      · exact .inr e
      · refine .inl (.inr ?_)
        by_cases e2 : q < 268
        · exact ⟨q - 140, by omega, (sub11 (by omega)).2 (.inl (by omega))⟩
        · exact ⟨(q - 268) / 128, by omega, (sub11 (by omega)).2 (.inr (by omega))⟩
    · rintro ((e | ⟨i, hi, e⟩) | e)
      · exact .inl e
      · rw [sub11 hi] at e
        exact .inr (.inr (by omega))
      · exact .inr (.inl e)
  refine cn_tab w0 w D T n h hk.tab tt a0 138 16384 (ν 11) k htt (by omega) (by omega) (by omega) hk.k b2 b3 (fun i => ν (kid 11 i)) (fun i hi => ?_) (fun i => gone ν k (kid 11 i)) (fun j T1 => Cq D T0 T1 n ν k (fun q => Pr q ∨ ∃ i, i < j ∧ subP (kid 11 i) q) (u + 129 * j)) (NotIn T0 n ν) (fun T1 c1 e => c1.no h0 b3 e) ?_ (fun j T' hj hb cj => ?_) (fun j hj hb wx Tx_ hs ht cj => ?_) _ hac (fun T' => Cq D T0 T' n ν k Pr' (u + 16513)) (gone ν k 11) ?_ (fun T1 c1 => ?_) (fun w1 w2 T1 T2 c1 he g => ?_) (fun T1 T2 c1 he hch hc hl => ?_) (fun T1 c1 he hch => ?_)
  · have hN := nM_bd hk.lo hk.hi
    rw [c.tvN (ν 11) (by omega) (fun q hq hm e => hpp (by rw [← hk.wd.own.inj q 11 hm.2.1 e]; exact hq))]
    obtain ⟨k1, k2, k3, k4⟩ := kid_par (.inl rfl) hi
    have := hk.wd.tre.tab (kid 11 i) k1 k2 (by rw [k3]; exact h0)
    rw [k3, k4] at this
    exact this
  · exact c.add (by omega) (fun q e => .inl e) (fun q e => e.elim .inl (fun ⟨i, hi, _⟩ => by omega))
  · rw [hac] at hb
    have hb2 : acP ν k (kid 11 j) = false := by rw [← hacP j hj]; exact hb
    refine cj.add (by omega) (fun q e => e.imp id (fun ⟨i, hi, e⟩ => ⟨i, by omega, e⟩)) (fun q e => ?_)
    rcases e with e | ⟨i, hi, e⟩
    · exact .inl (.inl e)
    · by_cases e2 : i = j
      · subst e2
        exact .inr (sub_none hk (kid11 i hj).2.1 hb2 e)
      · exact .inl (.inr ⟨i, by omega, e⟩)
  · rw [hac] at hb
    have ha2 : acP ν k (kid 11 j) = true := by rw [← hacP j hj]; exact hb
    have hnp : ∀ q, subP (kid 11 j) q → ¬ (Pr q ∨ ∃ i, i < j ∧ subP (kid 11 i) q) := fun q hq e => by
      rw [sub11 hj] at hq
      rcases e with e | ⟨i, hi, e⟩
      · rcases hp q e with e | e <;> omega
      · rw [sub11 (by omega)] at e; omega
    have h0k : ν (kid 11 j) ≠ 0 := by unfold acP at ha2; simp at ha2; exact ha2.1
    obtain ⟨d1, d2, d3⟩ := hk.bit cj (hnp _ (.inl rfl)) h0k
    refine ⟨⟨d2, d3⟩, ?_⟩
    have := cn_t1 w0 wx D T0 Tx_ n x ν k (u + 129 * j) tt j (kid 11 j) _ hk hs ht cj (by omega) (kid11 j hj).2.1 hnp ha2 (fun q => Pr q ∨ ∃ i, i < j + 1 ∧ subP (kid 11 i) q) (fun q => ?_)
    · have e1 : fiP (kid 11 j) = 138 + j * (16384 / 128) := (kid11 j hj).2.2.2.2
      rw [e1] at this
      exact this
    · constructor
      · rintro (e | ⟨i, hi, e⟩)
        · exact .inl (.inl e)
        · by_cases e2 : i = j
          · subst e2; exact .inr e
          · exact .inl (.inr ⟨i, by omega, e⟩)
      · rintro ((e | ⟨i, hi, e⟩) | e)
        · exact .inl e
        · exact .inr ⟨i, by omega, e⟩
        · exact .inr ⟨j, by omega, e⟩
  · rw [hgp]; exact any_row hrowN
  · have := c1.us
    exact ⟨(hk.bit c1 (p := 11) (hno 128 (Nat.le_refl _)) h0).1, by omega⟩
  · exact c1.give hk he g (by rw [g.u]; omega) hfin
  · obtain ⟨i, hi, hi2, hi3⟩ := chC_iff.1 hch
    have hm : modP ν k 11 := ⟨.inl rfl, h0, he, i, hi, hi3⟩
    refine c1.put hk (hno 128 (Nat.le_refl _)) hm hc (by omega) (fun i => ?_) hrowN hfin
    by_cases hi : i < 128
    · rw [hrowN i hi]
      have := cv_bd (p := kid 11 i) hk
      omega
    · rw [nth_out _ _ (by rw [rowC_length]; omega)]; omega
  · refine c1.add (by omega) (fun q e => (hfin q).2 (.inl e)) (fun q e => ?_)
    rcases (hfin q).1 e with e | e
    · exact .inl e
    · subst e
      refine .inr ⟨he, fun m => ?_⟩
      obtain ⟨i, hi, hg⟩ := m.2.2.2
      have : chC (fun i => decide (ν (kid 11 i) ≠ 0) && decide (k < 138 + i * 128 + 128)) (fun i => gone ν k (kid 11 i)) 128 = true := chC_iff.2 ⟨i, hi, by show (decide (ν (kid 11 i) ≠ 0) && decide (k < 138 + i * 128 + 128)) = true; rw [hacP i hi]; exact gone_ac hg, hg⟩
      rw [this] at hch
      cases hch
/-- the own number above a position -/
def topP (q : Nat) : Nat := if q < 12 then q else if q < 140 then 10 else 11
def uoP (j : Nat) : Nat := if j ≤ 10 then j else if j = 11 then 139 else 16652
theorem own_fi {p : Nat} (hp : p < 12) : fiP p = oF p ∧ szP p = oS p := by
  unfold fiP szP oF oS
  refine ⟨?_, ?_⟩ <;> (repeat' split) <;> omega
theorem cutOwn (w0 w : World) (D : Dk) (T : Tx) (n : Nat) (x : Nat → Int) (ν : Nat → Nat) (k tt tb g cap : Nat) (hk : Ck w0 D T n x ν k) (h : Spc w0 w D T n) (htt : T.t = tt) (ho : OwnI w g cap (ownN ν)) (hO : Out w0 w D T g) :
    Calls Tryz.prog 56 #[.pointer (some ⟨tt, 0, none⟩), geoV n, .agg #[.int .i64 (tb : Int), .slice (some ⟨g, 0, none⟩) 12 cap], .func (.func 54) #[] #[], .int .i64 (k : Int)] w fun e w' => ∃ (b : Bool) (z : Nat) (T' : Tx), e = .returned (.tuple #[.bool b, .int .i64 (z : Int)]) ∧ Gon w0 w w' D T T' n (fun i => i = g) ∧ (∃ m, Ext T T' m) ∧ ((z = 0 ∧ Cq D T T' n ν k (fun q => q < 16652) 16652 ∧ OwnI w' g cap (ownN (cvP ν k))) ∨ (z = 60 ∧ NotIn T n ν)) := by
  have hacP : ∀ j, j < 12 → actB ν oF oS k j = acP ν k j := fun j hj => by rw [actB, acP, (own_fi hj).1, (own_fi hj).2]
  have hrow0 : rowC 12 ν (actB ν oF oS k) (gone ν k) 0 = ownN ν := by
    refine ext_nth (by rw [rowC_length, ownN_length]) (fun i hi => ?_)
    rw [rowC_length] at hi
    rw [nth_rowC _ _ _ _ _ _ hi, nth_ownN _ _ hi, if_neg (by omega)]
  have hrow1 : rowC 12 ν (actB ν oF oS k) (gone ν k) 12 = ownN (cvP ν k) := by
    refine ext_nth (by rw [rowC_length, ownN_length]) (fun i hi => ?_)
    rw [rowC_length] at hi
    rw [nth_rowC _ _ _ _ _ _ hi, nth_ownN _ _ hi, hacP i hi]
    unfold cvP
    by_cases e : gone ν k i = true
    · rw [if_pos ⟨hi, gone_ac e, e⟩, if_pos e]; rfl
    · rw [if_neg (fun e2 => e e2.2.2), if_neg e]
  have hiff : ∀ j q, j < 12 → ((q < 16652 ∧ topP q < j + 1) ↔ ((q < 16652 ∧ topP q < j) ∨ (q < 16652 ∧ topP q = j))) := fun j q hj => by
    constructor
    · rintro ⟨e1, e2⟩
      by_cases e : topP q = j
      · exact .inr ⟨e1, e⟩
      · exact .inl ⟨e1, by omega⟩
    · rintro (⟨e1, e2⟩ | ⟨e1, e2⟩) <;> exact ⟨e1, by omega⟩
  have hleaf : ∀ j q, j < 10 → ((q < 16652 ∧ topP q = j) ↔ q = j) := fun j q hj => by
    unfold topP
    constructor
    · rintro ⟨e1, e2⟩
      repeat' split at e2
      all_goals omega
    · rintro rfl
      exact ⟨by omega, by rw [if_pos (by omega)]⟩
  have hten : ∀ q, (q < 16652 ∧ topP q = 10) ↔ subP 10 q := fun q => by
    rw [sub10]
    unfold topP
    constructor
    · rintro ⟨e1, e2⟩
      repeat' split at e2
      all_goals omega
    · rintro (rfl | e)
      · exact ⟨by omega, rfl⟩
      · exact ⟨by omega, by rw [if_neg (by omega), if_pos (by omega)]⟩
  have helv : ∀ q, (q < 16652 ∧ topP q = 11) ↔ (q = 11 ∨ (140 ≤ q ∧ q < 16652)) := fun q => by
    unfold topP
    constructor
    · rintro ⟨e1, e2⟩
      repeat' split at e2
      all_goals omega
    · rintro (rfl | e)
      · exact ⟨by omega, rfl⟩
      · exact ⟨by omega, by rw [if_neg (by omega), if_neg (by omega)]⟩
  have hne10 : ∀ j, j < 10 → ¬ j = 11 ∧ ¬ isT1 j := fun j hj => ⟨by omega, fun e => by rcases e with e | e <;> omega⟩
  have hzero : Cq D T T n ν k (fun q => q < 16652 ∧ topP q < 0) (uoP 0) := Cq.zero (fun p e => by omega) h.bm
  have hnone : ∀ j q, j < 12 → acP ν k j = false → (q < 16652 ∧ topP q = j) → gone ν k q = false ∧ ¬ modP ν k q := fun j q hj ha hq => by
    by_cases e : j < 10
    · rw [hleaf j q e] at hq
      subst hq
      exact ⟨by rw [gone_leaf (hne10 q e).1 (hne10 q e).2]; exact ha, fun m => m.1.elim (hne10 q e).1 (hne10 q e).2⟩
    · by_cases e2 : j = 10
      · subst e2
        rw [hten] at hq
        exact sub_none hk (.inl rfl) ha hq
      · have e3 : j = 11 := by omega
        subst e3
        rw [helv] at hq
        have hac : ∀ i, i < 128 → acP ν k (kid 11 i) = false := fun i hi => by
          cases e : acP ν k (kid 11 i)
          · rfl
          · obtain ⟨k1, k2, k3, k4⟩ := kid_par (p := 11) (.inl rfl) hi
            have := ac_kid (.inl rfl) hi (fun e => hk.wd.tre.hole _ k1 k2 (by rw [k3]; exact e)) e
            rw [ha] at this
            cases this
        rcases hq with rfl | hq
        · refine ⟨?_, fun m => ?_⟩
          · cases e : gone ν k 11
            · rfl
            · have := gone_ac e; rw [ha] at this; cases this
          · obtain ⟨i, hi, e⟩ := m.2.2.2
            have := gone_ac e
            rw [hac i hi] at this
            cases this
        · by_cases e4 : q < 268
          · exact sub_none hk (kid11 (q - 140) (by omega)).2.1 (hac _ (by omega)) ((sub11 (by omega)).2 (.inl (by omega)))
          · exact sub_none hk (kid11 ((q - 268) / 128) (by omega)).2.1 (hac _ (by omega)) ((sub11 (by omega)).2 (.inr (by omega)))
  have huo : ∀ j, j < 12 → uoP j ≤ uoP (j + 1) := fun j hj => by unfold uoP; repeat' split
                                                                 all_goals omega
  refine (cutRow_own w0 w D T n h tt k tb g 12 cap htt hk.k (by omega) ν (gone ν k) (fun j T1 => Cq D T T1 n ν k (fun q => q < 16652 ∧ topP q < j) (uoP j)) (NotIn T n ν) hO (by rw [hrow0]; exact ho) hzero (fun j T' hj hb cj => ?_) (fun j hj hb wx Tx_ hs ht cj => ?_)).mono ?_
  · rw [hacP j hj] at hb
    exact cj.add (huo j hj) (fun q e => ⟨e.1, by omega⟩) (fun q e => ((hiff j q hj).1 e).imp id (fun e => hnone j q hj hb e))
  · rw [hacP j hj] at hb
    have h0k : ν j ≠ 0 := by unfold acP at hb; simp at hb; exact hb.1
    have htop : topP j = j := by unfold topP; rw [if_pos hj]
    obtain ⟨d1, d2, d3⟩ := hk.bit cj (p := j) (fun e => by omega) h0k
    refine ⟨⟨d2, d3⟩, ?_⟩
    rw [← (own_fi hj).1, ← (own_fi hj).2]
    by_cases e : j < 10
    · have hg : gone ν k j = true := by rw [gone_leaf (hne10 j e).1 (hne10 j e).2]; exact hb
      have h1 := cn_leafq w0 wx D T Tx_ n x ν k (uoP j) tt j j _ hk hs ht cj (by unfold uoP; rw [if_pos (by omega)]; omega) (hne10 j e).1 (hne10 j e).2 (fun e => by omega) hb (fun q => q < 16652 ∧ topP q < j + 1) (fun q => by rw [hiff j q hj, hleaf j q e])
      have e1 : uoP j + 1 = uoP (j + 1) := by unfold uoP; rw [if_pos (by omega), if_pos (by omega)]
      have e2 : szP j = 1 := by unfold szP; rw [if_neg (by omega), if_neg (by omega), if_neg (by omega)]
      rw [e1] at h1
      rw [e2, hg]
      exact h1
    · by_cases e2 : j = 10
      · subst e2
        exact cn_t1 w0 wx D T Tx_ n x ν k 10 tt 10 10 _ hk hs ht cj (by omega) (.inl rfl) (fun q hq e => by rw [← hten] at hq; omega) hb (fun q => q < 16652 ∧ topP q < 10 + 1) (fun q => by rw [hiff 10 q (by omega), hten q])
      · have e3 : j = 11 := by omega
        subst e3
        exact cn_t2 w0 wx D T Tx_ n x ν k 139 tt 11 _ hk hs ht cj (by omega) (fun q hq => by
          obtain ⟨q1, q2⟩ := hq
          unfold topP at q2
          repeat' split at q2
          all_goals omega) hb (fun q => q < 16652 ∧ topP q < 11 + 1) (fun q => by rw [hiff 11 q (by omega), helv q])
  · rintro e w' ⟨b, z, T', rfl, h1, h2, h3⟩
    refine ⟨b, z, T', rfl, h1, h2, h3.imp (fun ⟨e1, e2, e3, _⟩ => ⟨e1, ?_, by rw [← hrow1]; exact e3⟩) id⟩
    refine e2.add (by unfold uoP; rw [if_neg (by omega), if_neg (by omega)]; omega) (fun q e => e.1) (fun q e => .inl ⟨e, ?_⟩)
    unfold topP
    repeat' split
    all_goals omega
end Go.Proofs.YtjmdjagfekloaaaGreatDoor
