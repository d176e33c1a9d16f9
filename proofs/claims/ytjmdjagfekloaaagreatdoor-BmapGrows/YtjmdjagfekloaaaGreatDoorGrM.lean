import Derived.Test.YtjmdjagfekloaaaGreatDoorLwM
namespace Go.Proofs.YtjmdjagfekloaaaGreatDoor
open Rec

theorem fi_ix {j : Nat} (hj : j < 16522) : fiP (ixP j) = j ∧ szP (ixP j) = 1 := by
  unfold ixP
  split
  · unfold fiP szP
    rw [if_pos (by omega), if_neg (by omega), if_neg (by omega), if_neg (by omega)]
    exact ⟨rfl, rfl⟩
  · split
    · unfold fiP szP
      rw [if_neg (by omega), if_neg (by omega), if_pos (by omega), if_neg (by omega), if_neg (by omega), if_neg (by omega)]
      exact ⟨by omega, rfl⟩
    · unfold fiP szP
      rw [if_neg (by omega), if_neg (by omega), if_neg (by omega), if_neg (by omega), if_neg (by omega), if_neg (by omega), if_neg (by omega)]
      exact ⟨by omega, rfl⟩
theorem cv_nz {ν : Nat → Nat} {k p : Nat} : cvP ν k p ≠ 0 ↔ ν p ≠ 0 ∧ gone ν k p = false := by
  unfold cvP
  cases h : gone ν k p
  · simp
  · simp
/-- what a cut leaves of the indices -/
theorem cv_ix {ν : Nat → Nat} {k j : Nat} (hj : j < 16522) : cvP ν k (ixP j) ≠ 0 ↔ ν (ixP j) ≠ 0 ∧ j < k := by
  have ht := (ixP_lt hj).2
  unfold isTb at ht
  rw [cv_nz, gone_leaf (fun e => ht (.inl e)) (fun e => ht (.inr e))]
  unfold acP
  rw [(fi_ix hj).1, (fi_ix hj).2]
  constructor
  · rintro ⟨h1, h2⟩
    refine ⟨h1, ?_⟩
    rw [decide_eq_true h1] at h2
    simp at h2
    omega
  · rintro ⟨h1, h2⟩
    refine ⟨h1, ?_⟩
    rw [decide_eq_true h1]
    simp
    omega
theorem kid_in {p i : Nat} (hp : isTb p) (hi : i < 128) : fiP (kid p i) + szP (kid p i) ≤ fiP p + szP p := by
  rcases hp with rfl | hp
  · have h := kid11 i hi
    rw [h.2.2.2.1, h.2.2.2.2]
    have e1 : fiP 11 = 138 := rfl
    have e2 : szP 11 = 16384 := rfl
    rw [e1, e2]
    omega
  · have h := kid_leaf hp hi
    rw [h.2.2.1, h.2.2.2.1, h.2.2.2.2.1]
    omega
theorem Shp.cut {ν : Nat → Nat} (h : Shp ν) (k : Nat) : Shp (cvP ν k) := by
  have gt : ∀ p, isTb p → gone ν k p = (acP ν k p && all128 (fun i => cvP ν k (kid p i))) := fun p hp => by
    rcases hp with rfl | hp
    · exact gone_t2
    · exact gone_t1 hp
  have z0 : ∀ p, ν p = 0 → cvP ν k p = 0 := fun p e => by unfold cvP; split; rfl; exact e
  refine ⟨fun p h1 h2 h3 => ?_, fun p h1 => z0 p (h.out p h1), fun p h1 h2 => ?_⟩
  · by_cases e : ν (par p) = 0
    · exact z0 p (h.hole p h1 h2 e)
    · obtain ⟨q1, q2, q3⟩ := par_kid h1 h2
      have hg : gone ν k (par p) = true := by
        cases hg : gone ν k (par p)
        · exact absurd h3 (cv_nz.2 ⟨e, hg⟩)
        · rfl
      rw [gt _ q1, Bool.and_eq_true] at hg
      have := all128_iff.1 hg.2 (pla p) q3
      rw [q2] at this
      exact this
  · obtain ⟨h3, h4⟩ := cv_nz.1 h2
    rw [gt p h1] at h4
    cases ha : acP ν k p
    · obtain ⟨i, i1, i2⟩ := h.tight p h1 h3
      refine ⟨i, i1, cv_nz.2 ⟨i2, ?_⟩⟩
      cases hg : gone ν k (kid p i)
      · rfl
      · have := gone_ac hg
        unfold acP at this ha
        rw [decide_eq_true h3] at ha
        rw [decide_eq_true i2] at this
        simp at this ha
        have := kid_in h1 i1
        omega
    · rw [ha, Bool.true_and] at h4
      apply Classical.byContradiction
      intro hn
      have : all128 (fun i => cvP ν k (kid p i)) = true := all128_iff.2 (fun i hi => by
        by_cases e : cvP ν k (kid p i) = 0
        · exact e
        · exact absurd ⟨i, hi, e⟩ hn)
      rw [this] at h4
      cases h4
/-- nothing is left of a tree that is cut to nothing -/
theorem Shp.cut0 {ν : Nat → Nat} (h : Shp ν) : cvP ν 0 = fun _ => 0 := by
  funext p
  have hs := h.cut 0
  by_cases hp : p < 16652
  · apply Classical.byContradiction
    intro hn
    rcases pos_or hp with ht | ⟨k, k1, rfl⟩
    · obtain ⟨k, t, k1, k2, _, _⟩ := hs.below ht hn
      have := ((cv_ix k1).1 k2).2
      omega
    · have := ((cv_ix k1).1 hn).2
      omega
  · exact hs.out p (by omega)
theorem ct_len (f : Nat → Bool) (n : Nat) : ct f n = ((List.range n).filter f).length := by
  induction n with
  | zero => rfl
  | succ n ih =>
    rw [ct, List.range_succ, List.filter_append, List.length_append, ih]
    cases h : f n <;> simp [h]
/-- what a cut gives back -/
theorem cut_count {ν : Nat → Nat} {F F' : Nat → Bool} {lo n k : Nat} (hs : Shp ν) (ho : Own1 F lo n ν) (hF : ∀ b, F' b = true ↔ (F b = true ∨ ∃ p, gone ν k p = true ∧ ν p = b)) : ct F' n + siz (cvP ν k) = ct F n + siz ν := by
  obtain ⟨gl, hgl⟩ : ∃ gl, (List.range 16652).filter (fun p => gone ν k p) = gl := ⟨_, rfl⟩
  have gm : ∀ p, p ∈ gl ↔ gone ν k p = true := fun p => by
    rw [← hgl, List.mem_filter, List.mem_range]
    constructor
    · exact fun e => e.2
    · intro e
      refine ⟨?_, e⟩
      apply Classical.byContradiction
      intro hp
      exact gone_nz e (hs.out p (by omega))
  have gn : gl.Nodup := by rw [← hgl]; exact nodup_fil _ _
  have h1 : siz ν = siz (cvP ν k) + gl.length := by
    have := siz_eq (ν := ν) (L := ((List.range 16652).filter fun p => decide (cvP ν k p ≠ 0)) ++ gl) ?_ ?_
    · rw [← this, List.length_append]; rfl
    · refine List.nodup_append.2 ⟨nodup_fil _ _, gn, fun a ha b hb e => ?_⟩
      subst e
      have h1 := (List.mem_filter.1 ha).2
      have h2 := (gm a).1 hb
      have h1 : cvP ν k a ≠ 0 := of_decide_eq_true h1
      have := (cv_nz.1 h1).2
      rw [h2] at this
      cases this
    · intro p
      rw [List.mem_append, List.mem_filter, List.mem_range, gm, decide_eq_true_eq]
      constructor
      · rintro (⟨h1, h2⟩ | h1)
        · exact ⟨h1, (cv_nz.1 h2).1⟩
        · refine ⟨?_, gone_nz h1⟩
          apply Classical.byContradiction
          intro hp
          exact gone_nz h1 (hs.out p (by omega))
      · rintro ⟨h1, h2⟩
        cases hg : gone ν k p
        · exact .inl ⟨h1, cv_nz.2 ⟨h2, hg⟩⟩
        · exact .inr rfl
  have h2 : ct F' n = ct F n + gl.length := by
    have e : gl.length = (gl.map ν).length := by simp
    rw [ct_len, ct_len, e, ← List.length_append]
    refine same_len (nodup_fil _ _) (List.nodup_append.2 ⟨nodup_fil _ _, nodup_mapOn gn (fun p q hp hq e => ho.inj p q (gone_nz ((gm p).1 hp)) e), fun a ha b hb e => ?_⟩) (fun b => ?_)
    · subst e
      obtain ⟨p, p1, rfl⟩ := List.mem_map.1 hb
      have := (ho.good p (gone_nz ((gm p).1 p1))).2.2
      rw [(List.mem_filter.1 ha).2] at this
      cases this
    · rw [List.mem_append, List.mem_filter, List.mem_filter, List.mem_range, List.mem_map, hF]
      constructor
      · rintro ⟨b1, b2 | ⟨p, p1, p2⟩⟩
        · exact .inl ⟨b1, b2⟩
        · exact .inr ⟨p, (gm p).2 p1, p2⟩
      · rintro (⟨b1, b2⟩ | ⟨p, p1, rfl⟩)
        · exact ⟨b1, .inl b2⟩
        · exact ⟨(ho.good p (gone_nz ((gm p).1 p1))).2.1, .inr ⟨p, (gm p).1 p1, rfl⟩⟩
  omega
/-- what an index more takes -/
theorem add_count {ν ν' : Nat → Nat} {F F' : Nat → Bool} {k n : Nat} (hk : k < 16522) (hs : Shp ν) (h : Tks ν F (wayP k) ν' F') (h0 : F 0 = false) (hF : ∀ b, F b = true → b < n) : Shp ν' ∧ ct F' n + siz ν' = ct F n + siz ν ∧ (∀ j, j < 16522 → (ν' (ixP j) ≠ 0 ↔ j = k ∨ ν (ixP j) ≠ 0)) ∧ (ν (ixP k) ≠ 0 → ν' = ν ∧ ∀ q, q ∈ wayP k → ν q ≠ 0) := by
  have nz : ∀ p, filW ν k p ≠ 0 ↔ ν' p ≠ 0 := fun p => by rw [filW_nz, h.nz h0]
  refine ⟨(hs.fil hk).cong nz, ?_, fun j hj => by rw [← nz, fil_keys hk hj], fun e => ⟨(h.same (hs.way hk e)).1, hs.way hk e⟩⟩
  have h1 := h.zeros (n := n) (way_nodup k hk) hF
  have h2 := siz_fil (ν := ν) hk
  rw [siz_cong (fun p _ => nz p)] at h2
  omega
end Go.Proofs.YtjmdjagfekloaaaGreatDoor
