import Derived.Test.YtiblfmcnffhpdaaGreatDoorKBgA
import Derived.Test.YtiblfmcnffhpdaaGreatDoorKTkM
import Derived.Test.YtiblfmcnffhpdaaGreatDoorKKnC
namespace Go.Proofs.YtiblfmcnffhpdaaGreatDoor
open Go.RowKit Go.Maps Rec
theorem fol_one {B : Nat → List Int} {lo hi : Nat} {ns : List Int} {a f s v : Nat} {L : List (Nat × Nat × Nat)} (h : nth ns a = (v : Int)) (hg : v ≠ 0 → lo ≤ v ∧ v < hi) : fol B lo hi ns ((a, f, s) :: L) = if v = 0 then (0, 0) else if 1 < s then fol B lo hi (nms (B v)) L else ((v : Int), 0) := by
  rw [fol, h]
  by_cases e : v = 0
  · rw [if_pos (by omega), if_pos e]
  · have := hg e
    rw [if_neg (by omega), if_neg (by omega), if_neg e, Int.toNat_natCast]
theorem fol_tree {D : Dk} {T : Tx} {n : Nat} {x : Nat → Int} {ν : Nat → Nat} (hw : Wd D T n x ν) {k : Nat} (hk : k < 16522) : fol (tv D T) (nD n) n (inN x) (wayL k) = ((ν (ixP k) : Int), 0) := by
  have hg : ∀ p, ν p ≠ 0 → nD n ≤ ν p ∧ ν p < n := fun p hp => ⟨(hw.own.good p hp).1, (hw.own.good p hp).2.1⟩
  have h0 : ∀ p, p < 12 → nth (inN x) p = (ν p : Int) := fun p hp => by rw [inN_own hw.tre]; exact nth_ownN ν p hp
  have h1 : ∀ p, 12 ≤ p → p < 16652 → ν (par p) ≠ 0 → nth (nms (tv D T (ν (par p)))) (pla p) = (ν p : Int) := fun p a b c => by
    rw [nth_nms _ _ (par_lt a b).2.2.2]
    exact hw.tre.tab p a b c
  unfold wayL ixP
  split
  · rename_i h
    rw [fol_one (h0 k (by omega)) (hg k)]
    by_cases e : ν k = 0
    · rw [if_pos e, e]; rfl
    · rw [if_neg e, if_neg (by omega)]
  · rename_i h
    split
    · rename_i h2
      have ep : par (k + 2) = 10 := by unfold par; rw [if_pos (by omega)]
      have el : pla (k + 2) = k - 10 := by unfold pla; rw [if_neg (by omega), if_pos (by omega)]; omega
      rw [fol_one (h0 10 (by omega)) (hg 10)]
      by_cases e : ν 10 = 0
      · rw [if_pos e, hw.tre.hole (k + 2) (by omega) (by omega) (by rw [ep]; exact e)]; rfl
      · have h3 := h1 (k + 2) (by omega) (by omega) (by rw [ep]; exact e)
        rw [ep, el] at h3
        rw [if_neg e, if_pos (by omega), fol_one h3 (hg (k + 2))]
        by_cases e : ν (k + 2) = 0
        · rw [if_pos e, e]; rfl
        · rw [if_neg e, if_neg (by omega)]
    · rename_i h2
      obtain ⟨q, hq⟩ : ∃ q, (k - 138) / 128 = q := ⟨_, rfl⟩
      have hq2 : q < 128 := by omega
      have ep1 : par (140 + q) = 11 := by unfold par; rw [if_neg (by omega), if_pos (by omega)]
      have el1 : pla (140 + q) = q := by unfold pla; rw [if_neg (by omega), if_neg (by omega), if_pos (by omega)]; omega
      have ep2 : par (k + 130) = 140 + q := by unfold par; rw [if_neg (by omega), if_neg (by omega)]; omega
      have el2 : pla (k + 130) = (k - 138) % 128 := by unfold pla; rw [if_neg (by omega), if_neg (by omega), if_neg (by omega)]; omega
      rw [hq, fol_one (h0 11 (by omega)) (hg 11)]
      by_cases e : ν 11 = 0
      · have e1 := hw.tre.hole (140 + q) (by omega) (by omega) (by rw [ep1]; exact e)
        rw [if_pos e, hw.tre.hole (k + 130) (by omega) (by omega) (by rw [ep2]; exact e1)]; rfl
      · have h3 := h1 (140 + q) (by omega) (by omega) (by rw [ep1]; exact e)
        rw [ep1, el1] at h3
        rw [if_neg e, if_pos (by omega), fol_one h3 (hg (140 + q))]
        by_cases e1 : ν (140 + q) = 0
        · rw [if_pos e1, hw.tre.hole (k + 130) (by omega) (by omega) (by rw [ep2]; exact e1)]; rfl
        · have h4 := h1 (k + 130) (by omega) (by omega) (by rw [ep2]; exact e1)
          rw [ep2, el2] at h4
          rw [if_neg e1, if_pos (by omega), fol_one h4 (hg (k + 130))]
          by_cases e2 : ν (k + 130) = 0
          · rw [if_pos e2, e2]; rfl
          · rw [if_neg e2, if_neg (by omega)]
theorem findQ (w0 w : World) (D : Dk) (T : Tx) (n : Nat) (h : Spc w0 w D T n) (hT : TabAt w0) (x : Nat → Int) (ν : Nat → Nat) (hw : Wd D T n x ν) (k : Nat) (hk : k < 16522) :
    Calls Tryz.prog 21 #[.pointer (some ⟨T.t, 0, none⟩), geoV n, inV x, .int .i64 (k : Int)] w fun e w' => e = .returned (.tuple #[.int .i64 (ν (ixP k) : Nat), .int .i64 0]) ∧ Below w.heap.size w w' := by
  have := find_any w0 w D T n h (hT.on h.ses.bel) x k hk
  rw [fol_tree hw hk] at this
  exact this
theorem acL_mem {α : Type} {a : Nat → Nat} {p : Nat → List α} {j : Nat} {y : α} : y ∈ acL a p j ↔ ∃ i, i < j ∧ a i ≠ 0 ∧ y ∈ p i := by
  induction j with
  | zero => simp [acL]
  | succ j ih =>
    rw [acL, List.mem_append, ih]
    constructor
    · rintro (⟨i, h1, h2, h3⟩ | h)
      · exact ⟨i, by omega, h2, h3⟩
      · split at h
        · simp at h
        · rename_i e; exact ⟨j, by omega, e, h⟩
    · rintro ⟨i, h1, h2, h3⟩
      by_cases e : i = j
      · subst e; right; rw [if_neg h2]; exact h3
      · left; exact ⟨i, by omega, h2, h3⟩
theorem acL_pw {α : Type} {R : α → α → Prop} {a : Nat → Nat} {p : Nat → List α} {j : Nat} (h1 : ∀ i, i < j → (p i).Pairwise R) (h2 : ∀ i i', i < i' → i' < j → ∀ x, x ∈ p i → ∀ y, y ∈ p i' → R x y) : (acL a p j).Pairwise R := by
  induction j with
  | zero => exact List.Pairwise.nil
  | succ j ih =>
    rw [acL, List.pairwise_append]
    refine ⟨ih (fun i hi => h1 i (by omega)) (fun i i' a b => h2 i i' a (by omega)), ?_, fun x hx y hy => ?_⟩
    · split
      · exact List.Pairwise.nil
      · exact h1 j (by omega)
    · obtain ⟨i, i1, i2, i3⟩ := acL_mem.1 hx
      split at hy
      · simp at hy
      · exact h2 i j i1 (by omega) x i3 y hy
theorem acL_map {α β : Type} {a : Nat → Nat} {p : Nat → List α} {q : Nat → List β} {f : α → β} {j : Nat} (h : ∀ i, i < j → a i ≠ 0 → q i = (p i).map f) : acL a q j = (acL a p j).map f := by
  induction j with
  | zero => rfl
  | succ j ih =>
    rw [acL, acL, List.map_append, ih (fun i hi => h i (by omega))]
    congr 1
    split
    · rfl
    · rename_i e; exact h j (by omega) e
theorem t1B_mem {ν : Nat → Nat} {p : Nat} (hp : isT1 p) {q : Nat × Nat} (hq : q ∈ t1B ν p) : ∃ i, i < 128 ∧ ν (kid p i) ≠ 0 ∧ q = (fiP p + i, ν (kid p i)) := by
  obtain ⟨i, i1, i2, i3⟩ := acL_mem.1 hq
  rw [(kid_leaf hp i1).2.2.2.1] at i3
  exact ⟨i, i1, i2, by simpa using i3⟩
theorem fi_t1 {p : Nat} (hp : isT1 p) {i : Nat} (hi : i < 128) : fiP p + i < 16522 ∧ ixP (fiP p + i) = kid p i := by
  unfold isT1 at hp
  rcases hp with rfl | hp
  · have : fiP 10 = 10 := rfl
    rw [this]
    refine ⟨by omega, ?_⟩
    unfold ixP kid
    rw [if_neg (by omega), if_pos (by omega), if_pos rfl]
    omega
  · have : fiP p = 138 + 128 * (p - 140) := by unfold fiP; rw [if_neg (by omega), if_neg (by omega), if_neg (by omega), if_pos (by omega)]
    rw [this]
    refine ⟨by omega, ?_⟩
    unfold ixP kid
    rw [if_neg (by omega), if_neg (by omega), if_neg (by omega), if_neg (by omega)]
    omega
theorem alB_mem {ν : Nat → Nat} {p : Nat} (hp : p < 12) {q : Nat × Nat} (hn : ν p ≠ 0) (hq : q ∈ alB ν p) : q.1 < 16522 ∧ q.2 = ν (ixP q.1) ∧ ν (ixP q.1) ≠ 0 ∧ fiP p ≤ q.1 ∧ q.1 < fiP p + szP p := by
  unfold alB at hq
  split at hq
  · rename_i e
    subst e
    obtain ⟨i, i1, i2, i3⟩ := acL_mem.1 hq
    have hk := kid11 i i1
    obtain ⟨j, j1, j2, rfl⟩ := t1B_mem hk.2.1 i3
    have hf := fi_t1 hk.2.1 j1
    have e1 : fiP 11 = 138 := rfl
    have e2 : szP 11 = 16384 := rfl
    rw [hk.2.2.2.2] at hf ⊢
    exact ⟨hf.1, by rw [hf.2], by rw [hf.2]; exact j2, by show _ ≤ 138 + i * 128 + j; omega, by show 138 + i * 128 + j < _; omega⟩
  · split at hq
    · rename_i h1 h2
      obtain ⟨j, j1, j2, rfl⟩ := t1B_mem h2 hq
      have hf := fi_t1 h2 j1
      have := (kid_leaf h2 j1).2.2.2.2.1
      exact ⟨hf.1, by rw [hf.2], by rw [hf.2]; exact j2, by show _ ≤ fiP p + j; omega, by show fiP p + j < _; omega⟩
    · rename_i h1 h2
      simp at hq
      subst hq
      have hp10 : p < 10 := by unfold isT1 at h2; omega
      have e1 : fiP p = p := by unfold fiP; rw [if_pos (by omega)]
      have e2 : ixP p = p := by unfold ixP; rw [if_pos hp10]
      have e3 : szP p = 1 := by unfold szP; rw [if_neg (by omega), if_neg (by omega), if_neg (by omega)]
      rw [e1, e3]
      refine ⟨by show p < _; omega, by show _ = ν (ixP p); rw [e2], by show ν (ixP p) ≠ 0; rw [e2]; exact hn, Nat.le_refl _, by show p < _; omega⟩
theorem t1B_pw {ν : Nat → Nat} {p : Nat} (hp : isT1 p) : (t1B ν p).Pairwise (fun a b => a.1 < b.1) := by
  refine acL_pw (fun i hi => by simp) (fun i i' h1 h2 x hx y hy => ?_)
  simp at hx hy
  subst hx hy
  show fiP (kid p i) < fiP (kid p i')
  rw [(kid_leaf hp (by omega)).2.2.2.1, (kid_leaf hp h2).2.2.2.1]
  omega
theorem allB_pw {D : Dk} {T : Tx} {n : Nat} {x : Nat → Int} {ν : Nat → Nat} (hw : Wd D T n x ν) : (allB ν).Pairwise (fun a b => a.1 < b.1) := by
  have hz : ∀ p, p < 12 → ν p = 0 → alB ν p = [] ∨ p < 10 := fun p hp h0 => by
    by_cases e : p < 10
    · exact .inr e
    · left
      apply List.eq_nil_iff_forall_not_mem.2
      intro q hq
      unfold alB at hq
      split at hq
      · rename_i e; subst e
        obtain ⟨i, i1, i2, _⟩ := acL_mem.1 hq
        exact i2 (hw.tre.hole _ (by rw [(kid11 i i1).1]; omega) (by rw [(kid11 i i1).1]; omega) (by rw [(kid_par (.inl rfl) i1).2.2.1]; exact h0))
      · split at hq
        · rename_i h1 h2
          obtain ⟨j, j1, j2, _⟩ := t1B_mem h2 hq
          have := kid_par (.inr h2) j1
          exact j2 (hw.tre.hole _ this.1 this.2.1 (by rw [this.2.2.1]; exact h0))
        · rename_i h1 h2; unfold isT1 at h2; omega
  have hb : ∀ p, p < 12 → ∀ q, q ∈ alB ν p → fiP p ≤ q.1 ∧ q.1 < fiP p + szP p := fun p hp q hq => by
    by_cases h0 : ν p = 0
    · rcases hz p hp h0 with e | e
      · rw [e] at hq; simp at hq
      · unfold alB at hq
        rw [if_neg (by omega), if_neg (by unfold isT1; omega)] at hq
        simp at hq
        subst hq
        exact ⟨Nat.le_refl _, by show fiP p < _; unfold szP; split <;> (try split) <;> (try split) <;> omega⟩
    · exact ⟨(alB_mem hp h0 hq).2.2.2.1, (alB_mem hp h0 hq).2.2.2.2⟩
  refine acL_pw (fun p hp => ?_) (fun i i' h1 h2 a ha b hb2 => ?_)
  · unfold alB
    split
    · refine acL_pw (fun i hi => t1B_pw (kid11 i hi).2.1) (fun i i' h1 h2 a ha b hb2 => ?_)
      obtain ⟨j, j1, j2, rfl⟩ := t1B_mem (kid11 i (by omega)).2.1 ha
      obtain ⟨j', j1', j2', rfl⟩ := t1B_mem (kid11 i' h2).2.1 hb2
      show fiP (kid 11 i) + j < fiP (kid 11 i') + j'
      rw [(kid11 i (by omega)).2.2.2.2, (kid11 i' h2).2.2.2.2]
      omega
    · split
      · rename_i h; exact t1B_pw h
      · simp
  · have a1 := hb i (by omega) a ha
    have b1 := hb i' h2 b hb2
    have : fiP i + szP i ≤ fiP i' := by
      have e1 : fiP i = i := by unfold fiP; rw [if_pos (by omega)]
      have e2 : szP i ≤ 128 ∧ (i < 10 → szP i = 1) := by unfold szP; split <;> (try split) <;> (try split) <;> omega
      have e3 : fiP i' = if i' = 11 then 138 else i' := by unfold fiP; split <;> (try split) <;> (try split) <;> (try split) <;> omega
      rw [e1, e3]
      split <;> omega
    omega
theorem allB_mem {D : Dk} {T : Tx} {n : Nat} {x : Nat → Int} {ν : Nat → Nat} (hw : Wd D T n x ν) (q : Nat × Nat) : q ∈ allB ν ↔ q.1 < 16522 ∧ ν (ixP q.1) ≠ 0 ∧ q.2 = ν (ixP q.1) := by
  constructor
  · intro h
    obtain ⟨p, p1, p2, p3⟩ := acL_mem.1 h
    have := alB_mem p1 p2 p3
    exact ⟨this.1, this.2.2.1, this.2.1⟩
  · rintro ⟨h1, h2, h3⟩
    obtain ⟨k, v⟩ := q
    simp only at h1 h2 h3
    subst h3
    by_cases c1 : k < 10
    · have e : ixP k = k := by unfold ixP; rw [if_pos c1]
      rw [e] at h2 ⊢
      refine acL_mem.2 ⟨k, by omega, h2, ?_⟩
      unfold alB
      rw [if_neg (by omega), if_neg (by unfold isT1; omega)]
      have : fiP k = k := by unfold fiP; rw [if_pos (by omega)]
      rw [this]; simp
    · by_cases c2 : k < 138
      · have e : ixP k = k + 2 := by unfold ixP; rw [if_neg c1, if_pos c2]
        have ek : kid 10 (k - 10) = k + 2 := by unfold kid; rw [if_pos rfl]; omega
        have hz : ν 10 ≠ 0 := fun e0 => h2 (hw.tre.hole _ (by rw [e]; omega) (by rw [e]; omega) (by rw [e]; unfold par; rw [if_pos (by omega)]; exact e0))
        refine acL_mem.2 ⟨10, by omega, hz, ?_⟩
        unfold alB
        rw [if_neg (by omega), if_pos (.inl rfl)]
        refine acL_mem.2 ⟨k - 10, by omega, by rw [ek, ← e]; exact h2, ?_⟩
        have : fiP (kid 10 (k - 10)) = k := by rw [ek]; unfold fiP; rw [if_neg (by omega), if_neg (by omega), if_pos (by omega)]; omega
        rw [this, ek, e]; simp
      · have e : ixP k = k + 130 := by unfold ixP; rw [if_neg c1, if_neg c2]
        obtain ⟨i, hi⟩ : ∃ i, (k - 138) / 128 = i := ⟨_, rfl⟩
        obtain ⟨j, hj⟩ : ∃ j, (k - 138) % 128 = j := ⟨_, rfl⟩
        have e11 := (kid11 i (by omega)).1
        have ek : kid (140 + i) j = k + 130 := by unfold kid; rw [if_neg (by omega), if_neg (by omega)]; omega
        have hz1 : ν (140 + i) ≠ 0 := fun e0 => h2 (hw.tre.hole _ (by rw [e]; omega) (by rw [e]; omega) (by rw [e]; unfold par; rw [if_neg (by omega), if_neg (by omega), show 140 + (k + 130 - 268) / 128 = 140 + i by omega]; exact e0))
        have hz : ν 11 ≠ 0 := fun e0 => hz1 (hw.tre.hole _ (by omega) (by omega) (by unfold par; rw [if_neg (by omega), if_pos (by omega)]; exact e0))
        refine acL_mem.2 ⟨11, by omega, hz, ?_⟩
        unfold alB
        rw [if_pos rfl]
        refine acL_mem.2 ⟨i, by omega, by show ν (kid 11 i) ≠ 0; rw [e11]; exact hz1, ?_⟩
        show (k, ν (ixP k)) ∈ t1B ν (kid 11 i)
        rw [e11]
        refine acL_mem.2 ⟨j, by omega, by show ν (kid (140 + i) j) ≠ 0; rw [ek, ← e]; exact h2, ?_⟩
        have : fiP (kid (140 + i) j) = k := by rw [ek]; unfold fiP; rw [if_neg (by omega), if_neg (by omega), if_neg (by omega), if_neg (by omega)]; omega
        rw [this, ek, e]; simp
def tbP (ν : Nat → Nat) : List Nat := acL ν (fun p => if p = 11 then 11 :: acL (fun i => ν (kid 11 i)) (fun i => [kid 11 i]) 128 else if p = 10 then [10] else []) 12
theorem allT_pos (ν : Nat → Nat) : allT ν = (tbP ν).map ν := by
  refine acL_map (fun p hp _ => ?_)
  unfold alT
  by_cases e : p = 11
  · rw [if_pos e, if_pos e, List.map_cons]
    have : acL (fun i => ν (kid 11 i)) (fun i => t1T ν (kid 11 i)) 128 = (acL (fun i => ν (kid 11 i)) (fun i => [kid 11 i]) 128).map ν := acL_map (fun i _ _ => rfl)
    rw [this]
  · rw [if_neg e, if_neg e]
    by_cases e2 : p = 10
    · subst e2; rw [if_pos (.inl rfl)]; rfl
    · rw [if_neg (by unfold isT1; omega), if_neg e2]; rfl
theorem tbP_mem {D : Dk} {T : Tx} {n : Nat} {x : Nat → Int} {ν : Nat → Nat} (hw : Wd D T n x ν) (p : Nat) : p ∈ tbP ν ↔ isTb p ∧ ν p ≠ 0 := by
  unfold tbP
  rw [acL_mem]
  constructor
  · rintro ⟨i, i1, i2, i3⟩
    split at i3
    · rename_i e; subst e
      rcases List.mem_cons.1 i3 with rfl | h
      · exact ⟨.inl rfl, i2⟩
      · obtain ⟨j, j1, j2, j3⟩ := acL_mem.1 h
        simp at j3
        subst j3
        exact ⟨.inr (kid11 j j1).2.1, j2⟩
    · split at i3
      · rename_i e; subst e; simp at i3; subst i3; exact ⟨.inr (.inl rfl), i2⟩
      · simp at i3
  · rintro ⟨h, h2⟩
    rcases h with rfl | rfl | h
    · exact ⟨11, by omega, h2, by simp⟩
    · exact ⟨10, by omega, h2, by simp⟩
    · have e : kid 11 (p - 140) = p := by rw [(kid11 (p - 140) (by omega)).1]; omega
      have hz : ν 11 ≠ 0 := fun e0 => h2 (hw.tre.hole _ (by omega) (by omega) (by unfold par; rw [if_neg (by omega), if_pos (by omega)]; exact e0))
      refine ⟨11, by omega, hz, ?_⟩
      rw [if_pos rfl]
      exact List.mem_cons_of_mem _ (acL_mem.2 ⟨p - 140, by omega, by show ν (kid 11 (p - 140)) ≠ 0; rw [e]; exact h2, by show p ∈ [kid 11 (p - 140)]; rw [e]; simp⟩)
theorem tbP_nodup (ν : Nat → Nat) : (tbP ν).Nodup := by
  have : (tbP ν).Pairwise (fun a b => a < b) := by
    refine acL_pw (fun i hi => ?_) (fun i i' h1 h2 a ha b hb => ?_)
    · split
      · refine List.pairwise_cons.2 ⟨fun a ha => ?_, acL_pw (fun j _ => by simp) (fun j j' h1 h2 a ha b hb => ?_)⟩
        · obtain ⟨j, j1, _, j3⟩ := acL_mem.1 ha
          simp at j3; subst j3; rw [(kid11 j j1).1]; omega
        · simp at ha hb; subst ha hb; rw [(kid11 j (by omega)).1, (kid11 j' h2).1]; omega
      · split <;> simp
    · split at ha
      · omega
      · split at ha
        · simp at ha; subst ha
          have : i' = 11 := by omega
          subst this
          rw [if_pos rfl] at hb
          rcases List.mem_cons.1 hb with rfl | hb
          · omega
          · obtain ⟨j, j1, _, j3⟩ := acL_mem.1 hb
            simp at j3; subst j3; rw [(kid11 j j1).1]; omega
        · simp at ha
  exact this.imp (fun h e => by omega)
theorem all_siz {D : Dk} {T : Tx} {n : Nat} {x : Nat → Int} {ν : Nat → Nat} (hw : Wd D T n x ν) : ((allB ν).map (fun q => ixP q.1) ++ tbP ν).Nodup ∧ (∀ p, p ∈ (allB ν).map (fun q => ixP q.1) ++ tbP ν ↔ p < 16652 ∧ ν p ≠ 0) ∧ ((allB ν).map Prod.fst).Nodup := by
  have hp : ((allB ν).map Prod.fst).Nodup := by
    have : ((allB ν).map Prod.fst).Pairwise (fun a b => a < b) := List.pairwise_map.2 (allB_pw hw)
    exact this.imp (fun h e => by omega)
  refine ⟨List.nodup_append.2 ⟨?_, tbP_nodup ν, fun a ha b hb e => ?_⟩, fun p => ?_, hp⟩
  · have : (allB ν).map (fun q => ixP q.1) = ((allB ν).map Prod.fst).map ixP := by rw [List.map_map]; rfl
    rw [this]
    exact nodup_mapOn hp (fun a b _ _ e => ixP_inj e)
  · obtain ⟨q, q1, rfl⟩ := List.mem_map.1 ha
    subst e
    exact (ixP_lt ((allB_mem hw q).1 q1).1).2 ((tbP_mem hw _).1 hb).1
  · rw [List.mem_append, tbP_mem hw]
    constructor
    · rintro (h | ⟨h, h2⟩)
      · obtain ⟨q, q1, rfl⟩ := List.mem_map.1 h
        have := (allB_mem hw q).1 q1
        exact ⟨(ixP_lt this.1).1, this.2.1⟩
      · exact ⟨by unfold isTb isT1 at h; omega, h2⟩
    · rintro ⟨h1, h2⟩
      rcases pos_or h1 with h | ⟨k, k1, rfl⟩
      · exact .inr ⟨h, h2⟩
      · exact .inl (List.mem_map.2 ⟨(k, ν (ixP k)), (allB_mem hw _).2 ⟨k1, h2, rfl⟩, rfl⟩)
section
variable (w : World) {ops : Array Oper} {rest : List Oper} {o : Oper} {a : Act} {Q : Exit → Act → World → Prop}
theorem lk_ok (hg : o.guard = none) (m x : Operand) (hop : o.op = Op.lookup 36 m x true) (b : Nat) (ks : List (Int × Int)) (z v : Int) (hm : a.eval m = .map (some b)) (h : MpAt w b ks) (hz : (z, v) ∈ ks) (hwf : (kI z).wf = true) (hx : a.eval x = .int .i64 z)
    (hK : wpList Tryz.prog ops Q rest (a.put o.dst (.tuple #[.int .i64 v, .bool true])) w) : wpList Tryz.prog ops Q (o :: rest) a w := by
  obtain ⟨D, h1, h2⟩ := h
  refine wpList_lookup_own_ok_int w hg m x 36 hop 3 3 .i64 lawI Tryz.underlying36 Tryz.underlying3 (zeroI _) b _ D hm h1 _ _ hx (keyOf_int_mk Tryz.underlying3 hwf) ?_
  intro c hat _
  have e := h2.at1 hz hat
  subst e
  have e2 : Maps.has D (Lit.int .i64 z) = true := by rw [show Lit.int .i64 z = kI z from rfl, h2.has]; exact decide_eq_true (List.mem_map.2 ⟨_, hz, rfl⟩)
  rw [e2]
  exact hK
theorem lk_new (hg : o.guard = none) (m x : Operand) (hop : o.op = Op.lookup 36 m x false) (b : Nat) (ks : List (Int × Int)) (z : Int) (hm : a.eval m = .map (some b)) (h : MpAt w b ks) (hz : z ∉ ks.map Prod.fst) (hwf : (kI z).wf = true) (hx : a.eval x = .int .i64 z)
    (hK : wpList Tryz.prog ops Q rest (a.put o.dst (.int .i64 0)) w) : wpList Tryz.prog ops Q (o :: rest) a w := by
  obtain ⟨D, h1, h2⟩ := h
  refine wpList_lookup_own_int w hg m x 36 hop 3 3 .i64 lawI Tryz.underlying36 Tryz.underlying3 (zeroI _) b _ D hm h1 _ _ hx (keyOf_int_mk Tryz.underlying3 hwf) ?_
  intro c hat _
  have e := h2.at0 hz hat
  subst e
  exact hK
theorem up_any (hg : o.guard = none) (m x v : Operand) (hop : o.op = Op.mapUpdate 36 m x v) (b : Nat) (ks : List (Int × Int)) (z u : Int) (hm : a.eval m = .map (some b)) (h : MpAt w b ks) (hl : ks.length < 100000000) (hwf : (kI z).wf = true) (hwu : (kI u).wf = true) (hx : a.eval x = .int .i64 z) (hv : a.eval v = .int .i64 u)
    (hK : ∀ w' ks', MpAt w' b ks' → (∀ t y, (t, y) ∈ ks' ↔ (t = z ∧ y = u) ∨ (t ≠ z ∧ (t, y) ∈ ks)) → (z ∉ ks.map Prod.fst → ks' = ks ++ [(z, u)]) → ks'.length ≤ ks.length + 1 → w.grownBy w' (some b) → wpList Tryz.prog ops Q rest (a.put o.dst undef) w') : wpList Tryz.prog ops Q (o :: rest) a w := by
  obtain ⟨D, h1, h2⟩ := h
  refine wpList_mapUpdate_own w hg m x v 36 hop 3 3 lawI Tryz.underlying36 _ b _ D hm h1 (by unfold maxLen; omega) _ _ _ hx hv (keyOf_int_mk Tryz.underlying3 hwf) _ [] (plainElem_int Tryz.underlying3 hwu) ?_
  intro w1 h3 h4
  obtain ⟨ks', k1, k2, k3, k4⟩ := h2.put z u
  have hm' := MpAt.of h3 k1
  exact hK w1 ks' hm' k3 k4 (by have := h3.size_le; rw [k1.size] at this; exact this) h4
theorem up_new (hg : o.guard = none) (m x v : Operand) (hop : o.op = Op.mapUpdate 36 m x v) (b : Nat) (ks : List (Int × Int)) (z u : Int) (hm : a.eval m = .map (some b)) (h : MpAt w b ks) (hl : ks.length < 100000000) (hz : z ∉ ks.map Prod.fst) (hwf : (kI z).wf = true) (hwu : (kI u).wf = true) (hx : a.eval x = .int .i64 z) (hv : a.eval v = .int .i64 u)
    (hK : ∀ w', MpAt w' b (ks ++ [(z, u)]) → w.grownBy w' (some b) → wpList Tryz.prog ops Q rest (a.put o.dst undef) w') : wpList Tryz.prog ops Q (o :: rest) a w :=
  up_any w hg m x v hop b ks z u hm h hl hwf hwu hx hv (fun w' ks' h1 _ h2 _ h3 => hK w' (by rw [← h2 hz]; exact h1) h3)
end
theorem below_grown {w w' : World} (h : Below w.heap.size w w') : w.grownBy w' none := ⟨h.os, h.tape, h.output, h.size, fun k hk _ => h.block k hk⟩
theorem isT_of_fd {lo hi : Nat} {B : Nat → List Int} {i : Nat} (h1 : lo ≤ i) (h2 : i < hi) (h : fd lo hi B i = false) : isT B i = true := by
  unfold fd at h
  rw [decide_eq_true ⟨h1, h2⟩] at h
  simpa using h
def HasM (w : World) (b : Nat) (ν : Nat → Nat) : Prop := ∃ ks, MpAt w b ks ∧ ∀ z v, (z, v) ∈ ks ↔ ∃ k : Nat, k < 16522 ∧ ν (ixP k) ≠ 0 ∧ z = (k : Int) ∧ v = (ν (ixP k) : Int)
theorem has_keys {ks : List (Int × Int)} {ν : Nat → Nat} (h : ∀ z v, (z, v) ∈ ks ↔ ∃ k : Nat, k < 16522 ∧ ν (ixP k) ≠ 0 ∧ z = (k : Int) ∧ v = (ν (ixP k) : Int)) (z : Int) : z ∈ ks.map Prod.fst ↔ ∃ k : Nat, k < 16522 ∧ ν (ixP k) ≠ 0 ∧ z = (k : Int) := by
  rw [List.mem_map]
  constructor
  · rintro ⟨⟨z', v⟩, h1, rfl⟩
    obtain ⟨k, k1, k2, k3, _⟩ := (h z' v).1 h1
    exact ⟨k, k1, k2, k3⟩
  · rintro ⟨k, k1, k2, rfl⟩
    exact ⟨(_, _), (h _ _).2 ⟨k, k1, k2, rfl, rfl⟩, rfl⟩
structure TlS (w wr : World) (P n b mb Lb Lt : Nat) (x p1 p2 p3 : Nat → Int) (a a' : Option Addr) (ks ms : List (Int × Int)) : Prop where
  bel : Below w.heap.size w wr
  far : w.heap.size ≤ P ∧ P + 1 < mb ∧ b < mb ∧ mb < wr.heap.size
  geo : GeoAt wr P n
  ino : wr.heap[P + 1]? = some (.cells #[.int .i64 (x 0), .int .i64 (x 1), .int .i64 (x 2), .int .i64 (x 3), .int .i64 (x 4), .int .i64 (x 5), .int .i64 (x 6), .int .i64 (x 7), .int .i64 (x 8), .int .i64 (x 9), .int .i64 (x 10), .int .i64 (x 11), .int .i64 (x 12), .int .i64 (x 13), .int .i64 (x 14)] 35 (0, 0))
  prs : PrsAt wr a Lb p1 p2
  pa : ∀ q, a = some q → 0 < Lb → q.block < mb
  num : NumAt wr a' Lt p3
  na : ∀ q, a' = some q → 0 < Lt → q.block < mb
  has : MpAt wr b ks
  met : MpAt wr mb ms
theorem TlS.on {w wr wr' : World} {P n b mb Lb Lt : Nat} {x p1 p2 p3 : Nat → Int} {a a' : Option Addr} {ks ms : List (Int × Int)} (h : TlS w wr P n b mb Lb Lt x p1 p2 p3 a a' ks ms) (hb : Below wr.heap.size wr wr') : TlS w wr' P n b mb Lb Lt x p1 p2 p3 a a' ks ms :=
  ⟨h.bel.trans (hb.mono h.bel.size), ⟨h.far.1, h.far.2.1, h.far.2.2.1, Nat.lt_of_lt_of_le h.far.2.2.2 hb.size⟩, (hb.block _ (heap_lt h.geo)).trans h.geo, (hb.block _ (heap_lt h.ino)).trans h.ino, h.prs.on hb, h.pa, h.num.on hb, h.na, h.has.on hb, h.met.on hb⟩
theorem TlS.put {w wr wr' : World} {P n b mb Lb Lt : Nat} {x p1 p2 p3 : Nat → Int} {a a' : Option Addr} {ks ms ms' : List (Int × Int)} (h : TlS w wr P n b mb Lb Lt x p1 p2 p3 a a' ks ms) (hg : wr.grownBy wr' (some mb)) (hm : MpAt wr' mb ms') : TlS w wr' P n b mb Lb Lt x p1 p2 p3 a a' ks ms' := by
  have hs := h.bel.size
  have hf := h.far
  have hk : ∀ k, k < mb → wr'.heap[k]? = wr.heap[k]? := fun k hk => hg.block k (by omega) (fun e => by have := Option.some.inj e; omega)
  have hc : ∀ (q : Addr), q.block < mb → wr'.cell? q = wr.cell? q := fun q hq => World.cell?_of_block (hk _ hq)
  refine ⟨h.bel.grown hg hs (fun j hj => by cases hj; omega), ⟨hf.1, hf.2.1, hf.2.2.1, Nat.lt_of_lt_of_le hf.2.2.2 hg.size⟩, (hk P (by omega)).trans h.geo, (hk (P + 1) (by omega)).trans h.ino, ?_, h.pa, ?_, h.na, h.has.hp (hk b hf.2.2.1), hm⟩
  · rcases h.prs with e | ⟨g, o, e, hq⟩
    · exact .inl e
    · by_cases h0 : Lb = 0
      · exact .inl h0
      · have hl := h.pa _ e (by omega)
        exact .inr ⟨g, o, e, fun i hi => ⟨(hc ⟨g, o + i * 2, none⟩ hl).trans (hq i hi).1, (hc ⟨g, o + i * 2 + 1, none⟩ hl).trans (hq i hi).2⟩⟩
  · rcases h.num with e | ⟨g, o, e, hq⟩
    · exact .inl e
    · by_cases h0 : Lt = 0
      · exact .inl h0
      · have hl := h.na _ e (by omega)
        exact .inr ⟨g, o, e, fun i hi => (hc ⟨g, o + i, none⟩ hl).trans (hq i hi)⟩
theorem TlS.xc {w wr : World} {P n b mb Lb Lt : Nat} {x p1 p2 p3 : Nat → Int} {a a' : Option Addr} {ks ms : List (Int × Int)} (h : TlS w wr P n b mb Lb Lt x p1 p2 p3 a a' ks ms) : wr.cell? ⟨P + 1, 0, none⟩ = some (.int .i64 (x 0)) ∧ wr.cell? ⟨P + 1, 1, none⟩ = some (.int .i64 (x 1)) ∧ wr.cell? ⟨P + 1, 2, none⟩ = some (.int .i64 (x 2)) ∧ wr.cell? ⟨P + 1, 3, none⟩ = some (.int .i64 (x 3)) ∧ wr.cell? ⟨P + 1, 4, none⟩ = some (.int .i64 (x 4)) ∧ wr.cell? ⟨P + 1, 5, none⟩ = some (.int .i64 (x 5)) ∧ wr.cell? ⟨P + 1, 6, none⟩ = some (.int .i64 (x 6)) ∧ wr.cell? ⟨P + 1, 7, none⟩ = some (.int .i64 (x 7)) ∧ wr.cell? ⟨P + 1, 8, none⟩ = some (.int .i64 (x 8)) ∧ wr.cell? ⟨P + 1, 9, none⟩ = some (.int .i64 (x 9)) ∧ wr.cell? ⟨P + 1, 10, none⟩ = some (.int .i64 (x 10)) ∧ wr.cell? ⟨P + 1, 11, none⟩ = some (.int .i64 (x 11)) ∧ wr.cell? ⟨P + 1, 12, none⟩ = some (.int .i64 (x 12)) ∧ wr.cell? ⟨P + 1, 13, none⟩ = some (.int .i64 (x 13)) ∧ wr.cell? ⟨P + 1, 14, none⟩ = some (.int .i64 (x 14)) := by
  have hc := fun j => cell_of_row _ _ j _ _ _ h.ino
  exact ⟨hc 0, hc 1, hc 2, hc 3, hc 4, hc 5, hc 6, hc 7, hc 8, hc 9, hc 10, hc 11, hc 12, hc 13, hc 14⟩
end Go.Proofs.YtiblfmcnffhpdaaGreatDoor
