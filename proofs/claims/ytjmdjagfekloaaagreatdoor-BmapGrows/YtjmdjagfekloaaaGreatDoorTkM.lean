import Derived.Test.YtjmdjagfekloaaaGreatDoorKCvM
namespace Go.Proofs.YtjmdjagfekloaaaGreatDoor
open Rec

theorem sub_len {α : Type} [BEq α] [LawfulBEq α] : ∀ {l m : List α}, l.Nodup → (∀ x, x ∈ l → x ∈ m) → l.length ≤ m.length
  | [], _, _, _ => Nat.zero_le _
  | a :: l, m, hn, h => by
    have hm := h a (by simp)
    have hn2 := List.nodup_cons.1 hn
    have := sub_len (l := l) (m := m.erase a) hn2.2 (fun x hx => (List.mem_erase_of_ne (fun (e : x = a) => hn2.1 (e ▸ hx))).2 (h x (List.mem_cons_of_mem _ hx)))
    rw [List.length_erase_of_mem hm] at this
    have := List.length_pos_of_mem hm
    simp
    omega
theorem same_len {α : Type} [BEq α] [LawfulBEq α] {l m : List α} (hl : l.Nodup) (hm : m.Nodup) (h : ∀ x, x ∈ l ↔ x ∈ m) : l.length = m.length :=
  Nat.le_antisymm (sub_len hl (fun x hx => (h x).1 hx)) (sub_len hm (fun x hx => (h x).2 hx))
theorem nodup_mapOn {α β : Type} {f : α → β} : ∀ {l : List α}, l.Nodup → (∀ x y, x ∈ l → y ∈ l → f x = f y → x = y) → (l.map f).Nodup
  | [], _, _ => by simp
  | a :: l, hn, h => by
    have hn2 := List.nodup_cons.1 hn
    rw [List.map_cons, List.nodup_cons]
    refine ⟨fun hx => ?_, nodup_mapOn hn2.2 (fun x y hx hy => h x y (List.mem_cons_of_mem _ hx) (List.mem_cons_of_mem _ hy))⟩
    obtain ⟨y, hy, e⟩ := List.mem_map.1 hx
    exact hn2.1 ((h y a (List.mem_cons_of_mem _ hy) (by simp) e) ▸ hy)
/-- a position that is a table's -/
def isTb (p : Nat) : Prop := p = 11 ∨ isT1 p
/-- a tree: what hangs below a hole is one, and a table stands just if it tells of something -/
structure Shp (ν : Nat → Nat) : Prop where
  hole : ∀ p, 12 ≤ p → p < 16652 → ν (par p) = 0 → ν p = 0
  out : ∀ p, 16652 ≤ p → ν p = 0
  tight : ∀ p, isTb p → ν p ≠ 0 → ∃ i, i < 128 ∧ ν (kid p i) ≠ 0
def tbI (k : Nat) : List Int := if 138 ≤ k then [-1, (((k - 138) / 128 : Nat) : Int)] else if 10 ≤ k then [-2] else []
def posI (t : Int) : Nat := if t = -1 then 11 else if t = -2 then 10 else 140 + t.toNat
theorem ixP_lt {k : Nat} (h : k < 16522) : ixP k < 16652 ∧ ¬ isTb (ixP k) := by
  unfold ixP isTb isT1
  split
  · omega
  · split <;> omega
theorem pos_or {p : Nat} (h : p < 16652) : isTb p ∨ ∃ k, k < 16522 ∧ ixP k = p := by
  by_cases h1 : p < 10
  · exact .inr ⟨p, by omega, by unfold ixP; rw [if_pos h1]⟩
  · by_cases h2 : p < 12
    · exact .inl (by unfold isTb isT1; omega)
    · by_cases h3 : p < 140
      · exact .inr ⟨p - 2, by omega, by unfold ixP; rw [if_neg (by omega), if_pos (by omega)]; omega⟩
      · by_cases h4 : p < 268
        · exact .inl (by unfold isTb isT1; omega)
        · exact .inr ⟨p - 130, by omega, by unfold ixP; rw [if_neg (by omega), if_neg (by omega)]; omega⟩
/-- the tables of an index -/
theorem tbI_pos {k : Nat} {t : Int} (hk : k < 16522) (h : t ∈ tbI k) : isTb (posI t) ∧ (t = -1 ∨ t = -2 ∨ (0 ≤ t ∧ t < 128)) ∧ posI t ∈ wayP k := by
  unfold tbI at h
  split at h
  · have h : t = -1 ∨ t = (((k - 138) / 128 : Nat) : Int) := by simpa only [List.mem_cons, List.not_mem_nil, or_false] using h
    have e : wayP k = [11, 140 + (k - 138) / 128, k + 130] := by unfold wayP; rw [if_neg (by omega), if_neg (by omega)]
    rcases h with rfl | rfl
    · rw [e]; refine ⟨.inl rfl, .inl rfl, ?_⟩; simp [posI]
    · have e2 : posI (((k - 138) / 128 : Nat) : Int) = 140 + (k - 138) / 128 := by unfold posI; rw [if_neg (by omega), if_neg (by omega), Int.toNat_natCast]
      rw [e, e2]
      exact ⟨.inr (.inr (by omega)), .inr (.inr (by omega)), by simp⟩
  · split at h
    · simp at h
      subst h
      have e : wayP k = [10, k + 2] := by unfold wayP; rw [if_neg (by omega), if_pos (by omega)]
      rw [e]
      exact ⟨.inr (.inl rfl), .inr (.inl rfl), by simp [posI]⟩
    · simp at h
theorem posI_inj {t s : Int} (ht : t = -1 ∨ t = -2 ∨ (0 ≤ t ∧ t < 128)) (hs : s = -1 ∨ s = -2 ∨ (0 ≤ s ∧ s < 128)) (h : posI t = posI s) : t = s := by
  unfold posI at h
  split at h <;> split at h <;> (try split at h) <;> (try split at h) <;> omega
/-- all that lies on the way to what is there is there -/
theorem Shp.way {ν : Nat → Nat} (h : Shp ν) {k : Nat} (hk : k < 16522) (h0 : ν (ixP k) ≠ 0) : ∀ p, p ∈ wayP k → ν p ≠ 0 := by
  intro p hp
  unfold wayP at hp
  unfold ixP at h0
  split at hp
  · rename_i h1
    rw [if_pos h1] at h0
    simp at hp; subst hp; exact h0
  · rename_i h1
    rw [if_neg h1] at h0
    split at hp
    · rename_i h2
      rw [if_pos h2] at h0
      simp at hp
      rcases hp with rfl | rfl
      · intro e
        exact h0 (h.hole (k + 2) (by omega) (by omega) (by unfold par; rw [if_pos (by omega)]; exact e))
      · exact h0
    · rename_i h2
      rw [if_neg h2] at h0
      have e1 : par (k + 130) = 140 + (k - 138) / 128 := by unfold par; rw [if_neg (by omega), if_neg (by omega)]; omega
      have n1 : ν (140 + (k - 138) / 128) ≠ 0 := fun e => h0 (h.hole (k + 130) (by omega) (by omega) (by rw [e1]; exact e))
      simp at hp
      rcases hp with rfl | rfl | rfl
      · intro e
        exact n1 (h.hole _ (by omega) (by omega) (by unfold par; rw [if_neg (by omega), if_pos (by omega)]; exact e))
      · exact n1
      · exact h0
/-- a table that stands is a table of an index that is there -/
theorem Shp.below {ν : Nat → Nat} (h : Shp ν) {p : Nat} (hp : isTb p) (h0 : ν p ≠ 0) : ∃ k t, k < 16522 ∧ ν (ixP k) ≠ 0 ∧ t ∈ tbI k ∧ posI t = p := by
  have t1 : ∀ q, isT1 q → ν q ≠ 0 → ∃ k t, k < 16522 ∧ ν (ixP k) ≠ 0 ∧ t ∈ tbI k ∧ posI t = q := by
    intro q hq hz
    obtain ⟨i, hi, hn⟩ := h.tight q (.inr hq) hz
    rcases hq with rfl | hq
    · refine ⟨i + 10, -2, by omega, ?_, ?_, by simp [posI]⟩
      · have e : ixP (i + 10) = kid 10 i := by unfold ixP kid; rw [if_neg (by omega), if_pos (by omega), if_pos rfl]; omega
        rw [e]; exact hn
      · unfold tbI; rw [if_neg (by omega), if_pos (by omega)]; simp
    · refine ⟨138 + 128 * (q - 140) + i, ((q - 140 : Nat) : Int), by omega, ?_, ?_, ?_⟩
      · have e : ixP (138 + 128 * (q - 140) + i) = kid q i := by unfold ixP kid; rw [if_neg (by omega), if_neg (by omega), if_neg (by omega), if_neg (by omega)]; omega
        rw [e]; exact hn
      · unfold tbI; rw [if_pos (by omega)]
        have : (138 + 128 * (q - 140) + i - 138) / 128 = q - 140 := by omega
        rw [this]; simp
      · unfold posI; rw [if_neg (by omega), if_neg (by omega)]; simp; omega
  rcases hp with rfl | hp
  · obtain ⟨i, hi, hn⟩ := h.tight 11 (.inl rfl) h0
    obtain ⟨k, t, k1, k2, k3, k4⟩ := t1 (kid 11 i) (kid11 i hi).2.1 hn
    refine ⟨k, -1, k1, k2, ?_, by simp [posI]⟩
    have e := (kid11 i hi).1
    rw [e] at k4
    unfold tbI at k3 ⊢
    split at k3
    · rename_i hk; rw [if_pos hk]; simp
    · split at k3
      · simp at k3; subst k3; simp [posI] at k4; omega
      · simp at k3
  · exact t1 p hp h0
/-- how many blocks -/
def siz (ν : Nat → Nat) : Nat := ((List.range 16652).filter fun p => decide (ν p ≠ 0)).length
theorem nodup_fil (n : Nat) (f : Nat → Bool) : ((List.range n).filter f).Nodup := List.Nodup.sublist List.filter_sublist List.nodup_range
theorem siz_eq {ν : Nat → Nat} {L : List Nat} (hn : L.Nodup) (h : ∀ p, p ∈ L ↔ p < 16652 ∧ ν p ≠ 0) : L.length = siz ν :=
  same_len hn (nodup_fil _ _) (fun p => by rw [h p, List.mem_filter, List.mem_range]; simp)
theorem takes_len {ν : Nat → Nat} (h : Shp ν) {ks : List Nat} {ts : List Int} (hks : ks.Nodup) (hts : ts.Nodup) (hk : ∀ k, k ∈ ks ↔ k < 16522 ∧ ν (ixP k) ≠ 0) (ht : ∀ t, t ∈ ts ↔ ∃ k, k ∈ ks ∧ t ∈ tbI k) : ks.length + ts.length = siz ν := by
  have ht2 : ∀ t, t ∈ ts → isTb (posI t) ∧ (t = -1 ∨ t = -2 ∨ (0 ≤ t ∧ t < 128)) ∧ ν (posI t) ≠ 0 := fun t hx => by
    obtain ⟨k, k1, k2⟩ := (ht t).1 hx
    obtain ⟨k3, k4⟩ := (hk k).1 k1
    obtain ⟨p1, p2, p3⟩ := tbI_pos k3 k2
    exact ⟨p1, p2, h.way k3 k4 _ p3⟩
  have := siz_eq (ν := ν) (L := ks.map ixP ++ ts.map posI) ?_ ?_
  · rw [← this, List.length_append, List.length_map, List.length_map]
  · refine List.nodup_append.2 ⟨nodup_mapOn hks (fun x y _ _ e => ixP_inj e), nodup_mapOn hts (fun x y hx hy e => posI_inj (ht2 x hx).2.1 (ht2 y hy).2.1 e), ?_⟩
    intro a ha b hb e
    obtain ⟨k, k1, rfl⟩ := List.mem_map.1 ha
    obtain ⟨t, t1, rfl⟩ := List.mem_map.1 hb
    exact (ixP_lt ((hk k).1 k1).1).2 (e ▸ (ht2 t t1).1)
  · intro p
    rw [List.mem_append, List.mem_map, List.mem_map]
    constructor
    · rintro (⟨k, k1, rfl⟩ | ⟨t, t1, rfl⟩)
      · exact ⟨(ixP_lt ((hk k).1 k1).1).1, ((hk k).1 k1).2⟩
      · refine ⟨?_, (ht2 t t1).2.2⟩
        have := (ht2 t t1).1
        unfold isTb isT1 at this
        omega
    · rintro ⟨p1, p2⟩
      rcases pos_or p1 with hp | ⟨k, k1, rfl⟩
      · obtain ⟨k, t, k1, k2, k3, k4⟩ := h.below hp p2
        exact .inr ⟨t, (ht t).2 ⟨k, (hk k).2 ⟨k1, k2⟩, k3⟩, k4⟩
      · exact .inl ⟨k, (hk k).2 ⟨k1, p2⟩, rfl⟩
theorem siz_cong {ν ν' : Nat → Nat} (h : ∀ p, p < 16652 → (ν p ≠ 0 ↔ ν' p ≠ 0)) : siz ν = siz ν' := by
  exact siz_eq (nodup_fil _ _) (fun p => by rw [List.mem_filter, List.mem_range]; simp only [decide_eq_true_eq]; exact ⟨fun a => ⟨a.1, (h p a.1).1 a.2⟩, fun a => ⟨a.1, (h p a.1).2 a.2⟩⟩)
theorem siz_none : siz (fun _ => 0) = 0 := (siz_eq (L := []) List.nodup_nil (fun p => by simp)).symm
theorem Shp.none : Shp (fun _ => 0) := ⟨fun _ _ _ _ => rfl, fun _ _ => rfl, fun _ _ h => absurd rfl h⟩
theorem Shp.cong {ν ν' : Nat → Nat} (h : Shp ν) (e : ∀ p, ν p ≠ 0 ↔ ν' p ≠ 0) : Shp ν' := by
  have e2 : ∀ p, ν p = 0 ↔ ν' p = 0 := fun p => by have := e p; omega
  exact ⟨fun p a b c => (e2 p).1 (h.hole p a b ((e2 _).2 c)), fun p a => (e2 p).1 (h.out p a), fun p a b => by
    obtain ⟨i, i1, i2⟩ := h.tight p a ((e p).2 b)
    exact ⟨i, i1, (e _).1 i2⟩⟩
/-- the tree with an index more -/
def filW (ν : Nat → Nat) (k p : Nat) : Nat := if p ∈ wayP k ∧ ν p = 0 then 1 else ν p
theorem filW_nz {ν : Nat → Nat} {k p : Nat} : filW ν k p ≠ 0 ↔ p ∈ wayP k ∨ ν p ≠ 0 := by
  unfold filW
  split
  · rename_i h; simp [h.1]
  · rename_i h
    constructor
    · exact .inr
    · rintro (h1 | h1)
      · exact fun e => h ⟨h1, e⟩
      · exact h1
theorem way_nodup (k : Nat) (hk : k < 16522) : (wayP k).Nodup := by
  unfold wayP
  split
  · simp
  · split
    · simp; omega
    · simp; omega
theorem way_ix {k j : Nat} (hk : k < 16522) (hj : j < 16522) : ixP j ∈ wayP k ↔ j = k := by
  unfold wayP ixP
  split <;> split <;> (try split) <;> (try split) <;> simp <;> omega
theorem way_own (k : Nat) : ixP k ∈ wayP k := by
  unfold wayP ixP
  split
  · simp
  · split <;> simp
theorem way_lt {k p : Nat} (hk : k < 16522) (h : p ∈ wayP k) : p < 16652 := by
  unfold wayP at h
  split at h
  · simp at h; omega
  · split at h
    · simp at h; omega
    · simp at h; omega
/-- the way goes through the parents -/
theorem way_par {k p : Nat} (hk : k < 16522) (h : p ∈ wayP k) (h12 : 12 ≤ p) : par p ∈ wayP k := by
  unfold wayP at h ⊢
  split at h
  · simp at h; omega
  · split at h
    · rename_i h1 h2
      rw [if_neg h1, if_pos h2]
      simp at h
      have : p = k + 2 := by omega
      subst this
      simp [par]; omega
    · rename_i h1 h2
      rw [if_neg h1, if_neg h2]
      simp at h
      rcases h with h | h | h
      · omega
      · subst h; unfold par; rw [if_neg (by omega), if_pos (by omega)]; simp
      · subst h; unfold par; rw [if_neg (by omega), if_neg (by omega)]; simp
/-- a table on the way has a place on it -/
theorem way_kid {k p : Nat} (hk : k < 16522) (h : p ∈ wayP k) (ht : isTb p) : ∃ i, i < 128 ∧ kid p i ∈ wayP k := by
  unfold wayP at h ⊢
  unfold isTb isT1 at ht
  split at h
  · simp at h; omega
  · split at h
    · rename_i h1 h2
      rw [if_neg h1, if_pos h2]
      simp at h
      rcases h with rfl | rfl
      · exact ⟨k - 10, by omega, by simp [kid]; omega⟩
      · omega
    · rename_i h1 h2
      rw [if_neg h1, if_neg h2]
      simp at h
      rcases h with rfl | rfl | rfl
      · exact ⟨(k - 138) / 128, by omega, by simp [kid]⟩
      · refine ⟨(k - 138) % 128, by omega, ?_⟩
        have : kid (140 + (k - 138) / 128) ((k - 138) % 128) = k + 130 := by unfold kid; rw [if_neg (by omega), if_neg (by omega)]; omega
        rw [this]; simp
      · omega
theorem Shp.fil {ν : Nat → Nat} (h : Shp ν) {k : Nat} (hk : k < 16522) : Shp (filW ν k) := by
  have e2 : ∀ p, filW ν k p = 0 ↔ ¬ (p ∈ wayP k ∨ ν p ≠ 0) := fun p => by rw [← filW_nz]; exact Decidable.not_not.symm
  refine ⟨fun p a b c => (e2 p).2 ?_, fun p a => (e2 p).2 ?_, fun p a b => ?_⟩
  · have c := (e2 _).1 c
    rintro (h1 | h1)
    · exact c (.inl (way_par hk h1 a))
    · exact h1 (h.hole p a b (by by_cases e : ν (par p) = 0; exact e; exact absurd (.inr e) c))
  · rintro (h1 | h1)
    · have := way_lt hk h1; omega
    · exact h1 (h.out p a)
  · rcases filW_nz.1 b with h1 | h1
    · obtain ⟨i, i1, i2⟩ := way_kid hk h1 a
      exact ⟨i, i1, filW_nz.2 (.inl i2)⟩
    · obtain ⟨i, i1, i2⟩ := h.tight p a h1
      exact ⟨i, i1, filW_nz.2 (.inr i2)⟩
theorem fil_keys {ν : Nat → Nat} {k j : Nat} (hk : k < 16522) (hj : j < 16522) : filW ν k (ixP j) ≠ 0 ↔ j = k ∨ ν (ixP j) ≠ 0 := by rw [filW_nz, way_ix hk hj]
/-- how many are wanted -/
def zw (ν : Nat → Nat) (L : List Nat) : Nat := (L.filter fun p => decide (ν p = 0)).length
theorem siz_fil {ν : Nat → Nat} {k : Nat} (hk : k < 16522) : siz (filW ν k) = siz ν + zw ν (wayP k) := by
  have := siz_eq (ν := filW ν k) (L := ((List.range 16652).filter fun p => decide (ν p ≠ 0)) ++ ((wayP k).filter fun p => decide (ν p = 0))) ?_ ?_
  · rw [← this, List.length_append]; rfl
  · refine List.nodup_append.2 ⟨nodup_fil _ _, List.Nodup.sublist List.filter_sublist (way_nodup k hk), fun a ha b hb e => ?_⟩
    have h1 := (List.mem_filter.1 ha).2
    have h2 := (List.mem_filter.1 hb).2
    subst e
    simp at h1 h2
    exact h1 h2
  · intro p
    rw [List.mem_append, List.mem_filter, List.mem_filter, filW_nz, List.mem_range]
    simp only [decide_eq_true_eq]
    constructor
    · rintro (⟨h1, h2⟩ | ⟨h1, h2⟩)
      · exact ⟨h1, .inr h2⟩
      · exact ⟨way_lt hk h1, .inl h1⟩
    · rintro ⟨h1, h2⟩
      by_cases e : ν p = 0
      · exact .inr ⟨h2.resolve_right (fun h => h e), e⟩
      · exact .inl ⟨h1, e⟩
theorem Tks.nz {ν0 ν : Nat → Nat} {F0 F : Nat → Bool} {L : List Nat} (h : Tks ν0 F0 L ν F) (h0 : F0 0 = false) (p : Nat) : ν p ≠ 0 ↔ p ∈ L ∨ ν0 p ≠ 0 := by
  induction h with
  | nil => simp
  | @keep L ν F q hk hz ih =>
    rw [ih, List.mem_append]
    constructor
    · rintro (h | h)
      · exact .inl (.inl h)
      · exact .inr h
    · rintro ((h | h) | h)
      · exact .inl h
      · simp at h; subst h; exact ih.1 hz
      · exact .inr h
  | @take L ν F q i hk hz hlo ih =>
    have hi : i ≠ 0 := fun e => by
      subst e
      have := hk.used 0 h0
      rw [hlo.1] at this; cases this
    by_cases e : p = q
    · subst e; rw [upN_same]; simp [hi]
    · rw [upN_other _ _ e, ih, List.mem_append]
      simp [e]
theorem Tks.zeros {ν0 ν : Nat → Nat} {F0 F : Nat → Bool} {L : List Nat} {n : Nat} (h : Tks ν0 F0 L ν F) (hl : L.Nodup) (hn : ∀ b, F0 b = true → b < n) : ct F0 n = ct F n + zw ν0 L := by
  induction h with
  | nil => rfl
  | @keep L ν F q hk hz ih =>
    have h2 := List.nodup_append.1 hl
    rw [ih h2.1]
    have : ν q = ν0 q := hk.off q (fun e => h2.2.2 q e q (by simp) rfl)
    unfold zw
    rw [List.filter_append]
    rw [this] at hz
    simp [hz]
  | @take L ν F q i hk hz hlo ih =>
    have h2 := List.nodup_append.1 hl
    have hq : ν q = ν0 q := hk.off q (fun e => h2.2.2 q e q (by simp) rfl)
    have hi : i < n := by
      refine hn i ?_
      cases hF : F0 i
      · have := hk.used i hF
        rw [hlo.1] at this
        cases this
      · rfl
    have := ct_set (f := F) hi false
    have e : ct (upN F i false) n + 1 = ct F n := by
      unfold upN
      rw [hlo.1] at this
      simpa using this
    have ih := ih h2.1
    unfold zw at ih ⊢
    rw [List.filter_append, List.length_append]
    rw [hq] at hz
    simp [hz]
    omega
end Go.Proofs.YtjmdjagfekloaaaGreatDoor
