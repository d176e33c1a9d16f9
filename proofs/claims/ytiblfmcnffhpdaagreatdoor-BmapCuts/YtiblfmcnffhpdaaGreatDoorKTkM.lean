import Derived.Test.YtiblfmcnffhpdaaGreatDoorKCvM
import Derived.Test.YtiblfmcnffhpdaaGreatDoorKTvD
import Derived.Maps.RangeWalk
import Derived.Maps.OwnOps
import Derived.Maps.OwnSet
import Derived.Maps.Ext
namespace Go.Proofs.YtiblfmcnffhpdaaGreatDoor
open Rec
theorem sub_len {α : Type} [BEq α] [LawfulBEq α] : ∀ {l m : List α}, l.Nodup → (∀ x, x ∈ l → x ∈ m) → l.length ≤ m.length
  | [], _, _, _ => Nat.zero_le _
  | a :: l, m, hn, h => by
    have hm := h a (by simp)
    have hn2 := List.nodup_cons.1 hn
    have := sub_len (l := l) (m := m.erase a) hn2.2 (fun x hx => (List.mem_erase_of_ne (fun (e : x = a) => hn2.1 (e ▸ hx))).2 (h x (List.mem_cons_of_mem _ hx)))
    rw [List.length_erase_of_mem hm] at this
    have := List.length_pos_of_mem hm
    simp
    omega
theorem same_len {α : Type} [BEq α] [LawfulBEq α] {l m : List α} (hl : l.Nodup) (hm : m.Nodup) (h : ∀ x, x ∈ l ↔ x ∈ m) : l.length = m.length :=
  Nat.le_antisymm (sub_len hl (fun x hx => (h x).1 hx)) (sub_len hm (fun x hx => (h x).2 hx))
theorem nodup_mapOn {α β : Type} {f : α → β} : ∀ {l : List α}, l.Nodup → (∀ x y, x ∈ l → y ∈ l → f x = f y → x = y) → (l.map f).Nodup
  | [], _, _ => by simp
  | a :: l, hn, h => by
    have hn2 := List.nodup_cons.1 hn
    rw [List.map_cons, List.nodup_cons]
    refine ⟨fun hx => ?_, nodup_mapOn hn2.2 (fun x y hx hy => h x y (List.mem_cons_of_mem _ hx) (List.mem_cons_of_mem _ hy))⟩
    obtain ⟨y, hy, e⟩ := List.mem_map.1 hx
    exact hn2.1 ((h y a (List.mem_cons_of_mem _ hy) (by simp) e) ▸ hy)
def isTb (p : Nat) : Prop := p = 11 ∨ isT1 p
structure Shp (ν : Nat → Nat) : Prop where
  hole : ∀ p, 12 ≤ p → p < 16652 → ν (par p) = 0 → ν p = 0
  out : ∀ p, 16652 ≤ p → ν p = 0
  tight : ∀ p, isTb p → ν p ≠ 0 → ∃ i, i < 128 ∧ ν (kid p i) ≠ 0
def tbI (k : Nat) : List Int := if 138 ≤ k then [-1, (((k - 138) / 128 : Nat) : Int)] else if 10 ≤ k then [-2] else []
def posI (t : Int) : Nat := if t = -1 then 11 else if t = -2 then 10 else 140 + t.toNat
theorem ixP_lt {k : Nat} (h : k < 16522) : ixP k < 16652 ∧ ¬ isTb (ixP k) := by
  unfold ixP isTb isT1
  split
  · omega
  · split <;> omega
theorem pos_or {p : Nat} (h : p < 16652) : isTb p ∨ ∃ k, k < 16522 ∧ ixP k = p := by
  by_cases h1 : p < 10
  · exact .inr ⟨p, by omega, by unfold ixP; rw [if_pos h1]⟩
  · by_cases h2 : p < 12
    · exact .inl (by unfold isTb isT1; omega)
    · by_cases h3 : p < 140
      · exact .inr ⟨p - 2, by omega, by unfold ixP; rw [if_neg (by omega), if_pos (by omega)]; omega⟩
      · by_cases h4 : p < 268
        · exact .inl (by unfold isTb isT1; omega)
        · exact .inr ⟨p - 130, by omega, by unfold ixP; rw [if_neg (by omega), if_neg (by omega)]; omega⟩
theorem tbI_pos {k : Nat} {t : Int} (hk : k < 16522) (h : t ∈ tbI k) : isTb (posI t) ∧ (t = -1 ∨ t = -2 ∨ (0 ≤ t ∧ t < 128)) ∧ posI t ∈ wayP k := by
  unfold tbI at h
  split at h
  · have h : t = -1 ∨ t = (((k - 138) / 128 : Nat) : Int) := by simpa only [List.mem_cons, List.not_mem_nil, or_false] using h
    have e : wayP k = [11, 140 + (k - 138) / 128, k + 130] := by unfold wayP; rw [if_neg (by omega), if_neg (by omega)]
    rcases h with rfl | rfl
    · rw [e]; refine ⟨.inl rfl, .inl rfl, ?_⟩; simp [posI]
    · have e2 : posI (((k - 138) / 128 : Nat) : Int) = 140 + (k - 138) / 128 := by unfold posI; rw [if_neg (by omega), if_neg (by omega), Int.toNat_natCast]
      rw [e, e2]
      exact ⟨.inr (.inr (by omega)), .inr (.inr (by omega)), by simp⟩
  · split at h
    · simp at h
      subst h
      have e : wayP k = [10, k + 2] := by unfold wayP; rw [if_neg (by omega), if_pos (by omega)]
      rw [e]
      exact ⟨.inr (.inl rfl), .inr (.inl rfl), by simp [posI]⟩
    · simp at h
theorem posI_inj {t s : Int} (ht : t = -1 ∨ t = -2 ∨ (0 ≤ t ∧ t < 128)) (hs : s = -1 ∨ s = -2 ∨ (0 ≤ s ∧ s < 128)) (h : posI t = posI s) : t = s := by
  unfold posI at h
  split at h <;> split at h <;> (try split at h) <;> (try split at h) <;> omega
theorem Shp.way {ν : Nat → Nat} (h : Shp ν) {k : Nat} (hk : k < 16522) (h0 : ν (ixP k) ≠ 0) : ∀ p, p ∈ wayP k → ν p ≠ 0 := by
  intro p hp
  unfold wayP at hp
  unfold ixP at h0
  split at hp
  · rename_i h1
    rw [if_pos h1] at h0
    simp at hp; subst hp; exact h0
  · rename_i h1
    rw [if_neg h1] at h0
    split at hp
    · rename_i h2
      rw [if_pos h2] at h0
      simp at hp
      rcases hp with rfl | rfl
      · intro e
        exact h0 (h.hole (k + 2) (by omega) (by omega) (by unfold par; rw [if_pos (by omega)]; exact e))
      · exact h0
    · rename_i h2
      rw [if_neg h2] at h0
      have e1 : par (k + 130) = 140 + (k - 138) / 128 := by unfold par; rw [if_neg (by omega), if_neg (by omega)]; omega
      have n1 : ν (140 + (k - 138) / 128) ≠ 0 := fun e => h0 (h.hole (k + 130) (by omega) (by omega) (by rw [e1]; exact e))
      simp at hp
      rcases hp with rfl | rfl | rfl
      · intro e
        exact n1 (h.hole _ (by omega) (by omega) (by unfold par; rw [if_neg (by omega), if_pos (by omega)]; exact e))
      · exact n1
      · exact h0
theorem Shp.below {ν : Nat → Nat} (h : Shp ν) {p : Nat} (hp : isTb p) (h0 : ν p ≠ 0) : ∃ k t, k < 16522 ∧ ν (ixP k) ≠ 0 ∧ t ∈ tbI k ∧ posI t = p := by
  have t1 : ∀ q, isT1 q → ν q ≠ 0 → ∃ k t, k < 16522 ∧ ν (ixP k) ≠ 0 ∧ t ∈ tbI k ∧ posI t = q := by
    intro q hq hz
    obtain ⟨i, hi, hn⟩ := h.tight q (.inr hq) hz
    rcases hq with rfl | hq
    · refine ⟨i + 10, -2, by omega, ?_, ?_, by simp [posI]⟩
      · have e : ixP (i + 10) = kid 10 i := by unfold ixP kid; rw [if_neg (by omega), if_pos (by omega), if_pos rfl]; omega
        rw [e]; exact hn
      · unfold tbI; rw [if_neg (by omega), if_pos (by omega)]; simp
    · refine ⟨138 + 128 * (q - 140) + i, ((q - 140 : Nat) : Int), by omega, ?_, ?_, ?_⟩
      · have e : ixP (138 + 128 * (q - 140) + i) = kid q i := by unfold ixP kid; rw [if_neg (by omega), if_neg (by omega), if_neg (by omega), if_neg (by omega)]; omega
        rw [e]; exact hn
      · unfold tbI; rw [if_pos (by omega)]
        have : (138 + 128 * (q - 140) + i - 138) / 128 = q - 140 := by omega
        rw [this]; simp
      · unfold posI; rw [if_neg (by omega), if_neg (by omega)]; simp; omega
  rcases hp with rfl | hp
  · obtain ⟨i, hi, hn⟩ := h.tight 11 (.inl rfl) h0
    obtain ⟨k, t, k1, k2, k3, k4⟩ := t1 (kid 11 i) (kid11 i hi).2.1 hn
    refine ⟨k, -1, k1, k2, ?_, by simp [posI]⟩
    have e := (kid11 i hi).1
    rw [e] at k4
    unfold tbI at k3 ⊢
    split at k3
    · rename_i hk; rw [if_pos hk]; simp
    · split at k3
      · simp at k3; subst k3; simp [posI] at k4; omega
      · simp at k3
  · exact t1 p hp h0
def siz (ν : Nat → Nat) : Nat := ((List.range 16652).filter fun p => decide (ν p ≠ 0)).length
theorem nodup_fil (n : Nat) (f : Nat → Bool) : ((List.range n).filter f).Nodup := List.Nodup.sublist List.filter_sublist List.nodup_range
theorem siz_eq {ν : Nat → Nat} {L : List Nat} (hn : L.Nodup) (h : ∀ p, p ∈ L ↔ p < 16652 ∧ ν p ≠ 0) : L.length = siz ν :=
  same_len hn (nodup_fil _ _) (fun p => by rw [h p, List.mem_filter, List.mem_range]; simp)
theorem takes_len {ν : Nat → Nat} (h : Shp ν) {ks : List Nat} {ts : List Int} (hks : ks.Nodup) (hts : ts.Nodup) (hk : ∀ k, k ∈ ks ↔ k < 16522 ∧ ν (ixP k) ≠ 0) (ht : ∀ t, t ∈ ts ↔ ∃ k, k ∈ ks ∧ t ∈ tbI k) : ks.length + ts.length = siz ν := by
  have ht2 : ∀ t, t ∈ ts → isTb (posI t) ∧ (t = -1 ∨ t = -2 ∨ (0 ≤ t ∧ t < 128)) ∧ ν (posI t) ≠ 0 := fun t hx => by
    obtain ⟨k, k1, k2⟩ := (ht t).1 hx
    obtain ⟨k3, k4⟩ := (hk k).1 k1
    obtain ⟨p1, p2, p3⟩ := tbI_pos k3 k2
    exact ⟨p1, p2, h.way k3 k4 _ p3⟩
  have := siz_eq (ν := ν) (L := ks.map ixP ++ ts.map posI) ?_ ?_
  · rw [← this, List.length_append, List.length_map, List.length_map]
  · refine List.nodup_append.2 ⟨nodup_mapOn hks (fun x y _ _ e => ixP_inj e), nodup_mapOn hts (fun x y hx hy e => posI_inj (ht2 x hx).2.1 (ht2 y hy).2.1 e), ?_⟩
    intro a ha b hb e
    obtain ⟨k, k1, rfl⟩ := List.mem_map.1 ha
    obtain ⟨t, t1, rfl⟩ := List.mem_map.1 hb
    exact (ixP_lt ((hk k).1 k1).1).2 (e ▸ (ht2 t t1).1)
  · intro p
    rw [List.mem_append, List.mem_map, List.mem_map]
    constructor
    · rintro (⟨k, k1, rfl⟩ | ⟨t, t1, rfl⟩)
      · exact ⟨(ixP_lt ((hk k).1 k1).1).1, ((hk k).1 k1).2⟩
      · refine ⟨?_, (ht2 t t1).2.2⟩
        have := (ht2 t t1).1
        unfold isTb isT1 at this
        omega
    · rintro ⟨p1, p2⟩
      rcases pos_or p1 with hp | ⟨k, k1, rfl⟩
      · obtain ⟨k, t, k1, k2, k3, k4⟩ := h.below hp p2
        exact .inr ⟨t, (ht t).2 ⟨k, (hk k).2 ⟨k1, k2⟩, k3⟩, k4⟩
      · exact .inl ⟨k, (hk k).2 ⟨k1, p2⟩, rfl⟩
theorem siz_cong {ν ν' : Nat → Nat} (h : ∀ p, p < 16652 → (ν p ≠ 0 ↔ ν' p ≠ 0)) : siz ν = siz ν' := by
  exact siz_eq (nodup_fil _ _) (fun p => by rw [List.mem_filter, List.mem_range]; simp only [decide_eq_true_eq]; exact ⟨fun a => ⟨a.1, (h p a.1).1 a.2⟩, fun a => ⟨a.1, (h p a.1).2 a.2⟩⟩)
theorem Shp.none : Shp (fun _ => 0) := ⟨fun _ _ _ _ => rfl, fun _ _ => rfl, fun _ _ h => absurd rfl h⟩
theorem Shp.cong {ν ν' : Nat → Nat} (h : Shp ν) (e : ∀ p, ν p ≠ 0 ↔ ν' p ≠ 0) : Shp ν' := by
  have e2 : ∀ p, ν p = 0 ↔ ν' p = 0 := fun p => by have := e p; omega
  exact ⟨fun p a b c => (e2 p).1 (h.hole p a b ((e2 _).2 c)), fun p a => (e2 p).1 (h.out p a), fun p a b => by
    obtain ⟨i, i1, i2⟩ := h.tight p a ((e p).2 b)
    exact ⟨i, i1, (e _).1 i2⟩⟩
def filW (ν : Nat → Nat) (k p : Nat) : Nat := if p ∈ wayP k ∧ ν p = 0 then 1 else ν p
theorem filW_nz {ν : Nat → Nat} {k p : Nat} : filW ν k p ≠ 0 ↔ p ∈ wayP k ∨ ν p ≠ 0 := by
  unfold filW
  split
  · rename_i h; simp [h.1]
  · rename_i h
    constructor
    · exact .inr
    · rintro (h1 | h1)
      · exact fun e => h ⟨h1, e⟩
      · exact h1
theorem way_nodup (k : Nat) (hk : k < 16522) : (wayP k).Nodup := by
  unfold wayP
  split
  · simp
  · split
    · simp; omega
    · simp; omega
theorem way_ix {k j : Nat} (hk : k < 16522) (hj : j < 16522) : ixP j ∈ wayP k ↔ j = k := by
  unfold wayP ixP
  split <;> split <;> (try split) <;> (try split) <;> simp <;> omega
theorem way_lt {k p : Nat} (hk : k < 16522) (h : p ∈ wayP k) : p < 16652 := by
  unfold wayP at h
  split at h
  · simp at h; omega
  · split at h
    · simp at h; omega
    · simp at h; omega
theorem way_par {k p : Nat} (hk : k < 16522) (h : p ∈ wayP k) (h12 : 12 ≤ p) : par p ∈ wayP k := by
  unfold wayP at h ⊢
  split at h
  · simp at h; omega
  · split at h
    · rename_i h1 h2
      rw [if_neg h1, if_pos h2]
      simp at h
      have : p = k + 2 := by omega
      subst this
      simp [par]; omega
    · rename_i h1 h2
      rw [if_neg h1, if_neg h2]
      simp at h
      rcases h with h | h | h
      · omega
      · subst h; unfold par; rw [if_neg (by omega), if_pos (by omega)]; simp
      · subst h; unfold par; rw [if_neg (by omega), if_neg (by omega)]; simp
theorem way_kid {k p : Nat} (hk : k < 16522) (h : p ∈ wayP k) (ht : isTb p) : ∃ i, i < 128 ∧ kid p i ∈ wayP k := by
  unfold wayP at h ⊢
  unfold isTb isT1 at ht
  split at h
  · simp at h; omega
  · split at h
    · rename_i h1 h2
      rw [if_neg h1, if_pos h2]
      simp at h
      rcases h with rfl | rfl
      · exact ⟨k - 10, by omega, by simp [kid]; omega⟩
      · omega
    · rename_i h1 h2
      rw [if_neg h1, if_neg h2]
      simp at h
      rcases h with rfl | rfl | rfl
      · exact ⟨(k - 138) / 128, by omega, by simp [kid]⟩
      · refine ⟨(k - 138) % 128, by omega, ?_⟩
        have : kid (140 + (k - 138) / 128) ((k - 138) % 128) = k + 130 := by unfold kid; rw [if_neg (by omega), if_neg (by omega)]; omega
        rw [this]; simp
      · omega
theorem Shp.fil {ν : Nat → Nat} (h : Shp ν) {k : Nat} (hk : k < 16522) : Shp (filW ν k) := by
  have e2 : ∀ p, filW ν k p = 0 ↔ ¬ (p ∈ wayP k ∨ ν p ≠ 0) := fun p => by rw [← filW_nz]; exact Decidable.not_not.symm
  refine ⟨fun p a b c => (e2 p).2 ?_, fun p a => (e2 p).2 ?_, fun p a b => ?_⟩
  · have c := (e2 _).1 c
    rintro (h1 | h1)
    · exact c (.inl (way_par hk h1 a))
    · exact h1 (h.hole p a b (by by_cases e : ν (par p) = 0; exact e; exact absurd (.inr e) c))
  · rintro (h1 | h1)
    · have := way_lt hk h1; omega
    · exact h1 (h.out p a)
  · rcases filW_nz.1 b with h1 | h1
    · obtain ⟨i, i1, i2⟩ := way_kid hk h1 a
      exact ⟨i, i1, filW_nz.2 (.inl i2)⟩
    · obtain ⟨i, i1, i2⟩ := h.tight p a h1
      exact ⟨i, i1, filW_nz.2 (.inr i2)⟩
theorem fil_keys {ν : Nat → Nat} {k j : Nat} (hk : k < 16522) (hj : j < 16522) : filW ν k (ixP j) ≠ 0 ↔ j = k ∨ ν (ixP j) ≠ 0 := by rw [filW_nz, way_ix hk hj]
def zw (ν : Nat → Nat) (L : List Nat) : Nat := (L.filter fun p => decide (ν p = 0)).length
theorem siz_fil {ν : Nat → Nat} {k : Nat} (hk : k < 16522) : siz (filW ν k) = siz ν + zw ν (wayP k) := by
  have := siz_eq (ν := filW ν k) (L := ((List.range 16652).filter fun p => decide (ν p ≠ 0)) ++ ((wayP k).filter fun p => decide (ν p = 0))) ?_ ?_
  · rw [← this, List.length_append]; rfl
  · refine List.nodup_append.2 ⟨nodup_fil _ _, List.Nodup.sublist List.filter_sublist (way_nodup k hk), fun a ha b hb e => ?_⟩
    have h1 := (List.mem_filter.1 ha).2
    have h2 := (List.mem_filter.1 hb).2
    subst e
    simp at h1 h2
    exact h1 h2
  · intro p
    rw [List.mem_append, List.mem_filter, List.mem_filter, filW_nz, List.mem_range]
    simp only [decide_eq_true_eq]
    constructor
    · rintro (⟨h1, h2⟩ | ⟨h1, h2⟩)
      · exact ⟨h1, .inr h2⟩
      · exact ⟨way_lt hk h1, .inl h1⟩
    · rintro ⟨h1, h2⟩
      by_cases e : ν p = 0
      · exact .inr ⟨h2.resolve_right (fun h => h e), e⟩
      · exact .inl ⟨h1, e⟩
theorem Tks.nz {ν0 ν : Nat → Nat} {F0 F : Nat → Bool} {L : List Nat} (h : Tks ν0 F0 L ν F) (h0 : F0 0 = false) (p : Nat) : ν p ≠ 0 ↔ p ∈ L ∨ ν0 p ≠ 0 := by
  induction h with
  | nil => simp
  | @keep L ν F q hk hz ih =>
    rw [ih, List.mem_append]
    constructor
    · rintro (h | h)
      · exact .inl (.inl h)
      · exact .inr h
    · rintro ((h | h) | h)
      · exact .inl h
      · simp at h; subst h; exact ih.1 hz
      · exact .inr h
  | @take L ν F q i hk hz hlo ih =>
    have hi : i ≠ 0 := fun e => by
      subst e
      have := hk.used 0 h0
      rw [hlo.1] at this; cases this
    by_cases e : p = q
    · subst e; rw [upN_same]; simp [hi]
    · rw [upN_other _ _ e, ih, List.mem_append]
      simp [e]
theorem Tks.zeros {ν0 ν : Nat → Nat} {F0 F : Nat → Bool} {L : List Nat} {n : Nat} (h : Tks ν0 F0 L ν F) (hl : L.Nodup) (hn : ∀ b, F0 b = true → b < n) : ct F0 n = ct F n + zw ν0 L := by
  induction h with
  | nil => rfl
  | @keep L ν F q hk hz ih =>
    have h2 := List.nodup_append.1 hl
    rw [ih h2.1]
    have : ν q = ν0 q := hk.off q (fun e => h2.2.2 q e q (by simp) rfl)
    unfold zw
    rw [List.filter_append]
    rw [this] at hz
    simp [hz]
  | @take L ν F q i hk hz hlo ih =>
    have h2 := List.nodup_append.1 hl
    have hq : ν q = ν0 q := hk.off q (fun e => h2.2.2 q e q (by simp) rfl)
    have hi : i < n := by
      refine hn i ?_
      cases hF : F0 i
      · have := hk.used i hF
        rw [hlo.1] at this
        cases this
      · rfl
    have := ct_set (f := F) hi false
    have e : ct (upN F i false) n + 1 = ct F n := by
      unfold upN
      rw [hlo.1] at this
      simpa using this
    have ih := ih h2.1
    unfold zw at ih ⊢
    rw [List.filter_append, List.length_append]
    rw [hq] at hz
    simp [hz]
    omega
open Go.RowKit Go.Maps Rec
theorem lawI : Keyed Tryz.prog 3 := int_keyed Tryz.underlying3
theorem zeroI (w : World) : (zeroValue 3).run Tryz.prog w = .ok (.int .i64 0) w := by kernel_rfl
abbrev kI (z : Int) : Lit := .int .i64 z
theorem isK (z : Int) : WideAt.IsKeyLit (kI z) := trivial
abbrev OwM (w : World) (b n : Nat) (D : DataW Unit) : Prop := w.ownsMap Tryz.prog 3 (plainElem Tryz.prog 3) b n D
structure MpL (D : DataW Unit) (ks : List (Int × Int)) : Prop where
  tidy : Tidy D
  has : ∀ z, Maps.has D (kI z) = decide (z ∈ ks.map Prod.fst)
  at_ : ∀ z v, (z, v) ∈ ks → ∀ d, D.atKey (kI z) d = .lit (.int .i64 v)
  nd : (ks.map Prod.fst).Nodup
  size : Maps.size D = ks.length
def MpAt (w : World) (b : Nat) (ks : List (Int × Int)) : Prop := ∃ D, OwM w b ks.length D ∧ MpL D ks
theorem ownsMap_tight {w : World} {b n : Nat} {D : DataW Unit} (h : OwM w b n D) : OwM w b (Maps.size D) D := by
  obtain ⟨es, clock, hb, F, hn, rfl⟩ := h
  exact ⟨es, clock, hb, F, by rw [Maps.size_eq, length_read]; exact Nat.le_refl _, rfl⟩
theorem MpAt.of {w : World} {b n : Nat} {D : DataW Unit} {ks : List (Int × Int)} (h : OwM w b n D) (hl : MpL D ks) : MpAt w b ks := ⟨D, by rw [← hl.size]; exact ownsMap_tight h, hl⟩
theorem MpL.none : MpL (.map []) [] := ⟨tidy_empty, fun z => by simp [Maps.has], fun z v h => by simp at h, by simp, rfl⟩
theorem mpAt_made (w : World) : MpAt (w.alloc (.map #[] 0)) w.heap.size [] := ⟨_, World.ownsMap_made _ _ _ _, MpL.none⟩
theorem MpAt.kept {w w' : World} {row : Option Nat} {b : Nat} {ks : List (Int × Int)} (h : MpAt w b ks) (hg : w.grownBy w' row) (hne : some b ≠ row) : MpAt w' b ks := let ⟨D, h1, h2⟩ := h; ⟨D, h1.kept hg hne, h2⟩
theorem MpAt.lt {w : World} {b : Nat} {ks : List (Int × Int)} (h : MpAt w b ks) : b < w.heap.size := let ⟨_, h1, _⟩ := h; h1.lt
theorem MpAt.hp {w w' : World} {b : Nat} {ks : List (Int × Int)} (h : MpAt w b ks) (e : w'.heap[b]? = w.heap[b]?) : MpAt w' b ks := by
  obtain ⟨D, ⟨es, clock, hb, F, hn, rfl⟩, h2⟩ := h
  exact ⟨_, ⟨es, clock, by rw [e]; exact hb, F, hn, rfl⟩, h2⟩
theorem MpAt.on {w w' : World} {b : Nat} {ks : List (Int × Int)} (h : MpAt w b ks) (hb : Below w.heap.size w w') : MpAt w' b ks := h.hp (hb.block _ h.lt)
theorem kI_ne {z y : Int} (h : z ≠ y) : kI z ≠ kI y := fun e => h (by injection e)
theorem MpL.put {D : DataW Unit} {ks : List (Int × Int)} (h : MpL D ks) (z v : Int) : ∃ ks', MpL (D.put (kI z) (.lit (.int .i64 v))) ks' ∧ (∀ t, t ∈ ks'.map Prod.fst ↔ t = z ∨ t ∈ ks.map Prod.fst) ∧ (∀ t u, (t, u) ∈ ks' ↔ (t = z ∧ u = v) ∨ (t ≠ z ∧ (t, u) ∈ ks)) ∧ (z ∉ ks.map Prod.fst → ks' = ks ++ [(z, v)]) := by
  have hm := h.tidy.isMap
  have hh : ∀ y, Maps.has (D.put (kI z) (.lit (.int .i64 v))) (kI y) = (decide (y = z) || decide (y ∈ ks.map Prod.fst)) := fun y => by
    by_cases e : y = z
    · subst e; rw [has_put_same hm (isK _)]; simp
    · rw [has_put_other (kI_ne e), h.has]; simp [e]
  by_cases hz : z ∈ ks.map Prod.fst
  · have hfst : (ks.map fun q : Int × Int => if q.1 = z then (z, v) else q).map Prod.fst = ks.map Prod.fst := by
      rw [List.map_map]
      apply List.map_congr_left
      intro q _
      simp only [Function.comp]
      split
      · rename_i e; exact e.symm
      · rfl
    have hmem : ∀ t u, (t, u) ∈ (ks.map fun q : Int × Int => if q.1 = z then (z, v) else q) ↔ (t = z ∧ u = v) ∨ (t ≠ z ∧ (t, u) ∈ ks) := fun t u => by
      rw [List.mem_map]
      constructor
      · rintro ⟨q, q1, q2⟩
        split at q2
        · injection q2 with e1 e2; exact .inl ⟨e1.symm, e2.symm⟩
        · rename_i e
          subst q2
          exact .inr ⟨e, q1⟩
      · rintro (⟨rfl, rfl⟩ | ⟨e, q1⟩)
        · obtain ⟨q, q1, q2⟩ := List.mem_map.1 hz
          exact ⟨q, q1, by rw [if_pos q2]⟩
        · exact ⟨(t, u), q1, by rw [if_neg e]⟩
    refine ⟨ks.map fun q => if q.1 = z then (z, v) else q, ⟨h.tidy.put (isK _) _, fun y => ?_, fun y u hy d => ?_, by rw [hfst]; exact h.nd, ?_⟩, fun t => ?_, hmem, fun e => absurd hz e⟩
    · rw [hh, hfst]
      by_cases e : y = z
      · subst e; simp [hz]
      · simp [e]
    · rcases (hmem y u).1 hy with ⟨rfl, rfl⟩ | ⟨e, q1⟩
      · rw [atKey_put_same hm (isK _)]
      · rw [atKey_put_other (kI_ne e), h.at_ y u q1]
    · rw [size_put h.tidy, h.has, h.size]; simp [hz]
    · rw [hfst]
      constructor
      · exact .inr
      · rintro (rfl | e)
        · exact hz
        · exact e
  · have hmem : ∀ t u, (t, u) ∈ ks ++ [(z, v)] ↔ (t = z ∧ u = v) ∨ (t ≠ z ∧ (t, u) ∈ ks) := fun t u => by
      rw [List.mem_append, List.mem_singleton]
      constructor
      · rintro (q1 | q1)
        · exact .inr ⟨fun e => hz (e ▸ List.mem_map.2 ⟨_, q1, rfl⟩), q1⟩
        · injection q1 with e1 e2; exact .inl ⟨e1, e2⟩
      · rintro (⟨rfl, rfl⟩ | ⟨_, q1⟩)
        · exact .inr rfl
        · exact .inl q1
    refine ⟨ks ++ [(z, v)], ⟨h.tidy.put (isK _) _, fun y => ?_, fun y u hy d => ?_, ?_, ?_⟩, fun t => ?_, hmem, fun _ => rfl⟩
    · rw [hh]
      by_cases e : y = z
      · simp [e]
      · simp [e]
    · rcases (hmem y u).1 hy with ⟨rfl, rfl⟩ | ⟨e, q1⟩
      · rw [atKey_put_same hm (isK _)]
      · rw [atKey_put_other (kI_ne e), h.at_ y u q1]
    · rw [List.map_append]
      refine List.nodup_append.2 ⟨h.nd, by simp, fun a ha b hb e => ?_⟩
      simp at hb
      subst hb
      subst e
      exact hz ha
    · rw [size_put h.tidy, h.has, h.size]; simp [hz]
    · rw [List.map_append, List.mem_append]
      constructor
      · rintro (e | e)
        · exact .inr e
        · simp at e; exact .inl e
      · rintro (rfl | e)
        · exact .inr (by simp)
        · exact .inl e
theorem MpL.at0 {D : DataW Unit} {ks : List (Int × Int)} (h : MpL D ks) {z c : Int} (hz : z ∉ ks.map Prod.fst) (ha : D.atKey (kI z) (.lit (.int .i64 0)) = .lit (.int .i64 c)) : c = 0 := by
  rw [atKey_of_not_has (by rw [h.has]; simpa using hz)] at ha
  injection ha with ha
  injection ha with _ ha
  exact ha.symm
theorem MpL.at1 {D : DataW Unit} {ks : List (Int × Int)} (h : MpL D ks) {z c v : Int} (hz : (z, v) ∈ ks) {d : DataW Unit} (ha : D.atKey (kI z) d = .lit (.int .i64 c)) : c = v := by
  rw [h.at_ z v hz] at ha
  injection ha with ha
  injection ha with _ ha
  exact ha.symm
theorem wf64 {z : Int} (h : -9223372036854775808 ≤ z ∧ z ≤ 9223372036854775807) : (kI z).wf = true := by
  have hmin : IntKind.i64.min = -9223372036854775808 := rfl
  have hmax : IntKind.i64.max = 9223372036854775807 := rfl
  simp only [Lit.wf, Bool.and_eq_true, decide_eq_true_eq]
  omega
def TkI (ks ts : List (Int × Int)) (left : Lit → Bool) : Prop := ∀ t, t ∈ ts.map Prod.fst ↔ ∃ z, z ∈ ks.map Prod.fst ∧ left (kI z) = false ∧ t ∈ tbI z.toNat
theorem TkI.step {ks ts ts' : List (Int × Int)} {left : Lit → Bool} {z : Int} (h : TkI ks ts left) (hz : z ∈ ks.map Prod.fst) (hl : left (kI z) = true) (ht : ∀ t, t ∈ ts'.map Prod.fst ↔ t ∈ tbI z.toNat ∨ t ∈ ts.map Prod.fst) : TkI ks ts' (fun y => left y && !y.sameKey (kI z)) := fun t => by
  rw [ht t, h t]
  constructor
  · rintro (h1 | ⟨y, y1, y2, y3⟩)
    · exact ⟨z, hz, by simp [WideAt.sameKey_self (isK z)], h1⟩
    · exact ⟨y, y1, by simp [y2], y3⟩
  · rintro ⟨y, y1, y2, y3⟩
    by_cases e : y = z
    · subst e; exact .inl y3
    · have e2 := sameKey_ne (kI_ne e)
      simp [e2] at y2
      exact .inr ⟨y, y1, y2, y3⟩
theorem takes_siz {ν : Nat → Nat} {ks ts : List (Int × Int)} (hs : Shp ν) (hk : ∀ z, z ∈ ks.map Prod.fst ↔ ∃ k : Nat, k < 16522 ∧ ν (ixP k) ≠ 0 ∧ z = (k : Int)) (hnd : (ks.map Prod.fst).Nodup) (htd : (ts.map Prod.fst).Nodup) (ht : ∀ t, t ∈ ts.map Prod.fst ↔ ∃ z, z ∈ ks.map Prod.fst ∧ t ∈ tbI z.toNat) : ks.length + ts.length = siz ν := by
  have h1 := takes_len (ks := (ks.map Prod.fst).map Int.toNat) (ts := ts.map Prod.fst) hs (nodup_mapOn hnd (fun x y hx hy e => by
    obtain ⟨a, _, _, rfl⟩ := (hk x).1 hx
    obtain ⟨b, _, _, rfl⟩ := (hk y).1 hy
    rw [Int.toNat_natCast, Int.toNat_natCast] at e
    rw [e])) htd (fun k => ?_) (fun t => ?_)
  · simpa using h1
  · rw [List.mem_map]
    constructor
    · rintro ⟨z, z1, rfl⟩
      obtain ⟨a, a1, a2, rfl⟩ := (hk z).1 z1
      rw [Int.toNat_natCast]
      exact ⟨a1, a2⟩
    · rintro ⟨a1, a2⟩
      exact ⟨(k : Int), (hk _).2 ⟨k, a1, a2, rfl⟩, Int.toNat_natCast _⟩
  · rw [ht t]
    constructor
    · rintro ⟨z, z1, z2⟩
      exact ⟨z.toNat, List.mem_map.2 ⟨z, z1, rfl⟩, z2⟩
    · rintro ⟨k, k1, k2⟩
      obtain ⟨z, z1, rfl⟩ := List.mem_map.1 k1
      exact ⟨z, z1, k2⟩
set_option maxRecDepth 100000 in
set_option maxHeartbeats 4000000 in
theorem takes_any (w : World) (b : Nat) (ks : List (Int × Int)) (hm : MpAt w b ks) (ν : Nat → Nat) (hs : Shp ν) (hk : ∀ z, z ∈ ks.map Prod.fst ↔ ∃ k : Nat, k < 16522 ∧ ν (ixP k) ≠ 0 ∧ z = (k : Int)) :
    Calls Tryz.prog 11 #[.map (some b)] w fun e w' => e = .returned (.int .i64 (siz ν : Nat)) ∧ Below w.heap.size w w' := by
  obtain ⟨D, hown, hL⟩ := hm
  have HL : Hid (MpL D ks) := hL
  have HS : Hid (Shp ν) := hs
  have HK : Hid (∀ z, z ∈ ks.map Prod.fst ↔ ∃ k : Nat, k < 16522 ∧ ν (ixP k) ≠ 0 ∧ z = (k : Int)) := hk
  have HKl : Hid (ks.length ≤ 16522) := by
    have h1 : (ks.map Prod.fst).length ≤ ((List.range 16522).map fun k : Nat => (k : Int)).length := sub_len hL.nd (fun x hx => by
      obtain ⟨k, k1, _, k3⟩ := (hk x).1 hx
      exact List.mem_map.2 ⟨k, List.mem_range.2 k1, k3.symm⟩)
    have h2 : ks.length ≤ 16522 := by simpa using h1
    exact h2
  obtain ⟨n, hn⟩ : ∃ n, ks.length = n := ⟨_, rfl⟩
  rw [hn] at hown
  have HN : Hid (ks.length = n) := hn
  have hbl := hown.lt
  clear hL hs hk hn
  have hmm := @run_makeMap Tryz.prog
  have e1 : (w.alloc (.map #[] 0)).heap.size = w.heap.size + 1 := by simp
  go_enter Tryz.func11, Tryz.ntmps11
  go_upto_region 3 with (first
    | (at_range; refine wpList_range_own _ rfl _ 36 rfl 3 3 lawI Tryz.underlying36 _ b n _ rfl (hown.alloc _) ?_; intro w0 hrg0 hg0 hs0)
    | go_in)
  go_frame
  rw [e1] at hrg0 hs0 ⊢
  go_loopw [4] (fun _ wr => ∃ (left : Lit → Bool) (cnt m : Nat) (E : DataW Unit) (ts : List (Int × Int)), wr.ranges Tryz.prog 3 (plainElem Tryz.prog 3) b (w.heap.size + 1) n D left cnt ∧ cnt ≤ 16522 ∧ (∀ z, left (kI z) = true → z ∈ ks.map Prod.fst) ∧
      OwM wr w.heap.size m E ∧ m ≤ 2 * (16522 - cnt) ∧ MpL E ts ∧ TkI ks ts left ∧ Below w.heap.size w wr)
    (fun _ wr => wr.rangeLeft b (w.heap.size + 1))
  case atStart =>
    have hh := HL.out
    refine ⟨_, _, 0, .map [], [], hrg0, by rw [hh.size]; exact HKl.out, fun z hz => by rw [hh.has] at hz; simpa using hz, (World.ownsMap_made _ _ _ _).kept hg0 (by simp), Nat.zero_le _, MpL.none, fun t => ?_, ((Below.refl _ _).alloc (Nat.le_refl _) _).grown hg0 (by simp) (fun j hj => by cases hj)⟩
    constructor
    · intro h; simp at h
    · rintro ⟨z, z1, z2, _⟩
      rw [hh.has] at z2
      simp at z2
      exact absurd z1 (by simpa using z2)
  case round =>
    obtain ⟨left, cnt, m, E, ts, hrg, hcs, hlk, hE, hmE, hts, hti, hnx⟩ := hrel
    have HT : Hid (MpL E ts ∧ TkI ks ts left) := ⟨hts, hti⟩
    clear hts hti
    go_upto_region 4 with (first
      | (at_next; refine wpList_next_ranges_ii _ rfl _ rfl 3 3 .i64 .i64 lawI Tryz.underlying3 Tryz.underlying3 b (w.heap.size + 1) n _ _ _ rfl hrg ?_ ?_)
      | go_in)
    · intro hc0 hl0
      have hD := HL.out.size
      have hD2 := HKl.out
      have hE2 := HT.out.1.size
      have hE3 := hE.size_le
      have hb1 : (Maps.size D : Int) ≤ 16522 := by omega
      have hb2 : (Maps.size E : Int) ≤ 33044 := by omega
      go_wp2_with (first
        | (at_len; refine wpList_len_own _ rfl _ 36 rfl 3 3 Tryz.underlying36 _ b n D rfl hrg.owns ?_)
        | (at_len; refine wpList_len_own _ rfl _ 36 rfl 3 3 Tryz.underlying36 _ w.heap.size m E rfl hE ?_)
        | go_in)
      go_ret
      have h9 := takes_siz HS.out HK.out HL.out.nd HT.out.1.nd (fun t => by rw [HT.out.2 t]; exact ⟨fun ⟨z, z1, _, z2⟩ => ⟨z, z1, z2⟩, fun ⟨z, z1, z2⟩ => ⟨z, z1, hl0 _, z2⟩⟩)
      exact ⟨by rw [← h9, ← hD, ← hE2]; simp, hnx⟩
    · intro x c w1 cnt1 hwx hwc hlx hat hrg1 hlt hg1 hs1 hen
      have hE1 := hE.kept hg1 (by simp)
      have hxk := hlk x hlx
      obtain ⟨k, hk16, _, rfl⟩ := (HK.out x).1 hxk
      have hnx1 := hnx.grown hg1 hnx.size (fun j hj => by cases hj; exact Nat.le_succ _)
      have HX : Hid ((k : Int) ∈ ks.map Prod.fst ∧ left (kI (k : Int)) = true ∧ (∀ z, left (kI z) = true → z ∈ ks.map Prod.fst) ∧ Below w.heap.size w w1 ∧ wr.rangeLeft b (w.heap.size + 1) = cnt) := ⟨hxk, hlx, hlk, hnx1, hrg.left_eq⟩
      clear hxk hlx hlk hnx1 hnx hrg hE hg1 hat
      by_cases h138 : 138 ≤ k
      · have t1 : (138 : Int) ≤ (k : Int) := by omega
        obtain ⟨q, hq⟩ : ∃ q, (k - 138) / 128 = q := ⟨_, rfl⟩
        have hq2 : q < 128 := by omega
        have hqt : ((k : Int) - 138).tdiv 128 = (q : Int) := by
          rw [Int.tdiv_eq_ediv_of_nonneg (by omega)]
          omega
        have HQ : Hid ((k - 138) / 128 = q) := hq
        clear hq
        go_upto_region 7 with (first
          | (at_lookup; refine wpList_lookup_own_int _ rfl _ _ 36 rfl 3 3 .i64 lawI Tryz.underlying36 Tryz.underlying3 (zeroI _) w.heap.size m _ rfl hE1 _ _ rfl (keyOf_int_mk Tryz.underlying3 (wf64 (by omega))) ?_; intro c1 hat1 hwc1)
          | (at_mapUpdate; refine wpList_mapUpdate_own _ rfl _ _ _ 36 rfl 3 3 lawI Tryz.underlying36 _ w.heap.size m _ rfl hE1 (by unfold maxLen; omega) _ _ _ rfl rfl (keyOf_int_mk Tryz.underlying3 (wf64 (by omega))) _ [] (plainElem_int Tryz.underlying3 (wrap64_wf _)) ?_; intro w2 hE2 hg2; go_frame)
          | go_in)
        go_wp2_with (first
          | (at_lookup; refine wpList_lookup_own_int _ rfl _ _ 36 rfl 3 3 .i64 lawI Tryz.underlying36 Tryz.underlying3 (zeroI _) w.heap.size (m + 1) _ rfl hE2 _ _ rfl (keyOf_int_mk Tryz.underlying3 (wf64 (by omega))) ?_; intro c2 hat2 hwc2)
          | (at_mapUpdate; refine wpList_mapUpdate_own _ rfl _ _ _ 36 rfl 3 3 lawI Tryz.underlying36 _ w.heap.size (m + 1) _ rfl hE2 (by unfold maxLen; omega) _ _ _ rfl rfl (keyOf_int_mk Tryz.underlying3 (wf64 (by omega))) _ [] (plainElem_int Tryz.underlying3 (wrap64_wf _)) ?_; intro w3 hE3 hg3; go_frame)
          | go_in)
        have hrg2 := hrg1.kept hg2 (fun e => by have := Option.some.inj e; omega) (fun e => by have := Option.some.inj e; omega)
        have hrg3 := hrg2.kept hg3 (fun e => by have := Option.some.inj e; omega) (fun e => by have := Option.some.inj e; omega)
        obtain ⟨t1, m1, k1, _⟩ := HT.out.1.put (-1) _
        obtain ⟨t2, m2, k2, _⟩ := m1.put (q : Int) _
        go_roundw
        case rel =>
          refine ⟨_, cnt1, m + 2, _, t2, hrg3, by omega, fun z hz => HX.out.2.2.1 z (by simp at hz; exact hz.1), hE3, by omega, m2, HT.out.2.step HX.out.1 HX.out.2.1 (fun t => ?_), (HX.out.2.2.2.1.grown hg2 (by have := HX.out.2.2.2.1.size; omega) (fun j hj => by cases hj; exact Nat.le_refl _)).grown hg3 (by have := HX.out.2.2.2.1.size; have := hg2.size; omega) (fun j hj => by cases hj; exact Nat.le_refl _)⟩
          rw [k2, k1]
          have : tbI ((k : Int)).toNat = [-1, (q : Int)] := by rw [Int.toNat_natCast]; unfold tbI; rw [if_pos h138, HQ.out]
          rw [this]
          simp only [List.mem_cons, List.not_mem_nil, or_false]
          constructor
          · rintro (h | h | h)
            · exact .inl (.inr h)
            · exact .inl (.inl h)
            · exact .inr h
          · rintro ((h | h) | h)
            · exact .inr (.inl h)
            · exact .inl h
            · exact .inr (.inr h)
        case measure => rw [hrg3.left_eq, HX.out.2.2.2.2]; exact hlt
      · have t1 : ¬ (138 : Int) ≤ (k : Int) := by omega
        by_cases h10 : 10 ≤ k
        · have t2 : (10 : Int) ≤ (k : Int) := by omega
          go_wp2_with (first
            | (at_lookup; refine wpList_lookup_own_int _ rfl _ _ 36 rfl 3 3 .i64 lawI Tryz.underlying36 Tryz.underlying3 (zeroI _) w.heap.size m _ rfl hE1 _ _ rfl (keyOf_int_mk Tryz.underlying3 (wf64 (by omega))) ?_; intro c1 hat1 hwc1)
            | (at_mapUpdate; refine wpList_mapUpdate_own _ rfl _ _ _ 36 rfl 3 3 lawI Tryz.underlying36 _ w.heap.size m _ rfl hE1 (by unfold maxLen; omega) _ _ _ rfl rfl (keyOf_int_mk Tryz.underlying3 (wf64 (by omega))) _ [] (plainElem_int Tryz.underlying3 (wrap64_wf _)) ?_; intro w2 hE2 hg2; go_frame)
            | go_in)
          have hrg2 := hrg1.kept hg2 (fun e => by have := Option.some.inj e; omega) (fun e => by have := Option.some.inj e; omega)
          obtain ⟨t1, m1, k1, _⟩ := HT.out.1.put (-2) _
          go_roundw
          case rel =>
            refine ⟨_, cnt1, m + 1, _, t1, hrg2, by omega, fun z hz => HX.out.2.2.1 z (by simp at hz; exact hz.1), hE2, by omega, m1, HT.out.2.step HX.out.1 HX.out.2.1 (fun t => ?_), HX.out.2.2.2.1.grown hg2 (by have := HX.out.2.2.2.1.size; omega) (fun j hj => by cases hj; exact Nat.le_refl _)⟩
            rw [k1]
            have : tbI ((k : Int)).toNat = [-2] := by rw [Int.toNat_natCast]; unfold tbI; rw [if_neg h138, if_pos h10]
            rw [this]
            simp only [List.mem_cons, List.not_mem_nil, or_false]
          case measure => rw [hrg2.left_eq, HX.out.2.2.2.2]; exact hlt
        · have t2 : ¬ (10 : Int) ≤ (k : Int) := by omega
          go_wp2
          go_roundw
          case rel =>
            refine ⟨_, cnt1, m, _, ts, hrg1, by omega, fun z hz => HX.out.2.2.1 z (by simp at hz; exact hz.1), hE1, by omega, HT.out.1, HT.out.2.step HX.out.1 HX.out.2.1 (fun t => ?_), HX.out.2.2.2.1⟩
            have : tbI ((k : Int)).toNat = [] := by rw [Int.toNat_natCast]; unfold tbI; rw [if_neg h138, if_neg h10]
            rw [this]
            simp
          case measure => rw [hrg1.left_eq, HX.out.2.2.2.2]; exact hlt
end Go.Proofs.YtiblfmcnffhpdaaGreatDoor
