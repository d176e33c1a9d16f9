import Derived.Test.YtjmdjagfekloaaaGreatDoorTkM
namespace Go.Proofs.YtjmdjagfekloaaaGreatDoor
open Rec

theorem zw_snoc (ν : Nat → Nat) (L : List Nat) (p : Nat) : zw ν (L ++ [p]) = zw ν L + if ν p = 0 then 1 else 0 := by
  unfold zw
  rw [List.filter_append, List.length_append]
  by_cases e : ν p = 0
  · simp [e]
  · simp [e]
theorem zw_pre {ν : Nat → Nat} {L M : List Nat} (h : L <+: M) : zw ν L ≤ zw ν M := by
  obtain ⟨t, rfl⟩ := h
  unfold zw
  rw [List.filter_append, List.length_append]
  omega
theorem isLo_dec {F : Nat → Bool} {c n i : Nat} (hF : ∀ b, F b = decide (c ≤ b ∧ b < n)) (h : IsLo F i) : i = c ∧ c < n := by
  have h1 := h.1
  rw [hF] at h1
  have h1 := of_decide_eq_true h1
  refine ⟨?_, by omega⟩
  by_cases e : i = c
  · exact e
  · have := h.2 c (by omega)
    rw [hF] at this
    have := of_decide_eq_false this
    omega
/-- what is taken one after the other from a disk that is free from c on -/
theorem Tks.low {ν0 ν : Nat → Nat} {F0 F : Nat → Bool} {L : List Nat} {c n : Nat} (h : Tks ν0 F0 L ν F) (hl : L.Nodup) (hF : ∀ b, F0 b = decide (c ≤ b ∧ b < n)) :
    (∀ b, F b = decide (c + zw ν0 L ≤ b ∧ b < n)) ∧ (∀ j p, L[j]? = some p → ν0 p = 0 → ν p = c + zw ν0 (L.take j)) ∧ (zw ν0 L = 0 ∨ c + zw ν0 L ≤ n) := by
  induction h with
  | nil => exact ⟨hF, fun j p h => by simp at h, .inl rfl⟩
  | @keep L ν F q hk hz ih =>
    have h2 := List.nodup_append.1 hl
    obtain ⟨i1, i2, i3⟩ := ih h2.1
    have hq : ν q = ν0 q := hk.off q (fun e => h2.2.2 q e q (by simp) rfl)
    have ez : zw ν0 (L ++ [q]) = zw ν0 L := by rw [zw_snoc, if_neg (by rw [← hq]; exact hz)]; rfl
    refine ⟨by rw [ez]; exact i1, fun j p hp h0 => ?_, by rw [ez]; exact i3⟩
    by_cases hj : j < L.length
    · rw [List.getElem?_append_left hj] at hp
      rw [i2 j p hp h0, List.take_append_of_le_length (by omega)]
    · rw [List.getElem?_append_right (by omega)] at hp
      have e : j - L.length = 0 := by
        by_cases e : j - L.length = 0
        · exact e
        · rw [List.getElem?_eq_none (by simp; omega)] at hp; cases hp
      rw [e] at hp
      simp at hp
      subst hp
      rw [← hq] at h0
      exact absurd h0 hz
  | @take L ν F q i hk hz hlo ih =>
    have h2 := List.nodup_append.1 hl
    obtain ⟨i1, i2, i3⟩ := ih h2.1
    have hqL : q ∉ L := fun e => h2.2.2 q e q (by simp) rfl
    have hq : ν q = ν0 q := hk.off q hqL
    obtain ⟨e1, e2⟩ := isLo_dec i1 hlo
    have ez : zw ν0 (L ++ [q]) = zw ν0 L + 1 := by rw [zw_snoc, if_pos (by rw [← hq]; exact hz)]
    refine ⟨fun b => ?_, fun j p hp h0 => ?_, .inr (by rw [ez]; omega)⟩
    · rw [ez]
      by_cases eb : b = i
      · subst eb; rw [upN_same]; exact (decide_eq_false (by omega)).symm
      · rw [upN_other _ _ eb, i1]
        exact decide_eq_decide.2 (by omega)
    · by_cases hj : j < L.length
      · rw [List.getElem?_append_left hj] at hp
        have hpL : p ∈ L := List.mem_of_getElem? hp
        rw [upN_other _ _ (fun (e : p = q) => hqL (e ▸ hpL)), i2 j p hp h0, List.take_append_of_le_length (by omega)]
      · rw [List.getElem?_append_right (by omega)] at hp
        have e : j - L.length = 0 := by
          by_cases e : j - L.length = 0
          · exact e
          · rw [List.getElem?_eq_none (by simp; omega)] at hp; cases hp
        rw [e] at hp
        simp at hp
        subst hp
        rw [upN_same, e1, List.take_append_of_le_length (by omega), List.take_of_length_le (by omega)]
/-- one index more -/
theorem add_low {ν ν' : Nat → Nat} {F F' : Nat → Bool} {k c n : Nat} (hk : k < 16522) (hs : Shp ν) (h : Tks ν F (wayP k) ν' F') (hF : ∀ b, F b = decide (c ≤ b ∧ b < n)) (hc : 0 < c) :
    (∀ b, F' b = decide (c + zw ν (wayP k) ≤ b ∧ b < n)) ∧ (0 < zw ν (wayP k) → ν' (ixP k) + 1 = c + zw ν (wayP k)) ∧ (∀ p, p = 10 ∨ p = 11 → ν p = 0 → ν' p ≠ 0 → ν' p = c) ∧ Shp ν' ∧ (zw ν (wayP k) = 0 ∨ c + zw ν (wayP k) ≤ n) ∧ (∀ j, j < 16522 → (ν' (ixP j) ≠ 0 ↔ j = k ∨ ν (ixP j) ≠ 0)) ∧ siz ν' = siz ν + zw ν (wayP k) ∧ (zw ν (wayP k) = 0 → ν' = ν) := by
  have h0 : F 0 = false := by rw [hF]; exact decide_eq_false (by omega)
  obtain ⟨l1, l2, l3⟩ := h.low (way_nodup k hk) hF
  have nz : ∀ p, filW ν k p ≠ 0 ↔ ν' p ≠ 0 := fun p => by rw [filW_nz, h.nz h0]
  have hlast : ∃ A, wayP k = A ++ [ixP k] := by
    unfold wayP ixP
    split
    · exact ⟨[], rfl⟩
    · split
      · exact ⟨[10], rfl⟩
      · exact ⟨[11, 140 + (k - 138) / 128], rfl⟩
  refine ⟨l1, fun hm => ?_, fun p hp hp0 hp1 => ?_, (hs.fil hk).cong nz, l3, fun j hj => by rw [← nz, fil_keys hk hj], by rw [← siz_fil hk]; exact (siz_cong (fun p _ => nz p)).symm, fun hm => ?_⟩
  · obtain ⟨A, hA⟩ := hlast
    have hz : ν (ixP k) = 0 := by
      by_cases e : ν (ixP k) = 0
      · exact e
      · have hw := hs.way hk e
        have : zw ν (wayP k) = 0 := by
          unfold zw
          rw [List.length_eq_zero_iff, List.filter_eq_nil_iff]
          intro p hp
          simp [hw p hp]
        omega
    have := l2 A.length (ixP k) (by rw [hA]; simp) hz
    rw [this, hA, List.take_append_of_le_length (by omega), List.take_of_length_le (by omega), zw_snoc, if_pos hz]
    omega
  · have hpw : p ∈ wayP k := by
      rcases (h.nz h0 p).1 hp1 with e | e
      · exact e
      · exact absurd hp0 e
    have hj : (wayP k)[0]? = some p := by
      unfold wayP at hpw ⊢
      split at hpw
      · simp at hpw; omega
      · split at hpw
        · rename_i h1 h2
          rw [if_neg h1, if_pos h2]
          simp at hpw
          have : p = 10 := by omega
          subst this; rfl
        · rename_i h1 h2
          rw [if_neg h1, if_neg h2]
          simp at hpw
          have : p = 11 := by omega
          subst this; rfl
    have := l2 0 p hj hp0
    rw [this]
    rfl
  · have hall : ∀ p ∈ wayP k, ν p ≠ 0 := fun p hp e => by
      unfold zw at hm
      rw [List.length_eq_zero_iff, List.filter_eq_nil_iff] at hm
      exact hm p hp (by simp [e])
    exact (h.same hall).1
/-- no block is left -/
theorem no_low {ν ν1 : Nat → Nat} {F F1 : Nat → Bool} {k n p : Nat} {L : List Nat} (hk : k < 16522) (hp : L ++ [p] <+: wayP k) (h : Tks ν F L ν1 F1) (hz : ν1 p = 0) (hc : ct F1 n = 0) (hF : ∀ b, F b = true → b < n) : ct F n < zw ν (wayP k) := by
  have hn : (L ++ [p]).Nodup := List.Nodup.sublist hp.sublist (way_nodup k hk)
  have h2 := List.nodup_append.1 hn
  have hq : ν1 p = ν p := h.off p (fun e => h2.2.2 p e p (by simp) rfl)
  have h3 := h.zeros (n := n) h2.1 hF
  have h4 := zw_pre (ν := ν) hp
  rw [zw_snoc, if_pos (by rw [← hq]; exact hz)] at h4
  omega
end Go.Proofs.YtjmdjagfekloaaaGreatDoor
