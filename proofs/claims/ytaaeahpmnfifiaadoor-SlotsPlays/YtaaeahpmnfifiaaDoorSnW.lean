import Derived.Test.YtaaeahpmnfifiaaDoorR14g
import Derived.Test.YtaaeahpmnfifiaaDoorSnU
namespace Go.Proofs.YtaaeahpmnfifiaaDoor
open Go.RowKit Rec Sc
/-- Put's answer and what it leaves -/
def peU (L : List Int) (p : Int) (s : ByteArray) (i : Int) : Int := if L.length = 512 then (if mst p s i = true then 0 else 140) else 32
def plU (L : List Int) (p : Int) (s : ByteArray) (i : Int) : List Int := if peU L p s i = 0 then ov L (32 * p.toNat) 32 (cb ⟨s, i⟩) else L
/-- Clear's -/
def ceU (L : List Int) (p : Int) : Int := if L.length = 512 then (if plc p = true then 0 else 140) else 32
def clU (L : List Int) (p : Int) : List Int := if ceU L p = 0 then ov L (32 * p.toNat) 32 (fun _ => 0) else L
theorem plU_len (L : List Int) (p : Int) (s : ByteArray) (i : Int) : (plU L p s i).length = L.length := by
  unfold plU; split
  · rw [ov_length]
  · rfl
theorem clU_len (L : List Int) (p : Int) : (clU L p).length = L.length := by
  unfold clU; split
  · rw [ov_length]
  · rfl
theorem mst_good {p : Int} {s : ByteArray} {i : Int} (h : mst p s i = true) : ∃ k : Nat, p = k ∧ k < 16 ∧ Sc.good ⟨s, i⟩ := by
  simp only [mst, plc, Bool.and_eq_true, decide_eq_true_eq] at h
  obtain ⟨⟨h1, h2⟩, h3, h4, h5⟩ := h
  exact ⟨p.toNat, by omega, by omega, h5, h3, h4⟩
theorem plc_nat {p : Int} (h : plc p = true) : ∃ k : Nat, p = k ∧ k < 16 := by
  simp only [plc, Bool.and_eq_true, decide_eq_true_eq] at h
  exact ⟨p.toNat, by omega, by omega⟩
theorem putU (w : World) (g cap c : Nat) (L t : List Int) (p : Int) (s : ByteArray) (i : Int) (hs : s.size ≤ 9223372036854775807) (hO : OwnB w g cap (L ++ t)) (hc : L.length ≤ c) (hT : TabAt w) (hg0 : g ≠ 0) :
    Calls Tryd.prog 10 #[.slice (some ⟨g, 0, none⟩) L.length c, eV p s i] w fun r w' => r = .returned (.int .i64 (peU L p s i)) ∧ OwnB w' g cap (plU L p s i ++ t) ∧ w.grownBy w' (some g) := by
  by_cases h : L.length = 512
  · cases hm : mst p s i with
    | true =>
      have e1 : peU L p s i = 0 := by rw [peU, if_pos h, if_pos hm]
      obtain ⟨k, rfl, hk, hgd⟩ := mst_good hm
      have e2 : plU L (k : Int) s i = ov L (32 * k) 32 (cb ⟨s, i⟩) := by rw [plU, if_pos e1]; rfl
      rw [e1, e2, h]
      rw [h] at hc
      refine (sput_ok w g cap c (L ++ t) k ⟨s, i⟩ hk hO (by rw [List.length_append]; omega) hc hT hg0 hgd).mono ?_
      rintro r w' ⟨h1, h2, h3⟩
      rw [ov_append _ _ _ _ _ (by omega)] at h2
      exact ⟨h1, h2, h3⟩
    | false =>
      have e1 : peU L p s i = 140 := by rw [peU, if_pos h, if_neg (by rw [hm]; decide)]
      have e2 : plU L p s i = L := by rw [plU, if_neg (by rw [e1]; decide)]
      rw [e1, e2, h]
      refine (put_no w _ c p s i hs hm).mono ?_
      rintro r w' ⟨h1, h2⟩
      exact ⟨h1, hO.on h2, grown_of h2 _⟩
  · have e1 : peU L p s i = 32 := by rw [peU, if_neg h]
    have e2 : plU L p s i = L := by rw [plU, if_neg (by rw [e1]; decide)]
    rw [e1, e2]
    refine (put_size w _ _ c p s i h).mono ?_
    rintro r w' ⟨h1, h2⟩
    exact ⟨h1, hO.on h2, grown_of h2 _⟩
theorem rputU (w : World) (g cap c : Nat) (L : List Int) (p : Int) (s : ByteArray) (i : Int) (hs : s.size ≤ 9223372036854775807) (hO : OwnB w g cap L) :
    Calls Tryd.prog 20 #[.slice (some ⟨g, 0, none⟩) L.length c, eV p s i] w fun r w' => r = .returned (.int .i64 (peU L p s i)) ∧ OwnB w' g cap (plU L p s i) ∧ w.grownBy w' (some g) := by
  by_cases h : L.length = 512
  · cases hm : mst p s i with
    | true =>
      have e1 : peU L p s i = 0 := by rw [peU, if_pos h, if_pos hm]
      obtain ⟨k, rfl, hk, hgd⟩ := mst_good hm
      have e2 : plU L (k : Int) s i = ov L (32 * k) 32 (cb ⟨s, i⟩) := by rw [plU, if_pos e1]; rfl
      rw [e1, e2, h]
      exact rput_ok w g cap c L k ⟨s, i⟩ hk hO (by omega) hgd
    | false =>
      have e1 : peU L p s i = 140 := by rw [peU, if_pos h, if_neg (by rw [hm]; decide)]
      have e2 : plU L p s i = L := by rw [plU, if_neg (by rw [e1]; decide)]
      rw [e1, e2, h]
      refine (rput_no w _ c p s i hs hm).mono ?_
      rintro r w' ⟨h1, h2⟩
      exact ⟨h1, hO.on h2, grown_of h2 _⟩
  · have e1 : peU L p s i = 32 := by rw [peU, if_neg h]
    have e2 : plU L p s i = L := by rw [plU, if_neg (by rw [e1]; decide)]
    rw [e1, e2]
    refine (rput_size w _ _ c p s i h).mono ?_
    rintro r w' ⟨h1, h2⟩
    exact ⟨h1, hO.on h2, grown_of h2 _⟩
theorem clrU (w : World) (g cap c : Nat) (L t : List Int) (p : Int) (hO : OwnB w g cap (L ++ t)) (hc : L.length ≤ c) :
    Calls Tryd.prog 12 #[.slice (some ⟨g, 0, none⟩) L.length c, .int .i64 p] w fun r w' => r = .returned (.int .i64 (ceU L p)) ∧ OwnB w' g cap (clU L p ++ t) ∧ w.grownBy w' (some g) := by
  by_cases h : L.length = 512
  · cases hm : plc p with
    | true =>
      have e1 : ceU L p = 0 := by rw [ceU, if_pos h, if_pos hm]
      obtain ⟨k, rfl, hk⟩ := plc_nat hm
      have e2 : clU L (k : Int) = ov L (32 * k) 32 (fun _ => 0) := by rw [clU, if_pos e1]; rfl
      rw [e1, e2, h]
      rw [h] at hc
      refine (clr_ok w g cap c (L ++ t) k hk hO (by rw [List.length_append]; omega) hc).mono ?_
      rintro r w' ⟨h1, h2, h3⟩
      rw [ov_append _ _ _ _ _ (by omega)] at h2
      exact ⟨h1, h2, h3⟩
    | false =>
      have e1 : ceU L p = 140 := by rw [ceU, if_pos h, if_neg (by rw [hm]; decide)]
      have e2 : clU L p = L := by rw [clU, if_neg (by rw [e1]; decide)]
      rw [e1, e2, h]
      refine (clr_no w _ c p hm).mono ?_
      rintro r w' ⟨h1, rfl⟩
      exact ⟨h1, hO, grown_refl _ _⟩
  · have e1 : ceU L p = 32 := by rw [ceU, if_neg h]
    have e2 : clU L p = L := by rw [clU, if_neg (by rw [e1]; decide)]
    rw [e1, e2]
    refine (clr_size w _ _ c p h).mono ?_
    rintro r w' ⟨h1, rfl⟩
    exact ⟨h1, hO, grown_refl _ _⟩
theorem rclrU (w : World) (g cap c : Nat) (L : List Int) (p : Int) (hO : OwnB w g cap L) :
    Calls Tryd.prog 21 #[.slice (some ⟨g, 0, none⟩) L.length c, .int .i64 p] w fun r w' => r = .returned (.int .i64 (ceU L p)) ∧ OwnB w' g cap (clU L p) ∧ w.grownBy w' (some g) := by
  by_cases h : L.length = 512
  · cases hm : plc p with
    | true =>
      have e1 : ceU L p = 0 := by rw [ceU, if_pos h, if_pos hm]
      obtain ⟨k, rfl, hk⟩ := plc_nat hm
      have e2 : clU L (k : Int) = ov L (32 * k) 32 (fun _ => 0) := by rw [clU, if_pos e1]; rfl
      rw [e1, e2, h]
      exact rclr_ok w g cap c L k hk hO (by omega)
    | false =>
      have e1 : ceU L p = 140 := by rw [ceU, if_pos h, if_neg (by rw [hm]; decide)]
      have e2 : clU L p = L := by rw [clU, if_neg (by rw [e1]; decide)]
      rw [e1, e2, h]
      refine (rclr_no w _ c p hm).mono ?_
      rintro r w' ⟨h1, rfl⟩
      exact ⟨h1, hO, grown_refl _ _⟩
  · have e1 : ceU L p = 32 := by rw [ceU, if_neg h]
    have e2 : clU L p = L := by rw [clU, if_neg (by rw [e1]; decide)]
    rw [e1, e2]
    refine (rclr_size w _ _ c p h).mono ?_
    rintro r w' ⟨h1, rfl⟩
    exact ⟨h1, hO, grown_refl _ _⟩
end Go.Proofs.YtaaeahpmnfifiaaDoor
