import Derived.Test.YtpheajiepnjhdaaDoorKit
import Derived.Laws.StructEq
namespace Go.Proofs.YtpheajiepnjhdaaDoor
open Go.RowKit Rec

theorem bytes_of_list {a b : ByteArray} (h : a.toList = b.toList) : a = b := by
  rw [ByteArray.toList_eq, ByteArray.toList_eq] at h
  obtain ⟨⟨x⟩⟩ := a
  obtain ⟨⟨y⟩⟩ := b
  cases h; rfl
/-- the text of the first eight bytes -/
def magS : ByteArray := { data := #[66, 79, 76, 69, 76, 79, 71, 49] }
theorem magS_nums : sb magS = mag := by decide
theorem str_mag : strOfNums mag = magS := by decide +kernel
theorem fld8 (h : List Int) : fld h 0 8 = h.take 8 := by unfold fld; rfl
/-- what is read there -/
theorem text8 (h : List Int) (hn : h.length = 512) (hw : ∀ i, 0 ≤ nth h i ∧ nth h i < 256) :
    ∃ (S : ByteArray) (E : Int), ((cl h 0 8 = true ∧ S = strOfNums (fld h 0 (fz h 0 8)) ∧ E = 0) ∨ (cl h 0 8 = false ∧ S = strOfNums [] ∧ E = 1)) ∧ (S = magS ↔ h.take 8 = mag) := by
  have back : ∀ x : List Int, (∀ i, 0 ≤ nth x i ∧ nth x i < 256) → strOfNums x = magS → x = mag := fun x hx e => by
    rw [← sb_str hx, e, magS_nums]
  by_cases hc : cl h 0 8 = true
  · refine ⟨_, _, .inl ⟨hc, rfl, rfl⟩, ?_⟩
    obtain ⟨z1, z2, z3⟩ := fz_spec h 0 8
    constructor
    · intro e
      have e2 := back _ (wf_fld hw _ _) e
      have hl := congrArg List.length e2
      rw [fld_length h 0 _ (by omega), mag_len] at hl
      rw [hl, fld8] at e2
      exact e2
    · intro e
      have hz : fz h 0 8 = 8 := by
        refine fz_eq _ _ _ _ (Nat.le_refl _) (fun i hi => ?_) (fun h => absurd h (by omega))
        rw [Nat.zero_add, ((take8 h hn).1 e) i hi]
        have : i = 0 ∨ i = 1 ∨ i = 2 ∨ i = 3 ∨ i = 4 ∨ i = 5 ∨ i = 6 ∨ i = 7 := by omega
        rcases this with rfl | rfl | rfl | rfl | rfl | rfl | rfl | rfl <;> decide
      rw [hz, fld8, e, str_mag]
  · have hc : cl h 0 8 = false := by simpa using hc
    refine ⟨_, _, .inr ⟨hc, rfl, rfl⟩, ?_⟩
    constructor
    · intro e
      have := back [] (fun i => by simp [nth]) e
      exact absurd this (by decide)
    · intro e
      have hz : fz h 0 8 = 8 := by
        refine fz_eq _ _ _ _ (Nat.le_refl _) (fun i hi => ?_) (fun h => absurd h (by omega))
        rw [Nat.zero_add, ((take8 h hn).1 e) i hi]
        have : i = 0 ∨ i = 1 ∨ i = 2 ∨ i = 3 ∨ i = 4 ∨ i = 5 ∨ i = 6 ∨ i = 7 := by omega
        rcases this with rfl | rfl | rfl | rfl | rfl | rfl | rfl | rfl <;> decide
      unfold cl at hc
      rw [hz, zr_true _ _ _ (fun i hi => absurd hi (by omega))] at hc
      cases hc
set_option maxRecDepth 100000 in
set_option maxHeartbeats 1600000 in
theorem countOf_any (w : World) (b off c : Nat) (h : List Int) (hn : h.length = 512) (hO : Bytes w (some ⟨b, off, none⟩) h) (hc : 512 ≤ c) (hT : TabAt w) :
    Calls Tryd.prog 47 #[.slice (some ⟨b, off, none⟩) 512 c] w fun e w' => e = .returned (.tuple #[.int .i64 (cnt h), .bool (form h)]) ∧ w = w' := by
  obtain ⟨S, E, hR, hS⟩ := text8 h hn hO.wf
  have H1 : Hid (Calls Tryd.prog 86 #[.slice (some ⟨b, off, none⟩) 512 c, .int .i64 (0 : Nat), .int .i64 (8 : Nat)] w fun e w' => e = .returned (.tuple #[.string S, .int .i64 E]) ∧ w = w') := text_in w b off 512 c 0 8 h S E hn hO hc (by omega) hR
  have H2 : Hid (Calls Tryd.prog 85 #[.slice (some ⟨b, off, none⟩) 512 c, .int .i64 (10 : Nat), .int .i64 (2 : Nat)] w fun e w' => e = .returned (.tuple #[.bool (zr h 10 2), .int .i64 0]) ∧ w = w') := zero_in w b off 512 c 10 2 h hn hO hc (by omega)
  have H3 : Hid (Calls Tryd.prog 54 #[.slice (some ⟨b, off, none⟩) 512 c, .int .i64 (8 : Nat), .int .i64 (2 : Nat)] w fun e w' => e = .returned (.tuple #[.int .u64 (num h 8 2), .int .i64 0]) ∧ w = w') := get_in w b off 512 c 8 2 h hn hO hc hT rfl (by omega)
  have hb := num_bd h 8 2 hO.wf
  have e2 : (256 : Int) ^ 2 = 65536 := rfl
  rw [e2] at hb
  have HF : Hid (form h = (decide (S = magS) && zr h 10 2 && (decide (1 ≤ num h 8 2) && decide (num h 8 2 ≤ 96)))) := by
    show form h = _
    unfold form cnt
    have a1 : decide (h.take 8 = mag) = decide (S = magS) := decide_eq_decide.2 hS.symm
    have a2 : (nth h 10 == 0 && nth h 11 == 0) = zr h 10 2 := by
      rw [Bool.eq_iff_iff]
      simp only [zr, Bool.and_eq_true, beq_iff_eq, decide_eq_true_eq]
      constructor
      · rintro ⟨x, y⟩ i hi
        have : i = 0 ∨ i = 1 := by omega
        rcases this with rfl | rfl
        · exact x
        · exact y
      · intro x; exact ⟨x 0 (by omega), x 1 (by omega)⟩
    have a3 : decide (1 ≤ (num h 8 2).toNat) = decide (1 ≤ num h 8 2) := decide_eq_decide.2 (by omega)
    have a4 : decide ((num h 8 2).toNat ≤ 96) = decide (num h 8 2 ≤ 96) := decide_eq_decide.2 (by omega)
    rw [a1, a2, a3, a4]
  have HV : Hid (((cnt h : Nat) : Int) = num h 8 2) := by show _ = _; unfold cnt; omega
  generalize num h 8 2 = v at *
  generalize zr h 10 2 = z at *
  clear hn hO hT hR hS e2
  by_cases hs : S = magS
  · subst hs
    have HF : Hid (form h = (z && (decide (1 ≤ v) && decide (v ≤ 96)))) := by show _ = _; rw [HF.out]; simp
    cases z with
    | true =>
      go_enter Tryd.func47, Tryd.ntmps47
      go_wp2_with (first
        | (go_at_call 86; refine H1.out.mono ?_; rintro e w' ⟨rfl, rfl⟩; unfold magS)
        | (go_at_call 85; refine H2.out.mono ?_; rintro e w' ⟨rfl, rfl⟩)
        | (go_at_call 54; refine H3.out.mono ?_; rintro e w' ⟨rfl, rfl⟩)
        | (go_at_call 38; refine (isCount_any _ _).mono ?_; rintro e w' ⟨rfl, rfl⟩))
      go_ret2
      exact ⟨by rw [HF.out, HV.out]; rfl, rfl⟩
    | false =>
      go_enter Tryd.func47, Tryd.ntmps47
      go_wp2_with (first
        | (go_at_call 86; refine H1.out.mono ?_; rintro e w' ⟨rfl, rfl⟩; unfold magS)
        | (go_at_call 85; refine H2.out.mono ?_; rintro e w' ⟨rfl, rfl⟩)
        | (go_at_call 54; refine H3.out.mono ?_; rintro e w' ⟨rfl, rfl⟩)
        | (go_at_call 38; refine (isCount_any _ _).mono ?_; rintro e w' ⟨rfl, rfl⟩))
      go_ret2
      exact ⟨by rw [HF.out, HV.out]; rfl, rfl⟩
  · have HF : Hid (form h = false) := by show _ = _; rw [HF.out]; simp [hs]
    have HS : Hid (¬ S = magS) := hs
    have hs' : ¬ S.toList = [66, 79, 76, 69, 76, 79, 71, 49] := fun e => hs (bytes_of_list (e.trans (by decide +kernel)))
    clear hs
    go_enter Tryd.func47, Tryd.ntmps47
    go_wp2_with (first
      | (go_at_call 86; refine H1.out.mono ?_; rintro e w' ⟨rfl, rfl⟩)
      | (go_at_call 85; refine H2.out.mono ?_; rintro e w' ⟨rfl, rfl⟩)
      | (go_at_call 54; refine H3.out.mono ?_; rintro e w' ⟨rfl, rfl⟩)
      | (go_at_call 38; refine (isCount_any _ _).mono ?_; rintro e w' ⟨rfl, rfl⟩))
    go_ret2
    exact ⟨by rw [HF.out, HV.out]; rfl, rfl⟩
end Go.Proofs.YtpheajiepnjhdaaDoor
