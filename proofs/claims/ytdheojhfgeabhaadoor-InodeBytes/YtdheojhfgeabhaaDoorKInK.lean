import Derived.Test.YtdheojhfgeabhaaDoorKInI
import Derived.Test.YtdheojhfgeabhaaDoorKGeM
namespace Go.Proofs.YtdheojhfgeabhaaDoor
open Go.RowKit Go.Maps Rec

set_option maxRecDepth 100000 in
set_option maxHeartbeats 800000 in
theorem imod_any (w : World) (v : Int) (n : Nat) (h0 : 0 < n) (h1 : n ≤ 1000000000000) :
    Calls Tryd.prog 7 #[.int .i64 v, .int .i64 n] w fun e w' => e = .returned (.int .i64 (v % n)) ∧ w = w' := by
  go_enter Tryd.func7, Tryd.ntmps7
  by_cases h : v.tmod n < 0
  · have h2 : -(n : Int) ≤ v.tmod n := by
      have := tmod_neg v n h0 h
      have := Int.emod_nonneg v (b := n) (by omega)
      omega
    go_wp2
    go_ret
    refine ⟨?_, rfl⟩
    show Ending.returned (Value.int IntKind.i64 (v.tmod n + n)) = _
    rw [tmod_neg v n h0 h]
  · go_wp2
    go_ret
    refine ⟨?_, rfl⟩
    show Ending.returned (Value.int IntKind.i64 (v.tmod n)) = _
    rw [tmod_pos v n h0 (by omega)]
/-- a file of one block -/
def plR : Nat → Int := fun i => if i = 0 then 1 else if i = 1 then 1 else if i = 2 then 5 else if i = 3 then 101 else 0
set_option maxRecDepth 100000 in
set_option maxHeartbeats 1600000 in
theorem plain_any (w : World) : Calls Tryd.prog 13 #[] w fun e w' => e = .returned (inV plR) ∧ Below w.heap.size w w' := by
  go_enter Tryd.func13, Tryd.ntmps13
  go_upto_region 3 with (fail)
  obtain ⟨P, hP⟩ : ∃ P, w.heap.size = P := ⟨_, rfl⟩
  obtain ⟨wa, hwa⟩ : ∃ wa, (w.alloc (.cells #[.int .i64 0, .int .i64 0, .int .i64 0, .int .i64 0, .int .i64 0, .int .i64 0, .int .i64 0, .int .i64 0, .int .i64 0, .int .i64 0, .int .i64 0, .int .i64 0, .int .i64 0, .int .i64 0, .int .i64 0] 24)).alloc (.cells #[.int .i64 1, .int .i64 1, .int .i64 5, .int .i64 101, .int .i64 0, .int .i64 0, .int .i64 0, .int .i64 0, .int .i64 0, .int .i64 0, .int .i64 0, .int .i64 0, .int .i64 0, .int .i64 0, .int .i64 0] 24) = wa := ⟨_, rfl⟩
  have HA : Hid (Below w.heap.size w wa) := by rw [← hwa]; exact ((Below.refl _ _).alloc (Nat.le_refl _) _).alloc (by simp) _
  have H1 : Hid (wa.heap[P + 1]? = some (.cells #[.int .i64 1, .int .i64 1, .int .i64 5, .int .i64 101, .int .i64 0, .int .i64 0, .int .i64 0, .int .i64 0, .int .i64 0, .int .i64 0, .int .i64 0, .int .i64 0, .int .i64 0, .int .i64 0, .int .i64 0] 24 (0, 0))) := by
    have := heap_alloc_new (w.alloc (.cells #[.int .i64 0, .int .i64 0, .int .i64 0, .int .i64 0, .int .i64 0, .int .i64 0, .int .i64 0, .int .i64 0, .int .i64 0, .int .i64 0, .int .i64 0, .int .i64 0, .int .i64 0, .int .i64 0, .int .i64 0] 24)) (.cells #[.int .i64 1, .int .i64 1, .int .i64 5, .int .i64 101, .int .i64 0, .int .i64 0, .int .i64 0, .int .i64 0, .int .i64 0, .int .i64 0, .int .i64 0, .int .i64 0, .int .i64 0, .int .i64 0, .int .i64 0] 24)
    rw [World.size_alloc] at this
    rw [← hwa, ← hP]; exact this
  have H0 : Hid (wa.heap[P]? = some (.cells #[.int .i64 0, .int .i64 0, .int .i64 0, .int .i64 0, .int .i64 0, .int .i64 0, .int .i64 0, .int .i64 0, .int .i64 0, .int .i64 0, .int .i64 0, .int .i64 0, .int .i64 0, .int .i64 0, .int .i64 0] 24 (0, 0))) := by rw [← hwa, ← hP]; exact (Below.heap_alloc _ _ _ (by simp)).trans (heap_alloc_new _ _)
  have d0 : wa.cell? ⟨P, 0, none⟩ = some (.int .i64 0) := cell_of_row _ _ 0 _ _ _ H0.out
  have f0 : wa.frozen? ⟨P, 0, none⟩ = false := frozen_of_row _ _ _ _ _ H0.out
  have d1 : wa.cell? ⟨P, 1, none⟩ = some (.int .i64 0) := cell_of_row _ _ 1 _ _ _ H0.out
  have f1 : wa.frozen? ⟨P, 1, none⟩ = false := frozen_of_row _ _ _ _ _ H0.out
  have d2 : wa.cell? ⟨P, 2, none⟩ = some (.int .i64 0) := cell_of_row _ _ 2 _ _ _ H0.out
  have f2 : wa.frozen? ⟨P, 2, none⟩ = false := frozen_of_row _ _ _ _ _ H0.out
  have d3 : wa.cell? ⟨P, 3, none⟩ = some (.int .i64 0) := cell_of_row _ _ 3 _ _ _ H0.out
  have f3 : wa.frozen? ⟨P, 3, none⟩ = false := frozen_of_row _ _ _ _ _ H0.out
  have d4 : wa.cell? ⟨P, 4, none⟩ = some (.int .i64 0) := cell_of_row _ _ 4 _ _ _ H0.out
  have f4 : wa.frozen? ⟨P, 4, none⟩ = false := frozen_of_row _ _ _ _ _ H0.out
  have d5 : wa.cell? ⟨P, 5, none⟩ = some (.int .i64 0) := cell_of_row _ _ 5 _ _ _ H0.out
  have f5 : wa.frozen? ⟨P, 5, none⟩ = false := frozen_of_row _ _ _ _ _ H0.out
  have d6 : wa.cell? ⟨P, 6, none⟩ = some (.int .i64 0) := cell_of_row _ _ 6 _ _ _ H0.out
  have f6 : wa.frozen? ⟨P, 6, none⟩ = false := frozen_of_row _ _ _ _ _ H0.out
  have d7 : wa.cell? ⟨P, 7, none⟩ = some (.int .i64 0) := cell_of_row _ _ 7 _ _ _ H0.out
  have f7 : wa.frozen? ⟨P, 7, none⟩ = false := frozen_of_row _ _ _ _ _ H0.out
  have d8 : wa.cell? ⟨P, 8, none⟩ = some (.int .i64 0) := cell_of_row _ _ 8 _ _ _ H0.out
  have f8 : wa.frozen? ⟨P, 8, none⟩ = false := frozen_of_row _ _ _ _ _ H0.out
  have d9 : wa.cell? ⟨P, 9, none⟩ = some (.int .i64 0) := cell_of_row _ _ 9 _ _ _ H0.out
  have f9 : wa.frozen? ⟨P, 9, none⟩ = false := frozen_of_row _ _ _ _ _ H0.out
  have d10 : wa.cell? ⟨P, 10, none⟩ = some (.int .i64 0) := cell_of_row _ _ 10 _ _ _ H0.out
  have f10 : wa.frozen? ⟨P, 10, none⟩ = false := frozen_of_row _ _ _ _ _ H0.out
  have d11 : wa.cell? ⟨P, 11, none⟩ = some (.int .i64 0) := cell_of_row _ _ 11 _ _ _ H0.out
  have f11 : wa.frozen? ⟨P, 11, none⟩ = false := frozen_of_row _ _ _ _ _ H0.out
  have d12 : wa.cell? ⟨P, 12, none⟩ = some (.int .i64 0) := cell_of_row _ _ 12 _ _ _ H0.out
  have f12 : wa.frozen? ⟨P, 12, none⟩ = false := frozen_of_row _ _ _ _ _ H0.out
  have d13 : wa.cell? ⟨P, 13, none⟩ = some (.int .i64 0) := cell_of_row _ _ 13 _ _ _ H0.out
  have f13 : wa.frozen? ⟨P, 13, none⟩ = false := frozen_of_row _ _ _ _ _ H0.out
  have d14 : wa.cell? ⟨P, 14, none⟩ = some (.int .i64 0) := cell_of_row _ _ 14 _ _ _ H0.out
  have f14 : wa.frozen? ⟨P, 14, none⟩ = false := frozen_of_row _ _ _ _ _ H0.out
  have c0 : wa.cell? ⟨P + 1, 0, none⟩ = some (.int .i64 1) := cell_of_row _ _ 0 _ _ _ H1.out
  have c1 : wa.cell? ⟨P + 1, 1, none⟩ = some (.int .i64 1) := cell_of_row _ _ 1 _ _ _ H1.out
  have c2 : wa.cell? ⟨P + 1, 2, none⟩ = some (.int .i64 5) := cell_of_row _ _ 2 _ _ _ H1.out
  have c3 : wa.cell? ⟨P + 1, 3, none⟩ = some (.int .i64 101) := cell_of_row _ _ 3 _ _ _ H1.out
  have c4 : wa.cell? ⟨P + 1, 4, none⟩ = some (.int .i64 0) := cell_of_row _ _ 4 _ _ _ H1.out
  have c5 : wa.cell? ⟨P + 1, 5, none⟩ = some (.int .i64 0) := cell_of_row _ _ 5 _ _ _ H1.out
  have c6 : wa.cell? ⟨P + 1, 6, none⟩ = some (.int .i64 0) := cell_of_row _ _ 6 _ _ _ H1.out
  have c7 : wa.cell? ⟨P + 1, 7, none⟩ = some (.int .i64 0) := cell_of_row _ _ 7 _ _ _ H1.out
  have c8 : wa.cell? ⟨P + 1, 8, none⟩ = some (.int .i64 0) := cell_of_row _ _ 8 _ _ _ H1.out
  have c9 : wa.cell? ⟨P + 1, 9, none⟩ = some (.int .i64 0) := cell_of_row _ _ 9 _ _ _ H1.out
  have c10 : wa.cell? ⟨P + 1, 10, none⟩ = some (.int .i64 0) := cell_of_row _ _ 10 _ _ _ H1.out
  have c11 : wa.cell? ⟨P + 1, 11, none⟩ = some (.int .i64 0) := cell_of_row _ _ 11 _ _ _ H1.out
  have c12 : wa.cell? ⟨P + 1, 12, none⟩ = some (.int .i64 0) := cell_of_row _ _ 12 _ _ _ H1.out
  have c13 : wa.cell? ⟨P + 1, 13, none⟩ = some (.int .i64 0) := cell_of_row _ _ 13 _ _ _ H1.out
  have c14 : wa.cell? ⟨P + 1, 14, none⟩ = some (.int .i64 0) := cell_of_row _ _ 14 _ _ _ H1.out
  rw [hwa, hP]
  clear hwa
  go_wp2
  refine bodyPost_ret (v := inV plR) (res_row9 (fn := Tryd.f13) (p := 0) (ty := 24) rfl _ _ P (inC plR) rfl ?_) rfl ?_
  · refine load15 _ P 1 1 5 101 0 0 0 0 0 0 0 0 0 0 0 ?_
    exact set15 _ P (.int .i64 0) (.int .i64 0) (.int .i64 0) (.int .i64 0) (.int .i64 0) (.int .i64 0) (.int .i64 0) (.int .i64 0) (.int .i64 0) (.int .i64 0) (.int .i64 0) (.int .i64 0) (.int .i64 0) (.int .i64 0) (.int .i64 0) (.int .i64 1) (.int .i64 1) (.int .i64 5) (.int .i64 101) (.int .i64 0) (.int .i64 0) (.int .i64 0) (.int .i64 0) (.int .i64 0) (.int .i64 0) (.int .i64 0) (.int .i64 0) (.int .i64 0) (.int .i64 0) (.int .i64 0) H0.out
  · refine ⟨rfl, ?_⟩
    iterate 15 refine below_put ?_ (Nat.le_refl _) (by omega)
    exact HA.out
/-- a record brought into its bounds -/
def brR (x : Nat → Int) : Nat → Int := fun i =>
  if i = 0 then 1 + x 0 % 3
  else if i = 1 then (if x 0 % 3 = 0 then x 1 % 1001 else if x 0 % 3 = 1 then 2 + x 1 % 65534 else 1 + x 1 % 1000)
  else if i = 2 then (if x 0 % 3 = 0 then x 2 % 8459265 else if x 0 % 3 = 1 then 512 * (x 2 % 16523) else 1 + x 2 % 1024)
  else x i % 4294967296
theorem brR_use (x : Nat → Int) : inUs (brR x) = true := by
  unfold inUs
  rw [Bool.and_eq_true]
  constructor
  · unfold kFit
    refine decide_eq_true ?_
    unfold brR
    simp only [if_true, if_false, show ¬ (1 : Nat) = 0 by omega, show ¬ (2 : Nat) = 0 by omega, show ¬ (2 : Nat) = 1 by omega]
    split
    · omega
    · split <;> omega
  · rw [nFit_iff]
    intro i hi
    unfold brR
    rw [if_neg (by omega), if_neg (by omega), if_neg (by omega)]
    omega
theorem brR_may (x : Nat → Int) : rMay (brR x) = true := by unfold rMay; rw [brR_use, Bool.or_true]
theorem may_i64 {x : Nat → Int} (h : rMay x = true) : ∃ y : Nat → Int, Sm x y ∧ ∀ i, -9223372036854775808 ≤ y i ∧ y i ≤ 9223372036854775807 := by
  refine ⟨fun i => if i < 15 then x i else 0, fun i hi => (if_pos hi).symm, fun i => ?_⟩
  by_cases c : i < 15
  · have := rMay_bd h i c
    have hb : fBd i ≤ 4294967296 := by unfold fBd; repeat' split
                                       all_goals omega
    show _ ≤ (if i < 15 then x i else 0) ∧ (if i < 15 then x i else 0) ≤ _
    rw [if_pos c]; omega
  · show _ ≤ (if i < 15 then x i else 0) ∧ (if i < 15 then x i else 0) ≤ _
    rw [if_neg c]; omega
theorem brR_bd (x : Nat → Int) (i : Nat) : -9223372036854775808 ≤ brR x i ∧ brR x i ≤ 9223372036854775807 := by
  unfold brR
  repeat' split
  all_goals omega
/-- so many fields brought -/
def brK (x : Nat → Int) (k : Nat) : Nat → Int := fun i => if i < 3 + k then brR x i else 0
theorem inC_set (y : Nat → Int) (j : Nat) (v : Int) (hj : j < 15) (y' : Nat → Int) (h : ∀ i, i < 15 → y' i = if i = j then v else y i) : (inC y).setIfInBounds j (.int .i64 v) = inC y' := by
  apply Array.ext_getElem?
  intro i
  rw [Array.getElem?_setIfInBounds]
  by_cases hi : i < 15
  · rw [inC_at y' i hi, inC_at y i hi, h i hi]
    by_cases c : j = i
    · subst c
      rw [if_pos rfl, if_pos rfl, if_pos (by simpa [inC] using hj)]
    · rw [if_neg c, if_neg (fun e => c e.symm)]
  · rw [if_neg (by omega), Array.getElem?_eq_none (by simp [inC]; omega), Array.getElem?_eq_none (by simp [inC]; omega)]
structure BrI (w wr : World) (P : Nat) (x : Nat → Int) (k : Nat) : Prop where
  bel : Below w.heap.size w wr
  p : w.heap.size = P
  src : wr.heap[P]? = some (.cells (inC x) 24 (0, 0))
  ans : wr.heap[P + 1]? = some (.cells #[.int .i64 0, .int .i64 0, .int .i64 0, .int .i64 0, .int .i64 0, .int .i64 0, .int .i64 0, .int .i64 0, .int .i64 0, .int .i64 0, .int .i64 0, .int .i64 0, .int .i64 0, .int .i64 0, .int .i64 0] 24 (0, 0))
  row : wr.heap[P + 1 + 1]? = some (.cells (inC (brK x k)) 24 (0, 0))
theorem BrI.next {w wr : World} {P k : Nat} {x : Nat → Int} (h : BrI w wr P x k) (hk : k < 12) : BrI w (wr.setCell ⟨P + 1 + 1, 3 + k, none⟩ (.int .i64 (x (3 + k) % 4294967296))) P x (k + 1) := by
  have := h.p
  refine ⟨below_put h.bel (Nat.le_refl _) (by omega), h.p, Fr.set.heap h.src (fun e => by omega), Fr.set.heap h.ans (fun e => by omega), ?_⟩
  have := heap_setCell_same _ _ (3 + k) _ _ (.int .i64 (x (3 + k) % 4294967296)) h.row
  rw [inC_set (brK x k) (3 + k) _ (by omega) (brK x (k + 1))] at this
  · exact this
  · intro i hi
    unfold brK
    by_cases e : i = 3 + k
    · subst e
      rw [if_pos rfl, if_pos (by omega)]
      unfold brR
      rw [if_neg (by omega), if_neg (by omega), if_neg (by omega)]
    · rw [if_neg e]
      by_cases d : i < 3 + k
      · rw [if_pos d, if_pos (by omega)]
      · rw [if_neg d, if_neg (by omega)]
end Go.Proofs.YtdheojhfgeabhaaDoor

namespace Go.Proofs.YtdheojhfgeabhaaDoor
open Go.RowKit Rec
open Crc (W)

theorem sb_mg : sb { data := #[66, 79, 76, 69, 70, 83, 48, 49] } = mg := by decide +kernel
theorem mg_nz : ¬ ∃ i, i < (⟨#[66, 79, 76, 69, 70, 83, 48, 49]⟩ : ByteArray).size ∧ nth (sb ⟨#[66, 79, 76, 69, 70, 83, 48, 49]⟩) i = 0 := by
  rw [sb_mg]
  have : ∀ i, i < 8 → ¬ nth mg i = 0 := by decide
  rintro ⟨i, h1, h2⟩
  exact this i h1 h2
theorem zn_zs : zn 512 = zs := rfl
theorem hasn (n : Int) (h : isLen n = true) : has n (4 : Nat) = true := by
  have := isLen_bd h
  exact decide_eq_true (by show n < 256 ^ 4; simp only [Int.reducePow]; omega)
theorem hass (n : Int) (h : n < 4294967296) : has n (4 : Nat) = true := decide_eq_true (by show n < 256 ^ 4; simp only [Int.reducePow]; omega)
end Go.Proofs.YtdheojhfgeabhaaDoor

namespace Go.Proofs.YtdheojhfgeabhaaDoor
open Go.RowKit Rec

theorem str_inj {l m : List Int} (h1 : ∀ i, 0 ≤ nth l i ∧ nth l i < 256) (h2 : ∀ i, 0 ≤ nth m i ∧ nth m i < 256) : (strOfNums l = strOfNums m) ↔ l = m :=
  ⟨fun h => by rw [← sb_str h1, h, sb_str h2], fun h => by rw [h]⟩
theorem str_same {l m : List Int} (h1 : ∀ i, 0 ≤ nth l i ∧ nth l i < 256) (h2 : ∀ i, 0 ≤ nth m i ∧ nth m i < 256) : ((strOfNums l).toList == (strOfNums m).toList) = decide (l = m) := by
  by_cases h : l = m
  · subst h; simp
  · rw [decide_eq_false h]
    rw [beq_eq_false_iff_ne]
    intro e
    apply h
    apply (str_inj h1 h2).1
    rw [ByteArray.ext_iff]
    have e2 : (strOfNums l).data.toList = (strOfNums m).data.toList := by
      rw [← ByteArray.toList_eq, ← ByteArray.toList_eq, e]
    exact Array.ext' e2
theorem str_beq {l m : List Int} (h1 : ∀ i, 0 ≤ nth l i ∧ nth l i < 256) (h2 : ∀ i, 0 ≤ nth m i ∧ nth m i < 256) : decide (strOfNums l = strOfNums m) = decide (l = m) := by
  by_cases h : l = m
  · rw [decide_eq_true h, decide_eq_true ((str_inj h1 h2).2 h)]
  · rw [decide_eq_false h, decide_eq_false (fun e => h ((str_inj h1 h2).1 e))]
end Go.Proofs.YtdheojhfgeabhaaDoor

namespace Go.Proofs.YtdheojhfgeabhaaDoor
open Go.RowKit Rec

theorem drew7 (w : World) (n : Nat) : Below w.heap.size w (w.drewN n) := ⟨rfl, rfl, rfl, Nat.le_refl _, fun _ _ => rfl⟩
theorem sup9 : (sup 128).take 9 = [66, 79, 76, 69, 70, 83, 48, 49, 128] := by
  have e : (sup 128).take 9 = ((sup 128).take 16).take 9 := by rw [List.take_take]; rfl
  rw [e, sup_sixteen, supA_twelve (n := 128) (by decide)]
  rfl
theorem str9 : strOfNums [66, 79, 76, 69, 70, 83, 48, 49, 128] = { data := #[66, 79, 76, 69, 70, 83, 48, 49, 128] } := by decide +kernel
end Go.Proofs.YtdheojhfgeabhaaDoor

namespace Go.Proofs.YtdheojhfgeabhaaDoor
open Go.RowKit Rec

/-- a number of blocks that may be -/
def nOf (x : Int) : Int := 128 + IntKind.u64.wrap x % 16257
theorem nOf_ok (x : Int) : isLen (nOf x) = true := isLen_yes (by unfold nOf; omega)
theorem wrap_bd (x : Int) : 0 ≤ IntKind.u64.wrap x ∧ IntKind.u64.wrap x < 18446744073709551616 := by
  unfold IntKind.wrap
  simp only [IntKind.signed, IntKind.bits]
  simp
  omega
theorem keepL {w w' : World} {k : Nat} {o : Obj} (hb : Below w.heap.size w w') (h : w.heap[k]? = some o) : w'.heap[k]? = some o := (below_fr hb (fun _ => False)).heap h (fun e => e)

end Go.Proofs.YtdheojhfgeabhaaDoor

namespace Go.Proofs.YtdheojhfgeabhaaDoor
open Go.RowKit Rec

theorem bytes7 (w : World) (l : List Int) (hl : l.length ≤ 100) (hw : ∀ i, 0 ≤ nth l i ∧ nth l i < 256) : OwnB (w.alloc (.cells (l.map (Value.int .u8)).toArray 5)) w.heap.size l.length l :=
  ⟨⟨_, heap_alloc_new _ _, by simp, List.take_of_length_le (by simp)⟩, by omega, Nat.le_refl _, by unfold maxLen; omega, hw⟩
theorem wf_one7 (b : Int) (h : 0 ≤ b ∧ b < 256) : ∀ i, 0 ≤ nth [b] i ∧ nth [b] i < 256 := fun i => by
  cases i with
  | zero => exact h
  | succ i => rw [nth_out _ _ (by simp)]; omega
theorem sup_spoilt {n : Int} (hn : isLen n = true) (k : Nat) (hk : k < 512) (b : Int) (hb : 1 ≤ b ∧ b ≤ 255) : rdE ((sup n).set k ((nth (sup n) k + b) % 256)) = 71 ∧ rdV ((sup n).set k ((nth (sup n) k + b) % 256)) = 0 := by
  have h1 := sup_bd n k
  have h2 := spoilt hn k hk ((nth (sup n) k + b) % 256) (by omega)
  have h3 : ((sup n).set k ((nth (sup n) k + b) % 256)).length = 512 := by rw [List.length_set, sup_len]
  generalize (sup n).set k ((nth (sup n) k + b) % 256) = z at h2 h3
  unfold rdE rdV
  rw [if_pos h3, if_pos h3, h2]
  exact ⟨rfl, rfl⟩
theorem rd_size {l : List Int} (h : l.length ≠ 512) : rdE l = 32 ∧ rdV l = 0 := by
  unfold rdE rdV; rw [if_neg h, if_neg h]; exact ⟨rfl, rfl⟩
theorem rd_cases (l : List Int) : (l.length ≠ 512 ∧ rdE l = 32 ∧ rdV l = 0) ∨ (l.length = 512 ∧ rdE l = 71 ∧ rdV l = 0) ∨ (l.length = 512 ∧ rdE l = 0 ∧ isLen (rdV l) = true ∧ l = sup (rdV l)) := by
  by_cases h : l.length = 512
  · right
    cases hk : rdOk l with
    | false => left; unfold rdE rdV; rw [if_pos h, if_pos h, hk]; exact ⟨h, rfl, rfl⟩
    | true =>
      right
      have e : rdV l = num l 8 4 := by unfold rdV; rw [if_pos h, if_pos hk]
      obtain ⟨h1, h2⟩ := rdOk_is hk
      rw [e]
      exact ⟨h, by unfold rdE; rw [if_pos h, if_pos hk], h1, h2⟩
  · exact .inl ⟨h, rd_size h⟩
end Go.Proofs.YtdheojhfgeabhaaDoor
