import Derived.Test.YtdheojhfgeabhaaDoorKEight
import Derived.Test.YtdheojhfgeabhaaDoorKMathR
import Derived.ChangeKeysEq
import Derived.Laws.StructEq
import Derived.Laws.CopyRow
namespace Go.Proofs.YtdheojhfgeabhaaDoor
open Rec Go.ChangeShapes Go.WideShapes Go.ChangeAt Go.RowKit

theorem cellsA2 : Tryd.prog.cellsOf 26 = 2 := by kernel_rfl
theorem cellsI7 : Tryd.prog.cellsOf 3 = 1 := by kernel_rfl
theorem list7 {α : Type} (l : List α) (h : l.length = 2) : ∃ a b, l = [a, b] := by
  match l, h with
  | [a, b], _ => exact ⟨a, b, rfl⟩
set_option maxRecDepth 100000 in
theorem okWide_a2 {W : World} {base : Nat} {v : Value} (h : Value.okWide Tryd.prog W .any base 26 v) : ∃ cs, v = .agg cs := by
  simp only [Value.okWide, Tryd.underlying26] at h
  obtain ⟨cs, h1, _⟩ := h
  exact ⟨cs, h1⟩
set_option maxRecDepth 100000 in
theorem open_a2 {H : Type} {enc : TypeId × Value → H} {W : World} {cs : Array Value} {D : DataW H} {Pl : List MemPlace} {fuel : Nat}
    (hf : DataW.trod enc Tryd.prog W 0 (fun _ => true) true fuel 26 (Value.agg cs).cells.toList = some (D, Pl)) :
    ∃ t0 t1 : Int, cs = #[.int .i64 t0, .int .i64 t1] ∧ (-9223372036854775808 ≤ t0 ∧ t0 ≤ 9223372036854775807) ∧ (-9223372036854775808 ≤ t1 ∧ t1 ≤ 9223372036854775807) := by
  obtain ⟨xs, m, hm, hx, hlen, hxl, hel⟩ := DataW.trod_array Tryd.underlying26 hf
  rw [cellsA2] at hlen
  obtain ⟨v0, v1, hcs⟩ := list7 _ hlen
  obtain ⟨x0, x1, rfl⟩ := list7 xs hxl
  rw [hcs] at hel
  have e0 := hel 0 (by omega)
  have e1 := hel 1 (by omega)
  clear hel
  simp [cellsI7] at e0 e1
  obtain ⟨b, z0, _, k0⟩ := DataW.trod_int Tryd.underlying3 e0
  obtain ⟨c, z1, _, k1⟩ := DataW.trod_int Tryd.underlying3 e1
  simp at z0 z1
  subst z0 z1
  refine ⟨b, c, ?_, wf_i64 k0, wf_i64 k1⟩
  have : cs.toList = [.int .i64 b, .int .i64 c] := hcs
  exact Array.toList_inj.1 this
theorem cap_le {H : Type} {enc : TypeId × Value → H} {W : World} {a : Option Addr} {len cap : Nat} {d : DataW H} {p : List MemPlace} {fuel : Nat}
    (hf : DataW.trod enc Tryd.prog W 0 (fun _ => true) true fuel 25 [.slice a len cap] = some (d, p)) : len ≤ cap :=
  (ints_bulk Tryd.underlying25 Tryd.underlying5 cells5 hf).2
end Go.Proofs.YtdheojhfgeabhaaDoor

namespace Rec

/-- a record: Kind, Links, Size, the ten of Direct, One, Two -/
def kFit (x : Nat → Int) : Bool := decide ((x 0 = 1 ∧ 0 ≤ x 1 ∧ x 1 ≤ 1000 ∧ 0 ≤ x 2 ∧ x 2 ≤ 8459264) ∨ (x 0 = 2 ∧ 2 ≤ x 1 ∧ x 1 ≤ 65535 ∧ 0 ≤ x 2 ∧ x 2 ≤ 8459264 ∧ x 2 % 512 = 0) ∨ (x 0 = 3 ∧ 1 ≤ x 1 ∧ x 1 ≤ 1000 ∧ 1 ≤ x 2 ∧ x 2 ≤ 1024))
def nFit (x : Nat → Int) : Bool := (List.range 12).all fun i => decide (0 ≤ x (3 + i) ∧ x (3 + i) ≤ 4294967295)
theorem nFit_iff {x : Nat → Int} : nFit x = true ↔ ∀ i, i < 12 → 0 ≤ x (3 + i) ∧ x (3 + i) ≤ 4294967295 := by unfold nFit; rw [List.all_eq_true]; exact ⟨fun h i hi => of_decide_eq_true (h i (List.mem_range.2 hi)), fun h i hi => decide_eq_true (h i (List.mem_range.1 hi))⟩
def isFr (x : Nat → Int) : Bool := (List.range 15).all fun i => decide (x i = 0)
def inUs (x : Nat → Int) : Bool := kFit x && nFit x
def rMay (x : Nat → Int) : Bool := isFr x || inUs x
def z15 : Nat → Int := fun _ => 0
/-- alike as records -/
def Sm (x y : Nat → Int) : Prop := ∀ i, i < 15 → x i = y i
theorem Sm.rfl {x : Nat → Int} : Sm x x := fun _ _ => Eq.refl _
theorem Sm.symm {x y : Nat → Int} (h : Sm x y) : Sm y x := fun i hi => (h i hi).symm
theorem Sm.trans {x y z : Nat → Int} (h : Sm x y) (g : Sm y z) : Sm x z := fun i hi => (h i hi).trans (g i hi)
theorem isFr_iff {x : Nat → Int} : isFr x = true ↔ Sm x z15 := by unfold isFr; rw [List.all_eq_true]; exact ⟨fun h i hi => of_decide_eq_true (h i (List.mem_range.2 hi)), fun h i hi => decide_eq_true (h i (List.mem_range.1 hi))⟩
theorem Sm.kFit {x y : Nat → Int} (h : Sm x y) : kFit x = kFit y := by unfold Rec.kFit; rw [h 0 (by omega), h 1 (by omega), h 2 (by omega)]
theorem Sm.nFit {x y : Nat → Int} (h : Sm x y) : nFit x = nFit y := by
  rw [Bool.eq_iff_iff, nFit_iff, nFit_iff]
  exact ⟨fun g i hi => (h (3 + i) (by omega)) ▸ g i hi, fun g i hi => (h (3 + i) (by omega)).symm ▸ g i hi⟩
theorem Sm.isFr {x y : Nat → Int} (h : Sm x y) : isFr x = isFr y := by
  rw [Bool.eq_iff_iff, isFr_iff, isFr_iff]
  exact ⟨h.symm.trans, h.trans⟩
theorem Sm.inUs {x y : Nat → Int} (h : Sm x y) : inUs x = inUs y := by unfold Rec.inUs; rw [h.kFit, h.nFit]
theorem Sm.rMay {x y : Nat → Int} (h : Sm x y) : rMay x = rMay y := by unfold Rec.rMay; rw [h.isFr, h.inUs]
/-- what a record's fields are below, where it may be -/
def fBd (i : Nat) : Int := if i = 0 then 256 else if i = 1 then 65536 else 4294967296
theorem rMay_bd {x : Nat → Int} (h : rMay x = true) (i : Nat) (hi : i < 15) : 0 ≤ x i ∧ x i < fBd i := by
  unfold rMay at h
  rcases Bool.or_eq_true _ _ ▸ h with h | h
  · rw [isFr_iff] at h
    rw [h i hi]
    unfold z15 fBd
    repeat' split
    all_goals omega
  · unfold inUs at h
    obtain ⟨h1, h2⟩ := (Bool.and_eq_true _ _).mp h
    rw [nFit_iff] at h2
    simp only [kFit, decide_eq_true_eq] at h1
    have := h2 (i - 3)
    unfold fBd
    by_cases c0 : i = 0
    · subst c0; simp; omega
    · by_cases c1 : i = 1
      · subst c1; simp; omega
      · by_cases c2 : i = 2
        · subst c2; simp; omega
        · rw [show 3 + (i - 3) = i by omega] at this
          have := this (by omega)
          rw [if_neg c0, if_neg c1]; omega
/-- a byte of a record -/
def rbf (x : Nat → Int) (i : Nat) : Int :=
  if i = 0 then dig (x 0) 0 else if i = 1 then 0 else if i < 4 then dig (x 1) (i - 2) else if i < 8 then dig (x 2) (i - 4) else if i < 56 then dig (x (3 + (i - 8) / 4)) ((i - 8) % 4) else 0
/-- a record's bytes -/
def rby (x : Nat → Int) : List Int := (List.range 64).map (rbf x)
/-- so many of its numbers laid -/
def rbj (x : Nat → Int) (j : Nat) : List Int := (List.range 64).map fun i => if i < 8 + 4 * j then rbf x i else 0
theorem nth_mapR (f : Nat → Int) (n i : Nat) (h : i < n) : nth ((List.range n).map f) i = f i := by simp [nth, List.getD, h]
theorem rby_length (x : Nat → Int) : (rby x).length = 64 := by simp [rby]
theorem rbj_length (x : Nat → Int) (j : Nat) : (rbj x j).length = 64 := by simp [rbj]
theorem nth_rby (x : Nat → Int) (i : Nat) (h : i < 64) : nth (rby x) i = rbf x i := nth_mapR _ _ _ h
theorem nth_rbj (x : Nat → Int) (j i : Nat) (h : i < 64) : nth (rbj x j) i = if i < 8 + 4 * j then rbf x i else 0 := nth_mapR _ _ _ h
theorem rbf_bd (x : Nat → Int) (i : Nat) : 0 ≤ rbf x i ∧ rbf x i < 256 := by
  have := dig_bd
  unfold rbf
  repeat' split
  all_goals first | exact this _ _ | omega
theorem rby_bd (x : Nat → Int) (i : Nat) : 0 ≤ nth (rby x) i ∧ nth (rby x) i < 256 := by
  by_cases h : i < 64
  · rw [nth_rby x i h]; exact rbf_bd x i
  · rw [nth_out _ _ (by rw [rby_length]; omega)]; omega
theorem rbj_bd (x : Nat → Int) (j i : Nat) : 0 ≤ nth (rbj x j) i ∧ nth (rbj x j) i < 256 := by
  by_cases h : i < 64
  · rw [nth_rbj x j i h]; split
    · exact rbf_bd x i
    · omega
  · rw [nth_out _ _ (by rw [rbj_length]; omega)]; omega
theorem Sm.rbf {x y : Nat → Int} (h : Sm x y) (i : Nat) (hi : i < 64) : rbf x i = rbf y i := by
  unfold Rec.rbf
  rw [h 0 (by omega), h 1 (by omega), h 2 (by omega)]
  by_cases c : i < 56
  · by_cases d : i < 8
    · simp only [d, if_true]
    · rw [h (3 + (i - 8) / 4) (by omega)]
  · simp only [c, if_false]
theorem Sm.rby {x y : Nat → Int} (h : Sm x y) : rby x = rby y := by
  unfold Rec.rby
  exact List.map_congr_left fun i hi => h.rbf i (List.mem_range.1 hi)
def zs64 : List Int := List.replicate 64 0
theorem zs64_length : zs64.length = 64 := List.length_replicate
theorem nth_zs64 (i : Nat) : nth zs64 i = 0 := by
  by_cases h : i < 64
  · rw [nth, List.getD, zs64, List.getElem?_replicate, if_pos h]; rfl
  · exact nth_out _ _ (by rw [zs64_length]; omega)
theorem rbj_zero (x : Nat → Int) : ov (ov (ov zs64 0 1 (dig (x 0))) 2 2 (dig (x 1))) 4 4 (dig (x 2)) = rbj x 0 := by
  refine ext_nth (by simp [ov_length, zs64_length, rbj_length]) fun i hi => ?_
  have hi' : i < 64 := by simpa [ov_length, zs64_length] using hi
  rw [nth_ov _ _ _ _ _ (by simp [ov_length, zs64_length]; omega), nth_ov _ _ _ _ _ (by simp [ov_length, zs64_length]; omega), nth_ov _ _ _ _ _ (by simp [zs64_length]; omega), nth_zs64, nth_rbj _ _ _ hi']
  unfold rbf
  by_cases c0 : i = 0
  · subst c0; simp
  · by_cases c1 : i = 1
    · subst c1; simp
    · by_cases c2 : i < 4
      · rw [if_neg (by omega), if_pos (by omega), if_pos (by omega), if_neg c0, if_neg c1, if_pos c2]
      · by_cases c3 : i < 8
        · rw [if_pos (by omega), if_pos (by omega), if_neg c0, if_neg c1, if_neg c2, if_pos c3]
        · rw [if_neg (by omega), if_neg (by omega), if_neg (by omega), if_neg (by omega)]
theorem rbj_succ (x : Nat → Int) (j : Nat) (h : j < 12) : ov (rbj x j) (8 + 4 * j) 4 (dig (x (3 + j))) = rbj x (j + 1) := by
  refine ext_nth (by simp [ov_length, rbj_length]) fun i hi => ?_
  have hi' : i < 64 := by simpa [ov_length, rbj_length] using hi
  rw [nth_ov _ _ _ _ _ (by rw [rbj_length]; omega), nth_rbj _ _ _ hi', nth_rbj _ _ _ hi']
  by_cases c : 8 + 4 * j ≤ i ∧ i < 8 + 4 * j + 4
  · rw [if_pos c, if_pos (by omega)]
    unfold rbf
    rw [if_neg (by omega), if_neg (by omega), if_neg (by omega), if_neg (by omega), if_pos (by omega), show (i - 8) / 4 = j by omega, show (i - 8) % 4 = i - (8 + 4 * j) by omega]
  · rw [if_neg c]
    by_cases d : i < 8 + 4 * j
    · rw [if_pos d, if_pos (by omega)]
    · rw [if_neg d, if_neg (by omega)]
theorem rbj_all (x : Nat → Int) : rbj x 12 = rby x := by
  refine ext_nth (by simp [rbj_length, rby_length]) fun i hi => ?_
  have hi' : i < 64 := by simpa [rbj_length] using hi
  rw [nth_rbj _ _ _ hi', nth_rby _ _ hi']
  by_cases c : i < 56
  · rw [if_pos (by omega)]
  · rw [if_neg (by omega)]
    unfold rbf
    rw [if_neg (by omega), if_neg (by omega), if_neg (by omega), if_neg (by omega), if_neg c]
/-- what 64 bytes say -/
def rdf (l : List Int) (i : Nat) : Int := if i = 0 then num l 0 1 else if i = 1 then num l 2 2 else if i = 2 then num l 4 4 else num l (8 + 4 * (i - 3)) 4
def gz (l : List Int) : Bool := zr l 1 1 && zr l 56 8
def isRec (l : List Int) : Bool := gz l && rMay (rdf l)
def decE (l : List Int) : Int := if l.length = 64 then if isRec l then 0 else 111 else 32
def decX (l : List Int) : Nat → Int := if decE l = 0 then rdf l else z15
theorem num_cong64 {a b : List Int} {p q : Nat} (m : Nat) (h : ∀ i, i < m → nth a (p + i) = nth b (q + i)) : num a p m = num b q m := by
  induction m with
  | zero => rfl
  | succ m ih => rw [num, num, ih (fun i hi => h i (by omega)), h m (by omega)]
theorem num_dig (l : List Int) (p : Nat) (v : Int) (m : Nat) (h : ∀ i, i < m → nth l (p + i) = dig v i) (hv : 0 ≤ v ∧ v < 256 ^ m) : num l p m = v := by
  have e : num l p m = num (ov (List.replicate m 0) 0 m (dig v)) 0 m := num_cong64 m fun i hi => by
    rw [h i hi, nth_ov _ _ _ _ _ (by simp; omega), if_pos (by omega)]; congr 1; omega
  rw [e, num_ov _ _ _ _ _ (by simp) (Nat.le_refl _), Int.emod_eq_of_lt hv.1 hv.2]
theorem dig_num (l : List Int) (p m : Nat) (hl : ∀ i, 0 ≤ nth l i ∧ nth l i < 256) (i : Nat) (hi : i < m) : dig (num l p m) i = nth l (p + i) := by
  induction m with
  | zero => omega
  | succ m ih =>
    have hb := num_bd l p m hl
    have hm := hl (p + m)
    have pp := pow_pos m
    unfold dig
    rw [num]
    by_cases c : i = m
    · subst c
      rw [Int.add_mul_ediv_right _ _ (Int.ne_of_gt pp), Int.ediv_eq_zero_of_lt hb.1 hb.2, Int.zero_add, Int.emod_eq_of_lt hm.1 hm.2]
    · have hlt : i < m := by omega
      have := ih hlt
      unfold dig at this
      obtain ⟨k, rfl⟩ : ∃ k, m = i + 1 + k := ⟨m - i - 1, by omega⟩
      have pi := pow_pos i
      have e : nth l (p + (i + 1 + k)) * (256 : Int) ^ (i + 1 + k) = (nth l (p + (i + 1 + k)) * 256 ^ k * 256) * 256 ^ i := by
        rw [Int.pow_add, Int.pow_succ]
        simp only [Int.mul_assoc, Int.mul_comm, Int.mul_left_comm]
      rw [e, Int.add_mul_ediv_right _ _ (Int.ne_of_gt pi), Int.add_mul_emod_self_right, this]
theorem rdf_rby {x : Nat → Int} (h : rMay x = true) : Sm (rdf (rby x)) x := by
  intro i hi
  have hb := rMay_bd h i hi
  unfold fBd at hb
  unfold rdf
  by_cases c0 : i = 0
  · subst c0
    rw [if_pos rfl] at hb ⊢
    refine num_dig _ _ _ 1 (fun k hk => ?_) ⟨hb.1, by simpa using hb.2⟩
    rw [nth_rby _ _ (by omega)]; obtain rfl : k = 0 := by omega
    rfl
  · rw [if_neg c0] at hb ⊢
    by_cases c1 : i = 1
    · subst c1
      rw [if_pos rfl] at hb ⊢
      refine num_dig _ _ _ 2 (fun k hk => ?_) ⟨hb.1, by simpa using hb.2⟩
      rw [nth_rby _ _ (by omega)]; unfold rbf
      rw [if_neg (by omega), if_neg (by omega), if_pos (by omega)]; congr 1; omega
    · rw [if_neg c1] at hb ⊢
      by_cases c2 : i = 2
      · subst c2
        rw [if_pos rfl]
        refine num_dig _ _ _ 4 (fun k hk => ?_) ⟨hb.1, by simpa using hb.2⟩
        rw [nth_rby _ _ (by omega)]; unfold rbf
        rw [if_neg (by omega), if_neg (by omega), if_neg (by omega), if_pos (by omega)]; congr 1; omega
      · rw [if_neg c2]
        refine num_dig _ _ _ 4 (fun k hk => ?_) ⟨hb.1, by simpa using hb.2⟩
        rw [nth_rby _ _ (by omega)]; unfold rbf
        rw [if_neg (by omega), if_neg (by omega), if_neg (by omega), if_neg (by omega), if_pos (by omega), show 3 + (8 + 4 * (i - 3) + k - 8) / 4 = i by omega, show (8 + 4 * (i - 3) + k - 8) % 4 = k by omega]
theorem gz_rby (x : Nat → Int) : gz (rby x) = true := by
  unfold gz
  rw [zr_true, zr_true]
  · rfl
  · intro i hi
    rw [nth_rby _ _ (by omega)]; unfold rbf
    rw [if_neg (by omega), if_neg (by omega), if_neg (by omega), if_neg (by omega), if_neg (by omega)]
  · intro i hi
    rw [nth_rby _ _ (by omega)]; obtain rfl : i = 0 := by omega
    rfl
theorem isRec_rby {x : Nat → Int} (h : rMay x = true) : isRec (rby x) = true := by
  unfold isRec; rw [gz_rby, (rdf_rby h).rMay, h]; rfl
theorem decE_rby {x : Nat → Int} (h : rMay x = true) : decE (rby x) = 0 := by
  unfold decE; rw [if_pos (rby_length x), isRec_rby h]; rfl
theorem decX_rby {x : Nat → Int} (h : rMay x = true) : Sm (decX (rby x)) x := by
  unfold decX; rw [if_pos (decE_rby h)]; exact rdf_rby h
theorem rby_rdf {l : List Int} (hl : l.length = 64) (hb : ∀ i, 0 ≤ nth l i ∧ nth l i < 256) (hg : gz l = true) : rby (rdf l) = l := by
  refine ext_nth (by rw [rby_length, hl]) fun i hi => ?_
  rw [rby_length] at hi
  rw [nth_rby _ _ hi]
  unfold gz at hg
  obtain ⟨g1, g2⟩ := (Bool.and_eq_true _ _).mp hg
  simp only [zr, decide_eq_true_eq] at g1 g2
  unfold rbf rdf
  by_cases c0 : i = 0
  · subst c0; rw [if_pos rfl, if_pos rfl, dig_num _ _ _ hb _ (by omega)]
  · rw [if_neg c0]
    by_cases c1 : i = 1
    · subst c1; rw [if_pos rfl]; exact (g1 0 (by omega)).symm
    · rw [if_neg c1]
      by_cases c2 : i < 4
      · rw [if_pos c2, if_neg (by omega), if_pos rfl, dig_num _ _ _ hb _ (by omega)]; congr 1; omega
      · rw [if_neg c2]
        by_cases c3 : i < 8
        · rw [if_pos c3, if_neg (by omega), if_neg (by omega), if_pos rfl, dig_num _ _ _ hb _ (by omega)]; congr 1; omega
        · rw [if_neg c3]
          by_cases c4 : i < 56
          · rw [if_pos c4, if_neg (by omega), if_neg (by omega), if_neg (by omega), dig_num _ _ _ hb _ (by omega)]; congr 1; omega
          · rw [if_neg c4]
            have := g2 (i - 56) (by omega)
            rw [show 56 + (i - 56) = i by omega] at this
            exact this.symm
theorem decE_zero {l : List Int} (h : decE l = 0) : l.length = 64 ∧ isRec l = true := by
  unfold decE at h
  by_cases c : l.length = 64
  · rw [if_pos c] at h
    by_cases d : isRec l = true
    · exact ⟨c, d⟩
    · rw [if_neg d] at h; cases h
  · rw [if_neg c] at h; cases h
theorem isRec_may {l : List Int} (h : isRec l = true) : rMay (rdf l) = true ∧ gz l = true := by
  unfold isRec at h
  obtain ⟨a, b⟩ := (Bool.and_eq_true _ _).mp h
  exact ⟨b, a⟩
theorem rby_decX {l : List Int} (hb : ∀ i, 0 ≤ nth l i ∧ nth l i < 256) (h : decE l = 0) : rMay (decX l) = true ∧ rby (decX l) = l := by
  obtain ⟨h1, h2⟩ := decE_zero h
  obtain ⟨h3, h4⟩ := isRec_may h2
  unfold decX
  rw [if_pos h]
  exact ⟨h3, rby_rdf h1 hb h4⟩
theorem rby_inj {x y : Nat → Int} (hx : rMay x = true) (hy : rMay y = true) (h : rby x = rby y) : Sm x y := by
  have a := rdf_rby hx
  rw [h] at a
  exact a.symm.trans (rdf_rby hy)
theorem decX_ne {l : List Int} (h : decE l ≠ 0) : decX l = z15 := if_neg h
theorem decE_cases {l : List Int} (h : l.length = 64) : decE l = 0 ∨ decE l = 111 := by
  unfold decE; rw [if_pos h]; split
  · exact .inl rfl
  · exact .inr rfl
theorem decE_size {l : List Int} (h : l.length ≠ 64) : decE l = 32 := if_neg h
theorem rMay_z15 : rMay z15 = true := by
  unfold rMay; rw [isFr_iff.2 Sm.rfl]; rfl
theorem zs64_rby : zs64 = rby z15 := by
  refine ext_nth (by rw [zs64_length, rby_length]) fun i hi => ?_
  rw [zs64_length] at hi
  rw [nth_zs64, nth_rby _ _ hi]
  unfold rbf z15 dig
  simp
theorem inUs_ne {x : Nat → Int} (h : inUs x = true) : isFr x = false := by
  cases e : isFr x with
  | false => rfl
  | true =>
    rw [isFr_iff] at e
    unfold inUs at h
    have := ((Bool.and_eq_true _ _).mp h).1
    simp only [kFit, decide_eq_true_eq] at this
    have := e 0 (by omega)
    unfold z15 at this
    omega
theorem kind_free {x : Nat → Int} (h : rMay x = true) : isFr x = decide (x 0 = 0) := by
  cases e : isFr x with
  | true =>
    rw [isFr_iff] at e
    exact (decide_eq_true (e 0 (by omega))).symm
  | false =>
    unfold rMay at h
    rw [e, Bool.false_or] at h
    unfold inUs at h
    have := ((Bool.and_eq_true _ _).mp h).1
    simp only [kFit, decide_eq_true_eq] at this
    exact (decide_eq_false (by omega)).symm
end Rec

namespace Go.Proofs.YtdheojhfgeabhaaDoor
open Go.RowKit Rec

/-- a record's value -/
def inV (x : Nat → Int) : Value := .agg #[.int .i64 (x 0), .int .i64 (x 1), .int .i64 (x 2), .int .i64 (x 3), .int .i64 (x 4), .int .i64 (x 5), .int .i64 (x 6), .int .i64 (x 7), .int .i64 (x 8), .int .i64 (x 9), .int .i64 (x 10), .int .i64 (x 11), .int .i64 (x 12), .int .i64 (x 13), .int .i64 (x 14)]
/-- its own numbers -/
def inN (x : Nat → Int) : List Int := (List.range 12).map fun i => x (3 + i)
theorem inN_length (x : Nat → Int) : (inN x).length = 12 := by simp [inN]
theorem nth_inN (x : Nat → Int) (i : Nat) (h : i < 12) : nth (inN x) i = x (3 + i) := by simp [nth, inN, List.getD, h]
/-- its direct numbers, as cells -/
def inD (x : Nat → Int) : List Value := [.int .i64 (x 3), .int .i64 (x 4), .int .i64 (x 5), .int .i64 (x 6), .int .i64 (x 7), .int .i64 (x 8), .int .i64 (x 9), .int .i64 (x 10), .int .i64 (x 11), .int .i64 (x 12)]
end Go.Proofs.YtdheojhfgeabhaaDoor

namespace Go.Proofs.YtdheojhfgeabhaaDoor
open Go.RowKit Rec

/-- are two records alike? -/
def smB (x y : Nat → Int) : Bool := (List.range 15).all fun i => decide (x i = y i)
theorem smB_iff {x y : Nat → Int} : smB x y = true ↔ Sm x y := by
  unfold smB; rw [List.all_eq_true]; exact ⟨fun h i hi => of_decide_eq_true (h i (List.mem_range.2 hi)), fun h i hi => decide_eq_true (h i (List.mem_range.1 hi))⟩
theorem smB_z (x : Nat → Int) : smB x z15 = isFr x := by rw [Bool.eq_iff_iff, smB_iff, isFr_iff]
theorem info_int : (Tryd.prog.info? 3).map (fun i => (i.zero, i.size, i.bytes)) = some (some (.int .i64 0), 1, 8) := by kernel_rfl
theorem fieldsIno : (Tryd.prog.fieldsOf 24).toList.map (fun f => (f.name, f.type, f.offset)) = [("Kind", 3, 0), ("Links", 3, 1), ("Size", 3, 2), ("Direct", 22, 3), ("One", 3, 13), ("Two", 3, 14)] := by kernel_rfl
theorem list6m {l : List Field} {a b c d e f : String × TypeId × Nat} (h : l.map (fun f => (f.name, f.type, f.offset)) = [a, b, c, d, e, f]) : ∃ f0 f1 f2 f3 f4 f5, l = [f0, f1, f2, f3, f4, f5] ∧ (f0.name = a.1 ∧ f0.type = a.2.1 ∧ f0.offset = a.2.2) ∧ (f1.name = b.1 ∧ f1.type = b.2.1 ∧ f1.offset = b.2.2) ∧ (f2.name = c.1 ∧ f2.type = c.2.1 ∧ f2.offset = c.2.2) ∧ (f3.name = d.1 ∧ f3.type = d.2.1 ∧ f3.offset = d.2.2) ∧ (f4.name = e.1 ∧ f4.type = e.2.1 ∧ f4.offset = e.2.2) ∧ (f5.name = f.1 ∧ f5.type = f.2.1 ∧ f5.offset = f.2.2) := by
  match l, h with
  | [f0, f1, f2, f3, f4, f5], h =>
    simp only [List.map_cons, List.map_nil, List.cons.injEq, and_true] at h
    obtain ⟨rfl, rfl, rfl, rfl, rfl, rfl⟩ := h
    exact ⟨f0, f1, f2, f3, f4, f5, rfl, ⟨rfl, rfl, rfl⟩, ⟨rfl, rfl, rfl⟩, ⟨rfl, rfl, rfl⟩, ⟨rfl, rfl, rfl⟩, ⟨rfl, rfl, rfl⟩, ⟨rfl, rfl, rfl⟩⟩
  | [], h => cases h
  | [_], h => cases h
  | [_, _], h => cases h
  | [_, _, _], h => cases h
  | [_, _, _, _], h => cases h
  | [_, _, _, _, _], h => cases h
  | _ :: _ :: _ :: _ :: _ :: _ :: _ :: _, h => simp at h
def inC (x : Nat → Int) : Array Value := #[.int .i64 (x 0), .int .i64 (x 1), .int .i64 (x 2), .int .i64 (x 3), .int .i64 (x 4), .int .i64 (x 5), .int .i64 (x 6), .int .i64 (x 7), .int .i64 (x 8), .int .i64 (x 9), .int .i64 (x 10), .int .i64 (x 11), .int .i64 (x 12), .int .i64 (x 13), .int .i64 (x 14)]
theorem inC_at (x : Nat → Int) (i : Nat) (hi : i < 15) : (inC x)[i]? = some (.int .i64 (x i)) := by
  match i, hi with
  | 0, _ | 1, _ | 2, _ | 3, _ | 4, _ | 5, _ | 6, _ | 7, _ | 8, _ | 9, _ | 10, _ | 11, _ | 12, _ | 13, _ | 14, _ => rfl
theorem eq_int (w : World) (e : Nat) (a b : Int) : (Op.equalIn (e + 1) 3 (.int .i64 a) (.int .i64 b)).run Tryd.prog w = .ok (decide (a = b)) w := by
  rw [show decide (a = b) = (a == b) from by by_cases h : a = b <;> simp [h]]
  simp [Op.equalIn, run_underlying Tryd.underlying3]
theorem cells10 : Tryd.prog.cellsOf 3 = 1 := by kernel_rfl
theorem info10a : (Tryd.prog.info? 22).map (fun i => (i.size)) = some 10 := by kernel_rfl
theorem part_int (w : World) (xs : Array Value) (i : Nat) (a : Int) (h : xs[i]? = some (.int .i64 a)) : (part 3 xs i).run Tryd.prog w = .ok (.int .i64 a) w := by
  obtain ⟨i0, hi0, hz0, hz1, hz2⟩ := info_parts info_int
  obtain ⟨l⟩ := xs
  have h' : l[i]? = some (.int .i64 a) := by simpa using h
  simp [part, typeInfo, sizeOf, hi0, hz1, h']
theorem items_int (w : World) (e : Nat) (xs ys : Array Value) (f g : Nat → Int) : ∀ is : List Nat, (∀ i ∈ is, xs[i]? = some (.int .i64 (f i))) → (∀ i ∈ is, ys[i]? = some (.int .i64 (g i))) → (Op.eqItems (e + 1) 3 1 xs ys is).run Tryd.prog w = .ok (is.all fun i => decide (f i = g i)) w
  | [], _, _ => by simp [Op.eqItems]
  | i :: is, hx, hy => by
    have ih := items_int w e xs ys f g is (fun j hj => hx j (List.mem_cons_of_mem _ hj)) (fun j hj => hy j (List.mem_cons_of_mem _ hj))
    have p1 := part_int w xs (i * 1) (f i) (by rw [Nat.mul_one]; exact hx i List.mem_cons_self)
    have p2 := part_int w ys (i * 1) (g i) (by rw [Nat.mul_one]; exact hy i List.mem_cons_self)
    simp only [Op.eqItems, Sem.run_bind, p1, p2, eq_int, Result.andThen_ok, List.all_cons]
    cases decide (f i = g i)
    · simp
    · simpa using ih
def inDc (x : Nat → Int) : Array Value := #[.int .i64 (x 3), .int .i64 (x 4), .int .i64 (x 5), .int .i64 (x 6), .int .i64 (x 7), .int .i64 (x 8), .int .i64 (x 9), .int .i64 (x 10), .int .i64 (x 11), .int .i64 (x 12)]
theorem inDc_at (x : Nat → Int) (i : Nat) (hi : i < 10) : (inDc x)[i]? = some (.int .i64 (x (3 + i))) := by
  match i, hi with
  | 0, _ | 1, _ | 2, _ | 3, _ | 4, _ | 5, _ | 6, _ | 7, _ | 8, _ | 9, _ => rfl
theorem part_dir (w : World) (x : Nat → Int) : (part 22 (inC x) 3).run Tryd.prog w = .ok (.agg (inDc x)) w := by kernel_rfl
set_option maxRecDepth 100000 in
theorem eqIn_ino (w : World) (d : Nat) (x y : Nat → Int) : (Op.equalIn (d + 3) 24 (inV x) (inV y)).run Tryd.prog w = .ok (smB x y) w := by
  obtain ⟨i0, hi0, hz0, hz1, hz2⟩ := info_parts info_int
  have ht : Tryd.prog.underlying 24 = some (.struct (Tryd.prog.fieldsOf 24)) := by kernel_rfl
  have hp : Tryd.prog.stoodInHeld 24 = false := by kernel_rfl
  show (Op.equalIn (d + 2 + 1) 24 (.agg (inC x)) (.agg (inC y))).run Tryd.prog w = _
  rw [run_equalIn_struct w (d + 2) _ _ _ ht hp]
  obtain ⟨f0, f1, f2, f3, f4, f5, hl, ⟨a0, b0, c0⟩, ⟨a1, b1, c1⟩, ⟨a2, b2, c2⟩, ⟨a3, b3, c3⟩, ⟨a4, b4, c4⟩, ⟨a5, b5, c5⟩⟩ := list6m fieldsIno
  rw [hl]
  have hP : ∀ (z : Nat → Int) (i : Nat), i < 15 → (part 3 (inC z) i).run Tryd.prog w = .ok (.int .i64 (z i)) w := fun z i hi => part_int w _ i _ (inC_at z i hi)
  have hA : (Op.equalIn (d + 2) 22 (.agg (inDc x)) (.agg (inDc y))).run Tryd.prog w = .ok ((List.range 10).all fun i => decide (x (3 + i) = y (3 + i))) w := by
    rw [run_equalIn_array w (d + 1) _ _ Tryd.underlying22 hi0, cells10]
    exact items_int w d _ _ (fun i => x (3 + i)) (fun i => y (3 + i)) _ (fun i hi => inDc_at x i (List.mem_range.1 hi)) (fun i hi => inDc_at y i (List.mem_range.1 hi))
  have hE : smB x y = (decide (x 0 = y 0) && (decide (x 1 = y 1) && (decide (x 2 = y 2) && (((List.range 10).all fun i => decide (x (3 + i) = y (3 + i))) && (decide (x 13 = y 13) && decide (x 14 = y 14)))))) := by
    simp [smB, List.range_succ, Bool.and_assoc]
  rw [hE]
  simp only [Op.eqFields, a0, b0, c0, a1, b1, c1, a2, b2, c2, a3, b3, c3, a4, b4, c4, a5, b5, c5, Sem.run_bind, Sem.run_ite, hP _ 0 (by omega), hP _ 1 (by omega), hP _ 2 (by omega), hP _ 13 (by omega), hP _ 14 (by omega), part_dir, hA, eq_int, Result.andThen_ok]
  generalize decide (x 0 = y 0) = q0
  generalize decide (x 1 = y 1) = q1
  generalize decide (x 2 = y 2) = q2
  generalize ((List.range 10).all fun i => decide (x (3 + i) = y (3 + i))) = q3
  generalize decide (x 13 = y 13) = q4
  generalize decide (x 14 = y 14) = q5
  cases q0 <;> cases q1 <;> cases q2 <;> cases q3 <;> cases q4 <;> cases q5 <;> rfl
theorem eqlI (w : World) (x y : Nat → Int) : (binOp .eql 24 (inV x) (inV y)).run Tryd.prog w = .ok (.bool (smB x y)) w := by
  show (binOp .eql 24 (.agg (inC x)) (.agg (inC y))).run Tryd.prog w = _
  rw [run_eql_struct]
  have := eqIn_ino w 9997 x y
  rw [show (Op.equalIn 10000 24 (.agg (inC x)) (.agg (inC y))).run Tryd.prog w = _ from this]
  rfl
theorem neqI (w : World) (x y : Nat → Int) : (binOp .neq 24 (inV x) (inV y)).run Tryd.prog w = .ok (.bool (!smB x y)) w := by
  show (binOp .neq 24 (.agg (inC x)) (.agg (inC y))).run Tryd.prog w = _
  rw [run_neq_struct]
  have := eqIn_ino w 9997 x y
  rw [show (Op.equalIn 10000 24 (.agg (inC x)) (.agg (inC y))).run Tryd.prog w = _ from this]
  rfl
/-- does it lie there? -/
def wth (v lo hi : Int) : Bool := decide (lo ≤ v ∧ v ≤ hi)
theorem wth_yes {v lo hi : Int} (h : lo ≤ v ∧ v ≤ hi) : wth v lo hi = true := decide_eq_true h
theorem wth_no {v lo hi : Int} (h : ¬ (lo ≤ v ∧ v ≤ hi)) : wth v lo hi = false := decide_eq_false h
set_option maxRecDepth 100000 in
theorem within_any (w : World) (v lo hi : Int) : Calls Tryd.prog 55 #[.int .i64 v, .int .i64 lo, .int .i64 hi] w fun e w' => e = .returned (.bool (wth v lo hi)) ∧ w = w' := by
  go_enter Tryd.func55, Tryd.ntmps55
  by_cases h1 : lo ≤ v
  · by_cases h2 : v ≤ hi
    · go_wp2
      go_ret
      exact ⟨by rw [wth_yes ⟨h1, h2⟩]; rfl, rfl⟩
    · go_wp2
      go_ret
      exact ⟨by rw [wth_no (by omega)]; rfl, rfl⟩
  · go_wp2
    go_ret
    exact ⟨by rw [wth_no (by omega)]; rfl, rfl⟩
set_option maxRecDepth 100000 in
set_option maxHeartbeats 1600000 in
theorem isFree_any (w : World) (x : Nat → Int) : Calls Tryd.prog 37 #[inV x] w fun e w' => e = .returned (.bool (isFr x)) ∧ Below w.heap.size w w' := by
  have E : ∀ w, (binOp .eql 24 (.agg #[.int .i64 (x 0), .int .i64 (x 1), .int .i64 (x 2), .int .i64 (x 3), .int .i64 (x 4), .int .i64 (x 5), .int .i64 (x 6), .int .i64 (x 7), .int .i64 (x 8), .int .i64 (x 9), .int .i64 (x 10), .int .i64 (x 11), .int .i64 (x 12), .int .i64 (x 13), .int .i64 (x 14)]) (.agg #[.int .i64 0, .int .i64 0, .int .i64 0, .int .i64 0, .int .i64 0, .int .i64 0, .int .i64 0, .int .i64 0, .int .i64 0, .int .i64 0, .int .i64 0, .int .i64 0, .int .i64 0, .int .i64 0, .int .i64 0])).run Tryd.prog w = .ok (.bool (isFr x)) w := fun w => by
    rw [← smB_z]; exact eqlI w x z15
  have hA : Hid (∀ o, Below w.heap.size w (w.alloc o)) := fun o => (Below.refl _ _).alloc (Nat.le_refl _) o
  unfold inV
  go_enter Tryd.func37, Tryd.ntmps37
  go_wp2
  go_ret
  exact ⟨rfl, hA.out _⟩
end Go.Proofs.YtdheojhfgeabhaaDoor
