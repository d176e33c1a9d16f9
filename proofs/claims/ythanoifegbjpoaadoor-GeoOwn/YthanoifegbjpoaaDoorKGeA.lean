import Derived.Test.YthanoifegbjpoaaDoorKEight
import Derived.Test.YthanoifegbjpoaaDoorGeM
import Derived.Laws.ResultCell
namespace Go.Proofs.YthanoifegbjpoaaDoor
open Go.RowKit Rec

set_option maxRecDepth 100000 in
theorem isLength_any (w : World) (n : Int) : Calls Tryd.prog 20 #[.int .i64 n] w fun e w' => e = .returned (.bool (isLen n)) ∧ w = w' := by
  go_enter Tryd.func20, Tryd.ntmps20
  by_cases h1 : 128 ≤ n
  · by_cases h2 : n ≤ 16384
    · go_wp2
      go_ret
      exact ⟨by rw [isLen_yes ⟨h1, h2⟩]; rfl, rfl⟩
    · go_wp2
      go_ret
      exact ⟨by rw [show isLen n = false from decide_eq_false (by omega)]; rfl, rfl⟩
  · go_wp2
    go_ret
    exact ⟨by rw [show isLen n = false from decide_eq_false (by omega)]; rfl, rfl⟩
set_option maxRecDepth 100000 in
theorem bitmapLen_ok (w : World) (n : Int) (h : 0 ≤ n ∧ n ≤ 16384) : Calls Tryd.prog 22 #[.int .i64 n] w fun e w' => e = .returned (.int .i64 ((n + 4095) / 4096)) ∧ w = w' := by
  go_enter Tryd.func22, Tryd.ntmps22
  go_wp2
  go_ret
  refine ⟨?_, rfl⟩
  show Ending.returned (.int .i64 ((n + 4096 - 1) / 4096)) = _
  rw [show n + 4096 - 1 = n + 4095 by omega]
set_option maxRecDepth 100000 in
theorem tableLen_ok (w : World) (n : Int) (h : 0 ≤ n ∧ n ≤ 16384) : Calls Tryd.prog 23 #[.int .i64 n] w fun e w' => e = .returned (.int .i64 (n / 64)) ∧ w = w' := by
  go_enter Tryd.func23, Tryd.ntmps23
  go_wp2
  go_ret
  exact ⟨rfl, rfl⟩
set_option maxRecDepth 100000 in
theorem lay_ok (w : World) (p : Nat) (x k : Int) (hc : w.cell? ⟨p, 0, none⟩ = some (.int .i64 x)) (hf : w.frozen? ⟨p, 0, none⟩ = false) (hx : 0 ≤ x ∧ x ≤ 1000000) (hk : 0 ≤ k ∧ k ≤ 1000000) :
    Calls Tryd.prog 21 #[.pointer (some ⟨p, 0, none⟩), .int .i64 k] w fun e w' => e = .returned (.int .i64 x) ∧ w' = w.setCell ⟨p, 0, none⟩ (.int .i64 (x + k)) := by
  go_enter Tryd.func21, Tryd.ntmps21
  go_wp2
  go_ret
  exact ⟨rfl, rfl⟩
set_option maxRecDepth 100000 in
theorem lay_at (w1 : World) (p : Nat) (x k : Int) (c1 c2 c3 c4 c5 : Value) (hx : 0 ≤ x ∧ x ≤ 1000000) (hk : 0 ≤ k ∧ k ≤ 1000000) (hp : p = w1.heap.size) :
    Calls Tryd.prog 21 #[.pointer (some ⟨p, 0, none⟩), .int .i64 k] (w1.alloc (.cells #[.int .i64 x, c1, c2, c3, c4, c5] 48)) fun e w' => e = .returned (.int .i64 x) ∧ w' = w1.alloc (.cells #[.int .i64 (x + k), c1, c2, c3, c4, c5] 48) := by
  subst hp
  go_enter Tryd.func21, Tryd.ntmps21
  go_wp2
  go_ret
  exact ⟨rfl, rfl⟩
theorem results_row_tmp7 {fn : Func} {p u : Tmp} {ty : TypeId} (h : fn.results = #[.cell p ty, .tmp u]) (tmps : Array Value) (w : World) (g : Nat) (cs : Array Value)
    (hp : tmps.getD p undef = .pointer (some ⟨g, 0, none⟩)) (hl : (loadVar ty ⟨g, 0, none⟩).run Tryd.prog w = .ok (.agg cs) w) :
    (results fn tmps).run Tryd.prog w = .ok (.tuple #[.agg cs, tmps.getD u undef]) w := by
  rw [results_cell_tmp h, hp]
  simp [asAddr, hl]
/-- a Geo -/
def geoV (n : Int) : Value := .agg #[.int .i64 n, .int .i64 98, .int .i64 (gI n), .int .i64 (gD n), .int .i64 (gC n)]
def geo0 : Value := .agg #[.int .i64 0, .int .i64 0, .int .i64 0, .int .i64 0, .int .i64 0]
set_option maxRecDepth 100000 in
set_option maxHeartbeats 1600000 in
theorem gof_no (w : World) (n : Int) (h : isLen n = false) : Calls Tryd.prog 9 #[.int .i64 n] w fun e w' => e = .returned (.tuple #[geo0, .int .i64 70]) ∧ Below w.heap.size w w' := by
  go_enter Tryd.func9, Tryd.ntmps9
  go_wp2_with (go_at_call 20; refine (isLength_any _ _).mono ?_; rintro e w' ⟨rfl, rfl⟩; rw [h])
  refine bodyPost_ret (results_row_tmp7 rfl _ _ w.heap.size #[.int .i64 0, .int .i64 0, .int .i64 0, .int .i64 0, .int .i64 0] rfl (by simp [go_sem])) rfl ?_
  exact ⟨rfl, (Below.refl _ _).alloc (Nat.le_refl _) _⟩
set_option maxRecDepth 100000 in
set_option maxHeartbeats 1600000 in
theorem gof_ok (w : World) (n : Int) (h : isLen n = true) : Calls Tryd.prog 9 #[.int .i64 n] w fun e w' => e = .returned (.tuple #[geoV n, .int .i64 0]) ∧ Below w.heap.size w w' := by
  have hb := isLen_bd h
  have HL : Hid (isLen n = true) := h
  clear h
  go_enter Tryd.func9, Tryd.ntmps9
  go_upto_region 3 with (go_at_call 20; refine (isLength_any _ _).mono ?_; rintro e w' ⟨rfl, rfl⟩; rw [HL.out])
  go_wp2_with (first
    | (go_at_call 22; refine (bitmapLen_ok _ _ (by omega)).mono ?_; rintro e w' ⟨rfl, rfl⟩)
    | (go_at_call 23; refine (tableLen_ok _ _ (by omega)).mono ?_; rintro e w' ⟨rfl, rfl⟩)
    | (go_at_call 21; refine (lay_at _ _ _ _ _ _ _ _ _ (by omega) (by omega) (by simp)).mono ?_; rintro e w' ⟨rfl, rfl⟩))
  refine bodyPost_ret (results_row_tmp7 rfl _ _ w.heap.size #[.int .i64 n, .int .i64 98, .int .i64 (gI n), .int .i64 (gD n), .int .i64 (gC n)] rfl (by simp [go_sem, gI, gD, gC])) rfl ?_
  exact ⟨rfl, ((Below.refl _ _).alloc (Nat.le_refl _) _).alloc (by simp) _⟩
/-- what Bit answers, and Record -/
def bitA (n i : Int) : Array Value := if 0 ≤ i ∧ i < n then #[.int .i64 (98 + i / 4096), .int .i64 (i % 4096), .int .i64 0] else #[.int .i64 0, .int .i64 0, .int .i64 31]
def recA (n i : Int) : Array Value := if 1 ≤ i ∧ i < gC n then #[.int .i64 (gI n + i / 8), .int .i64 (i % 8 * 64), .int .i64 0] else #[.int .i64 0, .int .i64 0, .int .i64 110]
theorem bitA_in {n i : Int} (h : 0 ≤ i ∧ i < n) : bitA n i = #[.int .i64 (98 + i / 4096), .int .i64 (i % 4096), .int .i64 0] := if_pos h
theorem bitA_out {n i : Int} (h : ¬ (0 ≤ i ∧ i < n)) : bitA n i = #[.int .i64 0, .int .i64 0, .int .i64 31] := if_neg h
theorem recA_in {n i : Int} (h : 1 ≤ i ∧ i < gC n) : recA n i = #[.int .i64 (gI n + i / 8), .int .i64 (i % 8 * 64), .int .i64 0] := if_pos h
theorem recA_out {n i : Int} (h : ¬ (1 ≤ i ∧ i < gC n)) : recA n i = #[.int .i64 0, .int .i64 0, .int .i64 110] := if_neg h
set_option maxRecDepth 100000 in
set_option maxHeartbeats 1600000 in
theorem gbit_any (w : World) (n i : Int) (h : isLen n = true) (hi : -9223372036854775808 ≤ i ∧ i ≤ 9223372036854775807) : Calls Tryd.prog 13 #[geoV n, .int .i64 i] w fun e w' =>
    e = .returned (.tuple (bitA n i)) ∧ Below w.heap.size w w' := by
  have hb := isLen_bd h
  go_enter Tryd.func13, Tryd.ntmps13
  unfold geoV
  have hA : Hid (∀ o, Below w.heap.size w (w.alloc o)) := fun o => (Below.refl _ _).alloc (Nat.le_refl _) o
  by_cases h1 : i < 0
  · go_wp2
    go_ret3
    exact ⟨by rw [bitA_out (by omega)]; rfl, hA.out _⟩
  · by_cases h2 : n ≤ i
    · go_wp2
      go_ret3
      exact ⟨by rw [bitA_out (by omega)]; rfl, hA.out _⟩
    · go_wp2
      go_ret3
      exact ⟨by rw [bitA_in (by omega)]; rfl, hA.out _⟩
set_option maxRecDepth 100000 in
set_option maxHeartbeats 1600000 in
theorem grec_any (w : World) (n i : Int) (h : isLen n = true) (hi : -9223372036854775808 ≤ i ∧ i ≤ 9223372036854775807) : Calls Tryd.prog 14 #[geoV n, .int .i64 i] w fun e w' =>
    e = .returned (.tuple (recA n i)) ∧ Below w.heap.size w w' := by
  have hb := isLen_bd h
  have hc : 16 ≤ gC n ∧ gC n ≤ 2048 := by unfold gC; omega
  have hd : 98 ≤ gI n ∧ gI n ≤ 200 := by unfold gI; omega
  go_enter Tryd.func14, Tryd.ntmps14
  unfold geoV
  have HR : Hid ((1 ≤ i ∧ i < gC n → recA n i = #[.int .i64 (gI n + i / 8), .int .i64 (i % 8 * 64), .int .i64 0]) ∧ (¬ (1 ≤ i ∧ i < gC n) → recA n i = #[.int .i64 0, .int .i64 0, .int .i64 110])) := ⟨recA_in, recA_out⟩
  generalize recA n i = R at *
  generalize gD n = D
  generalize gC n = C at *
  generalize gI n = I at *
  have hA : Hid (∀ o, Below w.heap.size w (w.alloc o)) := fun o => (Below.refl _ _).alloc (Nat.le_refl _) o
  by_cases h1 : i < 1
  · go_wp2
    go_ret3
    exact ⟨by rw [HR.out.2 (by omega)]; rfl, hA.out _⟩
  · by_cases h2 : C ≤ i
    · go_wp2
      go_ret3
      exact ⟨by rw [HR.out.2 (by omega)]; rfl, hA.out _⟩
    · go_wp2
      go_ret3
      exact ⟨by rw [HR.out.1 (by omega)]; rfl, hA.out _⟩
theorem num7_any (w : World) (e : Int) : Calls Tryd.prog 11 #[.int .i64 e] w fun x w' => x = .returned (.int .i64 e) ∧ w = w' := by
  go_enter Tryd.func11, Tryd.ntmps11
  go_wp2
  go_ret
  exact ⟨rfl, rfl⟩
end Go.Proofs.YthanoifegbjpoaaDoor

namespace Go.Proofs.YthanoifegbjpoaaDoor
open Go.RowKit Rec
open Crc (W)

theorem sb_mg : sb { data := #[66, 79, 76, 69, 70, 83, 48, 49] } = mg := by decide +kernel
theorem mg_nz : ¬ ∃ i, i < (⟨#[66, 79, 76, 69, 70, 83, 48, 49]⟩ : ByteArray).size ∧ nth (sb ⟨#[66, 79, 76, 69, 70, 83, 48, 49]⟩) i = 0 := by
  rw [sb_mg]
  have : ∀ i, i < 8 → ¬ nth mg i = 0 := by decide
  rintro ⟨i, h1, h2⟩
  exact this i h1 h2
theorem zn_zs : zn 512 = zs := rfl
theorem hasn (n : Int) (h : isLen n = true) : has n (4 : Nat) = true := by
  have := isLen_bd h
  exact decide_eq_true (by show n < 256 ^ 4; simp only [Int.reducePow]; omega)
theorem hass (n : Int) (h : n < 4294967296) : has n (4 : Nat) = true := decide_eq_true (by show n < 256 ^ 4; simp only [Int.reducePow]; omega)
theorem gsuper_no (w : World) (n : Int) (h : isLen n = false) : Calls Tryd.prog 10 #[.int .i64 n] w fun e w' => e = .returned (.tuple #[.slice none 0 0, .int .i64 70]) ∧ w = w' := by
  go_enter Tryd.func10, Tryd.ntmps10
  go_wp2_with (go_at_call 20; refine (isLength_any _ _).mono ?_; rintro e w' ⟨rfl, rfl⟩; rw [h])
  go_ret2
  exact ⟨rfl, rfl⟩
set_option maxRecDepth 100000 in
set_option maxHeartbeats 1600000 in
theorem gsuper_ok (w : World) (n : Int) (h : isLen n = true) (hT : TabAt w) : Calls Tryd.prog 10 #[.int .i64 n] w fun e w' => ∃ g, e = .returned (.tuple #[.slice (some ⟨g, 0, none⟩) 512 512, .int .i64 0]) ∧ w.heap.size ≤ g ∧ OwnB w' g 512 (sup n) ∧ Below w.heap.size w w' := by
  have hb := isLen_bd h
  have HL : Hid (isLen n = true) := h
  have HT : Hid (TabAt w) := hT
  have H1 : Hid (1 < w.heap.size) := hT.size
  clear h hT
  obtain ⟨o, E2, ho⟩ := make512
  have HO : Hid (OwnB (w.alloc o) w.heap.size 512 zs) := ho w
  have HA : Hid (Below w.heap.size w (w.alloc o)) := (Below.refl _ _).alloc (Nat.le_refl _) o
  clear ho
  go_enter Tryd.func10, Tryd.ntmps10
  go_wp2_with (first
    | (go_at_call 20; refine (isLength_any _ _).mono ?_; rintro e w' ⟨rfl, rfl⟩; rw [HL.out])
    | (go_at_call 24; refine (ptx_in _ w.heap.size 512 512 512 0 8 _ zs HO.out (by rw [zs_length]; omega) (by omega) (by omega) (by decide) mg_nz).mono ?_; rintro e w1 ⟨rfl, h1, h2⟩; rw [sb_mg] at h1; have HP1 : Hid (OwnB w1 w.heap.size 512 (ov zs 0 8 (nth mg))) := h1; have HB1 : Hid (Below w.heap.size w w1) := HA.out.trans (below_of h2 (Nat.le_refl _) HA.out.size); clear h1 h2)
    | (go_at_call 25; have hh := HP1.out; clear hh; refine (put_in _ w.heap.size 512 512 512 8 4 n (ov zs 0 8 (nth mg)) HP1.out (by rw [ov_length, zs_length]; omega) (by omega) (HT.out.on HB1.out) (by omega) rfl (hasn n HL.out) (by omega)).mono ?_; rintro e w2 ⟨rfl, h1, h2⟩; have HP2 : Hid (OwnB w2 w.heap.size 512 (supA n)) := h1; have HB2 : Hid (Below w.heap.size w w2) := HB1.out.trans (below_of h2 (Nat.le_refl _) HB1.out.size); clear h1 h2 HP1)
    | (go_at_call 26; refine (of_any _ _ 12 _ ((supA n).take 12) (by rw [List.length_take, supA_len]; rfl) (HT.out.on HB2.out) (HP2.out.bytes.take 12)).mono ?_; rintro e w' ⟨rfl, rfl⟩; have hs0 := U_lo (Crc.crc ((supA n).take 12)); have hs1 := U_hi (Crc.crc ((supA n).take 12)); have HS : Hid (U (Crc.crc ((supA n).take 12)) = supS n) := rfl; generalize U (Crc.crc ((supA n).take 12)) = s at *)
    | (go_at_call 25; have hh := HS.out; clear hh; refine (put_in _ w.heap.size 512 512 512 12 4 s (supA n) HP2.out (by rw [supA_len]; omega) (by omega) (HT.out.on HB2.out) (by omega) rfl (hass s hs1) (by omega)).mono ?_; rintro e w3 ⟨rfl, h1, h2⟩; have HP3 : Hid (OwnB w3 w.heap.size 512 (sup n)) := (by rw [HS.out] at h1; exact h1); have HB3 : Hid (Below w.heap.size w w3) := HB2.out.trans (below_of h2 (Nat.le_refl _) HB2.out.size); clear h1 h2))
  go_ret2
  exact ⟨_, rfl, Nat.le_refl _, HP3.out, HB3.out⟩
end Go.Proofs.YthanoifegbjpoaaDoor

namespace Go.Proofs.YthanoifegbjpoaaDoor
open Go.RowKit Rec

theorem str_inj {l m : List Int} (h1 : ∀ i, 0 ≤ nth l i ∧ nth l i < 256) (h2 : ∀ i, 0 ≤ nth m i ∧ nth m i < 256) : (strOfNums l = strOfNums m) ↔ l = m :=
  ⟨fun h => by rw [← sb_str h1, h, sb_str h2], fun h => by rw [h]⟩
theorem str_same {l m : List Int} (h1 : ∀ i, 0 ≤ nth l i ∧ nth l i < 256) (h2 : ∀ i, 0 ≤ nth m i ∧ nth m i < 256) : ((strOfNums l).toList == (strOfNums m).toList) = decide (l = m) := by
  by_cases h : l = m
  · subst h; simp
  · rw [decide_eq_false h]
    rw [beq_eq_false_iff_ne]
    intro e
    apply h
    apply (str_inj h1 h2).1
    rw [ByteArray.ext_iff]
    have e2 : (strOfNums l).data.toList = (strOfNums m).data.toList := by
      rw [← ByteArray.toList_eq, ← ByteArray.toList_eq, e]
    exact Array.ext' e2
theorem str_beq {l m : List Int} (h1 : ∀ i, 0 ≤ nth l i ∧ nth l i < 256) (h2 : ∀ i, 0 ≤ nth m i ∧ nth m i < 256) : decide (strOfNums l = strOfNums m) = decide (l = m) := by
  by_cases h : l = m
  · rw [decide_eq_true h, decide_eq_true ((str_inj h1 h2).2 h)]
  · rw [decide_eq_false h, decide_eq_false (fun e => h ((str_inj h1 h2).1 e))]
set_option maxRecDepth 100000 in
theorem equal_any (w : World) (a1 a2 : Option Addr) (n1 c1 n2 c2 : Nat) (l m : List Int) (h1 : Bytes w a1 l) (h2 : Bytes w a2 m) (hn1 : l.length = n1) (hn2 : m.length = n2) :
    Calls Tryd.prog 28 #[.slice a1 n1 c1, .slice a2 n2 c2] w fun e w' => e = .returned (.bool (decide (l = m))) ∧ w = w' := by
  have e1 := str_opt (c := c1) h1 hn1
  have e2 := str_opt (c := c2) h2 hn2
  have HD : Hid (((strOfNums l).toList == (strOfNums m).toList) = decide (l = m)) := str_same h1.wf h2.wf
  clear h1 h2
  go_enter Tryd.func28, Tryd.ntmps28
  go_wp2
  go_ret
  refine ⟨?_, rfl⟩
  rw [← HD.out]
  rfl
set_option maxRecDepth 100000 in
theorem gread_size (w : World) (a : Option Addr) (n c : Nat) (l : List Int) (hn : l.length = n) (h5 : n ≠ 512) (_hl : n ≤ 1000000000000000) :
    Calls Tryd.prog 12 #[.slice a n c] w fun e w' => e = .returned (.tuple #[.int .i64 (rdV l), .int .i64 (rdE l)]) ∧ Below w.heap.size w w' := by
  have HV : Hid (rdV l = 0 ∧ rdE l = 32) := by unfold rdV rdE; rw [hn, if_neg h5, if_neg h5]; exact ⟨rfl, rfl⟩
  go_enter Tryd.func12, Tryd.ntmps12
  go_wp2
  go_ret2
  exact ⟨by rw [HV.out.1, HV.out.2]; rfl, Below.refl _ _⟩
set_option maxRecDepth 100000 in
set_option maxHeartbeats 1600000 in
theorem gread_is (w : World) (b off c : Nat) (l : List Int) (hn : l.length = 512) (hB : Bytes w (some ⟨b, off, none⟩) l) (hc : 512 ≤ c) (hT : TabAt w) :
    Calls Tryd.prog 12 #[.slice (some ⟨b, off, none⟩) 512 c] w fun e w' => e = .returned (.tuple #[.int .i64 (rdV l), .int .i64 (rdE l)]) ∧ Below w.heap.size w w' := by
  have hm := num_bd l 8 4 hB.wf
  have hm2 : num l 8 4 < 4294967296 := by have := hm.2; simp only [Int.reducePow] at this; exact this
  have hm1 := hm.1
  clear hm
  have HB : Hid (Bytes w (some ⟨b, off, none⟩) l) := hB
  have HT : Hid (TabAt w) := hT
  have HN : Hid (l.length = 512) := hn
  clear hB hT hn
  cases hL : isLen (num l 8 4) with
  | false =>
    have HV : Hid (rdV l = 0 ∧ rdE l = 71) := by
      have := rdOk_no rfl hL
      unfold rdV rdE; rw [if_pos HN.out, if_pos HN.out, this]; exact ⟨rfl, rfl⟩
    have HL : Hid (isLen (num l 8 4) = false) := hL
    clear hL
    go_enter Tryd.func12, Tryd.ntmps12
    go_wp2_with (first
      | (go_at_call 27; refine (get_in _ b off 512 c 8 4 l HN.out HB.out hc HT.out rfl (by omega)).mono ?_; rintro e w' ⟨rfl, rfl⟩; generalize num l 8 4 = m at *)
      | (go_at_call 10; refine (gsuper_no _ _ HL.out).mono ?_; rintro e w' ⟨rfl, rfl⟩))
    go_ret2
    exact ⟨by rw [HV.out.1, HV.out.2]; rfl, Below.refl _ _⟩
  | true =>
    have HV : Hid (rdV l = (if l = sup (num l 8 4) then num l 8 4 else 0) ∧ rdE l = (if l = sup (num l 8 4) then 0 else 71)) := by
      have : rdOk l = decide (l = sup (num l 8 4)) := by unfold rdOk; rw [hL, Bool.true_and]
      unfold rdV rdE; rw [if_pos HN.out, if_pos HN.out, this]; exact ⟨by simp, by simp⟩
    have HL : Hid (isLen (num l 8 4) = true) := hL
    clear hL
    go_enter Tryd.func12, Tryd.ntmps12
    go_upto_region 6 with (first
      | (go_at_call 27; refine (get_in _ b off 512 c 8 4 l HN.out HB.out hc HT.out rfl (by omega)).mono ?_; rintro e w' ⟨rfl, rfl⟩; generalize num l 8 4 = m at *)
      | (go_at_call 10; refine (gsuper_ok _ _ HL.out HT.out).mono ?_; rintro e w1 ⟨g, rfl, hg, ho, hb⟩; have HO : Hid (OwnB w1 g 512 (sup m)) := ho; have HW : Hid (Below w.heap.size w w1) := hb; clear ho hb))
    by_cases hq : l = sup m
    · have HQ : Hid (decide (l = sup m) = true) := decide_eq_true hq
      go_wp2_with (go_at_call 28; refine (equal_any _ _ _ _ _ _ _ l (sup m) (HB.out.on HW.out) HO.out.bytes HN.out (sup_len m)).mono ?_; rintro e w' ⟨rfl, rfl⟩; rw [HQ.out])
      go_ret2
      exact ⟨by rw [HV.out.1, HV.out.2, if_pos (of_decide_eq_true HQ.out), if_pos (of_decide_eq_true HQ.out)]; rfl, HW.out⟩
    · have HQ : Hid (decide (l = sup m) = false) := decide_eq_false hq
      clear hq
      go_wp2_with (go_at_call 28; refine (equal_any _ _ _ _ _ _ _ l (sup m) (HB.out.on HW.out) HO.out.bytes HN.out (sup_len m)).mono ?_; rintro e w' ⟨rfl, rfl⟩; rw [HQ.out])
      go_ret2
      exact ⟨by rw [HV.out.1, HV.out.2, if_neg (of_decide_eq_false HQ.out), if_neg (of_decide_eq_false HQ.out)]; rfl, HW.out⟩
theorem gread_any (w : World) (a : Option Addr) (n c : Nat) (l : List Int) (hn : l.length = n) (hB : Bytes w a l) (hc : n ≤ c) (hT : TabAt w) :
    Calls Tryd.prog 12 #[.slice a n c] w fun e w' => e = .returned (.tuple #[.int .i64 (rdV l), .int .i64 (rdE l)]) ∧ Below w.heap.size w w' := by
  by_cases h5 : n = 512
  · subst h5
    rcases hB.at_ with h | ⟨b, off, rfl, _⟩
    · subst h; cases hn
    · exact gread_is w b off c l hn hB hc hT
  · exact gread_size w a n c l hn h5 (by have := hB.len; omega)
end Go.Proofs.YthanoifegbjpoaaDoor
