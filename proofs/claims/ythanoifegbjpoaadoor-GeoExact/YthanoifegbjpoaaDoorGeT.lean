import Derived.Test.YthanoifegbjpoaaDoorGeS
namespace Go.Proofs.YthanoifegbjpoaaDoor
open Go.RowKit Rec

set_option maxRecDepth 100000 in
set_option maxHeartbeats 1600000 in
theorem rbit_any (w : World) (n i : Int) (h : isLen n = true) (hi : -9223372036854775808 ≤ i ∧ i ≤ 9223372036854775807) : Calls Tryd.prog 18 #[geoV n, .int .i64 i] w fun e w' =>
    e = .returned (.tuple (bitA n i)) ∧ Below w.heap.size w w' := by
  have hb := isLen_bd h
  go_enter Tryd.func18, Tryd.ntmps18
  unfold geoV
  have hA : Hid (∀ o, Below w.heap.size w (w.alloc o)) := fun o => (Below.refl _ _).alloc (Nat.le_refl _) o
  by_cases h1 : i < 0
  · go_wp2
    go_ret3
    exact ⟨by rw [bitA_out (by omega)]; rfl, hA.out _⟩
  · by_cases h2 : n ≤ i
    · go_wp2
      go_ret3
      exact ⟨by rw [bitA_out (by omega)]; rfl, hA.out _⟩
    · go_wp2
      go_ret3
      exact ⟨by rw [bitA_in (by omega)]; rfl, hA.out _⟩
set_option maxRecDepth 100000 in
set_option maxHeartbeats 1600000 in
theorem rrec_any (w : World) (n i : Int) (h : isLen n = true) (hi : -9223372036854775808 ≤ i ∧ i ≤ 9223372036854775807) : Calls Tryd.prog 19 #[geoV n, .int .i64 i] w fun e w' =>
    e = .returned (.tuple (recA n i)) ∧ Below w.heap.size w w' := by
  have hb := isLen_bd h
  have hc : 16 ≤ gC n ∧ gC n ≤ 2048 := by unfold gC; omega
  have hd : 98 ≤ gI n ∧ gI n ≤ 200 := by unfold gI; omega
  go_enter Tryd.func19, Tryd.ntmps19
  unfold geoV
  have HR : Hid ((1 ≤ i ∧ i < gC n → recA n i = #[.int .i64 (gI n + i / 8), .int .i64 (i % 8 * 64), .int .i64 0]) ∧ (¬ (1 ≤ i ∧ i < gC n) → recA n i = #[.int .i64 0, .int .i64 0, .int .i64 110])) := ⟨recA_in, recA_out⟩
  generalize recA n i = R at *
  generalize gD n = D
  generalize gC n = C at *
  generalize gI n = I at *
  have hA : Hid (∀ o, Below w.heap.size w (w.alloc o)) := fun o => (Below.refl _ _).alloc (Nat.le_refl _) o
  by_cases h1 : i < 1
  · go_wp2
    go_ret3
    exact ⟨by rw [HR.out.2 (by omega)]; rfl, hA.out _⟩
  · by_cases h2 : C ≤ i
    · go_wp2
      go_ret3
      exact ⟨by rw [HR.out.2 (by omega)]; rfl, hA.out _⟩
    · go_wp2
      go_ret3
      exact ⟨by rw [HR.out.1 (by omega)]; rfl, hA.out _⟩
theorem rd_rf (l : List Int) (h5 : l.length = 512) : rdV l = (if (isLen (rf l) && decide (l = sup (rf l))) = true then rf l else 0) ∧ rdE l = (if (isLen (rf l) && decide (l = sup (rf l))) = true then 0 else 71) := by
  rw [rf_ok]
  unfold rdV rdE
  rw [if_pos h5, if_pos h5]
  cases h : rdOk l with
  | true => rw [rf_val h]; exact ⟨rfl, rfl⟩
  | false => exact ⟨rfl, rfl⟩
set_option maxRecDepth 100000 in
theorem rread_size (w : World) (a : Option Addr) (n c : Nat) (l : List Int) (hn : l.length = n) (h5 : n ≠ 512) (_hl : n ≤ 1000000000000000) :
    Calls Tryd.prog 17 #[.slice a n c] w fun e w' => e = .returned (.tuple #[.int .i64 (rdV l), .int .i64 (rdE l)]) ∧ Below w.heap.size w w' := by
  have HV : Hid (rdV l = 0 ∧ rdE l = 32) := by unfold rdV rdE; rw [hn, if_neg h5, if_neg h5]; exact ⟨rfl, rfl⟩
  go_enter Tryd.func17, Tryd.ntmps17
  go_wp2
  go_ret2
  exact ⟨by rw [HV.out.1, HV.out.2]; rfl, Below.refl _ _⟩
set_option maxRecDepth 100000 in
set_option maxHeartbeats 1600000 in
theorem rread_is (w : World) (b off c : Nat) (l : List Int) (hn : l.length = 512) (hB : Bytes w (some ⟨b, off, none⟩) l) (hc : 512 ≤ c) :
    Calls Tryd.prog 17 #[.slice (some ⟨b, off, none⟩) 512 c] w fun e w' => e = .returned (.tuple #[.int .i64 (rdV l), .int .i64 (rdE l)]) ∧ Below w.heap.size w w' := by
  have HV := rd_rf l hn
  have c8 := hB.cell (i := 8) (by omega)
  have c9 := hB.cell (i := 9) (by omega)
  have b8 := hB.wf 8
  have b9 := hB.wf 9
  have HM : Hid (nth l 8 + nth l 9 * 256 = rf l) := rfl
  have hcc : (512 : Int) ≤ (c : Int) := by omega
  have HB : Hid (Bytes w (some ⟨b, off, none⟩) l) := hB
  have HN : Hid (l.length = 512) := hn
  clear hB hn
  generalize nth l 8 = x8 at c8 b8 HM
  generalize nth l 9 = x9 at c9 b9 HM
  generalize rf l = m at HV HM
  go_enter Tryd.func17, Tryd.ntmps17
  go_upto_region 3 with fail
  go_quiet (fail)
  go_upto_region 4 with fail
  rw [HM.out]
  have hd := drew7 w nq
  have HB1 : Hid (Bytes (w.drewN nq) (some ⟨b, off, none⟩) l) := HB.out.on hd
  have HD : Hid (Below w.heap.size w (w.drewN nq)) := hd
  clear hd c8 c9 HB
  generalize w.drewN nq = w1 at *
  cases hL : isLen m with
  | false =>
    rw [hL] at HV
    have HV0 : Hid (rdV l = 0 ∧ rdE l = 71) := HV
    have HL : Hid (isLen m = false) := hL
    clear hL HV
    go_wp2_with (go_at_call 16; refine (rof_no' _ _ HL.out).mono ?_; rintro e w2 ⟨rfl, hb⟩; have HB2 : Hid (Below w.heap.size w w2) := HD.out.trans (hb.mono HD.out.size); clear hb)
    go_ret2
    exact ⟨by rw [HV0.out.1, HV0.out.2]; rfl, HB2.out⟩
  | true =>
    rw [hL, Bool.true_and] at HV
    have HL : Hid (isLen m = true) := hL
    clear hL
    by_cases hq : l = sup m
    · rw [decide_eq_true hq] at HV
      have HV0 : Hid (rdV l = m ∧ rdE l = 0) := HV
      have HQ : Hid (l = sup m) := hq
      clear HV hq
      go_wp2_with (go_at_call 16; refine (rsuper_ok _ _ HL.out).mono ?_; rintro e w2 ⟨g, cap, rfl, hg, ho, hb⟩; have HB2 : Hid (Below w.heap.size w w2) := HD.out.trans (hb.mono HD.out.size); have S1 := str_opt (c := cap) ho.bytes (sup_len m); have S2 := str_opt (c := c) (HB1.out.on hb) HN.out; rw [← HQ.out] at S1; generalize strOfNums l = s at *; clear hb ho hg)
      go_ret2
      exact ⟨by rw [HV0.out.1, HV0.out.2]; rfl, HB2.out⟩
    · rw [decide_eq_false hq] at HV
      have HV0 : Hid (rdV l = 0 ∧ rdE l = 71) := HV
      have HQ : Hid (((strOfNums (sup m)).toList == (strOfNums l).toList) = false) := by
        have h := str_same (sup_bd m) HB1.out.wf
        rw [h]; exact decide_eq_false (fun e => hq e.symm)
      clear HV hq
      go_wp2_with (go_at_call 16; refine (rsuper_ok _ _ HL.out).mono ?_; rintro e w2 ⟨g, cap, rfl, hg, ho, hb⟩; have HB2 : Hid (Below w.heap.size w w2) := HD.out.trans (hb.mono HD.out.size); have S1 := str_opt (c := cap) ho.bytes (sup_len m); have S2 := str_opt (c := c) (HB1.out.on hb) HN.out; have SQ := HQ.out; generalize strOfNums l = s at *; generalize strOfNums (sup m) = s2 at *; clear hb ho hg)
      go_ret2
      exact ⟨by rw [HV0.out.1, HV0.out.2]; rfl, HB2.out⟩
theorem rread_any (w : World) (a : Option Addr) (n c : Nat) (l : List Int) (hn : l.length = n) (hB : Bytes w a l) (hc : n ≤ c) :
    Calls Tryd.prog 17 #[.slice a n c] w fun e w' => e = .returned (.tuple #[.int .i64 (rdV l), .int .i64 (rdE l)]) ∧ Below w.heap.size w w' := by
  by_cases h5 : n = 512
  · subst h5
    rcases hB.at_ with h | ⟨b, off, rfl, _⟩
    · subst h; cases hn
    · exact rread_is w b off c l hn hB hc
  · exact rread_size w a n c l hn h5 (by have := hB.len; omega)
end Go.Proofs.YthanoifegbjpoaaDoor
