import Derived.Test.YtdkolofmnbbocaaDoorKMade
namespace Go.Proofs.YtdkolofmnbbocaaDoor
open Go.RowKit Rec

set_option maxRecDepth 100000 in
set_option maxHeartbeats 1600000 in
theorem numsOf_K (w : World) (b off c K : Nat) (h : List Int) (hn : h.length = 512) (hO : Bytes w (some ⟨b, off, none⟩) h) (hc : 512 ≤ c) (hT : TabAt w) (hK : K ≤ 96) :
    Calls Tryd.prog 23 #[.slice (some ⟨b, off, none⟩) 512 c, .int .i64 K] w fun e w' => ∃ g, e = .returned (.slice (some ⟨g, 0, none⟩) K K) ∧ OwnI w' g K (upd h K K) ∧ w.heap.size ≤ g ∧ Below w.heap.size w w' := by
  have HG : Hid (∀ wx, Below w.heap.size w wx → ∀ j : Nat, j < K → Calls Tryd.prog 24 #[.slice (some ⟨b, off, none⟩) 512 c, .int .i64 ((16 + 4 * j : Nat) : Int), .int .i64 (4 : Nat)] wx fun e w' => e = .returned (.tuple #[.int .u64 (num h (16 + 4 * j) 4), .int .i64 0]) ∧ wx = w') := fun wx hx j hj => get_in wx b off 512 c (16 + 4 * j) 4 h hn (hO.on hx) hc (hT.on hx) rfl (by omega)
  have HW : Hid (∀ j : Nat, 0 ≤ num h (16 + 4 * j) 4 ∧ num h (16 + 4 * j) 4 < 4294967296) := fun j => num_bd h _ 4 hO.wf
  clear hn hO hT
  go_enter Tryd.func23, Tryd.ntmps23
  go_wp2_with (at_make; refine wp_makeI rfl _ _ rfl _ _ _ _ K rfl rfl (by omega) (by omega) (by omega) ?_; intro w1 ho hb; have HO : Hid (OwnI w1 w.heap.size K (zn K)) := OwnI.of ho (zn_length K) (by omega); have HB : Hid (Below w.heap.size w w1) := hb; clear ho hb)
  go_loopw [13] (fun i wr => ∃ j : Nat, j ≤ K ∧ i = .int .i64 j ∧ OwnI wr w.heap.size K (upd h K j) ∧ Below w.heap.size w wr) (fun i _ => K - (intOf i).toNat)
  case atStart => exact ⟨0, Nat.zero_le _, rfl, by rw [upd_zero]; exact HO.out, HB.out⟩
  case round =>
    obtain ⟨j, hj, rfl, ho, hb⟩ := hrel
    have HO2 : Hid (OwnI wr w.heap.size K (upd h K j)) := ho
    have HB2 : Hid (Below w.heap.size w wr) := hb
    clear ho hb
    by_cases hlt : j < K
    · have c1 := HO2.out.cell j (by rw [upd_length]; exact hlt)
      have f1 := HO2.out.frozen j
      have b1 := HW.out j
      obtain ⟨v, hv⟩ : ∃ v, num h (16 + 4 * j) 4 = v := ⟨_, rfl⟩
      have HV : Hid (num h (16 + 4 * j) 4 = v) := hv
      rw [hv] at b1
      clear hv
      go_wp2_with (first
        | (go_at_call 18; refine (numAt_any _ j (by omega)).mono ?_; rintro e w' ⟨rfl, rfl⟩)
        | (go_at_call 24; refine (HG.out _ HB2.out j hlt).mono ?_; rintro e w' ⟨rfl, rfl⟩; rw [HV.out]))
      go_round
      case rel =>
        refine ⟨j + 1, by omega, by go_num, ?_, HB2.out.trans (Fr.below Fr.set _ (fun k hk => by rw [hk]; exact Nat.le_refl _) HB2.out.size)⟩
        have := HO2.out.set j v
        rw [← HV.out, upd_succ h K j hlt, HV.out] at this
        exact this
      case measure => simp [intOf]; omega
    · obtain rfl : j = K := by omega
      go_wp2
      go_ret
      exact ⟨_, rfl, HO2.out, Nat.le_refl _, HB2.out⟩
set_option maxRecDepth 100000 in
set_option maxHeartbeats 1600000 in
theorem nums_K (w : World) (b off c K : Nat) (h : List Int) (n : Int) (hn : h.length = 512) (hO : Bytes w (some ⟨b, off, none⟩) h) (hc : 512 ≤ c) (hT : TabAt w) (hz : zr h 0 512 = false) (hf : form h = true) (hK : cnt h = K) (hK96 : K ≤ 96) (hy : may (nsOf h) n = true) (hz2 : zr h (16 + 4 * K) (512 - (16 + 4 * K)) = true) :
    Calls Tryd.prog 7 #[.slice (some ⟨b, off, none⟩) 512 c, .int .i64 n] w fun e w' => ∃ g, e = .returned (.tuple #[.slice (some ⟨g, 0, none⟩) K K, .int .i64 0]) ∧ OwnI w' g K (nsOf h) ∧ w.heap.size ≤ g ∧ Below w.heap.size w w' := by
  have H1 : Hid (Calls Tryd.prog 21 #[.slice (some ⟨b, off, none⟩) 512 c, .int .i64 (0 : Nat)] w fun e w' => e = .returned (.bool false) ∧ w = w') := by
    have := zeroFrom_any w b off c 0 h hn hO hc (by omega)
    rw [Nat.sub_zero, hz] at this
    exact this
  have H2 : Hid (Calls Tryd.prog 22 #[.slice (some ⟨b, off, none⟩) 512 c] w fun e w' => e = .returned (.tuple #[.int .i64 K, .bool true]) ∧ w = w') := by
    have := countOf_any w b off c h hn hO hc hT
    rw [hf, hK] at this
    exact this
  have H3 : Hid (Calls Tryd.prog 23 #[.slice (some ⟨b, off, none⟩) 512 c, .int .i64 K] w fun e w' => ∃ g, e = .returned (.slice (some ⟨g, 0, none⟩) K K) ∧ OwnI w' g K (nsOf h) ∧ w.heap.size ≤ g ∧ Below w.heap.size w w') := by
    have := numsOf_K w b off c K h hn hO hc hT hK96
    subst hK
    rw [upd_all] at this
    exact this
  have HKl : Hid ((nsOf h).length = K) := by show _ = _; rw [← hK]; simp [nsOf]
  have H4 : Hid (∀ wx g cap, OwnI wx g cap (nsOf h) → Calls Tryd.prog 14 #[.slice (some ⟨g, 0, none⟩) K cap, .int .i64 n] wx fun e w' => e = .returned (.bool true) ∧ Below wx.heap.size wx w') := fun wx g cap ho => by
    have := mayBe_any wx _ K cap (nsOf h) n HKl.out ho.ints
    rw [hy] at this
    exact this
  have H5 : Hid (∀ wx, Below w.heap.size w wx → Calls Tryd.prog 21 #[.slice (some ⟨b, off, none⟩) 512 c, .int .i64 ((16 + 4 * K : Nat) : Int)] wx fun e w' => e = .returned (.bool true) ∧ wx = w') := fun wx hx => by
    have := zeroFrom_any wx b off c (16 + 4 * K) h hn (hO.on hx) hc (by omega)
    rw [hz2] at this
    exact this
  clear hn hO hz hf hT hy hz2 hK
  go_enter Tryd.func7, Tryd.ntmps7
  go_wp2_with (first
    | (go_at_call 20; refine (notBlock_any _ _ _ _).mono ?_; rintro e w' ⟨rfl, rfl⟩)
    | (go_at_call 21; refine (H5.out _ H7.out.2).mono ?_; rintro e w' ⟨rfl, rfl⟩)
    | (go_at_call 21; refine H1.out.mono ?_; rintro e w' ⟨rfl, rfl⟩)
    | (go_at_call 22; refine H2.out.mono ?_; rintro e w' ⟨rfl, rfl⟩)
    | (go_at_call 23; refine H3.out.mono ?_; rintro e w1 ⟨g, rfl, ho, hg, hb⟩; have H6 : Hid (OwnI w1 g K (nsOf h) ∧ w.heap.size ≤ g ∧ Below w.heap.size w w1) := ⟨ho, hg, hb⟩; clear ho hg hb)
    | (go_at_call 14; refine (H4.out _ g K H6.out.1).mono ?_; rintro e w2 ⟨rfl, hb⟩; have H7 : Hid (OwnI w2 g K (nsOf h) ∧ Below w.heap.size w w2) := ⟨H6.out.1.on hb, H6.out.2.2.trans (hb.mono H6.out.2.2.size)⟩; clear hb)
    | (go_at_call 18; refine (numAt_any _ K (by omega)).mono ?_; rintro e w' ⟨rfl, rfl⟩)
    | fail)
  go_ret2
  exact ⟨g, rfl, H7.out.1, H6.out.2.1, H7.out.2⟩
theorem fit_nums {ns : List Int} {ds : List (List Int)} {K : Nat} (hF : Fit ns ds K) (w : World) (b c : Nat) (hO : Bytes w (some ⟨b, 0, none⟩) (made ns ds)) (hc : 512 ≤ c) (hT : TabAt w) :
    Calls Tryd.prog 7 #[.slice (some ⟨b, 0, none⟩) 512 c, .int .i64 16384] w fun e w' => ∃ g, e = .returned (.tuple #[.slice (some ⟨g, 0, none⟩) K K, .int .i64 0]) ∧ OwnI w' g K ns ∧ w.heap.size ≤ g ∧ Below w.heap.size w w' := by
  have h1 : 1 ≤ ns.length := by rw [hF.nl]; exact hF.k1
  have h96 : ns.length ≤ 96 := by rw [hF.nl]; exact hF.k96
  have hb0 : ∀ i, i < ns.length → 0 ≤ nth ns i ∧ nth ns i < 4294967296 := fun i hi => by have := pre_bd ns _ hF.may i hi; omega
  have hcn : cnt (made ns ds) = K := by unfold made; rw [cnt_hd ns _ h96, hF.nl]
  have hns : nsOf (made ns ds) = ns := nsOf_hd ns _ h96 hb0
  have := nums_K w b 0 c K (made ns ds) 16384 (hd_length _ _) hO hc hT (zr_hd_no ns _) (form_hd ns _ h1 h96) hcn hF.k96 (by rw [hns]; exact hF.may) (by have z := zr_hd ns (sumV (hd ns 0) ds) h96; rw [hF.nl] at z; exact z)
  rw [hns] at this
  exact this
end Go.Proofs.YtdkolofmnbbocaaDoor
