import Derived.Test.YtaaeahpmnfifiaaDoorKFrame
import Derived.Test.YtaaeahpmnfifiaaDoorSnN
import Derived.Test.YtaaeahpmnfifiaaDoorSnM
namespace Go.Proofs.YtaaeahpmnfifiaaDoor
open Go.RowKit Rec
theorem ib_zero (s : ByteArray) (h : ¬ ∃ i, i < s.size ∧ nth (sb s) i = 0) : Lib.indexByte s.data.toList 0 = -1 := by
  rcases ib_cases 0 s.data.toList with ⟨_, e⟩ | ⟨a, b, e, _, _⟩
  · exact e
  · refine absurd ⟨a.length, ?_, ?_⟩ h
    · have : s.size = s.data.toList.length := (Array.length_toList).symm
      rw [this, e]; simp
    · unfold nth sb
      rw [e]; simp [List.getD]
theorem sindex0 (w : World) (s : ByteArray) (h : ¬ ∃ i, i < s.size ∧ nth (sb s) i = 0) : Calls Tryd.prog 41 #[.string s, .int .u8 0] w fun e w' => e = .returned (.int .i64 (-1)) ∧ w = w' := by
  have HZ := ib_zero s h
  clear h
  go_enter Tryd.func41, Tryd.ntmps41
  go_wp2_with (go_at_call 47; refine (ibyte_any _ _ _).mono ?_; rintro e w' ⟨rfl, rfl⟩)
  go_ret
  exact ⟨by rw [← HZ]; rfl, rfl⟩
set_option maxRecDepth 100000 in
set_option maxHeartbeats 1000000 in
theorem put_off (w : World) (g cap o n c A W : Nat) (v : Int) (L : List Int) (hO : OwnB w g cap L) (hn : o + n ≤ L.length) (_hc : n ≤ c) (hT : TabAt w) (hv : 0 ≤ v ∧ v < 18446744073709551616) (hw : isW W = true) (hh : has v W = true) (hA : A + W ≤ n) :
    Calls Tryd.prog 26 #[.slice (some ⟨g, o, none⟩) n c, .int .i64 A, .int .i64 W, .int .u64 v] w fun e w' => e = .returned (.int .i64 0) ∧ OwnB w' g cap (ov L (o + A) W (dig v)) ∧ w.grownBy w' (some g) := by
  have hlen := hO.len
  have hWc := isW_cases hw
  have HW : Hid (isW W = true) := hw
  have HH : Hid (has v W = true) := hh
  have HT : Hid (TabAt w) := hT
  have HO : Hid (OwnB w g cap L) := hO
  have hl : Hid (lies n A W = true) := by unfold lies; exact decide_eq_true (by omega)
  clear hO hT hw hh
  have hW1 : 1 ≤ W ∧ W ≤ 8 := by omega
  clear hWc
  go_enter Tryd.func26, Tryd.ntmps26
  go_wp2_with (go_at_call 38; refine (isWidth_any _ _ HT.out).mono ?_; rintro e w' ⟨rfl, rfl⟩; rw [HW.out])
  go_wp2_with (go_at_call 39; refine (hasWidth_any _ _ _ HW.out hv.1 hv.2).mono ?_; rintro e w' ⟨rfl, rfl⟩; rw [HH.out])
  go_wp2_with (go_at_call 40; refine (lie_any _ _ _ _ _ _ (by omega) (by omega) (by omega)).mono ?_; rintro e w' ⟨rfl, rfl⟩; rw [hl.out])
  rename World => w0
  go_loopw [25] (fun i wr => ∃ k : Nat, k ≤ W ∧ i = .int .i64 k ∧ OwnB wr g cap (ov L (o + A) k (dig v)) ∧ w0.grownBy wr (some g)) (fun i _ => W - (intOf i).toNat)
  case atStart => exact ⟨0, Nat.zero_le _, rfl, by rw [ov_zero]; exact HO.out, grown_refl _ _⟩
  case round =>
    obtain ⟨k, hk, rfl, how, hgr⟩ := hrel
    have HP : Hid (OwnB wr g cap (ov L (o + A) k (dig v))) := how
    have HG : Hid (w0.grownBy wr (some g)) := hgr
    clear how hgr
    by_cases hlt : k < W
    · have d := HP.out.cell (o + A + k) (by rw [ov_length]; omega)
      have f := HP.out.frozen (o + A + k)
      have HQ : Hid (OwnB (wr.setCell ⟨g, o + A + k, none⟩ (.int .u8 (v / 256 ^ k % 256))) g cap (ov L (o + A) (k + 1) (dig v))) := HP.out.ovs (by omega) (dig_bd v k)
      rw [Nat.add_assoc] at d f
      replace HQ : Hid (OwnB (wr.setCell ⟨g, o + (A + k), none⟩ (.int .u8 (v / 256 ^ k % 256))) g cap (ov L (o + A) (k + 1) (dig v))) := by have := HQ.out; rw [Nat.add_assoc] at this; exact this
      clear HP
      have hkk : k = 0 ∨ k = 1 ∨ k = 2 ∨ k = 3 ∨ k = 4 ∨ k = 5 ∨ k = 6 ∨ k = 7 := by omega
      rcases hkk with rfl | rfl | rfl | rfl | rfl | rfl | rfl | rfl
      case' inl => simp only [Nat.add_zero] at d f HQ
      all_goals
        go_wp2
        have e := HQ.out
        simp only [Int.reducePow, Int.pow_zero, Int.ediv_one] at e
        first
          | exact ⟨⟨_, hlt, rfl, e, grown_trans HG.out grown_set⟩, by simp [intOf]; omega⟩
          | (rw [Int.emod_eq_of_lt (by omega) (by omega)] at e
             exact ⟨⟨_, hlt, rfl, e, grown_trans HG.out grown_set⟩, by simp [intOf]; omega⟩)
    · go_wp2
      obtain rfl : k = W := by omega
      go_ret
      exact ⟨rfl, HP.out, HG.out⟩
set_option maxRecDepth 100000 in
set_option maxHeartbeats 1000000 in
theorem ptx_off (w : World) (g cap o : Nat) (s : ByteArray) (L : List Int) (hO : OwnB w g cap L) (hn : o + 32 ≤ L.length) (hs : s.size ≤ 27) (hz : ¬ ∃ i, i < s.size ∧ nth (sb s) i = 0) :
    Calls Tryd.prog 27 #[.slice (some ⟨g, o, none⟩) 32 32, .int .i64 5, .int .i64 27, .string s] w fun e w' => e = .returned (.int .i64 0) ∧ OwnB w' g cap (ov L (o + 5) 27 (nth (sb s))) ∧ w.grownBy w' (some g) := by
  have hlen := hO.len
  have HO : Hid (OwnB w g cap L) := hO
  have HZ : Hid (¬ ∃ i, i < s.size ∧ nth (sb s) i = 0) := hz
  have hl : Hid (lies (32 : Nat) 5 27 = true) := by unfold lies; exact decide_eq_true (by omega)
  have HE : Hid (ov (ov L (o + 5) s.size (nth (sb s))) (o + 5 + s.size) (27 - s.size) (fun _ => 0) = ov L (o + 5) 27 (nth (sb s))) := by
    show _ = _
    rw [ov_ov L (o + 5) s.size (27 - s.size) (nth (sb s)) (fun _ => 0) (nth (sb s)) (fun _ _ => rfl) (fun i _ => (nth_out _ _ (by rw [sb_length]; omega)).symm)]
    congr 1; omega
  obtain ⟨w2, hr2, ho2, hg2⟩ := scopy_run (off := o + 5) (B := o + 5) (k := 27) (c := 27) (t := s) 3 hO (by omega) hs (by omega)
  have HO2 : Hid (OwnB w2 g cap (ov L (o + 5) s.size (nth (sb s)))) := ho2
  have HG2 : Hid (World.grownBy _ w2 (some g)) := hg2
  obtain ⟨w3, hr3, ho3, hg3⟩ := clear_run (off := o + 5 + s.size) (B := o + 5 + s.size) (k := 27 - s.size) (c := 27 - s.size) 0 ho2 (by omega) (by rw [ov_length]; omega)
  rw [HE.out] at ho3
  have HO3 : Hid (OwnB w3 g cap (ov L (o + 5) 27 (nth (sb s)))) := ho3
  have HG3 : Hid (World.grownBy w2 w3 (some g)) := hg3
  have hr4 : (Builtin.clear_ #[25] 0 #[.slice (some ⟨g, o + 5, none⟩) 0 0]).run Tryd.prog w2 = .ok (.tuple #[]) w2 := by simp [Builtin.clear_, run_underlying Tryd.underlying25]
  clear hO hz ho2 hg2 ho3 hg3
  go_enter Tryd.func27, Tryd.ntmps27
  go_wp2_with (go_at_call 41; refine (sindex0 _ _ HZ.out).mono ?_; rintro e w' ⟨rfl, rfl⟩)
  go_wp2_with (go_at_call 40; refine (lie_any _ _ _ _ _ _ (by omega) (by omega) (by omega)).mono ?_; rintro e w' ⟨rfl, rfl⟩; rw [hl.out])
  · go_ret
    refine ⟨rfl, ?_, HG2.out⟩
    have e := HO2.out
    rename 27 = s.size => h
    rw [← h] at e
    exact e
  · go_ret
    exact ⟨rfl, HO3.out, grown_trans HG2.out HG3.out⟩
end Go.Proofs.YtaaeahpmnfifiaaDoor
