import Derived.Test.YtpheajiepnjhdaaDoorGet
namespace Go.Proofs.YtpheajiepnjhdaaDoor
open Go.RowKit Rec

theorem OwnB.ovs {w : World} {g cap : Nat} {L : List Int} {A k : Nat} {f : Nat → Int} (h : OwnB w g cap (ov L A k f)) (hk : A + k < L.length) (hf : 0 ≤ f k ∧ f k < 256) :
    OwnB (w.setCell ⟨g, A + k, none⟩ (.int .u8 (f k))) g cap (ov L A (k + 1) f) := by
  have := h.set (A + k) (f k) (by rw [ov_length]; exact hk) hf
  rwa [ov_set _ _ _ _ hk] at this

set_option maxRecDepth 100000 in
set_option maxHeartbeats 1000000 in
theorem put_in (w : World) (g cap n c A W : Nat) (v : Int) (L : List Int) (hO : OwnB w g cap L) (hn : n ≤ L.length) (_hc : n ≤ c) (hT : TabAt w) (hv : 0 ≤ v ∧ v < 18446744073709551616) (hw : isW W = true) (hh : has v W = true) (hA : A + W ≤ n) :
    Calls Tryd.prog 42 #[.slice (some ⟨g, 0, none⟩) n c, .int .i64 A, .int .i64 W, .int .u64 v] w fun e w' => e = .returned (.int .i64 0) ∧ OwnB w' g cap (ov L A W (dig v)) ∧ w.grownBy w' (some g) := by
  have hlen := hO.len
  have hWc := isW_cases hw
  have HW : Hid (isW W = true) := hw
  have HH : Hid (has v W = true) := hh
  have HT : Hid (TabAt w) := hT
  have HO : Hid (OwnB w g cap L) := hO
  have hl : Hid (lies n A W = true) := by unfold lies; exact decide_eq_true (by omega)
  clear hO hT hw hh
  have hW1 : 1 ≤ W ∧ W ≤ 8 := by omega
  clear hWc
  go_enter Tryd.func42, Tryd.ntmps42
  go_wp2_with (go_at_call 81; refine (isWidth_any _ _ HT.out).mono ?_; rintro e w' ⟨rfl, rfl⟩; rw [HW.out])
  go_wp2_with (go_at_call 82; refine (hasWidth_any _ _ _ HW.out hv.1 hv.2).mono ?_; rintro e w' ⟨rfl, rfl⟩; rw [HH.out])
  go_wp2_with (go_at_call 80; refine (lie_any _ _ _ _ _ _ (by omega) (by omega) (by omega)).mono ?_; rintro e w' ⟨rfl, rfl⟩; rw [hl.out])
  rename World => w0
  go_loopw [25] (fun i wr => ∃ k : Nat, k ≤ W ∧ i = .int .i64 k ∧ OwnB wr g cap (ov L A k (dig v)) ∧ w0.grownBy wr (some g)) (fun i _ => W - (intOf i).toNat)
  case atStart => exact ⟨0, Nat.zero_le _, rfl, by rw [ov_zero]; exact HO.out, grown_refl _ _⟩
  case round =>
    obtain ⟨k, hk, rfl, how, hgr⟩ := hrel
    have HP : Hid (OwnB wr g cap (ov L A k (dig v))) := how
    have HG : Hid (w0.grownBy wr (some g)) := hgr
    clear how hgr
    by_cases hlt : k < W
    · have d := HP.out.cell (A + k) (by rw [ov_length]; omega)
      have f := HP.out.frozen (A + k)
      have HQ : Hid (OwnB (wr.setCell ⟨g, A + k, none⟩ (.int .u8 (v / 256 ^ k % 256))) g cap (ov L A (k + 1) (dig v))) := HP.out.ovs (by omega) (dig_bd v k)
      clear HP
      have hkk : k = 0 ∨ k = 1 ∨ k = 2 ∨ k = 3 ∨ k = 4 ∨ k = 5 ∨ k = 6 ∨ k = 7 := by omega
      rcases hkk with rfl | rfl | rfl | rfl | rfl | rfl | rfl | rfl
      case' inl => simp only [Nat.add_zero] at d f HQ
      all_goals
        go_wp2
        have e := HQ.out
        simp only [Int.reducePow, Int.pow_zero, Int.ediv_one] at e
        first
          | exact ⟨⟨_, hlt, rfl, e, grown_trans HG.out grown_set⟩, by simp [intOf]; omega⟩
          | (rw [Int.emod_eq_of_lt (by omega) (by omega)] at e
             exact ⟨⟨_, hlt, rfl, e, grown_trans HG.out grown_set⟩, by simp [intOf]; omega⟩)
    · go_wp2
      obtain rfl : k = W := by omega
      go_ret
      exact ⟨rfl, HP.out, HG.out⟩
end Go.Proofs.YtpheajiepnjhdaaDoor
