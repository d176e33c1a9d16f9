import Derived.Test.YtlgjkmfekkegbaaBtL
import Derived.Test.YtlgjkmfekkegbaaOp8
namespace Go.Proofs.Ytlgjkmfekkegbaa
open Go.RowKit Rec

set_option maxRecDepth 100000 in
set_option maxHeartbeats 8000000 in
theorem cuts_any (w : World) (n c : Nat) (a : Option Addr) (l : List Int) (hb : Bytes w a l) (hn : l.length = n) (hz : a = none → c = 0) (hnc : n ≤ c) :
    Calls Try.prog 7 #[.slice a n c] w fun e w' => e = .returned (.bool true) ∧ Below w.heap.size w w' := by
  have HB : Hid (Bytes w a l ∧ l.length = n ∧ (a = none → c = 0)) := ⟨hb, hn, hz⟩
  have hn' : n ≤ 1000000000000000 := by rw [← hn]; exact hb.len
  clear hb hn hz
  go_enter Try.func7, Try.ntmps7
  go_upto_if 12 with (go_at_call 8; refine (fixed_any _).mono ?_; rintro e wb ⟨rfl, hbb⟩; have HBb : Hid (Below w.heap.size w wb) := hbb; clear hbb)
  go_cut [0] (fun s wx => ∃ k : Nat, k ≤ 16 ∧ s = .slice a k c ∧ (l.take k).length = k ∧ Below w.heap.size w wx)
  case first =>
    by_cases h2 : 16 < n
    · obtain ⟨p, rfl⟩ := some_of HB.out.1 (by have := HB.out.2.1; omega)
      have hc2 : 16 ≤ c := by omega
      go_wp2
      go_meet
      case rel => exact ⟨16, Nat.le_refl _, rfl, by rw [List.length_take, HB.out.2.1]; omega, HBb.out⟩
    · go_wp2
      go_meet
      case rel => exact ⟨n, by omega, rfl, by rw [List.length_take, HB.out.2.1]; omega, HBb.out⟩
  case rest =>
  obtain ⟨k, hk, rfl, hlk, hbx⟩ := hcut
  obtain ⟨x0, hx0⟩ : ∃ x0, l.take k = x0 := ⟨_, rfl⟩
  have HX : Hid (Bytes w a x0 ∧ x0.length = k ∧ Below w.heap.size w wc ∧ (a = none → c = 0)) := by
    rw [← hx0]; exact ⟨HB.out.1.take k, hlk, hbx, HB.out.2.2⟩
  clear hlk hbx HBb hnc HB hx0
  go_wp2
  go_loopw [3] (fun s wr => ∃ i : Int, s = .int .i64 i ∧ -1 ≤ i ∧ i ≤ 8 * (k : Int) + 2 ∧ Below w.heap.size w wr) (fun s _ => (8 * (k : Int) + 2 - intOf s).toNat)
  case atStart => exact ⟨-1, rfl, by omega, by omega, HX.out.2.2.1⟩
  case round =>
    obtain ⟨i, rfl, hi1, hi2, hbw⟩ := hrel
    have HW : Hid (Below w.heap.size w wr) := hbw
    clear hbw
    by_cases hgo : i ≤ 8 * (k : Int) + 1
    · go_wp2
      go_loopw [4] (fun s wr => ∃ q : Nat, s = .int .i64 (q : Int) ∧ q ≤ 3 ∧ Below w.heap.size w wr) (fun s _ => 3 - (intOf s).toNat)
      case atStart => exact ⟨0, rfl, by omega, HW.out⟩
      case round =>
        obtain ⟨q, rfl, hq, hbw⟩ := hrel
        have HW2 : Hid (Below w.heap.size w wr) := hbw
        clear hbw
        by_cases hq3 : q < 3
        · have hq3' : (q : Int) < 3 := by omega
          have HA : Hid (Below wr.heap.size wr (wr.alloc (.cells #[] 5)) ∧ OwnB (wr.alloc (.cells #[] 5)) wr.heap.size 0 []) := ⟨(Below.refl _ _).alloc (Nat.le_refl _) _, own_empty (heap_alloc_new _ _)⟩
          go_upto_region 12 with (at_builtin; refine wp_app rfl (.tmp 27) (.tmp 28) rfl wr.heap.size wr.heap.size 0 0 [] x0 rfl rfl HA.out.2 (Nat.le_refl _) HA.out.1.size a k c rfl HX.out.2.1 (HX.out.1.on (HW2.out.trans (HA.out.1.mono HW2.out.size))) HX.out.2.2.2 (by omega) ?_; intro g cap w1 hg ho hgr; have H1 : Hid (wr.heap.size ≤ g ∧ OwnB w1 g cap x0 ∧ Below wr.heap.size wr w1) := ⟨hg, ho, HA.out.1.trans (below_of hgr (Nat.le_refl _) HA.out.1.size)⟩; clear hg ho hgr)
          clear HA
          have HA : Hid (Below w1.heap.size w1 (w1.alloc (.cells #[] 5)) ∧ OwnB (w1.alloc (.cells #[] 5)) w1.heap.size 0 []) := ⟨(Below.refl _ _).alloc (Nat.le_refl _) _, own_empty (heap_alloc_new _ _)⟩
          have HW3 : Hid (Below w.heap.size w w1) := HW2.out.trans (H1.out.2.2.mono HW2.out.size)
          go_upto_region 13 with (at_builtin; refine wp_app rfl (.tmp 30) (.tmp 31) rfl w1.heap.size w1.heap.size 0 0 [] x0 rfl rfl HA.out.2 (Nat.le_refl _) HA.out.1.size a k c rfl HX.out.2.1 (HX.out.1.on (HW3.out.trans (HA.out.1.mono HW3.out.size))) HX.out.2.2.2 (by omega) ?_; intro g2 cap2 w2 hg ho hgr; have H2 : Hid (w1.heap.size ≤ g2 ∧ OwnB w2 g2 cap2 x0 ∧ Below w1.heap.size w1 w2) := ⟨hg, ho, HA.out.1.trans (below_of hgr (Nat.le_refl _) HA.out.1.size)⟩; clear hg ho hgr)
          clear HA
          have hne : g ≠ g2 := by have := H1.out.2.1.lt; have := H2.out.1; omega
          have HT : Hid (Two w2 g cap g2 cap2 x0 [] ∧ Below w.heap.size w w2 ∧ w.heap.size ≤ g ∧ w.heap.size ≤ g2) := ⟨⟨by rw [List.append_nil]; exact H1.out.2.1.on H2.out.2.2, H2.out.2.1⟩, HW3.out.trans (H2.out.2.2.mono HW3.out.size), Nat.le_trans HW2.out.size H1.out.1, Nat.le_trans HW3.out.size H2.out.1⟩
          clear H1 H2
          go_wp2_with (first
            | (go_at_call 18; have hh := HT.out; clear hh; refine (plays_own w2 g cap g2 cap2 k cap cap2 x0 [] HT.out.1 hne HX.out.2.1 (q : Int) i 0 true (by omega)).mono ?_; rintro e w3 ⟨rfl, x1, hx1, ht1, hf1⟩; have HT1 : Hid (Two w3 g cap g2 cap2 x1 [] ∧ x1.length = k ∧ Below w.heap.size w w3 ∧ w.heap.size ≤ g ∧ w.heap.size ≤ g2) := ⟨ht1, hx1, HT.out.2.1.trans (hf1.below _ (fun j e => by rcases e with e | e <;> (subst e; first | exact HT.out.2.2.1 | exact HT.out.2.2.2)) HT.out.2.1.size), HT.out.2.2⟩; clear ht1 hx1 hf1 HT)
            | (go_at_call 18; refine (plays_own w3 g cap g2 cap2 k cap cap2 x1 [] HT1.out.1 hne HT1.out.2.1 (q : Int) i 0 false (by omega)).mono ?_; rintro e w4 ⟨rfl, x2, hx2, ht2, hf2⟩; have HT2 : Hid (Two w4 g cap g2 cap2 x2 [] ∧ x2.length = k ∧ Below w.heap.size w w4) := ⟨ht2, hx2, HT1.out.2.2.1.trans (hf2.below _ (fun j e => by rcases e with e | e <;> (subst e; first | exact HT1.out.2.2.2.1 | exact HT1.out.2.2.2.2)) HT1.out.2.2.1.size)⟩; clear ht2 hx2 hf2 HT1)
            | (go_at_call 16; refine (same8_yes w4 _ _ k cap cap2 x2 HT2.out.1.bytes.1 HT2.out.1.bytes.2 HT2.out.2.1).mono ?_; rintro e w5 ⟨rfl, m5, rfl⟩))
          go_round
          case rel => exact ⟨q + 1, by go_num, by omega, HT2.out.2.2.trans (belowN_drewN _ _ _)⟩
          case measure => simp [intOf]; omega
        · have hq3' : ¬ ((q : Int) < 3) := by omega
          go_wp2
          go_loopw [7] (fun s wr => ∃ t : Int, s = .int .i64 t ∧ -1 ≤ t ∧ t ≤ 8 * (k : Int) + 2 ∧ Below w.heap.size w wr) (fun s _ => (8 * (k : Int) + 2 - intOf s).toNat)
          case atStart => exact ⟨-1, rfl, by omega, by omega, HW2.out⟩
          case round =>
            obtain ⟨t, rfl, ht1, ht2, hbw⟩ := hrel
            have HW4 : Hid (Below w.heap.size w wr) := hbw
            clear hbw
            by_cases hgt : t ≤ 8 * (k : Int) + 1
            · have cP := plays_read wr a a k c c x0 (HX.out.1.on HW4.out) (HX.out.1.on HW4.out) HX.out.2.1 3 i t false (by decide) (by omega)
              go_wp2_with (go_at_call 18; refine cP.mono ?_; rintro e w3 ⟨rfl, hb3⟩; have H3 : Hid (Below wr.heap.size wr w3) := hb3; clear hb3)
              go_round
              case rel => exact ⟨t + 1, by go_num, by omega, by omega, HW4.out.trans (H3.out.mono HW4.out.size)⟩
              case measure => simp [intOf]; omega
            · have hgt' : 8 * (k : Int) + 1 < t := by omega
              go_wp2
              go_round
              case rel => exact ⟨i + 1, by go_num, by omega, by omega, HW4.out⟩
              case measure => simp [intOf]; omega
    · have hgo' : 8 * (k : Int) + 1 < i := by omega
      go_wp2
      go_ret
      exact ⟨rfl, HW.out⟩
end Go.Proofs.Ytlgjkmfekkegbaa
