import Derived.Test.YtklgjagkgfbcfaaDoorRefC
namespace Go.Proofs.YtklgjagkgfbcfaaDoor
open Go.RowKit Rec

theorem set_set (l : List Int) (k : Nat) (a b : Int) : (l.set k a).set k b = l.set k b := by simp
set_option maxRecDepth 100000 in
set_option maxHeartbeats 800000 in
theorem rptx_long (w : World) (a : Option Addr) (n c : Nat) (at_ N : Int) (s : ByteArray) (h : N < 0 ∨ N < s.size) :
    Calls Tryd.prog 25 #[.slice a n c, .int .i64 at_, .int .i64 N, .string s] w fun e w' => e = .returned (.int .i64 1) ∧ w' = w := by
  by_cases h0 : N < 0
  · go_enter Tryd.func25, Tryd.ntmps25
    go_wp2
    go_ret
    exact ⟨rfl, rfl⟩
  · have h1 : N < s.size := by omega
    go_enter Tryd.func25, Tryd.ntmps25
    go_wp2
    go_ret
    exact ⟨rfl, rfl⟩

set_option maxRecDepth 100000 in
set_option maxHeartbeats 1000000 in
theorem rptx_short (w : World) (g cap n c : Nat) (at_ : Int) (N : Nat) (s : ByteArray) (l r : List Int) (hn : l.length = n) (hO : OwnB w g cap (l ++ r)) (hs : s.size ≤ N) (hN : (N : Int) ≤ 9223372036854775807) :
    Calls Tryd.prog 25 #[.slice (some ⟨g, 0, none⟩) n c, .int .i64 at_, .int .i64 N, .string s] w fun e w' => e = .returned (.int .i64 (ptxE l at_ N s)) ∧ OwnB w' g cap (ptxL l at_ N s ++ r) ∧ w.grownBy w' (some g) := by
  have hlen := hO.len
  rw [List.length_append, hn] at hlen
  have HO : Hid (OwnB w g cap (l ++ r)) := hO
  have HL : Hid (l.length = n) := hn
  clear hO hn
  go_enter Tryd.func25, Tryd.ntmps25
  go_wp2
  go_loop [9] (fun i => ∃ k : Nat, k ≤ s.size ∧ i = .int .i64 k ∧ ∀ j, j < k → nth (sb s) j ≠ 0) (fun i => s.size - (intOf i).toNat)
  case atStart => exact ⟨0, Nat.zero_le _, rfl, fun j hj => absurd hj (by omega)⟩
  case round =>
    obtain ⟨k, hk, rfl, hz⟩ := hrel
    have HZ : Hid (∀ j, j < k → nth (sb s) j ≠ 0) := hz
    clear hz
    by_cases hlt : k < s.size
    · have hq := sb_nth s k hlt
      by_cases h0 : (s[k].toNat : Int) = 0
      · have HE : Hid (ptxE l at_ N s = 1) := by
          have e : tx s N = false := by
            unfold tx
            rw [Bool.and_eq_false_iff]
            exact .inr (decide_eq_false fun h => h k hlt (by rw [hq]; exact h0))
          show ptxE l at_ N s = 1
          unfold ptxE; rw [e]; rfl
        have HP : Hid (ptxL l at_ N s = l) := by show ptxL l at_ N s = l; unfold ptxL; rw [HE.out]; rfl
        clear hq
        go_wp2
        go_ret
        exact ⟨by rw [HE.out]; rfl, by rw [HP.out]; exact HO.out, grown_refl _ _⟩
      · have HN : Hid (nth (sb s) k ≠ 0) := by rw [hq]; exact h0
        clear hq
        go_wp2
        go_round
        case rel => exact ⟨k + 1, by omega, by go_num, fun j hj => (Nat.lt_succ_iff_lt_or_eq.1 hj).elim (fun h => HZ.out j h) (fun h => by subst h; exact HN.out)⟩
        case measure => simp [intOf]; omega
    · have ht : Hid (tx s N = true) := by
        show tx s N = true
        unfold tx
        rw [Bool.and_eq_true]
        exact ⟨decide_eq_true (by omega), decide_eq_true (fun i hi => HZ.out i (by omega))⟩
      cases hl : lies n at_ N with
      | false =>
        have HE : Hid (ptxE l at_ N s = 20) := by show ptxE l at_ N s = 20; unfold ptxE; rw [ht.out, HL.out, hl]; rfl
        have HP : Hid (ptxL l at_ N s = l) := by show ptxL l at_ N s = l; unfold ptxL; rw [HE.out]; rfl
        have HLI : Hid (lies n at_ N = false) := hl
        clear hl
        go_wp2_with (go_at_call 27; refine (rlie _ _ _ _ (by omega) (by omega) (by omega)).mono ?_; rintro e w' ⟨rfl, rfl⟩; rw [HLI.out])
        go_ret
        exact ⟨by rw [HE.out]; rfl, by rw [HP.out]; exact HO.out, grown_refl _ _⟩
      | true =>
        have h2 := of_decide_eq_true hl
        have HLI : Hid (lies n at_ N = true) := hl
        obtain ⟨A, rfl⟩ := Int.eq_ofNat_of_zero_le h2.1
        have hA : A + N ≤ n := by omega
        have HE : Hid (ptxE l A N s = 0) := by show ptxE l A N s = 0; unfold ptxE; rw [ht.out, HL.out, hl]; rfl
        have HP : Hid (ptxL l A N s ++ r = ov (l ++ r) A N (nth (sb s))) := by
          show ptxL l A N s ++ r = _
          unfold ptxL; rw [HE.out, if_pos rfl, Int.toNat_natCast, Int.toNat_natCast, ov_append _ _ _ _ _ (by rw [HL.out]; exact hA)]
        have HLn : Hid ((l ++ r).length = n + r.length) := by rw [List.length_append, HL.out]; exact rfl
        clear hl h2
        go_wp2_with (go_at_call 27; refine (rlie _ _ _ _ (by omega) (by omega) (by omega)).mono ?_; rintro e w' ⟨rfl, rfl⟩; rw [HLI.out])
        rename World => w0
        go_loopw [10] (fun i wr => ∃ k : Nat, k ≤ N ∧ i = .int .i64 k ∧ OwnB wr g cap (ov (l ++ r) A k (nth (sb s))) ∧ w0.grownBy wr (some g)) (fun i _ => N - (intOf i).toNat)
        case atStart => exact ⟨0, Nat.zero_le _, rfl, by rw [ov_zero]; exact HO.out, grown_refl _ _⟩
        case round =>
          obtain ⟨m, hm, rfl, how, hgr⟩ := hrel
          have HW : Hid (OwnB wr g cap (ov (l ++ r) A m (nth (sb s)))) := how
          have HG : Hid (w0.grownBy wr (some g)) := hgr
          clear how hgr
          by_cases hmn : m < N
          · have d := HW.out.cell (A + m) (by rw [ov_length, HLn.out]; omega)
            have f := HW.out.frozen (A + m)
            have o1 := HW.out.set (A + m) 0 (by rw [ov_length, HLn.out]; omega) (by omega)
            have d1 := o1.cell (A + m) (by rw [List.length_set, ov_length, HLn.out]; omega)
            have f1 := o1.frozen (A + m)
            by_cases hms : m < s.size
            · have hq := sb_nth s m hms
              have hb := sb_bd s m
              have HQ : Hid (OwnB ((wr.setCell ⟨g, A + m, none⟩ (.int .u8 0)).setCell ⟨g, A + m, none⟩ (.int .u8 (s[m].toNat : Int))) g cap (ov (l ++ r) A (m + 1) (nth (sb s)))) := by
                have o2 := o1.set (A + m) (nth (sb s) m) (by rw [List.length_set, ov_length, HLn.out]; omega) hb
                rw [set_set, ov_set _ _ _ _ (by rw [HLn.out]; omega), hq] at o2
                exact o2
              clear o1 hq hb HW
              go_wp2
              exact ⟨⟨m + 1, by omega, by go_num, HQ.out, grown_trans HG.out (grown_trans grown_set grown_set)⟩, by simp [intOf]; omega⟩
            · have HQ : Hid (OwnB (wr.setCell ⟨g, A + m, none⟩ (.int .u8 0)) g cap (ov (l ++ r) A (m + 1) (nth (sb s)))) := by
                have e : nth (sb s) m = 0 := nth_out _ _ (by rw [sb_length]; omega)
                have := ov_set (l ++ r) A m (nth (sb s)) (by rw [HLn.out]; omega)
                rw [e] at this
                rw [this] at o1
                exact o1
              clear o1 HW d1 f1
              go_wp2
              exact ⟨⟨m + 1, by omega, by go_num, HQ.out, grown_trans HG.out grown_set⟩, by simp [intOf]; omega⟩
          · obtain rfl : m = N := by omega
            go_wp2
            go_ret
            exact ⟨by rw [HE.out]; rfl, by rw [HP.out]; exact HW.out, HG.out⟩
/-- boleref02.PutText -/
theorem rptx_any (w : World) (g cap n c : Nat) (at_ N : Int) (s : ByteArray) (l r : List Int) (hn : l.length = n) (hO : OwnB w g cap (l ++ r)) (hN : N ≤ 9223372036854775807) :
    Calls Tryd.prog 25 #[.slice (some ⟨g, 0, none⟩) n c, .int .i64 at_, .int .i64 N, .string s] w fun e w' => e = .returned (.int .i64 (ptxE l at_ N s)) ∧ OwnB w' g cap (ptxL l at_ N s ++ r) ∧ w.grownBy w' (some g) := by
  by_cases h : N < 0 ∨ N < s.size
  · have e : tx s N = false := by
      unfold tx
      rw [Bool.and_eq_false_iff]
      exact .inl (decide_eq_false (by omega))
    have e1 : ptxE l at_ N s = 1 := by unfold ptxE; rw [e]; rfl
    have e2 : ptxL l at_ N s = l := by unfold ptxL; rw [e1]; rfl
    rw [e1, e2]
    refine (rptx_long w _ n c at_ N s h).mono ?_
    rintro e w' ⟨rfl, rfl⟩
    exact ⟨rfl, hO, grown_refl _ _⟩
  · obtain ⟨M, rfl⟩ := Int.eq_ofNat_of_zero_le (show 0 ≤ N by omega)
    exact rptx_short w g cap n c at_ M s l r hn hO (by omega) hN
end Go.Proofs.YtklgjagkgfbcfaaDoor
