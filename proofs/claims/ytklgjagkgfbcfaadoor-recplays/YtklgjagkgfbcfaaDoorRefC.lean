import Derived.Test.YtklgjagkgfbcfaaDoorRefB
namespace Go.Proofs.YtklgjagkgfbcfaaDoor
open Go.RowKit Rec

theorem OwnB.left {w : World} {g cap : Nat} {l r : List Int} (h : OwnB w g cap (l ++ r)) (i : Nat) (hi : i < l.length) : w.cell? ⟨g, i, none⟩ = some (.int .u8 (nth l i)) := by
  rw [h.cell i (by rw [List.length_append]; omega)]
  simp [nth, List.getD, List.getElem?_append, hi]
set_option maxRecDepth 100000 in
set_option maxHeartbeats 800000 in
theorem rzero_in (w : World) (g cap n c A N : Nat) (l r : List Int) (hn : l.length = n) (hO : OwnB w g cap (l ++ r)) (_hc : n ≤ c) (hA : A + N ≤ n) :
    Calls Tryd.prog 26 #[.slice (some ⟨g, 0, none⟩) n c, .int .i64 A, .int .i64 N] w fun e w' => e = .returned (.tuple #[.bool (zr l A N), .int .i64 0]) ∧ w' = w := by
  have hlen := hO.len
  rw [List.length_append, hn] at hlen
  have HC : Hid (∀ i, i < n → w.cell? ⟨g, i, none⟩ = some (.int .u8 (nth l i))) := fun i hi => hO.left i (by omega)
  have hl : Hid (lies n A N = true) := by unfold lies; exact decide_eq_true (by omega)
  clear hO hn
  go_enter Tryd.func26, Tryd.ntmps26
  go_wp2_with (go_at_call 27; refine (rlie _ _ _ _ (by omega) (by omega) (by omega)).mono ?_; rintro e w' ⟨rfl, rfl⟩; rw [hl.out])
  go_loop [8] (fun i => ∃ k : Nat, k ≤ N ∧ i = .int .i64 k ∧ ∀ j, j < k → nth l (A + j) = 0) (fun i => N - (intOf i).toNat)
  case atStart => exact ⟨0, Nat.zero_le _, rfl, fun j hj => absurd hj (by omega)⟩
  case round =>
    obtain ⟨k, hk, rfl, hz⟩ := hrel
    have HZ : Hid (∀ j, j < k → nth l (A + j) = 0) := hz
    clear hz
    by_cases hlt : k < N
    · have d := HC.out (A + k) (by omega)
      by_cases h0 : nth l (A + k) = 0
      · go_wp2
        go_round
        case rel => exact ⟨k + 1, by omega, by go_num, fun j hj => (Nat.lt_succ_iff_lt_or_eq.1 hj).elim (fun h => HZ.out j h) (fun h => by subst h; exact h0)⟩
        case measure => simp [intOf]; omega
      · go_wp2
        go_ret2
        refine ⟨?_, rfl⟩
        rw [zr_false l A N k hlt h0]; rfl
    · go_wp2
      go_ret2
      refine ⟨?_, rfl⟩
      rw [zr_true l A N (fun i hi => HZ.out i (by omega))]; rfl
set_option maxRecDepth 100000 in
set_option maxHeartbeats 800000 in
theorem rzero_no (w : World) (a : Option Addr) (n c : Nat) (at_ N : Int) (h : N < 0) :
    Calls Tryd.prog 26 #[.slice a n c, .int .i64 at_, .int .i64 N] w fun e w' => e = .returned (.tuple #[.bool false, .int .i64 1]) ∧ w' = w := by
  go_enter Tryd.func26, Tryd.ntmps26
  go_wp2
  go_ret2
  exact ⟨rfl, rfl⟩
set_option maxRecDepth 100000 in
set_option maxHeartbeats 800000 in
theorem rzero_out (w : World) (a : Option Addr) (n c : Nat) (at_ N : Int) (hn : n ≤ 1000000000000000) (hN : N ≤ 9223372036854775807) (h : ¬ N < 0) (hl : lies n at_ N = false) :
    Calls Tryd.prog 26 #[.slice a n c, .int .i64 at_, .int .i64 N] w fun e w' => e = .returned (.tuple #[.bool false, .int .i64 20]) ∧ w' = w := by
  have HL : Hid (lies n at_ N = false) := hl
  clear hl
  go_enter Tryd.func26, Tryd.ntmps26
  go_wp2_with (go_at_call 27; refine (rlie _ _ _ _ (by omega) (by omega) (by omega)).mono ?_; rintro e w' ⟨rfl, rfl⟩; rw [HL.out])
  go_ret2
  exact ⟨rfl, rfl⟩
/-- boleref02.Zero -/
theorem rzero_any (w : World) (g cap n c : Nat) (at_ N : Int) (l r : List Int) (hn : l.length = n) (hO : OwnB w g cap (l ++ r)) (hc : n ≤ c) (hN : N ≤ 9223372036854775807) :
    Calls Tryd.prog 26 #[.slice (some ⟨g, 0, none⟩) n c, .int .i64 at_, .int .i64 N] w fun e w' => e = .returned (.tuple #[.bool (zerV l at_ N), .int .i64 (zerE l at_ N)]) ∧ w' = w := by
  have hlen := hO.len
  rw [List.length_append, hn] at hlen
  unfold zerV zerE
  rw [hn]
  by_cases h : N < 0
  · simp only [h, if_true]
    exact rzero_no w _ n c at_ N h
  · simp only [h, if_false]
    cases hl : lies n at_ N with
    | false => exact rzero_out w _ n c at_ N (by omega) hN h hl
    | true =>
      have h2 := of_decide_eq_true hl
      obtain ⟨A, rfl⟩ := Int.eq_ofNat_of_zero_le h2.1
      obtain ⟨M, rfl⟩ := Int.eq_ofNat_of_zero_le (show 0 ≤ N by omega)
      exact rzero_in w g cap n c A M l r hn hO hc (by omega)

set_option maxRecDepth 100000 in
set_option maxHeartbeats 1000000 in
theorem rtext_in (w : World) (g cap n c A N : Nat) (l r : List Int) (S : ByteArray) (E : Int) (hn : l.length = n) (hO : OwnB w g cap (l ++ r)) (hc : n ≤ c) (hA : A + N ≤ n)
    (hR : (cl l A N = true ∧ S = strOfNums (fld l A (fz l A N)) ∧ E = 0) ∨ (cl l A N = false ∧ S = strOfNums [] ∧ E = 1)) :
    Calls Tryd.prog 16 #[.slice (some ⟨g, 0, none⟩) n c, .int .i64 A, .int .i64 N] w fun e w' => e = .returned (.tuple #[.string S, .int .i64 E]) ∧ w' = w := by
  have hlen := hO.len
  rw [List.length_append, hn] at hlen
  have HC : Hid (∀ i, i < n → w.cell? ⟨g, i, none⟩ = some (.int .u8 (nth l i))) := fun i hi => hO.left i (by omega)
  have HS : Hid (∀ B X M c, B = X ∨ M = 0 → X + M ≤ n → (convert 22 9 (.slice (some ⟨g, B, none⟩) M c)).run Tryd.prog w = .ok (.string (strOfNums (fld l X M))) w) := fun B X M c hB hX => str_of (hO.field (by omega) hB) (fld_length _ _ _ (by omega))
  have hl : Hid (lies n A N = true) := by unfold lies; exact decide_eq_true (by omega)
  have HR : Hid ((cl l A N = true ∧ S = strOfNums (fld l A (fz l A N)) ∧ E = 0) ∨ (cl l A N = false ∧ S = strOfNums [] ∧ E = 1)) := hR
  clear hO hn hR
  go_enter Tryd.func16, Tryd.ntmps16
  go_wp2_with (go_at_call 27; refine (rlie _ _ _ _ (by omega) (by omega) (by omega)).mono ?_; rintro e w' ⟨rfl, rfl⟩; rw [hl.out])
  go_loop [8] (fun i => ∃ k : Nat, k ≤ N ∧ i = .int .i64 k ∧ ∀ j, j < k → nth l (A + j) ≠ 0) (fun i => N - (intOf i).toNat)
  case atStart => exact ⟨0, Nat.zero_le _, rfl, fun j hj => absurd hj (by omega)⟩
  case round =>
    obtain ⟨k, hk, rfl, hz⟩ := hrel
    have HZ : Hid (∀ j, j < k → nth l (A + j) ≠ 0) := hz
    clear hz
    by_cases hg : k < N ∧ nth l (A + k) ≠ 0
    · obtain ⟨hlt, h0⟩ := hg
      have d := HC.out (A + k) (by omega)
      go_wp2
      go_round
      case rel => exact ⟨k + 1, by omega, by go_num, fun j hj => (Nat.lt_succ_iff_lt_or_eq.1 hj).elim (fun h => HZ.out j h) (fun h => by subst h; exact h0)⟩
      case measure => simp [intOf]; omega
    · have hf : Hid (fz l A N = k) := fz_eq _ _ _ _ hk HZ.out (fun h => Decidable.byContradiction fun e => hg ⟨h, e⟩)
      have hcl : Hid (cl l A N = zr l (A + k) (N - k)) := by show cl l A N = _; unfold cl; rw [hf.out]
      have HR2 : Hid ((zr l (A + k) (N - k) = true ∧ S = strOfNums (fld l A k) ∧ E = 0) ∨ (zr l (A + k) (N - k) = false ∧ S = strOfNums [] ∧ E = 1)) := by
        have := HR.out
        rw [hcl.out, hf.out] at this
        exact this
      have hs0 : A = c → k = 0 := by omega
      by_cases hlt : k < N
      case' pos =>
        have d := HC.out (A + k) (by omega)
        have h0 : nth l (A + k) = 0 := Decidable.byContradiction fun e => hg ⟨hlt, e⟩
      all_goals
        clear hg HR hcl hf HZ
        go_wp2
        clear hlt
        go_loop [9] (fun i => ∃ m : Nat, k ≤ m ∧ m ≤ N ∧ i = .int .i64 m ∧ ∀ j, k ≤ j → j < m → nth l (A + j) = 0) (fun i => N - (intOf i).toNat)
        case atStart => exact ⟨k, by omega, by omega, rfl, fun j h1 h2 => absurd h2 (by omega)⟩
        case round =>
          obtain ⟨m, hkm, hm, rfl, hy⟩ := hrel
          have HY : Hid (∀ j, k ≤ j → j < m → nth l (A + j) = 0) := hy
          clear hy
          by_cases hmn : m < N
          · have d2 := HC.out (A + m) (by omega)
            by_cases h1 : nth l (A + m) = 0
            · go_wp2
              go_round
              case rel => exact ⟨m + 1, by omega, by omega, by go_num, fun j hj1 hj => (Nat.lt_succ_iff_lt_or_eq.1 hj).elim (fun h => HY.out j hj1 h) (fun h => by subst h; exact h1)⟩
              case measure => simp [intOf]; omega
            · go_wp2
              go_ret2
              rcases HR2.out with ⟨e0, _, _⟩ | ⟨_, e1, e2⟩
              · have e : A + k + (m - k) = A + m := by omega
                rw [zr_false l (A + k) (N - k) (m - k) (by omega) (by rw [e]; exact h1)] at e0; cases e0
              · rw [e1, e2]; exact ⟨rfl, rfl⟩
          · have t1 := HS.out A A k (c - A) (by omega) (by omega)
            by_cases hac : A = c
            case' pos =>
              obtain rfl : k = 0 := hs0 hac
              have t3 := HS.out 0 A 0 0 (by omega) (by omega)
            all_goals clear hs0
            all_goals
              go_wp2
              go_ret2
              rcases HR2.out with ⟨_, e1, e2⟩ | ⟨e0, _, _⟩
              · rw [e1, e2]; exact ⟨rfl, rfl⟩
              · rw [zr_true _ _ _ (fun i hi => by rw [Nat.add_assoc]; exact HY.out _ (by omega) (by omega))] at e0; cases e0
set_option maxRecDepth 100000 in
set_option maxHeartbeats 800000 in
theorem rtext_no (w : World) (a : Option Addr) (n c : Nat) (at_ N : Int) (h : N < 0) :
    Calls Tryd.prog 16 #[.slice a n c, .int .i64 at_, .int .i64 N] w fun e w' => e = .returned (.tuple #[.string (strOfNums []), .int .i64 1]) ∧ w' = w := by
  go_enter Tryd.func16, Tryd.ntmps16
  go_wp2
  go_ret2
  exact ⟨rfl, rfl⟩
set_option maxRecDepth 100000 in
set_option maxHeartbeats 800000 in
theorem rtext_out (w : World) (a : Option Addr) (n c : Nat) (at_ N : Int) (hn : n ≤ 1000000000000000) (hN : N ≤ 9223372036854775807) (h : ¬ N < 0) (hl : lies n at_ N = false) :
    Calls Tryd.prog 16 #[.slice a n c, .int .i64 at_, .int .i64 N] w fun e w' => e = .returned (.tuple #[.string (strOfNums []), .int .i64 20]) ∧ w' = w := by
  have HL : Hid (lies n at_ N = false) := hl
  clear hl
  go_enter Tryd.func16, Tryd.ntmps16
  go_wp2_with (go_at_call 27; refine (rlie _ _ _ _ (by omega) (by omega) (by omega)).mono ?_; rintro e w' ⟨rfl, rfl⟩; rw [HL.out])
  go_ret2
  exact ⟨rfl, rfl⟩
/-- boleref02.Text -/
theorem rtext_any (w : World) (g cap n c : Nat) (at_ N : Int) (l r : List Int) (hn : l.length = n) (hO : OwnB w g cap (l ++ r)) (hc : n ≤ c) (hN : N ≤ 9223372036854775807) :
    Calls Tryd.prog 16 #[.slice (some ⟨g, 0, none⟩) n c, .int .i64 at_, .int .i64 N] w fun e w' => e = .returned (.tuple #[.string (texS l at_ N), .int .i64 (texE l at_ N)]) ∧ w' = w := by
  have hlen := hO.len
  rw [List.length_append, hn] at hlen
  by_cases h : N < 0
  · obtain ⟨e1, e2⟩ := tex_neg l at_ N h
    rw [e1, e2]
    exact rtext_no w _ n c at_ N h
  · cases hl : lies n at_ N with
    | false =>
      obtain ⟨e1, e2⟩ := tex_out l at_ N h (by rw [hn]; exact hl)
      rw [e1, e2]
      exact rtext_out w _ n c at_ N (by omega) hN h hl
    | true =>
      have h2 := of_decide_eq_true hl
      obtain ⟨A, rfl⟩ := Int.eq_ofNat_of_zero_le h2.1
      obtain ⟨M, rfl⟩ := Int.eq_ofNat_of_zero_le (show 0 ≤ N by omega)
      exact rtext_in w g cap n c A M l r _ _ hn hO hc (by omega) (tex_in l A M (by rw [hn]; exact hl))
end Go.Proofs.YtklgjagkgfbcfaaDoor
