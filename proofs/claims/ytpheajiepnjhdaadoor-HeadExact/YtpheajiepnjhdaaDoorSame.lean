import Derived.Test.YtpheajiepnjhdaaDoorMade
namespace Go.Proofs.YtpheajiepnjhdaaDoor
open Go.RowKit Rec

set_option maxRecDepth 100000 in
set_option maxHeartbeats 400000 in
theorem same_some (w : World) (b1 o1 c1 b2 o2 c2 n : Nat) (l m : List Int) (hn1 : l.length = n) (hn2 : m.length = n) (hl : n ≤ 1000000000000000)
    (h1 : ∀ i, i < n → w.cell? ⟨b1, o1 + i, none⟩ = some (.int .i64 (nth l i))) (h2 : ∀ i, i < n → w.cell? ⟨b2, o2 + i, none⟩ = some (.int .i64 (nth m i))) :
    Calls Tryd.prog 12 #[.slice (some ⟨b1, o1, none⟩) n c1, .slice (some ⟨b2, o2, none⟩) n c2] w fun e w' => e = .returned (.bool (decide (l = m))) ∧ Below w.heap.size w w' := by
  have H1 : Hid (∀ wr : World, Below w.heap.size w wr → ∀ i, i < n → wr.cell? ⟨b1, o1 + i, none⟩ = some (.int .i64 (nth l i))) := fun wr hb i hi => (hb.cell (block_lt_of_cell (h1 i hi))).trans (h1 i hi)
  have H2 : Hid (∀ wr : World, Below w.heap.size w wr → ∀ i, i < n → wr.cell? ⟨b2, o2 + i, none⟩ = some (.int .i64 (nth m i))) := fun wr hb i hi => (hb.cell (block_lt_of_cell (h2 i hi))).trans (h2 i hi)
  have HL : Hid (l.length = n ∧ m.length = n) := ⟨hn1, hn2⟩
  clear h1 h2 hn1 hn2
  go_enter Tryd.func12, Tryd.ntmps12
  go_wp2
  go_loopw [13] (fun i wr => ∃ k : Nat, k ≤ n ∧ i = .int .i64 k ∧ (∀ j, j < k → nth l j = nth m j) ∧ Below w.heap.size w wr) (fun i _ => n - (intOf i).toNat)
  case atStart => exact ⟨0, Nat.zero_le _, rfl, fun j hj => absurd hj (by omega), Below.refl _ _⟩
  case round =>
    obtain ⟨k, hk, rfl, hz, hb⟩ := hrel
    have HZ : Hid (∀ j, j < k → nth l j = nth m j) := hz
    have HB : Hid (Below w.heap.size w wr) := hb
    clear hz hb
    by_cases hlt : k < n
    · have d1 := H1.out _ HB.out k hlt
      have d2 := H2.out _ HB.out k hlt
      by_cases h0 : nth l k = nth m k
      · go_wp2
        go_quiet (fail)
        go_wp2
        exact ⟨⟨k + 1, by omega, by go_num, fun j hj => (Nat.lt_succ_iff_lt_or_eq.1 hj).elim (fun h => HZ.out j h) (fun h => by subst h; exact h0), below_drewN HB.out _⟩, by simp [intOf]; omega⟩
      · go_wp2
        go_quiet (fail)
        go_wp2
        go_ret
        refine ⟨?_, below_drewN HB.out _⟩
        have e : decide (l = m) = false := decide_eq_false (fun e => h0 (by rw [e]))
        rw [e]; rfl
    · go_wp2
      go_ret
      refine ⟨?_, HB.out⟩
      have e : decide (l = m) = true := decide_eq_true (ext_nth (by rw [HL.out.1, HL.out.2]) (fun i hi => HZ.out i (by rw [HL.out.1] at hi; omega)))
      rw [e]; rfl
set_option maxRecDepth 100000 in
theorem same_zero (w : World) (a1 a2 : Option Addr) (c1 c2 : Nat) :
    Calls Tryd.prog 12 #[.slice a1 0 c1, .slice a2 0 c2] w fun e w' => e = .returned (.bool true) ∧ Below w.heap.size w w' := by
  go_enter Tryd.func12, Tryd.ntmps12
  go_wp2
  go_loop [13] (fun i => i = .int .i64 0) (fun _ => 0)
  case atStart => exact rfl
  case round =>
    obtain rfl := hrel
    go_wp2
    go_ret
    exact ⟨rfl, Below.refl _ _⟩
set_option maxRecDepth 100000 in
theorem same_diff (w : World) (a1 a2 : Option Addr) (n1 n2 c1 c2 : Nat) (h : n1 ≠ n2) :
    Calls Tryd.prog 12 #[.slice a1 n1 c1, .slice a2 n2 c2] w fun e w' => e = .returned (.bool false) ∧ Below w.heap.size w w' := by
  have h' : ¬ (n1 : Int) = (n2 : Int) := by omega
  go_enter Tryd.func12, Tryd.ntmps12
  go_wp2
  go_ret
  exact ⟨rfl, Below.refl _ _⟩
theorem same_any (w : World) (a1 a2 : Option Addr) (n1 c1 n2 c2 : Nat) (l m : List Int) (hn1 : l.length = n1) (hn2 : m.length = n2) (B1 : Ints w a1 l) (B2 : Ints w a2 m) :
    Calls Tryd.prog 12 #[.slice a1 n1 c1, .slice a2 n2 c2] w fun e w' => e = .returned (.bool (decide (l = m))) ∧ Below w.heap.size w w' := by
  by_cases h : n1 = n2
  · subst h
    rcases B1.at_ with h1 | ⟨b1, o1, rfl, d1⟩
    · subst h1
      simp at hn1; subst hn1
      have := List.eq_nil_of_length_eq_zero hn2
      subst this
      exact same_zero w a1 a2 c1 c2
    · rcases B2.at_ with h2 | ⟨b2, o2, rfl, d2⟩
      · subst h2
        simp at hn2; subst hn2
        have := List.eq_nil_of_length_eq_zero hn1
        subst this
        exact same_zero w _ a2 c1 c2
      · exact same_some w b1 o1 c1 b2 o2 c2 n1 l m hn1 hn2 (by have := B1.len; omega) (fun i hi => d1 i (by omega)) (fun i hi => d2 i (by omega))
  · have e : decide (l = m) = false := decide_eq_false (fun e => h (by rw [← hn1, ← hn2, e]))
    rw [e]
    exact same_diff w a1 a2 n1 n2 c1 c2 h
end Go.Proofs.YtpheajiepnjhdaaDoor
