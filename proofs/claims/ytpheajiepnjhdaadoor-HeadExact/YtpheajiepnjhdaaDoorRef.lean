import Derived.Test.YtpheajiepnjhdaaDoorRefOf
import Derived.Test.YtpheajiepnjhdaaDoorPlanM
namespace Go.Proofs.YtpheajiepnjhdaaDoor
open Go.RowKit Rec
open Crc (W)

/-- the reference's: are these numbers that may be? -/
def rmay (ns : List Int) (n : Int) : Bool := decide (1 ≤ ns.length) && decide (ns.length ≤ 96) && may ns n
set_option maxRecDepth 100000 in
set_option maxHeartbeats 800000 in
theorem rmay_out (w : World) (a : Option Addr) (k c : Nat) (n : Int) (h : k < 1 ∨ 96 < k) : Calls Tryd.prog 49 #[.slice a k c, .int .i64 n] w fun e w' => e = .returned (.bool false) ∧ w = w' := by
  by_cases h1 : k < 1
  · obtain rfl : k = 0 := by omega
    clear h h1
    go_enter Tryd.func49, Tryd.ntmps49
    go_wp2
    go_ret
    exact ⟨rfl, rfl⟩
  · have h2 : 96 < (k : Int) := by omega
    have h3 : ¬ (k : Int) < 1 := by omega
    clear h h1
    go_enter Tryd.func49, Tryd.ntmps49
    go_wp2
    go_ret
    exact ⟨rfl, rfl⟩
set_option maxRecDepth 100000 in
set_option maxHeartbeats 800000 in
theorem rmay_in (w : World) (b off k c : Nat) (ns : List Int) (n : Int) (hn : ns.length = k) (hI : Ints w (some ⟨b, off, none⟩) ns) (h1 : 1 ≤ k) (h96 : k ≤ 96) :
    Calls Tryd.prog 49 #[.slice (some ⟨b, off, none⟩) k c, .int .i64 n] w fun e w' => e = .returned (.bool (may ns n)) ∧ w = w' := by
  have HC : Hid (∀ i, i < k → w.cell? ⟨b, off + i, none⟩ = some (.int .i64 (nth ns i))) := fun i hi => hI.cell (by omega)
  have HN : Hid (ns.length = k) := hn
  clear hI hn
  go_enter Tryd.func49, Tryd.ntmps49
  go_wp2
  go_loop [5, 6] (fun s5 s6 => ∃ j : Nat, j ≤ k ∧ s6 = .int .i64 j ∧ s5 = .int .i64 (pre ns j) ∧ (∀ i, i < j → pre ns i < nth ns i ∧ nth ns i < n)) (fun _ s6 => k - (intOf s6).toNat)
  case atStart => exact ⟨0, Nat.zero_le _, rfl, rfl, fun j hj => absurd hj (by omega)⟩
  case round =>
    obtain ⟨j, hj, rfl, rfl, hz⟩ := hrel
    have HZ : Hid (∀ i, i < j → pre ns i < nth ns i ∧ nth ns i < n) := hz
    clear hz
    by_cases hlt : j < k
    · have d1 := HC.out j hlt
      have HP : Hid (pre ns (j + 1) = nth ns j) := rfl
      by_cases h0 : pre ns j < nth ns j
      · by_cases h2 : nth ns j < n
        · have H0 : Hid (pre ns j < nth ns j ∧ nth ns j < n) := ⟨h0, h2⟩
          go_wp2
          go_round
          case rel => exact ⟨j + 1, by omega, by go_num, by rw [HP.out], fun i hi => (Nat.lt_succ_iff_lt_or_eq.1 hi).elim (fun h => HZ.out i h) (fun h => by subst h; exact H0.out)⟩
          case measure => simp [intOf]; omega
        · have H0 : Hid (¬ (pre ns j < nth ns j ∧ nth ns j < n)) := fun e => h2 e.2
          go_wp2
          go_ret
          exact ⟨by rw [may_false j (by rw [HN.out]; exact hlt) H0.out]; rfl, rfl⟩
      · have H0 : Hid (¬ (pre ns j < nth ns j ∧ nth ns j < n)) := fun e => h0 e.1
        go_wp2
        go_ret
        exact ⟨by rw [may_false j (by rw [HN.out]; exact hlt) H0.out]; rfl, rfl⟩
    · go_wp2
      go_ret
      exact ⟨by rw [may_true (fun i hi => HZ.out i (by rw [HN.out] at hi; omega))]; rfl, rfl⟩
theorem rmay_any (w : World) (a : Option Addr) (k c : Nat) (ns : List Int) (n : Int) (hn : ns.length = k) (hI : Ints w a ns) :
    Calls Tryd.prog 49 #[.slice a k c, .int .i64 n] w fun e w' => e = .returned (.bool (rmay ns n)) ∧ w = w' := by
  by_cases h : 1 ≤ k ∧ k ≤ 96
  · obtain ⟨b, off, rfl⟩ := hI.some (by omega)
    have e : rmay ns n = may ns n := by unfold rmay; rw [hn, decide_eq_true h.1, decide_eq_true h.2]; rfl
    rw [e]
    exact rmay_in w b off k c ns n hn hI h.1 h.2
  · have e : rmay ns n = false := by
      unfold rmay
      rw [hn]
      by_cases h1 : 1 ≤ k
      · rw [decide_eq_false (fun h2 => h ⟨h1, h2⟩), Bool.and_false, Bool.false_and]
      · rw [decide_eq_false h1, Bool.false_and, Bool.false_and]
    rw [e]
    exact rmay_out w a k c n (by omega)
set_option maxRecDepth 100000 in
set_option maxHeartbeats 800000 in
theorem rblocks_some (w : World) (b off k c : Nat) (ds : List (List Int)) (hn : ds.length = k) (hk : k ≤ 1000000000000000) (hc : ∀ i, i < ds.length → ∃ a' c, w.cell? ⟨b, off + i, none⟩ = some (.slice a' (row ds i).length c)) :
    Calls Tryd.prog 50 #[.slice (some ⟨b, off, none⟩) k c, .int .i64 k] w fun e w' => e = .returned (.bool (decide (∀ b, b ∈ ds → b.length = 512))) ∧ w = w' := by
  have HC : Hid (∀ i, i < ds.length → ∃ a' c, w.cell? ⟨b, off + i, none⟩ = some (.slice a' (row ds i).length c)) := hc
  have HN : Hid (ds.length = k) := hn
  clear hc hn
  go_enter Tryd.func50, Tryd.ntmps50
  go_wp2
  go_loop [5] (fun i => ∃ j : Nat, j ≤ k ∧ i = .int .i64 j ∧ (∀ i, i < j → (row ds i).length = 512)) (fun i => k - (intOf i).toNat)
  case atStart => exact ⟨0, Nat.zero_le _, rfl, fun j hj => absurd hj (by omega)⟩
  case round =>
    obtain ⟨j, hj, rfl, hz⟩ := hrel
    have HZ : Hid (∀ i, i < j → (row ds i).length = 512) := hz
    clear hz
    by_cases hlt : j < k
    · obtain ⟨a', c', d1⟩ := HC.out j (by rw [HN.out]; exact hlt)
      by_cases h0 : (row ds j).length = 512
      · have H0 : Hid ((row ds j).length = 512) := h0
        rw [h0] at d1
        clear h0
        go_wp2
        go_round
        case rel => exact ⟨j + 1, by omega, by go_num, fun i hi => (Nat.lt_succ_iff_lt_or_eq.1 hi).elim (fun h => HZ.out i h) (fun h => by subst h; exact H0.out)⟩
        case measure => simp [intOf]; omega
      · have H0 : Hid (¬ (row ds j).length = 512) := h0
        obtain ⟨m, hm⟩ : ∃ m, (row ds j).length = m := ⟨_, rfl⟩
        rw [hm] at d1 h0
        have h0' : ¬ (m : Int) = 512 := by omega
        clear h0 hm
        go_wp2
        go_ret
        exact ⟨by rw [decide_eq_false (fun h => H0.out ((mem_row ds).1 h j (by rw [HN.out]; exact hlt)))]; rfl, rfl⟩
    · go_wp2
      go_ret
      exact ⟨by rw [decide_eq_true ((mem_row ds).2 (fun i hi => HZ.out i (by rw [HN.out] at hi; omega)))]; rfl, rfl⟩
set_option maxRecDepth 100000 in
theorem rblocks_none (w : World) (a : Option Addr) (c : Nat) : Calls Tryd.prog 50 #[.slice a 0 c, .int .i64 0] w fun e w' => e = .returned (.bool true) ∧ w = w' := by
  go_enter Tryd.func50, Tryd.ntmps50
  go_wp2
  go_loop [5] (fun i => i = .int .i64 0) (fun _ => 0)
  case atStart => exact rfl
  case round =>
    obtain rfl := hrel
    go_wp2
    go_ret
    exact ⟨rfl, rfl⟩
set_option maxRecDepth 100000 in
theorem rblocks_len (w : World) (a : Option Addr) (k c m : Nat) (h : k ≠ m) : Calls Tryd.prog 50 #[.slice a k c, .int .i64 m] w fun e w' => e = .returned (.bool false) ∧ w = w' := by
  have h' : ¬ (k : Int) = (m : Int) := by omega
  go_enter Tryd.func50, Tryd.ntmps50
  go_wp2
  go_ret
  exact ⟨rfl, rfl⟩
theorem rblocks_any (w : World) (a : Option Addr) (k c m : Nat) (ds : List (List Int)) (hn : ds.length = k) (hD : Data w a ds) :
    Calls Tryd.prog 50 #[.slice a k c, .int .i64 m] w fun e w' => e = .returned (.bool (blk ds m)) ∧ w = w' := by
  by_cases h : k = m
  · subst h
    unfold blk
    rw [decide_eq_true hn, Bool.true_and]
    rcases hD.at_ with e | ⟨b, off, rfl, hc⟩
    · subst e; simp at hn; subst hn
      rw [decide_eq_true (by simp)]
      exact rblocks_none w a c
    · exact rblocks_some w b off k c ds hn (by have := hD.len; omega) (fun i hi => by obtain ⟨a', c, h1, _⟩ := hc i hi; exact ⟨a', c, h1⟩)
  · have e : blk ds m = false := by unfold blk; rw [decide_eq_false (fun e => h (by rw [← hn, e])), Bool.false_and]
    rw [e]
    exact rblocks_len w a k c m h
end Go.Proofs.YtpheajiepnjhdaaDoor
