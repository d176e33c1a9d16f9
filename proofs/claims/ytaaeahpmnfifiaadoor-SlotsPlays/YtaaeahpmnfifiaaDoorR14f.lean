import Derived.Test.YtaaeahpmnfifiaaDoorR14e
namespace Go.Proofs.YtaaeahpmnfifiaaDoor
open Go.RowKit Rec Sc
set_option maxRecDepth 100000 in
set_option maxHeartbeats 4000000 in
theorem laid_any (w : World) (g cap c h c2 : Nat) (L l : List Int) (p : Nat) (hp : p < 16) (hO : OwnB w g cap L) (hn : 512 ≤ L.length) (hB : Bytes w (some ⟨h, 0, none⟩) l) (hl : l.length = 32) (hne : h ≠ g) :
    Calls Tryd.prog 36 #[.slice (some ⟨g, 0, none⟩) 512 c, .int .i64 p, .slice (some ⟨h, 0, none⟩) 32 c2] w fun e w' => e = .returned (.tuple #[]) ∧ OwnB w' g cap (ov L (32 * p) 32 (nth l)) ∧ w.grownBy w' (some g) := by
  have HO : Hid (OwnB w g cap L) := hO
  have HB : Hid (Bytes w (some ⟨h, 0, none⟩) l) := hB
  clear hO hB
  go_enter Tryd.func36, Tryd.ntmps36
  go_wp2
  go_loopw [6] (fun i wr => ∃ k : Nat, k ≤ 32 ∧ i = .int .i64 (k : Int) ∧ OwnB wr g cap (ov L (32 * p) k (nth l)) ∧ w.grownBy wr (some g)) (fun i _ => 32 - (intOf i).toNat)
  case atStart => exact ⟨0, Nat.zero_le _, rfl, by rw [ov_zero]; exact HO.out, grown_refl _ _⟩
  case round =>
    obtain ⟨k, hk, rfl, h1, h2⟩ := hrel
    have HI : Hid (OwnB wr g cap (ov L (32 * p) k (nth l)) ∧ w.grownBy wr (some g)) := ⟨h1, h2⟩
    clear h1 h2
    by_cases hlt : k < 32
    · have hlt' : (k : Int) < 32 := by omega
      have d := HI.out.1.cell (32 * p + k) (by rw [ov_length]; omega)
      have f := HI.out.1.frozen (32 * p + k)
      have e : wr.cell? ⟨h, k, none⟩ = some (.int .u8 (nth l k)) := by
        have := HB.out.cell (i := k) (by omega)
        rw [Nat.zero_add] at this
        exact HI.out.2.cell this (fun e => hne (by cases e; rfl))
      have HQ : Hid (OwnB (wr.setCell ⟨g, 32 * p + k, none⟩ (.int .u8 (nth l k))) g cap (ov L (32 * p) (k + 1) (nth l)) ∧ w.grownBy (wr.setCell ⟨g, 32 * p + k, none⟩ (.int .u8 (nth l k))) (some g)) := ⟨HI.out.1.ovs (by omega) (HB.out.wf k), grown_trans HI.out.2 grown_set⟩
      go_wp2
      refine ⟨⟨k + 1, by omega, rfl, HQ.out⟩, by simp [intOf]; omega⟩
    · obtain rfl : k = 32 := by omega
      go_wp2
      refine bodyPost_end (results_none rfl _ _ _) rfl ?_
      exact ⟨rfl, HI.out⟩
theorem rput_size (w : World) (a : Option Addr) (n c : Nat) (p : Int) (s : ByteArray) (i : Int) (h : n ≠ 512) : Calls Tryd.prog 20 #[.slice a n c, eV p s i] w fun e w' => e = .returned (.int .i64 32) ∧ Below w.heap.size w w' := by
  have h' : ¬ (n : Int) = 512 := by omega
  go_enter Tryd.func20, Tryd.ntmps20
  go_wp2
  go_ret
  exact ⟨rfl, (Below.refl _ _).alloc (Nat.le_refl _) _⟩
theorem rclr_size (w : World) (a : Option Addr) (n c : Nat) (p : Int) (h : n ≠ 512) : Calls Tryd.prog 21 #[.slice a n c, .int .i64 p] w fun e w' => e = .returned (.int .i64 32) ∧ w = w' := by
  have h' : ¬ (n : Int) = 512 := by omega
  go_enter Tryd.func21, Tryd.ntmps21
  go_wp2
  go_ret
  exact ⟨rfl, rfl⟩
theorem rclr_no (w : World) (a : Option Addr) (c : Nat) (p : Int) (h : plc p = false) : Calls Tryd.prog 21 #[.slice a 512 c, .int .i64 p] w fun e w' => e = .returned (.int .i64 140) ∧ w = w' := by
  have h2 : ¬ (0 ≤ p ∧ p < 16) := fun h3 => by simp [plc, h3.1, h3.2] at h
  by_cases h0 : p < 0
  · go_enter Tryd.func21, Tryd.ntmps21
    go_wp2
    go_ret
    exact ⟨rfl, rfl⟩
  · have h16 : 16 ≤ p := by omega
    go_enter Tryd.func21, Tryd.ntmps21
    go_wp2
    go_ret
    exact ⟨rfl, rfl⟩
theorem rclr_ok (w : World) (g cap c : Nat) (L : List Int) (k : Nat) (hk : k < 16) (hO : OwnB w g cap L) (hn : 512 ≤ L.length) :
    Calls Tryd.prog 21 #[.slice (some ⟨g, 0, none⟩) 512 c, .int .i64 k] w fun e w' => e = .returned (.int .i64 0) ∧ OwnB w' g cap (ov L (32 * k) 32 (fun _ => 0)) ∧ w.grownBy w' (some g) := by
  obtain ⟨o, E, hz⟩ := make32
  have hA : Below w.heap.size w (w.alloc o) := (Below.refl _ _).alloc (Nat.le_refl _) _
  have HL : Hid (Calls Tryd.prog 36 #[.slice (some ⟨g, 0, none⟩) 512 c, .int .i64 k, .slice (some ⟨w.heap.size, 0, none⟩) 32 32] (w.alloc o) fun e w' => e = .returned (.tuple #[]) ∧ OwnB w' g cap (ov L (32 * k) 32 (fun _ => 0)) ∧ w.grownBy w' (some g)) := by
    refine (laid_any (w.alloc o) g cap c w.heap.size 32 L z32 k hk (hO.on hA) hn (hz w).bytes (by simp) (by have := hO.lt; omega)).mono ?_
    rintro e w' ⟨rfl, h1, h2⟩
    have e1 : ov L (32 * k) 32 (nth z32) = ov L (32 * k) 32 (fun _ => 0) := by
      refine ext_nth (by rw [ov_length, ov_length]) (fun i hi => ?_)
      rw [ov_length] at hi
      rw [nth_ov _ _ _ _ _ hi, nth_ov _ _ _ _ _ hi]
      split
      · rw [nth_rep 32 0 _ (by omega)]
      · rfl
    rw [e1] at h1
    exact ⟨rfl, h1, grown_trans (grown_of hA _) h2⟩
  have hk' : (k : Int) < 16 := by omega
  clear hO hz hA
  go_enter Tryd.func21, Tryd.ntmps21
  go_wp2_with (first
    | (go_at_call 36; refine HL.out.mono ?_; rintro e w' ⟨rfl, h1⟩; have H1 : Hid _ := h1; clear h1))
  go_ret
  exact ⟨rfl, H1.out⟩
end Go.Proofs.YtaaeahpmnfifiaaDoor
