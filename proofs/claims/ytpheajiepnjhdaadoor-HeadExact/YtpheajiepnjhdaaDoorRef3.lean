import Derived.Test.YtpheajiepnjhdaaDoorRef2
import Derived.Test.YtpheajiepnjhdaaDoorFit
namespace Go.Proofs.YtpheajiepnjhdaaDoor
open Go.RowKit Rec
open Crc (W)

theorem rmay_split (ns : List Int) (n : Int) : rmay ns n = true ↔ (1 ≤ ns.length ∧ ns.length ≤ 96) ∧ may ns n = true := by
  simp only [rmay, Bool.and_eq_true, decide_eq_true_eq]
set_option maxRecDepth 100000 in
set_option maxHeartbeats 1600000 in
theorem rmake_no (w : World) (a da : Option Addr) (k nc m dc : Nat) (ns : List Int) (hn : ns.length = k) (hI : Ints w a ns) (h : rmay ns 16384 = false) :
    Calls Tryd.prog 17 #[.slice a k nc, .slice da m dc] w fun e w' => e = .returned (.tuple #[.slice none 0 0, .int .i64 40]) ∧ w = w' := by
  have H1 : Hid (Calls Tryd.prog 49 #[.slice a k nc, .int .i64 16384] w fun e w' => e = .returned (.bool false) ∧ w = w') := by
    have := rmay_any w a k nc ns 16384 hn hI
    rw [h] at this
    exact this
  clear hn hI h
  go_enter Tryd.func17, Tryd.ntmps17
  go_wp2_with (go_at_call 49; refine H1.out.mono ?_; rintro e w' ⟨rfl, rfl⟩)
  go_ret2
  exact ⟨rfl, rfl⟩
set_option maxRecDepth 100000 in
set_option maxHeartbeats 1600000 in
theorem rmake_size (w : World) (a da : Option Addr) (k nc m dc : Nat) (ns : List Int) (ds : List (List Int)) (hn : ns.length = k) (hm : ds.length = m) (hI : Ints w a ns) (hD : Data w da ds) (h : rmay ns 16384 = true) (hb : blk ds k = false) :
    Calls Tryd.prog 17 #[.slice a k nc, .slice da m dc] w fun e w' => e = .returned (.tuple #[.slice none 0 0, .int .i64 32]) ∧ w = w' := by
  have H1 : Hid (Calls Tryd.prog 49 #[.slice a k nc, .int .i64 16384] w fun e w' => e = .returned (.bool true) ∧ w = w') := by
    have := rmay_any w a k nc ns 16384 hn hI
    rw [h] at this
    exact this
  have H2 : Hid (Calls Tryd.prog 50 #[.slice da m dc, .int .i64 k] w fun e w' => e = .returned (.bool false) ∧ w = w') := by
    have := rblocks_any w da m dc k ds hm hD
    rw [hb] at this
    exact this
  clear hn hI h hm hD hb
  go_enter Tryd.func17, Tryd.ntmps17
  go_wp2_with (first
    | (go_at_call 49; refine H1.out.mono ?_; rintro e w' ⟨rfl, rfl⟩)
    | (go_at_call 50; refine H2.out.mono ?_; rintro e w' ⟨rfl, rfl⟩))
  go_ret2
  exact ⟨rfl, rfl⟩
set_option maxRecDepth 100000 in
set_option maxHeartbeats 1600000 in
theorem rmake_ok (w : World) (nb noff k nc db doff dc : Nat) (ns : List Int) (ds : List (List Int)) (hn : ns.length = k) (hI : Ints w (some ⟨nb, noff, none⟩) ns) (hD : Data w (some ⟨db, doff, none⟩) ds) (hy : rmay ns 16384 = true) (hb : blk ds k = true) :
    Calls Tryd.prog 17 #[.slice (some ⟨nb, noff, none⟩) k nc, .slice (some ⟨db, doff, none⟩) k dc] w fun e w' => ∃ g cap, e = .returned (.tuple #[.slice (some ⟨g, 0, none⟩) 512 cap, .int .i64 0]) ∧ OwnB w' g cap (made ns ds) ∧ w.heap.size ≤ g ∧ Below w.heap.size w w' := by
  have hs := (rmay_split ns 16384).1 hy
  rw [hn] at hs
  have hb' := hb
  simp only [blk, Bool.and_eq_true, decide_eq_true_eq] at hb'
  obtain ⟨hdl, hdb⟩ := hb'
  rw [mem_row] at hdb
  have hb0 : ∀ i, i < k → 0 ≤ nth ns i ∧ nth ns i < 4294967296 := fun i hi => by have := pre_bd ns _ hs.2 i (by omega); omega
  have H1 : Hid (Calls Tryd.prog 49 #[.slice (some ⟨nb, noff, none⟩) k nc, .int .i64 16384] w fun e w' => e = .returned (.bool true) ∧ w = w') := by
    have := rmay_any w _ k nc ns 16384 hn hI
    rw [hy] at this
    exact this
  have H2 : Hid (Calls Tryd.prog 50 #[.slice (some ⟨db, doff, none⟩) k dc, .int .i64 k] w fun e w' => e = .returned (.bool true) ∧ w = w') := by
    have := rblocks_any w _ k dc k ds hdl hD
    rw [hb] at this
    exact this
  have hsb := sumV_bd (hd ns 0) ds
  have H3 : Hid (Calls Tryd.prog 52 #[.slice (some ⟨nb, noff, none⟩) k nc, .slice (some ⟨db, doff, none⟩) k dc] w fun e w' => e = .returned (.int .u32 (sumV (hd ns 0) ds)) ∧ Below w.heap.size w w') := rsum_ok w nb noff k nc db doff dc ns ds hn hI hD hdl hs.1.2 hb0 (fun i hi => hdb i (by omega))
  have H4 : Hid (∀ wx, Below w.heap.size w wx → Calls Tryd.prog 51 #[.slice (some ⟨nb, noff, none⟩) k nc, .int .u32 (sumV (hd ns 0) ds)] wx fun e w' => ∃ g cap, e = .returned (.slice (some ⟨g, 0, none⟩) 512 cap) ∧ OwnB w' g cap (made ns ds) ∧ wx.heap.size ≤ g ∧ Below wx.heap.size wx w') := fun wx hx => laid_ok wx nb noff k nc ns _ hn (hI.on hx) hs.1.2 hb0 hsb
  clear hn hI hD hy hb hs hdl hdb hb0
  generalize sumV (hd ns 0) ds = s at *
  go_enter Tryd.func17, Tryd.ntmps17
  go_wp2_with (first
    | (go_at_call 49; refine H1.out.mono ?_; rintro e w' ⟨rfl, rfl⟩)
    | (go_at_call 50; refine H2.out.mono ?_; rintro e w' ⟨rfl, rfl⟩)
    | (go_at_call 52; refine H3.out.mono ?_; rintro e w1 ⟨rfl, hb⟩; have B1 : Hid (Below w.heap.size w w1) := hb; clear hb)
    | (go_at_call 51; refine (H4.out _ B1.out).mono ?_; rintro e w2 ⟨g, cap, rfl, ho, hg, hb⟩; have B2 : Hid (OwnB w2 g cap (made ns ds) ∧ w.heap.size ≤ g ∧ Below w.heap.size w w2) := ⟨ho, Nat.le_trans B1.out.size hg, B1.out.trans (hb.mono B1.out.size)⟩; clear ho hg hb))
  go_ret2
  exact ⟨g, cap, rfl, B2.out.1, B2.out.2.1, B2.out.2.2⟩
/-- the reference's Make -/
theorem rmake_any (w : World) (a da : Option Addr) (k nc m dc : Nat) (ns : List Int) (ds : List (List Int)) (hn : ns.length = k) (hm : ds.length = m) (hI : Ints w a ns) (hD : Data w da ds) :
    Calls Tryd.prog 17 #[.slice a k nc, .slice da m dc] w fun e w' => ∃ v, e = .returned (.tuple #[v, .int .i64 (makeE ns ds)]) ∧ ((makeE ns ds ≠ 0 ∧ v = .slice none 0 0) ∨ (makeE ns ds = 0 ∧ ∃ g cap, v = .slice (some ⟨g, 0, none⟩) 512 cap ∧ OwnB w' g cap (made ns ds) ∧ w.heap.size ≤ g)) ∧ Below w.heap.size w w' := by
  by_cases h : rmay ns 16384 = true
  · have hs := (rmay_split ns 16384).1 h
    cases hb : blk ds k with
    | true =>
      have e : makeE ns ds = 0 := by unfold makeE; rw [if_pos hs, hn, hb]; rfl
      have hb' := hb
      simp only [blk, Bool.and_eq_true, decide_eq_true_eq] at hb'
      obtain rfl : m = k := by rw [← hm, hb'.1]
      obtain ⟨nb, noff, rfl⟩ := hI.some (by omega)
      obtain ⟨db, doff, rfl⟩ := hD.some (by omega)
      refine (rmake_ok w nb noff m nc db doff dc ns ds hn hI hD h hb).mono ?_
      rintro _ w' ⟨g, cap, rfl, h1, h2, h3⟩
      exact ⟨_, by rw [e], .inr ⟨e, g, cap, rfl, h1, h2⟩, h3⟩
    | false =>
      have e : makeE ns ds = 32 := by unfold makeE; rw [if_pos hs, hn, hb]; rfl
      refine (rmake_size w a da k nc m dc ns ds hn hm hI hD h hb).mono ?_
      rintro _ w' ⟨rfl, rfl⟩
      exact ⟨_, by rw [e], .inl ⟨by rw [e]; decide, rfl⟩, Below.refl _ _⟩
  · have h' : rmay ns 16384 = false := by simpa using h
    have e : makeE ns ds = 40 := by unfold makeE; rw [if_neg (fun c => h ((rmay_split ns 16384).2 c))]
    refine (rmake_no w a da k nc m dc ns hn hI h').mono ?_
    rintro _ w' ⟨rfl, rfl⟩
    exact ⟨_, by rw [e], .inl ⟨by rw [e]; decide, rfl⟩, Below.refl _ _⟩
end Go.Proofs.YtpheajiepnjhdaaDoor
