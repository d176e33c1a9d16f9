import Derived.Test.YtcbebalakdkgnaaGreatDoorKKit
namespace Go.Proofs.YtcbebalakdkgnaaGreatDoor
open Go.RowKit Rec

theorem Ints.some {w : World} {a : Option Addr} {l : List Int} (h : Ints w a l) (h0 : 0 < l.length) : ∃ b off, a = some ⟨b, off, none⟩ := by
  rcases h.at_ with e | ⟨b, off, e, _⟩
  · subst e; simp at h0
  · exact ⟨b, off, e⟩
theorem Data.some {w : World} {a : Option Addr} {l : List (List Int)} (h : Data w a l) (h0 : 0 < l.length) : ∃ b off, a = some ⟨b, off, none⟩ := by
  rcases h.at_ with e | ⟨b, off, e, _⟩
  · subst e; simp at h0
  · exact ⟨b, off, e⟩
theorem Bytes.some {w : World} {a : Option Addr} {l : List Int} (h : Bytes w a l) (h0 : 0 < l.length) : ∃ b off, a = some ⟨b, off, none⟩ := by
  rcases h.at_ with e | ⟨b, off, e, _⟩
  · subst e; simp at h0
  · exact ⟨b, off, e⟩
theorem has_of {v : Int} (W : Nat) (h : v < 256 ^ W) : has v W = true := decide_eq_true (by simpa using h)

set_option maxRecDepth 100000 in
set_option maxHeartbeats 3200000 in
theorem make_ok (w : World) (nb noff k nc db doff dc : Nat) (ns : List Int) (ds : List (List Int)) (hn : ns.length = k) (hI : Ints w (some ⟨nb, noff, none⟩) ns) (hD : Data w (some ⟨db, doff, none⟩) ds) (hT : TabAt w)
    (hk1 : 1 ≤ k) (hk96 : k ≤ 96) (hm : may ns 16384 = true) (hb : blk ds k = true) :
    Calls Tryz.prog 86 #[.slice (some ⟨nb, noff, none⟩) k nc, .slice (some ⟨db, doff, none⟩) k dc] w fun e w' => ∃ g, e = .returned (.tuple #[.slice (some ⟨g, 0, none⟩) 512 512, .int .i64 0]) ∧ OwnB w' g 512 (made ns ds) ∧ w.heap.size ≤ g ∧ Below w.heap.size w w' := by
  have hb' := hb
  simp only [blk, Bool.and_eq_true, decide_eq_true_eq] at hb'
  obtain ⟨hdl, hdb⟩ := hb'
  rw [mem_row] at hdb
  have H1 : Hid (Calls Tryz.prog 105 #[.slice (some ⟨nb, noff, none⟩) k nc, .int .i64 16384] w fun e w' => e = .returned (.bool true) ∧ Below w.heap.size w w') := by
    have := mayBe_any w _ k nc ns 16384 hn hI
    rw [hm] at this
    exact this
  have H2 : Hid (∀ wx, Below w.heap.size w wx → Calls Tryz.prog 106 #[.slice (some ⟨db, doff, none⟩) k dc, .int .i64 k] wx fun e w' => e = .returned (.bool true) ∧ wx = w') := fun wx hx => by
    have := areBlocks_any wx _ k dc k ds hdl (hD.on hx)
    rw [hb] at this
    exact this
  have HT : Hid (∀ wx, Below w.heap.size w wx → TabAt wx) := fun wx hx => hT.on hx
  have HI : Hid (∀ wx, Below w.heap.size w wx → ∀ j, j < k → wx.cell? ⟨nb, noff + j, none⟩ = some (.int .i64 (nth ns j))) := fun wx hx j hj => (hI.on hx).cell (by omega)
  have HV : Hid (∀ j, j < k → 98 ≤ nth ns j ∧ nth ns j < 16384) := fun j hj => pre_bd ns _ hm j (by omega)
  have HN : Hid (ns.length = k) := hn
  have HS : Hid (∀ wx, Below w.heap.size w wx → ∀ g, OwnB wx g 512 (hd ns 0) → ∃ s : Int, (s = sumV (hd ns 0) ds ∧ 0 ≤ s ∧ s < 4294967296) ∧ Calls Tryz.prog 110 #[.slice (some ⟨g, 0, none⟩) 512 512, .slice (some ⟨db, doff, none⟩) k dc] wx fun e w' => e = .returned (.int .u32 s) ∧ Below wx.heap.size wx w') := fun wx hx g ho =>
    ⟨_, ⟨rfl, sumV_bd _ _⟩, sumOf_some wx g 0 512 db doff k dc (hd ns 0) ds (hd_length _ _) ho.bytes (hT.on hx) (hD.on hx) hdl hk96 (fun i hi => hdb i (by omega))⟩
  clear hn hI hD hT hm hb hdl hdb
  go_enter Tryz.func86, Tryz.ntmps86
  go_wp2_with (first
    | (go_at_call 104; refine (isCount_any _ _).mono ?_; rintro e w' ⟨rfl, rfl⟩; rw [decide_eq_true (show (1 : Int) ≤ (k : Int) by omega), decide_eq_true (show (k : Int) ≤ 96 by omega)])
    | (go_at_call 105; refine H1.out.mono ?_; rintro e w1 ⟨rfl, hb⟩; have HB1 : Hid (Below w.heap.size w w1) := hb; clear hb)
    | (go_at_call 106; refine (H2.out _ HB1.out).mono ?_; rintro e w' ⟨rfl, rfl⟩)
    | (go_at_call 91; refine (empty_any _).mono ?_; rintro e w2 ⟨g, rfl, ho, hg, hb⟩; have H3 : Hid (OwnB w2 g 512 zs ∧ w.heap.size ≤ g ∧ Below w.heap.size w w2) := ⟨ho, Nat.le_trans HB1.out.size hg, HB1.out.trans (hb.mono HB1.out.size)⟩; clear ho hg hb)
    | (go_at_call 107; refine (ptx_in _ g 512 512 512 0 8 magS zs H3.out.1 (by rw [zs_length]; omega) (by omega) (by omega) (by decide) (by decide)).mono ?_; rintro e w3 ⟨rfl, ho, hb⟩; have H4 : Hid (OwnB w3 g 512 (ov zs 0 8 (nth mag)) ∧ Below w.heap.size w w3) := ⟨by rw [← magS_nums]; exact ho, H3.out.2.2.trans (below_of hb H3.out.2.1 H3.out.2.2.size)⟩; clear ho hb)
    | (go_at_call 108; refine (put_in _ g 512 512 512 8 2 k _ H4.out.1 (by rw [ov_length, zs_length]; omega) (by omega) (HT.out _ H4.out.2) (by omega) rfl (has_of 2 (show (k : Int) < 65536 by omega)) (by omega)).mono ?_; rintro e w4 ⟨rfl, ho, hb⟩; have H5 : Hid (OwnB w4 g 512 (hp ns 0) ∧ Below w.heap.size w w4) := ⟨by rw [← hp_zero, HN.out]; exact ho, H4.out.2.trans (below_of hb H3.out.2.1 H4.out.2.size)⟩; clear ho hb))
  go_loopw [33] (fun i wr => ∃ j : Nat, j ≤ k ∧ i = .int .i64 j ∧ OwnB wr g 512 (hp ns j) ∧ Below w.heap.size w wr) (fun i _ => k - (intOf i).toNat)
  case atStart => exact ⟨0, Nat.zero_le _, rfl, H5.out.1, H5.out.2⟩
  case round =>
    obtain ⟨j, hj, rfl, ho, hb⟩ := hrel
    have H6 : Hid (OwnB wr g 512 (hp ns j) ∧ Below w.heap.size w wr) := ⟨ho, hb⟩
    clear ho hb
    by_cases hlt : j < k
    · have c1 := HI.out _ H6.out.2 j hlt
      have b1 := HV.out j hlt
      go_wp2_with (first
        | (go_at_call 109; refine (numAt_any _ j (by omega)).mono ?_; rintro e w' ⟨rfl, rfl⟩)
        | (go_at_call 108; refine (put_in _ g 512 512 512 (16 + 4 * j) 4 (nth ns j) _ H6.out.1 (by rw [hp_length]; omega) (by omega) (HT.out _ H6.out.2) (by omega) rfl (has_of 4 (show nth ns j < 4294967296 by omega)) (by omega)).mono ?_; rintro e w5 ⟨rfl, ho, hb⟩; have H7 : Hid (OwnB w5 g 512 (hp ns (j + 1)) ∧ Below w.heap.size w w5) := ⟨by rw [← hp_succ ns j (by rw [HN.out]; exact hlt) (by rw [HN.out]; exact hk96)]; exact ho, H6.out.2.trans (below_of hb H3.out.2.1 H6.out.2.size)⟩; clear ho hb))
      go_round
      case rel => exact ⟨j + 1, by omega, by go_num, H7.out.1, H7.out.2⟩
      case measure => simp [intOf]; omega
    · obtain rfl : j = k := by omega
      have H8 : Hid (OwnB wr g 512 (hd ns 0)) := by rw [← hp_all, HN.out]; exact H6.out.1
      obtain ⟨s, ⟨hs, s0, s1⟩, hcs⟩ := HS.out _ H6.out.2 g H8.out
      have HC : Hid (Calls Tryz.prog 110 #[.slice (some ⟨g, 0, none⟩) 512 512, .slice (some ⟨db, doff, none⟩) j dc] wr fun e w' => e = .returned (.int .u32 s) ∧ Below wr.heap.size wr w') := hcs
      have HE : Hid (s = sumV (hd ns 0) ds) := hs
      clear hs hcs
      go_wp2_with (first
        | (go_at_call 110; refine HC.out.mono ?_; rintro e w6 ⟨rfl, hb⟩; have H9 : Hid (OwnB w6 g 512 (hd ns 0) ∧ Below w.heap.size w w6) := ⟨H8.out.on hb, H6.out.2.trans (hb.mono H6.out.2.size)⟩; clear hb)
        | (go_at_call 108; refine (put_in _ g 512 512 512 12 4 s _ H9.out.1 (by rw [hd_length]; omega) (by omega) (HT.out _ H9.out.2) (by omega) rfl (has_of 4 (show s < 4294967296 by omega)) (by omega)).mono ?_; rintro e w7 ⟨rfl, ho, hb⟩; have H10 : Hid (OwnB w7 g 512 (hd ns s) ∧ Below w.heap.size w w7) := ⟨by rw [← hd_put ns 0 s]; exact ho, H9.out.2.trans (below_of hb H3.out.2.1 H9.out.2.size)⟩; clear ho hb))
      go_ret2
      exact ⟨g, rfl, by unfold made; rw [← HE.out]; exact H10.out.1, H3.out.2.1, H10.out.2⟩
set_option maxRecDepth 100000 in
set_option maxHeartbeats 1600000 in
theorem make_nums (w : World) (a da : Option Addr) (k nc m dc : Nat) (ns : List Int) (hn : ns.length = k) (hI : Ints w a ns) (h : ¬ ((1 ≤ k ∧ k ≤ 96) ∧ may ns 16384 = true)) :
    Calls Tryz.prog 86 #[.slice a k nc, .slice da m dc] w fun e w' => e = .returned (.tuple #[.slice none 0 0, .int .i64 40]) ∧ Below w.heap.size w w' := by
  have H1 : Hid (Calls Tryz.prog 105 #[.slice a k nc, .int .i64 16384] w fun e w' => e = .returned (.bool (may ns 16384)) ∧ Below w.heap.size w w') := mayBe_any w _ k nc ns 16384 hn hI
  by_cases hc : 1 ≤ k ∧ k ≤ 96
  · have hm : may ns 16384 = false := by
      cases e : may ns 16384
      · rfl
      · exact absurd ⟨hc, e⟩ h
    rw [hm] at H1
    clear hm h hI hn
    go_enter Tryz.func86, Tryz.ntmps86
    go_wp2_with (first
      | (go_at_call 104; refine (isCount_any _ _).mono ?_; rintro e w' ⟨rfl, rfl⟩; rw [decide_eq_true (show (1 : Int) ≤ (k : Int) by omega), decide_eq_true (show (k : Int) ≤ 96 by omega)])
      | (go_at_call 105; refine H1.out.mono ?_; rintro e w1 ⟨rfl, hb⟩; have HB1 : Hid (Below w.heap.size w w1) := hb; clear hb))
    go_ret2
    exact ⟨rfl, HB1.out⟩
  · have e : (decide ((1 : Int) ≤ (k : Int)) && decide ((k : Int) ≤ 96)) = false := by
      rw [Bool.eq_false_iff]; intro e
      simp only [Bool.and_eq_true, decide_eq_true_eq] at e
      omega
    have HE : Hid ((decide ((1 : Int) ≤ (k : Int)) && decide ((k : Int) ≤ 96)) = false) := e
    clear h hI hn hc e
    go_enter Tryz.func86, Tryz.ntmps86
    go_wp2_with (go_at_call 104; refine (isCount_any _ _).mono ?_; rintro e w' ⟨rfl, rfl⟩; rw [HE.out])
    go_ret2
    exact ⟨rfl, Below.refl _ _⟩
set_option maxRecDepth 100000 in
set_option maxHeartbeats 1600000 in
theorem make_size (w : World) (a da : Option Addr) (k nc m dc : Nat) (ns : List Int) (ds : List (List Int)) (hn : ns.length = k) (hm : ds.length = m) (hI : Ints w a ns) (hD : Data w da ds) (hc : 1 ≤ k ∧ k ≤ 96) (hy : may ns 16384 = true) (hb : blk ds k = false) :
    Calls Tryz.prog 86 #[.slice a k nc, .slice da m dc] w fun e w' => e = .returned (.tuple #[.slice none 0 0, .int .i64 32]) ∧ Below w.heap.size w w' := by
  have H1 : Hid (Calls Tryz.prog 105 #[.slice a k nc, .int .i64 16384] w fun e w' => e = .returned (.bool true) ∧ Below w.heap.size w w') := by
    have := mayBe_any w _ k nc ns 16384 hn hI
    rw [hy] at this
    exact this
  have H2 : Hid (∀ wx, Below w.heap.size w wx → Calls Tryz.prog 106 #[.slice da m dc, .int .i64 k] wx fun e w' => e = .returned (.bool false) ∧ wx = w') := fun wx hx => by
    have := areBlocks_any wx _ m dc k ds hm (hD.on hx)
    rw [hb] at this
    exact this
  clear hI hD hy hb hn hm
  go_enter Tryz.func86, Tryz.ntmps86
  go_wp2_with (first
    | (go_at_call 104; refine (isCount_any _ _).mono ?_; rintro e w' ⟨rfl, rfl⟩; rw [decide_eq_true (show (1 : Int) ≤ (k : Int) by omega), decide_eq_true (show (k : Int) ≤ 96 by omega)])
    | (go_at_call 105; refine H1.out.mono ?_; rintro e w1 ⟨rfl, hb⟩; have HB1 : Hid (Below w.heap.size w w1) := hb; clear hb)
    | (go_at_call 106; refine (H2.out _ HB1.out).mono ?_; rintro e w' ⟨rfl, rfl⟩))
  go_ret2
  exact ⟨rfl, HB1.out⟩
/-- Make: P4.1 -/
theorem make_any (w : World) (a da : Option Addr) (k nc m dc : Nat) (ns : List Int) (ds : List (List Int)) (hn : ns.length = k) (hm : ds.length = m) (hI : Ints w a ns) (hD : Data w da ds) (hT : TabAt w) :
    Calls Tryz.prog 86 #[.slice a k nc, .slice da m dc] w fun e w' => ∃ v, e = .returned (.tuple #[v, .int .i64 (makeE ns ds)]) ∧ ((makeE ns ds ≠ 0 ∧ v = .slice none 0 0) ∨ (makeE ns ds = 0 ∧ ∃ g, v = .slice (some ⟨g, 0, none⟩) 512 512 ∧ OwnB w' g 512 (made ns ds) ∧ w.heap.size ≤ g)) ∧ Below w.heap.size w w' := by
  by_cases h : (1 ≤ k ∧ k ≤ 96) ∧ may ns 16384 = true
  · cases hb : blk ds k with
    | true =>
      have e : makeE ns ds = 0 := by unfold makeE; rw [hn, if_pos h, hb]; rfl
      have hb' := hb
      simp only [blk, Bool.and_eq_true, decide_eq_true_eq] at hb'
      obtain rfl : m = k := by rw [← hm, hb'.1]
      obtain ⟨nb, noff, rfl⟩ := hI.some (by omega)
      obtain ⟨db, doff, rfl⟩ := hD.some (by omega)
      refine (make_ok w nb noff m nc db doff dc ns ds hn hI hD hT h.1.1 h.1.2 h.2 hb).mono ?_
      rintro _ w' ⟨g, rfl, h1, h2, h3⟩
      exact ⟨_, by rw [e], .inr ⟨e, g, rfl, h1, h2⟩, h3⟩
    | false =>
      have e : makeE ns ds = 32 := by unfold makeE; rw [hn, if_pos h, hb]; rfl
      refine (make_size w a da k nc m dc ns ds hn hm hI hD h.1 h.2 hb).mono ?_
      rintro _ w' ⟨rfl, h3⟩
      exact ⟨_, by rw [e], .inl ⟨by rw [e]; decide, rfl⟩, h3⟩
  · have e : makeE ns ds = 40 := by unfold makeE; rw [hn, if_neg h]
    refine (make_nums w a da k nc m dc ns hn hI h).mono ?_
    rintro _ w' ⟨rfl, h3⟩
    exact ⟨_, by rw [e], .inl ⟨by rw [e]; decide, rfl⟩, h3⟩
end Go.Proofs.YtcbebalakdkgnaaGreatDoor

namespace Go.Proofs.YtcbebalakdkgnaaGreatDoor
open Go.RowKit Rec

/-- what Nums hands back -/
def NumsAt (w w' : World) (v : Value) (l : List Int) : Prop := (l = [] ∧ v = .slice none 0 0) ∨ ∃ g cap, v = .slice (some ⟨g, 0, none⟩) l.length cap ∧ OwnI w' g cap l ∧ w.heap.size ≤ g

set_option maxRecDepth 100000 in
set_option maxHeartbeats 1600000 in
theorem nums_size (w : World) (a : Option Addr) (k c : Nat) (n : Int) (hk : k ≠ 512) :
    Calls Tryz.prog 97 #[.slice a k c, .int .i64 n] w fun e w' => e = .returned (.tuple #[.slice none 0 0, .int .i64 32]) ∧ w = w' := by
  go_enter Tryz.func97, Tryz.ntmps97
  go_wp2_with (go_at_call 116; refine (notBlock_any _ _ _ _).mono ?_; rintro e w' ⟨rfl, rfl⟩; rw [decide_eq_true hk])
  go_ret2
  exact ⟨rfl, rfl⟩
set_option maxRecDepth 100000 in
set_option maxHeartbeats 1600000 in
theorem nums_zero (w : World) (b off c : Nat) (h : List Int) (n : Int) (hn : h.length = 512) (hO : Bytes w (some ⟨b, off, none⟩) h) (hc : 512 ≤ c) (hz : zr h 0 512 = true) :
    Calls Tryz.prog 97 #[.slice (some ⟨b, off, none⟩) 512 c, .int .i64 n] w fun e w' => e = .returned (.tuple #[.slice none 0 0, .int .i64 0]) ∧ w = w' := by
  have H1 : Hid (Calls Tryz.prog 117 #[.slice (some ⟨b, off, none⟩) 512 c, .int .i64 (0 : Nat)] w fun e w' => e = .returned (.bool true) ∧ w = w') := by
    have := zeroFrom_any w b off c 0 h hn hO hc (by omega)
    rw [Nat.sub_zero, hz] at this
    exact this
  clear hn hO hz
  go_enter Tryz.func97, Tryz.ntmps97
  go_wp2_with (first
    | (go_at_call 116; refine (notBlock_any _ _ _ _).mono ?_; rintro e w' ⟨rfl, rfl⟩)
    | (go_at_call 117; refine H1.out.mono ?_; rintro e w' ⟨rfl, rfl⟩))
  go_ret2
  exact ⟨rfl, rfl⟩
set_option maxRecDepth 100000 in
set_option maxHeartbeats 1600000 in
theorem nums_form (w : World) (b off c : Nat) (h : List Int) (n : Int) (hn : h.length = 512) (hO : Bytes w (some ⟨b, off, none⟩) h) (hc : 512 ≤ c) (hT : TabAt w) (hz : zr h 0 512 = false) (hf : form h = false) :
    Calls Tryz.prog 97 #[.slice (some ⟨b, off, none⟩) 512 c, .int .i64 n] w fun e w' => e = .returned (.tuple #[.slice none 0 0, .int .i64 41]) ∧ w = w' := by
  have H1 : Hid (Calls Tryz.prog 117 #[.slice (some ⟨b, off, none⟩) 512 c, .int .i64 (0 : Nat)] w fun e w' => e = .returned (.bool false) ∧ w = w') := by
    have := zeroFrom_any w b off c 0 h hn hO hc (by omega)
    rw [Nat.sub_zero, hz] at this
    exact this
  have H2 : Hid (Calls Tryz.prog 118 #[.slice (some ⟨b, off, none⟩) 512 c] w fun e w' => e = .returned (.tuple #[.int .i64 (cnt h), .bool false]) ∧ w = w') := by
    have := countOf_any w b off c h hn hO hc hT
    rw [hf] at this
    exact this
  clear hn hO hz hf hT
  go_enter Tryz.func97, Tryz.ntmps97
  go_wp2_with (first
    | (go_at_call 116; refine (notBlock_any _ _ _ _).mono ?_; rintro e w' ⟨rfl, rfl⟩)
    | (go_at_call 117; refine H1.out.mono ?_; rintro e w' ⟨rfl, rfl⟩)
    | (go_at_call 118; refine H2.out.mono ?_; rintro e w' ⟨rfl, rfl⟩))
  go_ret2
  exact ⟨rfl, rfl⟩
set_option maxRecDepth 100000 in
set_option maxHeartbeats 1600000 in
theorem nums_in (w : World) (b off c K : Nat) (h : List Int) (n : Int) (y z : Bool) (hn : h.length = 512) (hO : Bytes w (some ⟨b, off, none⟩) h) (hc : 512 ≤ c) (hT : TabAt w) (hz : zr h 0 512 = false) (hf : form h = true) (hK : cnt h = K) (hK96 : K ≤ 96)
    (hy : may (nsOf h) n = y) (hz2 : zr h (16 + 4 * K) (512 - (16 + 4 * K)) = z) :
    Calls Tryz.prog 97 #[.slice (some ⟨b, off, none⟩) 512 c, .int .i64 n] w fun e w' => ((y && z) = true → ∃ g cap, e = .returned (.tuple #[.slice (some ⟨g, 0, none⟩) K cap, .int .i64 0]) ∧ OwnI w' g cap (nsOf h) ∧ w.heap.size ≤ g) ∧ ((y && z) = false → e = .returned (.tuple #[.slice none 0 0, .int .i64 41])) ∧ Below w.heap.size w w' := by
  have H1 : Hid (Calls Tryz.prog 117 #[.slice (some ⟨b, off, none⟩) 512 c, .int .i64 (0 : Nat)] w fun e w' => e = .returned (.bool false) ∧ w = w') := by
    have := zeroFrom_any w b off c 0 h hn hO hc (by omega)
    rw [Nat.sub_zero, hz] at this
    exact this
  have H2 : Hid (Calls Tryz.prog 118 #[.slice (some ⟨b, off, none⟩) 512 c] w fun e w' => e = .returned (.tuple #[.int .i64 K, .bool true]) ∧ w = w') := by
    have := countOf_any w b off c h hn hO hc hT
    rw [hf, hK] at this
    exact this
  have H3 : Hid (Calls Tryz.prog 119 #[.slice (some ⟨b, off, none⟩) 512 c, .int .i64 K] w fun e w' => ∃ g cap, e = .returned (.slice (some ⟨g, 0, none⟩) K cap) ∧ OwnI w' g cap (nsOf h) ∧ w.heap.size ≤ g ∧ Below w.heap.size w w') := by
    have := numsOf_any w b off c K h hn hO hc hT hK96
    subst hK
    rw [upd_all] at this
    exact this
  have HKl : Hid ((nsOf h).length = K) := by show _ = _; rw [← hK]; simp [nsOf]
  have H4 : Hid (∀ wx g cap, OwnI wx g cap (nsOf h) → Calls Tryz.prog 105 #[.slice (some ⟨g, 0, none⟩) K cap, .int .i64 n] wx fun e w' => e = .returned (.bool y) ∧ Below wx.heap.size wx w') := fun wx g cap ho => by
    have := mayBe_any wx _ K cap (nsOf h) n HKl.out ho.ints
    rw [hy] at this
    exact this
  have H5 : Hid (∀ wx, Below w.heap.size w wx → Calls Tryz.prog 117 #[.slice (some ⟨b, off, none⟩) 512 c, .int .i64 ((16 + 4 * K : Nat) : Int)] wx fun e w' => e = .returned (.bool z) ∧ wx = w') := fun wx hx => by
    have := zeroFrom_any wx b off c (16 + 4 * K) h hn (hO.on hx) hc (by omega)
    rw [hz2] at this
    exact this
  clear hn hO hz hf hT hy hz2 hK
  cases y with
  | true =>
    cases z with
    | true =>
      go_enter Tryz.func97, Tryz.ntmps97
      go_wp2_with (first
        | (go_at_call 116; refine (notBlock_any _ _ _ _).mono ?_; rintro e w' ⟨rfl, rfl⟩)
        | (go_at_call 117; refine (H5.out _ H7.out.2).mono ?_; rintro e w' ⟨rfl, rfl⟩)
        | (go_at_call 117; refine H1.out.mono ?_; rintro e w' ⟨rfl, rfl⟩)
        | (go_at_call 118; refine H2.out.mono ?_; rintro e w' ⟨rfl, rfl⟩)
        | (go_at_call 119; refine H3.out.mono ?_; rintro e w1 ⟨g, cap, rfl, ho, hg, hb⟩; have H6 : Hid (OwnI w1 g cap (nsOf h) ∧ w.heap.size ≤ g ∧ Below w.heap.size w w1) := ⟨ho, hg, hb⟩; clear ho hg hb)
        | (go_at_call 105; refine (H4.out _ g cap H6.out.1).mono ?_; rintro e w2 ⟨rfl, hb⟩; have H7 : Hid (OwnI w2 g cap (nsOf h) ∧ Below w.heap.size w w2) := ⟨H6.out.1.on hb, H6.out.2.2.trans (hb.mono H6.out.2.2.size)⟩; clear hb)
        | (go_at_call 109; refine (numAt_any _ K (by omega)).mono ?_; rintro e w' ⟨rfl, rfl⟩)
        | fail)
      go_ret2
      exact ⟨fun _ => ⟨g, cap, rfl, H7.out.1, H6.out.2.1⟩, (fun e => by cases e), H7.out.2⟩
    | false =>
      go_enter Tryz.func97, Tryz.ntmps97
      go_wp2_with (first
        | (go_at_call 116; refine (notBlock_any _ _ _ _).mono ?_; rintro e w' ⟨rfl, rfl⟩)
        | (go_at_call 117; refine (H5.out _ H7.out.2).mono ?_; rintro e w' ⟨rfl, rfl⟩)
        | (go_at_call 117; refine H1.out.mono ?_; rintro e w' ⟨rfl, rfl⟩)
        | (go_at_call 118; refine H2.out.mono ?_; rintro e w' ⟨rfl, rfl⟩)
        | (go_at_call 119; refine H3.out.mono ?_; rintro e w1 ⟨g, cap, rfl, ho, hg, hb⟩; have H6 : Hid (OwnI w1 g cap (nsOf h) ∧ w.heap.size ≤ g ∧ Below w.heap.size w w1) := ⟨ho, hg, hb⟩; clear ho hg hb)
        | (go_at_call 105; refine (H4.out _ g cap H6.out.1).mono ?_; rintro e w2 ⟨rfl, hb⟩; have H7 : Hid (OwnI w2 g cap (nsOf h) ∧ Below w.heap.size w w2) := ⟨H6.out.1.on hb, H6.out.2.2.trans (hb.mono H6.out.2.2.size)⟩; clear hb)
        | (go_at_call 109; refine (numAt_any _ K (by omega)).mono ?_; rintro e w' ⟨rfl, rfl⟩)
        | fail)
      go_ret2
      exact ⟨(fun e => by cases e), fun _ => rfl, H7.out.2⟩
  | false =>
    go_enter Tryz.func97, Tryz.ntmps97
    go_wp2_with (first
      | (go_at_call 116; refine (notBlock_any _ _ _ _).mono ?_; rintro e w' ⟨rfl, rfl⟩)
      | (go_at_call 117; refine (H5.out _ H7.out.2).mono ?_; rintro e w' ⟨rfl, rfl⟩)
      | (go_at_call 117; refine H1.out.mono ?_; rintro e w' ⟨rfl, rfl⟩)
      | (go_at_call 118; refine H2.out.mono ?_; rintro e w' ⟨rfl, rfl⟩)
      | (go_at_call 119; refine H3.out.mono ?_; rintro e w1 ⟨g, cap, rfl, ho, hg, hb⟩; have H6 : Hid (OwnI w1 g cap (nsOf h) ∧ w.heap.size ≤ g ∧ Below w.heap.size w w1) := ⟨ho, hg, hb⟩; clear ho hg hb)
      | (go_at_call 105; refine (H4.out _ g cap H6.out.1).mono ?_; rintro e w2 ⟨rfl, hb⟩; have H7 : Hid (OwnI w2 g cap (nsOf h) ∧ Below w.heap.size w w2) := ⟨H6.out.1.on hb, H6.out.2.2.trans (hb.mono H6.out.2.2.size)⟩; clear hb))
    go_ret2
    exact ⟨(fun e => by cases e), fun _ => rfl, H7.out.2⟩
/-- Nums: P4.2 -/
theorem nums_any (w : World) (a : Option Addr) (k c : Nat) (h : List Int) (n : Int) (hn : h.length = k) (hO : Bytes w a h) (hc : k ≤ c) (hT : TabAt w) :
    Calls Tryz.prog 97 #[.slice a k c, .int .i64 n] w fun e w' => ∃ v, e = .returned (.tuple #[v, .int .i64 (numsE h n)]) ∧ NumsAt w w' v (numsL h n) ∧ Below w.heap.size w w' := by
  by_cases hk : k = 512
  · subst hk
    obtain ⟨b, off, rfl⟩ := hO.some (by omega)
    cases hz : zr h 0 512 with
    | true =>
      have e1 : numsE h n = 0 := by unfold numsE; rw [if_pos hn, hz]; rfl
      have e2 : numsL h n = [] := by unfold numsL; rw [if_neg (by rw [hz]; simp)]
      refine (nums_zero w b off c h n hn hO hc hz).mono ?_
      rintro e w' ⟨rfl, rfl⟩
      exact ⟨_, by rw [e1], .inl ⟨e2, rfl⟩, Below.refl _ _⟩
    | false =>
      cases hf : form h with
      | false =>
        have e0 : isH h n = false := by unfold isH; rw [hf]; rfl
        have e1 : numsE h n = 41 := by unfold numsE; rw [if_pos hn, hz, e0]; rfl
        have e2 : numsL h n = [] := by unfold numsL; rw [if_neg (by rw [e0]; simp)]
        refine (nums_form w b off c h n hn hO hc hT hz hf).mono ?_
        rintro e w' ⟨rfl, rfl⟩
        exact ⟨_, by rw [e1], .inl ⟨e2, rfl⟩, Below.refl _ _⟩
      | true =>
        have hf' := hf
        simp only [form, Bool.and_eq_true, decide_eq_true_eq] at hf'
        refine (nums_in w b off c (cnt h) h n _ _ hn hO hc hT hz hf rfl hf'.2.2 rfl rfl).mono ?_
        rintro e w' ⟨h1, h2, h3⟩
        cases hy : (may (nsOf h) n && zr h (16 + 4 * cnt h) (512 - (16 + 4 * cnt h))) with
        | true =>
          have e0 : isH h n = true := by unfold isH; rw [hf, Bool.true_and]; exact hy
          have e1 : numsE h n = 0 := by unfold numsE; rw [if_pos hn, hz, e0]; rfl
          have e2 : numsL h n = nsOf h := by unfold numsL; rw [if_pos ⟨hn, hz, e0⟩]
          obtain ⟨g, cap, rfl, h4, h5⟩ := h1 hy
          have hl : (nsOf h).length = cnt h := by simp [nsOf]
          exact ⟨_, by rw [e1], .inr ⟨g, cap, by rw [e2, hl], by rw [e2]; exact h4, h5⟩, h3⟩
        | false =>
          have e0 : isH h n = false := by unfold isH; rw [hf, Bool.true_and]; exact hy
          have e1 : numsE h n = 41 := by unfold numsE; rw [if_pos hn, hz, e0]; rfl
          have e2 : numsL h n = [] := by unfold numsL; rw [if_neg (by rw [e0]; simp)]
          have := h2 hy
          subst this
          exact ⟨_, by rw [e1], .inl ⟨e2, rfl⟩, h3⟩
  · have e1 : numsE h n = 32 := by unfold numsE; rw [if_neg (by omega)]
    have e2 : numsL h n = [] := by unfold numsL; rw [if_neg (by omega)]
    refine (nums_size w a k c n hk).mono ?_
    rintro e w' ⟨rfl, rfl⟩
    exact ⟨_, by rw [e1], .inl ⟨e2, rfl⟩, Below.refl _ _⟩

set_option maxRecDepth 100000 in
set_option maxHeartbeats 1600000 in
theorem good_none (w : World) (a da : Option Addr) (k c m dc : Nat) (h : List Int) (n : Int) (hn : h.length = k) (hO : Bytes w a h) (hc : k ≤ c) (hT : TabAt w) (hl : numsL h n = []) :
    Calls Tryz.prog 100 #[.slice a k c, .int .i64 n, .slice da m dc] w fun e w' => e = .returned (.bool false) ∧ Below w.heap.size w w' := by
  have H1 : Hid (Calls Tryz.prog 97 #[.slice a k c, .int .i64 n] w fun e w' => ∃ a' c', e = .returned (.tuple #[.slice a' 0 c', .int .i64 (numsE h n)]) ∧ Below w.heap.size w w') := by
    refine (nums_any w a k c h n hn hO hc hT).mono ?_
    rintro e w' ⟨v, rfl, h2, h3⟩
    rcases h2 with ⟨_, rfl⟩ | ⟨g, cap, rfl, _, _⟩
    · exact ⟨_, _, rfl, h3⟩
    · rw [hl]; exact ⟨_, _, rfl, h3⟩
  clear hn hO hT hl
  generalize numsE h n = E at H1
  go_enter Tryz.func100, Tryz.ntmps100
  go_wp2_with (go_at_call 97; refine H1.out.mono ?_; rintro e w1 ⟨a', c', rfl, hb⟩; have H2 : Hid (Below w.heap.size w w1) := hb; clear hb)
  go_ret
  exact ⟨rfl, H2.out⟩
set_option maxRecDepth 100000 in
set_option maxHeartbeats 1600000 in
theorem good_some (w : World) (b off : Nat) (da : Option Addr) (c m dc K : Nat) (h : List Int) (ds : List (List Int)) (n : Int) (hn : h.length = 512) (hm : ds.length = m) (hO : Bytes w (some ⟨b, off, none⟩) h) (hc : 512 ≤ c) (hD : Data w da ds) (hT : TabAt w) (hl : (numsL h n).length = K) (hK : 1 ≤ K) (hK96 : K ≤ 96) :
    Calls Tryz.prog 100 #[.slice (some ⟨b, off, none⟩) 512 c, .int .i64 n, .slice da m dc] w fun e w' => e = .returned (.bool (blk ds K && decide (num h 12 4 = sumV h ds))) ∧ Below w.heap.size w w' := by
  have H1 : Hid (Calls Tryz.prog 97 #[.slice (some ⟨b, off, none⟩) 512 c, .int .i64 n] w fun e w' => ∃ a' c', e = .returned (.tuple #[.slice a' K c', .int .i64 (numsE h n)]) ∧ Below w.heap.size w w') := by
    refine (nums_any w _ 512 c h n hn hO hc hT).mono ?_
    rintro e w' ⟨v, rfl, h2, h3⟩
    rcases h2 with ⟨h4, rfl⟩ | ⟨g, cap, rfl, _, _⟩
    · rw [h4] at hl; simp at hl; omega
    · rw [hl]; exact ⟨_, _, rfl, h3⟩
  have H2 : Hid (∀ wx, Below w.heap.size w wx → Calls Tryz.prog 106 #[.slice da m dc, .int .i64 K] wx fun e w' => e = .returned (.bool (blk ds K)) ∧ wx = w') := fun wx hx => areBlocks_any wx _ m dc K ds hm (hD.on hx)
  have H3 : Hid (∀ wx, Below w.heap.size w wx → Calls Tryz.prog 120 #[.slice (some ⟨b, off, none⟩) 512 c, .int .i64 (12 : Nat), .int .i64 (4 : Nat)] wx fun e w' => e = .returned (.tuple #[.int .u64 (num h 12 4), .int .i64 0]) ∧ wx = w') := fun wx hx => get_in wx b off 512 c 12 4 h hn (hO.on hx) hc (hT.on hx) rfl (by omega)
  have hsb := sumV_bd h ds
  have hnb : 0 ≤ num h 12 4 ∧ num h 12 4 < 4294967296 := num_bd h 12 4 hO.wf
  have H4 : Hid (∀ wx, Below w.heap.size w wx → blk ds K = true → Calls Tryz.prog 110 #[.slice (some ⟨b, off, none⟩) 512 c, .slice da m dc] wx fun e w' => e = .returned (.int .u32 (sumV h ds)) ∧ Below wx.heap.size wx w') := fun wx hx hb => by
    simp only [blk, Bool.and_eq_true, decide_eq_true_eq] at hb
    obtain ⟨h1, h2⟩ := hb
    rw [mem_row] at h2
    obtain ⟨db, doff, rfl⟩ := hD.some (by omega)
    exact sumOf_some wx b off c db doff m dc h ds hn (hO.on hx) (hT.on hx) (hD.on hx) hm (by omega) (fun i hi => h2 i (by omega))
  clear hn hO hT hl hm hD
  generalize numsE h n = E at H1
  generalize sumV h ds = s at *
  generalize num h 12 4 = v at *
  cases hb : blk ds K with
  | false =>
    rw [hb] at H2
    clear hb H4
    go_enter Tryz.func100, Tryz.ntmps100
    go_wp2_with (first
      | (go_at_call 97; refine H1.out.mono ?_; rintro e w1 ⟨a', c', rfl, hb⟩; have H5 : Hid (Below w.heap.size w w1) := hb; clear hb)
      | (go_at_call 106; refine (H2.out _ H5.out).mono ?_; rintro e w' ⟨rfl, rfl⟩))
    go_ret
    exact ⟨rfl, H5.out⟩
  | true =>
    rw [hb] at H2
    have HC : Hid (∀ wx, Below w.heap.size w wx → Calls Tryz.prog 110 #[.slice (some ⟨b, off, none⟩) 512 c, .slice da m dc] wx fun e w' => e = .returned (.int .u32 s) ∧ Below wx.heap.size wx w') := fun wx hx => H4.out wx hx hb
    clear hb H4
    go_enter Tryz.func100, Tryz.ntmps100
    go_wp2_with (first
      | (go_at_call 97; refine H1.out.mono ?_; rintro e w1 ⟨a', c', rfl, hb⟩; have H5 : Hid (Below w.heap.size w w1) := hb; clear hb)
      | (go_at_call 106; refine (H2.out _ H5.out).mono ?_; rintro e w' ⟨rfl, rfl⟩)
      | (go_at_call 120; refine (H3.out _ H5.out).mono ?_; rintro e w' ⟨rfl, rfl⟩)
      | (go_at_call 110; refine (HC.out _ H5.out).mono ?_; rintro e w2 ⟨rfl, hb⟩; have H6 : Hid (Below w.heap.size w w2) := H5.out.trans (hb.mono H5.out.size); clear hb))
    go_ret
    refine ⟨?_, H6.out⟩
    rw [Bool.true_and]
    rfl
/-- Good: P4.3 -/
theorem good_any (w : World) (a da : Option Addr) (k c m dc : Nat) (h : List Int) (ds : List (List Int)) (n : Int) (hn : h.length = k) (hm : ds.length = m) (hO : Bytes w a h) (hc : k ≤ c) (hD : Data w da ds) (hT : TabAt w) :
    Calls Tryz.prog 100 #[.slice a k c, .int .i64 n, .slice da m dc] w fun e w' => e = .returned (.bool (good h n ds)) ∧ Below w.heap.size w w' := by
  by_cases hl : numsL h n = []
  · have e : good h n ds = false := by unfold good; rw [hl]; rfl
    rw [e]
    exact good_none w a da k c m dc h n hn hO hc hT hl
  · have hl' := hl
    unfold numsL at hl'
    by_cases hh : h.length = 512 ∧ zr h 0 512 = false ∧ isH h n = true
    · have e2 : numsL h n = nsOf h := by unfold numsL; rw [if_pos hh]
      have hf := hh.2.2
      simp only [isH, form, Bool.and_eq_true, decide_eq_true_eq] at hf
      have hlen : (nsOf h).length = cnt h := by simp [nsOf]
      obtain rfl : k = 512 := by omega
      obtain ⟨b, off, rfl⟩ := hO.some (by omega)
      have := good_some w b off da c m dc (cnt h) h ds n hn hm hO hc hD hT (by rw [e2, hlen]) hf.1.1.2.1 hf.1.1.2.2
      have e : good h n ds = (blk ds (cnt h) && decide (num h 12 4 = sumV h ds)) := by
        unfold good; rw [decide_eq_true hl, Bool.true_and, e2, hlen]
      rw [e]; exact this
    · rw [if_neg hh] at hl'; exact absurd rfl hl'
end Go.Proofs.YtcbebalakdkgnaaGreatDoor

namespace Go.Proofs.YtcbebalakdkgnaaGreatDoor
open Go.RowKit Rec

/-- 512 times this one -/
def one (c : Int) : List Int := List.replicate 512 c
theorem one_length (c : Int) : (one c).length = 512 := List.length_replicate
end Go.Proofs.YtcbebalakdkgnaaGreatDoor

namespace Go.Proofs.YtcbebalakdkgnaaGreatDoor
open Go.RowKit Rec

end Go.Proofs.YtcbebalakdkgnaaGreatDoor
