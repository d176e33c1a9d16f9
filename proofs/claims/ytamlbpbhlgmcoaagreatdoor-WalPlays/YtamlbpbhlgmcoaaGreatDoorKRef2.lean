import Derived.Test.YtamlbpbhlgmcoaaGreatDoorKRef
import Derived.Test.YtamlbpbhlgmcoaaGreatDoorKMade
namespace Go.Proofs.YtamlbpbhlgmcoaaGreatDoor
open Go.RowKit Rec
open Crc (W)

theorem zs_bd' : ∀ i, 0 ≤ nth zs i ∧ nth zs i < 256 := fun i => by rw [nth_zs]; omega
theorem num4 (h : List Int) (A : Nat) : num h A 4 = nth h A + nth h (A + 1) * 256 + nth h (A + 2) * 65536 + nth h (A + 3) * 16777216 := by
  simp only [num, Nat.add_zero, Int.pow_zero, Int.mul_one, Int.zero_add]
  rfl
set_option maxRecDepth 100000 in
set_option maxHeartbeats 1600000 in
theorem number_any (w : World) (b off c A : Nat) (h : List Int) (hn : h.length = 512) (hO : Bytes w (some ⟨b, off, none⟩) h) (hA : A + 4 ≤ 512) :
    Calls Tryz.prog 113 #[.slice (some ⟨b, off, none⟩) 512 c, .int .i64 A] w fun e w' => e = .returned (.int .i64 (num h A 4)) ∧ Below w.heap.size w w' := by
  have c0 : w.cell? ⟨b, off + A, none⟩ = some (.int .u8 (nth h A)) := hO.cell (by omega)
  have c1 : w.cell? ⟨b, off + (A + 1), none⟩ = some (.int .u8 (nth h (A + 1))) := hO.cell (by omega)
  have c2 : w.cell? ⟨b, off + (A + 2), none⟩ = some (.int .u8 (nth h (A + 2))) := hO.cell (by omega)
  have c3 : w.cell? ⟨b, off + (A + 3), none⟩ = some (.int .u8 (nth h (A + 3))) := hO.cell (by omega)
  have b0 := hO.wf A
  have b1 := hO.wf (A + 1)
  have b2 := hO.wf (A + 2)
  have b3 := hO.wf (A + 3)
  rw [num4]
  generalize nth h A = x0 at *
  generalize nth h (A + 1) = x1 at *
  generalize nth h (A + 2) = x2 at *
  generalize nth h (A + 3) = x3 at *
  clear hO hn
  have i0 : (A : Int) < 512 := by omega
  obtain ⟨q1, h1⟩ : ∃ q : Nat, (A : Int) + 1 = (q : Int) := ⟨A + 1, by omega⟩
  obtain ⟨q2, h2⟩ : ∃ q : Nat, (A : Int) + 2 = (q : Int) := ⟨A + 2, by omega⟩
  obtain ⟨q3, h3⟩ : ∃ q : Nat, (A : Int) + 3 = (q : Int) := ⟨A + 3, by omega⟩
  rw [show A + 1 = q1 by omega] at c1
  rw [show A + 2 = q2 by omega] at c2
  rw [show A + 3 = q3 by omega] at c3
  have i1 : (q1 : Int) < 512 := by omega
  have i2 : (q2 : Int) < 512 := by omega
  have i3 : (q3 : Int) < 512 := by omega
  go_enter Tryz.func113, Tryz.ntmps113
  go_wp2
  go_quiet (fail)
  go_wp2
  go_ret
  exact ⟨rfl, below_drewN (Below.refl _ _) _⟩
set_option maxRecDepth 100000 in
set_option maxHeartbeats 1600000 in
theorem rsum_ok (w : World) (nb noff k nc db doff dc : Nat) (ns : List Int) (ds : List (List Int)) (hn : ns.length = k) (hI : Ints w (some ⟨nb, noff, none⟩) ns) (hD : Data w (some ⟨db, doff, none⟩) ds) (hdl : ds.length = k) (hk96 : k ≤ 96) (hb0 : ∀ i, i < k → 0 ≤ nth ns i ∧ nth ns i < 4294967296) (hbl : ∀ i, i < k → (row ds i).length = 512) :
    Calls Tryz.prog 112 #[.slice (some ⟨nb, noff, none⟩) k nc, .slice (some ⟨db, doff, none⟩) k dc] w fun e w' => e = .returned (.int .u32 (sumV (hd ns 0) ds)) ∧ Below w.heap.size w w' := by
  have HLd : Hid (Calls Tryz.prog 111 #[.slice (some ⟨nb, noff, none⟩) k nc, .int .u32 0] w fun e w' => ∃ g cap, e = .returned (.slice (some ⟨g, 0, none⟩) 512 cap) ∧ OwnB w' g cap (hd ns 0) ∧ w.heap.size ≤ g ∧ Below w.heap.size w w') := laid_ok w nb noff k nc ns 0 hn hI hk96 hb0 (by omega)
  have HD : Hid (∀ wx, Below w.heap.size w wx → ∀ j, j < k → ∃ b' o' c', wx.cell? ⟨db, doff + j, none⟩ = some (.slice (some ⟨b', o', none⟩) 512 c') ∧ Bytes wx (some ⟨b', o', none⟩) (row ds j)) := fun wx hx j hj => by
    obtain ⟨a', c', h1, h2, h3⟩ := (hD.on hx).cell (i := j) (by omega)
    have hr := hbl j hj
    rw [hr] at h1
    rcases h2.at_ with e | ⟨b', o', rfl, _⟩
    · rw [e] at hr; simp at hr
    · exact ⟨b', o', c', h1, h2⟩
  have HK : Hid (ds.length = k) := hdl
  have HR : Hid (∀ i, i < k → (row ds i).length = 512) := hbl
  have HFl : Hid (∀ j, j ≤ k → (ds.take j).flatten.length = 512 * j) := fun j hj => flat_len ds (fun i hi => hbl i (by omega)) j (by omega)
  clear hn hI hD hdl hb0 hbl
  go_enter Tryz.func112, Tryz.ntmps112
  go_wp2_with (go_at_call 111; refine HLd.out.mono ?_; rintro e w1 ⟨g, cap, rfl, ho, hg, hb⟩; have H1 : Hid (OwnB w1 g cap (hd ns 0) ∧ w.heap.size ≤ g ∧ Below w.heap.size w w1) := ⟨ho, hg, hb⟩; clear hg ho hb)
  go_loopw [5, 6] (fun s i wr => ∃ (j g' cap' : Nat), j ≤ k ∧ i = .int .i64 j ∧ s = .slice (some ⟨g', 0, none⟩) (512 + 512 * j) cap' ∧ OwnB wr g' cap' (hd ns 0 ++ (ds.take j).flatten) ∧ w.heap.size ≤ g' ∧ Below w.heap.size w wr) (fun _ i _ => k - (intOf i).toNat)
  case atStart => exact ⟨0, g, cap, Nat.zero_le _, rfl, rfl, by simpa using H1.out.1, H1.out.2.1, H1.out.2.2⟩
  case round =>
    obtain ⟨j, g', cap', hj, rfl, rfl, ho, hg, hb⟩ := hrel
    have H3 : Hid (OwnB wr g' cap' (hd ns 0 ++ (ds.take j).flatten) ∧ w.heap.size ≤ g' ∧ Below w.heap.size w wr) := ⟨ho, hg, hb⟩
    have HL3 : Hid ((hd ns 0 ++ (ds.take j).flatten).length = 512 + 512 * j) := by show _ = _; rw [List.length_append, hd_length, HFl.out j hj]
    clear ho hg hb
    by_cases hlt : j < k
    · obtain ⟨b', o', c', d1, d2⟩ := HD.out _ H3.out.2.2 j hlt
      have HB : Hid (Bytes wr (some ⟨b', o', none⟩) (row ds j)) := d2
      clear d2
      go_wp2_with (at_builtin; refine wp_app rfl (.tmp 15) (.tmp 19) rfl w.heap.size g' (512 + 512 * j) cap' _ (row ds j) HL3.out rfl H3.out.1 H3.out.2.1 H3.out.2.2.size (some ⟨b', o', none⟩) 512 c' rfl (HR.out j hlt) HB.out (fun h => by cases h) (by omega) ?_; intro g4 cap4 w4 hg4 ho4 hgr; have H4 : Hid (w.heap.size ≤ g4 ∧ OwnB w4 g4 cap4 (hd ns 0 ++ (ds.take (j + 1)).flatten) ∧ Below w.heap.size w w4) := ⟨hg4, by rw [flat_succ ds j (by rw [HK.out]; exact hlt), ← List.append_assoc]; exact ho4, H3.out.2.2.grown hgr H3.out.2.2.size (by intro k hk; cases hk; exact H3.out.2.1)⟩; clear hg4 ho4 hgr)
      go_round
      case rel => exact ⟨j + 1, g4, cap4, by omega, by go_num, by congr 1, H4.out.2.1, H4.out.1, H4.out.2.2⟩
      case measure => simp [intOf]; omega
    · obtain rfl : j = k := by omega
      go_wp2_with (go_at_call 125; refine (refOf_any _ _ (512 + 512 * j) cap' _ HL3.out H3.out.1.bytes).mono ?_; rintro e w' ⟨rfl, rfl⟩)
      go_ret
      refine ⟨?_, H3.out.2.2⟩
      have e : ds.take j = ds := List.take_of_length_le (by rw [HK.out]; omega)
      rw [e]
      unfold sumV
      rw [hd_clear]; rfl
set_option maxRecDepth 100000 in
set_option maxHeartbeats 1600000 in
theorem rempty_any (w : World) : Calls Tryz.prog 96 #[] w fun e w' => ∃ g cap, e = .returned (.slice (some ⟨g, 0, none⟩) 512 cap) ∧ OwnB w' g cap zs ∧ w.heap.size ≤ g ∧ Below w.heap.size w w' := by
  have HAl : Hid (∀ (w : World) (o : Obj), Below w.heap.size w (w.alloc o)) := fun w o => (Below.refl _ _).alloc (Nat.le_refl _) _
  have HB1 : Hid (∀ w : World, Bytes (w.alloc (.cells #[.int .u8 0] 5)) (some ⟨w.heap.size, 0, none⟩) [0]) := fun w => (bytesL w [0] (by simp) (fun i => by
    by_cases h : i < 1
    · have : i = 0 := by omega
      subst this; exact ⟨by decide, by decide⟩
    · rw [nth_out _ _ (by simp; omega)]; omega)).bytes
  go_enter Tryz.func96, Tryz.ntmps96
  go_wp2
  go_loopw [1] (fun s1 wx => ∃ m : Nat, m ≤ 512 ∧ wx.ownsRow 0 5 1 s1 m ((zn m).map (Value.int .u8)) ∧ (∀ k, s1.ownBlock = some k → w.heap.size ≤ k) ∧ Below w.heap.size w wx) (fun s1 _ => 512 - lenOf s1)
  case atStart => exact ⟨0, Nat.zero_le _, ⟨rfl, .inl ⟨rfl, rfl⟩⟩, (fun k h => by cases h), Below.refl _ _⟩
  case round =>
    obtain ⟨m, hm, ho, hg, hb⟩ := hrel
    obtain ⟨a1, n1, rfl⟩ := own_form ho
    have H1 : Hid (wr.ownsRow 0 5 1 (.slice a1 m n1) m ((zn m).map (Value.int .u8)) ∧ (∀ k, (Value.slice a1 m n1).ownBlock = some k → w.heap.size ≤ k) ∧ Below w.heap.size w wr) := ⟨ho, hg, hb⟩
    clear ho hg hb
    by_cases h5 : m < 512
    · have HZ : Hid (zn m ++ [0] = zn (m + 1)) := by
        show _ = _
        unfold zn; rw [List.replicate_succ']
      go_wp2_with (at_builtin; refine wp_bown rfl (.tmp 5) (.tmp 6) rfl (.slice a1 m n1) m (zn m) rfl (owns_on H1.out.1 (HAl.out wr _)) ⟨wr.heap.size, 0, none⟩ 1 1 [0] rfl (by omega) rfl (HB1.out wr) (by omega) ?_; intro g6 cap6 w6 ho hf hg; have H6 : Hid (w6.ownsRow 0 5 1 (.slice (some ⟨g6, 0, none⟩) (m + 1) cap6) (m + 1) ((zn (m + 1)).map (Value.int .u8)) ∧ w.heap.size ≤ g6 ∧ Below w.heap.size w w6) := ⟨by rw [← HZ.out]; exact ho, hg.elim (fun e => H1.out.2.1 _ e) (fun e => Nat.le_trans (Nat.le_trans H1.out.2.2.size (HAl.out wr _).size) e), (H1.out.2.2.trans ((HAl.out wr _).mono H1.out.2.2.size)).trans (hf.below _ H1.out.2.1 (Nat.le_trans H1.out.2.2.size (HAl.out wr _).size))⟩; clear ho hf hg)
      go_round
      case rel => exact ⟨m + 1, by omega, H6.out.1, (fun k hk => by cases hk; exact H6.out.2.1), H6.out.2.2⟩
      case measure => simp [lenOf]; omega
    · obtain rfl : m = 512 := by omega
      obtain ⟨g7, c7, e7⟩ := own_some H1.out.1 (by omega)
      cases e7
      go_wp2
      go_ret
      exact ⟨g7, n1, rfl, ownB_of H1.out.1 (zn_length 512) (by omega) zs_bd', H1.out.2.1 _ rfl, H1.out.2.2⟩
end Go.Proofs.YtamlbpbhlgmcoaaGreatDoor

namespace Go.Proofs.YtamlbpbhlgmcoaaGreatDoor
open Go.RowKit Rec
open Crc (W)

theorem rmay_split (ns : List Int) (n : Int) : rmay ns n = true ↔ (1 ≤ ns.length ∧ ns.length ≤ 96) ∧ may ns n = true := by
  simp only [rmay, Bool.and_eq_true, decide_eq_true_eq]
set_option maxRecDepth 100000 in
set_option maxHeartbeats 1600000 in
theorem rmake_ok (w : World) (nb noff k nc db doff dc : Nat) (ns : List Int) (ds : List (List Int)) (hn : ns.length = k) (hI : Ints w (some ⟨nb, noff, none⟩) ns) (hD : Data w (some ⟨db, doff, none⟩) ds) (hy : rmay ns 16384 = true) (hb : blk ds k = true) :
    Calls Tryz.prog 90 #[.slice (some ⟨nb, noff, none⟩) k nc, .slice (some ⟨db, doff, none⟩) k dc] w fun e w' => ∃ g cap, e = .returned (.tuple #[.slice (some ⟨g, 0, none⟩) 512 cap, .int .i64 0]) ∧ OwnB w' g cap (made ns ds) ∧ w.heap.size ≤ g ∧ Below w.heap.size w w' := by
  have hs := (rmay_split ns 16384).1 hy
  rw [hn] at hs
  have hb' := hb
  simp only [blk, Bool.and_eq_true, decide_eq_true_eq] at hb'
  obtain ⟨hdl, hdb⟩ := hb'
  rw [mem_row] at hdb
  have hb0 : ∀ i, i < k → 0 ≤ nth ns i ∧ nth ns i < 4294967296 := fun i hi => by have := pre_bd ns _ hs.2 i (by omega); omega
  have H1 : Hid (Calls Tryz.prog 109 #[.slice (some ⟨nb, noff, none⟩) k nc, .int .i64 16384] w fun e w' => e = .returned (.bool true) ∧ w = w') := by
    have := rmay_any w _ k nc ns 16384 hn hI
    rw [hy] at this
    exact this
  have H2 : Hid (Calls Tryz.prog 110 #[.slice (some ⟨db, doff, none⟩) k dc, .int .i64 k] w fun e w' => e = .returned (.bool true) ∧ w = w') := by
    have := rblocks_any w _ k dc k ds hdl hD
    rw [hb] at this
    exact this
  have hsb := sumV_bd (hd ns 0) ds
  have H3 : Hid (Calls Tryz.prog 112 #[.slice (some ⟨nb, noff, none⟩) k nc, .slice (some ⟨db, doff, none⟩) k dc] w fun e w' => e = .returned (.int .u32 (sumV (hd ns 0) ds)) ∧ Below w.heap.size w w') := rsum_ok w nb noff k nc db doff dc ns ds hn hI hD hdl hs.1.2 hb0 (fun i hi => hdb i (by omega))
  have H4 : Hid (∀ wx, Below w.heap.size w wx → Calls Tryz.prog 111 #[.slice (some ⟨nb, noff, none⟩) k nc, .int .u32 (sumV (hd ns 0) ds)] wx fun e w' => ∃ g cap, e = .returned (.slice (some ⟨g, 0, none⟩) 512 cap) ∧ OwnB w' g cap (made ns ds) ∧ wx.heap.size ≤ g ∧ Below wx.heap.size wx w') := fun wx hx => laid_ok wx nb noff k nc ns _ hn (hI.on hx) hs.1.2 hb0 hsb
  clear hn hI hD hy hb hs hdl hdb hb0
  generalize sumV (hd ns 0) ds = s at *
  go_enter Tryz.func90, Tryz.ntmps90
  go_wp2_with (first
    | (go_at_call 109; refine H1.out.mono ?_; rintro e w' ⟨rfl, rfl⟩)
    | (go_at_call 110; refine H2.out.mono ?_; rintro e w' ⟨rfl, rfl⟩)
    | (go_at_call 112; refine H3.out.mono ?_; rintro e w1 ⟨rfl, hb⟩; have B1 : Hid (Below w.heap.size w w1) := hb; clear hb)
    | (go_at_call 111; refine (H4.out _ B1.out).mono ?_; rintro e w2 ⟨g, cap, rfl, ho, hg, hb⟩; have B2 : Hid (OwnB w2 g cap (made ns ds) ∧ w.heap.size ≤ g ∧ Below w.heap.size w w2) := ⟨ho, Nat.le_trans B1.out.size hg, B1.out.trans (hb.mono B1.out.size)⟩; clear ho hg hb))
  go_ret2
  exact ⟨g, cap, rfl, B2.out.1, B2.out.2.1, B2.out.2.2⟩
end Go.Proofs.YtamlbpbhlgmcoaaGreatDoor
