import Derived.Test.YtpheajiepnjhdaaDoorKnownM
namespace Go.Proofs.YtpheajiepnjhdaaDoor
open Go.RowKit Rec

def s12 : ByteArray := { data := #[66, 79, 76, 69, 76, 79, 71, 49, 1, 0, 0, 0] }
theorem str12 : strOfNums [66, 79, 76, 69, 76, 79, 71, 49, 1, 0, 0, 0] = s12 := by decide +kernel
theorem known_h (s : Int) : nth (hd [98] s) 16 = 98 := by rw [nth_hd _ _ _ (by omega)]; rfl
theorem known_b : ∀ i, i < [(98 : Int)].length → 0 ≤ nth [98] i ∧ nth [98] i < 4294967296 := fun i hi => by
  have : i = 0 := by simpa using hi
  subst this
  decide
theorem known_e : numsE (made [98] [one 0]) 99 = 0 := by
  unfold made
  rw [numsE_hd [98] _ 99 (by simp) (by simp) known_b, may_one 98 99 (by decide) (by decide)]; rfl
theorem known_l : numsL (made [98] [one 0]) 99 = [98] := by
  unfold made
  rw [numsL_hd [98] _ 99 (by simp) (by simp) known_b, may_one 98 99 (by decide) (by decide)]; rfl
theorem known_g0 : good (made [98] [one 0]) 99 [one 0] = true := by
  rw [good_made [98] [one 0] [one 0] 99 (by simp) (by simp) (may_one 98 16384 (by decide) (by decide)), may_one 98 99 (by decide) (by decide)]
  show (true && blk [one 0] 1 && decide _) = true
  rw [blk_one _ (one_length 0)]
  simp
theorem known_g1 : good (made [98] [one 0]) 99 [one 1] = false := by
  rw [good_made [98] [one 0] [one 1] 99 (by simp) (by simp) (may_one 98 16384 (by decide) (by decide))]
  have : ¬ sumV (hd [98] 0) [one 0] = sumV (hd [98] 0) [one 1] := by
    rw [sumV_eq]
    simp only [List.flatten_cons, List.flatten_nil, List.append_nil]
    rw [crc_same_iff _ _ _ (by rw [one_length, one_length])]
    exact crc_01
  rw [decide_eq_false this, Bool.and_false]
theorem zs_bd : ∀ i, 0 ≤ nth zs i ∧ nth zs i < 256 := fun i => by rw [nth_zs]; omega
theorem zr_zs : zr zs 0 512 = true := zr_true _ _ _ (fun _ _ => nth_zs _)
theorem zs_e (n : Int) : numsE zs n = 0 := by unfold numsE; rw [if_pos zs_length, zr_zs]; rfl
theorem zs_l (n : Int) : numsL zs n = [] := by unfold numsL; rw [if_neg (by rw [zr_zs]; simp)]

set_option maxRecDepth 100000 in
set_option maxHeartbeats 4000000 in
/-- what the document gives -/
theorem known_any (w : World) (hT : TabAt w) : Calls Tryd.prog 7 #[] w fun e w' => e = .returned (.bool true) ∧ Below w.heap.size w w' := by
  have HT : Hid (∀ wx, Below w.heap.size w wx → TabAt wx) := fun wx hx => hT.on hx
  have HA : Hid (Below w.heap.size w (w.alloc (.cells #[.int .i64 98] 3))) := (Below.refl _ _).alloc (Nat.le_refl _) _
  clear hT
  go_enter Tryd.func7, Tryd.ntmps7
  go_upto_region 2 with (first
    | (go_at_call 37; refine (block_any _ 0 (by omega)).mono ?_; rintro e w2 ⟨g0, rfl, ho, hg, hb⟩; have H1 : Hid (Below w.heap.size w w2 ∧ Ints (w2.alloc (.cells #[.slice (some ⟨g0, 0, none⟩) 512 512] 23)) (some ⟨w.heap.size, 0, none⟩) [98] ∧ Data (w2.alloc (.cells #[.slice (some ⟨g0, 0, none⟩) 512 512] 23)) (some ⟨w2.heap.size, 0, none⟩) [one 0]) := ⟨HA.out.trans (hb.mono HA.out.size), ((ints1 w 98).on hb).on ((Below.refl _ _).alloc (Nat.le_refl _) _), data1 w2 _ 512 512 (one 0) (one_length 0) ho.bytes (fun e => by cases e)⟩; have HA2 : Hid (Below w.heap.size w (w2.alloc (.cells #[.slice (some ⟨g0, 0, none⟩) 512 512] 23))) := H1.out.1.alloc H1.out.1.size _; clear ho hg hb)
    | (go_at_call 9; refine (make_ok _ w.heap.size 0 1 1 w2.heap.size 0 1 [98] [one 0] rfl H1.out.2.1 H1.out.2.2 (HT.out _ HA2.out) (by omega) (by omega) (may_one 98 16384 (by decide) (by decide)) (blk_one _ (one_length 0))).mono ?_; rintro e w3 ⟨g, rfl, ho, hg, hb⟩; have H2 : Hid (OwnB w3 g 512 (made [98] [one 0]) ∧ Below w.heap.size w w3) := ⟨ho, HA2.out.trans (hb.mono HA2.out.size)⟩; clear ho hg hb))
  have hcell : w3.cell? ⟨g, 16, none⟩ = some (.int .u8 98) := by
    have := H2.out.1.cell 16 (by unfold made; rw [hd_length]; omega)
    rw [show nth (made [98] [one 0]) 16 = 98 from known_h _] at this
    exact this
  have hstr : (convert 23 9 (.slice (some ⟨g, 0, none⟩) 12 512)).run Tryd.prog w3 = .ok (.string { data := #[66, 79, 76, 69, 76, 79, 71, 49, 1, 0, 0, 0] }) w3 := by
    have := str_opt (n := 12) (c := 512) (H2.out.1.bytes.take 12) (by rw [List.length_take]; unfold made; rw [hd_length]; rfl)
    rw [show (made [98] [one 0]).take 12 = _ from made12 _, str12] at this
    exact this
  have HN1 : Hid (Calls Tryd.prog 10 #[.slice (some ⟨g, 0, none⟩) 512 512, .int .i64 99] w3 fun e w' => ∃ g' cap', e = .returned (.tuple #[.slice (some ⟨g', 0, none⟩) 1 cap', .int .i64 0]) ∧ OwnI w' g' cap' [98] ∧ Below w3.heap.size w3 w') := by
    refine (nums_any w3 _ 512 512 _ 99 (by unfold made; rw [hd_length]) H2.out.1.bytes (by omega) (HT.out _ H2.out.2)).mono ?_
    rintro e w' ⟨v, rfl, h2, h3⟩
    unfold NumsAt at h2
    rw [known_l] at h2
    rw [known_e]
    rcases h2 with ⟨h4, _⟩ | ⟨g', cap', rfl, h5, _⟩
    · cases h4
    · exact ⟨g', cap', rfl, h5, h3⟩
  go_upto_region 5 with (first
    | (go_at_call 13; refine (num_any _ _).mono ?_; rintro e w' ⟨rfl, rfl⟩)
    | (go_at_call 10; refine HN1.out.mono ?_; rintro e w4 ⟨g4, cap4, rfl, ho, hb⟩; have H3 : Hid (OwnI w4 g4 cap4 [98] ∧ OwnB w4 g 512 (made [98] [one 0]) ∧ Below w.heap.size w w4) := ⟨ho, H2.out.1.on hb, H2.out.2.trans (hb.mono H2.out.2.size)⟩; clear ho hb))
  clear hcell hstr
  go_upto_region 6 with (first
    | (go_at_call 11; refine (empty_any _).mono ?_; rintro e w5 ⟨g5, rfl, ho, hg, hb⟩; have H4 : Hid (OwnB w5 g5 512 zs ∧ OwnI w5 g4 cap4 [98] ∧ OwnB w5 g 512 (made [98] [one 0]) ∧ Below w.heap.size w w5) := ⟨ho, H3.out.1.on hb, H3.out.2.1.on hb, H3.out.2.2.trans (hb.mono H3.out.2.2.size)⟩; clear ho hg hb)
    | (go_at_call 10; refine (nums_zero _ g5 0 512 zs _ zs_length H4.out.1.bytes (by omega) zr_zs).mono ?_; rintro e w' ⟨rfl, rfl⟩))
  have hcell := H4.out.2.1.cell 0 (by simp)
  rw [show nth [98] 0 = 98 from rfl] at hcell
  have HG : Hid (∀ wx w', Below w.heap.size w wx → OwnB wx g 512 (made [98] [one 0]) → ∀ gb c, OwnB wx gb 512 (one c) → w' = wx.alloc (.cells #[.slice (some ⟨gb, 0, none⟩) 512 512] 23) → Calls Tryd.prog 21 #[.slice (some ⟨g, 0, none⟩) 512 512, .int .i64 99, .slice (some ⟨wx.heap.size, 0, none⟩) 1 1] w' fun e w'' => e = .returned (.bool (good (made [98] [one 0]) 99 [one c])) ∧ OwnB w'' g 512 (made [98] [one 0]) ∧ Below w.heap.size w w'') := by
    intro wx w' hx ho gb c hc e
    subst e
    have ha : Below wx.heap.size wx (wx.alloc (.cells #[.slice (some ⟨gb, 0, none⟩) 512 512] 23)) := (Below.refl _ _).alloc (Nat.le_refl _) _
    have hx2 := hx.trans (ha.mono hx.size)
    refine (good_any _ _ _ 512 512 1 1 (made [98] [one 0]) [one c] 99 (by unfold made; rw [hd_length]) rfl (ho.on ha).bytes (by omega) (data1 wx _ 512 512 (one c) (one_length c) hc.bytes (fun e => by cases e)) (HT.out _ hx2)).mono ?_
    rintro e w'' ⟨rfl, hb⟩
    exact ⟨rfl, (ho.on ha).on hb, hx2.trans (hb.mono hx2.size)⟩
  go_wp2_with (first
    | (go_at_call 13; refine (num_any _ _).mono ?_; rintro e w' ⟨rfl, rfl⟩)
    | (go_at_call 21; have hh := H7.out.1; clear hh; refine (HG.out w8 _ H7.out.2.2 H7.out.2.1 g8 1 H7.out.1 rfl).mono ?_; rintro e w9 ⟨rfl, ho, hb⟩; rw [known_g1]; have H8 : Hid (Below w.heap.size w w9) := hb; clear ho hb)
    | (go_at_call 37; have hh := H6.out.1; clear hh; refine (block_any _ 1 (by omega)).mono ?_; rintro e w8 ⟨g8, rfl, ho, hg, hb⟩; have H7 : Hid (OwnB w8 g8 512 (one 1) ∧ OwnB w8 g 512 (made [98] [one 0]) ∧ Below w.heap.size w w8) := ⟨ho, H6.out.1.on hb, H6.out.2.trans (hb.mono H6.out.2.size)⟩; clear ho hg hb)
    | (go_at_call 21; refine (HG.out w6 _ H5.out.2.2 H5.out.2.1 g6 0 H5.out.1 rfl).mono ?_; rintro e w7 ⟨rfl, ho, hb⟩; rw [known_g0]; have H6 : Hid (OwnB w7 g 512 (made [98] [one 0]) ∧ Below w.heap.size w w7) := ⟨ho, hb⟩; clear ho hb)
    | (go_at_call 37; refine (block_any _ 0 (by omega)).mono ?_; rintro e w6 ⟨g6, rfl, ho, hg, hb⟩; have H5 : Hid (OwnB w6 g6 512 (one 0) ∧ OwnB w6 g 512 (made [98] [one 0]) ∧ Below w.heap.size w w6) := ⟨ho, H4.out.2.2.1.on hb, H4.out.2.2.2.trans (hb.mono H4.out.2.2.2.size)⟩; clear ho hg hb))
  go_ret
  exact ⟨rfl, H8.out⟩
end Go.Proofs.YtpheajiepnjhdaaDoor
