import Derived.Test.YtdkolofmnbbocaaDoorKMake
namespace Go.Proofs.YtdkolofmnbbocaaDoor
open Go.RowKit Rec

/-- 512 times this one -/
def one (c : Int) : List Int := List.replicate 512 c
theorem one_length (c : Int) : (one c).length = 512 := List.length_replicate
theorem nth_one (c : Int) (i : Nat) (h : i < 512) : nth (one c) i = c := nth_rep 512 c i h
theorem wf_one (c : Int) (h : 0 ≤ c ∧ c < 256) : ∀ i, 0 ≤ nth (one c) i ∧ nth (one c) i < 256 := wf_rep 512 c h
theorem crc_same_iff (x p q : List Int) (h : p.length = q.length) : Crc.crc (x ++ p) = Crc.crc (x ++ q) ↔ Crc.crc p = Crc.crc q := by
  have t := Crc.turn x p q [] h
  simp only [List.append_nil, List.length_nil, Crc.pw] at t
  rw [← t]
  constructor
  · intro e
    have e2 : Crc.crc (x ++ p) ^^^ Crc.crc (x ++ p) = Crc.crc (x ++ p) ^^^ (Crc.crc (x ++ p) ^^^ (Crc.crc p ^^^ Crc.crc q)) := by rw [← e]
    rw [← BitVec.xor_assoc, BitVec.xor_self, BitVec.zero_xor] at e2
    have e3 : Crc.crc p ^^^ (Crc.crc p ^^^ Crc.crc q) = Crc.crc p ^^^ 0#32 := by rw [← e2]
    rw [← BitVec.xor_assoc, BitVec.xor_self, BitVec.zero_xor, BitVec.xor_zero] at e3
    exact e3.symm
  · intro e
    rw [e, BitVec.xor_self, BitVec.xor_zero]
set_option maxRecDepth 100000 in
theorem crc_01 : Crc.crc (one 0) ≠ Crc.crc (one 1) := by decide +kernel
theorem sumV_eq (h : List Int) (ds es : List (List Int)) : sumV h ds = sumV h es ↔ Crc.crc (ov h 12 4 (fun _ => 0) ++ ds.flatten) = Crc.crc (ov h 12 4 (fun _ => 0) ++ es.flatten) := by
  unfold sumV
  constructor
  · intro e; exact BitVec.eq_of_toNat_eq (by omega)
  · intro e; rw [e]
/-- a made header with some blocks -/
theorem good_made (ns : List Int) (ds es : List (List Int)) (n : Int) (h1 : 1 ≤ ns.length) (h96 : ns.length ≤ 96) (hm : may ns 16384 = true) :
    good (made ns ds) n es = (may ns n && blk es ns.length && decide (sumV (hd ns 0) ds = sumV (hd ns 0) es)) := by
  have hb0 : ∀ i, i < ns.length → 0 ≤ nth ns i ∧ nth ns i < 4294967296 := fun i hi => by have := pre_bd ns _ hm i hi; omega
  unfold good made
  rw [numsL_hd ns _ n h1 h96 hb0, num_sum ns _ (sumV_bd _ _), sumV_hd ns _ es]
  cases hy : may ns n with
  | true =>
    have : ns ≠ [] := fun e => by rw [e] at h1; simp at h1
    simp [this]
  | false => simp
theorem may_one (v n : Int) (h : 98 ≤ v) (h2 : v < n) : may [v] n = true := may_true (fun i hi => by
  have : i = 0 := by simpa using hi
  subst this
  exact ⟨by show (97 : Int) < v; omega, h2⟩)
theorem blk_one (l : List Int) (h : l.length = 512) : blk [l] 1 = true := by simp [blk, h]
theorem made12 (s : Int) : (hd [98] s).take 12 = [66, 79, 76, 69, 76, 79, 71, 49, 1, 0, 0, 0] := by
  refine ext_nth (by rw [List.length_take, hd_length]; rfl) fun i hi => ?_
  have hi : i < 12 := by rw [List.length_take, hd_length] at hi; omega
  have e : nth ((hd [98] s).take 12) i = hb [98] s i := by rw [nth_take _ _ _ hi, nth_hd _ _ _ (by omega)]
  rw [e]
  have : i = 0 ∨ i = 1 ∨ i = 2 ∨ i = 3 ∨ i = 4 ∨ i = 5 ∨ i = 6 ∨ i = 7 ∨ i = 8 ∨ i = 9 ∨ i = 10 ∨ i = 11 := by omega
  rcases this with rfl | rfl | rfl | rfl | rfl | rfl | rfl | rfl | rfl | rfl | rfl | rfl <;> rfl
theorem ints1 (w : World) (v : Int) : Ints (w.alloc (.cells #[.int .i64 v] 3)) (some ⟨w.heap.size, 0, none⟩) [v] :=
  ⟨by simp, .inr ⟨_, _, rfl, fun i hi => by
    have : i = 0 := by simpa using hi
    subst this
    rw [cell_of_row _ _ _ _ _ _ (heap_alloc_new _ _)]; rfl⟩⟩
theorem data1 (w : World) (a : Option Addr) (n c : Nat) (l : List Int) (hn : l.length = n) (h : Bytes w a l) (hz : a = none → c = 0) : Data (w.alloc (.cells #[.slice a n c] 23)) (some ⟨w.heap.size, 0, none⟩) [l] :=
  ⟨by simp, .inr ⟨_, _, rfl, fun i hi => by
    have : i = 0 := by simpa using hi
    subst this
    subst hn
    exact ⟨a, c, by rw [cell_of_row _ _ _ _ _ _ (heap_alloc_new _ _)]; rfl, h.on ((Below.refl _ _).alloc (Nat.le_refl _) _), hz⟩⟩⟩
set_option maxRecDepth 100000 in
set_option maxHeartbeats 800000 in
theorem block_any (w : World) (c : Int) (hc : 0 ≤ c ∧ c < 256) : Calls Tryd.prog 11 #[.int .u8 c] w fun e w' => ∃ g, e = .returned (.slice (some ⟨g, 0, none⟩) 512 512) ∧ OwnB w' g 512 (one c) ∧ w.heap.size ≤ g ∧ Below w.heap.size w w' := by
  have HE : Hid (∀ j : Nat, j < 512 → (ov (zn 512) 0 j (fun _ => c)).set j c = ov (zn 512) 0 (j + 1) (fun _ => c)) := fun j hj => by
    have := ov_set (zn 512) 0 j (fun _ => c) (by rw [zn_length]; omega)
    rwa [Nat.zero_add] at this
  have HF : Hid (ov (zn 512) 0 512 (fun _ => c) = one c) := by
    refine ext_nth (by rw [ov_length, zn_length, one_length]) fun i hi => ?_
    rw [ov_length, zn_length] at hi
    rw [nth_ov _ _ _ _ _ (by rw [zn_length]; exact hi), if_pos (by omega), nth_one c i hi]
  have HC : Hid (0 ≤ c ∧ c < 256) := hc
  go_enter Tryd.func11, Tryd.ntmps11
  go_wp2_with (at_make; refine wp_makeB rfl _ _ rfl _ _ _ _ 512 rfl rfl (by omega) (by omega) (by omega) ?_; intro w1 ho hb; have HO : Hid (OwnB w1 w.heap.size 512 (zn 512)) := ho; have HB : Hid (Below w.heap.size w w1) := hb; clear ho hb)
  go_loopw [8] (fun i wr => ∃ j : Nat, j ≤ 512 ∧ i = .int .i64 j ∧ OwnB wr w.heap.size 512 (ov (zn 512) 0 j (fun _ => c)) ∧ Below w.heap.size w wr) (fun i _ => 512 - (intOf i).toNat)
  case atStart => exact ⟨0, Nat.zero_le _, rfl, by rw [ov_zero]; exact HO.out, HB.out⟩
  case round =>
    obtain ⟨j, hj, rfl, ho, hb⟩ := hrel
    have H2 : Hid (OwnB wr w.heap.size 512 (ov (zn 512) 0 j (fun _ => c)) ∧ Below w.heap.size w wr) := ⟨ho, hb⟩
    clear ho hb
    by_cases hlt : j < 512
    · have c1 := H2.out.1.cell j (by rw [ov_length, zn_length]; exact hlt)
      have f1 := H2.out.1.frozen j
      go_wp2
      go_round
      case rel =>
        refine ⟨j + 1, by omega, by go_num, ?_, H2.out.2.trans (Fr.below Fr.set _ (fun k hk => by rw [hk]; exact Nat.le_refl _) H2.out.2.size)⟩
        have := H2.out.1.set j c (by rw [ov_length, zn_length]; exact hlt) HC.out
        rw [HE.out j hlt] at this
        exact this
      case measure => simp [intOf]; omega
    · obtain rfl : j = 512 := by omega
      go_wp2
      go_ret
      exact ⟨_, rfl, by rw [← HF.out]; exact H2.out.1, Nat.le_refl _, H2.out.2⟩
set_option maxRecDepth 100000 in
theorem num_any (w : World) (v : Int) : Calls Tryd.prog 10 #[.int .i64 v] w fun e w' => e = .returned (.int .i64 v) ∧ w = w' := by
  go_enter Tryd.func10, Tryd.ntmps10
  go_wp2
  go_ret
  exact ⟨rfl, rfl⟩
end Go.Proofs.YtdkolofmnbbocaaDoor

namespace Go.Proofs.YtdkolofmnbbocaaDoor
open Go.RowKit Rec

def s12 : ByteArray := { data := #[66, 79, 76, 69, 76, 79, 71, 49, 1, 0, 0, 0] }
theorem str12 : strOfNums [66, 79, 76, 69, 76, 79, 71, 49, 1, 0, 0, 0] = s12 := by decide +kernel
theorem known_h (s : Int) : nth (hd [98] s) 16 = 98 := by rw [nth_hd _ _ _ (by omega)]; rfl
theorem known_b : ∀ i, i < [(98 : Int)].length → 0 ≤ nth [98] i ∧ nth [98] i < 4294967296 := fun i hi => by
  have : i = 0 := by simpa using hi
  subst this
  decide
theorem known_e : numsE (made [98] [one 0]) 99 = 0 := by
  unfold made
  rw [numsE_hd [98] _ 99 (by simp) (by simp) known_b, may_one 98 99 (by decide) (by decide)]; rfl
theorem known_l : numsL (made [98] [one 0]) 99 = [98] := by
  unfold made
  rw [numsL_hd [98] _ 99 (by simp) (by simp) known_b, may_one 98 99 (by decide) (by decide)]; rfl
theorem known_g0 : good (made [98] [one 0]) 99 [one 0] = true := by
  rw [good_made [98] [one 0] [one 0] 99 (by simp) (by simp) (may_one 98 16384 (by decide) (by decide)), may_one 98 99 (by decide) (by decide)]
  show (true && blk [one 0] 1 && decide _) = true
  rw [blk_one _ (one_length 0)]
  simp
theorem known_g1 : good (made [98] [one 0]) 99 [one 1] = false := by
  rw [good_made [98] [one 0] [one 1] 99 (by simp) (by simp) (may_one 98 16384 (by decide) (by decide))]
  have : ¬ sumV (hd [98] 0) [one 0] = sumV (hd [98] 0) [one 1] := by
    rw [sumV_eq]
    simp only [List.flatten_cons, List.flatten_nil, List.append_nil]
    rw [crc_same_iff _ _ _ (by rw [one_length, one_length])]
    exact crc_01
  rw [decide_eq_false this, Bool.and_false]
theorem zs_bd : ∀ i, 0 ≤ nth zs i ∧ nth zs i < 256 := fun i => by rw [nth_zs]; omega
theorem zr_zs : zr zs 0 512 = true := zr_true _ _ _ (fun _ _ => nth_zs _)
theorem zs_e (n : Int) : numsE zs n = 0 := by unfold numsE; rw [if_pos zs_length, zr_zs]; rfl
theorem zs_l (n : Int) : numsL zs n = [] := by unfold numsL; rw [if_neg (by rw [zr_zs]; simp)]

set_option maxRecDepth 100000 in
set_option maxHeartbeats 4000000 in
/-- what the document gives -/
theorem known_any (w : World) (hT : TabAt w) : Calls Tryd.prog 4 #[] w fun e w' => e = .returned (.bool true) ∧ Below w.heap.size w w' := by
  have HT : Hid (∀ wx, Below w.heap.size w wx → TabAt wx) := fun wx hx => hT.on hx
  have HA : Hid (Below w.heap.size w (w.alloc (.cells #[.int .i64 98] 3))) := (Below.refl _ _).alloc (Nat.le_refl _) _
  clear hT
  go_enter Tryd.func4, Tryd.ntmps4
  go_upto_region 2 with (first
    | (go_at_call 11; refine (block_any _ 0 (by omega)).mono ?_; rintro e w2 ⟨g0, rfl, ho, hg, hb⟩; have H1 : Hid (Below w.heap.size w w2 ∧ Ints (w2.alloc (.cells #[.slice (some ⟨g0, 0, none⟩) 512 512] 23)) (some ⟨w.heap.size, 0, none⟩) [98] ∧ Data (w2.alloc (.cells #[.slice (some ⟨g0, 0, none⟩) 512 512] 23)) (some ⟨w2.heap.size, 0, none⟩) [one 0]) := ⟨HA.out.trans (hb.mono HA.out.size), ((ints1 w 98).on hb).on ((Below.refl _ _).alloc (Nat.le_refl _) _), data1 w2 _ 512 512 (one 0) (one_length 0) ho.bytes (fun e => by cases e)⟩; have HA2 : Hid (Below w.heap.size w (w2.alloc (.cells #[.slice (some ⟨g0, 0, none⟩) 512 512] 23))) := H1.out.1.alloc H1.out.1.size _; clear ho hg hb)
    | (go_at_call 6; refine (make_ok _ w.heap.size 0 1 1 w2.heap.size 0 1 [98] [one 0] rfl H1.out.2.1 H1.out.2.2 (HT.out _ HA2.out) (by omega) (by omega) (may_one 98 16384 (by decide) (by decide)) (blk_one _ (one_length 0))).mono ?_; rintro e w3 ⟨g, rfl, ho, hg, hb⟩; have H2 : Hid (OwnB w3 g 512 (made [98] [one 0]) ∧ Below w.heap.size w w3) := ⟨ho, HA2.out.trans (hb.mono HA2.out.size)⟩; clear ho hg hb))
  have hcell : w3.cell? ⟨g, 16, none⟩ = some (.int .u8 98) := by
    have := H2.out.1.cell 16 (by unfold made; rw [hd_length]; omega)
    rw [show nth (made [98] [one 0]) 16 = 98 from known_h _] at this
    exact this
  have hstr : (convert 23 9 (.slice (some ⟨g, 0, none⟩) 12 512)).run Tryd.prog w3 = .ok (.string { data := #[66, 79, 76, 69, 76, 79, 71, 49, 1, 0, 0, 0] }) w3 := by
    have := str_opt (n := 12) (c := 512) (H2.out.1.bytes.take 12) (by rw [List.length_take]; unfold made; rw [hd_length]; rfl)
    rw [show (made [98] [one 0]).take 12 = _ from made12 _, str12] at this
    exact this
  have HN1 : Hid (Calls Tryd.prog 7 #[.slice (some ⟨g, 0, none⟩) 512 512, .int .i64 99] w3 fun e w' => ∃ g' cap', e = .returned (.tuple #[.slice (some ⟨g', 0, none⟩) 1 cap', .int .i64 0]) ∧ OwnI w' g' cap' [98] ∧ Below w3.heap.size w3 w') := by
    refine (nums_any w3 _ 512 512 _ 99 (by unfold made; rw [hd_length]) H2.out.1.bytes (by omega) (HT.out _ H2.out.2)).mono ?_
    rintro e w' ⟨v, rfl, h2, h3⟩
    unfold NumsAt at h2
    rw [known_l] at h2
    rw [known_e]
    rcases h2 with ⟨h4, _⟩ | ⟨g', cap', rfl, h5, _⟩
    · cases h4
    · exact ⟨g', cap', rfl, h5, h3⟩
  go_upto_region 5 with (first
    | (go_at_call 10; refine (num_any _ _).mono ?_; rintro e w' ⟨rfl, rfl⟩)
    | (go_at_call 7; refine HN1.out.mono ?_; rintro e w4 ⟨g4, cap4, rfl, ho, hb⟩; have H3 : Hid (OwnI w4 g4 cap4 [98] ∧ OwnB w4 g 512 (made [98] [one 0]) ∧ Below w.heap.size w w4) := ⟨ho, H2.out.1.on hb, H2.out.2.trans (hb.mono H2.out.2.size)⟩; clear ho hb))
  clear hcell hstr
  go_upto_region 6 with (first
    | (go_at_call 8; refine (empty_any _).mono ?_; rintro e w5 ⟨g5, rfl, ho, hg, hb⟩; have H4 : Hid (OwnB w5 g5 512 zs ∧ OwnI w5 g4 cap4 [98] ∧ OwnB w5 g 512 (made [98] [one 0]) ∧ Below w.heap.size w w5) := ⟨ho, H3.out.1.on hb, H3.out.2.1.on hb, H3.out.2.2.trans (hb.mono H3.out.2.2.size)⟩; clear ho hg hb)
    | (go_at_call 7; refine (nums_zero _ g5 0 512 zs _ zs_length H4.out.1.bytes (by omega) zr_zs).mono ?_; rintro e w' ⟨rfl, rfl⟩))
  have hcell := H4.out.2.1.cell 0 (by simp)
  rw [show nth [98] 0 = 98 from rfl] at hcell
  have HG : Hid (∀ wx w', Below w.heap.size w wx → OwnB wx g 512 (made [98] [one 0]) → ∀ gb c, OwnB wx gb 512 (one c) → w' = wx.alloc (.cells #[.slice (some ⟨gb, 0, none⟩) 512 512] 23) → Calls Tryd.prog 12 #[.slice (some ⟨g, 0, none⟩) 512 512, .int .i64 99, .slice (some ⟨wx.heap.size, 0, none⟩) 1 1] w' fun e w'' => e = .returned (.bool (good (made [98] [one 0]) 99 [one c])) ∧ OwnB w'' g 512 (made [98] [one 0]) ∧ Below w.heap.size w w'') := by
    intro wx w' hx ho gb c hc e
    subst e
    have ha : Below wx.heap.size wx (wx.alloc (.cells #[.slice (some ⟨gb, 0, none⟩) 512 512] 23)) := (Below.refl _ _).alloc (Nat.le_refl _) _
    have hx2 := hx.trans (ha.mono hx.size)
    refine (good_any _ _ _ 512 512 1 1 (made [98] [one 0]) [one c] 99 (by unfold made; rw [hd_length]) rfl (ho.on ha).bytes (by omega) (data1 wx _ 512 512 (one c) (one_length c) hc.bytes (fun e => by cases e)) (HT.out _ hx2)).mono ?_
    rintro e w'' ⟨rfl, hb⟩
    exact ⟨rfl, (ho.on ha).on hb, hx2.trans (hb.mono hx2.size)⟩
  go_wp2_with (first
    | (go_at_call 10; refine (num_any _ _).mono ?_; rintro e w' ⟨rfl, rfl⟩)
    | (go_at_call 12; have hh := H7.out.1; clear hh; refine (HG.out w8 _ H7.out.2.2 H7.out.2.1 g8 1 H7.out.1 rfl).mono ?_; rintro e w9 ⟨rfl, ho, hb⟩; rw [known_g1]; have H8 : Hid (Below w.heap.size w w9) := hb; clear ho hb)
    | (go_at_call 11; have hh := H6.out.1; clear hh; refine (block_any _ 1 (by omega)).mono ?_; rintro e w8 ⟨g8, rfl, ho, hg, hb⟩; have H7 : Hid (OwnB w8 g8 512 (one 1) ∧ OwnB w8 g 512 (made [98] [one 0]) ∧ Below w.heap.size w w8) := ⟨ho, H6.out.1.on hb, H6.out.2.trans (hb.mono H6.out.2.size)⟩; clear ho hg hb)
    | (go_at_call 12; refine (HG.out w6 _ H5.out.2.2 H5.out.2.1 g6 0 H5.out.1 rfl).mono ?_; rintro e w7 ⟨rfl, ho, hb⟩; rw [known_g0]; have H6 : Hid (OwnB w7 g 512 (made [98] [one 0]) ∧ Below w.heap.size w w7) := ⟨ho, hb⟩; clear ho hb)
    | (go_at_call 11; refine (block_any _ 0 (by omega)).mono ?_; rintro e w6 ⟨g6, rfl, ho, hg, hb⟩; have H5 : Hid (OwnB w6 g6 512 (one 0) ∧ OwnB w6 g 512 (made [98] [one 0]) ∧ Below w.heap.size w w6) := ⟨ho, H4.out.2.2.1.on hb, H4.out.2.2.2.trans (hb.mono H4.out.2.2.2.size)⟩; clear ho hg hb))
  go_ret
  exact ⟨rfl, H8.out⟩
end Go.Proofs.YtdkolofmnbbocaaDoor
