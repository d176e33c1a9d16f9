import Derived.Test.YtklffjagdhbjcaaDoorOwn
import Derived.Deep.QuietTactic
import Derived.BigQuiet
import Derived.BigRegion
namespace Go.Proofs.YtklffjagdhbjcaaDoor
open Go.RowKit
open Crc (W)

theorem known_tab (w : World) (hT : TabAt w) : Calls Tryd.prog 8 #[] w fun e w' => e = .returned (.bool true) ∧ Below w.heap.size w w' ∧ TabAt w' := by
  refine (known_any w hT).mono ?_
  rintro e w1 ⟨rfl, hb⟩
  exact ⟨rfl, hb, hT.on hb⟩
theorem Bytes.on {w w' : World} {a : Option Addr} {l : List Int} (h : Bytes w a l) (hb : Below w.heap.size w w') : Bytes w' a l := by
  refine ⟨h.len, h.wf, ?_⟩
  rcases h.at_ with e | ⟨b, off, rfl, hc⟩
  · exact .inl e
  · refine .inr ⟨b, off, rfl, fun i hi => ?_⟩
    rw [hb.cell (p := ⟨b, off + i, none⟩) (block_lt_of_cell (hc i hi))]; exact hc i hi

set_option maxRecDepth 100000 in
set_option maxHeartbeats 800000 in
theorem burst_out (w : World) (a0 : Option Addr) (n c : Nat) (l : List Int) (at_ : Int) (M : W) (hn : l.length = n) (hT : TabAt w) (hB : Bytes w a0 l) (hz : a0 = none → c = 0) (h47 : n ≤ 140737488351232)
    (hat : at_ < 0 ∨ 8 * (n : Int) ≤ at_) :
    Calls Tryd.prog 6 #[.slice a0 n c, .int .i64 at_, .int .u32 (U M)] w fun e w' => e = .returned (.bool true) ∧ Below w.heap.size w w' := by
  have HT : Hid (TabAt w) := hT
  have HB : Hid (Bytes w a0 l) := hB
  have HZ : Hid (a0 = none → c = 0) := hz
  have HN : Hid (l.length = n) := hn
  have HA : Hid (at_ < 0 ∨ 8 * (n : Int) ≤ at_) := hat
  clear hT hB hz hn hat
  go_enter Tryd.func6, Tryd.ntmps6
  go_wp2_with fail
  refine (known_tab w HT.out).mono ?_
  rintro e w1 ⟨rfl, hb1, ht1⟩
  go_wp2_with (at_builtin; refine wp_copy w1 rfl _ _ rfl rfl a0 n c l rfl HN.out (HB.out.on hb1) HZ.out h47 ?_; intro g cap w2 hg hown hb2)
  have HO : Hid (OwnB w2 g cap l) := hown
  have HB2 : Hid (Below w.heap.size w w2) := chain hb1 hb2
  have HT2 : Hid (TabAt w2) := HT.out.on HB2.out
  have HBB : Hid (Bytes w2 a0 l) := HB.out.on HB2.out
  clear hown hb1 hb2 ht1 hg
  have hge : ¬ (at_ < 0) → 8 * (n : Int) ≤ at_ := fun h => HA.out.resolve_left h
  go_loop [8, 9] (fun t i => ∃ k : Nat, k ≤ 32 ∧ i = .int .i64 k ∧ t = .bool false) (fun _ i => 32 - (intOf i).toNat)
  case atStart => exact ⟨0, Nat.zero_le _, rfl, rfl⟩
  case round =>
    obtain ⟨k, hk, rfl, rfl⟩ := hrel
    by_cases hlt : k < 32
    · by_cases hneg : at_ < 0
      · clear hge
        go_wp2
        go_round
        case rel => exact ⟨k + 1, by omega, by go_num, rfl⟩
        case measure => simp [intOf]; omega
      · have hge' := hge hneg
        clear hge
        go_wp2
        go_round
        case rel => exact ⟨k + 1, by omega, by go_num, rfl⟩
        case measure => simp [intOf]; omega
    · clear hge
      go_wp2_with fail
      refine (of_any _ _ n cap l HN.out HT2.out HO.out.bytes).mono ?_
      rintro e w3 ⟨rfl, rfl⟩
      go_wp2_with fail
      refine (of_any _ _ n c l HN.out HT2.out HBB.out).mono ?_
      rintro e w4 ⟨rfl, rfl⟩
      go_wp2
      go_ret
      exact ⟨rfl, HB2.out⟩

/-- what holds at each round's head -/
structure BRel (w wr : World) (g cap n N k : Nat) (l own : List Int) (M : W) : Prop where
  mine : OwnB wr g cap own
  len : own.length = n
  below : Below w.heap.size w wr
  crc : Crc.crc own = Crc.crc l ^^^ Crc.pw Crc.pl N (Crc.low M (min k N))

theorem brel_skip1 {w wr : World} {g cap n N k : Nat} {l own : List Int} {M : W} (h : BRel w wr g cap n N k l own M) (hk : N ≤ k) : BRel w wr g cap n N (k + 1) l own M :=
  ⟨h.mine, h.len, h.below, by rw [h.crc, Nat.min_eq_right hk, Nat.min_eq_right (by omega)]⟩
theorem low_skip {M : W} {k : Nat} (h : ¬ M.getLsbD k = true) : Crc.low M (k + 1) = Crc.low M k := by rw [Crc.low_succ, if_neg h, BitVec.xor_zero]
theorem brel_skip2 {w wr : World} {g cap n N k : Nat} {l own : List Int} {M : W} (h : BRel w wr g cap n N k l own M) (hk : k < N) (hb : ¬ M.getLsbD k = true) : BRel w wr g cap n N (k + 1) l own M :=
  ⟨h.mine, h.len, h.below, by rw [h.crc, Nat.min_eq_left (by omega), Nat.min_eq_left (by omega), low_skip hb]⟩
theorem split_at (own : List Int) (i : Nat) (h : i < own.length) : own = own.take i ++ nth own i :: own.drop (i + 1) := by
  have e : nth own i = own[i] := by simp [nth, List.getD, h]
  rw [e, List.getElem_cons_drop]; simp
theorem set_at (own : List Int) (i : Nat) (d : Int) (h : i < own.length) : own.set i d = own.take i ++ d :: own.drop (i + 1) := List.set_eq_take_append_cons_drop .. |>.trans (by rw [if_pos h])
theorem brel_flip {w wr : World} {g cap n N k i r : Nat} {l own : List Int} {M : W} {d : Int} (h : BRel w wr g cap n N k l own M) (hg : w.heap.size ≤ g) (hk : k < N) (hk32 : k < 32) (hb : M.getLsbD k = true)
    (hi : i < n) (hr : r < 8) (hN : N - k = 8 * (n - i) - r) (hd : 0 ≤ d ∧ d < 256) (hx : BitVec.ofInt 32 d = BitVec.ofInt 32 (nth own i) ^^^ (1#32 <<< r)) :
    BRel w (wr.setCell ⟨g, i, none⟩ (.int .u8 d)) g cap n N (k + 1) l (own.set i d) M := by
  have hl := h.len
  refine ⟨h.mine.set i d (by omega) hd, by rw [List.length_set]; exact hl, h.below.setCell hg _, ?_⟩
  rw [Nat.min_eq_left (by omega), set_at own i d (by omega)]
  refine Crc.burst_step (own.take i) (own.drop (i + 1)) (nth own i) d r N k (Crc.crc l) M hr hx hk32 ?_ hk hb ?_
  · rw [hN, List.length_drop, hl]; congr 2; omega
  · rw [← split_at own i (by omega), h.crc, Nat.min_eq_left (by omega)]

theorem flip_byte (c : Int) (r : Nat) (hc : 0 ≤ c ∧ c < 256) (hr : r < 8) : (0 ≤ bits .xor .u8 c ((2 : Int) ^ r % 256) ∧ bits .xor .u8 c ((2 : Int) ^ r % 256) < 256) ∧
    BitVec.ofInt 32 (bits .xor .u8 c ((2 : Int) ^ r % 256)) = BitVec.ofInt 32 c ^^^ (1#32 <<< r) := by
  obtain ⟨C, rfl⟩ := Int.eq_ofNat_of_zero_le hc.1
  have hC : C < 2 ^ 8 := by omega
  have h2 : 2 ^ r < 2 ^ 8 := Nat.pow_lt_pow_right (by decide) hr
  have e : (2 : Int) ^ r % 256 = ((2 ^ r : Nat) : Int) := by
    rw [show (2 : Int) ^ r = ((2 ^ r : Nat) : Int) by rw [Int.natCast_pow]; rfl]
    have h3 : ((2 ^ r : Nat) : Int) < ((256 : Nat) : Int) := Int.ofNat_lt.2 h2
    exact Int.emod_eq_of_lt (Int.natCast_nonneg _) h3
  have hlt : C ^^^ 2 ^ r < 2 ^ 8 := Nat.xor_lt_two_pow hC h2
  rw [e, u8_xor_nat C (2 ^ r) (by omega) (by omega)]
  refine ⟨by omega, ?_⟩
  rw [BitVec.ofInt_natCast, BitVec.ofInt_natCast]
  apply BitVec.eq_of_toNat_eq
  rw [BitVec.toNat_xor, BitVec.toNat_ofNat, BitVec.toNat_ofNat, BitVec.toNat_shiftLeft, Nat.shiftLeft_eq]
  rw [Nat.mod_eq_of_lt (by omega), Nat.mod_eq_of_lt (by omega)]
  rw [show (1#32).toNat * 2 ^ r = 2 ^ r by simp, Nat.mod_eq_of_lt (by omega)]
theorem brel_drew {w wr : World} {g cap n N k : Nat} {l own : List Int} {M : W} (h : BRel w wr g cap n N k l own M) : BRel w wr.drew g cap n N k l own M :=
  ⟨⟨h.mine.row, h.mine.len, h.mine.room, h.mine.wf⟩, h.len, h.below.drew, h.crc⟩

set_option maxRecDepth 100000 in
set_option maxHeartbeats 1600000 in
theorem burst_in (w : World) (a0 : Option Addr) (n c : Nat) (l : List Int) (A : Nat) (M : W) (hn : l.length = n) (hT : TabAt w) (hB : Bytes w a0 l) (hz : a0 = none → c = 0) (h47 : n ≤ 140737488351232)
    (hat : A < 8 * n) :
    Calls Tryd.prog 6 #[.slice a0 n c, .int .i64 A, .int .u32 (U M)] w fun e w' => e = .returned (.bool true) ∧ Below w.heap.size w w' := by
  have HT : Hid (TabAt w) := hT
  have HB : Hid (Bytes w a0 l) := hB
  have HZ : Hid (a0 = none → c = 0) := hz
  have HN : Hid (l.length = n) := hn
  clear hT hB hz hn
  go_enter Tryd.func6, Tryd.ntmps6
  go_wp2_with fail
  refine (known_tab w HT.out).mono ?_
  rintro e w1 ⟨rfl, hb1, ht1⟩
  go_wp2_with (at_builtin; refine wp_copy w1 rfl _ _ rfl rfl a0 n c l rfl HN.out (HB.out.on hb1) HZ.out h47 ?_; intro g cap w2 hg hown hb2)
  have HR : Hid (BRel w w2 g cap n (8 * n - A) 0 l l M) := ⟨hown, HN.out, chain hb1 hb2, by rw [Nat.zero_min, Crc.low_none, (Crc.pl_lin.pw _).zero, BitVec.xor_zero]⟩
  have hgw : w.heap.size ≤ g := Nat.le_trans hb1.size hg
  clear hown hb1 hb2 ht1 hg
  go_loopw [8, 9] (fun t i wr => ∃ (k : Nat) (own : List Int), k ≤ 32 ∧ i = .int .i64 k ∧ BRel w wr g cap n (8 * n - A) k l own M ∧ t = .bool (decide (Crc.low M (min k (8 * n - A)) ≠ 0#32))) (fun _ i _ => 32 - (intOf i).toNat)
  case atStart => exact ⟨0, l, Nat.zero_le _, rfl, HR.out, by rw [Nat.zero_min, Crc.low_none]; rfl⟩
  case round =>
    obtain ⟨k, own, hk, rfl, hr, rfl⟩ := hrel
    have HR1 : Hid (BRel w wr g cap n (8 * n - A) k l own M) := hr
    clear hr
    have g1 : ¬ (A : Int) < 0 := by omega
    have g2 : ¬ 8 * (n : Int) ≤ (A : Int) := by omega
    by_cases hlt : k < 32
    · obtain ⟨q, hq⟩ : ∃ q : Nat, (A : Int) + (k : Int) = (q : Int) := ⟨A + k, by omega⟩
      by_cases hend : 8 * n ≤ q
      · have g3 : 8 * (n : Int) ≤ (q : Int) := by omega
        have HR2 : Hid (BRel w wr g cap n (8 * n - A) (k + 1) l own M) := brel_skip1 HR1.out (by omega)
        generalize ht : decide (Crc.low M (min k (8 * n - A)) ≠ 0#32) = t
        have HT1 : Hid (decide (Crc.low M (min (k + 1) (8 * n - A)) ≠ 0#32) = t) := by show _ = _; rw [← ht, Nat.min_eq_right (by omega), Nat.min_eq_right (by omega)]
        clear ht
        go_wp2
        go_roundw
        case rel => exact ⟨k + 1, own, by omega, by go_num, HR2.out, by rw [HT1.out]⟩
        case measure => simp [intOf]; omega
      · have g3 : ¬ 8 * (n : Int) ≤ (q : Int) := by omega
        by_cases hbit : M.getLsbD k = true
        · have hz0 : (bits .and .u32 (U M / (2 : Int) ^ k) 1 == 0) = false := by rw [bit_test, if_pos hbit]; rfl
          obtain ⟨i, hi⟩ : ∃ i : Nat, (q : Int) / 8 = (i : Int) := ⟨q / 8, by omega⟩
          obtain ⟨r, hr8⟩ : ∃ r : Nat, (q : Int) % 8 = (r : Int) := ⟨q % 8, by omega⟩
          have hin : i < n := by omega
          have hc := HR1.out.mine.cell i (by rw [HR1.out.len]; omega)
          have hf := HR1.out.mine.frozen i
          have b1 : (0 : Int) ≤ i ∧ (i : Int) < n := by omega
          have hfl := flip_byte (nth own i) r (HR1.out.mine.wf i) (by omega)
          generalize hd : bits .xor .u8 (nth own i) ((2 : Int) ^ r % 256) = d at hfl
          have HR2 : Hid (BRel w (wr.setCell ⟨g, i, none⟩ (.int .u8 d)).drew g cap n (8 * n - A) (k + 1) l (own.set i d) M) :=
            brel_drew (brel_flip HR1.out hgw (by omega) hlt hbit hin (r := r) (by omega) (by omega) hfl.1 hfl.2)
          have HT1 : Hid (decide (Crc.low M (min (k + 1) (8 * n - A)) ≠ 0#32) = true) := by
            show _ = _
            rw [Nat.min_eq_left (by omega), decide_eq_true_iff]
            intro h0
            have := (Crc.low_zero_succ M k h0).2 hlt
            rw [this] at hbit; cases hbit
          clear hfl
          generalize ht : decide (Crc.low M (min k (8 * n - A)) ≠ 0#32) = t
          clear ht
          go_wp2
          go_region
          go_wp2
          go_roundw
          case rel => exact ⟨k + 1, own.set i d, by omega, by go_num, HR2.out, by rw [HT1.out]⟩
          case measure => simp [intOf]; omega
        · have hz0 : (bits .and .u32 (U M / (2 : Int) ^ k) 1 == 0) = true := by rw [bit_test, if_neg hbit]; rfl
          have HR2 : Hid (BRel w wr g cap n (8 * n - A) (k + 1) l own M) := brel_skip2 HR1.out (by omega) hbit
          generalize ht : decide (Crc.low M (min k (8 * n - A)) ≠ 0#32) = t
          have HT1 : Hid (decide (Crc.low M (min (k + 1) (8 * n - A)) ≠ 0#32) = t) := by show _ = _; rw [← ht, Nat.min_eq_left (by omega), Nat.min_eq_left (by omega), low_skip hbit]
          clear ht
          go_wp2
          go_roundw
          case rel => exact ⟨k + 1, own, by omega, by go_num, HR2.out, by rw [HT1.out]⟩
          case measure => simp [intOf]; omega
    · obtain rfl : k = 32 := by omega
      have HBl : Hid (Below w.heap.size w wr) := HR1.out.below
      have HT2 : Hid (TabAt wr) := HT.out.on HBl.out
      have HBB : Hid (Bytes wr a0 l) := HB.out.on HBl.out
      have HE := Crc.burst_end (Crc.crc l) M (8 * n - A) (min 32 (8 * n - A))
      rw [← HR1.out.crc] at HE
      by_cases hzero : Crc.low M (min 32 (8 * n - A)) = 0#32
      · have heq : (U (Crc.crc own) == U (Crc.crc l)) = true := by rw [HE.2 hzero]; simp
        have ht : decide (Crc.low M (min 32 (8 * n - A)) ≠ 0#32) = false := by simp [hzero]
        rw [ht]
        clear HE ht hzero
        go_wp2_with fail
        refine (of_any _ _ n cap own HR1.out.len HT2.out HR1.out.mine.bytes).mono ?_
        rintro e w3 ⟨rfl, rfl⟩
        go_wp2_with fail
        refine (of_any _ _ n c l HN.out HT2.out HBB.out).mono ?_
        rintro e w4 ⟨rfl, rfl⟩
        go_wp2
        go_ret
        exact ⟨rfl, HBl.out⟩
      · have heq : (U (Crc.crc own) == U (Crc.crc l)) = false := by
          rw [beq_eq_false_iff_ne]
          intro h
          exact hzero (HE.1 (U_inj h))
        have ht : decide (Crc.low M (min 32 (8 * n - A)) ≠ 0#32) = true := by simp [hzero]
        rw [ht]
        clear HE ht hzero
        go_wp2_with fail
        refine (of_any _ _ n cap own HR1.out.len HT2.out HR1.out.mine.bytes).mono ?_
        rintro e w3 ⟨rfl, rfl⟩
        go_wp2_with fail
        refine (of_any _ _ n c l HN.out HT2.out HBB.out).mono ?_
        rintro e w4 ⟨rfl, rfl⟩
        go_wp2
        go_ret
        exact ⟨rfl, HBl.out⟩
theorem burst_any (w : World) (a0 : Option Addr) (n c : Nat) (l : List Int) (at_ : Int) (M : W) (hn : l.length = n) (hT : TabAt w) (hB : Bytes w a0 l) (hz : a0 = none → c = 0) (h47 : n ≤ 140737488351232) :
    Calls Tryd.prog 6 #[.slice a0 n c, .int .i64 at_, .int .u32 (U M)] w fun e w' => e = .returned (.bool true) ∧ Below w.heap.size w w' := by
  by_cases hat : at_ < 0 ∨ 8 * (n : Int) ≤ at_
  · exact burst_out w a0 n c l at_ M hn hT hB hz h47 hat
  · obtain ⟨A, rfl⟩ := Int.eq_ofNat_of_zero_le (show 0 ≤ at_ by omega)
    exact burst_in w a0 n c l A M hn hT hB hz h47 (by omega)
end Go.Proofs.YtklffjagdhbjcaaDoor
