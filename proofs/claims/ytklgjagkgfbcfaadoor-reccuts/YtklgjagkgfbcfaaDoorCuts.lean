import Derived.Test.YtklgjagkgfbcfaaDoorPlays
import Derived.Deep.DeepCutAuto
namespace Go.Proofs.YtklgjagkgfbcfaaDoor
open Go.RowKit Rec

set_option maxRecDepth 100000 in
set_option maxHeartbeats 2000000 in
theorem cuts_any (w : World) (a0 : Option Addr) (n c : Nat) (l : List Int) (V : Int) (s : ByteArray) (hn : l.length = n) (hB : Bytes w a0 l) (hz : a0 = none → c = 0) (hnc : n ≤ c) (hT : TabAt w) (hV : 0 ≤ V ∧ V < 18446744073709551616) (hs : s.size ≤ 9223372036854775807) :
    Calls Tryd.prog 6 #[.slice a0 n c, .int .u64 V, .string s] w fun e w' => e = .returned (.bool true) ∧ Below w.heap.size w w' := by
  have HT : Hid (TabAt w) := hT
  have hlen := hB.len
  rw [hn] at hlen
  obtain ⟨m, l', hm1, hm2, hm24, hmn⟩ : ∃ (m : Nat) (l' : List Int), l'.length = m ∧ Bytes w a0 l' ∧ m ≤ 24 ∧ ((n ≤ 24 ∧ m = n) ∨ (24 < n ∧ m = 24)) := by
    by_cases h : n ≤ 24
    · exact ⟨n, l, hn, hB, h, .inl ⟨h, rfl⟩⟩
    · exact ⟨24, l.take 24, by rw [List.length_take]; omega, hB.take 24, by omega, .inr ⟨by omega, rfl⟩⟩
  have HB : Hid (Bytes w a0 l') := hm2
  have HL : Hid (l'.length = m) := hm1
  have HZ : Hid (a0 = none → c = 0) := hz
  have hsome : n ≠ 0 → ∃ p, a0 = some p := fun h0 => by
    rcases hB.at_ with e | ⟨b, off, e, _⟩
    · rw [e] at hn; simp at hn; omega
    · exact ⟨_, e⟩
  clear hT hB hm1 hm2 hn
  go_enter Tryd.func6, Tryd.ntmps6
  go_wp2_with fail
  refine (fixed_any w HT.out).mono ?_
  rintro e w1 ⟨rfl, hb⟩
  have HB1 : Hid (Below w.heap.size w w1) := hb
  clear hb
  rcases hmn with ⟨h1, hm⟩ | ⟨h1, hm⟩
  case' inl =>
    have HM : Hid (m = n) := hm
    clear hm
    go_upto_region 5 with fail
    rw [← HM.out]
  case' inr =>
    have HM : Hid (m = 24) := hm
    clear hm
    obtain ⟨p, rfl⟩ := hsome (by omega)
    have h24 : decide ((24 : Int) < (n : Int)) = true := decide_eq_true (by omega)
    go_upto_region 5 with fail
    rw [← HM.out]
    clear hsome
    generalize some p = a0 at *
  all_goals
    clear HM h1 hlen
    go_wp2_with fail
    go_loopw [7] (fun s7 wr => ∃ A : Int, -1 ≤ A ∧ A ≤ m + 2 ∧ s7 = .int .i64 A ∧ Below w.heap.size w wr) (fun s7 _ => ((m : Int) + 2 - intOf s7).toNat)
    case atStart => exact ⟨-1, by omega, by omega, rfl, HB1.out⟩
    case round =>
      obtain ⟨A, hA1, hA2, rfl, hb⟩ := hrel
      have HBr : Hid (Below w.heap.size w wr) := hb
      clear hb
      by_cases hA : A ≤ (m : Int) + 1
      · have hA' : decide (A ≤ (m : Int) + 1) = true := decide_eq_true hA
        go_wp2_with fail
        go_loopw [8] (fun s8 ws => ∃ N : Int, -1 ≤ N ∧ N ≤ 10 ∧ s8 = .int .i64 N ∧ Below w.heap.size w ws) (fun s8 _ => (10 - intOf s8).toNat)
        case atStart => exact ⟨-1, by omega, by omega, rfl, HBr.out⟩
        case round =>
          obtain ⟨N, hN1, hN2, rfl, hb⟩ := hrel
          have HBs : Hid (Below w.heap.size w wr) := hb
          clear hb
          by_cases hN : N ≤ 9
          · have hN' : decide (N ≤ 9) = true := decide_eq_true hN
            go_wp2_with fail
            go_loopw [9] (fun s9 wt => ∃ k : Int, 0 ≤ k ∧ k ≤ 5 ∧ s9 = .int .i64 k ∧ Below w.heap.size w wt) (fun s9 _ => (5 - intOf s9).toNat)
            case atStart => exact ⟨0, by omega, by omega, rfl, HBs.out⟩
            case round =>
              obtain ⟨k, hk1, hk2, rfl, hb⟩ := hrel
              have HBt : Hid (Below w.heap.size w wr) := hb
              clear hb
              by_cases hk : k < 5
              · generalize hw0 : wr = w3 at *
                clear hw0
                have HBA : Hid (Bytes w3 a0 l') := HB.out.on HBt.out
                go_wp2_with (first
                  | (at_builtin; refine wp_app (w := World.alloc w3 _) rfl (.tmp 34) (.tmp 35) rfl w3.heap.size w3.heap.size 0 0 [] l' rfl rfl (own_empty (heap_alloc_new _ _)) (Nat.le_refl _) (by simp) a0 m c rfl HL.out (HBA.out.on ((Below.refl _ _).alloc (Nat.le_refl _) _)) HZ.out (by omega) ?_; intro g4 cap4 w4 hg4 ho4 hgr4; have HG4 : Hid (w3.heap.size ≤ g4) := hg4; have HO4 : Hid (OwnB w4 g4 cap4 l') := ho4; have q1 : Below w3.heap.size w3 (w3.alloc (.cells #[] 5)) := (Below.refl _ _).alloc (Nat.le_refl _) _; have q2 : Below w3.heap.size (w3.alloc (.cells #[] 5)) w4 := below_of hgr4 (Nat.le_refl _) (by simp); have HB4 : Hid (Below w3.heap.size w3 w4) := q1.trans q2; clear q1 q2 hg4 ho4 hgr4; have HBC : Hid (Bytes w4 a0 l') := HBA.out.on HB4.out; simp only [Nat.zero_add])
                  | (at_builtin; refine wp_app (w := World.alloc w4 _) rfl (.tmp 37) (.tmp 38) rfl w4.heap.size w4.heap.size 0 0 [] l' rfl rfl (own_empty (heap_alloc_new _ _)) (Nat.le_refl _) (by simp) a0 m c rfl HL.out (HBC.out.on ((Below.refl _ _).alloc (Nat.le_refl _) _)) HZ.out (by omega) ?_; intro g5 cap5 w5 hg5 ho5 hgr5; have HG5 : Hid (w4.heap.size ≤ g5) := hg5; have HO5 : Hid (OwnB w5 g5 cap5 l') := ho5; have q1 : Below w4.heap.size w4 (w4.alloc (.cells #[] 5)) := (Below.refl _ _).alloc (Nat.le_refl _) _; have q2 : Below w4.heap.size (w4.alloc (.cells #[] 5)) w5 := below_of hgr5 (Nat.le_refl _) (by simp); have HB5 : Hid (Below w4.heap.size w4 w5) := q1.trans q2; clear q1 q2 hg5 ho5 hgr5; simp only [Nat.zero_add]))
                have x1 : g4 < w4.heap.size := HO4.out.lt
                have x2 : m ≤ cap4 := by have := HO4.out.room; rw [HL.out] at this; exact this
                have x3 : m ≤ cap5 := by have := HO5.out.room; rw [HL.out] at this; exact this
                have HPs : Hid (0 < w.heap.size ∧ w.heap.size ≤ w3.heap.size ∧ w3.heap.size ≤ w4.heap.size ∧ w4.heap.size ≤ w5.heap.size) := ⟨HT.out.size, HBt.out.size, HB4.out.size, HB5.out.size⟩
                have HBw : Hid (Below w.heap.size w w5) := (HBt.out.trans (HB4.out.mono HPs.out.2.1)).trans (HB5.out.mono (Nat.le_trans HPs.out.2.1 HPs.out.2.2.1))
                refine (plays_any w5 g4 g5 cap4 cap5 m cap4 cap5 l' [] [] k A N V s HL.out (by rw [List.append_nil]; exact HO4.out.on HB5.out) (by rw [List.append_nil]; exact HO5.out) (Nat.ne_of_lt (Nat.lt_of_lt_of_le x1 HG5.out)) x2 x3 (HT.out.on HBw.out) (Nat.lt_of_lt_of_le HPs.out.1 (Nat.le_trans HPs.out.2.1 HG4.out)) (Nat.lt_of_lt_of_le HPs.out.1 (Nat.le_trans (Nat.le_trans HPs.out.2.1 HPs.out.2.2.1) HG5.out)) (by omega) (by omega) hV hs).mono ?_
                rintro e w6 ⟨rfl, l2, hl2, o4, o5, kp⟩
                rw [List.append_nil] at o4 o5
                have HO6 : Hid (OwnB w6 g4 cap4 l2) := o4
                have HO7 : Hid (OwnB w6 g5 cap5 l2) := o5
                have HL2 : Hid (l2.length = m) := hl2
                have HBx : Hid (Below w.heap.size w w6) := HBw.out.trans (kp.below (Nat.le_trans HPs.out.2.1 HG4.out) (Nat.le_trans (Nat.le_trans HPs.out.2.1 HPs.out.2.2.1) HG5.out) HBw.out.size)
                clear o4 o5 kp hl2
                go_wp2_with fail
                refine (same_any w6 _ _ m cap4 m cap5 l2 l2 HL2.out HL2.out HO6.out.bytes HO7.out.bytes).mono ?_
                rintro e w7 ⟨rfl, hb⟩
                rw [decide_eq_true rfl]
                have HBy : Hid (Below w.heap.size w w7) := HBx.out.trans (hb.mono HBx.out.size)
                clear hb
                go_wp2
                first
                  | exact ⟨⟨k + 1, by omega, by omega, rfl, HBy.out⟩, by simp [intOf]; omega⟩
                  | (refine ⟨?_, by simp [intOf]; omega⟩
                     (repeat apply Exists.intro)
                     exact ⟨⟨k + 1, by omega, by omega, rfl, HBy.out⟩, rfl⟩)
              · go_wp2
                exact ⟨⟨N + 1, by omega, by omega, rfl, HBt.out⟩, by simp [intOf]; omega⟩
          · go_wp2
            exact ⟨⟨A + 1, by omega, by omega, rfl, HBs.out⟩, by simp [intOf]; omega⟩
      · go_wp2
        go_ret
        exact ⟨rfl, HBr.out⟩
end Go.Proofs.YtklgjagkgfbcfaaDoor
