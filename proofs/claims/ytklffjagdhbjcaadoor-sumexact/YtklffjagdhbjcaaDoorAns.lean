import Derived.Test.YtklffjagdhbjcaaDoorKept
import Derived.Test.YtklffjagdhbjcaaDoorRefJT
import Derived.Deep.RegionWith
import Derived.Deep.DeepCutAuto
namespace Go.Proofs.YtklffjagdhbjcaaDoor
open Go.RowKit
open Crc (W)

/-- a question's cells -/
structure Fields (w : World) (N : Nat) (kind n at_ : Int) (A B : W) (v5 v6 : Value) : Prop where
  f0 : w.cell? ⟨N, 0, none⟩ = some (.int .i64 kind)
  f1 : w.cell? ⟨N, 1, none⟩ = some (.int .u32 (U A))
  f2 : w.cell? ⟨N, 2, none⟩ = some (.int .u32 (U B))
  f3 : w.cell? ⟨N, 3, none⟩ = some (.int .i64 n)
  f4 : w.cell? ⟨N, 4, none⟩ = some (.int .i64 at_)
  f5 : w.cell? ⟨N, 5, none⟩ = some v5
  f6 : w.cell? ⟨N, 6, none⟩ = some v6
theorem fields_of {w wx : World} {kind n at_ : Int} {A B : W} {v5 v6 : Value} (h : Below (w.heap.size + 1) (w.alloc (.cells #[.int .i64 kind, .int .u32 (U A), .int .u32 (U B), .int .i64 n, .int .i64 at_, v5, v6] 40)) wx) :
    Fields wx w.heap.size kind n at_ A B v5 v6 := by
  have hh : wx.heap[w.heap.size]? = some (.cells #[.int .i64 kind, .int .u32 (U A), .int .u32 (U B), .int .i64 n, .int .i64 at_, v5, v6] 40) := by rw [h.block _ (by omega)]; exact heap_alloc_new _ _
  constructor <;> (rw [cell_of_row _ _ _ _ _ _ hh]; rfl)
theorem roomy_in (W0 wx : World) (a : Option Addr) (n c : Nat) (l : List Int) (hx : Below W0.heap.size W0 wx) (hn : l.length = n) (hB : Bytes W0 a l) (hz : a = none → c = 0) (h47 : n ≤ 140737488351232) :
    Calls Tryd.prog 16 #[.slice a n c] wx fun e w' => ∃ g cap, e = .returned (.slice (some ⟨g, 0, none⟩) n cap) ∧ OwnB w' g cap (l ++ marks) ∧ Below W0.heap.size W0 w' ∧ Below wx.heap.size wx w' := by
  refine (roomy_any wx a n c l hn (hB.on hx) hz h47).mono ?_
  rintro e w' ⟨g, cap, rfl, ho, hb⟩
  exact ⟨g, cap, rfl, ho, chain hx hb, hb⟩
structure Two (W0 wx : World) (g1 c1 g2 c2 : Nat) (l1 l2 : List Int) : Prop where
  below : Below W0.heap.size W0 wx
  o1 : OwnB wx g1 c1 (l1 ++ marks)
  o2 : OwnB wx g2 c2 (l2 ++ marks)

theorem Two.more {W0 wx w' : World} {g1 c1 g2 c2 : Nat} {l1 l2 : List Int} (h : Two W0 wx g1 c1 g2 c2 l1 l2) (hb : Below wx.heap.size wx w') : Two W0 w' g1 c1 g2 c2 l1 l2 :=
  ⟨chain h.below hb, h.o1.below hb h.o1.lt, h.o2.below hb h.o2.lt⟩
theorem front {w : World} {g cap : Nat} {l : List Int} (h : OwnB w g cap (l ++ marks)) : Bytes w (some ⟨g, 0, none⟩) l := by
  have := h.bytes.take l.length
  rwa [List.take_left' rfl] at this
theorem join_bad (w : World) (a b : W) (n : Int) (h : n < 0 ∨ 1099511627776 < n) :
    Calls Tryd.prog 10 #[.int .u32 (U a), .int .u32 (U b), .int .i64 n] w fun e w' => e = .returned (.tuple #[.int .u32 0, .int .i64 1]) ∧ w' = w := by
  rcases h with h | h
  · exact join_neg w a b n h
  · exact join_far w a b n h

set_option maxRecDepth 100000 in
set_option maxHeartbeats 1600000 in
theorem answers_any (w : World) (kind n at_ : Int) (A B : W) (a1 a2 : Option Addr) (n1 c1 n2 c2 : Nat) (l1 l2 : List Int) (hT : TabAt w) (hn1 : l1.length = n1) (hn2 : l2.length = n2)
    (hB1 : Bytes w a1 l1) (hB2 : Bytes w a2 l2) (hz1 : a1 = none → c1 = 0) (hz2 : a2 = none → c2 = 0) (hs1 : n1 ≤ 140737488351232) (hs2 : n2 ≤ 140737488351232) :
    Calls Tryd.prog 13 #[.agg #[.int .i64 kind, .int .u32 (U A), .int .u32 (U B), .int .i64 n, .int .i64 at_, .slice a1 n1 c1, .slice a2 n2 c2]] w fun e w' => e = .returned (.bool true) ∧ Below w.heap.size w w' := by
  obtain ⟨W0, hW0⟩ : ∃ W0 : World, W0 = w.alloc (.cells #[.int .i64 kind, .int .u32 (U A), .int .u32 (U B), .int .i64 n, .int .i64 at_, .slice a1 n1 c1, .slice a2 n2 c2] 40) := ⟨_, rfl⟩
  have hsz : W0.heap.size = w.heap.size + 1 := by rw [hW0]; exact size_alloc _ _
  have HF : Hid (∀ wx, Below W0.heap.size W0 wx → Fields wx w.heap.size kind n at_ A B (.slice a1 n1 c1) (.slice a2 n2 c2)) := fun wx hx => fields_of (by rw [hW0, size_alloc] at hx; exact hx)
  have hb0 : Below w.heap.size w W0 := by rw [hW0]; exact (Below.refl _ _).alloc (Nat.le_refl _) _
  have HB0 : Hid (∀ wx, Below W0.heap.size W0 wx → Below w.heap.size w wx) := fun wx hx => hb0.trans (hx.mono (by omega))
  have HT0 : Hid (∀ wx, Below W0.heap.size W0 wx → TabAt wx) := fun wx hx => hT.on (HB0.out wx hx)
  have HA1 : Hid (Bytes W0 a1 l1) := hB1.on hb0
  have HA2 : Hid (Bytes W0 a2 l2) := hB2.on hb0
  have HZ1 : Hid (a1 = none → c1 = 0) := hz1
  have HZ2 : Hid (a2 = none → c2 = 0) := hz2
  have HN1 : Hid (l1.length = n1) := hn1
  have HN2 : Hid (l2.length = n2) := hn2
  have HW0 : Hid (W0 = w.alloc (.cells #[.int .i64 kind, .int .u32 (U A), .int .u32 (U B), .int .i64 n, .int .i64 at_, .slice a1 n1 c1, .slice a2 n2 c2] 40)) := hW0
  clear hT hB1 hB2 hz1 hz2 hn1 hn2 hW0 hb0 hsz
  go_enter Tryd.func13, Tryd.ntmps13
  go_upto_region 1 with fail
  rw [← HW0.out]
  go_cut [3, 4] (fun s3 s4 wx => ∃ g1 d1 g2 d2, s3 = .slice (some ⟨g1, 0, none⟩) n1 d1 ∧ s4 = .slice (some ⟨g2, 0, none⟩) n2 d2 ∧ Two W0 wx g1 d1 g2 d2 l1 l2)
  case first =>
    have F0 := HF.out W0 (Below.refl _ _)
    have q5 := F0.f5
    have q6 := F0.f6
    clear F0
    go_region_with (first | (go_at_call_of 16 (a1); refine (roomy_in W0 _ a1 n1 c1 l1 ?_ HN1.out HA1.out HZ1.out hs1).mono ?_; (first | exact (Below.refl _ _).drew | assumption); rintro e w' ⟨g1, d1, rfl, ho1, hb1, hx1⟩; have p6 := (HF.out _ hb1).f6) | (go_at_call_of 16 (a2); refine (roomy_in W0 _ a2 n2 c2 l2 ?_ HN2.out HA2.out HZ2.out hs2).mono ?_; (first | exact (Below.refl _ _).drew | assumption); rintro e w'' ⟨g2, d2, rfl, ho2, hb2, hx2⟩; have p5 := (HF.out _ hb2).f5))
    all_goals (go_wp2_with fail; go_meet; first | exact ⟨g1, d1, g2, d2, rfl, rfl, ⟨hb2, ho1.below hx2 ho1.lt, ho2⟩⟩ | exact ⟨g1, d1, g2, d2, rfl, rfl, ⟨hb1, ho1, ho2.below hx1 ho2.lt⟩⟩)
  case rest =>
    obtain ⟨g1, d1, g2, d2, rfl, rfl, h2⟩ := hcut
    have H2 : Hid (Two W0 wc g1 d1 g2 d2 l1 l2) := h2
    clear h2
    have HTc : Hid (TabAt wc) := HT0.out _ H2.out.below
    have HO1 : Hid (Bytes wc (some ⟨g1, 0, none⟩) l1) := front H2.out.o1
    have HO2 : Hid (Bytes wc (some ⟨g2, 0, none⟩) l2) := front H2.out.o2
    have HW1 : Hid (Bytes wc a1 l1) := HA1.out.on H2.out.below
    have HW2 : Hid (Bytes wc a2 l2) := HA2.out.on H2.out.below
    obtain ⟨q0, q1, q2, q3, q4, q5, q6⟩ := HF.out _ H2.out.below
    by_cases k0 : kind = 0
    · have kb : (kind == 0) = true := by simp [k0]
      clear q1 q2 q3 q4 q6 k0
      go_wp2_with fail
      refine (of_any _ _ n1 d1 l1 HN1.out HTc.out HO1.out).mono ?_
      rintro e w3 ⟨rfl, rfl⟩
      go_wp2_with fail
      refine (refOf_any _ a1 n1 c1 l1 HN1.out HW1.out).mono ?_
      rintro e w4 ⟨rfl, rfl⟩
      go_wp2_with fail
      refine (kept_any _ g1 d1 n1 c1 a1 l1 HN1.out H2.out.o1 HW1.out hs1).mono ?_
      rintro e w5 ⟨rfl, hb5⟩
      have HB5 : Hid (Below W0.heap.size W0 w5) := chain H2.out.below hb5
      clear hb5
      go_wp2
      go_ret
      exact ⟨rfl, HB0.out _ HB5.out⟩
    · have kb : (kind == 0) = false := by simp [k0]
      by_cases k1 : kind = 1
      · have kb1 : (kind == 1) = true := by simp [k1]
        clear q4 q5 q6 k0 k1
        by_cases hbad : n < 0 ∨ 1099511627776 < n
        · go_wp2_with fail
          refine (join_bad _ A B n hbad).mono ?_
          rintro e w3 ⟨rfl, rfl⟩
          go_wp2_with fail
          refine (rjoin_bad _ A B n hbad).mono ?_
          rintro e w4 ⟨rfl, rfl⟩
          go_wp2
          go_ret
          exact ⟨rfl, HB0.out _ H2.out.below⟩
        · go_wp2_with fail
          refine (join_ok _ A B n (by omega) (by omega) HTc.out).mono ?_
          rintro e w3 ⟨rfl, hb3⟩
          have HB3 : Hid (Below W0.heap.size W0 w3) := chain H2.out.below hb3
          obtain ⟨r0, r1, r2, r3, r4, r5, r6⟩ := HF.out _ HB3.out
          clear hb3 q0 q1 q2 q3 r0 r4 r5 r6
          go_wp2_with fail
          refine (rjoin_ok _ A B n (by omega) (by omega)).mono ?_
          rintro e w4 ⟨rfl, hb4⟩
          have HB4 : Hid (Below W0.heap.size W0 w4) := chain HB3.out hb4
          clear hb4
          go_wp2
          go_ret
          exact ⟨rfl, HB0.out _ HB4.out⟩
      · have kb1 : (kind == 1) = false := by simp [k1]
        clear q2 k0 k1
        by_cases hgood : 0 ≤ n ∧ n ≤ 1099511627776 ∧ 0 ≤ at_ ∧ n1 = n2 ∧ at_ + n1 ≤ n
        · obtain ⟨i1, i2, i3, i4, i5⟩ := hgood
          subst i4
          go_wp2_with fail
          refine (turn_ok _ A n at_ _ _ n1 d1 d2 l1 l2 i1 i2 i3 i5 HN1.out HN2.out HTc.out HO1.out HO2.out).mono ?_
          rintro e w3 ⟨rfl, hb3⟩
          have HB3 : Hid (Below W0.heap.size W0 w3) := chain H2.out.below hb3
          have HX3 : Hid (Two W0 w3 g1 d1 g2 d2 l1 l2) := H2.out.more hb3
          obtain ⟨r0, r1, r2, r3, r4, r5, r6⟩ := HF.out _ HB3.out
          have HV1 : Hid (Bytes w3 a1 l1) := HA1.out.on HB3.out
          have HV2 : Hid (Bytes w3 a2 l2) := HA2.out.on HB3.out
          clear hb3 q0 q1 q3 q4 q5 q6 r0 r2
          go_wp2_with fail
          refine (rturn_ok _ A n at_ a1 a2 n1 c1 c2 l1 l2 i1 i2 i3 i5 HN1.out HN2.out HV1.out HV2.out).mono ?_
          rintro e w4 ⟨rfl, hb4⟩
          have HX4 : Hid (Two W0 w4 g1 d1 g2 d2 l1 l2) := HX3.out.more hb4
          obtain ⟨t0, t1, t2, t3, t4, t5, t6⟩ := HF.out _ HX4.out.below
          have HU1 : Hid (Bytes w4 a1 l1) := HA1.out.on HX4.out.below
          clear hb4 r1 r3 r4 r5 r6 t0 t1 t2 t3 t4
          go_wp2_with fail
          refine (kept_any _ g1 d1 n1 c1 a1 l1 HN1.out HX4.out.o1 HU1.out hs1).mono ?_
          rintro e w5 ⟨rfl, hb5⟩
          have HX5 : Hid (Two W0 w5 g1 d1 g2 d2 l1 l2) := HX4.out.more hb5
          have u6 := (HF.out _ HX5.out.below).f6
          have HU2 : Hid (Bytes w5 a2 l2) := HA2.out.on HX5.out.below
          clear hb5 t5 t6
          go_wp2_with fail
          refine (kept_any _ g2 d2 n1 c2 a2 l2 HN2.out HX5.out.o2 HU2.out hs2).mono ?_
          rintro e w6 ⟨rfl, hb6⟩
          have HX6 : Hid (Two W0 w6 g1 d1 g2 d2 l1 l2) := HX5.out.more hb6
          clear hb6
          go_wp2
          go_ret
          exact ⟨rfl, HB0.out _ HX6.out.below⟩
        · have HG : Hid (¬ (0 ≤ n ∧ n ≤ 1099511627776 ∧ 0 ≤ at_ ∧ n1 = n2 ∧ at_ + n1 ≤ n)) := hgood
          clear hgood
          go_wp2_with fail
          refine (turn_bad _ A n at_ _ _ n1 n2 d1 d2 HG.out).mono ?_
          rintro e w3 ⟨rfl, rfl⟩
          go_wp2_with fail
          refine (rturn_bad _ A n at_ a1 a2 n1 n2 c1 c2 (by omega) HG.out).mono ?_
          rintro e w4 ⟨rfl, rfl⟩
          go_wp2_with fail
          refine (kept_any _ g1 d1 n1 c1 a1 l1 HN1.out H2.out.o1 HW1.out hs1).mono ?_
          rintro e w5 ⟨rfl, hb5⟩
          have HX5 : Hid (Two W0 w5 g1 d1 g2 d2 l1 l2) := H2.out.more hb5
          have u6 := (HF.out _ HX5.out.below).f6
          have HU2 : Hid (Bytes w5 a2 l2) := HA2.out.on HX5.out.below
          clear hb5 q0 q1 q3 q4 q5 q6
          go_wp2_with fail
          refine (kept_any _ g2 d2 n2 c2 a2 l2 HN2.out HX5.out.o2 HU2.out hs2).mono ?_
          rintro e w6 ⟨rfl, hb6⟩
          have HX6 : Hid (Two W0 w6 g1 d1 g2 d2 l1 l2) := HX5.out.more hb6
          clear hb6
          go_wp2
          go_ret
          exact ⟨rfl, HB0.out _ HX6.out.below⟩
end Go.Proofs.YtklffjagdhbjcaaDoor
