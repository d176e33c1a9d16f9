import Derived.Test.YtklgjagkgfbcfaaDoorBackM
import Derived.Deep.DeepCutAuto
namespace Go.Proofs.YtklgjagkgfbcfaaDoor
open Go.RowKit Rec

set_option maxRecDepth 100000 in
set_option maxHeartbeats 2000000 in
theorem back1 (w : World) (a1 a2 : Option Addr) (n1 c1 n2 c2 : Nat) (la lb : List Int) (which V : Int) (h1 : la.length = n1) (h2 : lb.length = n2) (B1 : Bytes w a1 la) (B2 : Bytes w a2 lb)
    (z1 : a1 = none → c1 = 0) (z2 : a2 = none → c2 = 0) (hs : n1 + n2 ≤ 100000000000000) (hT : TabAt w) (hk : -9223372036854775808 ≤ which ∧ which ≤ 9223372036854775807) (hV : 0 ≤ V ∧ V < 18446744073709551616) (hj : which % 4 = 0) :
    Calls Tryd.prog 3 #[.slice a1 n1 c1, .slice a2 n2 c2, .agg #[.int .i64 which, .int .u64 V]] w fun e w' => e = .returned (.bool true) ∧ Below w.heap.size w w' := by
  have HT : Hid (TabAt w) := hT
  have HB1 : Hid (Bytes w a1 la) := B1
  have HB2 : Hid (Bytes w a2 lb) := B2
  have HZ : Hid ((a1 = none → c1 = 0) ∧ (a2 = none → c2 = 0)) := ⟨z1, z2⟩
  have HL : Hid (la.length = n1 ∧ lb.length = n2) := ⟨h1, h2⟩
  clear hT B1 B2 z1 z2 h1 h2
  go_enter Tryd.func3, Tryd.ntmps3
  go_wp2_with fail
  have HBa : Hid (Below w.heap.size w (w.alloc (.cells #[.int .i64 which, .int .u64 V] 25))) := (Below.refl _ _).alloc (Nat.le_refl _) _
  have HC0 : Hid ((w.alloc (.cells #[.int .i64 which, .int .u64 V] 25)).cell? ⟨w.heap.size, 0, none⟩ = some (.int .i64 which)) := cell_of_row _ _ _ _ _ _ (heap_alloc_new _ _)
  have HC1 : Hid ((w.alloc (.cells #[.int .i64 which, .int .u64 V] 25)).cell? ⟨w.heap.size, 1, none⟩ = some (.int .u64 V)) := cell_of_row _ _ _ _ _ _ (heap_alloc_new _ _)
  generalize w.alloc (.cells #[.int .i64 which, .int .u64 V] 25) = w1 at *
  refine (fixed_any w1 (HT.out.on HBa.out)).mono ?_
  rintro e w2 ⟨rfl, hb⟩
  have C0 := (hb.cell (block_lt_of_cell HC0.out)).trans HC0.out
  have C1 := (hb.cell (block_lt_of_cell HC1.out)).trans HC1.out
  have HB : Hid (Below w.heap.size w w2) := HBa.out.trans (hb.mono HBa.out.size)
  clear hb HC0 HC1 HBa
  go_wp2_with (first
    | (go_at_call 8; refine (mod_any _ _ _ (by omega) hk).mono ?_; rintro e w2b ⟨rfl, rfl⟩; rw [hj])
    | (at_builtin; refine wp_app (w := World.alloc w2b _) rfl (.tmp 34) (.tmp 35) rfl w.heap.size w2b.heap.size 0 0 [] la rfl rfl (own_empty (heap_alloc_new _ _)) HB.out.size (Nat.le_trans HB.out.size (by simp)) a1 n1 c1 rfl HL.out.1 ((HB1.out.on HB.out).on ((Below.refl _ _).alloc (Nat.le_refl _) _)) HZ.out.1 (by omega) ?_; intro g3 cap3 w3 hg3 ho3 hgr3; have HG3 : Hid (w.heap.size ≤ g3) := hg3; have HO3 : Hid (OwnB w3 g3 cap3 la) := ho3; have HB3 : Hid (Below w.heap.size w w3) := (HB.out.trans ((Below.refl _ _).alloc HB.out.size _)).trans (below_of hgr3 HB.out.size (Nat.le_trans HB.out.size (by simp))); clear hg3 ho3 hgr3; simp only [Nat.zero_add])
    | (at_builtin; refine wp_zeros rfl (.tmp 36) (.tmp 37) rfl w.heap.size g3 n1 cap3 1 la HL.out.1 rfl HO3.out HG3.out HB3.out.size rfl (by omega) (by omega) (by omega) ?_; intro g4 cap4 w4 hg4 ho4 hgr4; have HG4 : Hid (w.heap.size ≤ g4) := hg4; have HO4 : Hid (OwnB w4 g4 cap4 (la ++ zs 1)) := ho4; have HB4 : Hid (Below w.heap.size w w4) := HB3.out.trans (below_of hgr4 HG3.out HB3.out.size); clear hg4 ho4 hgr4)
    | (at_builtin; refine wp_app rfl (.tmp 38) (.tmp 39) rfl w.heap.size g4 (n1 + 1) cap4 (la ++ zs 1) lb (by rw [List.length_append, HL.out.1, zs_length]) rfl HO4.out HG4.out HB4.out.size a2 n2 c2 rfl HL.out.2 (HB2.out.on HB4.out) HZ.out.2 (by omega) ?_; intro g5 cap5 w5 hg5 ho5 hgr5; have HG5 : Hid (w.heap.size ≤ g5) := hg5; have HO5 : Hid (OwnB w5 g5 cap5 (la ++ zs 1 ++ lb)) := ho5; have HB5 : Hid (Below w.heap.size w w5) := HB4.out.trans (below_of hgr5 HG4.out HB4.out.size); clear hg5 ho5 hgr5))
  have hv : 0 ≤ V % 256 ∧ V % 256 < 256 := by omega
  generalize V % 256 = v at *
  obtain ⟨L, hK⟩ := bw_mk la lb n1 n2 1 1 v HL.out.1 HL.out.2 rfl rfl hv.1 (by simpa using hv.2)
  have HK : Hid (Bw la lb n1 n2 1 1 v L) := hK
  clear hK
  refine (put_any w5 g5 cap5 (n1 + 1 + n2) cap5 n1 1 v (la ++ zs 1 ++ lb) [] (by rw [List.length_append, List.length_append, HL.out.1, HL.out.2, zs_length]) (by rw [List.append_nil]; exact HO5.out) (by have := HO5.out.room; rw [List.length_append, List.length_append, HL.out.1, HL.out.2, zs_length] at this; exact this) (HT.out.on HB5.out) (by omega) (by omega)).mono ?_
  rintro e w6 ⟨rfl, ho6, hg6⟩
  rw [HK.out.put.1]
  rw [HK.out.put.2] at ho6
  have hroom : n1 + 1 + n2 ≤ cap5 := by have := HO5.out.room; rw [List.length_append, List.length_append, HL.out.1, HL.out.2, zs_length] at this; exact this
  have HO6 : Hid (OwnB w6 g5 cap5 (L ++ [])) := ho6
  have HB6 : Hid (Below w.heap.size w w6) := HB5.out.trans (below_of hg6 HG5.out HB5.out.size)
  have hlen := HO5.out.len
  rw [List.length_append, List.length_append, HL.out.1, HL.out.2, zs_length] at hlen
  clear ho6 hg6 HO5 HO4 HO3 HB4 HB3 HB HB5 HG3 HG4 C0 C1
  go_wp2_with fail
  refine (get_any w6 g5 cap5 (n1 + 1 + n2) cap5 n1 1 L [] HK.out.len HO6.out hroom (HT.out.on HB6.out) (by omega)).mono ?_
  rintro e w6b ⟨rfl, rfl⟩
  rw [HK.out.get.1, HK.out.get.2]
  go_upto_region 10 with fail
  go_cut [85] (fun s85 wx => s85 = .bool false ∧ Below w.heap.size w wx ∧ OwnB wx g5 cap5 (L ++ []))
  case first =>
    go_wp2_with (first
      | (go_at_call_of 11 (a1); refine (same_any w6b _ _ n1 cap5 n1 c1 la la HL.out.1 HL.out.1 (HK.out.fore_bytes HO6.out) (HB1.out.on HB6.out)).mono ?_; rintro e w7 ⟨rfl, hb⟩; rw [decide_eq_true rfl]; have HB7 : Hid (Below w.heap.size w w7) := HB6.out.trans (hb.mono HB6.out.size); have HO7 : Hid (OwnB w7 g5 cap5 (L ++ [])) := HO6.out.on hb; clear hb))
    all_goals
      try subst h
      refine (same_any w7 _ _ n2 _ n2 c2 lb lb HL.out.2 HL.out.2 (HK.out.aft_bytes HL.out.2 HO7.out (by omega)) (HB2.out.on HB7.out)).mono ?_
      rintro e w8 ⟨rfl, hb⟩
      rw [decide_eq_true rfl]
      have HB8 : Hid (Below w.heap.size w w8) := HB7.out.trans (hb.mono HB7.out.size)
      have HO8 : Hid (OwnB w8 g5 _ (L ++ [])) := HO7.out.on hb
      clear hb
      go_wp2_with fail
      go_meet
      exact ⟨rfl, HB8.out, HO8.out⟩
  case rest =>
    obtain ⟨rfl, hb9, ho9⟩ := hcut
    have HB9 : Hid (Below w.heap.size w wc) := hb9
    have HO9 : Hid (OwnB wc g5 cap5 (L ++ [])) := ho9
    clear hb9 ho9 HB6 HO6
    go_wp2
    go_loop [13, 14] (fun s i => ∃ k : Nat, k ≤ 1 ∧ i = .int .i64 ((k : Int) - 1) ∧ s = .int .u64 (v / 256 ^ k)) (fun _ i => (intOf i + 1).toNat)
    case atStart => exact ⟨1, by omega, rfl, congrArg (Value.int .u64) (Int.ediv_eq_zero_of_lt hv.1 (by simpa using hv.2)).symm⟩
    case round =>
      obtain ⟨k, hk4, rfl, rfl⟩ := hrel
      by_cases h0 : k = 0
      · subst h0
        have HLn : Hid (L.length = n1 + 1 + n2) := HK.out.len
        have HX5 : Hid (g5 < wc.heap.size) := HO9.out.lt
        have HBL : Hid (Bytes wc (some ⟨g5, 0, none⟩) L) := by have := HO9.out.bytes; rw [List.append_nil] at this; exact this
        obtain ⟨b1, b2⟩ := HK.out.big (256 + v) (by unfold has; exact decide_eq_false (by simp; omega))
        obtain ⟨o1, o2⟩ := HK.out.out ((n1 : Int) + 1 + n2) (by omega)
        obtain ⟨p1, p2⟩ := HK.out.neg
        have HP : Hid (putL L n1 1 (256 + v) = L ∧ putL L ((n1 : Int) + 1 + n2) 1 v = L ∧ putL L (-1) 1 v = L) := ⟨b2, o2, p2⟩
        clear b2 o2 p2
        go_wp2_with (first
          | (at_builtin; refine wp_app (w := World.alloc wc _) rfl (.tmp 111) (.tmp 112) rfl wc.heap.size wc.heap.size 0 0 [] L rfl rfl (own_empty (heap_alloc_new _ _)) (Nat.le_refl _) (by simp) (some ⟨g5, 0, none⟩) (n1 + 1 + n2) cap5 rfl HLn.out (HBL.out.on ((Below.refl _ _).alloc (Nat.le_refl _) _)) (fun h => nomatch h) (by omega) ?_; intro g6 cap6 w10 hg6 ho6 hgr6; have hne : g6 ≠ g5 := Nat.ne_of_gt (Nat.lt_of_lt_of_le HX5.out hg6); have HO6 : Hid (OwnB w10 g6 cap6 L) := ho6; have q1 : Below wc.heap.size wc (wc.alloc (.cells #[] 5)) := (Below.refl _ _).alloc (Nat.le_refl _) _; have q2 : Below wc.heap.size (wc.alloc (.cells #[] 5)) w10 := below_of hgr6 (Nat.le_refl _) (by simp); have HB10 : Hid (Below wc.heap.size wc w10) := q1.trans q2; clear q1 q2; clear hg6 ho6 hgr6; have HO10 : Hid (OwnB w10 g5 cap5 (L ++ [])) := HO9.out.on HB10.out; simp only [Nat.zero_add]))
        have HB11 : Hid (Below w.heap.size w w10) := HB9.out.trans (HB10.out.mono HB9.out.size)
        clear HBL HB9 HO9 HX5
        refine (put_any w10 g5 cap5 (n1 + 1 + n2) cap5 n1 1 (256 + v) L [] HLn.out HO10.out hroom (HT.out.on HB11.out) (by omega) (by omega)).mono ?_
        rintro e w11 ⟨rfl, ho, hg⟩
        rw [b1]
        rw [HP.out.1] at ho
        have HO11 : Hid (OwnB w11 g5 cap5 (L ++ [])) := ho
        have HR11 : Hid (OwnB w11 g6 cap6 L) := HO6.out.grown hg (fun e => hne (Option.some.inj e))
        have HB12 : Hid (Below w.heap.size w w11) := HB11.out.trans (below_of hg HG5.out HB11.out.size)
        clear ho hg HO10 HO6
        go_wp2_with fail
        refine (put_any w11 g5 cap5 (n1 + 1 + n2) cap5 _ 1 v L [] HLn.out HO11.out hroom (HT.out.on HB12.out) (by omega) (by omega)).mono ?_
        rintro e w12 ⟨rfl, ho, hg⟩
        rw [o1]
        rw [HP.out.2.1] at ho
        have HO12 : Hid (OwnB w12 g5 cap5 (L ++ [])) := ho
        have HR12 : Hid (OwnB w12 g6 cap6 L) := HR11.out.grown hg (fun e => hne (Option.some.inj e))
        have HB13 : Hid (Below w.heap.size w w12) := HB12.out.trans (below_of hg HG5.out HB12.out.size)
        clear ho hg
        go_wp2_with fail
        refine (put_any w12 g5 cap5 (n1 + 1 + n2) cap5 (-1) 1 v L [] HLn.out HO12.out hroom (HT.out.on HB13.out) (by omega) (by omega)).mono ?_
        rintro e w13 ⟨rfl, ho, hg⟩
        rw [p1]
        rw [HP.out.2.2, List.append_nil] at ho
        have HO13 : Hid (OwnB w13 g5 cap5 L) := ho
        have HR13 : Hid (OwnB w13 g6 cap6 L) := HR12.out.grown hg (fun e => hne (Option.some.inj e))
        have HB14 : Hid (Below w.heap.size w w13) := HB13.out.trans (below_of hg HG5.out HB13.out.size)
        clear ho hg
        go_wp2_with fail
        refine (same_any w13 _ _ (n1 + 1 + n2) _ (n1 + 1 + n2) _ L L HLn.out HLn.out HO13.out.bytes HR13.out.bytes).mono ?_
        rintro e w14 ⟨rfl, hb⟩
        rw [decide_eq_true rfl]
        have HB15 : Hid (Below w.heap.size w w14) := HB14.out.trans (hb.mono HB14.out.size)
        clear hb
        go_wp2
        go_ret
        exact ⟨rfl, HB15.out⟩
      · obtain ⟨i, rfl⟩ : ∃ i, k = i + 1 := ⟨k - 1, by omega⟩
        obtain ⟨o1, o2⟩ := HK.out.one ((n1 : Int) + i) i (by omega) rfl
        have HS : Hid (v / 256 ^ (i + 1) * 256 + dig v i = v / 256 ^ i) := back_step v i
        have hd := dig_bd v i
        have hp := pow_pos i
        have q0 : 0 ≤ v / 256 ^ (i + 1) := Int.ediv_nonneg hv.1 (Int.le_of_lt (pow_pos _))
        have q1 : v / 256 ^ i ≤ v := Int.ediv_le_self _ hv.1
        have hq : v / 256 ^ (i + 1) * 256 + dig v i ≤ v := by rw [HS.out]; exact q1
        clear q1 hp
        generalize v / 256 ^ (i + 1) = q at *
        generalize dig v i = d at *
        have ei : (((i + 1 : Nat) : Int) - 1) = i := by omega
        rw [ei]
        go_wp2_with (go_at_call 10; refine (get_any wc g5 cap5 (n1 + 1 + n2) cap5 _ 1 L [] HK.out.len HO9.out hroom (HT.out.on HB9.out) (by omega)).mono ?_; rintro e wd ⟨rfl, rfl⟩; rw [o1, o2])
        exact ⟨⟨i, by omega, rfl, by rw [HS.out]⟩, by simp [intOf]⟩
end Go.Proofs.YtklgjagkgfbcfaaDoor
