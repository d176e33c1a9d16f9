import Derived.Test.YtjmdjagfekloaaaGreatDoorMpA
namespace Go.Proofs.YtjmdjagfekloaaaGreatDoor
open Go.RowKit Go.Maps Rec

theorem wf64 {z : Int} (h : -9223372036854775808 ≤ z ∧ z ≤ 9223372036854775807) : (kI z).wf = true := by
  have hmin : IntKind.i64.min = -9223372036854775808 := rfl
  have hmax : IntKind.i64.max = 9223372036854775807 := rfl
  simp only [Lit.wf, Bool.and_eq_true, decide_eq_true_eq]
  omega
/-- which tables have been told -/
def TkI (ks ts : List (Int × Int)) (left : Lit → Bool) : Prop := ∀ t, t ∈ ts.map Prod.fst ↔ ∃ z, z ∈ ks.map Prod.fst ∧ left (kI z) = false ∧ t ∈ tbI z.toNat
theorem TkI.step {ks ts ts' : List (Int × Int)} {left : Lit → Bool} {z : Int} (h : TkI ks ts left) (hz : z ∈ ks.map Prod.fst) (hl : left (kI z) = true) (ht : ∀ t, t ∈ ts'.map Prod.fst ↔ t ∈ tbI z.toNat ∨ t ∈ ts.map Prod.fst) : TkI ks ts' (fun y => left y && !y.sameKey (kI z)) := fun t => by
  rw [ht t, h t]
  constructor
  · rintro (h1 | ⟨y, y1, y2, y3⟩)
    · exact ⟨z, hz, by simp [WideAt.sameKey_self (isK z)], h1⟩
    · exact ⟨y, y1, by simp [y2], y3⟩
  · rintro ⟨y, y1, y2, y3⟩
    by_cases e : y = z
    · subst e; exact .inl y3
    · have e2 := sameKey_ne (kI_ne e)
      simp [e2] at y2
      exact .inr ⟨y, y1, y2, y3⟩
theorem takes_siz {ν : Nat → Nat} {ks ts : List (Int × Int)} (hs : Shp ν) (hk : ∀ z, z ∈ ks.map Prod.fst ↔ ∃ k : Nat, k < 16522 ∧ ν (ixP k) ≠ 0 ∧ z = (k : Int)) (hnd : (ks.map Prod.fst).Nodup) (htd : (ts.map Prod.fst).Nodup) (ht : ∀ t, t ∈ ts.map Prod.fst ↔ ∃ z, z ∈ ks.map Prod.fst ∧ t ∈ tbI z.toNat) : ks.length + ts.length = siz ν := by
  have h1 := takes_len (ks := (ks.map Prod.fst).map Int.toNat) (ts := ts.map Prod.fst) hs (nodup_mapOn hnd (fun x y hx hy e => by
    obtain ⟨a, _, _, rfl⟩ := (hk x).1 hx
    obtain ⟨b, _, _, rfl⟩ := (hk y).1 hy
    rw [Int.toNat_natCast, Int.toNat_natCast] at e
    rw [e])) htd (fun k => ?_) (fun t => ?_)
  · simpa using h1
  · rw [List.mem_map]
    constructor
    · rintro ⟨z, z1, rfl⟩
      obtain ⟨a, a1, a2, rfl⟩ := (hk z).1 z1
      rw [Int.toNat_natCast]
      exact ⟨a1, a2⟩
    · rintro ⟨a1, a2⟩
      exact ⟨(k : Int), (hk _).2 ⟨k, a1, a2, rfl⟩, Int.toNat_natCast _⟩
  · rw [ht t]
    constructor
    · rintro ⟨z, z1, z2⟩
      exact ⟨z.toNat, List.mem_map.2 ⟨z, z1, rfl⟩, z2⟩
    · rintro ⟨k, k1, k2⟩
      obtain ⟨z, z1, rfl⟩ := List.mem_map.1 k1
      exact ⟨z, z1, k2⟩
set_option maxRecDepth 100000 in
set_option maxHeartbeats 4000000 in
theorem takes_any (w : World) (b : Nat) (ks : List (Int × Int)) (hm : MpAt w b ks) (ν : Nat → Nat) (hs : Shp ν) (hk : ∀ z, z ∈ ks.map Prod.fst ↔ ∃ k : Nat, k < 16522 ∧ ν (ixP k) ≠ 0 ∧ z = (k : Int)) :
    Calls Tryz.prog 11 #[.map (some b)] w fun e w' => e = .returned (.int .i64 (siz ν : Nat)) ∧ Below w.heap.size w w' := by
  obtain ⟨D, hown, hL⟩ := hm
  have HL : Hid (MpL D ks) := hL
  have HS : Hid (Shp ν) := hs
  have HK : Hid (∀ z, z ∈ ks.map Prod.fst ↔ ∃ k : Nat, k < 16522 ∧ ν (ixP k) ≠ 0 ∧ z = (k : Int)) := hk
  have HKl : Hid (ks.length ≤ 16522) := by
    have h1 : (ks.map Prod.fst).length ≤ ((List.range 16522).map fun k : Nat => (k : Int)).length := sub_len hL.nd (fun x hx => by
      obtain ⟨k, k1, _, k3⟩ := (hk x).1 hx
      exact List.mem_map.2 ⟨k, List.mem_range.2 k1, k3.symm⟩)
    have h2 : ks.length ≤ 16522 := by simpa using h1
    exact h2
  obtain ⟨n, hn⟩ : ∃ n, ks.length = n := ⟨_, rfl⟩
  rw [hn] at hown
  have HN : Hid (ks.length = n) := hn
  have hbl := hown.lt
  clear hL hs hk hn
  have hmm := @run_makeMap Tryz.prog
  have e1 : (w.alloc (.map #[] 0)).heap.size = w.heap.size + 1 := by simp
  go_enter Tryz.func11, Tryz.ntmps11
  go_upto_region 3 with (first
    | (at_range; refine wpList_range_own _ rfl _ 36 rfl 3 3 lawI Tryz.underlying36 _ b n _ rfl (hown.alloc _) ?_; intro w0 hrg0 hg0 hs0)
    | go_in)
  go_frame
  rw [e1] at hrg0 hs0 ⊢
  go_loopw [4] (fun _ wr => ∃ (left : Lit → Bool) (cnt m : Nat) (E : DataW Unit) (ts : List (Int × Int)), wr.ranges Tryz.prog 3 (plainElem Tryz.prog 3) b (w.heap.size + 1) n D left cnt ∧ cnt ≤ 16522 ∧ (∀ z, left (kI z) = true → z ∈ ks.map Prod.fst) ∧
      OwM wr w.heap.size m E ∧ m ≤ 2 * (16522 - cnt) ∧ MpL E ts ∧ TkI ks ts left ∧ Below w.heap.size w wr)
    (fun _ wr => wr.rangeLeft b (w.heap.size + 1))
  case atStart =>
    have hh := HL.out
    refine ⟨_, _, 0, .map [], [], hrg0, by rw [hh.size]; exact HKl.out, fun z hz => by rw [hh.has] at hz; simpa using hz, (World.ownsMap_made _ _ _ _).kept hg0 (by simp), Nat.zero_le _, MpL.none, fun t => ?_, ((Below.refl _ _).alloc (Nat.le_refl _) _).grown hg0 (by simp) (fun j hj => by cases hj)⟩
    constructor
    · intro h; simp at h
    · rintro ⟨z, z1, z2, _⟩
      rw [hh.has] at z2
      simp at z2
      exact absurd z1 (by simpa using z2)
  case round =>
    obtain ⟨left, cnt, m, E, ts, hrg, hcs, hlk, hE, hmE, hts, hti, hnx⟩ := hrel
    have HT : Hid (MpL E ts ∧ TkI ks ts left) := ⟨hts, hti⟩
    clear hts hti
    go_upto_region 4 with (first
      | (at_next; refine wpList_next_ranges_ii _ rfl _ rfl 3 3 .i64 .i64 lawI Tryz.underlying3 Tryz.underlying3 b (w.heap.size + 1) n _ _ _ rfl hrg ?_ ?_)
      | go_in)
    · intro hc0 hl0
      have hD := HL.out.size
      have hD2 := HKl.out
      have hE2 := HT.out.1.size
      have hE3 := hE.size_le
      have hb1 : (Maps.size D : Int) ≤ 16522 := by omega
      have hb2 : (Maps.size E : Int) ≤ 33044 := by omega
      go_wp2_with (first
        | (at_len; refine wpList_len_own _ rfl _ 36 rfl 3 3 Tryz.underlying36 _ b n D rfl hrg.owns ?_)
        | (at_len; refine wpList_len_own _ rfl _ 36 rfl 3 3 Tryz.underlying36 _ w.heap.size m E rfl hE ?_)
        | go_in)
      go_ret
      have h9 := takes_siz HS.out HK.out HL.out.nd HT.out.1.nd (fun t => by rw [HT.out.2 t]; exact ⟨fun ⟨z, z1, _, z2⟩ => ⟨z, z1, z2⟩, fun ⟨z, z1, z2⟩ => ⟨z, z1, hl0 _, z2⟩⟩)
      exact ⟨by rw [← h9, ← hD, ← hE2]; simp, hnx⟩
    · intro x c w1 cnt1 hwx hwc hlx hat hrg1 hlt hg1 hs1 hen
      have hE1 := hE.kept hg1 (by simp)
      have hxk := hlk x hlx
      obtain ⟨k, hk16, _, rfl⟩ := (HK.out x).1 hxk
      have hnx1 := hnx.grown hg1 hnx.size (fun j hj => by cases hj; exact Nat.le_succ _)
      have HX : Hid ((k : Int) ∈ ks.map Prod.fst ∧ left (kI (k : Int)) = true ∧ (∀ z, left (kI z) = true → z ∈ ks.map Prod.fst) ∧ Below w.heap.size w w1 ∧ wr.rangeLeft b (w.heap.size + 1) = cnt) := ⟨hxk, hlx, hlk, hnx1, hrg.left_eq⟩
      clear hxk hlx hlk hnx1 hnx hrg hE hg1 hat
      by_cases h138 : 138 ≤ k
      · have t1 : (138 : Int) ≤ (k : Int) := by omega
        obtain ⟨q, hq⟩ : ∃ q, (k - 138) / 128 = q := ⟨_, rfl⟩
        have hq2 : q < 128 := by omega
        have hqt : ((k : Int) - 138).tdiv 128 = (q : Int) := by
          rw [Int.tdiv_eq_ediv_of_nonneg (by omega)]
          omega
        have HQ : Hid ((k - 138) / 128 = q) := hq
        clear hq
        go_upto_region 7 with (first
          | (at_lookup; refine wpList_lookup_own_int _ rfl _ _ 36 rfl 3 3 .i64 lawI Tryz.underlying36 Tryz.underlying3 (zeroI _) w.heap.size m _ rfl hE1 _ _ rfl (keyOf_int_mk Tryz.underlying3 (wf64 (by omega))) ?_; intro c1 hat1 hwc1)
          | (at_mapUpdate; refine wpList_mapUpdate_own _ rfl _ _ _ 36 rfl 3 3 lawI Tryz.underlying36 _ w.heap.size m _ rfl hE1 (by unfold maxLen; omega) _ _ _ rfl rfl (keyOf_int_mk Tryz.underlying3 (wf64 (by omega))) _ [] (plainElem_int Tryz.underlying3 (wrap64_wf _)) ?_; intro w2 hE2 hg2; go_frame)
          | go_in)
        go_wp2_with (first
          | (at_lookup; refine wpList_lookup_own_int _ rfl _ _ 36 rfl 3 3 .i64 lawI Tryz.underlying36 Tryz.underlying3 (zeroI _) w.heap.size (m + 1) _ rfl hE2 _ _ rfl (keyOf_int_mk Tryz.underlying3 (wf64 (by omega))) ?_; intro c2 hat2 hwc2)
          | (at_mapUpdate; refine wpList_mapUpdate_own _ rfl _ _ _ 36 rfl 3 3 lawI Tryz.underlying36 _ w.heap.size (m + 1) _ rfl hE2 (by unfold maxLen; omega) _ _ _ rfl rfl (keyOf_int_mk Tryz.underlying3 (wf64 (by omega))) _ [] (plainElem_int Tryz.underlying3 (wrap64_wf _)) ?_; intro w3 hE3 hg3; go_frame)
          | go_in)
        have hrg2 := hrg1.kept hg2 (fun e => by have := Option.some.inj e; omega) (fun e => by have := Option.some.inj e; omega)
        have hrg3 := hrg2.kept hg3 (fun e => by have := Option.some.inj e; omega) (fun e => by have := Option.some.inj e; omega)
        obtain ⟨t1, m1, k1, _⟩ := HT.out.1.put (-1) _
        obtain ⟨t2, m2, k2, _⟩ := m1.put (q : Int) _
        go_roundw
        case rel =>
          refine ⟨_, cnt1, m + 2, _, t2, hrg3, by omega, fun z hz => HX.out.2.2.1 z (by simp at hz; exact hz.1), hE3, by omega, m2, HT.out.2.step HX.out.1 HX.out.2.1 (fun t => ?_), (HX.out.2.2.2.1.grown hg2 (by have := HX.out.2.2.2.1.size; omega) (fun j hj => by cases hj; exact Nat.le_refl _)).grown hg3 (by have := HX.out.2.2.2.1.size; have := hg2.size; omega) (fun j hj => by cases hj; exact Nat.le_refl _)⟩
          rw [k2, k1]
          have : tbI ((k : Int)).toNat = [-1, (q : Int)] := by rw [Int.toNat_natCast]; unfold tbI; rw [if_pos h138, HQ.out]
          rw [this]
          simp only [List.mem_cons, List.not_mem_nil, or_false]
          constructor
          · rintro (h | h | h)
            · exact .inl (.inr h)
            · exact .inl (.inl h)
            · exact .inr h
          · rintro ((h | h) | h)
            · exact .inr (.inl h)
            · exact .inl h
            · exact .inr (.inr h)
        case measure => rw [hrg3.left_eq, HX.out.2.2.2.2]; exact hlt
      · have t1 : ¬ (138 : Int) ≤ (k : Int) := by omega
        by_cases h10 : 10 ≤ k
        · have t2 : (10 : Int) ≤ (k : Int) := by omega
          go_wp2_with (first
            | (at_lookup; refine wpList_lookup_own_int _ rfl _ _ 36 rfl 3 3 .i64 lawI Tryz.underlying36 Tryz.underlying3 (zeroI _) w.heap.size m _ rfl hE1 _ _ rfl (keyOf_int_mk Tryz.underlying3 (wf64 (by omega))) ?_; intro c1 hat1 hwc1)
            | (at_mapUpdate; refine wpList_mapUpdate_own _ rfl _ _ _ 36 rfl 3 3 lawI Tryz.underlying36 _ w.heap.size m _ rfl hE1 (by unfold maxLen; omega) _ _ _ rfl rfl (keyOf_int_mk Tryz.underlying3 (wf64 (by omega))) _ [] (plainElem_int Tryz.underlying3 (wrap64_wf _)) ?_; intro w2 hE2 hg2; go_frame)
            | go_in)
          have hrg2 := hrg1.kept hg2 (fun e => by have := Option.some.inj e; omega) (fun e => by have := Option.some.inj e; omega)
          obtain ⟨t1, m1, k1, _⟩ := HT.out.1.put (-2) _
          go_roundw
          case rel =>
            refine ⟨_, cnt1, m + 1, _, t1, hrg2, by omega, fun z hz => HX.out.2.2.1 z (by simp at hz; exact hz.1), hE2, by omega, m1, HT.out.2.step HX.out.1 HX.out.2.1 (fun t => ?_), HX.out.2.2.2.1.grown hg2 (by have := HX.out.2.2.2.1.size; omega) (fun j hj => by cases hj; exact Nat.le_refl _)⟩
            rw [k1]
            have : tbI ((k : Int)).toNat = [-2] := by rw [Int.toNat_natCast]; unfold tbI; rw [if_neg h138, if_pos h10]
            rw [this]
            simp only [List.mem_cons, List.not_mem_nil, or_false]
          case measure => rw [hrg2.left_eq, HX.out.2.2.2.2]; exact hlt
        · have t2 : ¬ (10 : Int) ≤ (k : Int) := by omega
          go_wp2
          go_roundw
          case rel =>
            refine ⟨_, cnt1, m, _, ts, hrg1, by omega, fun z hz => HX.out.2.2.1 z (by simp at hz; exact hz.1), hE1, by omega, HT.out.1, HT.out.2.step HX.out.1 HX.out.2.1 (fun t => ?_), HX.out.2.2.2.1⟩
            have : tbI ((k : Int)).toNat = [] := by rw [Int.toNat_natCast]; unfold tbI; rw [if_neg h138, if_neg h10]
            rw [this]
            simp
          case measure => rw [hrg1.left_eq, HX.out.2.2.2.2]; exact hlt
end Go.Proofs.YtjmdjagfekloaaaGreatDoor
