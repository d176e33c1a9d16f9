import Derived.Test.YthanoifegbjpoaaDoorGeL
namespace Go.Proofs.YthanoifegbjpoaaDoor
open Go.RowKit Rec

theorem bytes7 (w : World) (l : List Int) (hl : l.length ≤ 100) (hw : ∀ i, 0 ≤ nth l i ∧ nth l i < 256) : OwnB (w.alloc (.cells (l.map (Value.int .u8)).toArray 5)) w.heap.size l.length l :=
  ⟨⟨_, heap_alloc_new _ _, by simp, List.take_of_length_le (by simp)⟩, by omega, Nat.le_refl _, by unfold maxLen; omega, hw⟩
theorem wf_one (b : Int) (h : 0 ≤ b ∧ b < 256) : ∀ i, 0 ≤ nth [b] i ∧ nth [b] i < 256 := fun i => by
  cases i with
  | zero => exact h
  | succ i => rw [nth_out _ _ (by simp)]; omega
theorem sup_spoilt {n : Int} (hn : isLen n = true) (k : Nat) (hk : k < 512) (b : Int) (hb : 1 ≤ b ∧ b ≤ 255) : rdE ((sup n).set k ((nth (sup n) k + b) % 256)) = 71 ∧ rdV ((sup n).set k ((nth (sup n) k + b) % 256)) = 0 := by
  have h1 := sup_bd n k
  have h2 := spoilt hn k hk ((nth (sup n) k + b) % 256) (by omega)
  have h3 : ((sup n).set k ((nth (sup n) k + b) % 256)).length = 512 := by rw [List.length_set, sup_len]
  generalize (sup n).set k ((nth (sup n) k + b) % 256) = z at h2 h3
  unfold rdE rdV
  rw [if_pos h3, if_pos h3, h2]
  exact ⟨rfl, rfl⟩
theorem rd_size {l : List Int} (h : l.length ≠ 512) : rdE l = 32 ∧ rdV l = 0 := by
  unfold rdE rdV; rw [if_neg h, if_neg h]; exact ⟨rfl, rfl⟩
theorem rd_cases (l : List Int) : (l.length ≠ 512 ∧ rdE l = 32 ∧ rdV l = 0) ∨ (l.length = 512 ∧ rdE l = 71 ∧ rdV l = 0) ∨ (l.length = 512 ∧ rdE l = 0 ∧ isLen (rdV l) = true ∧ l = sup (rdV l)) := by
  by_cases h : l.length = 512
  · right
    cases hk : rdOk l with
    | false => left; unfold rdE rdV; rw [if_pos h, if_pos h, hk]; exact ⟨h, rfl, rfl⟩
    | true =>
      right
      have e : rdV l = num l 8 4 := by unfold rdV; rw [if_pos h, if_pos hk]
      obtain ⟨h1, h2⟩ := rdOk_is hk
      rw [e]
      exact ⟨h, by unfold rdE; rw [if_pos h, if_pos hk], h1, h2⟩
  · exact .inl ⟨h, rd_size h⟩
set_option maxRecDepth 100000 in
set_option maxHeartbeats 4000000 in
theorem reads7_any (w : World) (x t0 t1 : Int) (a : Option Addr) (n c : Nat) (l : List Int) (hB : Bytes w a l) (hn : l.length = n) (hT : TabAt w) (hc : n ≤ c) :
    Calls Tryd.prog 4 #[.int .i64 x, .agg #[.int .i64 t0, .int .i64 t1], .slice a n c] w fun e w' => e = .returned (.bool true) ∧ Below w.heap.size w w' := by
  have HT : Hid (TabAt w) := hT
  have HB : Hid (Bytes w a l) := hB
  have HN : Hid (l.length = n) := hn
  have hl := hB.len
  rw [hn] at hl
  clear hT hB hn
  obtain ⟨u, hu, hub⟩ : ∃ u, IntKind.u64.wrap x = u ∧ 0 ≤ u ∧ u < 18446744073709551616 := ⟨_, rfl, wrap_bd x⟩
  obtain ⟨p, hp, hpb⟩ : ∃ u, IntKind.u64.wrap t0 = u ∧ 0 ≤ u ∧ u < 18446744073709551616 := ⟨_, rfl, wrap_bd t0⟩
  obtain ⟨q, hq, hqb⟩ : ∃ u, IntKind.u64.wrap t1 = u ∧ 0 ≤ u ∧ u < 18446744073709551616 := ⟨_, rfl, wrap_bd t1⟩
  have HL : Hid (isLen (128 + u % 16257) = true) := hu ▸ nOf_ok x
  have HBx : Hid (Below w.heap.size w (w.alloc (.cells #[.int .i64 t0, .int .i64 t1] 33))) := (Below.refl _ _).alloc (Nat.le_refl _) _
  have HRx : Hid ((w.alloc (.cells #[.int .i64 t0, .int .i64 t1] 33)).heap[w.heap.size]? = some (.cells #[.int .i64 t0, .int .i64 t1] 33)) := heap_alloc_new _ _
  go_enter Tryd.func4, Tryd.ntmps4
  go_upto_region 1 with fail
  generalize w.alloc (.cells #[.int .i64 t0, .int .i64 t1] 33) = wa at *
  go_upto_region 8 with (first
    | (go_at_call 8; refine (known7 _ (HT.out.on HBx.out)).mono ?_; rintro e w1 ⟨rfl, hb⟩; have HB1 : Hid (Below w.heap.size w w1) := HBx.out.trans (hb.mono HBx.out.size); have HR1 : Hid (w1.heap[w.heap.size]? = some (.cells #[.int .i64 t0, .int .i64 t1] 33)) := keepL hb HRx.out; clear hb HBx HRx; have K0 : Hid (0 = 0) := rfl)
    | (go_at_call 10; have hh := K0.out; clear hh K0; refine (gsuper_ok _ _ HL.out (HT.out.on HB1.out)).mono ?_; rintro e w2 ⟨g, rfl, hg, ho, hb⟩; have hN := isLen_bd HL.out; generalize hNe : 128 + u % 16257 = N at *; have HO2 : Hid (OwnB w2 g 512 (sup N)) := ho; have HB2 : Hid (Below w.heap.size w w2) := HB1.out.trans (hb.mono HB1.out.size); have HR2 : Hid (w2.heap[w.heap.size]? = some (.cells #[.int .i64 t0, .int .i64 t1] 33)) := keepL hb HR1.out; clear hb ho hg; have K1 : Hid (0 = 0) := rfl)
    | (go_at_call 12; have hh := K1.out; clear hh K1; refine (gread_any _ _ 512 512 (sup N) (sup_len N) HO2.out.bytes (by omega) (HT.out.on HB2.out)).mono ?_; rintro e w3 ⟨rfl, hb⟩; rw [rdV_sup HL.out, rdE_sup HL.out]; have HO3 : Hid (OwnB w3 g 512 (sup N)) := HO2.out.on hb; have HB3 : Hid (Below w.heap.size w w3) := HB2.out.trans (hb.mono HB2.out.size); have HR3 : Hid (w3.heap[w.heap.size]? = some (.cells #[.int .i64 t0, .int .i64 t1] 33)) := keepL hb HR2.out; clear hb; have K2 : Hid (0 = 0) := rfl)
    | (go_at_call 11; refine (num7_any _ _).mono ?_; rintro e w' ⟨rfl, rfl⟩)
    | (at_builtin; have hh := K2.out; clear hh K2; have HA := (Below.refl w3.heap.size w3).alloc (Nat.le_refl _) (.cells #[] 5); refine wp_app rfl (.tmp 62) (.tmp 63) rfl w3.heap.size w3.heap.size 0 0 [] (sup N) rfl rfl (own_empty (heap_alloc_new _ _)) (Nat.le_refl _) HA.size (some ⟨g, 0, none⟩) 512 512 rfl (sup_len N) (HO3.out.on HA).bytes (fun h => by cases h) (by omega) ?_; intro gc cc w4 hg ho hgr; have hb4 := HA.grown hgr HA.size (by intro k hk; cases hk; exact Nat.le_refl _); have HO4 : Hid (OwnB w4 g 512 (sup N)) := HO3.out.on hb4; have HC4 : Hid (w3.heap.size ≤ gc ∧ OwnB w4 gc cc (sup N)) := ⟨hg, ho⟩; have HB4 : Hid (Below w.heap.size w w4) := HB3.out.trans (hb4.mono HB3.out.size); have HR4 : Hid (w4.heap[w.heap.size]? = some (.cells #[.int .i64 t0, .int .i64 t1] 33)) := keepL hb4 HR3.out; have HG3 : Hid (g < w3.heap.size) := HO3.out.lt; have HR3' : Hid (w.heap.size < w3.heap.size) := heap_lt HR3.out; clear hg ho hgr hb4 HA))
  obtain ⟨A, hA⟩ : ∃ A : Nat, p % 512 = (A : Int) := ⟨(p % 512).toNat, by omega⟩
  obtain ⟨b, hb, hb1⟩ : ∃ b : Int, 1 + q % 255 = b ∧ 1 ≤ b ∧ b ≤ 255 := ⟨_, rfl, by omega⟩
  have hA5 : A < 512 := by omega
  have hA6 : (A : Int) < 512 := by omega
  have B0 : w4.cell? ⟨w.heap.size, 0, none⟩ = some (.int .i64 t0) := cell_of_row _ _ _ _ _ _ HR4.out
  have B1 : w4.cell? ⟨w.heap.size, 1, none⟩ = some (.int .i64 t1) := cell_of_row _ _ _ _ _ _ HR4.out
  clear HB1 HB2 HB3 HO2 HO3 HR1 HR2 HR3
  go_quiet (fail)
  go_upto_region 9 with fail
  have hd := drew7 w4 nq
  have HO5 : Hid (OwnB (w4.drewN nq) g 512 (sup N)) := HO4.out.on hd
  have HC5 : Hid (OwnB (w4.drewN nq) gc cc (sup N)) := HC4.out.2.on hd
  have HB5 : Hid (Below w.heap.size w (w4.drewN nq)) := HB4.out.trans (hd.mono HB4.out.size)
  have HGC : Hid (g ≠ gc ∧ w.heap.size < gc) := ⟨by have := HC4.out.1; have := HG3.out; omega, by have := HC4.out.1; have := HR3'.out; omega⟩
  clear hd HO4 HC4 HB4 HR4 HG3 HR3' B0 B1
  generalize w4.drewN nq = w5 at *
  have d := HC5.out.cell A (by rw [sup_len]; omega)
  have f := HC5.out.frozen A
  have hcc : 512 ≤ cc := by have := HC5.out.room; rw [sup_len] at this; exact this
  obtain ⟨v, hv, hvb⟩ : ∃ v, nth (sup N) A = v ∧ 0 ≤ v ∧ v < 256 := ⟨_, rfl, sup_bd N A⟩
  rw [hv] at d
  have HV : Hid (nth (sup N) A = v) := hv
  clear hv
  go_upto_region 10 with fail
  have HC6 : Hid (OwnB (w5.setCell ⟨gc, A, none⟩ (.int .u8 ((v + b) % 256))) gc cc ((sup N).set A ((v + b) % 256))) := HC5.out.set A _ (by rw [sup_len]; omega) (by omega)
  have HO6 : Hid (OwnB (w5.setCell ⟨gc, A, none⟩ (.int .u8 ((v + b) % 256))) g 512 (sup N)) := HO5.out.grown grown_set (fun e => HGC.out.1 (Option.some.inj e))
  have HB6 : Hid (Below w.heap.size w (w5.setCell ⟨gc, A, none⟩ (.int .u8 ((v + b) % 256)))) := HB5.out.trans (below_of grown_set (by have := HGC.out.2; omega) HB5.out.size)
  clear HC5 HO5 HB5 d f
  have HS : Hid (rdE ((sup N).set A ((v + b) % 256)) = 71 ∧ rdV ((sup N).set A ((v + b) % 256)) = 0) := by have h := sup_spoilt HL.out A hA5 b hb1; rw [HV.out] at h; exact h
  have HLl : Hid (((sup N).set A ((v + b) % 256)).length = 512) := by show _ = _; rw [List.length_set, sup_len]
  generalize w5.setCell ⟨gc, A, none⟩ (.int .u8 ((v + b) % 256)) = w6 at *
  generalize (sup N).set A ((v + b) % 256) = z at *
  have K3 : Hid (0 = 0) := rfl
  go_upto_region 15 with (first
    | (go_at_call 12; have hh := K3.out; clear hh K3; refine (gread_any _ _ 512 cc z HLl.out HC6.out.bytes hcc (HT.out.on HB6.out)).mono ?_; rintro e w7 ⟨rfl, hb7⟩; rw [HS.out.1, HS.out.2]; have HO7 : Hid (OwnB w7 g 512 (sup N)) := HO6.out.on hb7; have HB7 : Hid (Below w.heap.size w w7) := HB6.out.trans (hb7.mono HB6.out.size); clear hb7; have K4 : Hid (0 = 0) := rfl)
    | (go_at_call 12; have hh := K4.out; clear hh K4; refine (gread_any _ _ A 512 ((sup N).take A) (by rw [List.length_take, sup_len]; omega) (HO7.out.bytes.take A) (by omega) (HT.out.on HB7.out)).mono ?_; rintro e w8 ⟨rfl, hb7⟩; have hrs := rd_size (l := (sup N).take A) (by rw [List.length_take, sup_len]; omega); rw [hrs.1, hrs.2]; have HO8 : Hid (OwnB w8 g 512 (sup N)) := HO7.out.on hb7; have HB8 : Hid (Below w.heap.size w w8) := HB7.out.trans (hb7.mono HB7.out.size); clear hb7 hrs; have K5 : Hid (0 = 0) := rfl)
    | (at_builtin; have hh := K5.out; clear hh K5; have HA := (Below.refl w8.heap.size w8).alloc (Nat.le_refl _) (.cells #[] 5); refine wp_app rfl (.tmp 98) (.tmp 99) rfl w8.heap.size w8.heap.size 0 0 [] (sup N) rfl rfl (own_empty (heap_alloc_new _ _)) (Nat.le_refl _) HA.size (some ⟨g, 0, none⟩) 512 512 rfl (sup_len N) (HO8.out.on HA).bytes (fun h => by cases h) (by omega) ?_; intro g9 c9 w9 hg ho hgr; have hb4 := HA.grown hgr HA.size (by intro k hk; cases hk; exact Nat.le_refl _); have HC9 : Hid (w8.heap.size ≤ g9 ∧ OwnB w9 g9 c9 (sup N)) := ⟨hg, ho⟩; have HB9 : Hid (Below w8.heap.size w8 w9) := hb4; clear hg ho hgr hb4 HA; have K6 : Hid (0 = 0) := rfl)
    | (at_builtin; have hh := K6.out; clear hh K6; have HA := (Below.refl w9.heap.size w9).alloc (Nat.le_refl _) (.cells #[.int .u8 b] 5); have HOb : OwnB (w9.alloc (.cells #[.int .u8 b] 5)) w9.heap.size 1 [b] := bytes7 w9 [b] (by simp) (wf_one b (by omega)); refine wp_app rfl (.tmp 100) (.tmp 102) rfl w8.heap.size g9 512 c9 (sup N) [b] (sup_len N) rfl (HC9.out.2.on HA) HC9.out.1 (Nat.le_trans HB9.out.size HA.size) (some ⟨w9.heap.size, 0, none⟩) 1 1 rfl rfl HOb.bytes (fun h => by cases h) (by omega) ?_; intro g10 c10 w10 hg ho hgr; have hb4 : Below w8.heap.size w8 w10 := (HB9.out.trans (HA.mono HB9.out.size)).grown hgr (Nat.le_trans HB9.out.size HA.size) (by intro k hk; cases hk; exact HC9.out.1); have HC10 : Hid (OwnB w10 g10 c10 (sup N ++ [b])) := ho; have HB10 : Hid (Below w.heap.size w w10) := HB8.out.trans (hb4.mono HB8.out.size); clear hg ho hgr hb4 HA HOb; have K7 : Hid (0 = 0) := rfl)
    | (go_at_call 12; have hh := K7.out; clear hh K7; refine (gread_any _ _ 513 c10 (sup N ++ [b]) (by rw [List.length_append, sup_len]; rfl) HC10.out.bytes (by have := HC10.out.room; rw [List.length_append, sup_len] at this; exact this) (HT.out.on HB10.out)).mono ?_; rintro e w11 ⟨rfl, hb7⟩; have hrs := rd_size (l := sup N ++ [b]) (by rw [List.length_append, sup_len]; simp); rw [hrs.1, hrs.2]; have HB11 : Hid (Below w.heap.size w w11) := HB10.out.trans (hb7.mono HB10.out.size); clear hb7 hrs; have K8 : Hid (0 = 0) := rfl)
    | (go_at_call 11; refine (num7_any _ _).mono ?_; rintro e w' ⟨rfl, rfl⟩))
  go_upto_region 16 with (go_at_call 12; refine (gread_any _ _ n c l HN.out (HB.out.on HB11.out) hc (HT.out.on HB11.out)).mono ?_; rintro e w12 ⟨rfl, hb7⟩; have HB12 : Hid (Below w.heap.size w w12) := HB11.out.trans (hb7.mono HB11.out.size); clear hb7)
  have HNl : Hid (l.length = n) := HN.out
  rcases rd_cases l with ⟨h1, h2, h3⟩ | ⟨h1, h2, h3⟩ | ⟨h1, h2, h3, h4⟩
  · rw [h2, h3]
    have hn5 : ((n : Int) != 512) = true := by rw [HN.out] at h1; simp; omega
    clear h1 h2 h3
    go_wp2_with (go_at_call 11; refine (num7_any _ _).mono ?_; rintro e w' ⟨rfl, rfl⟩)
    go_ret
    exact ⟨rfl, HB12.out⟩
  · rw [h2, h3]
    have hn5 : n = 512 := by rw [HN.out] at h1; exact h1
    subst hn5
    clear h1 h2 h3
    go_wp2_with (go_at_call 11; refine (num7_any _ _).mono ?_; rintro e w' ⟨rfl, rfl⟩)
    go_ret
    exact ⟨rfl, HB12.out⟩
  · rw [h2]
    have H3 : Hid (isLen (rdV l) = true) := h3
    have H4 : Hid (l = sup (rdV l)) := h4
    clear h1 h2 h3 h4
    generalize rdV l = y at *
    go_wp2_with (first
      | (go_at_call 10; refine (gsuper_ok _ y H3.out (HT.out.on HB12.out)).mono ?_; rintro e w13 ⟨g13, rfl, hg, ho, hb7⟩; have HB13 : Hid (Below w.heap.size w w13) := HB12.out.trans (hb7.mono HB12.out.size); have S1 := str_opt (c := 512) ho.bytes (sup_len y); have S2 := str_opt (c := c) (HB.out.on HB13.out) HN.out; rw [← H4.out] at S1; generalize strOfNums l = s at *; clear hb7 ho hg)
      | (go_at_call 11; refine (num7_any _ _).mono ?_; rintro e w' ⟨rfl, rfl⟩))
    go_ret
    exact ⟨rfl, HB13.out⟩
end Go.Proofs.YthanoifegbjpoaaDoor
