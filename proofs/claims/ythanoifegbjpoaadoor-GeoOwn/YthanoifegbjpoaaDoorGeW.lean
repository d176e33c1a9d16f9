import Derived.Test.YthanoifegbjpoaaDoorGeN
namespace Go.Proofs.YthanoifegbjpoaaDoor
open Go.RowKit Rec

/-- the numbers asked for, what their super blocks hold, and what these read as -/
def xs7 (n m : Int) (i : Nat) : Int := if i = 1 then m else n
def cs7 (n m : Int) (i : Nat) : List Int := sup (nOf (xs7 n m i))
def ts7 (n m : Int) (i : Nat) : ByteArray := strOfNums (cs7 n m i)
/-- the first j are written full with marks of their own -/
def cf7 (n m : Int) (j i : Nat) : List Int := if i < j then List.replicate 512 (20 + (i : Int)) else cs7 n m i
theorem cs7_len (n m : Int) (i : Nat) : (cs7 n m i).length = 512 := sup_len _
theorem cf7_len (n m : Int) (j i : Nat) : (cf7 n m j i).length = 512 := by
  unfold cf7
  split
  · exact List.length_replicate
  · exact sup_len _
def k512 (_ : Nat) : Nat := 512
def ds7 (i : Nat) : List Int := List.replicate 512 (20 + (i : Int))
def es7 (i : Nat) : List Int := List.replicate 513 (20 + (i : Int))
theorem es7_of (i : Nat) : ds7 i ++ [20 + (i : Int)] = es7 i := (List.replicate_succ' (n := 512) (a := 20 + (i : Int))).symm
theorem up512 (n : Nat) : up k512 n 512 = k512 := up_self k512 n
set_option maxRecDepth 100000 in
set_option maxHeartbeats 8000000 in
theorem own_any (w : World) (n m : Int) (hT : TabAt w) : Calls Tryd.prog 5 #[.int .i64 n, .int .i64 m] w fun e w' => e = .returned (.bool true) ∧ Below w.heap.size w w' := by
  have HT : Hid (TabAt w) := hT
  clear hT
  go_enter Tryd.func5, Tryd.ntmps5
  go_upto_region 6 with (go_at_call 8; refine (known7 _ HT.out).mono ?_; rintro e w1 ⟨rfl, hb⟩; have HB1 : Hid (Below w.heap.size w w1) := hb; clear hb)
  have HB2 : Hid (Below w.heap.size w (w1.alloc (.cells #[.int .i64 n, .int .i64 m, .int .i64 n] 3))) := HB1.out.alloc HB1.out.size _
  have HI : Hid ((w1.alloc (.cells #[.int .i64 n, .int .i64 m, .int .i64 n] 3)).heap[w1.heap.size]? = some (.cells #[.int .i64 n, .int .i64 m, .int .i64 n] 3 (0, 0))) := heap_alloc_new _ _
  generalize w1.alloc (.cells #[.int .i64 n, .int .i64 m, .int .i64 n] 3) = wa at *
  generalize w1.heap.size = gI at *
  clear HB1
  go_wp2_with fail
  go_loopw [5, 32] (fun s5 i wr => ∃ (j : Nat) (g : Nat → Nat), j ≤ 3 ∧ i = .int .i64 j ∧ Below w.heap.size w wr ∧ wr.heap[gI]? = some (.cells #[.int .i64 n, .int .i64 m, .int .i64 n] 3 (0, 0)) ∧ RowsAt w wr s5 j g k512 (cs7 n m)) (fun _ i _ => (3 - intOf i).toNat)
  case atStart => exact ⟨0, fun _ => 0, by omega, rfl, HB2.out, HI.out, rows_none _ _ _ _ _⟩
  case round =>
    clear HB2 HI
    obtain ⟨j, g, hj, rfl, hb, hI, hR⟩ := hrel
    have HB : Hid (Below w.heap.size w wr) := hb
    have HI : Hid (wr.heap[gI]? = some (.cells #[.int .i64 n, .int .i64 m, .int .i64 n] 3 (0, 0))) := hI
    have HR : Hid (RowsAt w wr u5 j g k512 (cs7 n m)) := hR
    clear hb hR
    by_cases hlt : j < 3
    · have hc : wr.cell? ⟨gI, j, none⟩ = some (.int .i64 (xs7 n m j)) := by
        rw [cell_of_row _ _ _ _ _ _ hI]
        obtain rfl | rfl | rfl : j = 0 ∨ j = 1 ∨ j = 2 := by omega
        all_goals rfl
      have hlj : (j : Int) < 3 := by omega
      obtain ⟨u, hu, hub⟩ : ∃ u, IntKind.u64.wrap (xs7 n m j) = u ∧ 0 ≤ u ∧ u < 18446744073709551616 := ⟨_, rfl, wrap_bd _⟩
      have HN : Hid (sup (128 + u % 16257) = cs7 n m j) := by rw [← hu]; rfl
      have HL : Hid (isLen (128 + u % 16257) = true) := hu ▸ nOf_ok _
      clear hI
      go_wp2_with (first
        | (go_at_call 10; refine (gsuper_ok _ _ HL.out (HT.out.on HB.out)).mono ?_; rintro e w2 ⟨gn, rfl, hg, ho, hb⟩; rw [HN.out] at ho; have HO2 : Hid (OwnB w2 gn 512 (cs7 n m j) ∧ wr.heap.size ≤ gn) := ⟨ho, hg⟩; have HB2 : Hid (Below wr.heap.size wr w2) := hb; clear hb ho hg)
        | (at_builtin; refine wp_rows7 (wx := w2) rfl (.tmp 45) (.tmp 47) rfl w u5 j g k512 (cs7 n m) rfl rfl gn 512 512 (cs7 n m j) (cs7_len _ _ _) (HR.out.on HB2.out) HO2.out.1 (Nat.le_trans HB.out.size HO2.out.2) (fun i hi => (by have := (HR.out.els i hi).1.lt; have := HO2.out.2; omega)) (Nat.le_trans HB.out.size HB2.out.size) (by omega) ?_; intro b cap w3 hR3 hF3 hor; rw [up512, up_self] at hR3; have hx := HR.out.on HB2.out; have HE : Hid (Below w.heap.size w w3 ∧ w3.heap[gI]? = some (.cells #[.int .i64 n, .int .i64 m, .int .i64 n] 3 (0, 0)) ∧ RowsAt w w3 (.slice (some ⟨b, 0, none⟩) (j + 1) cap) (j + 1) (up g j gn) k512 (cs7 n m)) := ⟨(HB.out.trans (HB2.out.mono HB.out.size)).trans (hF3.below w.heap.size (fun k hk => hx.top k hk) (Nat.le_trans HB.out.size HB2.out.size)), hF3.heap (keepL HB2.out HI.out) (own_apartX hx.own (keepL HB2.out HI.out) (by decide)), hR3⟩; clear hR3 hF3 hor hx))
      exact ⟨⟨j + 1, up g j gn, by omega, by go_num, HE.out.1, HE.out.2.1, HE.out.2.2⟩, by simp [intOf]; omega⟩
    · have hj3 : j = 3 := by omega
      subst hj3
      obtain ⟨b, cap, rfl, _, _⟩ := owns_form HR.out.own (by omega)
      clear hI HI
      go_wp2_with fail
      go_loopw [6, 52] (fun s6 i wq => ∃ (j : Nat), j ≤ 3 ∧ i = .int .i64 j ∧ Below w.heap.size w wq ∧ RowsAt w wq (.slice (some ⟨b, 0, none⟩) 3 cap) 3 g k512 (cs7 n m) ∧ wq.ownsRow 0 9 1 s6 j ((List.range j).map fun i => .string (ts7 n m i)) ∧ (∀ k, s6.ownBlock = some k → w.heap.size ≤ k)) (fun _ i _ => (3 - intOf i).toNat)
      case atStart => exact ⟨0, by omega, rfl, HB.out, HR.out, World.ownsRow_nil _ _ _ _, fun k hk => by cases hk⟩
      case round =>
        clear HB HR
        rename World => wB
        obtain ⟨j, hj, rfl, hb, hR, hS, hS0⟩ := hrel
        have HB : Hid (Below w.heap.size w wB) := hb
        have HR : Hid (RowsAt w wB (.slice (some ⟨b, 0, none⟩) 3 cap) 3 g k512 (cs7 n m)) := hR
        have HS : Hid (wB.ownsRow 0 9 1 u6 j ((List.range j).map fun i => .string (ts7 n m i)) ∧ ∀ k, u6.ownBlock = some k → w.heap.size ≤ k) := ⟨hS, hS0⟩
        clear hb hS hS0
        by_cases hlt : j < 3
        · have hc := hR.is j hlt
          rw [cs7_len, show k512 j = 512 from rfl] at hc
          have hlj : (j : Int) < 3 := by omega
          have hcv : (convert 28 9 (.slice (some ⟨g j, 0, none⟩) 512 512)).run Tryd.prog wB = .ok (.string (ts7 n m j)) wB := str_opt (hR.els j hlt).1.bytes (cs7_len _ _ _)
          clear hR
          generalize hgj : g j = gj at *
          generalize hts : ts7 n m j = tj at *
          clear hgj
          have HTj : Hid (ts7 n m j = tj) := hts
          clear hts
          go_wp2_with (at_builtin; refine wp_strs7 (wx := wB) rfl (.tmp 56) (.tmp 59) rfl u6 j _ rfl rfl tj HS.out.1 (by omega) ?_; intro b2 cap2 w3 hR3 hF3 hor; rw [← HTj.out, strs_up] at hR3; have HE : Hid (Below w.heap.size w w3 ∧ RowsAt w w3 (.slice (some ⟨b, 0, none⟩) 3 cap) 3 g k512 (cs7 n m) ∧ w3.ownsRow 0 9 1 (.slice (some ⟨b2, 0, none⟩) (j + 1) cap2) (j + 1) ((List.range (j + 1)).map fun i => .string (ts7 n m i)) ∧ ∀ k, (Value.slice (some ⟨b2, 0, none⟩) (j + 1) cap2).ownBlock = some k → w.heap.size ≤ k) := ⟨HB.out.trans (hF3.below w.heap.size (fun k hk => HS.out.2 k hk) HB.out.size), HR.out.fr hF3 (fun k hk => own_apartO HR.out.own HS.out.1 (by decide) k hk) (fun i hi => own_apart7 HS.out.1 (HR.out.els i hi).1 (by decide)), hR3, (fun k hk => (by have e : b2 = k := Option.some.inj hk; subst e; rcases hor with h | h; exact HS.out.2 _ h; exact Nat.le_trans HB.out.size h))⟩; clear hR3 hF3 hor)
          refine ⟨⟨_, _, _, _, _, _, _, _, _, _, _, _, ⟨j + 1, by omega, ?_, HE.out.1, HE.out.2.1, HE.out.2.2.1, HE.out.2.2.2⟩, rfl⟩, ?_⟩
          · go_num
          · simp [intOf]; omega
        · have hj3 : j = 3 := by omega
          subst hj3
          obtain ⟨bw, capw, rfl, hcw, hcl⟩ := owns_form HS.out.1 (by omega)
          have c0 := hcw 0 (.string (ts7 n m 0)) rfl
          have c2 : wB.cell? ⟨bw, 2, none⟩ = some (.string (ts7 n m 0)) := hcw 2 (.string (ts7 n m 2)) rfl
          have hsz : (ts7 n m 0).size = 512 := by unfold ts7; rw [str_size (cs7 n m 0) (sup_bd _)]; exact cs7_len _ _ _
          have HTS : Hid (strOfNums (cs7 n m 0) = ts7 n m 0) := rfl
          have HS3 : Hid (wB.ownsRow 0 9 1 (.slice (some ⟨bw, 0, none⟩) 3 capw) 3 [.string (ts7 n m 0), .string (ts7 n m 1), .string (ts7 n m 2)]) := HS.out.1
          clear HS hR hcw
          generalize ts7 n m 0 = tt at *
          go_upto_region 16 with fail
          go_quiet (fail)
          go_upto_region 18 with fail
          have HB4 : Hid (Below w.heap.size w (wB.drewN nq)) := HB.out.trans ((drew7 wB nq).mono HB.out.size)
          have HR4 : Hid (RowsAt w (wB.drewN nq) (.slice (some ⟨b, 0, none⟩) 3 cap) 3 g k512 (cf7 n m 0)) := HR.out.on (drew7 wB nq)
          have HS4 : Hid ((wB.drewN nq).ownsRow 0 9 1 (.slice (some ⟨bw, 0, none⟩) 3 capw) 3 [.string tt, .string (ts7 n m 1), .string (ts7 n m 2)]) := owns_fr HS3.out (below_fr (drew7 wB nq) (fun _ => False)) (fun _ _ e => e)
          clear HB HR HS3 c0 c2 hsz hcl
          generalize ts7 n m 1 = tu at *
          generalize ts7 n m 2 = tv at *
          generalize wB.drewN nq = wC at *
          go_wp2_with fail
          go_loopw [78] (fun i wq => ∃ (j : Nat), j ≤ 3 ∧ i = .int .i64 j ∧ Below w.heap.size w wq ∧ RowsAt w wq (.slice (some ⟨b, 0, none⟩) 3 cap) 3 g k512 (cf7 n m j) ∧ wq.ownsRow 0 9 1 (.slice (some ⟨bw, 0, none⟩) 3 capw) 3 [.string tt, .string tu, .string tv]) (fun i _ => (3 - intOf i).toNat)
          case atStart => exact ⟨0, by omega, rfl, HB4.out, HR4.out, HS4.out⟩
          case round =>
            clear HB4 HR4 HS4
            rename World => wD
            obtain ⟨j, hj, rfl, hb, hR, hS⟩ := hrel
            have HB : Hid (Below w.heap.size w wD) := hb
            have HR : Hid (RowsAt w wD (.slice (some ⟨b, 0, none⟩) 3 cap) 3 g k512 (cf7 n m j)) := hR
            have HS : Hid (wD.ownsRow 0 9 1 (.slice (some ⟨bw, 0, none⟩) 3 capw) 3 [.string tt, .string tu, .string tv]) := hS
            clear hb hS
            by_cases hlt : j < 3
            · have hc := hR.is j hlt
              rw [cf7_len, show k512 j = 512 from rfl] at hc
              have hlj : (j : Int) < 3 := by omega
              clear hR
              have HJ : Hid (up (cf7 n m j) j (ov (cs7 n m j) 0 0 (fun _ => 20 + (j : Int))) = cf7 n m j) := by
                show _ = _
                rw [ov_zero, show cs7 n m j = cf7 n m j j from (if_neg (by omega)).symm, up_self]
              go_wp2_with fail
              go_loopw [85] (fun i wq => ∃ (k : Nat), k ≤ 512 ∧ i = .int .i64 k ∧ Below w.heap.size w wq ∧ RowsAt w wq (.slice (some ⟨b, 0, none⟩) 3 cap) 3 g k512 (up (cf7 n m j) j (ov (cs7 n m j) 0 k (fun _ => 20 + (j : Int)))) ∧ wq.ownsRow 0 9 1 (.slice (some ⟨bw, 0, none⟩) 3 capw) 3 [.string tt, .string tu, .string tv]) (fun i _ => (512 - intOf i).toNat)
              case atStart => exact ⟨0, by omega, rfl, HB.out, by rw [HJ.out]; exact HR.out, HS.out⟩
              case round =>
                clear HB HR HS HJ hc
                rename World => wE
                obtain ⟨k, hk, rfl, hb, hR, hS⟩ := hrel
                have HB : Hid (Below w.heap.size w wE) := hb
                have HR : Hid (RowsAt w wE (.slice (some ⟨b, 0, none⟩) 3 cap) 3 g k512 (up (cf7 n m j) j (ov (cs7 n m j) 0 k (fun _ => 20 + (j : Int))))) := hR
                have HS : Hid (wE.ownsRow 0 9 1 (.slice (some ⟨bw, 0, none⟩) 3 capw) 3 [.string tt, .string tu, .string tv]) := hS
                clear hb hS
                by_cases hk5 : k < 512
                · have hki : (k : Int) < 512 := by omega
                  have ho := (hR.els j hlt).1
                  rw [up_at] at ho
                  have hd := ho.cell k (by rw [ov_length, cs7_len]; exact hk5)
                  have hf := ho.frozen k
                  have hset := hR.set j hlt k (20 + (j : Int)) (by rw [up_at, ov_length, cs7_len]; exact hk5) (by omega)
                  rw [up_at, up_up, show (ov (cs7 n m j) 0 k (fun _ => 20 + (j : Int))).set k (20 + (j : Int)) = ov (cs7 n m j) 0 (k + 1) (fun _ => 20 + (j : Int)) from (by have z := ov_set (cs7 n m j) 0 k (fun _ => 20 + (j : Int)) (by rw [cs7_len]; omega); rw [Nat.zero_add] at z; exact z)] at hset
                  have hfr : Fr (fun i => i = g j) wE (wE.setCell ⟨g j, k, none⟩ (.int .u8 (20 + (j : Int)))) := Fr.set
                  have HE : Hid (Below w.heap.size w (wE.setCell ⟨g j, k, none⟩ (.int .u8 (20 + (j : Int)))) ∧ RowsAt w (wE.setCell ⟨g j, k, none⟩ (.int .u8 (20 + (j : Int)))) (.slice (some ⟨b, 0, none⟩) 3 cap) 3 g k512 (up (cf7 n m j) j (ov (cs7 n m j) 0 (k + 1) (fun _ => 20 + (j : Int)))) ∧ (wE.setCell ⟨g j, k, none⟩ (.int .u8 (20 + (j : Int)))).ownsRow 0 9 1 (.slice (some ⟨bw, 0, none⟩) 3 capw) 3 [.string tt, .string tu, .string tv]) := ⟨HB.out.trans (hfr.below w.heap.size (fun q hq => hq ▸ (hR.els j hlt).2) HB.out.size), hset, owns_fr HS.out hfr (fun q hq e => own_apart7 HS.out (hR.els j hlt).1 (by decide) (e ▸ hq))⟩
                  clear hset hfr ho hR
                  generalize g j = gj at *
                  go_wp2
                  exact ⟨⟨k + 1, by omega, by go_num, HE.out.1, HE.out.2.1, HE.out.2.2⟩, by simp [intOf]; omega⟩
                · have hk2 : k = 512 := by omega
                  subst hk2
                  have HR5 : Hid (RowsAt w wE (.slice (some ⟨b, 0, none⟩) 3 cap) 3 g k512 (cf7 n m (j + 1))) := hR.cong fun i _ => by
                    by_cases e : i = j
                    · subst e; rw [up_at, ov_all _ _ 512 (cs7_len _ _ _)]; exact (if_pos (Nat.lt_succ_self _)).symm
                    · rw [up_off _ _ e]; unfold cf7
                      by_cases e2 : i < j
                      · rw [if_pos e2, if_pos (by omega)]
                      · rw [if_neg e2, if_neg (by omega)]
                  clear hR HR
                  go_wp2
                  exact ⟨⟨j + 1, by omega, by go_num, HB.out, HR5.out, HS.out⟩, by simp [intOf]; omega⟩
            · have hj3 : j = 3 := by omega
              subst hj3
              have HR5 : Hid (RowsAt w wD (.slice (some ⟨b, 0, none⟩) 3 cap) 3 g k512 ds7) := hR.cong fun i hi => if_pos hi
              clear hR HR
              go_wp2_with fail
              go_loopw [16, 98] (fun s16 i wq => ∃ (j : Nat) (g' c' : Nat → Nat), j ≤ 3 ∧ i = .int .i64 j ∧ Below w.heap.size w wq ∧ RowsAt w wq (.slice (some ⟨b, 0, none⟩) 3 cap) 3 g k512 ds7 ∧ wq.ownsRow 0 9 1 (.slice (some ⟨bw, 0, none⟩) 3 capw) 3 [.string tt, .string tu, .string tv] ∧ RowsAt w wq s16 j g' c' es7 ∧ ¬ s16.ownBlock = some b) (fun _ i _ => (3 - intOf i).toNat)
              case atStart => exact ⟨0, fun _ => 0, fun _ => 0, by omega, rfl, HB.out, HR5.out, HS.out, rows_none _ _ _ _ _, fun e => by cases e⟩
              case round =>
                clear HB HR5 HS
                rename World => wF
                obtain ⟨j, g', c', hj, rfl, hb, hR, hS, hM, hne⟩ := hrel
                have HB : Hid (Below w.heap.size w wF) := hb
                have HR : Hid (RowsAt w wF (.slice (some ⟨b, 0, none⟩) 3 cap) 3 g k512 ds7) := hR
                have HS : Hid (wF.ownsRow 0 9 1 (.slice (some ⟨bw, 0, none⟩) 3 capw) 3 [.string tt, .string tu, .string tv]) := hS
                have HM : Hid (RowsAt w wF u16 j g' c' es7 ∧ ¬ u16.ownBlock = some b) := ⟨hM, hne⟩
                clear hb hS hM hne
                by_cases hlt : j < 3
                · have hc := hR.is j hlt
                  rw [show (ds7 j).length = 512 from List.length_replicate, show k512 j = 512 from rfl] at hc
                  have hlj : (j : Int) < 3 := by omega
                  have HO : Hid (OwnB wF (g j) 512 (ds7 j)) := (hR.els j hlt).1
                  clear hR
                  generalize g j = gj at hc HO
                  have K0 : Hid (0 = 0) := rfl
                  go_wp2_with (first
                    | (at_builtin; have hh := K0.out; clear hh K0; refine wp_full7 (w1 := wF) rfl (.tmp 104) (.tmp 108) rfl gj 512 (ds7 j) (20 + (j : Int)) (by omega) List.length_replicate rfl rfl HO.out (by omega) ?_; intro gx cx w4 hgx hox hbx; rw [es7_of] at hox; have HX : Hid (wF.heap.size ≤ gx ∧ OwnB w4 gx cx (es7 j) ∧ Below wF.heap.size wF w4) := ⟨hgx, hox, hbx⟩; clear hgx hox hbx; have K1 : Hid (0 = 0) := rfl)
                    | (at_builtin; have hh := K1.out; clear hh K1; refine wp_rows7 (wx := w4) rfl (.tmp 103) (.tmp 110) rfl w u16 j g' c' es7 rfl rfl gx cx _ (es7 j) List.length_replicate (HM.out.1.on HX.out.2.2) HX.out.2.1 (Nat.le_trans HB.out.size HX.out.1) (fun i hi => (by have := (HM.out.1.els i hi).1.lt; have := HX.out.1; omega)) (Nat.le_trans HB.out.size HX.out.2.2.size) (by omega) ?_; intro b5 cap5 w5 hR5 hF5 hor; rw [up_self] at hR5; have hR4 := HR.out.on HX.out.2.2; have hM4 := HM.out.1.on HX.out.2.2; have hS4 := owns_fr HS.out (below_fr HX.out.2.2 (fun _ => False)) (fun _ _ e => e); have HE : Hid (Below w.heap.size w w5 ∧ RowsAt w w5 (.slice (some ⟨b, 0, none⟩) 3 cap) 3 g k512 ds7 ∧ w5.ownsRow 0 9 1 (.slice (some ⟨bw, 0, none⟩) 3 capw) 3 [.string tt, .string tu, .string tv] ∧ RowsAt w w5 (.slice (some ⟨b5, 0, none⟩) (j + 1) cap5) (j + 1) (up g' j gx) (up c' j cx) es7 ∧ ¬ (Value.slice (some ⟨b5, 0, none⟩) (j + 1) cap5).ownBlock = some b) := ⟨(HB.out.trans (HX.out.2.2.mono HB.out.size)).trans (hF5.below w.heap.size (fun k hk => hM4.top k hk) (Nat.le_trans HB.out.size HX.out.2.2.size)), hR4.fr hF5 (fun k hk e => HM.out.2 (by have z : b = k := Option.some.inj hk; rw [z]; exact e)) (fun i hi => own_apart7 hM4.own (hR4.els i hi).1 (by decide)), owns_fr hS4 hF5 (fun k hk => own_apartO hS4 hM4.own (by decide) k hk), hR5, (fun e => (by have z : b5 = b := Option.some.inj e; subst z; rcases hor with h | h; exact HM.out.2 h; have h9 := owns_block HR.out.own (k := b5) rfl; have h8 := HX.out.2.2.size; omega))⟩; clear hR5 hF5 hor hR4 hM4 hS4))
                  refine ⟨⟨_, _, _, _, _, _, _, _, _, _, _, _, _, _, _, _, _, _, ⟨j + 1, up g' j gx, up c' j cx, by omega, ?_, HE.out.1, HE.out.2.1, HE.out.2.2.1, HE.out.2.2.2.1, HE.out.2.2.2.2⟩, rfl⟩, ?_⟩
                  · go_num
                  · simp [intOf]; omega
                · have hj3 : j = 3 := by omega
                  subst hj3
                  obtain ⟨bm, capm, rfl, _, _⟩ := owns_form HM.out.1.own (by omega)
                  have HW : Hid (RowsAt w wF (.slice (some ⟨bm, 0, none⟩) 3 capm) 3 g' c' es7) := HM.out.1
                  clear hR HM
                  go_wp2_with fail
                  go_loopw [115] (fun i wq => ∃ (j : Nat), j ≤ 3 ∧ i = .int .i64 j ∧ wF = wq) (fun i _ => (3 - intOf i).toNat)
                  case atStart => exact ⟨0, by omega, rfl, rfl⟩
                  case round =>
                    obtain ⟨j, hj, rfl, rfl⟩ := hrel
                    by_cases hlt : j < 3
                    · have hlj : (j : Int) < 3 := by omega
                      have hcm := HW.out.is j hlt
                      rw [show (es7 j).length = 513 from List.length_replicate] at hcm
                      have hcl := HR.out.is j hlt
                      rw [show (ds7 j).length = 512 from List.length_replicate, show k512 j = 512 from rfl] at hcl
                      have HOm : Hid (OwnB wF (g' j) (c' j) (es7 j)) := (HW.out.els j hlt).1
                      have HOl : Hid (OwnB wF (g j) 512 (ds7 j)) := (HR.out.els j hlt).1
                      generalize g' j = gm at hcm HOm
                      generalize c' j = cm at hcm HOm
                      generalize g j = gl at hcl HOl
                      go_wp2_with fail
                      go_loopw [122] (fun i wq => ∃ (k : Nat), k ≤ 513 ∧ i = .int .i64 k ∧ wF = wq) (fun i _ => (513 - intOf i).toNat)
                      case atStart => exact ⟨0, by omega, rfl, rfl⟩
                      case round =>
                        obtain ⟨k, hk, rfl, rfl⟩ := hrel
                        by_cases hk5 : k < 513
                        · have hki : (k : Int) < 513 := by omega
                          have hd := HOm.out.cell k (by rw [show (es7 j).length = 513 from List.length_replicate]; exact hk5)
                          rw [show nth (es7 j) k = 20 + (j : Int) from nth_rep _ _ _ hk5] at hd
                          by_cases hk6 : k < 512
                          · have hkj : (k : Int) < 512 := by omega
                            have hl := HOl.out.cell k (by rw [show (ds7 j).length = 512 from List.length_replicate]; exact hk6)
                            rw [show nth (ds7 j) k = 20 + (j : Int) from nth_rep _ _ _ hk6] at hl
                            go_wp2
                            exact ⟨⟨k + 1, by omega, by first | go_num | simp⟩, by simp [intOf]; omega⟩
                          · have hkj : ¬ (k : Int) < 512 := by omega
                            go_wp2
                            exact ⟨⟨k + 1, by omega, by first | go_num | simp⟩, by simp [intOf]; omega⟩
                        · have hk2 : k = 513 := by omega
                          subst hk2
                          go_wp2
                          exact ⟨⟨j + 1, by omega, by first | go_num | simp⟩, by simp [intOf]; omega⟩
                    · have hj3 : j = 3 := by omega
                      subst hj3
                      obtain ⟨u, hu, hub⟩ : ∃ u, IntKind.u64.wrap n = u ∧ 0 ≤ u ∧ u < 18446744073709551616 := ⟨_, rfl, wrap_bd _⟩
                      have HN : Hid (sup (128 + u % 16257) = cs7 n m 0) := by rw [← hu]; rfl
                      have HL : Hid (isLen (128 + u % 16257) = true) := hu ▸ nOf_ok _
                      clear HW HR
                      go_upto_region 44 with (go_at_call 10; refine (gsuper_ok _ _ HL.out (HT.out.on HB.out)).mono ?_; rintro e w6 ⟨gn, rfl, hg, ho, hb⟩; rw [HN.out] at ho; have HO6 : Hid (OwnB w6 gn 512 (cs7 n m 0)) := ho; have HB6 : Hid (Below w.heap.size w w6) := HB.out.trans (hb.mono HB.out.size); have hS6 := owns_fr HS.out (below_fr hb (fun _ => False)) (fun _ _ e => e); obtain ⟨b9, cap9, e9, hcw, _⟩ := owns_form hS6 (by omega); cases e9; have c0 := hcw 0 (.string tt) rfl; clear hb ho hg hS6 hcw)
                      have hcv : ∀ q, (convert 28 9 (.slice (some ⟨gn, 0, none⟩) 512 512)).run Tryd.prog (w6.drewN q) = .ok (.string tt) (w6.drewN q) := fun q => by
                        rw [← HTS.out]; exact str_opt (HO6.out.on (drew7 w6 q)).bytes (cs7_len _ _ _)
                      go_quiet (first | (go_at_call 11; refine Calls.quiet_of_same ((num7_any _ _).mono fun _ _ h => ⟨h.1, h.2.symm⟩)))
                      (try go_wp2)
                      go_ret
                      exact ⟨rfl, HB6.out.trans ((drew7 w6 _).mono HB6.out.size)⟩
end Go.Proofs.YthanoifegbjpoaaDoor
