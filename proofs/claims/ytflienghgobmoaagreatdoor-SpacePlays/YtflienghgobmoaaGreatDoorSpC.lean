import Derived.Test.YtflienghgobmoaaGreatDoorKSpM
namespace Go.Proofs.YtflienghgobmoaaGreatDoor
open Go.RowKit Go.Shelf Rec
attribute [local go_sem] Oper.semAt_some

set_option maxRecDepth 100000 in
set_option maxHeartbeats 8000000 in
theorem gatF_any (w : World) (G Db S lo hi : Nat) (z : Int) (hC : Cau w G Db S 76 lo hi z) (first : Nat) (p : Addr) (c : Nat) (s : List Int) (hb : Bytes w (some p) s) (hs : s.length = 512) (h0 : first ≤ 20000) (h1 : lo ≤ 20000) (h2 : hi ≤ 20000) (hz : 0 ≤ z ∧ z ≤ 50000) :
    Calls Tryz.prog 112 #[.int .i64 (first : Int), .slice (some p) 512 c, .pointer (some ⟨G, 0, none⟩), .pointer (some ⟨Db, 0, none⟩)] w fun e w' => e = .returned (.bool true) ∧ BoxI w S (z + (ct (fb lo hi first s) 4096 : Nat)) w' := by
  refine (callsIn_wide (n := 6)).1 ?_
  have HC : Hid (Cau w G Db S 76 lo hi z) := hC
  have hf4 : Fence.wide.fn 113 := trivial
  have hf5 : Fence.wide.fn 76 := trivial
  have hGl := block_lt_of_cell hC.g0
  have hDl := block_lt_of_cell hC.d
  have hSl := block_lt_of_cell hC.s
  have hap1 := hC.ap1
  have hap2 := hC.ap2
  dsimp only at hGl hDl hSl
  clear hC
  have cR : ∀ w1, Below w.heap.size w w1 → CallsIn Fence.wide 5 Tryz.prog 113 #[.slice (some p) 512 c] w1 fun e w' => ∃ B g cap, e = .returned (.func (.func 147) #[] #[.pointer (some ⟨B, 0, none⟩)]) ∧ SeqAt w' B g cap s ∧ w1.heap.size ≤ B ∧ w1.heap.size ≤ g ∧ Below w1.heap.size w1 w' := fun w1 hb1 => callsIn_wide.2 (runs_any w1 512 c (some p) s (hb.on hb1) hs (fun e => by cases e) (by omega))
  refine callsIn_of_wp_marks Tryz.func112 rfl trivial ?_ rfl
  simp only [Tryz.ntmps112, List.size_toArray, List.length_cons, List.length_nil, Nat.reduceAdd, Nat.reduceSub, Array.replicate_succ, Array.replicate_zero, List.push_toArray, List.append_toArray, List.nil_append, List.cons_append]
  obtain ⟨wb, hwb⟩ : ∃ wb, (w.alloc (.cells #[.int .i64 (first : Int)] 3)).alloc (.cells #[.bool false] 4) = wb := ⟨_, rfl⟩
  have HB : Hid (Below w.heap.size w wb ∧ wb.heap.size = w.heap.size + 2 ∧ wb.heap[w.heap.size]? = some (.cells #[.int .i64 (first : Int)] 3 (0, 0)) ∧ wb.heap[w.heap.size + 1]? = some (.cells #[.bool false] 4 (0, 0))) := by
    rw [← hwb]
    refine ⟨((Below.refl _ _).alloc (Nat.le_refl _) _).alloc (by simp) _, by simp, ?_, ?_⟩
    · exact (Below.heap_alloc _ _ _ (by simp)).trans (heap_alloc_new _ _)
    · have := heap_alloc_new (w.alloc (.cells #[.int .i64 (first : Int)] 3)) (.cells #[.bool false] 4)
      rw [World.size_alloc] at this
      exact this
  gi_wp2_with (gi_at_call 113; refine (cR _ HB.out.1).mono ?_; rintro e wa ⟨B, g, cap, rfl, hB, hB1, hB2, hb2⟩; have H2 : Hid (SeqAt wa B g cap s ∧ Below wb.heap.size wb wa) := ⟨hB, hb2⟩; clear hB hb2)
  obtain ⟨sw, hsw⟩ : ∃ sw, w.heap.size = sw := ⟨_, rfl⟩
  have hs2 := HB.out.2.1
  have hs3 := H2.out.2.size
  rw [hsw] at HB hGl hDl hSl hs2
  simp only [hsw]
  have HA : Hid (Below sw w wa ∧ wa.heap[sw]? = some (.cells #[.int .i64 (first : Int)] 3 (0, 0)) ∧ wa.heap[sw + 1]? = some (.cells #[.bool false] 4 (0, 0))) := ⟨HB.out.1.trans (H2.out.2.mono (by omega)), (H2.out.2.block sw (by omega)).trans HB.out.2.2.1, (H2.out.2.block (sw + 1) (by omega)).trans HB.out.2.2.2⟩
  have hBa := H2.out.1.ltB
  have hga := H2.out.1.ltg
  clear hwb
  refine wpIn_rangeFunc_ownG rfl (by omega) (gf := 147) (lb := #[.pointer (some ⟨B, 0, none⟩)]) rfl trivial (enters_of Tryz.func147 (by kernel_rfl) rfl)
    (runs_stops B g cap s wa H2.out.1 (by omega)) (fun h k => h.trans k) (KpB.put hBa hga) (Below.refl _ _) (fun _ => rfl)
    (fun pre W => Bx2 wa S (sw + 1) (z + (clips lo hi first (pre.map (·.1)) : Nat)) W) (fun _ _ _ => False) (Bx2.own wa S (sw + 1) (fun pre : List (RwB s) => z + (clips lo hi first (pre.map (·.1)) : Nat)) (by omega) (by omega)) (fun _ _ _ _ _ hs _ _ => hs.elim) ⟨(HA.out.1.cell (p := ⟨S, 0, none⟩) hSl).trans (by rw [HC.out.s]; simp [clips]), (frozen_blk (HA.out.1.block S hSl)).trans HC.out.sf, by rw [cell_of_row _ _ _ _ _ _ HA.out.2.2]; rfl, frozen_of_row _ _ _ _ _ HA.out.2.2, Fr.refl _ _⟩ ?a1 ?assign ?body ?done ?stop
  case assign =>
    intro l x W K hK
    gi_wp2
    exact hK
  case body =>
    rintro lp pre ⟨⟨at_, k⟩, hx⟩ W hI hlt
    have htop := (runs_row hx).top
    dsimp only at htop
    rw [hs] at htop
    have hcS := hI.cell
    have hfS := hI.frozen
    have hcr := hI.rc
    have hfr := hI.rf
    have hnS : ∀ q, q < wa.heap.size → q ≠ S → q ≠ sw + 1 → ¬ (q = S ∨ q = sw + 1 ∨ wa.heap.size ≤ q) := fun q h1 h2 h3 h => by omega
    have hcf : W.cell? ⟨sw, 0, none⟩ = some (.int .i64 (first : Int)) := hI.fr.cell (by rw [cell_of_row _ _ _ _ _ _ HA.out.2.1]; rfl) (hnS sw (by omega) (by omega) (by omega))
    have hc0 : W.cell? ⟨G, 0, none⟩ = some (.int .i64 (hi : Int)) := hI.fr.cell ((HA.out.1.cell (p := ⟨G, 0, none⟩) hGl).trans HC.out.g0) (hnS G (by omega) hap1 (by omega))
    have hc3 : W.cell? ⟨G, 3, none⟩ = some (.int .i64 (lo : Int)) := hI.fr.cell ((HA.out.1.cell (p := ⟨G, 3, none⟩) hGl).trans HC.out.g3) (hnS G (by omega) hap1 (by omega))
    have hcd : W.cell? ⟨Db, 0, none⟩ = some (.func (.func 76) #[] #[.pointer (some ⟨S, 0, none⟩)]) := hI.fr.cell ((HA.out.1.cell (p := ⟨Db, 0, none⟩) hDl).trans HC.out.d) (hnS Db (by omega) hap2 (by omega))
    obtain ⟨a0, ha0⟩ : ∃ a0 : Nat, first + at_ = a0 := ⟨_, rfl⟩
    obtain ⟨a1, ha1⟩ : ∃ a1 : Nat, a0 + k = a1 := ⟨_, rfl⟩
    obtain ⟨f, hf⟩ : ∃ f : Nat, max a0 lo = f := ⟨_, rfl⟩
    obtain ⟨t, ht⟩ : ∃ t : Nat, min a1 hi = t := ⟨_, rfl⟩
    have e0 : (first : Int) + (at_ : Int) = (a0 : Int) := by omega
    have e1 : (a0 : Int) + (k : Int) = (a1 : Int) := by omega
    have HI : Hid (Bx2 wa S (sw + 1) (z + (clips lo hi first (pre.map (·.1)) : Nat)) W) := hI
    have hcl : clips lo hi first (pre.map (·.1)) ≤ 100000000 := by
      have h9 := clips_le lo hi first (pre.map (·.1))
      have h8 := runs_len s
      rw [List.length_map] at h9
      have h7 : pre.length * hi ≤ 4096 * 20000 := Nat.mul_le_mul (by omega) h2
      omega
    obtain ⟨y, hy⟩ : ∃ y : Int, z + (clips lo hi first (pre.map (·.1)) : Nat) = y := ⟨_, rfl⟩
    have hyb : 0 ≤ y ∧ y ≤ 200000000 := by omega
    rw [hy] at hcS HI
    have HY : Hid (z + (clips lo hi first (pre.map (·.1)) : Nat) = y) := hy
    have HX : Hid (clip lo hi first (at_, k) = t - f) := by
      show clip lo hi first (at_, k) = t - f
      rw [clip, ← hf, ← ht, ← ha1, ← ha0]
    clear hI hcl hy
    by_cases hft : f < t
    · have HCU : Hid (CallsIn Fence.wide (6 - 1 - 1 - 1) Tryz.prog 76 #[.int .i64 (f : Int), .int .i64 (t : Int), .pointer (some ⟨S, 0, none⟩)] W fun e w' => e = .returned (.bool true) ∧ w' = W.setCell ⟨S, 0, none⟩ (.int .i64 (y + (t - f : Nat)))) := callsIn_wide.2 (free1_any W S y f t (y + (t - f : Nat)) hcS hfS (by omega) (by omega) (by omega))
      have hft' : (f : Int) < (t : Int) := by omega
      have hf9 : max a0 lo = f := hf
      have ht9 : min a1 hi = t := ht
      clear hf ht
      rcases (show (a0 < lo ∧ f = lo) ∨ (a0 = lo ∧ f = lo) ∨ (lo < a0 ∧ f = a0) from by omega) with ⟨c1, rfl⟩ | ⟨rfl, rfl⟩ | ⟨c1, rfl⟩ <;> rcases (show (a1 < hi ∧ t = a1) ∨ (a1 = hi ∧ t = a1) ∨ (hi < a1 ∧ t = hi) from by omega) with ⟨c2, rfl⟩ | ⟨rfl, rfl⟩ | ⟨c2, rfl⟩
      all_goals
        gi_wp2_with (gi_at_call 76; refine (CallsIn.inRound lp HCU.out).mono ?_; rintro e W' ⟨rfl, rfl⟩; clear HCU)
        refine ⟨(Rm.set (Rm.refl _ B g W) S _ (by omega) (by omega)).keeps, (Rm.set (Rm.refl 0 B g W) S _ (by omega) (by omega)).kp, ?_⟩
        show Bx2 wa S (sw + 1) (z + ((clips _ _ first ((pre ++ [(⟨(at_, k), hx⟩ : RwB s)]).map (·.1)) : Nat) : Int)) _
        rw [List.map_append, List.map_cons, List.map_nil, clips_snoc, HX.out, Int.natCast_add, ← Int.add_assoc, HY.out]
        exact HI.out.set (by omega) _
    · have hft' : ¬ (f : Int) < (t : Int) := by omega
      have hf9 : max a0 lo = f := hf
      have ht9 : min a1 hi = t := ht
      clear hf ht
      rcases (show (a0 < lo ∧ f = lo) ∨ (a0 = lo ∧ f = lo) ∨ (lo < a0 ∧ f = a0) from by omega) with ⟨c1, rfl⟩ | ⟨rfl, rfl⟩ | ⟨c1, rfl⟩ <;> rcases (show (a1 < hi ∧ t = a1) ∨ (a1 = hi ∧ t = a1) ∨ (hi < a1 ∧ t = hi) from by omega) with ⟨c2, rfl⟩ | ⟨rfl, rfl⟩ | ⟨c2, rfl⟩
      all_goals
        gi_wp2
        refine ⟨fun _ h => (by cases h), ?_⟩
        gi_wp2
        refine ⟨(Rm.refl _ B g W).keeps, (Rm.refl 0 B g W).kp, ?_⟩
        show Bx2 wa S (sw + 1) (z + ((clips _ _ first ((pre ++ [(⟨(at_, k), hx⟩ : RwB s)]).map (·.1)) : Nat) : Int)) _
        rw [List.map_append, List.map_cons, List.map_nil, clips_snoc, HX.out, show t - f = 0 from by omega]
        show Bx2 wa S (sw + 1) (z + ((clips _ _ first (pre.map (·.1)) : Nat) : Int)) W
        rw [HY.out]
        exact HI.out
  case done =>
    rintro D ys W hD hS hI hK
    rw [show (clips lo hi first (ys.map (·.1)) : Nat) = ct (fb lo hi first s) 4096 from by rw [hS, runs_clip, hs]] at hI
    have hcr := hI.rc
    have hfr := hI.rf
    have hbW : Fr (fun k => k = S ∨ w.heap.size ≤ k) w W := ((below_fr (S := fun k => k = S ∨ w.heap.size ≤ k) (by rw [hsw]; exact HA.out.1)).trans hI.fr (fun k hk => by rw [hsw]; omega))
    have HK : Hid (W.heap[D]? = some (.deferred (some [])) ∧ Bx2 wa S (sw + 1) (z + (ct (fb lo hi first s) 4096 : Nat)) W) := ⟨hK, hI⟩
    clear hK hI
    gi_wp2
    have hK' : (W.setCell ⟨sw + 1, 0, none⟩ (.bool true)).heap[D]? = some (.deferred (some [])) := (set_other (by omega)).trans HK.out.1
    have hc5 := cell_kept (World.cell?_setCell_same' W ⟨sw + 1, 0, none⟩ (.bool true) (by rw [hcr]; rfl)) (grownBy_putObj' _ D (.deferred none)) (fun r e => by cases e; exact ⟨_, hK', rfl⟩)
    refine ⟨by simp, .inl ⟨_, _, rfl, run_takeDeferred hK', ?_⟩⟩
    refine ⟨.bool true, ?_, rfl, ?_⟩
    · simp [results, Tryz.f112, go_sem, hc5]
    · exact ⟨(frPut _ _ _).cell (Fr.set.cell HK.out.2.cell (by show ¬ S = sw + 1; omega)) (by show ¬ S = D; omega), (frozen_blk ((frPut _ _ _).block S (by exact block_lt_of_cell (Fr.set.cell HK.out.2.cell (by show ¬ S = sw + 1; omega))) (by show ¬ S = D; omega))).trans ((frozen_blk (set_other (by omega))).trans HK.out.2.frozen), (hbW.trans Fr.set (fun k hk => .inl (.inr (by have hk : k = sw + 1 := hk; omega)))).trans (frPut _ _ _) (fun k hk => .inl (.inr (by have hk : k = D := hk; omega)))⟩
  case stop => exact fun _ _ _ _ _ _ h _ => h.elim

set_option maxRecDepth 100000 in
set_option maxHeartbeats 8000000 in
theorem gatL_any (w : World) (G Db S lo hi : Nat) (z : Int) (hC : Cau w G Db S 106 lo hi z) (first : Nat) (p : Addr) (c : Nat) (s : List Int) (hb : Bytes w (some p) s) (hs : s.length = 512) (h0 : first ≤ 20000) (h1 : lo ≤ 20000) (h2 : hi ≤ 20000) (_ : 0 ≤ z ∧ z ≤ 50000) :
    Calls Tryz.prog 112 #[.int .i64 (first : Int), .slice (some p) 512 c, .pointer (some ⟨G, 0, none⟩), .pointer (some ⟨Db, 0, none⟩)] w fun e w' => (e = .returned (.bool true) ∧ ct (fb lo hi first s) 4096 = 0 ∧ BoxI w S z w') ∨ (e = .returned (.bool false) ∧ ∃ j, j < 4096 ∧ IsLo (fb lo hi first s) j ∧ BoxI w S ((first + j : Nat) : Int) w') := by
  refine (callsIn_wide (n := 6)).1 ?_
  have HC : Hid (Cau w G Db S 106 lo hi z) := hC
  have hf4 : Fence.wide.fn 113 := trivial
  have hf5 : Fence.wide.fn 106 := trivial
  have hGl := block_lt_of_cell hC.g0
  have hDl := block_lt_of_cell hC.d
  have hSl := block_lt_of_cell hC.s
  have hap1 := hC.ap1
  have hap2 := hC.ap2
  dsimp only at hGl hDl hSl
  clear hC
  have cR : ∀ w1, Below w.heap.size w w1 → CallsIn Fence.wide 5 Tryz.prog 113 #[.slice (some p) 512 c] w1 fun e w' => ∃ B g cap, e = .returned (.func (.func 147) #[] #[.pointer (some ⟨B, 0, none⟩)]) ∧ SeqAt w' B g cap s ∧ w1.heap.size ≤ B ∧ w1.heap.size ≤ g ∧ Below w1.heap.size w1 w' := fun w1 hb1 => callsIn_wide.2 (runs_any w1 512 c (some p) s (hb.on hb1) hs (fun e => by cases e) (by omega))
  refine callsIn_of_wp_marks Tryz.func112 rfl trivial ?_ rfl
  simp only [Tryz.ntmps112, List.size_toArray, List.length_cons, List.length_nil, Nat.reduceAdd, Nat.reduceSub, Array.replicate_succ, Array.replicate_zero, List.push_toArray, List.append_toArray, List.nil_append, List.cons_append]
  obtain ⟨wb, hwb⟩ : ∃ wb, (w.alloc (.cells #[.int .i64 (first : Int)] 3)).alloc (.cells #[.bool false] 4) = wb := ⟨_, rfl⟩
  have HB : Hid (Below w.heap.size w wb ∧ wb.heap.size = w.heap.size + 2 ∧ wb.heap[w.heap.size]? = some (.cells #[.int .i64 (first : Int)] 3 (0, 0)) ∧ wb.heap[w.heap.size + 1]? = some (.cells #[.bool false] 4 (0, 0))) := by
    rw [← hwb]
    refine ⟨((Below.refl _ _).alloc (Nat.le_refl _) _).alloc (by simp) _, by simp, ?_, ?_⟩
    · exact (Below.heap_alloc _ _ _ (by simp)).trans (heap_alloc_new _ _)
    · have := heap_alloc_new (w.alloc (.cells #[.int .i64 (first : Int)] 3)) (.cells #[.bool false] 4)
      rw [World.size_alloc] at this
      exact this
  gi_wp2_with (gi_at_call 113; refine (cR _ HB.out.1).mono ?_; rintro e wa ⟨B, g, cap, rfl, hB, hB1, hB2, hb2⟩; have H2 : Hid (SeqAt wa B g cap s ∧ Below wb.heap.size wb wa) := ⟨hB, hb2⟩; clear hB hb2)
  obtain ⟨sw, hsw⟩ : ∃ sw, w.heap.size = sw := ⟨_, rfl⟩
  have hs2 := HB.out.2.1
  have hs3 := H2.out.2.size
  rw [hsw] at HB hGl hDl hSl hs2
  simp only [hsw]
  have HA : Hid (Below sw w wa ∧ wa.heap[sw]? = some (.cells #[.int .i64 (first : Int)] 3 (0, 0)) ∧ wa.heap[sw + 1]? = some (.cells #[.bool false] 4 (0, 0))) := ⟨HB.out.1.trans (H2.out.2.mono (by omega)), (H2.out.2.block sw (by omega)).trans HB.out.2.2.1, (H2.out.2.block (sw + 1) (by omega)).trans HB.out.2.2.2⟩
  have hBa := H2.out.1.ltB
  have hga := H2.out.1.ltg
  clear hwb
  refine wpIn_rangeFunc_ownG rfl (by omega) (gf := 147) (lb := #[.pointer (some ⟨B, 0, none⟩)]) rfl trivial (enters_of Tryz.func147 (by kernel_rfl) rfl)
    (runs_stops B g cap s wa H2.out.1 (by omega)) (fun h k => h.trans k) (KpB.put hBa hga) (Below.refl _ _) (fun _ => rfl)
    (LoI wa S (sw + 1) lo hi first z s) (LoX wa S (sw + 1) lo hi first s) (LoI.own wa S (sw + 1) lo hi first z s (by omega) (by omega)) (fun c => LoX.own wa S (sw + 1) lo hi first s c (by omega) (by omega)) ⟨⟨(HA.out.1.cell (p := ⟨S, 0, none⟩) hSl).trans HC.out.s, (frozen_blk (HA.out.1.block S hSl)).trans HC.out.sf, by rw [cell_of_row _ _ _ _ _ _ HA.out.2.2]; rfl, frozen_of_row _ _ _ _ _ HA.out.2.2, Fr.refl _ _⟩, rfl⟩ ?a1 ?assign ?body ?done ?stop
  case assign =>
    intro l x W K hK
    gi_wp2
    exact hK
  case body =>
    rintro lp pre ⟨⟨at_, k⟩, hx⟩ W ⟨hI, hcl0⟩ hlt
    have htop := (runs_row hx).top
    dsimp only at htop
    rw [hs] at htop
    have hcS := hI.cell
    have hfS := hI.frozen
    have hcr := hI.rc
    have hfr := hI.rf
    have hnS : ∀ q, q < wa.heap.size → q ≠ S → q ≠ sw + 1 → ¬ (q = S ∨ q = sw + 1 ∨ wa.heap.size ≤ q) := fun q h1 h2 h3 h => by omega
    have hcf : W.cell? ⟨sw, 0, none⟩ = some (.int .i64 (first : Int)) := hI.fr.cell (by rw [cell_of_row _ _ _ _ _ _ HA.out.2.1]; rfl) (hnS sw (by omega) (by omega) (by omega))
    have hc0 : W.cell? ⟨G, 0, none⟩ = some (.int .i64 (hi : Int)) := hI.fr.cell ((HA.out.1.cell (p := ⟨G, 0, none⟩) hGl).trans HC.out.g0) (hnS G (by omega) hap1 (by omega))
    have hc3 : W.cell? ⟨G, 3, none⟩ = some (.int .i64 (lo : Int)) := hI.fr.cell ((HA.out.1.cell (p := ⟨G, 3, none⟩) hGl).trans HC.out.g3) (hnS G (by omega) hap1 (by omega))
    have hcd : W.cell? ⟨Db, 0, none⟩ = some (.func (.func 106) #[] #[.pointer (some ⟨S, 0, none⟩)]) := hI.fr.cell ((HA.out.1.cell (p := ⟨Db, 0, none⟩) hDl).trans HC.out.d) (hnS Db (by omega) hap2 (by omega))
    obtain ⟨a0, ha0⟩ : ∃ a0 : Nat, first + at_ = a0 := ⟨_, rfl⟩
    obtain ⟨a1, ha1⟩ : ∃ a1 : Nat, a0 + k = a1 := ⟨_, rfl⟩
    obtain ⟨f, hf⟩ : ∃ f : Nat, max a0 lo = f := ⟨_, rfl⟩
    obtain ⟨t, ht⟩ : ∃ t : Nat, min a1 hi = t := ⟨_, rfl⟩
    have e0 : (first : Int) + (at_ : Int) = (a0 : Int) := by omega
    have e1 : (a0 : Int) + (k : Int) = (a1 : Int) := by omega
    have HI : Hid (Bx2 wa S (sw + 1) z W ∧ clips lo hi first (pre.map (·.1)) = 0) := ⟨hI, hcl0⟩
    have HX : Hid (clip lo hi first (at_, k) = t - f) := by
      show clip lo hi first (at_, k) = t - f
      rw [clip, ← hf, ← ht, ← ha1, ← ha0]
    have HM : Hid (max (first + at_) lo = f ∧ min (first + at_ + k) hi = t) := ⟨by rw [← hf, ← ha0], by rw [← ht, ← ha1, ← ha0]⟩
    clear hI hcl0
    by_cases hft : f < t
    · have HCU : Hid (CallsIn Fence.wide (6 - 1 - 1 - 1) Tryz.prog 106 #[.int .i64 (f : Int), .int .i64 (t : Int), .pointer (some ⟨S, 0, none⟩)] W fun e w' => e = .returned (.bool false) ∧ w' = W.setCell ⟨S, 0, none⟩ (.int .i64 (f : Int))) := callsIn_wide.2 (low1_any W S z f t hcS hfS)
      have hcr2 : (W.setCell ⟨S, 0, none⟩ (.int .i64 (f : Int))).cell? ⟨sw + 1, 0, none⟩ = some (.bool false) := (World.cell?_of_block (set_other (show sw + 1 ≠ S by omega))).trans hcr
      have hfr2 : (W.setCell ⟨S, 0, none⟩ (.int .i64 (f : Int))).frozen? ⟨sw + 1, 0, none⟩ = false := (frozen_blk (set_other (show sw + 1 ≠ S by omega))).trans hfr
      have hft' : (f : Int) < (t : Int) := by omega
      have hf9 : max a0 lo = f := hf
      have ht9 : min a1 hi = t := ht
      clear hf ht
      rcases (show (a0 < lo ∧ f = lo) ∨ (a0 = lo ∧ f = lo) ∨ (lo < a0 ∧ f = a0) from by omega) with ⟨c1, rfl⟩ | ⟨rfl, rfl⟩ | ⟨c1, rfl⟩ <;> rcases (show (a1 < hi ∧ t = a1) ∨ (a1 = hi ∧ t = a1) ∨ (hi < a1 ∧ t = hi) from by omega) with ⟨c2, rfl⟩ | ⟨rfl, rfl⟩ | ⟨c2, rfl⟩
      all_goals
        gi_wp2_with (gi_at_call 106; refine (CallsIn.inRound lp HCU.out).mono ?_; rintro e W' ⟨rfl, rfl⟩; clear HCU)
        exact ⟨((Rm.set (Rm.refl _ B g W) S _ (by omega) (by omega)).set (sw + 1) _ (by omega) (by omega)).keeps, rfl, pre, ⟨(at_, k), hx⟩, rfl, HI.out.2, by rw [HM.out.1, HM.out.2]; exact hft, by rw [HM.out.1]; exact (HI.out.1.set (by omega) _).setr (by omega)⟩
    · have hft' : ¬ (f : Int) < (t : Int) := by omega
      have hf9 : max a0 lo = f := hf
      have ht9 : min a1 hi = t := ht
      clear hf ht
      rcases (show (a0 < lo ∧ f = lo) ∨ (a0 = lo ∧ f = lo) ∨ (lo < a0 ∧ f = a0) from by omega) with ⟨c1, rfl⟩ | ⟨rfl, rfl⟩ | ⟨c1, rfl⟩ <;> rcases (show (a1 < hi ∧ t = a1) ∨ (a1 = hi ∧ t = a1) ∨ (hi < a1 ∧ t = hi) from by omega) with ⟨c2, rfl⟩ | ⟨rfl, rfl⟩ | ⟨c2, rfl⟩
      all_goals
        gi_wp2
        refine ⟨fun _ h => (by cases h), ?_⟩
        gi_wp2
        refine ⟨(Rm.refl _ B g W).keeps, (Rm.refl 0 B g W).kp, HI.out.1, ?_⟩
        rw [List.map_append, List.map_cons, List.map_nil, clips_snoc, HX.out, HI.out.2]
        omega
  case done =>
    rintro D ys W hD hS ⟨hI, hcl0⟩ hK
    have hct : ct (fb lo hi first s) 4096 = 0 := by rw [← hcl0, hS, runs_clip, hs]
    have hcr := hI.rc
    have hfr := hI.rf
    have hbW : Fr (fun k => k = S ∨ w.heap.size ≤ k) w W := ((below_fr (S := fun k => k = S ∨ w.heap.size ≤ k) (by rw [hsw]; exact HA.out.1)).trans hI.fr (fun k hk => by rw [hsw]; omega))
    have HK : Hid (W.heap[D]? = some (.deferred (some [])) ∧ Bx2 wa S (sw + 1) z W) := ⟨hK, hI⟩
    clear hK hI
    gi_wp2
    have hK' : (W.setCell ⟨sw + 1, 0, none⟩ (.bool true)).heap[D]? = some (.deferred (some [])) := (set_other (by omega)).trans HK.out.1
    have hc5 := cell_kept (World.cell?_setCell_same' W ⟨sw + 1, 0, none⟩ (.bool true) (by rw [hcr]; rfl)) (grownBy_putObj' _ D (.deferred none)) (fun r e => by cases e; exact ⟨_, hK', rfl⟩)
    refine ⟨by simp, .inl ⟨_, _, rfl, run_takeDeferred hK', ?_⟩⟩
    refine ⟨.bool true, ?_, .inl ⟨rfl, hct, ?_⟩⟩
    · simp [results, Tryz.f112, go_sem, hc5]
    · exact ⟨(frPut _ _ _).cell (Fr.set.cell HK.out.2.cell (by show ¬ S = sw + 1; omega)) (by show ¬ S = D; omega), (frozen_blk ((frPut _ _ _).block S (by exact block_lt_of_cell (Fr.set.cell HK.out.2.cell (by show ¬ S = sw + 1; omega))) (by show ¬ S = D; omega))).trans ((frozen_blk (set_other (by omega))).trans HK.out.2.frozen), (hbW.trans Fr.set (fun k hk => .inl (.inr (by have hk : k = sw + 1 := hk; omega)))).trans (frPut _ _ _) (fun k hk => .inl (.inr (by have hk : k = D := hk; omega)))⟩
  case stop =>
    rintro D c pre W hD hS ⟨rfl, pre0, x, rfl, hcl0, hmm, hI⟩ hK
    rw [List.map_append] at hS
    obtain ⟨j, hj1, hj2, hlo⟩ := first_clip hS hcl0 hmm
    rw [hj1] at hI
    rw [hs] at hj2
    have hcr := hI.rc
    have hfr := hI.rf
    have hbW : Fr (fun k => k = S ∨ w.heap.size ≤ k) w W := ((below_fr (S := fun k => k = S ∨ w.heap.size ≤ k) (by rw [hsw]; exact HA.out.1)).trans hI.fr (fun k hk => by rw [hsw]; omega))
    have HK : Hid (W.heap[D]? = some (.deferred (some [])) ∧ Bx2 wa S (sw + 1) ((first + j : Nat) : Int) W) := ⟨hK, hI⟩
    clear hK hI
    gi_wp2
    have hK' : (W).heap[D]? = some (.deferred (some [])) := HK.out.1
    have hc5 := cell_kept hcr (grownBy_putObj' _ D (.deferred none)) (fun r e => by cases e; exact ⟨_, hK', rfl⟩)
    refine ⟨by simp, .inl ⟨_, _, rfl, run_takeDeferred hK', ?_⟩⟩
    refine ⟨.bool false, ?_, .inr ⟨rfl, j, by omega, hlo, ?_⟩⟩
    · simp [results, Tryz.f112, go_sem, hc5]
    · exact ⟨(frPut _ _ _).cell HK.out.2.cell (by show ¬ S = D; omega), (frozen_blk ((frPut _ _ _).block S (by exact block_lt_of_cell HK.out.2.cell) (by show ¬ S = D; omega))).trans HK.out.2.frozen, hbW.trans (frPut _ _ _) (fun k hk => .inl (.inr (by have hk : k = D := hk; omega)))⟩
end Go.Proofs.YtflienghgobmoaaGreatDoor

