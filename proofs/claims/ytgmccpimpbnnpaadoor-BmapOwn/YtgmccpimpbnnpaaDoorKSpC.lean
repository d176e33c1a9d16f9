import Derived.Test.YtgmccpimpbnnpaaDoorKBzD
import Derived.Test.YtgmccpimpbnnpaaDoorKSmall
import Derived.BigRegion
namespace Go.Proofs.YtgmccpimpbnnpaaDoor
open Go.RowKit Go.Shelf Rec
attribute [local go_sem] Oper.semAt_some
set_option maxRecDepth 100000 in
set_option maxHeartbeats 8000000 in
theorem gatF_any (w : World) (G Db S lo hi : Nat) (z : Int) (hC : Cau w G Db S 43 lo hi z) (first : Nat) (p : Addr) (c : Nat) (s : List Int) (hb : Bytes w (some p) s) (hs : s.length = 512) (h0 : first ≤ 20000) (h1 : lo ≤ 20000) (h2 : hi ≤ 20000) (hz : 0 ≤ z ∧ z ≤ 50000) :
    Calls Tryd.prog 58 #[.int .i64 (first : Int), .slice (some p) 512 c, .pointer (some ⟨G, 0, none⟩), .pointer (some ⟨Db, 0, none⟩)] w fun e w' => e = .returned (.bool true) ∧ BoxI w S (z + (ct (fb lo hi first s) 4096 : Nat)) w' := by
  refine (callsIn_wide (n := 6)).1 ?_
  have HC : Hid (Cau w G Db S 43 lo hi z) := hC
  have hf4 : Fence.wide.fn 59 := trivial
  have hf5 : Fence.wide.fn 43 := trivial
  have hGl := block_lt_of_cell hC.g0
  have hDl := block_lt_of_cell hC.d
  have hSl := block_lt_of_cell hC.s
  have hap1 := hC.ap1
  have hap2 := hC.ap2
  dsimp only at hGl hDl hSl
  clear hC
  have cR : ∀ w1, Below w.heap.size w w1 → CallsIn Fence.wide 5 Tryd.prog 59 #[.slice (some p) 512 c] w1 fun e w' => ∃ B g cap, e = .returned (.func (.func 73) #[] #[.pointer (some ⟨B, 0, none⟩)]) ∧ SeqAt w' B g cap s ∧ w1.heap.size ≤ B ∧ w1.heap.size ≤ g ∧ Below w1.heap.size w1 w' := fun w1 hb1 => callsIn_wide.2 (runs_any w1 512 c (some p) s (hb.on hb1) hs (fun e => by cases e) (by omega))
  refine callsIn_of_wp_marks Tryd.func58 rfl trivial ?_ rfl
  simp only [Tryd.ntmps58, List.size_toArray, List.length_cons, List.length_nil, Nat.reduceAdd, Nat.reduceSub, Array.replicate_succ, Array.replicate_zero, List.push_toArray, List.append_toArray, List.nil_append, List.cons_append]
  obtain ⟨wb, hwb⟩ : ∃ wb, (w.alloc (.cells #[.int .i64 (first : Int)] 3)).alloc (.cells #[.bool false] 4) = wb := ⟨_, rfl⟩
  have HB : Hid (Below w.heap.size w wb ∧ wb.heap.size = w.heap.size + 2 ∧ wb.heap[w.heap.size]? = some (.cells #[.int .i64 (first : Int)] 3 (0, 0)) ∧ wb.heap[w.heap.size + 1]? = some (.cells #[.bool false] 4 (0, 0))) := by
    rw [← hwb]
    refine ⟨((Below.refl _ _).alloc (Nat.le_refl _) _).alloc (by simp) _, by simp, ?_, ?_⟩
    · exact (Below.heap_alloc _ _ _ (by simp)).trans (heap_alloc_new _ _)
    · have := heap_alloc_new (w.alloc (.cells #[.int .i64 (first : Int)] 3)) (.cells #[.bool false] 4)
      rw [World.size_alloc] at this
      exact this
  gi_wp2_with (gi_at_call 59; refine (cR _ HB.out.1).mono ?_; rintro e wa ⟨B, g, cap, rfl, hB, hB1, hB2, hb2⟩; have H2 : Hid (SeqAt wa B g cap s ∧ Below wb.heap.size wb wa) := ⟨hB, hb2⟩; clear hB hb2)
  obtain ⟨sw, hsw⟩ : ∃ sw, w.heap.size = sw := ⟨_, rfl⟩
  have hs2 := HB.out.2.1
  have hs3 := H2.out.2.size
  rw [hsw] at HB hGl hDl hSl hs2
  simp only [hsw]
  have HA : Hid (Below sw w wa ∧ wa.heap[sw]? = some (.cells #[.int .i64 (first : Int)] 3 (0, 0)) ∧ wa.heap[sw + 1]? = some (.cells #[.bool false] 4 (0, 0))) := ⟨HB.out.1.trans (H2.out.2.mono (by omega)), (H2.out.2.block sw (by omega)).trans HB.out.2.2.1, (H2.out.2.block (sw + 1) (by omega)).trans HB.out.2.2.2⟩
  have hBa := H2.out.1.ltB
  have hga := H2.out.1.ltg
  clear hwb
  refine wpIn_rangeFunc_ownG rfl (by omega) (gf := 73) (lb := #[.pointer (some ⟨B, 0, none⟩)]) rfl trivial (enters_of Tryd.func73 (by kernel_rfl) rfl)
    (runs_stops B g cap s wa H2.out.1 (by omega)) (fun h k => h.trans k) (KpB.put hBa hga) (Below.refl _ _) (fun _ => rfl)
    (fun pre W => Bx2 wa S (sw + 1) (z + (clips lo hi first (pre.map (·.1)) : Nat)) W) (fun _ _ _ => False) (Bx2.own wa S (sw + 1) (fun pre : List (RwB s) => z + (clips lo hi first (pre.map (·.1)) : Nat)) (by omega) (by omega)) (fun _ _ _ _ _ hs _ _ => hs.elim) ⟨(HA.out.1.cell (p := ⟨S, 0, none⟩) hSl).trans (by rw [HC.out.s]; simp [clips]), (frozen_blk (HA.out.1.block S hSl)).trans HC.out.sf, by rw [cell_of_row _ _ _ _ _ _ HA.out.2.2]; rfl, frozen_of_row _ _ _ _ _ HA.out.2.2, Fr.refl _ _⟩ ?a1 ?assign ?body ?done ?stop
  case assign =>
    intro l x W K hK
    gi_wp2
    exact hK
  case body =>
    rintro lp pre ⟨⟨at_, k⟩, hx⟩ W hI hlt
    have htop := (runs_row hx).top
    dsimp only at htop
    rw [hs] at htop
    have hcS := hI.cell
    have hfS := hI.frozen
    have hcr := hI.rc
    have hfr := hI.rf
    have hnS : ∀ q, q < wa.heap.size → q ≠ S → q ≠ sw + 1 → ¬ (q = S ∨ q = sw + 1 ∨ wa.heap.size ≤ q) := fun q h1 h2 h3 h => by omega
    have hcf : W.cell? ⟨sw, 0, none⟩ = some (.int .i64 (first : Int)) := hI.fr.cell (by rw [cell_of_row _ _ _ _ _ _ HA.out.2.1]; rfl) (hnS sw (by omega) (by omega) (by omega))
    have hc0 : W.cell? ⟨G, 0, none⟩ = some (.int .i64 (hi : Int)) := hI.fr.cell ((HA.out.1.cell (p := ⟨G, 0, none⟩) hGl).trans HC.out.g0) (hnS G (by omega) hap1 (by omega))
    have hc3 : W.cell? ⟨G, 3, none⟩ = some (.int .i64 (lo : Int)) := hI.fr.cell ((HA.out.1.cell (p := ⟨G, 3, none⟩) hGl).trans HC.out.g3) (hnS G (by omega) hap1 (by omega))
    have hcd : W.cell? ⟨Db, 0, none⟩ = some (.func (.func 43) #[] #[.pointer (some ⟨S, 0, none⟩)]) := hI.fr.cell ((HA.out.1.cell (p := ⟨Db, 0, none⟩) hDl).trans HC.out.d) (hnS Db (by omega) hap2 (by omega))
    obtain ⟨a0, ha0⟩ : ∃ a0 : Nat, first + at_ = a0 := ⟨_, rfl⟩
    obtain ⟨a1, ha1⟩ : ∃ a1 : Nat, a0 + k = a1 := ⟨_, rfl⟩
    obtain ⟨f, hf⟩ : ∃ f : Nat, max a0 lo = f := ⟨_, rfl⟩
    obtain ⟨t, ht⟩ : ∃ t : Nat, min a1 hi = t := ⟨_, rfl⟩
    have e0 : (first : Int) + (at_ : Int) = (a0 : Int) := by omega
    have e1 : (a0 : Int) + (k : Int) = (a1 : Int) := by omega
    have HI : Hid (Bx2 wa S (sw + 1) (z + (clips lo hi first (pre.map (·.1)) : Nat)) W) := hI
    have hcl : clips lo hi first (pre.map (·.1)) ≤ 100000000 := by
      have h9 := clips_le lo hi first (pre.map (·.1))
      have h8 := runs_len s
      rw [List.length_map] at h9
      have h7 : pre.length * hi ≤ 4096 * 20000 := Nat.mul_le_mul (by omega) h2
      omega
    obtain ⟨y, hy⟩ : ∃ y : Int, z + (clips lo hi first (pre.map (·.1)) : Nat) = y := ⟨_, rfl⟩
    have hyb : 0 ≤ y ∧ y ≤ 200000000 := by omega
    rw [hy] at hcS HI
    have HY : Hid (z + (clips lo hi first (pre.map (·.1)) : Nat) = y) := hy
    have HX : Hid (clip lo hi first (at_, k) = t - f) := by
      show clip lo hi first (at_, k) = t - f
      rw [clip, ← hf, ← ht, ← ha1, ← ha0]
    clear hI hcl hy
    by_cases hft : f < t
    · have HCU : Hid (CallsIn Fence.wide (6 - 1 - 1 - 1) Tryd.prog 43 #[.int .i64 (f : Int), .int .i64 (t : Int), .pointer (some ⟨S, 0, none⟩)] W fun e w' => e = .returned (.bool true) ∧ w' = W.setCell ⟨S, 0, none⟩ (.int .i64 (y + (t - f : Nat)))) := callsIn_wide.2 (free1_any W S y f t (y + (t - f : Nat)) hcS hfS (by omega) (by omega) (by omega))
      have hft' : (f : Int) < (t : Int) := by omega
      have hf9 : max a0 lo = f := hf
      have ht9 : min a1 hi = t := ht
      clear hf ht
      rcases (show (a0 < lo ∧ f = lo) ∨ (a0 = lo ∧ f = lo) ∨ (lo < a0 ∧ f = a0) from by omega) with ⟨c1, rfl⟩ | ⟨rfl, rfl⟩ | ⟨c1, rfl⟩ <;> rcases (show (a1 < hi ∧ t = a1) ∨ (a1 = hi ∧ t = a1) ∨ (hi < a1 ∧ t = hi) from by omega) with ⟨c2, rfl⟩ | ⟨rfl, rfl⟩ | ⟨c2, rfl⟩
      all_goals
        gi_wp2_with (gi_at_call 43; refine (CallsIn.inRound lp HCU.out).mono ?_; rintro e W' ⟨rfl, rfl⟩; clear HCU)
        refine ⟨(Rm.set (Rm.refl _ B g W) S _ (by omega) (by omega)).keeps, (Rm.set (Rm.refl 0 B g W) S _ (by omega) (by omega)).kp, ?_⟩
        show Bx2 wa S (sw + 1) (z + ((clips _ _ first ((pre ++ [(⟨(at_, k), hx⟩ : RwB s)]).map (·.1)) : Nat) : Int)) _
        rw [List.map_append, List.map_cons, List.map_nil, clips_snoc, HX.out, Int.natCast_add, ← Int.add_assoc, HY.out]
        exact HI.out.set (by omega) _
    · have hft' : ¬ (f : Int) < (t : Int) := by omega
      have hf9 : max a0 lo = f := hf
      have ht9 : min a1 hi = t := ht
      clear hf ht
      rcases (show (a0 < lo ∧ f = lo) ∨ (a0 = lo ∧ f = lo) ∨ (lo < a0 ∧ f = a0) from by omega) with ⟨c1, rfl⟩ | ⟨rfl, rfl⟩ | ⟨c1, rfl⟩ <;> rcases (show (a1 < hi ∧ t = a1) ∨ (a1 = hi ∧ t = a1) ∨ (hi < a1 ∧ t = hi) from by omega) with ⟨c2, rfl⟩ | ⟨rfl, rfl⟩ | ⟨c2, rfl⟩
      all_goals
        gi_wp2
        refine ⟨fun _ h => (by cases h), ?_⟩
        gi_wp2
        refine ⟨(Rm.refl _ B g W).keeps, (Rm.refl 0 B g W).kp, ?_⟩
        show Bx2 wa S (sw + 1) (z + ((clips _ _ first ((pre ++ [(⟨(at_, k), hx⟩ : RwB s)]).map (·.1)) : Nat) : Int)) _
        rw [List.map_append, List.map_cons, List.map_nil, clips_snoc, HX.out, show t - f = 0 from by omega]
        show Bx2 wa S (sw + 1) (z + ((clips _ _ first (pre.map (·.1)) : Nat) : Int)) W
        rw [HY.out]
        exact HI.out
  case done =>
    rintro D ys W hD hS hI hK
    rw [show (clips lo hi first (ys.map (·.1)) : Nat) = ct (fb lo hi first s) 4096 from by rw [hS, runs_clip, hs]] at hI
    have hcr := hI.rc
    have hfr := hI.rf
    have hbW : Fr (fun k => k = S ∨ w.heap.size ≤ k) w W := ((below_fr (S := fun k => k = S ∨ w.heap.size ≤ k) (by rw [hsw]; exact HA.out.1)).trans hI.fr (fun k hk => by rw [hsw]; omega))
    have HK : Hid (W.heap[D]? = some (.deferred (some [])) ∧ Bx2 wa S (sw + 1) (z + (ct (fb lo hi first s) 4096 : Nat)) W) := ⟨hK, hI⟩
    clear hK hI
    gi_wp2
    have hK' : (W.setCell ⟨sw + 1, 0, none⟩ (.bool true)).heap[D]? = some (.deferred (some [])) := (set_other (by omega)).trans HK.out.1
    have hc5 := cell_kept (World.cell?_setCell_same' W ⟨sw + 1, 0, none⟩ (.bool true) (by rw [hcr]; rfl)) (grownBy_putObj' _ D (.deferred none)) (fun r e => by cases e; exact ⟨_, hK', rfl⟩)
    refine ⟨by simp, .inl ⟨_, _, rfl, run_takeDeferred hK', ?_⟩⟩
    refine ⟨.bool true, ?_, rfl, ?_⟩
    · simp [results, Tryd.f58, go_sem, hc5]
    · exact ⟨(frPut _ _ _).cell (Fr.set.cell HK.out.2.cell (by show ¬ S = sw + 1; omega)) (by show ¬ S = D; omega), (frozen_blk ((frPut _ _ _).block S (by exact block_lt_of_cell (Fr.set.cell HK.out.2.cell (by show ¬ S = sw + 1; omega))) (by show ¬ S = D; omega))).trans ((frozen_blk (set_other (by omega))).trans HK.out.2.frozen), (hbW.trans Fr.set (fun k hk => .inl (.inr (by have hk : k = sw + 1 := hk; omega)))).trans (frPut _ _ _) (fun k hk => .inl (.inr (by have hk : k = D := hk; omega)))⟩
  case stop => exact fun _ _ _ _ _ _ h _ => h.elim
set_option maxRecDepth 100000 in
set_option maxHeartbeats 8000000 in
theorem gatL_any (w : World) (G Db S lo hi : Nat) (z : Int) (hC : Cau w G Db S 76 lo hi z) (first : Nat) (p : Addr) (c : Nat) (s : List Int) (hb : Bytes w (some p) s) (hs : s.length = 512) (h0 : first ≤ 20000) (h1 : lo ≤ 20000) (h2 : hi ≤ 20000) (_ : 0 ≤ z ∧ z ≤ 50000) :
    Calls Tryd.prog 58 #[.int .i64 (first : Int), .slice (some p) 512 c, .pointer (some ⟨G, 0, none⟩), .pointer (some ⟨Db, 0, none⟩)] w fun e w' => (e = .returned (.bool true) ∧ ct (fb lo hi first s) 4096 = 0 ∧ BoxI w S z w') ∨ (e = .returned (.bool false) ∧ ∃ j, j < 4096 ∧ IsLo (fb lo hi first s) j ∧ BoxI w S ((first + j : Nat) : Int) w') := by
  refine (callsIn_wide (n := 6)).1 ?_
  have HC : Hid (Cau w G Db S 76 lo hi z) := hC
  have hf4 : Fence.wide.fn 59 := trivial
  have hf5 : Fence.wide.fn 76 := trivial
  have hGl := block_lt_of_cell hC.g0
  have hDl := block_lt_of_cell hC.d
  have hSl := block_lt_of_cell hC.s
  have hap1 := hC.ap1
  have hap2 := hC.ap2
  dsimp only at hGl hDl hSl
  clear hC
  have cR : ∀ w1, Below w.heap.size w w1 → CallsIn Fence.wide 5 Tryd.prog 59 #[.slice (some p) 512 c] w1 fun e w' => ∃ B g cap, e = .returned (.func (.func 73) #[] #[.pointer (some ⟨B, 0, none⟩)]) ∧ SeqAt w' B g cap s ∧ w1.heap.size ≤ B ∧ w1.heap.size ≤ g ∧ Below w1.heap.size w1 w' := fun w1 hb1 => callsIn_wide.2 (runs_any w1 512 c (some p) s (hb.on hb1) hs (fun e => by cases e) (by omega))
  refine callsIn_of_wp_marks Tryd.func58 rfl trivial ?_ rfl
  simp only [Tryd.ntmps58, List.size_toArray, List.length_cons, List.length_nil, Nat.reduceAdd, Nat.reduceSub, Array.replicate_succ, Array.replicate_zero, List.push_toArray, List.append_toArray, List.nil_append, List.cons_append]
  obtain ⟨wb, hwb⟩ : ∃ wb, (w.alloc (.cells #[.int .i64 (first : Int)] 3)).alloc (.cells #[.bool false] 4) = wb := ⟨_, rfl⟩
  have HB : Hid (Below w.heap.size w wb ∧ wb.heap.size = w.heap.size + 2 ∧ wb.heap[w.heap.size]? = some (.cells #[.int .i64 (first : Int)] 3 (0, 0)) ∧ wb.heap[w.heap.size + 1]? = some (.cells #[.bool false] 4 (0, 0))) := by
    rw [← hwb]
    refine ⟨((Below.refl _ _).alloc (Nat.le_refl _) _).alloc (by simp) _, by simp, ?_, ?_⟩
    · exact (Below.heap_alloc _ _ _ (by simp)).trans (heap_alloc_new _ _)
    · have := heap_alloc_new (w.alloc (.cells #[.int .i64 (first : Int)] 3)) (.cells #[.bool false] 4)
      rw [World.size_alloc] at this
      exact this
  gi_wp2_with (gi_at_call 59; refine (cR _ HB.out.1).mono ?_; rintro e wa ⟨B, g, cap, rfl, hB, hB1, hB2, hb2⟩; have H2 : Hid (SeqAt wa B g cap s ∧ Below wb.heap.size wb wa) := ⟨hB, hb2⟩; clear hB hb2)
  obtain ⟨sw, hsw⟩ : ∃ sw, w.heap.size = sw := ⟨_, rfl⟩
  have hs2 := HB.out.2.1
  have hs3 := H2.out.2.size
  rw [hsw] at HB hGl hDl hSl hs2
  simp only [hsw]
  have HA : Hid (Below sw w wa ∧ wa.heap[sw]? = some (.cells #[.int .i64 (first : Int)] 3 (0, 0)) ∧ wa.heap[sw + 1]? = some (.cells #[.bool false] 4 (0, 0))) := ⟨HB.out.1.trans (H2.out.2.mono (by omega)), (H2.out.2.block sw (by omega)).trans HB.out.2.2.1, (H2.out.2.block (sw + 1) (by omega)).trans HB.out.2.2.2⟩
  have hBa := H2.out.1.ltB
  have hga := H2.out.1.ltg
  clear hwb
  refine wpIn_rangeFunc_ownG rfl (by omega) (gf := 73) (lb := #[.pointer (some ⟨B, 0, none⟩)]) rfl trivial (enters_of Tryd.func73 (by kernel_rfl) rfl)
    (runs_stops B g cap s wa H2.out.1 (by omega)) (fun h k => h.trans k) (KpB.put hBa hga) (Below.refl _ _) (fun _ => rfl)
    (LoI wa S (sw + 1) lo hi first z s) (LoX wa S (sw + 1) lo hi first s) (LoI.own wa S (sw + 1) lo hi first z s (by omega) (by omega)) (fun c => LoX.own wa S (sw + 1) lo hi first s c (by omega) (by omega)) ⟨⟨(HA.out.1.cell (p := ⟨S, 0, none⟩) hSl).trans HC.out.s, (frozen_blk (HA.out.1.block S hSl)).trans HC.out.sf, by rw [cell_of_row _ _ _ _ _ _ HA.out.2.2]; rfl, frozen_of_row _ _ _ _ _ HA.out.2.2, Fr.refl _ _⟩, rfl⟩ ?a1 ?assign ?body ?done ?stop
  case assign =>
    intro l x W K hK
    gi_wp2
    exact hK
  case body =>
    rintro lp pre ⟨⟨at_, k⟩, hx⟩ W ⟨hI, hcl0⟩ hlt
    have htop := (runs_row hx).top
    dsimp only at htop
    rw [hs] at htop
    have hcS := hI.cell
    have hfS := hI.frozen
    have hcr := hI.rc
    have hfr := hI.rf
    have hnS : ∀ q, q < wa.heap.size → q ≠ S → q ≠ sw + 1 → ¬ (q = S ∨ q = sw + 1 ∨ wa.heap.size ≤ q) := fun q h1 h2 h3 h => by omega
    have hcf : W.cell? ⟨sw, 0, none⟩ = some (.int .i64 (first : Int)) := hI.fr.cell (by rw [cell_of_row _ _ _ _ _ _ HA.out.2.1]; rfl) (hnS sw (by omega) (by omega) (by omega))
    have hc0 : W.cell? ⟨G, 0, none⟩ = some (.int .i64 (hi : Int)) := hI.fr.cell ((HA.out.1.cell (p := ⟨G, 0, none⟩) hGl).trans HC.out.g0) (hnS G (by omega) hap1 (by omega))
    have hc3 : W.cell? ⟨G, 3, none⟩ = some (.int .i64 (lo : Int)) := hI.fr.cell ((HA.out.1.cell (p := ⟨G, 3, none⟩) hGl).trans HC.out.g3) (hnS G (by omega) hap1 (by omega))
    have hcd : W.cell? ⟨Db, 0, none⟩ = some (.func (.func 76) #[] #[.pointer (some ⟨S, 0, none⟩)]) := hI.fr.cell ((HA.out.1.cell (p := ⟨Db, 0, none⟩) hDl).trans HC.out.d) (hnS Db (by omega) hap2 (by omega))
    obtain ⟨a0, ha0⟩ : ∃ a0 : Nat, first + at_ = a0 := ⟨_, rfl⟩
    obtain ⟨a1, ha1⟩ : ∃ a1 : Nat, a0 + k = a1 := ⟨_, rfl⟩
    obtain ⟨f, hf⟩ : ∃ f : Nat, max a0 lo = f := ⟨_, rfl⟩
    obtain ⟨t, ht⟩ : ∃ t : Nat, min a1 hi = t := ⟨_, rfl⟩
    have e0 : (first : Int) + (at_ : Int) = (a0 : Int) := by omega
    have e1 : (a0 : Int) + (k : Int) = (a1 : Int) := by omega
    have HI : Hid (Bx2 wa S (sw + 1) z W ∧ clips lo hi first (pre.map (·.1)) = 0) := ⟨hI, hcl0⟩
    have HX : Hid (clip lo hi first (at_, k) = t - f) := by
      show clip lo hi first (at_, k) = t - f
      rw [clip, ← hf, ← ht, ← ha1, ← ha0]
    have HM : Hid (max (first + at_) lo = f ∧ min (first + at_ + k) hi = t) := ⟨by rw [← hf, ← ha0], by rw [← ht, ← ha1, ← ha0]⟩
    clear hI hcl0
    by_cases hft : f < t
    · have HCU : Hid (CallsIn Fence.wide (6 - 1 - 1 - 1) Tryd.prog 76 #[.int .i64 (f : Int), .int .i64 (t : Int), .pointer (some ⟨S, 0, none⟩)] W fun e w' => e = .returned (.bool false) ∧ w' = W.setCell ⟨S, 0, none⟩ (.int .i64 (f : Int))) := callsIn_wide.2 (low1_any W S z f t hcS hfS)
      have hcr2 : (W.setCell ⟨S, 0, none⟩ (.int .i64 (f : Int))).cell? ⟨sw + 1, 0, none⟩ = some (.bool false) := (World.cell?_of_block (set_other (show sw + 1 ≠ S by omega))).trans hcr
      have hfr2 : (W.setCell ⟨S, 0, none⟩ (.int .i64 (f : Int))).frozen? ⟨sw + 1, 0, none⟩ = false := (frozen_blk (set_other (show sw + 1 ≠ S by omega))).trans hfr
      have hft' : (f : Int) < (t : Int) := by omega
      have hf9 : max a0 lo = f := hf
      have ht9 : min a1 hi = t := ht
      clear hf ht
      rcases (show (a0 < lo ∧ f = lo) ∨ (a0 = lo ∧ f = lo) ∨ (lo < a0 ∧ f = a0) from by omega) with ⟨c1, rfl⟩ | ⟨rfl, rfl⟩ | ⟨c1, rfl⟩ <;> rcases (show (a1 < hi ∧ t = a1) ∨ (a1 = hi ∧ t = a1) ∨ (hi < a1 ∧ t = hi) from by omega) with ⟨c2, rfl⟩ | ⟨rfl, rfl⟩ | ⟨c2, rfl⟩
      all_goals
        gi_wp2_with (gi_at_call 76; refine (CallsIn.inRound lp HCU.out).mono ?_; rintro e W' ⟨rfl, rfl⟩; clear HCU)
        exact ⟨((Rm.set (Rm.refl _ B g W) S _ (by omega) (by omega)).set (sw + 1) _ (by omega) (by omega)).keeps, rfl, pre, ⟨(at_, k), hx⟩, rfl, HI.out.2, by rw [HM.out.1, HM.out.2]; exact hft, by rw [HM.out.1]; exact (HI.out.1.set (by omega) _).setr (by omega)⟩
    · have hft' : ¬ (f : Int) < (t : Int) := by omega
      have hf9 : max a0 lo = f := hf
      have ht9 : min a1 hi = t := ht
      clear hf ht
      rcases (show (a0 < lo ∧ f = lo) ∨ (a0 = lo ∧ f = lo) ∨ (lo < a0 ∧ f = a0) from by omega) with ⟨c1, rfl⟩ | ⟨rfl, rfl⟩ | ⟨c1, rfl⟩ <;> rcases (show (a1 < hi ∧ t = a1) ∨ (a1 = hi ∧ t = a1) ∨ (hi < a1 ∧ t = hi) from by omega) with ⟨c2, rfl⟩ | ⟨rfl, rfl⟩ | ⟨c2, rfl⟩
      all_goals
        gi_wp2
        refine ⟨fun _ h => (by cases h), ?_⟩
        gi_wp2
        refine ⟨(Rm.refl _ B g W).keeps, (Rm.refl 0 B g W).kp, HI.out.1, ?_⟩
        rw [List.map_append, List.map_cons, List.map_nil, clips_snoc, HX.out, HI.out.2]
        omega
  case done =>
    rintro D ys W hD hS ⟨hI, hcl0⟩ hK
    have hct : ct (fb lo hi first s) 4096 = 0 := by rw [← hcl0, hS, runs_clip, hs]
    have hcr := hI.rc
    have hfr := hI.rf
    have hbW : Fr (fun k => k = S ∨ w.heap.size ≤ k) w W := ((below_fr (S := fun k => k = S ∨ w.heap.size ≤ k) (by rw [hsw]; exact HA.out.1)).trans hI.fr (fun k hk => by rw [hsw]; omega))
    have HK : Hid (W.heap[D]? = some (.deferred (some [])) ∧ Bx2 wa S (sw + 1) z W) := ⟨hK, hI⟩
    clear hK hI
    gi_wp2
    have hK' : (W.setCell ⟨sw + 1, 0, none⟩ (.bool true)).heap[D]? = some (.deferred (some [])) := (set_other (by omega)).trans HK.out.1
    have hc5 := cell_kept (World.cell?_setCell_same' W ⟨sw + 1, 0, none⟩ (.bool true) (by rw [hcr]; rfl)) (grownBy_putObj' _ D (.deferred none)) (fun r e => by cases e; exact ⟨_, hK', rfl⟩)
    refine ⟨by simp, .inl ⟨_, _, rfl, run_takeDeferred hK', ?_⟩⟩
    refine ⟨.bool true, ?_, .inl ⟨rfl, hct, ?_⟩⟩
    · simp [results, Tryd.f58, go_sem, hc5]
    · exact ⟨(frPut _ _ _).cell (Fr.set.cell HK.out.2.cell (by show ¬ S = sw + 1; omega)) (by show ¬ S = D; omega), (frozen_blk ((frPut _ _ _).block S (by exact block_lt_of_cell (Fr.set.cell HK.out.2.cell (by show ¬ S = sw + 1; omega))) (by show ¬ S = D; omega))).trans ((frozen_blk (set_other (by omega))).trans HK.out.2.frozen), (hbW.trans Fr.set (fun k hk => .inl (.inr (by have hk : k = sw + 1 := hk; omega)))).trans (frPut _ _ _) (fun k hk => .inl (.inr (by have hk : k = D := hk; omega)))⟩
  case stop =>
    rintro D c pre W hD hS ⟨rfl, pre0, x, rfl, hcl0, hmm, hI⟩ hK
    rw [List.map_append] at hS
    obtain ⟨j, hj1, hj2, hlo⟩ := first_clip hS hcl0 hmm
    rw [hj1] at hI
    rw [hs] at hj2
    have hcr := hI.rc
    have hfr := hI.rf
    have hbW : Fr (fun k => k = S ∨ w.heap.size ≤ k) w W := ((below_fr (S := fun k => k = S ∨ w.heap.size ≤ k) (by rw [hsw]; exact HA.out.1)).trans hI.fr (fun k hk => by rw [hsw]; omega))
    have HK : Hid (W.heap[D]? = some (.deferred (some [])) ∧ Bx2 wa S (sw + 1) ((first + j : Nat) : Int) W) := ⟨hK, hI⟩
    clear hK hI
    gi_wp2
    have hK' : (W).heap[D]? = some (.deferred (some [])) := HK.out.1
    have hc5 := cell_kept hcr (grownBy_putObj' _ D (.deferred none)) (fun r e => by cases e; exact ⟨_, hK', rfl⟩)
    refine ⟨by simp, .inl ⟨_, _, rfl, run_takeDeferred hK', ?_⟩⟩
    refine ⟨.bool false, ?_, .inr ⟨rfl, j, by omega, hlo, ?_⟩⟩
    · simp [results, Tryd.f58, go_sem, hc5]
    · exact ⟨(frPut _ _ _).cell HK.out.2.cell (by show ¬ S = D; omega), (frozen_blk ((frPut _ _ _).block S (by exact block_lt_of_cell HK.out.2.cell) (by show ¬ S = D; omega))).trans HK.out.2.frozen, hbW.trans (frPut _ _ _) (fun k hk => .inl (.inr (by have hk : k = D := hk; omega)))⟩
end Go.Proofs.YtgmccpimpbnnpaaDoor

namespace Go.Proofs.YtgmccpimpbnnpaaDoor
open Go.RowKit Rec
theorem Ints.some {w : World} {a : Option Addr} {l : List Int} (h : Ints w a l) (h0 : 0 < l.length) : ∃ b off, a = some ⟨b, off, none⟩ := by
  rcases h.at_ with e | ⟨b, off, e, _⟩
  · subst e; simp at h0
  · exact ⟨b, off, e⟩
theorem Data.some {w : World} {a : Option Addr} {l : List (List Int)} (h : Data w a l) (h0 : 0 < l.length) : ∃ b off, a = some ⟨b, off, none⟩ := by
  rcases h.at_ with e | ⟨b, off, e, _⟩
  · subst e; simp at h0
  · exact ⟨b, off, e⟩
theorem Bytes.some {w : World} {a : Option Addr} {l : List Int} (h : Bytes w a l) (h0 : 0 < l.length) : ∃ b off, a = some ⟨b, off, none⟩ := by
  rcases h.at_ with e | ⟨b, off, e, _⟩
  · subst e; simp at h0
  · exact ⟨b, off, e⟩
end Go.Proofs.YtgmccpimpbnnpaaDoor

namespace Go.Proofs.YtgmccpimpbnnpaaDoor
open Go.RowKit Rec
def NumsAt (w w' : World) (v : Value) (l : List Int) : Prop := (l = [] ∧ v = .slice none 0 0) ∨ ∃ g cap, v = .slice (some ⟨g, 0, none⟩) l.length cap ∧ OwnI w' g cap l ∧ w.heap.size ≤ g
end Go.Proofs.YtgmccpimpbnnpaaDoor

namespace Go.Proofs.YtgmccpimpbnnpaaDoor
open Go.RowKit Rec
def one (c : Int) : List Int := List.replicate 512 c
end Go.Proofs.YtgmccpimpbnnpaaDoor

namespace Go.Proofs.YtgmccpimpbnnpaaDoor
open Go.RowKit Rec
def s12 : ByteArray := { data := #[66, 79, 76, 69, 76, 79, 71, 49, 1, 0, 0, 0] }
end Go.Proofs.YtgmccpimpbnnpaaDoor

namespace Go.Proofs.YtgmccpimpbnnpaaDoor
open Go.RowKit Rec
def atP (st : List Int) : Nat → Int
  | 0 => 97
  | j + 1 => atP st j + 1 + nth st j % 18446744073709551616 % 160
def nsP (st : List Int) (j : Nat) : List Int := (List.range j).map fun i => atP st (i + 1)
def byteP (sd : List Int) (i k : Nat) : Int := if sd.length = 0 then 0 else (nth sd ((k + i) % sd.length) + i) % 256
def blkP (sd : List Int) (i : Nat) : List Int := (List.range 512).map (byteP sd i)
theorem blkP_length (sd : List Int) (i : Nat) : (blkP sd i).length = 512 := by unfold blkP; rw [List.length_map, List.length_range]
def dsP (sd : List Int) (j : Nat) : List (List Int) := (List.range j).map (blkP sd)
theorem dsP_succ (sd : List Int) (j : Nat) : dsP sd (j + 1) = dsP sd j ++ [blkP sd j] := by
  unfold dsP; rw [List.range_succ, List.map_append]; rfl
structure PlanAt (w : World) (sa : Option Addr) (sn : Nat) (ba : Option Addr) (bn : Nat) (st sd : List Int) : Prop where
  sl : st.length = sn
  ints : Ints w sa st
  wf : ∀ i, -9223372036854775808 ≤ nth st i ∧ nth st i ≤ 9223372036854775807
  bl : sd.length = bn
  bytes : Bytes w ba sd
theorem PlanAt.on {w w' : World} {sa ba : Option Addr} {sn bn : Nat} {st sd : List Int} (h : PlanAt w sa sn ba bn st sd) (hb : Below w.heap.size w w') : PlanAt w' sa sn ba bn st sd := ⟨h.sl, h.ints.on hb, h.wf, h.bl, h.bytes.on hb⟩
theorem own_type {w : World} {B e size n : Nat} {v : Value} {xs : List Value} (h : w.ownsRow B e size v n xs) {k : Nat} (hk : v.ownBlock = some k) : ∃ cur, w.heap[k]? = some (.cells cur e (0, 0)) := by
  rcases h.2 with ⟨rfl, _⟩ | ⟨g, cap, cur, rfl, _, hg, _⟩
  · cases hk
  · cases hk; exact ⟨cur, hg⟩
theorem own_apart {w : World} {B B' e e' size size' n n' : Nat} {v v' : Value} {xs xs' : List Value} (h : w.ownsRow B e size v n xs) (h' : w.ownsRow B' e' size' v' n' xs') (hne : e ≠ e') (k : Nat) (hk : v.ownBlock = some k) : ¬ v'.ownBlock = some k := by
  intro hk'
  obtain ⟨c1, h1⟩ := own_type h hk
  obtain ⟨c2, h2⟩ := own_type h' hk'
  rw [h1] at h2
  cases h2
  exact hne rfl
theorem own_apartB {w : World} {B e size n g cap : Nat} {v : Value} {xs : List Value} {l : List Int} (h : w.ownsRow B e size v n xs) (h' : OwnB w g cap l) (hne : e ≠ 5) : ¬ v.ownBlock = some g := by
  intro hk
  obtain ⟨c1, h1⟩ := own_type h hk
  obtain ⟨cur, h2, _, _⟩ := h'.row
  rw [h1] at h2
  cases h2
  exact hne rfl
structure SlAt (w : World) (vs : List Value) (ds : List (List Int)) : Prop where
  len : vs.length = ds.length
  at_ : ∀ i, i < ds.length → ∃ b off c, vs[i]? = some (.slice (some ⟨b, off, none⟩) (row ds i).length c) ∧ Bytes w (some ⟨b, off, none⟩) (row ds i)
theorem SlAt.on {w w' : World} {vs : List Value} {ds : List (List Int)} (h : SlAt w vs ds) (hb : Below w.heap.size w w') : SlAt w' vs ds :=
  ⟨h.len, fun i hi => by obtain ⟨b, off, c, h1, h2⟩ := h.at_ i hi; exact ⟨b, off, c, h1, h2.on hb⟩⟩
theorem row_append (ds es : List (List Int)) (i : Nat) : row (ds ++ es) i = if i < ds.length then row ds i else row es (i - ds.length) := by
  unfold row
  by_cases h : i < ds.length
  · rw [if_pos h]; simp [List.getD, List.getElem?_append, h]
  · rw [if_neg h]; simp [List.getD, List.getElem?_append, h]
theorem SlAt.append {w : World} {vs us : List Value} {ds es : List (List Int)} (h : SlAt w vs ds) (k : SlAt w us es) : SlAt w (vs ++ us) (ds ++ es) := by
  refine ⟨by rw [List.length_append, List.length_append, h.len, k.len], fun i hi => ?_⟩
  rw [List.length_append] at hi
  rw [row_append]
  by_cases hlt : i < ds.length
  · rw [if_pos hlt, List.getElem?_append_left (by rw [h.len]; exact hlt)]; exact h.at_ i hlt
  · rw [if_neg hlt, List.getElem?_append_right (by rw [h.len]; omega), h.len]; exact k.at_ _ (by omega)
theorem SlAt.single {w : World} {b off c n : Nat} {l : List Int} (h : Bytes w (some ⟨b, off, none⟩) l) (hn : l.length = n) : SlAt w [.slice (some ⟨b, off, none⟩) n c] [l] :=
  ⟨rfl, fun i hi => by
    have : i = 0 := by simpa using hi
    subst this
    subst hn
    exact ⟨b, off, c, rfl, h⟩⟩
theorem SlAt.data {w : World} {g n cap : Nat} {vs : List Value} {ds : List (List Int)} (h : SlAt w vs ds) (ho : w.ownsRow 0 52 1 (.slice (some ⟨g, 0, none⟩) n cap) n vs) (hl : ds.length ≤ 1000000000000000) : Data w (some ⟨g, 0, none⟩) ds := by
  refine ⟨hl, .inr ⟨g, 0, rfl, fun i hi => ?_⟩⟩
  obtain ⟨b, off, c, h1, h2⟩ := h.at_ i hi
  refine ⟨_, c, ?_, h2, fun e => (nomatch e)⟩
  have := ho.cells (g := g) rfl i _ h1
  rw [Addr.add_lit] at this
  exact this
end Go.Proofs.YtgmccpimpbnnpaaDoor

namespace Go.Proofs.YtgmccpimpbnnpaaDoor
open Go.RowKit Rec
structure MadeAt (w0 wr : World) (st sd : List Int) (j : Nat) (s5 s6 : Value) : Prop where
  nums : wr.ownsRow 0 3 1 s5 j ((nsP st j).map (Value.int .i64))
  rows : ∃ vs, wr.ownsRow 0 52 1 s6 j vs ∧ SlAt wr vs (dsP sd j) ∧ ∀ u ∈ vs, ∀ k, u.ownBlock = some k → w0.heap.size ≤ k ∧ ∃ cap l, OwnB wr k cap l
  far5 : ∀ k, s5.ownBlock = some k → w0.heap.size ≤ k
  far6 : ∀ k, s6.ownBlock = some k → w0.heap.size ≤ k
  bel : Below w0.heap.size w0 wr
theorem SlAt.fr {S : Nat → Prop} {w w' : World} {vs : List Value} {ds : List (List Int)} (h : SlAt w vs ds) (x : Fr S w w') (hS : ∀ u ∈ vs, ∀ k, u.ownBlock = some k → ¬ S k) : SlAt w' vs ds := by
  refine ⟨h.len, fun i hi => ?_⟩
  obtain ⟨b, off, c, h1, h2⟩ := h.at_ i hi
  refine ⟨b, off, c, h1, h2.len, h2.wf, ?_⟩
  rcases h2.at_ with e | ⟨b', off', e, hc⟩
  · exact .inl e
  · cases e
    refine .inr ⟨b, off, rfl, fun m hm => x.cell (hc m hm) (hS _ (List.mem_of_getElem? h1) b rfl)⟩
theorem MadeAt.start {w0 : World} {st sd : List Int} : MadeAt w0 w0 st sd 0 (.slice none 0 0) (.slice none 0 0) :=
  ⟨⟨rfl, .inl ⟨rfl, rfl⟩⟩, ⟨[], ⟨rfl, .inl ⟨rfl, rfl⟩⟩, ⟨rfl, fun i hi => absurd hi (by simp [dsP])⟩, fun u hu => by simp at hu⟩, (fun k h => by cases h), (fun k h => by cases h), Below.refl _ _⟩
structure MidAt (w0 wr : World) (st sd : List Int) (j : Nat) (s5 s6 : Value) : Prop where
  nums : wr.ownsRow 0 3 1 s5 (j + 1) ((nsP st (j + 1)).map (Value.int .i64))
  rows : ∃ vs, wr.ownsRow 0 52 1 s6 j vs ∧ SlAt wr vs (dsP sd j) ∧ ∀ u ∈ vs, ∀ k, u.ownBlock = some k → w0.heap.size ≤ k ∧ ∃ cap l, OwnB wr k cap l
  far5 : ∀ k, s5.ownBlock = some k → w0.heap.size ≤ k
  far6 : ∀ k, s6.ownBlock = some k → w0.heap.size ≤ k
  bel : Below w0.heap.size w0 wr
theorem owns_on {w w' : World} {e size n : Nat} {v : Value} {xs : List Value} (h : w.ownsRow 0 e size v n xs) (hb : Below w.heap.size w w') : w'.ownsRow 0 e size v n xs := owns_fr h (below_fr hb (fun _ => False)) (fun _ _ e => e)
theorem MidAt.on {w0 wr w' : World} {st sd : List Int} {j : Nat} {s5 s6 : Value} (h : MidAt w0 wr st sd j s5 s6) (hb : Below wr.heap.size wr w') : MidAt w0 w' st sd j s5 s6 := by
  obtain ⟨vs, h1, h2, h3⟩ := h.rows
  exact ⟨owns_on h.nums hb, ⟨vs, owns_on h1 hb, h2.on hb, fun u hu k hk => by obtain ⟨a, c, l, b⟩ := h3 u hu k hk; exact ⟨a, c, l, b.on hb⟩⟩, h.far5, h.far6, h.bel.trans (hb.mono h.bel.size)⟩
theorem MadeAt.on {w0 wr w' : World} {st sd : List Int} {j : Nat} {s5 s6 : Value} (h : MadeAt w0 wr st sd j s5 s6) (hb : Below wr.heap.size wr w') : MadeAt w0 w' st sd j s5 s6 := by
  obtain ⟨vs, h1, h2, h3⟩ := h.rows
  exact ⟨owns_on h.nums hb, ⟨vs, owns_on h1 hb, h2.on hb, fun u hu k hk => by obtain ⟨a, c, l, b⟩ := h3 u hu k hk; exact ⟨a, c, l, b.on hb⟩⟩, h.far5, h.far6, h.bel.trans (hb.mono h.bel.size)⟩
theorem MadeAt.mid {w0 wr w' : World} {st sd : List Int} {j g cap : Nat} {s5 s6 : Value} (h : MadeAt w0 wr st sd j s5 s6) (ho : w'.ownsRow 0 3 1 (.slice (some ⟨g, 0, none⟩) (j + 1) cap) (j + 1) ((nsP st (j + 1)).map (Value.int .i64))) (hf : Fr (fun k => s5.ownBlock = some k) wr w') (hg : s5.ownBlock = some g ∨ wr.heap.size ≤ g) :
    MidAt w0 w' st sd j (.slice (some ⟨g, 0, none⟩) (j + 1) cap) s6 := by
  obtain ⟨vs, h1, h2, h3⟩ := h.rows
  refine ⟨ho, ⟨vs, owns_fr h1 hf (fun k hk => own_apart h1 h.nums (by decide) k hk), h2.fr hf (fun u hu k hk => ?_), fun u hu k hk => ?_⟩, fun k hk => ?_, h.far6, h.bel.trans (hf.below _ h.far5 h.bel.size)⟩
  · obtain ⟨_, cap, l, b⟩ := h3 u hu k hk
    exact own_apartB h.nums b (by decide)
  · obtain ⟨a, cap, l, b⟩ := h3 u hu k hk
    exact ⟨a, cap, l, b.fr hf (own_apartB h.nums b (by decide))⟩
  · cases hk
    rcases hg with e | e
    · exact h.far5 _ e
    · exact Nat.le_trans h.bel.size e
theorem MidAt.next {w0 wr w' : World} {st sd : List Int} {j g cap gb c : Nat} {s5 s6 : Value} {vs : List Value} (h : MidAt w0 wr st sd j s5 s6) (hr : wr.ownsRow 0 52 1 s6 j vs) (hs : SlAt wr vs (dsP sd j)) (hv : ∀ u ∈ vs, ∀ k, u.ownBlock = some k → w0.heap.size ≤ k ∧ ∃ cap l, OwnB wr k cap l)
    (hb : OwnB wr gb c (blkP sd j)) (hbg : w0.heap.size ≤ gb)
    (ho : w'.ownsRow 0 52 1 (.slice (some ⟨g, 0, none⟩) (j + 1) cap) (j + 1) (vs ++ [.slice (some ⟨gb, 0, none⟩) 512 c])) (hf : Fr (fun k => s6.ownBlock = some k) wr w') (hg : s6.ownBlock = some g ∨ wr.heap.size ≤ g) :
    MadeAt w0 w' st sd (j + 1) s5 (.slice (some ⟨g, 0, none⟩) (j + 1) cap) := by
  have hb' : OwnB w' gb c (blkP sd j) := hb.fr hf (own_apartB hr hb (by decide))
  have hv' : ∀ u ∈ vs ++ [.slice (some ⟨gb, 0, none⟩) 512 c], ∀ k, u.ownBlock = some k → w0.heap.size ≤ k ∧ ∃ cap l, OwnB w' k cap l := by
    intro u hu k hk
    rcases List.mem_append.1 hu with e | e
    · obtain ⟨a, cap, l, b⟩ := hv u e k hk
      exact ⟨a, cap, l, b.fr hf (own_apartB hr b (by decide))⟩
    · simp at e; subst e; cases hk; exact ⟨hbg, _, _, hb'⟩
  refine ⟨owns_fr h.nums hf (fun k hk => own_apart h.nums hr (by decide) k hk), ⟨_, ho, ?_, hv'⟩, h.far5, fun k hk => ?_, h.bel.trans (hf.below _ h.far6 h.bel.size)⟩
  · rw [dsP_succ]
    refine SlAt.append (hs.fr hf (fun u hu k hk => ?_)) (SlAt.single hb'.bytes (blkP_length sd j))
    obtain ⟨_, cap, l, b⟩ := hv u hu k hk
    exact own_apartB hr b (by decide)
  · cases hk
    rcases hg with e | e
    · exact h.far6 _ e
    · exact Nat.le_trans h.bel.size e
theorem own_some {w : World} {B e size n : Nat} {v : Value} {xs : List Value} (h : w.ownsRow B e size v n xs) (hn : 0 < n) : ∃ g c, v = .slice (some ⟨g, 0, none⟩) n c := by
  rcases h.2 with ⟨rfl, rfl⟩ | ⟨g, cap, cur, rfl, _⟩
  · omega
  · exact ⟨_, _, rfl⟩
end Go.Proofs.YtgmccpimpbnnpaaDoor

namespace Go.Proofs.YtgmccpimpbnnpaaDoor
open Go.RowKit Rec
end Go.Proofs.YtgmccpimpbnnpaaDoor

namespace Go.Proofs.YtgmccpimpbnnpaaDoor
open Go.RowKit Rec
theorem rises (ns : List Int) (n : Int) (hm : may ns n = true) : ∀ d i, i + d < ns.length → nth ns i ≤ nth ns (i + d)
  | 0, _, _ => Int.le_refl _
  | d + 1, i, h => by
    have a := rises ns n hm d i (by omega)
    have b := (of_decide_eq_true hm) (i + d + 1) h
    simp only [pre] at b
    rw [if_neg (by omega), Nat.add_sub_cancel] at b
    show nth ns i ≤ nth ns (i + d + 1)
    omega
end Go.Proofs.YtgmccpimpbnnpaaDoor

namespace Go.Proofs.YtgmccpimpbnnpaaDoor
open Go.RowKit Rec
theorem may_mono (ns : List Int) (n m : Int) (h : may ns n = true) (hl : ∀ i, i < ns.length → nth ns i < m) : may ns m = true := may_true (fun i hi => ⟨((of_decide_eq_true h) i hi).1, hl i hi⟩)
theorem may_last (ns : List Int) (n m : Int) (h : may ns n = true) (h1 : 1 ≤ ns.length) : may ns m = decide (nth ns (ns.length - 1) < m) := by
  by_cases hm : nth ns (ns.length - 1) < m
  · rw [decide_eq_true hm]
    refine may_mono ns n m h (fun i hi => ?_)
    have := rises ns n h (ns.length - 1 - i) i (by omega)
    rw [show i + (ns.length - 1 - i) = ns.length - 1 by omega] at this
    omega
  · rw [decide_eq_false hm]
    exact may_false (ns.length - 1) (by omega) (fun e => hm e.2)
theorem made_length (ns : List Int) (ds : List (List Int)) : (made ns ds).length = 512 := hd_length _ _
theorem Data.tail {w : World} {b off : Nat} {ds : List (List Int)} (h : Data w (Option.some ⟨b, off, none⟩) ds) : Data w (Option.some ⟨b, off + 1, none⟩) (ds.drop 1) := by
  refine ⟨by have := h.len; rw [List.length_drop]; omega, .inr ⟨b, off + 1, rfl, fun i hi => ?_⟩⟩
  rw [List.length_drop] at hi
  have e : row (ds.drop 1) i = row ds (i + 1) := by simp [row, List.getD]
  rw [e]
  have := h.cell (i := i + 1) (by omega)
  rw [show off + 1 + i = off + (i + 1) by omega]
  exact this
end Go.Proofs.YtgmccpimpbnnpaaDoor

namespace Go.Proofs.YtgmccpimpbnnpaaDoor
open Go.RowKit Rec
structure Fit (ns : List Int) (ds : List (List Int)) (K : Nat) : Prop where
  nl : ns.length = K
  dl : ds.length = K
  k1 : 1 ≤ K
  k96 : K ≤ 96
  may : may ns 16384 = true
  rows : ∀ i, i < K → (row ds i).length = 512
theorem Fit.blk {ns : List Int} {ds : List (List Int)} {K : Nat} (h : Fit ns ds K) : Go.Proofs.YtgmccpimpbnnpaaDoor.blk ds K = true := by
  unfold Go.Proofs.YtgmccpimpbnnpaaDoor.blk
  rw [decide_eq_true h.dl, decide_eq_true ((mem_row _).2 (fun i hi => h.rows i (by rw [← h.dl]; exact hi)))]; rfl
theorem Fit.numsE {ns : List Int} {ds : List (List Int)} {K : Nat} (h : Fit ns ds K) (n : Int) : Go.Proofs.YtgmccpimpbnnpaaDoor.numsE (made ns ds) n = if nth ns (K - 1) < n then 0 else 41 := by
  unfold made
  rw [numsE_hd ns _ n (by rw [h.nl]; exact h.k1) (by rw [h.nl]; exact h.k96) (fun i hi => by have := pre_bd ns _ h.may i hi; omega), may_last ns 16384 n h.may (by rw [h.nl]; exact h.k1), h.nl]
  by_cases e : nth ns (K - 1) < n
  · rw [decide_eq_true e, if_pos rfl, if_pos e]
  · rw [decide_eq_false e, if_neg e]; rfl
theorem Fit.numsL {ns : List Int} {ds : List (List Int)} {K : Nat} (h : Fit ns ds K) (n : Int) : Go.Proofs.YtgmccpimpbnnpaaDoor.numsL (made ns ds) n = if nth ns (K - 1) < n then ns else [] := by
  unfold made
  rw [numsL_hd ns _ n (by rw [h.nl]; exact h.k1) (by rw [h.nl]; exact h.k96) (fun i hi => by have := pre_bd ns _ h.may i hi; omega), may_last ns 16384 n h.may (by rw [h.nl]; exact h.k1), h.nl]
  by_cases e : nth ns (K - 1) < n
  · rw [decide_eq_true e, if_pos rfl, if_pos e]
  · rw [decide_eq_false e, if_neg e]; rfl
end Go.Proofs.YtgmccpimpbnnpaaDoor

namespace Rec
def wr (l : List Int) (b : Nat) (x : List Int) : List Int := ov l (512 * b) 512 (nth x)
theorem wr_length (l : List Int) (b : Nat) (x : List Int) : (wr l b x).length = l.length := ov_length _ _ _ _
theorem nth_wr (l : List Int) (b : Nat) (x : List Int) (i : Nat) (hi : i < l.length) : nth (wr l b x) i = if i / 512 = b then nth x (i % 512) else nth l i := by
  rw [wr, nth_ov _ _ _ _ _ hi]
  by_cases h : i / 512 = b
  · rw [if_pos (by omega), if_pos h]; congr 1; omega
  · rw [if_neg (by omega), if_neg h]
def lay (kp : Nat → Bool) (f : Nat → Nat) (x : Nat → List Int) (l : List Int) : Nat → List Int
  | 0 => l
  | k + 1 => if kp k then wr (lay kp f x l k) (f k) (x k) else lay kp f x l k
theorem lay_length (kp : Nat → Bool) (f : Nat → Nat) (x : Nat → List Int) (l : List Int) (k : Nat) : (lay kp f x l k).length = l.length := by
  induction k with
  | zero => rfl
  | succ k ih => rw [lay]; split; rw [wr_length, ih]; exact ih
def nz (f : Nat → Nat) (l : List Int) : Nat → List Int
  | 0 => l
  | k + 1 => (nz f l k).set (f k) 0
def lst (f : Nat → Nat) (b : Nat) : Nat → Nat
  | 0 => 0
  | k + 1 => if f k = b then k + 1 else lst f b k
theorem lst_le (f : Nat → Nat) (b k : Nat) : lst f b k ≤ k := by
  induction k with
  | zero => exact Nat.le_refl _
  | succ k ih => rw [lst]; split <;> omega
def newest (f : Nat → Nat) (N n : Nat) : List Int := (List.range N).map fun b => (lst f b n : Int)
theorem newest_length (f : Nat → Nat) (N n : Nat) : (newest f N n).length = N := by simp [newest]
theorem nth_newest (f : Nat → Nat) (N n b : Nat) (h : b < N) : nth (newest f N n) b = (lst f b n : Int) := by simp [newest, nth, List.getD, h]
theorem newest_zero (f : Nat → Nat) (N : Nat) : newest f N 0 = List.replicate N 0 := by
  refine ext_nth (by simp [newest_length]) fun i hi => ?_
  rw [newest_length] at hi
  rw [nth_newest _ _ _ _ hi]
  simp [lst, nth, List.getD, hi]
theorem nth_lay_all (f : Nat → Nat) (x : Nat → List Int) (l : List Int) (n i : Nat) (hi : i < l.length) :
    nth (lay (fun _ => true) f x l n) i = if lst f (i / 512) n = 0 then nth l i else nth (x (lst f (i / 512) n - 1)) (i % 512) := by
  induction n with
  | zero => simp [lay, lst]
  | succ n ih =>
    rw [lay, if_pos rfl, nth_wr _ _ _ _ (by rw [lay_length]; exact hi), lst]
    by_cases e : i / 512 = f n
    · simp [e]
    · have e' : ¬ f n = i / 512 := fun h => e h.symm
      simp only [if_neg e, if_neg e']; exact ih
def bck (l : List Int) (b : Nat) : List Int := (l.drop (512 * b)).take 512
end Rec
