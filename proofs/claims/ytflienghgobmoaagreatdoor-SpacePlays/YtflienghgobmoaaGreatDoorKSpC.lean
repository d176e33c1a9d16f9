import Derived.Test.YtflienghgobmoaaGreatDoorKBzS
import Derived.Test.YtflienghgobmoaaGreatDoorKALasts
import Derived.Test.YtflienghgobmoaaGreatDoorKTxBm
import Derived.Test.YtflienghgobmoaaGreatDoorKKbA
import Derived.Test.YtflienghgobmoaaGreatDoorKXmB
import Derived.Test.YtflienghgobmoaaGreatDoorKXsC
namespace Go.Proofs.YtflienghgobmoaaGreatDoor
open Go.RowKit Go.Shelf Rec
attribute [local go_sem] Oper.semAt_some

set_option maxRecDepth 100000 in
set_option maxHeartbeats 8000000 in
theorem gatF_any (w : World) (G Db S lo hi : Nat) (z : Int) (hC : Cau w G Db S 76 lo hi z) (first : Nat) (p : Addr) (c : Nat) (s : List Int) (hb : Bytes w (some p) s) (hs : s.length = 512) (h0 : first ≤ 20000) (h1 : lo ≤ 20000) (h2 : hi ≤ 20000) (hz : 0 ≤ z ∧ z ≤ 50000) :
    Calls Tryz.prog 112 #[.int .i64 (first : Int), .slice (some p) 512 c, .pointer (some ⟨G, 0, none⟩), .pointer (some ⟨Db, 0, none⟩)] w fun e w' => e = .returned (.bool true) ∧ BoxI w S (z + (ct (fb lo hi first s) 4096 : Nat)) w' := by
  refine (callsIn_wide (n := 6)).1 ?_
  have HC : Hid (Cau w G Db S 76 lo hi z) := hC
  have hf4 : Fence.wide.fn 113 := trivial
  have hf5 : Fence.wide.fn 76 := trivial
  have hGl := block_lt_of_cell hC.g0
  have hDl := block_lt_of_cell hC.d
  have hSl := block_lt_of_cell hC.s
  have hap1 := hC.ap1
  have hap2 := hC.ap2
  dsimp only at hGl hDl hSl
  clear hC
  have cR : ∀ w1, Below w.heap.size w w1 → CallsIn Fence.wide 5 Tryz.prog 113 #[.slice (some p) 512 c] w1 fun e w' => ∃ B g cap, e = .returned (.func (.func 147) #[] #[.pointer (some ⟨B, 0, none⟩)]) ∧ SeqAt w' B g cap s ∧ w1.heap.size ≤ B ∧ w1.heap.size ≤ g ∧ Below w1.heap.size w1 w' := fun w1 hb1 => callsIn_wide.2 (runs_any w1 512 c (some p) s (hb.on hb1) hs (fun e => by cases e) (by omega))
  refine callsIn_of_wp_marks Tryz.func112 rfl trivial ?_ rfl
  simp only [Tryz.ntmps112, List.size_toArray, List.length_cons, List.length_nil, Nat.reduceAdd, Nat.reduceSub, Array.replicate_succ, Array.replicate_zero, List.push_toArray, List.append_toArray, List.nil_append, List.cons_append]
  obtain ⟨wb, hwb⟩ : ∃ wb, (w.alloc (.cells #[.int .i64 (first : Int)] 3)).alloc (.cells #[.bool false] 4) = wb := ⟨_, rfl⟩
  have HB : Hid (Below w.heap.size w wb ∧ wb.heap.size = w.heap.size + 2 ∧ wb.heap[w.heap.size]? = some (.cells #[.int .i64 (first : Int)] 3 (0, 0)) ∧ wb.heap[w.heap.size + 1]? = some (.cells #[.bool false] 4 (0, 0))) := by
    rw [← hwb]
    refine ⟨((Below.refl _ _).alloc (Nat.le_refl _) _).alloc (by simp) _, by simp, ?_, ?_⟩
    · exact (Below.heap_alloc _ _ _ (by simp)).trans (heap_alloc_new _ _)
    · have := heap_alloc_new (w.alloc (.cells #[.int .i64 (first : Int)] 3)) (.cells #[.bool false] 4)
      rw [World.size_alloc] at this
      exact this
  gi_wp2_with (gi_at_call 113; refine (cR _ HB.out.1).mono ?_; rintro e wa ⟨B, g, cap, rfl, hB, hB1, hB2, hb2⟩; have H2 : Hid (SeqAt wa B g cap s ∧ Below wb.heap.size wb wa) := ⟨hB, hb2⟩; clear hB hb2)
  obtain ⟨sw, hsw⟩ : ∃ sw, w.heap.size = sw := ⟨_, rfl⟩
  have hs2 := HB.out.2.1
  have hs3 := H2.out.2.size
  rw [hsw] at HB hGl hDl hSl hs2
  simp only [hsw]
  have HA : Hid (Below sw w wa ∧ wa.heap[sw]? = some (.cells #[.int .i64 (first : Int)] 3 (0, 0)) ∧ wa.heap[sw + 1]? = some (.cells #[.bool false] 4 (0, 0))) := ⟨HB.out.1.trans (H2.out.2.mono (by omega)), (H2.out.2.block sw (by omega)).trans HB.out.2.2.1, (H2.out.2.block (sw + 1) (by omega)).trans HB.out.2.2.2⟩
  have hBa := H2.out.1.ltB
  have hga := H2.out.1.ltg
  clear hwb
  refine wpIn_rangeFunc_ownG rfl (by omega) (gf := 147) (lb := #[.pointer (some ⟨B, 0, none⟩)]) rfl trivial (enters_of Tryz.func147 (by kernel_rfl) rfl)
    (runs_stops B g cap s wa H2.out.1 (by omega)) (fun h k => h.trans k) (KpB.put hBa hga) (Below.refl _ _) (fun _ => rfl)
    (fun pre W => Bx2 wa S (sw + 1) (z + (clips lo hi first (pre.map (·.1)) : Nat)) W) (fun _ _ _ => False) (Bx2.own wa S (sw + 1) (fun pre : List (RwB s) => z + (clips lo hi first (pre.map (·.1)) : Nat)) (by omega) (by omega)) (fun _ _ _ _ _ hs _ _ => hs.elim) ⟨(HA.out.1.cell (p := ⟨S, 0, none⟩) hSl).trans (by rw [HC.out.s]; simp [clips]), (frozen_blk (HA.out.1.block S hSl)).trans HC.out.sf, by rw [cell_of_row _ _ _ _ _ _ HA.out.2.2]; rfl, frozen_of_row _ _ _ _ _ HA.out.2.2, Fr.refl _ _⟩ ?a1 ?assign ?body ?done ?stop
  case assign =>
    intro l x W K hK
    gi_wp2
    exact hK
  case body =>
    rintro lp pre ⟨⟨at_, k⟩, hx⟩ W hI hlt
    have htop := (runs_row hx).top
    dsimp only at htop
    rw [hs] at htop
    have hcS := hI.cell
    have hfS := hI.frozen
    have hcr := hI.rc
    have hfr := hI.rf
    have hnS : ∀ q, q < wa.heap.size → q ≠ S → q ≠ sw + 1 → ¬ (q = S ∨ q = sw + 1 ∨ wa.heap.size ≤ q) := fun q h1 h2 h3 h => by omega
    have hcf : W.cell? ⟨sw, 0, none⟩ = some (.int .i64 (first : Int)) := hI.fr.cell (by rw [cell_of_row _ _ _ _ _ _ HA.out.2.1]; rfl) (hnS sw (by omega) (by omega) (by omega))
    have hc0 : W.cell? ⟨G, 0, none⟩ = some (.int .i64 (hi : Int)) := hI.fr.cell ((HA.out.1.cell (p := ⟨G, 0, none⟩) hGl).trans HC.out.g0) (hnS G (by omega) hap1 (by omega))
    have hc3 : W.cell? ⟨G, 3, none⟩ = some (.int .i64 (lo : Int)) := hI.fr.cell ((HA.out.1.cell (p := ⟨G, 3, none⟩) hGl).trans HC.out.g3) (hnS G (by omega) hap1 (by omega))
    have hcd : W.cell? ⟨Db, 0, none⟩ = some (.func (.func 76) #[] #[.pointer (some ⟨S, 0, none⟩)]) := hI.fr.cell ((HA.out.1.cell (p := ⟨Db, 0, none⟩) hDl).trans HC.out.d) (hnS Db (by omega) hap2 (by omega))
    obtain ⟨a0, ha0⟩ : ∃ a0 : Nat, first + at_ = a0 := ⟨_, rfl⟩
    obtain ⟨a1, ha1⟩ : ∃ a1 : Nat, a0 + k = a1 := ⟨_, rfl⟩
    obtain ⟨f, hf⟩ : ∃ f : Nat, max a0 lo = f := ⟨_, rfl⟩
    obtain ⟨t, ht⟩ : ∃ t : Nat, min a1 hi = t := ⟨_, rfl⟩
    have e0 : (first : Int) + (at_ : Int) = (a0 : Int) := by omega
    have e1 : (a0 : Int) + (k : Int) = (a1 : Int) := by omega
    have HI : Hid (Bx2 wa S (sw + 1) (z + (clips lo hi first (pre.map (·.1)) : Nat)) W) := hI
    have hcl : clips lo hi first (pre.map (·.1)) ≤ 100000000 := by
      have h9 := clips_le lo hi first (pre.map (·.1))
      have h8 := runs_len s
      rw [List.length_map] at h9
      have h7 : pre.length * hi ≤ 4096 * 20000 := Nat.mul_le_mul (by omega) h2
      omega
    obtain ⟨y, hy⟩ : ∃ y : Int, z + (clips lo hi first (pre.map (·.1)) : Nat) = y := ⟨_, rfl⟩
    have hyb : 0 ≤ y ∧ y ≤ 200000000 := by omega
    rw [hy] at hcS HI
    have HY : Hid (z + (clips lo hi first (pre.map (·.1)) : Nat) = y) := hy
    have HX : Hid (clip lo hi first (at_, k) = t - f) := by
      show clip lo hi first (at_, k) = t - f
      rw [clip, ← hf, ← ht, ← ha1, ← ha0]
    clear hI hcl hy
    by_cases hft : f < t
    · have HCU : Hid (CallsIn Fence.wide (6 - 1 - 1 - 1) Tryz.prog 76 #[.int .i64 (f : Int), .int .i64 (t : Int), .pointer (some ⟨S, 0, none⟩)] W fun e w' => e = .returned (.bool true) ∧ w' = W.setCell ⟨S, 0, none⟩ (.int .i64 (y + (t - f : Nat)))) := callsIn_wide.2 (free1_any W S y f t (y + (t - f : Nat)) hcS hfS (by omega) (by omega) (by omega))
      have hft' : (f : Int) < (t : Int) := by omega
      have hf9 : max a0 lo = f := hf
      have ht9 : min a1 hi = t := ht
      clear hf ht
      rcases (show (a0 < lo ∧ f = lo) ∨ (a0 = lo ∧ f = lo) ∨ (lo < a0 ∧ f = a0) from by omega) with ⟨c1, rfl⟩ | ⟨rfl, rfl⟩ | ⟨c1, rfl⟩ <;> rcases (show (a1 < hi ∧ t = a1) ∨ (a1 = hi ∧ t = a1) ∨ (hi < a1 ∧ t = hi) from by omega) with ⟨c2, rfl⟩ | ⟨rfl, rfl⟩ | ⟨c2, rfl⟩
      all_goals
        gi_wp2_with (gi_at_call 76; refine (CallsIn.inRound lp HCU.out).mono ?_; rintro e W' ⟨rfl, rfl⟩; clear HCU)
        refine ⟨(Rm.set (Rm.refl _ B g W) S _ (by omega) (by omega)).keeps, (Rm.set (Rm.refl 0 B g W) S _ (by omega) (by omega)).kp, ?_⟩
        show Bx2 wa S (sw + 1) (z + ((clips _ _ first ((pre ++ [(⟨(at_, k), hx⟩ : RwB s)]).map (·.1)) : Nat) : Int)) _
        rw [List.map_append, List.map_cons, List.map_nil, clips_snoc, HX.out, Int.natCast_add, ← Int.add_assoc, HY.out]
        exact HI.out.set (by omega) _
    · have hft' : ¬ (f : Int) < (t : Int) := by omega
      have hf9 : max a0 lo = f := hf
      have ht9 : min a1 hi = t := ht
      clear hf ht
      rcases (show (a0 < lo ∧ f = lo) ∨ (a0 = lo ∧ f = lo) ∨ (lo < a0 ∧ f = a0) from by omega) with ⟨c1, rfl⟩ | ⟨rfl, rfl⟩ | ⟨c1, rfl⟩ <;> rcases (show (a1 < hi ∧ t = a1) ∨ (a1 = hi ∧ t = a1) ∨ (hi < a1 ∧ t = hi) from by omega) with ⟨c2, rfl⟩ | ⟨rfl, rfl⟩ | ⟨c2, rfl⟩
      all_goals
        gi_wp2
        refine ⟨fun _ h => (by cases h), ?_⟩
        gi_wp2
        refine ⟨(Rm.refl _ B g W).keeps, (Rm.refl 0 B g W).kp, ?_⟩
        show Bx2 wa S (sw + 1) (z + ((clips _ _ first ((pre ++ [(⟨(at_, k), hx⟩ : RwB s)]).map (·.1)) : Nat) : Int)) _
        rw [List.map_append, List.map_cons, List.map_nil, clips_snoc, HX.out, show t - f = 0 from by omega]
        show Bx2 wa S (sw + 1) (z + ((clips _ _ first (pre.map (·.1)) : Nat) : Int)) W
        rw [HY.out]
        exact HI.out
  case done =>
    rintro D ys W hD hS hI hK
    rw [show (clips lo hi first (ys.map (·.1)) : Nat) = ct (fb lo hi first s) 4096 from by rw [hS, runs_clip, hs]] at hI
    have hcr := hI.rc
    have hfr := hI.rf
    have hbW : Fr (fun k => k = S ∨ w.heap.size ≤ k) w W := ((below_fr (S := fun k => k = S ∨ w.heap.size ≤ k) (by rw [hsw]; exact HA.out.1)).trans hI.fr (fun k hk => by rw [hsw]; omega))
    have HK : Hid (W.heap[D]? = some (.deferred (some [])) ∧ Bx2 wa S (sw + 1) (z + (ct (fb lo hi first s) 4096 : Nat)) W) := ⟨hK, hI⟩
    clear hK hI
    gi_wp2
    have hK' : (W.setCell ⟨sw + 1, 0, none⟩ (.bool true)).heap[D]? = some (.deferred (some [])) := (set_other (by omega)).trans HK.out.1
    have hc5 := cell_kept (World.cell?_setCell_same' W ⟨sw + 1, 0, none⟩ (.bool true) (by rw [hcr]; rfl)) (grownBy_putObj' _ D (.deferred none)) (fun r e => by cases e; exact ⟨_, hK', rfl⟩)
    refine ⟨by simp, .inl ⟨_, _, rfl, run_takeDeferred hK', ?_⟩⟩
    refine ⟨.bool true, ?_, rfl, ?_⟩
    · simp [results, Tryz.f112, go_sem, hc5]
    · exact ⟨(frPut _ _ _).cell (Fr.set.cell HK.out.2.cell (by show ¬ S = sw + 1; omega)) (by show ¬ S = D; omega), (frozen_blk ((frPut _ _ _).block S (by exact block_lt_of_cell (Fr.set.cell HK.out.2.cell (by show ¬ S = sw + 1; omega))) (by show ¬ S = D; omega))).trans ((frozen_blk (set_other (by omega))).trans HK.out.2.frozen), (hbW.trans Fr.set (fun k hk => .inl (.inr (by have hk : k = sw + 1 := hk; omega)))).trans (frPut _ _ _) (fun k hk => .inl (.inr (by have hk : k = D := hk; omega)))⟩
  case stop => exact fun _ _ _ _ _ _ h _ => h.elim

set_option maxRecDepth 100000 in
set_option maxHeartbeats 8000000 in
theorem gatL_any (w : World) (G Db S lo hi : Nat) (z : Int) (hC : Cau w G Db S 106 lo hi z) (first : Nat) (p : Addr) (c : Nat) (s : List Int) (hb : Bytes w (some p) s) (hs : s.length = 512) (h0 : first ≤ 20000) (h1 : lo ≤ 20000) (h2 : hi ≤ 20000) (_ : 0 ≤ z ∧ z ≤ 50000) :
    Calls Tryz.prog 112 #[.int .i64 (first : Int), .slice (some p) 512 c, .pointer (some ⟨G, 0, none⟩), .pointer (some ⟨Db, 0, none⟩)] w fun e w' => (e = .returned (.bool true) ∧ ct (fb lo hi first s) 4096 = 0 ∧ BoxI w S z w') ∨ (e = .returned (.bool false) ∧ ∃ j, j < 4096 ∧ IsLo (fb lo hi first s) j ∧ BoxI w S ((first + j : Nat) : Int) w') := by
  refine (callsIn_wide (n := 6)).1 ?_
  have HC : Hid (Cau w G Db S 106 lo hi z) := hC
  have hf4 : Fence.wide.fn 113 := trivial
  have hf5 : Fence.wide.fn 106 := trivial
  have hGl := block_lt_of_cell hC.g0
  have hDl := block_lt_of_cell hC.d
  have hSl := block_lt_of_cell hC.s
  have hap1 := hC.ap1
  have hap2 := hC.ap2
  dsimp only at hGl hDl hSl
  clear hC
  have cR : ∀ w1, Below w.heap.size w w1 → CallsIn Fence.wide 5 Tryz.prog 113 #[.slice (some p) 512 c] w1 fun e w' => ∃ B g cap, e = .returned (.func (.func 147) #[] #[.pointer (some ⟨B, 0, none⟩)]) ∧ SeqAt w' B g cap s ∧ w1.heap.size ≤ B ∧ w1.heap.size ≤ g ∧ Below w1.heap.size w1 w' := fun w1 hb1 => callsIn_wide.2 (runs_any w1 512 c (some p) s (hb.on hb1) hs (fun e => by cases e) (by omega))
  refine callsIn_of_wp_marks Tryz.func112 rfl trivial ?_ rfl
  simp only [Tryz.ntmps112, List.size_toArray, List.length_cons, List.length_nil, Nat.reduceAdd, Nat.reduceSub, Array.replicate_succ, Array.replicate_zero, List.push_toArray, List.append_toArray, List.nil_append, List.cons_append]
  obtain ⟨wb, hwb⟩ : ∃ wb, (w.alloc (.cells #[.int .i64 (first : Int)] 3)).alloc (.cells #[.bool false] 4) = wb := ⟨_, rfl⟩
  have HB : Hid (Below w.heap.size w wb ∧ wb.heap.size = w.heap.size + 2 ∧ wb.heap[w.heap.size]? = some (.cells #[.int .i64 (first : Int)] 3 (0, 0)) ∧ wb.heap[w.heap.size + 1]? = some (.cells #[.bool false] 4 (0, 0))) := by
    rw [← hwb]
    refine ⟨((Below.refl _ _).alloc (Nat.le_refl _) _).alloc (by simp) _, by simp, ?_, ?_⟩
    · exact (Below.heap_alloc _ _ _ (by simp)).trans (heap_alloc_new _ _)
    · have := heap_alloc_new (w.alloc (.cells #[.int .i64 (first : Int)] 3)) (.cells #[.bool false] 4)
      rw [World.size_alloc] at this
      exact this
  gi_wp2_with (gi_at_call 113; refine (cR _ HB.out.1).mono ?_; rintro e wa ⟨B, g, cap, rfl, hB, hB1, hB2, hb2⟩; have H2 : Hid (SeqAt wa B g cap s ∧ Below wb.heap.size wb wa) := ⟨hB, hb2⟩; clear hB hb2)
  obtain ⟨sw, hsw⟩ : ∃ sw, w.heap.size = sw := ⟨_, rfl⟩
  have hs2 := HB.out.2.1
  have hs3 := H2.out.2.size
  rw [hsw] at HB hGl hDl hSl hs2
  simp only [hsw]
  have HA : Hid (Below sw w wa ∧ wa.heap[sw]? = some (.cells #[.int .i64 (first : Int)] 3 (0, 0)) ∧ wa.heap[sw + 1]? = some (.cells #[.bool false] 4 (0, 0))) := ⟨HB.out.1.trans (H2.out.2.mono (by omega)), (H2.out.2.block sw (by omega)).trans HB.out.2.2.1, (H2.out.2.block (sw + 1) (by omega)).trans HB.out.2.2.2⟩
  have hBa := H2.out.1.ltB
  have hga := H2.out.1.ltg
  clear hwb
  refine wpIn_rangeFunc_ownG rfl (by omega) (gf := 147) (lb := #[.pointer (some ⟨B, 0, none⟩)]) rfl trivial (enters_of Tryz.func147 (by kernel_rfl) rfl)
    (runs_stops B g cap s wa H2.out.1 (by omega)) (fun h k => h.trans k) (KpB.put hBa hga) (Below.refl _ _) (fun _ => rfl)
    (LoI wa S (sw + 1) lo hi first z s) (LoX wa S (sw + 1) lo hi first s) (LoI.own wa S (sw + 1) lo hi first z s (by omega) (by omega)) (fun c => LoX.own wa S (sw + 1) lo hi first s c (by omega) (by omega)) ⟨⟨(HA.out.1.cell (p := ⟨S, 0, none⟩) hSl).trans HC.out.s, (frozen_blk (HA.out.1.block S hSl)).trans HC.out.sf, by rw [cell_of_row _ _ _ _ _ _ HA.out.2.2]; rfl, frozen_of_row _ _ _ _ _ HA.out.2.2, Fr.refl _ _⟩, rfl⟩ ?a1 ?assign ?body ?done ?stop
  case assign =>
    intro l x W K hK
    gi_wp2
    exact hK
  case body =>
    rintro lp pre ⟨⟨at_, k⟩, hx⟩ W ⟨hI, hcl0⟩ hlt
    have htop := (runs_row hx).top
    dsimp only at htop
    rw [hs] at htop
    have hcS := hI.cell
    have hfS := hI.frozen
    have hcr := hI.rc
    have hfr := hI.rf
    have hnS : ∀ q, q < wa.heap.size → q ≠ S → q ≠ sw + 1 → ¬ (q = S ∨ q = sw + 1 ∨ wa.heap.size ≤ q) := fun q h1 h2 h3 h => by omega
    have hcf : W.cell? ⟨sw, 0, none⟩ = some (.int .i64 (first : Int)) := hI.fr.cell (by rw [cell_of_row _ _ _ _ _ _ HA.out.2.1]; rfl) (hnS sw (by omega) (by omega) (by omega))
    have hc0 : W.cell? ⟨G, 0, none⟩ = some (.int .i64 (hi : Int)) := hI.fr.cell ((HA.out.1.cell (p := ⟨G, 0, none⟩) hGl).trans HC.out.g0) (hnS G (by omega) hap1 (by omega))
    have hc3 : W.cell? ⟨G, 3, none⟩ = some (.int .i64 (lo : Int)) := hI.fr.cell ((HA.out.1.cell (p := ⟨G, 3, none⟩) hGl).trans HC.out.g3) (hnS G (by omega) hap1 (by omega))
    have hcd : W.cell? ⟨Db, 0, none⟩ = some (.func (.func 106) #[] #[.pointer (some ⟨S, 0, none⟩)]) := hI.fr.cell ((HA.out.1.cell (p := ⟨Db, 0, none⟩) hDl).trans HC.out.d) (hnS Db (by omega) hap2 (by omega))
    obtain ⟨a0, ha0⟩ : ∃ a0 : Nat, first + at_ = a0 := ⟨_, rfl⟩
    obtain ⟨a1, ha1⟩ : ∃ a1 : Nat, a0 + k = a1 := ⟨_, rfl⟩
    obtain ⟨f, hf⟩ : ∃ f : Nat, max a0 lo = f := ⟨_, rfl⟩
    obtain ⟨t, ht⟩ : ∃ t : Nat, min a1 hi = t := ⟨_, rfl⟩
    have e0 : (first : Int) + (at_ : Int) = (a0 : Int) := by omega
    have e1 : (a0 : Int) + (k : Int) = (a1 : Int) := by omega
    have HI : Hid (Bx2 wa S (sw + 1) z W ∧ clips lo hi first (pre.map (·.1)) = 0) := ⟨hI, hcl0⟩
    have HX : Hid (clip lo hi first (at_, k) = t - f) := by
      show clip lo hi first (at_, k) = t - f
      rw [clip, ← hf, ← ht, ← ha1, ← ha0]
    have HM : Hid (max (first + at_) lo = f ∧ min (first + at_ + k) hi = t) := ⟨by rw [← hf, ← ha0], by rw [← ht, ← ha1, ← ha0]⟩
    clear hI hcl0
    by_cases hft : f < t
    · have HCU : Hid (CallsIn Fence.wide (6 - 1 - 1 - 1) Tryz.prog 106 #[.int .i64 (f : Int), .int .i64 (t : Int), .pointer (some ⟨S, 0, none⟩)] W fun e w' => e = .returned (.bool false) ∧ w' = W.setCell ⟨S, 0, none⟩ (.int .i64 (f : Int))) := callsIn_wide.2 (low1_any W S z f t hcS hfS)
      have hcr2 : (W.setCell ⟨S, 0, none⟩ (.int .i64 (f : Int))).cell? ⟨sw + 1, 0, none⟩ = some (.bool false) := (World.cell?_of_block (set_other (show sw + 1 ≠ S by omega))).trans hcr
      have hfr2 : (W.setCell ⟨S, 0, none⟩ (.int .i64 (f : Int))).frozen? ⟨sw + 1, 0, none⟩ = false := (frozen_blk (set_other (show sw + 1 ≠ S by omega))).trans hfr
      have hft' : (f : Int) < (t : Int) := by omega
      have hf9 : max a0 lo = f := hf
      have ht9 : min a1 hi = t := ht
      clear hf ht
      rcases (show (a0 < lo ∧ f = lo) ∨ (a0 = lo ∧ f = lo) ∨ (lo < a0 ∧ f = a0) from by omega) with ⟨c1, rfl⟩ | ⟨rfl, rfl⟩ | ⟨c1, rfl⟩ <;> rcases (show (a1 < hi ∧ t = a1) ∨ (a1 = hi ∧ t = a1) ∨ (hi < a1 ∧ t = hi) from by omega) with ⟨c2, rfl⟩ | ⟨rfl, rfl⟩ | ⟨c2, rfl⟩
      all_goals
        gi_wp2_with (gi_at_call 106; refine (CallsIn.inRound lp HCU.out).mono ?_; rintro e W' ⟨rfl, rfl⟩; clear HCU)
        exact ⟨((Rm.set (Rm.refl _ B g W) S _ (by omega) (by omega)).set (sw + 1) _ (by omega) (by omega)).keeps, rfl, pre, ⟨(at_, k), hx⟩, rfl, HI.out.2, by rw [HM.out.1, HM.out.2]; exact hft, by rw [HM.out.1]; exact (HI.out.1.set (by omega) _).setr (by omega)⟩
    · have hft' : ¬ (f : Int) < (t : Int) := by omega
      have hf9 : max a0 lo = f := hf
      have ht9 : min a1 hi = t := ht
      clear hf ht
      rcases (show (a0 < lo ∧ f = lo) ∨ (a0 = lo ∧ f = lo) ∨ (lo < a0 ∧ f = a0) from by omega) with ⟨c1, rfl⟩ | ⟨rfl, rfl⟩ | ⟨c1, rfl⟩ <;> rcases (show (a1 < hi ∧ t = a1) ∨ (a1 = hi ∧ t = a1) ∨ (hi < a1 ∧ t = hi) from by omega) with ⟨c2, rfl⟩ | ⟨rfl, rfl⟩ | ⟨c2, rfl⟩
      all_goals
        gi_wp2
        refine ⟨fun _ h => (by cases h), ?_⟩
        gi_wp2
        refine ⟨(Rm.refl _ B g W).keeps, (Rm.refl 0 B g W).kp, HI.out.1, ?_⟩
        rw [List.map_append, List.map_cons, List.map_nil, clips_snoc, HX.out, HI.out.2]
        omega
  case done =>
    rintro D ys W hD hS ⟨hI, hcl0⟩ hK
    have hct : ct (fb lo hi first s) 4096 = 0 := by rw [← hcl0, hS, runs_clip, hs]
    have hcr := hI.rc
    have hfr := hI.rf
    have hbW : Fr (fun k => k = S ∨ w.heap.size ≤ k) w W := ((below_fr (S := fun k => k = S ∨ w.heap.size ≤ k) (by rw [hsw]; exact HA.out.1)).trans hI.fr (fun k hk => by rw [hsw]; omega))
    have HK : Hid (W.heap[D]? = some (.deferred (some [])) ∧ Bx2 wa S (sw + 1) z W) := ⟨hK, hI⟩
    clear hK hI
    gi_wp2
    have hK' : (W.setCell ⟨sw + 1, 0, none⟩ (.bool true)).heap[D]? = some (.deferred (some [])) := (set_other (by omega)).trans HK.out.1
    have hc5 := cell_kept (World.cell?_setCell_same' W ⟨sw + 1, 0, none⟩ (.bool true) (by rw [hcr]; rfl)) (grownBy_putObj' _ D (.deferred none)) (fun r e => by cases e; exact ⟨_, hK', rfl⟩)
    refine ⟨by simp, .inl ⟨_, _, rfl, run_takeDeferred hK', ?_⟩⟩
    refine ⟨.bool true, ?_, .inl ⟨rfl, hct, ?_⟩⟩
    · simp [results, Tryz.f112, go_sem, hc5]
    · exact ⟨(frPut _ _ _).cell (Fr.set.cell HK.out.2.cell (by show ¬ S = sw + 1; omega)) (by show ¬ S = D; omega), (frozen_blk ((frPut _ _ _).block S (by exact block_lt_of_cell (Fr.set.cell HK.out.2.cell (by show ¬ S = sw + 1; omega))) (by show ¬ S = D; omega))).trans ((frozen_blk (set_other (by omega))).trans HK.out.2.frozen), (hbW.trans Fr.set (fun k hk => .inl (.inr (by have hk : k = sw + 1 := hk; omega)))).trans (frPut _ _ _) (fun k hk => .inl (.inr (by have hk : k = D := hk; omega)))⟩
  case stop =>
    rintro D c pre W hD hS ⟨rfl, pre0, x, rfl, hcl0, hmm, hI⟩ hK
    rw [List.map_append] at hS
    obtain ⟨j, hj1, hj2, hlo⟩ := first_clip hS hcl0 hmm
    rw [hj1] at hI
    rw [hs] at hj2
    have hcr := hI.rc
    have hfr := hI.rf
    have hbW : Fr (fun k => k = S ∨ w.heap.size ≤ k) w W := ((below_fr (S := fun k => k = S ∨ w.heap.size ≤ k) (by rw [hsw]; exact HA.out.1)).trans hI.fr (fun k hk => by rw [hsw]; omega))
    have HK : Hid (W.heap[D]? = some (.deferred (some [])) ∧ Bx2 wa S (sw + 1) ((first + j : Nat) : Int) W) := ⟨hK, hI⟩
    clear hK hI
    gi_wp2
    have hK' : (W).heap[D]? = some (.deferred (some [])) := HK.out.1
    have hc5 := cell_kept hcr (grownBy_putObj' _ D (.deferred none)) (fun r e => by cases e; exact ⟨_, hK', rfl⟩)
    refine ⟨by simp, .inl ⟨_, _, rfl, run_takeDeferred hK', ?_⟩⟩
    refine ⟨.bool false, ?_, .inr ⟨rfl, j, by omega, hlo, ?_⟩⟩
    · simp [results, Tryz.f112, go_sem, hc5]
    · exact ⟨(frPut _ _ _).cell HK.out.2.cell (by show ¬ S = D; omega), (frozen_blk ((frPut _ _ _).block S (by exact block_lt_of_cell HK.out.2.cell) (by show ¬ S = D; omega))).trans HK.out.2.frozen, hbW.trans (frPut _ _ _) (fun k hk => .inl (.inr (by have hk : k = D := hk; omega)))⟩
end Go.Proofs.YtflienghgobmoaaGreatDoor


namespace Go.Proofs.YtflienghgobmoaaGreatDoor
open Go.RowKit Go.Maps Rec

/-- what a transaction reads -/
def tv (D : Dk) (T : Tx) (i : Nat) : List Int := match T.c i with | some q => q.x | none => bck D.full i
def nM (n : Nat) : Nat := (n + 4095) / 4096
def nD (n : Nat) : Nat := 98 + nM n + n / 64
theorem gI_nat (n : Nat) : gI (n : Int) = ((98 + nM n : Nat) : Int) := by unfold gI nM; omega
theorem gD_nat (n : Nat) : gD (n : Int) = ((nD n : Nat) : Int) := by unfold gD nD; rw [gI_nat]; omega
theorem nM_bd {n : Nat} (h0 : 128 ≤ n) (h1 : n ≤ 16384) : 1 ≤ nM n ∧ nM n ≤ 4 ∧ n ≤ 4096 * nM n ∧ 98 + nM n < nD n ∧ nD n < n ∧ 4096 * nM n ≤ n + 4095 := by unfold nD nM; omega
set_option maxRecDepth 100000 in
set_option maxHeartbeats 4000000 in
theorem txread_down (w : World) (T : Tx) (D : Dk) (h : TxAt w T) (hD : Disk w D) (hd : D.d = T.d) (hn : D.nb = T.nb) (m : Nat) (q : Bk) (hci : T.c m = some q) (hm : m < T.nb) :
    Calls Tryz.prog 65 #[.pointer (some ⟨T.t, 0, none⟩), .int .i64 (m : Int)] w fun e w' => ∃ g cap, e = .returned (.tuple #[.slice (some ⟨g, 0, none⟩) 512 cap, .int .i64 0]) ∧ w.heap.size ≤ g ∧ OwnB w' g cap q.x ∧ Below w.heap.size w w' := by
  have HT : Hid (Calls Tryz.prog 77 #[.pointer (some ⟨T.t, 0, none⟩), .int .i64 (m : Int), .int .i64 0] w fun e w' => e = .returned (.int .i64 (touchT T.nb (m : Int) 0)) ∧ w = w') := mayTouch_any w T D h hD hd hn (m : Int) 0
  have e0 : touchT T.nb (m : Int) 0 = 0 := touchT_ok (first := 0) (Nat.zero_le _) hm
  rw [e0] at HT
  have hc1 : w.cell? ⟨T.t, 1, none⟩ = some (.map (some T.mb)) := h.cell 1
  have hlk := h.map.look h.ok m (by have := h.n16; omega)
  rw [hci] at hlk
  have hlk' : (Instr.lookup 113 (.map (some T.mb)) (.int .i64 (m : Int)) true).run Tryz.prog w = .ok (.tuple #[.slice (some ⟨q.g, 0, none⟩) 512 q.c, .bool true]) w := hlk
  have hbl := h.blk m q hci
  have HC : Hid (Calls Tryz.prog 19 #[.slice (some ⟨q.g, 0, none⟩) 512 q.c] w fun e w' => ∃ g cap, e = .returned (.slice (some ⟨g, 0, none⟩) 512 cap) ∧ w.heap.size ≤ g ∧ OwnB w' g cap q.x ∧ Below w.heap.size w w') := bclone_any w ⟨q.g, 0, none⟩ 512 q.c q.x hbl.bytes hbl.len (by omega)
  clear h hD hlk hci hd hn hm e0 hbl
  go_enter Tryz.func65, Tryz.ntmps65
  go_wp2_with (first
    | (go_at_call 77; refine HT.out.mono ?_; rintro e w' ⟨rfl, rfl⟩)
    | (go_at_call 19; refine HC.out.mono ?_; rintro e w' ⟨g, cap, rfl, h1, h2, h3⟩; have H3 : Hid (w.heap.size ≤ g ∧ OwnB w' g cap q.x ∧ Below w.heap.size w w') := ⟨h1, h2, h3⟩; clear h1 h2 h3))
  go_ret2
  exact ⟨_, _, rfl, H3.out.1, H3.out.2.1, H3.out.2.2⟩
/-- may the block be read -/
def rdb (D : Dk) (T : Tx) (i : Nat) : Prop := D.down = false ∨ (T.c i).isSome = true
/-- a session on a disk with a bitmap, which may be without power -/
structure Spc (w0 w : World) (D : Dk) (T : Tx) (n : Nat) : Prop where
  ses : Ses w0 w D T
  nb : T.nb = n
  lo : 128 ≤ n
  hi : n ≤ 16384
  ok : ∀ i, i < n → (tv D T i).length = 512 ∧ ∀ j, 0 ≤ nth (tv D T i) j ∧ nth (tv D T i) j < 256
theorem Spc.on {w0 w w' : World} {D : Dk} {T : Tx} {n : Nat} (h : Spc w0 w D T n) (hb : Below w.heap.size w w') : Spc w0 w' D T n := ⟨h.ses.on hb, h.nb, h.lo, h.hi, h.ok⟩
theorem Spc.full {w0 w : World} {D : Dk} {T : Tx} {n : Nat} (h : Spc w0 w D T n) (m : Nat) (hm : m < n) (hc : T.c m = none) : (bck D.full m).length = 512 := by
  have := (h.ok m hm).1
  unfold tv at this
  rw [hc] at this
  exact this
theorem Spc.read {w0 w : World} {D : Dk} {T : Tx} {n : Nat} (h : Spc w0 w D T n) (i : Nat) (hi : i < n) (hr : rdb D T i) :
    Calls Tryz.prog 65 #[.pointer (some ⟨T.t, 0, none⟩), .int .i64 (i : Int)] w fun e w' => ∃ g cap, e = .returned (.tuple #[.slice (some ⟨g, 0, none⟩) 512 cap, .int .i64 0]) ∧ w.heap.size ≤ g ∧ OwnB w' g cap (tv D T i) ∧ Below w.heap.size w w' := by
  by_cases hdn : D.down = false
  · exact tread_any w T D h.ses.tx h.ses.dk.disk h.ses.d h.ses.nb hdn i (by rw [h.nb]; exact hi)
  · have hs := hr.resolve_left hdn
    obtain ⟨q, hq⟩ := Option.isSome_iff_exists.1 hs
    have hl : q.x.length = 512 := by have := (h.ok i hi).1; unfold tv at this; rw [hq] at this; exact this
    refine (txread_down w T D h.ses.tx h.ses.dk.disk h.ses.d h.ses.nb i q hq (by rw [h.nb]; exact hi)).mono ?_
    rintro e w' ⟨g, cap, rfl, h1, h2, h3⟩
    refine ⟨g, cap, rfl, h1, ?_, h3⟩
    unfold tv; rw [hq]; exact h2
theorem Spc.read_no {w0 w : World} {D : Dk} {T : Tx} {n : Nat} (h : Spc w0 w D T n) (i : Nat) (hi : i < n) (hr : ¬ rdb D T i) :
    Calls Tryz.prog 65 #[.pointer (some ⟨T.t, 0, none⟩), .int .i64 (i : Int)] w fun e w' => ∃ a c, e = .returned (.tuple #[.slice a 0 c, .int .i64 30]) ∧ Below w.heap.size w w' := by
  have hdn : D.down = true := by cases e : D.down with | true => rfl | false => exact absurd (.inl e) hr
  have hc : T.c i = none := by cases e : T.c i with | none => rfl | some q => exact absurd (.inr (by rw [e]; rfl)) hr
  have hn : T.nb = n := h.nb
  refine (txread_any w T D h.ses.tx h.ses.dk.disk h.ses.d h.ses.nb (fun k _ hd => by rw [hdn] at hd; cases hd) i).mono ?_
  rintro e w' ⟨v, rfl, h1, h2⟩
  have e1 : tvE T.c T.nb D.down (i : Int) = 30 := by unfold tvE; rw [if_pos ⟨by omega, by omega⟩, Int.toNat_natCast, hc, hdn]; rfl
  have e2 : tvX T.c T.nb D.down D.full (i : Int) = [] := by unfold tvX; rw [if_pos ⟨by omega, by omega⟩, Int.toNat_natCast, hc, hdn]; rfl
  rw [e2] at h1
  obtain ⟨a, c, rfl, _⟩ := h1.2.2.2
  rw [e1]
  exact ⟨a, c, rfl, h2⟩
/-- what a put of a bitmap's block leaves -/
structure WrE (w0 w w' : World) (D : Dk) (T T' : Tx) (n a : Nat) (x : List Int) : Prop where
  mv : TMv w T w' T'
  spc : Spc w0 w' D T' n
  t : T'.t = T.t
  c : ∃ q : Bk, T'.c = ups T.c a (some q) ∧ q.x = x
  u : ∃ u : Un, T'.us = T.us ++ [u] ∧ u.i = a ∧ u.old = T.c a
structure PutE (w0 w w' : World) (D : Dk) (T T' : Tx) (n a : Nat) (x : List Int) (g : Nat) : Prop where
  mv : ∃ w1, Fr (fun k => k = g) w w1 ∧ TMv w1 T w' T'
  spc : Spc w0 w' D T' n
  t : T'.t = T.t
  c : ∃ q : Bk, T'.c = ups T.c a (some q) ∧ q.x = x
  u : ∃ u : Un, T'.us = T.us ++ [u] ∧ u.i = a ∧ u.old = T.c a
theorem tv_ups {D : Dk} {T T' : Tx} {a : Nat} {q : Bk} (hc : T'.c = ups T.c a (some q)) (j : Nat) : tv D T' j = if j = a then q.x else tv D T j := by
  unfold tv
  rw [hc]
  by_cases e : j = a
  · subst e; rw [ups_same, if_pos rfl]
  · rw [ups_other _ _ e, if_neg e]
theorem Spc.write {w0 w : World} {D : Dk} {T : Tx} {n : Nat} (h : Spc w0 w D T n) (a : Nat) (h0 : 98 ≤ a) (h1 : a < n) (p : Addr) (c : Nat) (x : List Int) (hb : Bytes w (some p) x) (hx : x.length = 512) (hr : (T.c a).isSome = true ∨ (lst T.c n).length < 96) (hu : T.us.length + 1 ≤ 4000000) :
    Calls Tryz.prog 34 #[.pointer (some ⟨T.t, 0, none⟩), .int .i64 (a : Int), .slice (some p) 512 c] w fun e w' => e = .returned (.int .i64 0) ∧ ∃ T', WrE w0 w w' D T T' n a x := by
  refine (ses_write w0 w D T h.ses a h0 (by rw [h.nb]; exact h1) p c x hb hx (by rw [h.nb]; exact hr) hu).mono ?_
  rintro e w' ⟨rfl, T', q, u, hs, hm, hq, hn, hc, hus, hi, ho⟩
  refine ⟨rfl, T', hm, ⟨hs, hm.nb.trans h.nb, h.lo, h.hi, fun i hi => ?_⟩, hm.t, ⟨q, hc, hq⟩, ⟨u, hus, hi, ho⟩⟩
  rw [tv_ups hc]
  split
  · rw [hq]; exact ⟨hx, hb.wf⟩
  · exact h.ok i hi
theorem Ses.fr {S : Nat → Prop} {w0 w w' : World} {D : Dk} {T : Tx} (h : Ses w0 w D T) (x : Fr S w w') (h0 : ∀ k, S k → w0.heap.size ≤ k) (h1 : ∀ k, T.all k → ¬ S k) (h2 : ∀ k, D.all k → ¬ S k) : Ses w0 w' D T :=
  ⟨⟨h.dk.disk.fr x h2, h.dk.far, h.dk.bel.trans (x.below _ h0 h.dk.bel.size)⟩, h.tx.fr x h1, h.d, h.nb, h.ap1, h.ap2, h.far⟩
/-- a box that is none of the session's may be filled -/
theorem Spc.box {w0 w wb : World} {D : Dk} {T T' : Tx} {n L k : Nat} (hS : Spc w0 w D T n) (h : Spc w0 wb D T' n) (al : ∀ k, T'.all k → T.all k ∨ L ≤ k) (h1 : w.heap.size ≤ k) (h2 : k < L) (v : Value) : Spc w0 (wb.setCell ⟨k, 0, none⟩ v) D T' n := by
  refine ⟨h.ses.fr (Fr.set (g := k)) (fun j hj => ?_) (fun j hj e => ?_) (fun j hj e => ?_), h.nb, h.lo, h.hi, h.ok⟩
  · have hj : j = k := hj
    have := hS.ses.bel.size
    omega
  · have e : j = k := e
    rcases al j hj with h9 | h9
    · have := hS.ses.tx.lt h9; omega
    · omega
  · have e : j = k := e
    have := hS.ses.dk.disk.allLt hj
    omega
theorem makeN (m : Nat) (hm : m ≤ 100000000) : ∃ o : Obj, (∀ w : World, (Instr.makeSlice 22 (.int .i64 (m : Int)) (.int .i64 (m : Int))).run Tryz.prog w = .ok (.slice (some ⟨w.heap.size, 0, none⟩) m m) (w.alloc o)) ∧ ∀ w : World, OwnB (w.alloc o) w.heap.size m (zn m) := by
  obtain ⟨i0, hi, hz0, hz1, hz2⟩ := info_parts info5
  refine ⟨.cells (madeCells #[.int .u8 0] m) 5, fun w => run_make_row (P := Tryz.prog) 22 5 i0 _ Tryz.underlying22 hi hz0 hz1 rfl .i64 .i64 m (by rw [hz2]; omega) (by omega) w, fun w => ?_⟩
  refine ⟨⟨_, heap_alloc_new _ _, ?_, ?_⟩, ?_, ?_, ?_, wf_rep m 0 (by omega)⟩
  · rw [← Array.length_toList, made_list, List.length_replicate]
  · rw [made_list, zn_length, zn, List.map_replicate, List.take_replicate, Nat.min_self]
  · rw [zn_length]; omega
  · rw [zn_length]; omega
  · unfold maxLen; omega
def GeoAt (w : World) (p n : Nat) : Prop := w.heap[p]? = some (.cells #[.int .i64 (n : Int), .int .i64 98, .int .i64 (gI n), .int .i64 (gD n), .int .i64 (gC n)] 36 (0, 0))
theorem GeoAt.cells {w : World} {p n : Nat} (h : GeoAt w p n) : w.cell? ⟨p, 0, none⟩ = some (.int .i64 (n : Int)) ∧ w.cell? ⟨p, 1, none⟩ = some (.int .i64 98) ∧ w.cell? ⟨p, 2, none⟩ = some (.int .i64 (gI n)) ∧ w.cell? ⟨p, 3, none⟩ = some (.int .i64 (gD n)) ∧ w.cell? ⟨p, 4, none⟩ = some (.int .i64 (gC n)) := by
  have hc := fun j => cell_of_row _ _ j _ _ _ h
  exact ⟨hc 0, hc 1, hc 2, hc 3, hc 4⟩
theorem GeoAt.on {w w' : World} {p n : Nat} (h : GeoAt w p n) (hb : Below w.heap.size w w') : GeoAt w' p n := (hb.block p (heap_lt h)).trans h
end Go.Proofs.YtflienghgobmoaaGreatDoor

namespace Go.Proofs.YtflienghgobmoaaGreatDoor
open Go.RowKit Go.Maps Rec

def bmp (D : Dk) (T : Tx) (k : Nat) : List Int := tv D T (98 + k)
theorem Spc.bm {w0 w : World} {D : Dk} {T : Tx} {n : Nat} (h : Spc w0 w D T n) : Bm (bmp D T) (nM n) := by
  have := nM_bd h.lo h.hi
  exact ⟨fun k hk => (h.ok (98 + k) (by omega)).1, fun k hk => (h.ok (98 + k) (by omega)).2⟩
theorem BoxI.comp {w1 wr w2 w3 : World} {S : Nat} {z z2 : Int} (h : BoxI w1 S z wr) (hb : Below wr.heap.size wr w2) (h2 : BoxI w2 S z2 w3) : BoxI w1 S z2 w3 := by
  have hs := h.fr.size
  have hs2 := hb.size
  exact ⟨h2.cell, h2.frozen, (h.fr.trans (below_fr hb (fun _ => False)) (fun _ e => e.elim)).trans h2.fr (fun k hk => by rcases hk with e | e; exact .inl (.inl e); exact .inl (.inr (by omega)))⟩
theorem Cau.mv {w w1 wr w2 : World} {G Db S F lo hi : Nat} {z z2 : Int} (h : Cau w G Db S F lo hi z) (hb1 : Below w.heap.size w w1) (hI : BoxI w1 S z2 wr) (hb : Below wr.heap.size wr w2) : Cau w2 G Db S F lo hi z2 := by
  have hG := block_lt_of_cell h.g0
  have hD := block_lt_of_cell h.d
  have hs := hb1.size
  dsimp only at hG hD
  have hf := hI.fr.trans (below_fr hb (fun _ => False)) (fun _ e => e.elim)
  have hl := block_lt_of_cell hI.cell
  refine ⟨hf.cell ((hb1.cell hG).trans h.g0) (fun e => ?_), hf.cell ((hb1.cell (p := ⟨G, 3, none⟩) hG).trans h.g3) (fun e => ?_), hf.cell ((hb1.cell hD).trans h.d) (fun e => ?_), (hb.cell hl).trans hI.cell, (frozen_blk (hb.block S hl)).trans hI.frozen, h.ap1, h.ap2⟩
  · have := h.ap1; dsimp only at e; omega
  · have := h.ap1; dsimp only at e; omega
  · have := h.ap2; dsimp only at e; omega
theorem fd_bd {lo hi : Nat} {B : Nat → List Int} {i : Nat} (h : fd lo hi B i = true) : lo ≤ i ∧ i < hi := by
  simp only [fd, Bool.and_eq_true, decide_eq_true_eq] at h; exact h.1
/-- how many of the bitmap's blocks can be read from the first on -/
structure Kpre (D : Dk) (T : Tx) (n K : Nat) : Prop where
  le : K ≤ nM n
  rd : ∀ k, k < K → rdb D T (98 + k)
  no : K < nM n → ¬ rdb D T (98 + K)
def eK (n K : Nat) : Int := if K = nM n then 0 else 30
theorem kpre_ex (D : Dk) (T : Tx) (n : Nat) : ∃ K, Kpre D T n K := by
  have h : ∀ m, m ≤ nM n → ∃ K, K ≤ m ∧ (∀ k, k < K → rdb D T (98 + k)) ∧ (K < m → ¬ rdb D T (98 + K)) := by
    intro m
    induction m with
    | zero => exact fun _ => ⟨0, Nat.le_refl _, fun k hk => absurd hk (Nat.not_lt_zero _), fun hk => absurd hk (Nat.not_lt_zero _)⟩
    | succ m ih =>
      intro hm
      obtain ⟨K, h1, h2, h3⟩ := ih (by omega)
      by_cases e : K = m
      · subst e
        by_cases hr : rdb D T (98 + K)
        · refine ⟨K + 1, Nat.le_refl _, fun k hk => ?_, fun hk => absurd hk (by omega)⟩
          by_cases e2 : k = K
          · subst e2; exact hr
          · exact h2 k (by omega)
        · exact ⟨K, by omega, h2, fun _ => hr⟩
      · exact ⟨K, by omega, h2, fun _ => h3 (by omega)⟩
  obtain ⟨K, h1, h2, h3⟩ := h (nM n) (Nat.le_refl _)
  exact ⟨K, h1, h2, h3⟩
end Go.Proofs.YtflienghgobmoaaGreatDoor
