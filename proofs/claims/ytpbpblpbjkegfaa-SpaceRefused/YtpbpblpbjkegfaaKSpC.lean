import Derived.Test.YtpbpblpbjkegfaaSpB
import Derived.Test.YtpbpblpbjkegfaaKEight
import Derived.OwnWalk
import Derived.Deep.OwnRows
import Derived.WalkSpells
import Derived.Lib.BufferMore
import Derived.Laws.StructEq
namespace Go.Proofs.Ytpbpblpbjkegfaa
open Go.RowKit Go.Shelf Rec
attribute [local go_sem] Oper.semAt_some

set_option maxRecDepth 100000 in
set_option maxHeartbeats 8000000 in
theorem gatF_any (w : World) (G Db S lo hi : Nat) (z : Int) (hC : Cau w G Db S 33 lo hi z) (first : Nat) (p : Addr) (c : Nat) (s : List Int) (hb : Bytes w (some p) s) (hs : s.length = 512) (h0 : first ≤ 20000) (h1 : lo ≤ 20000) (h2 : hi ≤ 20000) (hz : 0 ≤ z ∧ z ≤ 50000) :
    Calls Try.prog 50 #[.int .i64 (first : Int), .slice (some p) 512 c, .pointer (some ⟨G, 0, none⟩), .pointer (some ⟨Db, 0, none⟩)] w fun e w' => e = .returned (.bool true) ∧ BoxI w S (z + (ct (fb lo hi first s) 4096 : Nat)) w' := by
  refine (callsIn_wide (n := 6)).1 ?_
  have HC : Hid (Cau w G Db S 33 lo hi z) := hC
  have hf4 : Fence.wide.fn 51 := trivial
  have hf5 : Fence.wide.fn 33 := trivial
  have hGl := block_lt_of_cell hC.g0
  have hDl := block_lt_of_cell hC.d
  have hSl := block_lt_of_cell hC.s
  have hap1 := hC.ap1
  have hap2 := hC.ap2
  dsimp only at hGl hDl hSl
  clear hC
  have cR : ∀ w1, Below w.heap.size w w1 → CallsIn Fence.wide 5 Try.prog 51 #[.slice (some p) 512 c] w1 fun e w' => ∃ B g cap, e = .returned (.func (.func 59) #[] #[.pointer (some ⟨B, 0, none⟩)]) ∧ SeqAt w' B g cap s ∧ w1.heap.size ≤ B ∧ w1.heap.size ≤ g ∧ Below w1.heap.size w1 w' := fun w1 hb1 => callsIn_wide.2 (runs_any w1 512 c (some p) s (hb.on hb1) hs (fun e => by cases e) (by omega))
  refine callsIn_of_wp_marks Try.func50 rfl trivial ?_ rfl
  simp only [Try.ntmps50, List.size_toArray, List.length_cons, List.length_nil, Nat.reduceAdd, Nat.reduceSub, Array.replicate_succ, Array.replicate_zero, List.push_toArray, List.append_toArray, List.nil_append, List.cons_append]
  obtain ⟨wb, hwb⟩ : ∃ wb, (w.alloc (.cells #[.int .i64 (first : Int)] 3)).alloc (.cells #[.bool false] 4) = wb := ⟨_, rfl⟩
  have HB : Hid (Below w.heap.size w wb ∧ wb.heap.size = w.heap.size + 2 ∧ wb.heap[w.heap.size]? = some (.cells #[.int .i64 (first : Int)] 3 (0, 0)) ∧ wb.heap[w.heap.size + 1]? = some (.cells #[.bool false] 4 (0, 0))) := by
    rw [← hwb]
    refine ⟨((Below.refl _ _).alloc (Nat.le_refl _) _).alloc (by simp) _, by simp, ?_, ?_⟩
    · exact (Below.heap_alloc _ _ _ (by simp)).trans (heap_alloc_new _ _)
    · have := heap_alloc_new (w.alloc (.cells #[.int .i64 (first : Int)] 3)) (.cells #[.bool false] 4)
      rw [World.size_alloc] at this
      exact this
  gi_wp2_with (gi_at_call 51; refine (cR _ HB.out.1).mono ?_; rintro e wa ⟨B, g, cap, rfl, hB, hB1, hB2, hb2⟩; have H2 : Hid (SeqAt wa B g cap s ∧ Below wb.heap.size wb wa) := ⟨hB, hb2⟩; clear hB hb2)
  obtain ⟨sw, hsw⟩ : ∃ sw, w.heap.size = sw := ⟨_, rfl⟩
  have hs2 := HB.out.2.1
  have hs3 := H2.out.2.size
  rw [hsw] at HB hGl hDl hSl hs2
  simp only [hsw]
  have HA : Hid (Below sw w wa ∧ wa.heap[sw]? = some (.cells #[.int .i64 (first : Int)] 3 (0, 0)) ∧ wa.heap[sw + 1]? = some (.cells #[.bool false] 4 (0, 0))) := ⟨HB.out.1.trans (H2.out.2.mono (by omega)), (H2.out.2.block sw (by omega)).trans HB.out.2.2.1, (H2.out.2.block (sw + 1) (by omega)).trans HB.out.2.2.2⟩
  have hBa := H2.out.1.ltB
  have hga := H2.out.1.ltg
  clear hwb
  refine wpIn_rangeFunc_ownG rfl (by omega) (gf := 59) (lb := #[.pointer (some ⟨B, 0, none⟩)]) rfl trivial (enters_of Try.func59 (by kernel_rfl) rfl)
    (runs_stops B g cap s wa H2.out.1 (by omega)) (fun h k => h.trans k) (KpB.put hBa hga) (Below.refl _ _) (fun _ => rfl)
    (fun pre W => Bx2 wa S (sw + 1) (z + (clips lo hi first (pre.map (·.1)) : Nat)) W) (fun _ _ _ => False) (Bx2.own wa S (sw + 1) (fun pre : List (RwB s) => z + (clips lo hi first (pre.map (·.1)) : Nat)) (by omega) (by omega)) (fun _ _ _ _ _ hs _ _ => hs.elim) ⟨(HA.out.1.cell (p := ⟨S, 0, none⟩) hSl).trans (by rw [HC.out.s]; simp [clips]), (frozen_blk (HA.out.1.block S hSl)).trans HC.out.sf, by rw [cell_of_row _ _ _ _ _ _ HA.out.2.2]; rfl, frozen_of_row _ _ _ _ _ HA.out.2.2, Fr.refl _ _⟩ ?a1 ?assign ?body ?done ?stop
  case assign =>
    intro l x W K hK
    gi_wp2
    exact hK
  case body =>
    rintro lp pre ⟨⟨at_, k⟩, hx⟩ W hI hlt
    have htop := (runs_row hx).top
    dsimp only at htop
    rw [hs] at htop
    have hcS := hI.cell
    have hfS := hI.frozen
    have hcr := hI.rc
    have hfr := hI.rf
    have hnS : ∀ q, q < wa.heap.size → q ≠ S → q ≠ sw + 1 → ¬ (q = S ∨ q = sw + 1 ∨ wa.heap.size ≤ q) := fun q h1 h2 h3 h => by omega
    have hcf : W.cell? ⟨sw, 0, none⟩ = some (.int .i64 (first : Int)) := hI.fr.cell (by rw [cell_of_row _ _ _ _ _ _ HA.out.2.1]; rfl) (hnS sw (by omega) (by omega) (by omega))
    have hc0 : W.cell? ⟨G, 0, none⟩ = some (.int .i64 (hi : Int)) := hI.fr.cell ((HA.out.1.cell (p := ⟨G, 0, none⟩) hGl).trans HC.out.g0) (hnS G (by omega) hap1 (by omega))
    have hc3 : W.cell? ⟨G, 3, none⟩ = some (.int .i64 (lo : Int)) := hI.fr.cell ((HA.out.1.cell (p := ⟨G, 3, none⟩) hGl).trans HC.out.g3) (hnS G (by omega) hap1 (by omega))
    have hcd : W.cell? ⟨Db, 0, none⟩ = some (.func (.func 33) #[] #[.pointer (some ⟨S, 0, none⟩)]) := hI.fr.cell ((HA.out.1.cell (p := ⟨Db, 0, none⟩) hDl).trans HC.out.d) (hnS Db (by omega) hap2 (by omega))
    obtain ⟨a0, ha0⟩ : ∃ a0 : Nat, first + at_ = a0 := ⟨_, rfl⟩
    obtain ⟨a1, ha1⟩ : ∃ a1 : Nat, a0 + k = a1 := ⟨_, rfl⟩
    obtain ⟨f, hf⟩ : ∃ f : Nat, max a0 lo = f := ⟨_, rfl⟩
    obtain ⟨t, ht⟩ : ∃ t : Nat, min a1 hi = t := ⟨_, rfl⟩
    have e0 : (first : Int) + (at_ : Int) = (a0 : Int) := by omega
    have e1 : (a0 : Int) + (k : Int) = (a1 : Int) := by omega
    have HI : Hid (Bx2 wa S (sw + 1) (z + (clips lo hi first (pre.map (·.1)) : Nat)) W) := hI
    have hcl : clips lo hi first (pre.map (·.1)) ≤ 100000000 := by
      have h9 := clips_le lo hi first (pre.map (·.1))
      have h8 := runs_len s
      rw [List.length_map] at h9
      have h7 : pre.length * hi ≤ 4096 * 20000 := Nat.mul_le_mul (by omega) h2
      omega
    obtain ⟨y, hy⟩ : ∃ y : Int, z + (clips lo hi first (pre.map (·.1)) : Nat) = y := ⟨_, rfl⟩
    have hyb : 0 ≤ y ∧ y ≤ 200000000 := by omega
    rw [hy] at hcS HI
    have HY : Hid (z + (clips lo hi first (pre.map (·.1)) : Nat) = y) := hy
    have HX : Hid (clip lo hi first (at_, k) = t - f) := by
      show clip lo hi first (at_, k) = t - f
      rw [clip, ← hf, ← ht, ← ha1, ← ha0]
    clear hI hcl hy
    by_cases hft : f < t
    · have HCU : Hid (CallsIn Fence.wide (6 - 1 - 1 - 1) Try.prog 33 #[.int .i64 (f : Int), .int .i64 (t : Int), .pointer (some ⟨S, 0, none⟩)] W fun e w' => e = .returned (.bool true) ∧ w' = W.setCell ⟨S, 0, none⟩ (.int .i64 (y + (t - f : Nat)))) := callsIn_wide.2 (free1_any W S y f t (y + (t - f : Nat)) hcS hfS (by omega) (by omega) (by omega))
      have hft' : (f : Int) < (t : Int) := by omega
      have hf9 : max a0 lo = f := hf
      have ht9 : min a1 hi = t := ht
      clear hf ht
      rcases (show (a0 < lo ∧ f = lo) ∨ (a0 = lo ∧ f = lo) ∨ (lo < a0 ∧ f = a0) from by omega) with ⟨c1, rfl⟩ | ⟨rfl, rfl⟩ | ⟨c1, rfl⟩ <;> rcases (show (a1 < hi ∧ t = a1) ∨ (a1 = hi ∧ t = a1) ∨ (hi < a1 ∧ t = hi) from by omega) with ⟨c2, rfl⟩ | ⟨rfl, rfl⟩ | ⟨c2, rfl⟩
      all_goals
        gi_wp2_with (gi_at_call 33; refine (CallsIn.inRound lp HCU.out).mono ?_; rintro e W' ⟨rfl, rfl⟩; clear HCU)
        refine ⟨(Rm.set (Rm.refl _ B g W) S _ (by omega) (by omega)).keeps, (Rm.set (Rm.refl 0 B g W) S _ (by omega) (by omega)).kp, ?_⟩
        show Bx2 wa S (sw + 1) (z + ((clips _ _ first ((pre ++ [(⟨(at_, k), hx⟩ : RwB s)]).map (·.1)) : Nat) : Int)) _
        rw [List.map_append, List.map_cons, List.map_nil, clips_snoc, HX.out, Int.natCast_add, ← Int.add_assoc, HY.out]
        exact HI.out.set (by omega) _
    · have hft' : ¬ (f : Int) < (t : Int) := by omega
      have hf9 : max a0 lo = f := hf
      have ht9 : min a1 hi = t := ht
      clear hf ht
      rcases (show (a0 < lo ∧ f = lo) ∨ (a0 = lo ∧ f = lo) ∨ (lo < a0 ∧ f = a0) from by omega) with ⟨c1, rfl⟩ | ⟨rfl, rfl⟩ | ⟨c1, rfl⟩ <;> rcases (show (a1 < hi ∧ t = a1) ∨ (a1 = hi ∧ t = a1) ∨ (hi < a1 ∧ t = hi) from by omega) with ⟨c2, rfl⟩ | ⟨rfl, rfl⟩ | ⟨c2, rfl⟩
      all_goals
        gi_wp2
        refine ⟨fun _ h => (by cases h), ?_⟩
        gi_wp2
        refine ⟨(Rm.refl _ B g W).keeps, (Rm.refl 0 B g W).kp, ?_⟩
        show Bx2 wa S (sw + 1) (z + ((clips _ _ first ((pre ++ [(⟨(at_, k), hx⟩ : RwB s)]).map (·.1)) : Nat) : Int)) _
        rw [List.map_append, List.map_cons, List.map_nil, clips_snoc, HX.out, show t - f = 0 from by omega]
        show Bx2 wa S (sw + 1) (z + ((clips _ _ first (pre.map (·.1)) : Nat) : Int)) W
        rw [HY.out]
        exact HI.out
  case done =>
    rintro D ys W hD hS hI hK
    rw [show (clips lo hi first (ys.map (·.1)) : Nat) = ct (fb lo hi first s) 4096 from by rw [hS, runs_clip, hs]] at hI
    have hcr := hI.rc
    have hfr := hI.rf
    have hbW : Fr (fun k => k = S ∨ w.heap.size ≤ k) w W := ((below_fr (S := fun k => k = S ∨ w.heap.size ≤ k) (by rw [hsw]; exact HA.out.1)).trans hI.fr (fun k hk => by rw [hsw]; omega))
    have HK : Hid (W.heap[D]? = some (.deferred (some [])) ∧ Bx2 wa S (sw + 1) (z + (ct (fb lo hi first s) 4096 : Nat)) W) := ⟨hK, hI⟩
    clear hK hI
    gi_wp2
    have hK' : (W.setCell ⟨sw + 1, 0, none⟩ (.bool true)).heap[D]? = some (.deferred (some [])) := (set_other (by omega)).trans HK.out.1
    have hc5 := cell_kept (World.cell?_setCell_same' W ⟨sw + 1, 0, none⟩ (.bool true) (by rw [hcr]; rfl)) (grownBy_putObj' _ D (.deferred none)) (fun r e => by cases e; exact ⟨_, hK', rfl⟩)
    refine ⟨by simp, .inl ⟨_, _, rfl, run_takeDeferred hK', ?_⟩⟩
    refine ⟨.bool true, ?_, rfl, ?_⟩
    · simp [results, Try.f50, go_sem, hc5]
    · exact ⟨(frPut _ _ _).cell (Fr.set.cell HK.out.2.cell (by show ¬ S = sw + 1; omega)) (by show ¬ S = D; omega), (frozen_blk ((frPut _ _ _).block S (by exact block_lt_of_cell (Fr.set.cell HK.out.2.cell (by show ¬ S = sw + 1; omega))) (by show ¬ S = D; omega))).trans ((frozen_blk (set_other (by omega))).trans HK.out.2.frozen), (hbW.trans Fr.set (fun k hk => .inl (.inr (by have hk : k = sw + 1 := hk; omega)))).trans (frPut _ _ _) (fun k hk => .inl (.inr (by have hk : k = D := hk; omega)))⟩
  case stop => exact fun _ _ _ _ _ _ h _ => h.elim

set_option maxRecDepth 100000 in
set_option maxHeartbeats 8000000 in
theorem gatL_any (w : World) (G Db S lo hi : Nat) (z : Int) (hC : Cau w G Db S 40 lo hi z) (first : Nat) (p : Addr) (c : Nat) (s : List Int) (hb : Bytes w (some p) s) (hs : s.length = 512) (h0 : first ≤ 20000) (h1 : lo ≤ 20000) (h2 : hi ≤ 20000) (_ : 0 ≤ z ∧ z ≤ 50000) :
    Calls Try.prog 50 #[.int .i64 (first : Int), .slice (some p) 512 c, .pointer (some ⟨G, 0, none⟩), .pointer (some ⟨Db, 0, none⟩)] w fun e w' => (e = .returned (.bool true) ∧ ct (fb lo hi first s) 4096 = 0 ∧ BoxI w S z w') ∨ (e = .returned (.bool false) ∧ ∃ j, j < 4096 ∧ IsLo (fb lo hi first s) j ∧ BoxI w S ((first + j : Nat) : Int) w') := by
  refine (callsIn_wide (n := 6)).1 ?_
  have HC : Hid (Cau w G Db S 40 lo hi z) := hC
  have hf4 : Fence.wide.fn 51 := trivial
  have hf5 : Fence.wide.fn 40 := trivial
  have hGl := block_lt_of_cell hC.g0
  have hDl := block_lt_of_cell hC.d
  have hSl := block_lt_of_cell hC.s
  have hap1 := hC.ap1
  have hap2 := hC.ap2
  dsimp only at hGl hDl hSl
  clear hC
  have cR : ∀ w1, Below w.heap.size w w1 → CallsIn Fence.wide 5 Try.prog 51 #[.slice (some p) 512 c] w1 fun e w' => ∃ B g cap, e = .returned (.func (.func 59) #[] #[.pointer (some ⟨B, 0, none⟩)]) ∧ SeqAt w' B g cap s ∧ w1.heap.size ≤ B ∧ w1.heap.size ≤ g ∧ Below w1.heap.size w1 w' := fun w1 hb1 => callsIn_wide.2 (runs_any w1 512 c (some p) s (hb.on hb1) hs (fun e => by cases e) (by omega))
  refine callsIn_of_wp_marks Try.func50 rfl trivial ?_ rfl
  simp only [Try.ntmps50, List.size_toArray, List.length_cons, List.length_nil, Nat.reduceAdd, Nat.reduceSub, Array.replicate_succ, Array.replicate_zero, List.push_toArray, List.append_toArray, List.nil_append, List.cons_append]
  obtain ⟨wb, hwb⟩ : ∃ wb, (w.alloc (.cells #[.int .i64 (first : Int)] 3)).alloc (.cells #[.bool false] 4) = wb := ⟨_, rfl⟩
  have HB : Hid (Below w.heap.size w wb ∧ wb.heap.size = w.heap.size + 2 ∧ wb.heap[w.heap.size]? = some (.cells #[.int .i64 (first : Int)] 3 (0, 0)) ∧ wb.heap[w.heap.size + 1]? = some (.cells #[.bool false] 4 (0, 0))) := by
    rw [← hwb]
    refine ⟨((Below.refl _ _).alloc (Nat.le_refl _) _).alloc (by simp) _, by simp, ?_, ?_⟩
    · exact (Below.heap_alloc _ _ _ (by simp)).trans (heap_alloc_new _ _)
    · have := heap_alloc_new (w.alloc (.cells #[.int .i64 (first : Int)] 3)) (.cells #[.bool false] 4)
      rw [World.size_alloc] at this
      exact this
  gi_wp2_with (gi_at_call 51; refine (cR _ HB.out.1).mono ?_; rintro e wa ⟨B, g, cap, rfl, hB, hB1, hB2, hb2⟩; have H2 : Hid (SeqAt wa B g cap s ∧ Below wb.heap.size wb wa) := ⟨hB, hb2⟩; clear hB hb2)
  obtain ⟨sw, hsw⟩ : ∃ sw, w.heap.size = sw := ⟨_, rfl⟩
  have hs2 := HB.out.2.1
  have hs3 := H2.out.2.size
  rw [hsw] at HB hGl hDl hSl hs2
  simp only [hsw]
  have HA : Hid (Below sw w wa ∧ wa.heap[sw]? = some (.cells #[.int .i64 (first : Int)] 3 (0, 0)) ∧ wa.heap[sw + 1]? = some (.cells #[.bool false] 4 (0, 0))) := ⟨HB.out.1.trans (H2.out.2.mono (by omega)), (H2.out.2.block sw (by omega)).trans HB.out.2.2.1, (H2.out.2.block (sw + 1) (by omega)).trans HB.out.2.2.2⟩
  have hBa := H2.out.1.ltB
  have hga := H2.out.1.ltg
  clear hwb
  refine wpIn_rangeFunc_ownG rfl (by omega) (gf := 59) (lb := #[.pointer (some ⟨B, 0, none⟩)]) rfl trivial (enters_of Try.func59 (by kernel_rfl) rfl)
    (runs_stops B g cap s wa H2.out.1 (by omega)) (fun h k => h.trans k) (KpB.put hBa hga) (Below.refl _ _) (fun _ => rfl)
    (LoI wa S (sw + 1) lo hi first z s) (LoX wa S (sw + 1) lo hi first s) (LoI.own wa S (sw + 1) lo hi first z s (by omega) (by omega)) (fun c => LoX.own wa S (sw + 1) lo hi first s c (by omega) (by omega)) ⟨⟨(HA.out.1.cell (p := ⟨S, 0, none⟩) hSl).trans HC.out.s, (frozen_blk (HA.out.1.block S hSl)).trans HC.out.sf, by rw [cell_of_row _ _ _ _ _ _ HA.out.2.2]; rfl, frozen_of_row _ _ _ _ _ HA.out.2.2, Fr.refl _ _⟩, rfl⟩ ?a1 ?assign ?body ?done ?stop
  case assign =>
    intro l x W K hK
    gi_wp2
    exact hK
  case body =>
    rintro lp pre ⟨⟨at_, k⟩, hx⟩ W ⟨hI, hcl0⟩ hlt
    have htop := (runs_row hx).top
    dsimp only at htop
    rw [hs] at htop
    have hcS := hI.cell
    have hfS := hI.frozen
    have hcr := hI.rc
    have hfr := hI.rf
    have hnS : ∀ q, q < wa.heap.size → q ≠ S → q ≠ sw + 1 → ¬ (q = S ∨ q = sw + 1 ∨ wa.heap.size ≤ q) := fun q h1 h2 h3 h => by omega
    have hcf : W.cell? ⟨sw, 0, none⟩ = some (.int .i64 (first : Int)) := hI.fr.cell (by rw [cell_of_row _ _ _ _ _ _ HA.out.2.1]; rfl) (hnS sw (by omega) (by omega) (by omega))
    have hc0 : W.cell? ⟨G, 0, none⟩ = some (.int .i64 (hi : Int)) := hI.fr.cell ((HA.out.1.cell (p := ⟨G, 0, none⟩) hGl).trans HC.out.g0) (hnS G (by omega) hap1 (by omega))
    have hc3 : W.cell? ⟨G, 3, none⟩ = some (.int .i64 (lo : Int)) := hI.fr.cell ((HA.out.1.cell (p := ⟨G, 3, none⟩) hGl).trans HC.out.g3) (hnS G (by omega) hap1 (by omega))
    have hcd : W.cell? ⟨Db, 0, none⟩ = some (.func (.func 40) #[] #[.pointer (some ⟨S, 0, none⟩)]) := hI.fr.cell ((HA.out.1.cell (p := ⟨Db, 0, none⟩) hDl).trans HC.out.d) (hnS Db (by omega) hap2 (by omega))
    obtain ⟨a0, ha0⟩ : ∃ a0 : Nat, first + at_ = a0 := ⟨_, rfl⟩
    obtain ⟨a1, ha1⟩ : ∃ a1 : Nat, a0 + k = a1 := ⟨_, rfl⟩
    obtain ⟨f, hf⟩ : ∃ f : Nat, max a0 lo = f := ⟨_, rfl⟩
    obtain ⟨t, ht⟩ : ∃ t : Nat, min a1 hi = t := ⟨_, rfl⟩
    have e0 : (first : Int) + (at_ : Int) = (a0 : Int) := by omega
    have e1 : (a0 : Int) + (k : Int) = (a1 : Int) := by omega
    have HI : Hid (Bx2 wa S (sw + 1) z W ∧ clips lo hi first (pre.map (·.1)) = 0) := ⟨hI, hcl0⟩
    have HX : Hid (clip lo hi first (at_, k) = t - f) := by
      show clip lo hi first (at_, k) = t - f
      rw [clip, ← hf, ← ht, ← ha1, ← ha0]
    have HM : Hid (max (first + at_) lo = f ∧ min (first + at_ + k) hi = t) := ⟨by rw [← hf, ← ha0], by rw [← ht, ← ha1, ← ha0]⟩
    clear hI hcl0
    by_cases hft : f < t
    · have HCU : Hid (CallsIn Fence.wide (6 - 1 - 1 - 1) Try.prog 40 #[.int .i64 (f : Int), .int .i64 (t : Int), .pointer (some ⟨S, 0, none⟩)] W fun e w' => e = .returned (.bool false) ∧ w' = W.setCell ⟨S, 0, none⟩ (.int .i64 (f : Int))) := callsIn_wide.2 (low1_any W S z f t hcS hfS)
      have hcr2 : (W.setCell ⟨S, 0, none⟩ (.int .i64 (f : Int))).cell? ⟨sw + 1, 0, none⟩ = some (.bool false) := (World.cell?_of_block (set_other (show sw + 1 ≠ S by omega))).trans hcr
      have hfr2 : (W.setCell ⟨S, 0, none⟩ (.int .i64 (f : Int))).frozen? ⟨sw + 1, 0, none⟩ = false := (frozen_blk (set_other (show sw + 1 ≠ S by omega))).trans hfr
      have hft' : (f : Int) < (t : Int) := by omega
      have hf9 : max a0 lo = f := hf
      have ht9 : min a1 hi = t := ht
      clear hf ht
      rcases (show (a0 < lo ∧ f = lo) ∨ (a0 = lo ∧ f = lo) ∨ (lo < a0 ∧ f = a0) from by omega) with ⟨c1, rfl⟩ | ⟨rfl, rfl⟩ | ⟨c1, rfl⟩ <;> rcases (show (a1 < hi ∧ t = a1) ∨ (a1 = hi ∧ t = a1) ∨ (hi < a1 ∧ t = hi) from by omega) with ⟨c2, rfl⟩ | ⟨rfl, rfl⟩ | ⟨c2, rfl⟩
      all_goals
        gi_wp2_with (gi_at_call 40; refine (CallsIn.inRound lp HCU.out).mono ?_; rintro e W' ⟨rfl, rfl⟩; clear HCU)
        exact ⟨((Rm.set (Rm.refl _ B g W) S _ (by omega) (by omega)).set (sw + 1) _ (by omega) (by omega)).keeps, rfl, pre, ⟨(at_, k), hx⟩, rfl, HI.out.2, by rw [HM.out.1, HM.out.2]; exact hft, by rw [HM.out.1]; exact (HI.out.1.set (by omega) _).setr (by omega)⟩
    · have hft' : ¬ (f : Int) < (t : Int) := by omega
      have hf9 : max a0 lo = f := hf
      have ht9 : min a1 hi = t := ht
      clear hf ht
      rcases (show (a0 < lo ∧ f = lo) ∨ (a0 = lo ∧ f = lo) ∨ (lo < a0 ∧ f = a0) from by omega) with ⟨c1, rfl⟩ | ⟨rfl, rfl⟩ | ⟨c1, rfl⟩ <;> rcases (show (a1 < hi ∧ t = a1) ∨ (a1 = hi ∧ t = a1) ∨ (hi < a1 ∧ t = hi) from by omega) with ⟨c2, rfl⟩ | ⟨rfl, rfl⟩ | ⟨c2, rfl⟩
      all_goals
        gi_wp2
        refine ⟨fun _ h => (by cases h), ?_⟩
        gi_wp2
        refine ⟨(Rm.refl _ B g W).keeps, (Rm.refl 0 B g W).kp, HI.out.1, ?_⟩
        rw [List.map_append, List.map_cons, List.map_nil, clips_snoc, HX.out, HI.out.2]
        omega
  case done =>
    rintro D ys W hD hS ⟨hI, hcl0⟩ hK
    have hct : ct (fb lo hi first s) 4096 = 0 := by rw [← hcl0, hS, runs_clip, hs]
    have hcr := hI.rc
    have hfr := hI.rf
    have hbW : Fr (fun k => k = S ∨ w.heap.size ≤ k) w W := ((below_fr (S := fun k => k = S ∨ w.heap.size ≤ k) (by rw [hsw]; exact HA.out.1)).trans hI.fr (fun k hk => by rw [hsw]; omega))
    have HK : Hid (W.heap[D]? = some (.deferred (some [])) ∧ Bx2 wa S (sw + 1) z W) := ⟨hK, hI⟩
    clear hK hI
    gi_wp2
    have hK' : (W.setCell ⟨sw + 1, 0, none⟩ (.bool true)).heap[D]? = some (.deferred (some [])) := (set_other (by omega)).trans HK.out.1
    have hc5 := cell_kept (World.cell?_setCell_same' W ⟨sw + 1, 0, none⟩ (.bool true) (by rw [hcr]; rfl)) (grownBy_putObj' _ D (.deferred none)) (fun r e => by cases e; exact ⟨_, hK', rfl⟩)
    refine ⟨by simp, .inl ⟨_, _, rfl, run_takeDeferred hK', ?_⟩⟩
    refine ⟨.bool true, ?_, .inl ⟨rfl, hct, ?_⟩⟩
    · simp [results, Try.f50, go_sem, hc5]
    · exact ⟨(frPut _ _ _).cell (Fr.set.cell HK.out.2.cell (by show ¬ S = sw + 1; omega)) (by show ¬ S = D; omega), (frozen_blk ((frPut _ _ _).block S (by exact block_lt_of_cell (Fr.set.cell HK.out.2.cell (by show ¬ S = sw + 1; omega))) (by show ¬ S = D; omega))).trans ((frozen_blk (set_other (by omega))).trans HK.out.2.frozen), (hbW.trans Fr.set (fun k hk => .inl (.inr (by have hk : k = sw + 1 := hk; omega)))).trans (frPut _ _ _) (fun k hk => .inl (.inr (by have hk : k = D := hk; omega)))⟩
  case stop =>
    rintro D c pre W hD hS ⟨rfl, pre0, x, rfl, hcl0, hmm, hI⟩ hK
    rw [List.map_append] at hS
    obtain ⟨j, hj1, hj2, hlo⟩ := first_clip hS hcl0 hmm
    rw [hj1] at hI
    rw [hs] at hj2
    have hcr := hI.rc
    have hfr := hI.rf
    have hbW : Fr (fun k => k = S ∨ w.heap.size ≤ k) w W := ((below_fr (S := fun k => k = S ∨ w.heap.size ≤ k) (by rw [hsw]; exact HA.out.1)).trans hI.fr (fun k hk => by rw [hsw]; omega))
    have HK : Hid (W.heap[D]? = some (.deferred (some [])) ∧ Bx2 wa S (sw + 1) ((first + j : Nat) : Int) W) := ⟨hK, hI⟩
    clear hK hI
    gi_wp2
    have hK' : (W).heap[D]? = some (.deferred (some [])) := HK.out.1
    have hc5 := cell_kept hcr (grownBy_putObj' _ D (.deferred none)) (fun r e => by cases e; exact ⟨_, hK', rfl⟩)
    refine ⟨by simp, .inl ⟨_, _, rfl, run_takeDeferred hK', ?_⟩⟩
    refine ⟨.bool false, ?_, .inr ⟨rfl, j, by omega, hlo, ?_⟩⟩
    · simp [results, Try.f50, go_sem, hc5]
    · exact ⟨(frPut _ _ _).cell HK.out.2.cell (by show ¬ S = D; omega), (frozen_blk ((frPut _ _ _).block S (by exact block_lt_of_cell HK.out.2.cell) (by show ¬ S = D; omega))).trans HK.out.2.frozen, hbW.trans (frPut _ _ _) (fun k hk => .inl (.inr (by have hk : k = D := hk; omega)))⟩
end Go.Proofs.Ytpbpblpbjkegfaa


namespace Go.Proofs.Ytpbpblpbjkegfaa
open Go.RowKit Rec

theorem Ints.cell {w : World} {b off i : Nat} {l : List Int} (h : Ints w (some ⟨b, off, none⟩) l) (hi : i < l.length) : w.cell? ⟨b, off + i, none⟩ = some (.int .i64 (nth l i)) := by
  rcases h.at_ with e | ⟨b', off', e, hc⟩
  · subst e; exact absurd hi (by simp)
  · cases e; exact hc i hi
theorem may_false {ns : List Int} {n : Int} (k : Nat) (hk : k < ns.length) (h : ¬ (pre ns k < nth ns k ∧ nth ns k < n)) : may ns n = false := decide_eq_false (fun e => h (e k hk))
theorem may_true {ns : List Int} {n : Int} (h : ∀ i, i < ns.length → pre ns i < nth ns i ∧ nth ns i < n) : may ns n = true := decide_eq_true h

theorem Ints.far {w : World} {a : Option Addr} {ns : List Int} {k p : Nat} (h : Ints w a ns) (hn : ns.length = k) (hp : w.heap.size ≤ p) : ∀ x, a = some x → k = 0 ∨ x.block ≠ p := by
  intro x hx
  rcases h.at_ with e | ⟨b, off, e, hc⟩
  · subst e; simp at hn; omega
  · subst e
    cases hx
    by_cases h0 : k = 0
    · exact .inl h0
    · have := block_lt_of_cell (hc 0 (by omega))
      have t : b < w.heap.size := this
      exact .inr (fun e => by change b = p at e; omega)
/-- blocks -/
theorem mem_row (ds : List (List Int)) : (∀ b, b ∈ ds → b.length = 512) ↔ ∀ i, i < ds.length → (row ds i).length = 512 := by
  constructor
  · intro h i hi
    have e : row ds i = ds[i] := by simp [row, List.getD, hi]
    rw [e]; exact h _ (List.getElem_mem hi)
  · intro h b hb
    obtain ⟨i, hi, rfl⟩ := List.mem_iff_getElem.1 hb
    have e : row ds i = ds[i] := by simp [row, List.getD, hi]
    rw [← e]; exact h i hi
end Go.Proofs.Ytpbpblpbjkegfaa

namespace Go.Proofs.Ytpbpblpbjkegfaa
open Go.RowKit Rec

def zn (m : Nat) : List Int := List.replicate m 0
theorem zn_length (m : Nat) : (zn m).length = m := by simp [zn]
theorem nth_rep (m : Nat) (x : Int) (i : Nat) (h : i < m) : nth (List.replicate m x) i = x := by simp [nth, List.getD, h]
theorem wf_rep (m : Nat) (x : Int) (hx : 0 ≤ x ∧ x < 256) : ∀ i, 0 ≤ nth (List.replicate m x) i ∧ nth (List.replicate m x) i < 256 := fun i => by
  by_cases h : i < m
  · rw [nth_rep m x i h]; exact hx
  · rw [nth_out _ _ (by simp; omega)]; omega
theorem made_list (z : Value) (n : Nat) : (madeCells #[z] n).toList = List.replicate n z := toList_madeCells_one z n
/-- 'make([]byte, n)' -/
theorem wp_makeB {ops : Array Oper} {rest : List Oper} {o : Oper} {a : Act} {Q : Exit → Act → World → Prop} {w : World} (hg : o.guard = none) (l c : Operand) (hop : o.op = Op.makeSlice 22 l c)
    (kl kc : IntKind) (L C : Int) (n : Nat) (hl : a.eval l = .int kl L) (hc : a.eval c = .int kc C) (hL : L = (n : Int)) (hC : C = (n : Int)) (hn : n ≤ 281474976710656)
    (hK : ∀ w', OwnB w' w.heap.size n (zn n) → Below w.heap.size w w' → wpList Try.prog ops Q rest (a.put o.dst (.slice (some ⟨w.heap.size, 0, none⟩) n n)) w') :
    wpList Try.prog ops Q (o :: rest) a w := by
  obtain ⟨i0, hi, hz0, hz1, hz2⟩ := info_parts info5
  subst hL hC
  refine wpList_make_row w hg l c 22 hop 5 i0 _ Try.underlying22 hi hz0 hz1 rfl kl kc n hl hc (by rw [hz2]; omega) (by omega) ?_
  refine hK _ ⟨⟨_, heap_alloc_new _ _, ?_, ?_⟩, ?_, ?_, ?_, wf_rep n 0 (by omega)⟩ ((Below.refl _ _).alloc (Nat.le_refl _) _)
  · rw [← Array.length_toList, made_list, List.length_replicate]
  · rw [made_list, zn_length, zn, List.map_replicate, List.take_replicate, Nat.min_self]
  · rw [zn_length]; omega
  · rw [zn_length]; omega
  · unfold maxLen; omega
theorem info3 : (Try.prog.info? 3).map (fun i => (i.zero, i.size, i.bytes)) = some (some (.int .i64 0), 1, 8) := by kernel_rfl
/-- 'make([]int, n)' -/
theorem wp_makeI {ops : Array Oper} {rest : List Oper} {o : Oper} {a : Act} {Q : Exit → Act → World → Prop} {w : World} (hg : o.guard = none) (l c : Operand) (hop : o.op = Op.makeSlice 34 l c)
    (kl kc : IntKind) (L C : Int) (n : Nat) (hl : a.eval l = .int kl L) (hc : a.eval c = .int kc C) (hL : L = (n : Int)) (hC : C = (n : Int)) (hn : n ≤ 4294967296)
    (hK : ∀ w', w'.ownsRow 0 3 1 (.slice (some ⟨w.heap.size, 0, none⟩) n n) n ((zn n).map (Value.int .i64)) → Below w.heap.size w w' → wpList Try.prog ops Q rest (a.put o.dst (.slice (some ⟨w.heap.size, 0, none⟩) n n)) w') :
    wpList Try.prog ops Q (o :: rest) a w := by
  obtain ⟨i0, hi, hz0, hz1, hz2⟩ := info_parts info3
  subst hL hC
  refine wpList_make_row w hg l c 34 hop 3 i0 _ Try.underlying34 hi hz0 hz1 rfl kl kc n hl hc (by rw [hz2]; omega) (by omega) ?_
  refine hK _ ⟨by simp [zn], .inr ⟨_, _, _, rfl, Nat.zero_le _, heap_alloc_new _ _, Nat.le_refl _, by unfold maxLen; omega, ?_, ?_⟩⟩ ((Below.refl _ _).alloc (Nat.le_refl _) _)
  · rw [← Array.length_toList, made_list, List.length_replicate, Nat.mul_one]
  · rw [made_list, zn, List.map_replicate, List.take_replicate, Nat.mul_one, Nat.min_self]

theorem nth_app {a b : List Int} (i : Nat) : nth (a ++ b) i = if i < a.length then nth a i else nth b (i - a.length) := by
  unfold nth
  by_cases h : i < a.length
  · rw [if_pos h]; simp [List.getD, List.getElem?_append, h]
  · rw [if_neg h]; simp [List.getD, List.getElem?_append, h]
theorem ownB_of {w : World} {g n cap : Nat} {l : List Int} (h : w.ownsRow 0 5 1 (.slice (some ⟨g, 0, none⟩) n cap) n (l.map (Value.int .u8))) (hl : l.length = n) (hn : n ≤ 1000000000000000) (hw : ∀ i, 0 ≤ nth l i ∧ nth l i < 256) : OwnB w g cap l := by
  subst hl
  rcases h.2 with ⟨hv, _⟩ | ⟨g', cap', cur, hv, h1, hg, h2, h3, h4, h5⟩
  · cases hv
  · cases hv
    exact ⟨⟨cur, hg, by omega, by simpa using h5⟩, hn, h2, h3, hw⟩
/-- append of bytes to nil or one's own -/
theorem wp_bown {ops : Array Oper} {rest : List Oper} {o : Oper} {a : Act} {Q : Exit → Act → World → Prop} {w : World} (hgd : o.guard = none) (s x : Operand)
    (ho : o.op = .call { callee := .builtin .append, args := #[s, x], argTypes := #[22, 22] }) (v : Value) (k : Nat) (l : List Int) (hs : a.eval s = v) (hown : w.ownsRow 0 5 1 v k (l.map (Value.int .u8)))
    (ad : Addr) (m c : Nat) (y : List Int) (hx : a.eval x = .slice (some ad) m c) (hm : 0 < m) (hl : y.length = m) (hb : Bytes w (some ad) y) (h47 : k + m ≤ 140737488355328)
    (h : ∀ g cap w', w'.ownsRow 0 5 1 (.slice (some ⟨g, 0, none⟩) (k + m) cap) (k + m) ((l ++ y).map (Value.int .u8)) → Fr (fun k => v.ownBlock = some k) w w' → (v.ownBlock = some g ∨ w.heap.size ≤ g) → wpList Try.prog ops Q rest (a.put o.dst (.slice (some ⟨g, 0, none⟩) (k + m) cap)) w') :
    wpList Try.prog ops Q (o :: rest) a w := by
  obtain ⟨i0, hi, hz0, hz1, hz2⟩ := info_parts info5
  refine wp_own hgd s x 22 ho 5 i0 _ 1 1 Try.underlying22 hi hz0 hz1 hz2 rfl (by decide) v k _ hs hown ad m c (y.map (Value.int .u8)) hx hm (by rw [List.length_map, hl, Nat.mul_one]) hb.news (cells_u8 y) (by unfold maxLen; omega) (by omega) ?_
  intro g cap w' h1 h2 h3
  rw [← List.map_append] at h1
  exact h g cap w' h1 h2 h3
theorem str_opt {w : World} {a : Option Addr} {n c : Nat} {l : List Int} (hB : Bytes w a l) (hn : l.length = n) : (convert 22 9 (.slice a n c)).run Try.prog w = .ok (.string (strOfNums l)) w := by
  cases a with
  | none =>
    have hl := hB.nil
    subst hl
    simp at hn
    subst hn
    exact run_convert_bytes_nil (P := Try.prog) w 22 5 Try.underlying22 Try.underlying5 0 c 9 Try.underlying9
  | some p =>
    rcases hB.at_ with e | ⟨b, off, e, hc⟩
    · subst e
      simp at hn
      subst hn
      rw [run_convert_bytes_string w 22 9 5 _ 0 c Try.underlying22 Try.underlying5 Try.underlying9]
      have hl : (loadCells p 0).run Try.prog w = .ok ((([] : List Int).map (Value.int .u8)).toArray) w := by
        have := run_loadCells_list (P := Try.prog) w p [] (fun j v h => by simp at h)
        simpa using this
      rw [run_bytesToString w p 0 c [] hl]
      rfl
    · cases e
      exact run_convert_bytes_arg (P := Try.prog) w 22 5 Try.underlying22 Try.underlying5 b off n c l hn (fun i hi => hc i (by omega)) 9 Try.underlying9
theorem owns_set {w : World} {g n cap e : Nat} {xs : List Value} (h : w.ownsRow 0 e 1 (.slice (some ⟨g, 0, none⟩) n cap) n xs) (k : Nat) (v : Value) : (w.setCell ⟨g, k, none⟩ v).ownsRow 0 e 1 (.slice (some ⟨g, 0, none⟩) n cap) n (xs.set k v) := by
  refine ⟨by rw [List.length_set]; exact h.1, ?_⟩
  rcases h.2 with ⟨h1, _⟩ | ⟨g', cap', cur, h1, h2, h3, h4, h5, h6, h7⟩
  · cases h1
  · cases h1
    exact .inr ⟨_, _, _, rfl, h2, heap_setCell_same _ _ _ _ _ _ h3, h4, h5, by simpa using h6, by rw [Array.toList_setIfInBounds, List.take_set, h7]⟩

theorem make512 : ∃ o : Obj, (∀ w : World, (Instr.makeSlice 22 (.int .i64 512) (.int .i64 512)).run Try.prog w = .ok (.slice (some ⟨w.heap.size, 0, none⟩) 512 512) (w.alloc o)) ∧ ∀ w : World, OwnB (w.alloc o) w.heap.size 512 (zn 512) := by
  obtain ⟨i0, hi, hz0, hz1, hz2⟩ := info_parts info5
  refine ⟨.cells (madeCells #[.int .u8 0] 512) 5, fun w => run_make_row (P := Try.prog) 22 5 i0 _ Try.underlying22 hi hz0 hz1 rfl .i64 .i64 512 (by rw [hz2]; omega) (by omega) w, fun w => ?_⟩
  refine ⟨⟨_, heap_alloc_new _ _, ?_, ?_⟩, ?_, ?_, ?_, wf_rep 512 0 (by omega)⟩
  · rw [← Array.length_toList, made_list, List.length_replicate]
  · rw [made_list, zn_length, zn, List.map_replicate, List.take_replicate, Nat.min_self]
  · rw [zn_length]; omega
  · rw [zn_length]; omega
  · unfold maxLen; omega
theorem sb_str {l : List Int} (h : ∀ i, 0 ≤ nth l i ∧ nth l i < 256) : sb (strOfNums l) = l := by
  have e : sb (strOfNums l) = l.map fun n => ((UInt8.ofNat n.toNat).toNat : Int) := by
    unfold sb
    rw [strOfNums_data, List.map_map]; rfl
  rw [e]
  refine ext_nth (by simp) fun i hi => ?_
  have hi' : i < l.length := by simpa using hi
  have h1 : nth (l.map fun n => ((UInt8.ofNat n.toNat).toNat : Int)) i = ((UInt8.ofNat (nth l i).toNat).toNat : Int) := by
    simp [nth, List.getD, hi']
  rw [h1]
  have := h i
  rw [UInt8.toNat_ofNat']
  omega
end Go.Proofs.Ytpbpblpbjkegfaa

namespace Go.Proofs.Ytpbpblpbjkegfaa
open Go.RowKit Rec

theorem bytes_of_list {a b : ByteArray} (h : a.toList = b.toList) : a = b := by
  rw [ByteArray.toList_eq, ByteArray.toList_eq] at h
  obtain ⟨⟨x⟩⟩ := a
  obtain ⟨⟨y⟩⟩ := b
  cases h; rfl
/-- the text of the first eight bytes -/
def magS : ByteArray := { data := #[66, 79, 76, 69, 76, 79, 71, 49] }
theorem magS_nums : sb magS = mag := by decide
theorem str_mag : strOfNums mag = magS := by decide +kernel
theorem fld8 (h : List Int) : fld h 0 8 = h.take 8 := by unfold fld; rfl
/-- what is read there -/
theorem text8 (h : List Int) (hn : h.length = 512) (hw : ∀ i, 0 ≤ nth h i ∧ nth h i < 256) :
    ∃ (S : ByteArray) (E : Int), ((cl h 0 8 = true ∧ S = strOfNums (fld h 0 (fz h 0 8)) ∧ E = 0) ∨ (cl h 0 8 = false ∧ S = strOfNums [] ∧ E = 1)) ∧ (S = magS ↔ h.take 8 = mag) := by
  have back : ∀ x : List Int, (∀ i, 0 ≤ nth x i ∧ nth x i < 256) → strOfNums x = magS → x = mag := fun x hx e => by
    rw [← sb_str hx, e, magS_nums]
  by_cases hc : cl h 0 8 = true
  · refine ⟨_, _, .inl ⟨hc, rfl, rfl⟩, ?_⟩
    obtain ⟨z1, z2, z3⟩ := fz_spec h 0 8
    constructor
    · intro e
      have e2 := back _ (wf_fld hw _ _) e
      have hl := congrArg List.length e2
      rw [fld_length h 0 _ (by omega), mag_len] at hl
      rw [hl, fld8] at e2
      exact e2
    · intro e
      have hz : fz h 0 8 = 8 := by
        refine fz_eq _ _ _ _ (Nat.le_refl _) (fun i hi => ?_) (fun h => absurd h (by omega))
        rw [Nat.zero_add, ((take8 h hn).1 e) i hi]
        have : i = 0 ∨ i = 1 ∨ i = 2 ∨ i = 3 ∨ i = 4 ∨ i = 5 ∨ i = 6 ∨ i = 7 := by omega
        rcases this with rfl | rfl | rfl | rfl | rfl | rfl | rfl | rfl <;> decide
      rw [hz, fld8, e, str_mag]
  · have hc : cl h 0 8 = false := by simpa using hc
    refine ⟨_, _, .inr ⟨hc, rfl, rfl⟩, ?_⟩
    constructor
    · intro e
      have := back [] (fun i => by simp [nth]) e
      exact absurd this (by decide)
    · intro e
      have hz : fz h 0 8 = 8 := by
        refine fz_eq _ _ _ _ (Nat.le_refl _) (fun i hi => ?_) (fun h => absurd h (by omega))
        rw [Nat.zero_add, ((take8 h hn).1 e) i hi]
        have : i = 0 ∨ i = 1 ∨ i = 2 ∨ i = 3 ∨ i = 4 ∨ i = 5 ∨ i = 6 ∨ i = 7 := by omega
        rcases this with rfl | rfl | rfl | rfl | rfl | rfl | rfl | rfl <;> decide
      unfold cl at hc
      rw [hz, zr_true _ _ _ (fun i hi => absurd hi (by omega))] at hc
      cases hc
end Go.Proofs.Ytpbpblpbjkegfaa

namespace Go.Proofs.Ytpbpblpbjkegfaa
open Go.RowKit Rec

theorem nth_cellI (l : List Int) (k : Nat) (h : k < l.length) : ((l.map (Value.int .i64)).toArray)[k]? = some (.int .i64 (nth l k)) := by
  simp [nth, List.getD, h]
/-- numbers in a row of one's own -/
structure OwnI (w : World) (g cap : Nat) (l : List Int) : Prop where
  row : ∃ cur : Array Value, w.heap[g]? = some (.cells cur 3 (0, 0)) ∧ cur.size = cap ∧ cur.toList.take l.length = l.map (Value.int .i64)
  len : l.length ≤ 1000000000000000
  room : l.length ≤ cap
  top : cap ≤ maxLen
theorem OwnI.cell {w : World} {g cap : Nat} {l : List Int} (h : OwnI w g cap l) (i : Nat) (hi : i < l.length) : w.cell? ⟨g, i, none⟩ = some (.int .i64 (nth l i)) := by
  obtain ⟨cur, hg, _, ht⟩ := h.row
  rw [cell_of_row _ _ _ _ _ _ hg, ← nth_cellI l i hi, ← ht]
  simp [hi]
theorem OwnI.frozen {w : World} {g cap : Nat} {l : List Int} (h : OwnI w g cap l) (i : Nat) : w.frozen? ⟨g, i, none⟩ = false := by
  obtain ⟨cur, hg, _, _⟩ := h.row
  exact frozen_of_row _ _ _ _ _ hg
theorem OwnI.ints {w : World} {g cap : Nat} {l : List Int} (h : OwnI w g cap l) : Ints w (some ⟨g, 0, none⟩) l :=
  ⟨h.len, .inr ⟨g, 0, rfl, fun i hi => by rw [Nat.zero_add]; exact h.cell i hi⟩⟩
theorem OwnI.lt {w : World} {g cap : Nat} {l : List Int} (h : OwnI w g cap l) : g < w.heap.size := by
  obtain ⟨cur, hg, _, _⟩ := h.row
  exact heap_lt hg
theorem OwnI.fr {S : Nat → Prop} {w w' : World} {g cap : Nat} {l : List Int} (h : OwnI w g cap l) (x : Fr S w w') (hr : ¬ S g) : OwnI w' g cap l := by
  obtain ⟨cur, hg, h2, h3⟩ := h.row
  exact ⟨⟨cur, x.heap hg hr, h2, h3⟩, h.len, h.room, h.top⟩
theorem OwnI.on {w w' : World} {g cap : Nat} {l : List Int} (h : OwnI w g cap l) (hb : Below w.heap.size w w') : OwnI w' g cap l := h.fr (below_fr hb (fun _ => False)) (fun e => e)
theorem OwnB.fr {S : Nat → Prop} {w w' : World} {g cap : Nat} {l : List Int} (h : OwnB w g cap l) (x : Fr S w w') (hr : ¬ S g) : OwnB w' g cap l := by
  obtain ⟨cur, hg, h2, h3⟩ := h.row
  exact ⟨⟨cur, x.heap hg hr, h2, h3⟩, h.len, h.room, h.top, h.wf⟩
theorem OwnI.set {w : World} {g cap : Nat} {l : List Int} (h : OwnI w g cap l) (k : Nat) (c : Int) :
    OwnI (w.setCell ⟨g, k, none⟩ (.int .i64 c)) g cap (l.set k c) := by
  obtain ⟨cur, hg, h2, h3⟩ := h.row
  refine ⟨⟨cur.setIfInBounds k (.int .i64 c), heap_setCell_same _ _ _ _ _ _ hg, by simp [h2], ?_⟩, by simpa using h.len, by simpa using h.room, h.top⟩
  rw [List.length_set, Array.toList_setIfInBounds, List.take_set, h3, List.map_set]
theorem OwnI.of {w : World} {g n cap : Nat} {l : List Int} (h : w.ownsRow 0 3 1 (.slice (some ⟨g, 0, none⟩) n cap) n (l.map (Value.int .i64))) (hl : l.length = n) (hn : n ≤ 1000000000000000) : OwnI w g cap l := by
  subst hl
  rcases h.2 with ⟨hv, _⟩ | ⟨g', cap', cur, hv, h1, hg, h2, h3, h4, h5⟩
  · cases hv
  · cases hv
    exact ⟨⟨cur, hg, by omega, by simpa using h5⟩, hn, h2, h3⟩
/-- some of the numbers -/
def upd (h : List Int) (K j : Nat) : List Int := (List.range K).map fun i => if i < j then num h (16 + 4 * i) 4 else 0
theorem upd_length (h : List Int) (K j : Nat) : (upd h K j).length = K := by simp [upd]
theorem upd_zero (h : List Int) (K : Nat) : upd h K 0 = zn K := by
  refine ext_nth (by rw [upd_length, zn_length]) fun i hi => ?_
  rw [upd_length] at hi
  rw [upd, nth_map _ _ _ hi, if_neg (by omega), zn, nth_rep _ _ _ hi]
theorem upd_succ (h : List Int) (K j : Nat) (hj : j < K) : (upd h K j).set j (num h (16 + 4 * j) 4) = upd h K (j + 1) := by
  refine ext_nth (by rw [List.length_set, upd_length, upd_length]) fun i hi => ?_
  rw [List.length_set, upd_length] at hi
  rw [nth_set _ _ _ _ (by rw [upd_length]; exact hj), upd, upd, nth_map _ _ _ hi, nth_map _ _ _ hi]
  by_cases e : i = j
  · subst e; rw [if_pos rfl, if_pos (by omega)]
  · rw [if_neg e]
    by_cases e2 : i < j
    · rw [if_pos e2, if_pos (by omega)]
    · rw [if_neg e2, if_neg (by omega)]
theorem upd_all (h : List Int) : upd h (cnt h) (cnt h) = nsOf h := by
  refine ext_nth (by rw [upd_length]; simp [nsOf]) fun i hi => ?_
  rw [upd_length] at hi
  rw [upd, nth_map _ _ _ hi, if_pos hi, nsOf, nth_map _ _ _ hi]

theorem flat_succ (ds : List (List Int)) (j : Nat) (h : j < ds.length) : (ds.take (j + 1)).flatten = (ds.take j).flatten ++ row ds j := by
  rw [List.take_succ_eq_append_getElem h, List.flatten_append]
  simp [row, List.getD, h]
theorem flat_len (ds : List (List Int)) (hb : ∀ i, i < ds.length → (row ds i).length = 512) : ∀ j, j ≤ ds.length → (ds.take j).flatten.length = 512 * j
  | 0, _ => by simp
  | j + 1, h => by
    rw [flat_succ ds j h, List.length_append, flat_len ds hb j (by omega), hb j h]; omega
theorem Data.cell {w : World} {b off i : Nat} {ds : List (List Int)} (h : Data w (some ⟨b, off, none⟩) ds) (hi : i < ds.length) : ∃ a' c, w.cell? ⟨b, off + i, none⟩ = some (.slice a' (row ds i).length c) ∧ Bytes w a' (row ds i) ∧ (a' = none → c = 0) := by
  rcases h.at_ with e | ⟨b', off', e, hc⟩
  · subst e; exact absurd hi (by simp)
  · cases e; exact hc i hi
/-- Empty -/
theorem zs_zn : zn 512 = zs := rfl
end Go.Proofs.Ytpbpblpbjkegfaa
