import Derived.Test.YtlgjkmfekkegbaaBtF
namespace Go.Proofs.Ytlgjkmfekkegbaa
open Go.RowKit Go.Shelf Rec
attribute [local go_sem] Oper.semAt_some

/-- between two rows: what the boxes hold -/
def WhI (w : World) (E O F : Nat) (l : List Int) (pre : List (Rw l)) (W : World) : Prop := Bx3 w E O F (endOf (pre.map (·.1))) (tot (pre.map (·.1))) (fst1 (pre.map (·.1))) W ∧ Rise (pre.map (·.1))
theorem WhI.own (w : World) (E O F : Nat) (l : List Int) (hE : E < w.heap.size) (hO : O < w.heap.size) (hF : F < w.heap.size) : OwnFrom w.heap.size (WhI w E O F l) := fun pre W W' row h hg hr => by
  have hne : ∀ S, S < w.heap.size → W'.heap[S]? = W.heap[S]? := fun S hS => hg.block S (Nat.lt_of_lt_of_le hS h.1.fr.size) (fun e => by have := (hr S e.symm).1; omega)
  have hF' : Fr (fun k => row = some k) W W' := ⟨hg.os, hg.tape, hg.output, hg.size, fun k hk hS => hg.block k hk (fun e => hS e.symm)⟩
  exact ⟨h.1.next (hne E hE) (hne O hO) (hne F hF) (hF'.mono (fun k hk => .inr (.inr (.inr (hr k hk).1)))), h.2⟩
/-- a row came that does not lie behind the others -/
def WhX (l : List Int) (_ : Code) (pre : List (Rw l)) (_ : World) : Prop := ∃ p x, pre = p ++ [x] ∧ ¬ Nxt (p.map (·.1)) x.1
set_option maxRecDepth 100000 in
set_option maxHeartbeats 8000000 in
theorem whole_any (w : World) (n c : Nat) (a : Option Addr) (l : List Int) (hb : Bytes w a l) (hn : l.length = n) (hz : a = none → c = 0) (h47 : n ≤ 140737488355000) :
    Calls Try.prog 3 #[.slice a n c] w fun e w' => e = .returned (.bool true) ∧ Below w.heap.size w w' := by
  refine (callsIn_wide (n := 6)).1 ?_
  have hf0 : Fence.wide.fn 8 := trivial
  have hf1 : Fence.wide.fn 11 := trivial
  have hf2 : Fence.wide.fn 10 := trivial
  have hf3 : Fence.wide.fn 12 := trivial
  have hf4 : Fence.wide.fn 9 := trivial
  have HB : Hid (Bytes w a l ∧ l.length = n ∧ (a = none → c = 0)) := ⟨hb, hn, hz⟩
  clear hb hn hz
  have cF : ∀ W, CallsIn Fence.wide 5 Try.prog 8 #[] W fun e w' => e = .returned (.bool true) ∧ Below W.heap.size W w' := fun W => callsIn_wide.2 (fixed_any W)
  have cR : ∀ W, Below w.heap.size w W → CallsIn Fence.wide 5 Try.prog 9 #[.slice a n c] W fun e w' => ∃ B g cap, e = .returned (.func (.func 20) #[] #[.pointer (some ⟨B, 0, none⟩)]) ∧ SeqAt w' B g cap l ∧ W.heap.size ≤ B ∧ W.heap.size ≤ g ∧ Below W.heap.size W w' := fun W hW => callsIn_wide.2 (runs_any _ n c a l (HB.out.1.on hW) HB.out.2.1 HB.out.2.2 h47)
  have E1 := eql_seq
  refine callsIn_of_wp_marks Try.func3 rfl trivial ?_ rfl
  simp only [Try.ntmps3, List.size_toArray, List.length_cons, List.length_nil, Nat.reduceAdd, Nat.reduceSub, Array.replicate_succ, Array.replicate_zero, List.push_toArray, List.append_toArray, List.nil_append, List.cons_append]
  obtain ⟨wa, hwa⟩ : ∃ wa, (w.alloc (.cells #[.slice a n c] 22)).alloc (.cells #[.bool false] 4) = wa := ⟨_, rfl⟩
  have HA : Hid (Below w.heap.size w wa ∧ wa.heap.size = w.heap.size + 2 ∧ wa.heap[w.heap.size]? = some (.cells #[.slice a n c] 22 (0, 0)) ∧ wa.heap[w.heap.size + 1]? = some (.cells #[.bool false] 4 (0, 0))) := by
    rw [← hwa]
    refine ⟨((Below.refl _ _).alloc (Nat.le_refl _) _).alloc (by simp) _, by simp, (Below.heap_alloc _ _ _ (by simp)).trans (heap_alloc_new _ _), ?_⟩
    have := heap_alloc_new (w.alloc (.cells #[.slice a n c] 22)) (.cells #[.bool false] 4)
    rw [World.size_alloc] at this
    exact this
  gi_wp2_with (first
    | (gi_at_call 8; refine (cF _).mono ?_; rintro e wb ⟨rfl, hbb⟩; have HBb : Hid (Below wa.heap.size wa wb) := hbb; have hsb : w.heap.size + 2 ≤ wb.heap.size := (by have := hbb.size; have := HA.out.2.1; omega); have hcb : wb.cell? ⟨w.heap.size, 0, none⟩ = some (.slice a n c) := (hbb.cell (p := ⟨w.heap.size, 0, none⟩) (by have := HA.out.2.1; show w.heap.size < _; omega)).trans (by rw [cell_of_row _ _ _ _ _ _ HA.out.2.2.1]; rfl); have hcd : (((wb.alloc (.cells #[.int .i64 0] 3)).alloc (.cells #[.int .i64 0] 3)).alloc (.cells #[.int .i64 (-1)] 3)).cell? ⟨w.heap.size, 0, none⟩ = some (.slice a n c) := ((((Below.refl (w.heap.size + 1) wb).alloc (by omega) _).alloc (by simp; omega) _).alloc (by simp; omega) _).cell (p := ⟨w.heap.size, 0, none⟩) (Nat.lt_succ_self _) |>.trans hcb; clear hbb)
    | (gi_at_call 9; refine (cR _ ((((HA.out.1.trans (HBb.out.mono HA.out.1.size)).alloc (by omega) _).alloc (by simp; omega) _).alloc (by simp; omega) _)).mono ?_; rintro e w2 ⟨B, g, cap, rfl, hB, hBs, hgs, hb2⟩; have H2 : Hid (SeqAt w2 B g cap l ∧ Below (((wb.alloc (.cells #[.int .i64 0] 3)).alloc (.cells #[.int .i64 0] 3)).alloc (.cells #[.int .i64 (-1)] 3)).heap.size (((wb.alloc (.cells #[.int .i64 0] 3)).alloc (.cells #[.int .i64 0] 3)).alloc (.cells #[.int .i64 (-1)] 3)) w2) := ⟨hB, hb2⟩; have hBs' : wb.heap.size + 3 ≤ B := (by simpa using hBs); have hgs' : wb.heap.size + 3 ≤ g := (by simpa using hgs); clear hB hb2 hBs hgs))
  have HC : Hid (w2.heap[wb.heap.size]? = some (.cells #[.int .i64 0] 3 (0, 0)) ∧ w2.heap[wb.heap.size + 1]? = some (.cells #[.int .i64 0] 3 (0, 0)) ∧ w2.heap[wb.heap.size + 2]? = some (.cells #[.int .i64 (-1)] 3 (0, 0)) ∧ wb.heap.size + 3 ≤ w2.heap.size ∧ Below wb.heap.size wb w2) := by
    obtain ⟨wc, hwc⟩ : ∃ wc, ((wb.alloc (.cells #[.int .i64 0] 3)).alloc (.cells #[.int .i64 0] 3)).alloc (.cells #[.int .i64 (-1)] 3) = wc := ⟨_, rfl⟩
    have hb2 := H2.out.2
    rw [hwc] at hb2
    have hs : wc.heap.size = wb.heap.size + 3 := by rw [← hwc]; simp
    have h1 : wc.heap[wb.heap.size]? = some (.cells #[.int .i64 0] 3 (0, 0)) := by
      rw [← hwc]
      exact (Below.heap_alloc _ _ _ (by simp; omega)).trans ((Below.heap_alloc _ _ _ (by simp)).trans (heap_alloc_new _ _))
    have h2 : wc.heap[wb.heap.size + 1]? = some (.cells #[.int .i64 0] 3 (0, 0)) := by
      rw [← hwc]
      refine (Below.heap_alloc _ _ _ (by simp)).trans ?_
      have := heap_alloc_new (wb.alloc (.cells #[.int .i64 0] 3)) (.cells #[.int .i64 0] 3)
      rw [World.size_alloc] at this
      exact this
    have h3 : wc.heap[wb.heap.size + 2]? = some (.cells #[.int .i64 (-1)] 3 (0, 0)) := by
      rw [← hwc]
      have := heap_alloc_new ((wb.alloc (.cells #[.int .i64 0] 3)).alloc (.cells #[.int .i64 0] 3)) (.cells #[.int .i64 (-1)] 3)
      rw [World.size_alloc, World.size_alloc] at this
      exact this
    have hbw : Below wb.heap.size wb wc := by rw [← hwc]; exact ((((Below.refl _ wb).alloc (Nat.le_refl _) _).alloc (by simp) _).alloc (by simp; omega) _)
    exact ⟨(hb2.block _ (by omega)).trans h1, (hb2.block _ (by omega)).trans h2, (hb2.block _ (by omega)).trans h3, by have := hb2.size; omega, hbw.trans (hb2.mono (by omega))⟩
  obtain ⟨sw, hsw⟩ : ∃ sw, w.heap.size = sw := ⟨_, rfl⟩
  obtain ⟨E, hE⟩ : ∃ E, wb.heap.size = E := ⟨_, rfl⟩
  have HX : Hid (Below sw w w2 ∧ w2.cell? ⟨sw, 0, none⟩ = some (.slice a n c) ∧ w2.cell? ⟨sw + 1, 0, none⟩ = some (.bool false) ∧ w2.frozen? ⟨sw + 1, 0, none⟩ = false ∧ E + 3 ≤ w2.heap.size ∧ sw + 2 ≤ E) := by
    have h1 : Below wa.heap.size wa w2 := HBb.out.trans (HC.out.2.2.2.2.mono HBb.out.size)
    have hs := HA.out.2.1
    have r1 := (h1.block (w.heap.size) (by omega)).trans HA.out.2.2.1
    have r2 := (h1.block (w.heap.size + 1) (by omega)).trans HA.out.2.2.2
    rw [← hsw, ← hE]
    exact ⟨HA.out.1.trans (h1.mono HA.out.1.size), by rw [cell_of_row _ _ _ _ _ _ r1]; rfl, by rw [cell_of_row _ _ _ _ _ _ r2]; rfl, frozen_of_row _ _ _ _ _ r2, HC.out.2.2.2.1, hsb⟩
  have HC' : Hid (w2.heap[E]? = some (.cells #[.int .i64 0] 3 (0, 0)) ∧ w2.heap[E + 1]? = some (.cells #[.int .i64 0] 3 (0, 0)) ∧ w2.heap[E + 2]? = some (.cells #[.int .i64 (-1)] 3 (0, 0))) := by rw [← hE]; exact ⟨HC.out.1, HC.out.2.1, HC.out.2.2.1⟩
  have HQ : Hid (SeqAt w2 B g cap l) := H2.out.1
  rw [hE] at hBs' hgs'
  have hse := HX.out.2.2.2.2.1
  have hswE := HX.out.2.2.2.2.2
  simp only [hsw, hE]
  clear H2 HC HBb hcb hcd hsb HA hwa cR cF
  refine wpIn_rangeFunc_ownG rfl (by omega) (gf := 20) (lb := #[.pointer (some ⟨B, 0, none⟩)]) rfl trivial (enters_of Try.func20 (by kernel_rfl) rfl)
    (runs_stops B g cap l w2 HQ.out (by rw [HB.out.2.1]; exact h47)) (fun h k => h.trans k) (KpB.put HQ.out.ltB HQ.out.ltg) (Below.refl _ _) (fun _ => rfl)
    (WhI w2 E (E + 1) (E + 2) l) (WhX l) (WhI.own w2 E (E + 1) (E + 2) l (by omega) (by omega) (by omega)) (fun _ _ _ _ _ hs _ _ => hs) ⟨⟨by rw [cell_of_row _ _ _ _ _ _ HC'.out.1]; rfl, frozen_of_row _ _ _ _ _ HC'.out.1, by rw [cell_of_row _ _ _ _ _ _ HC'.out.2.1]; rfl, frozen_of_row _ _ _ _ _ HC'.out.2.1, by rw [cell_of_row _ _ _ _ _ _ HC'.out.2.2]; rfl, frozen_of_row _ _ _ _ _ HC'.out.2.2, Fr.refl _ _⟩, Rise.nil⟩ ?a1 ?assign ?body ?done ?stop
  case assign =>
    intro l x W K hK
    gi_wp2
    exact hK
  case stop =>
    rintro D c pre W hD hS ⟨p, x, rfl, hx⟩ _
    exfalso
    rw [List.map_append] at hS
    exact hx (runs_next _ _ _ hS)
  case body =>
    rintro lp pre ⟨⟨at_, k⟩, hx⟩ W ⟨hI, hRi⟩ hlt
    obtain ⟨q, hq⟩ : ∃ q, pre.map (·.1) = q := ⟨_, rfl⟩
    rw [hq] at hI hRi
    have hrow := runs_row hx
    have hk0 : 0 < k := hrow.pos
    have htop : at_ + k ≤ 8 * n := by rw [← HB.out.2.1]; exact hrow.top
    have htl := hRi.tot_le
    have hBW : Below sw w W := HX.out.1.trans (hI.fr.below sw (fun k e => by rcases e with e | e | e | e <;> omega) (by omega))
    have hcb : W.cell? ⟨sw, 0, none⟩ = some (.slice a n c) := hI.fr.cell HX.out.2.1 (fun e => by have e : sw = E ∨ sw = E + 1 ∨ sw = E + 2 ∨ w2.heap.size ≤ sw := e; omega)
    have hne : ¬ (sw + 1 = E ∨ sw + 1 = E + 1 ∨ sw + 1 = E + 2 ∨ w2.heap.size ≤ sw + 1) := by omega
    have hcr : W.cell? ⟨sw + 1, 0, none⟩ = some (.bool false) := hI.fr.cell HX.out.2.2.1 hne
    have hfr : W.frozen? ⟨sw + 1, 0, none⟩ = false := (frozen_block (hI.fr.block (sw + 1) (by omega) hne)).trans HX.out.2.2.2.1
    have HI : Hid (Bx3 w2 E (E + 1) (E + 2) (endOf q) (tot q) (fst1 q) W ∧ Rise q ∧ Below sw w W ∧ IsRow l at_ k) := ⟨hI, hRi, hBW, hrow⟩
    have hcE := hI.cE
    have hfE := hI.fE
    have hcO := hI.cO
    have hfO := hI.fO
    have hcF := hI.cF
    have hfF := hI.fF
    obtain ⟨e, he⟩ : ∃ e, endOf q = e := ⟨_, rfl⟩
    obtain ⟨o, ho⟩ : ∃ o, tot q = o := ⟨_, rfl⟩
    obtain ⟨f, hf⟩ : ∃ f, fst1 q = f := ⟨_, rfl⟩
    rw [he] at hcE
    rw [ho] at hcO
    rw [hf] at hcF
    have hfn := fst1_neg q
    rw [hf] at hfn
    clear hI hRi hBW hrow
    by_cases hN : Nxt q (at_, k)
    · have hN1 : e ≤ at_ := by rw [← he]; exact hN.1
      have hN2 : at_ = e → at_ = 0 := by rw [← he]; exact hN.2
      have hoe : o ≤ e := by rw [← ho, ← he]; exact htl
      have hw64 : at_ + k ≤ 1125899906840000 := by omega
      have cCt : ∀ W', Below sw w W' → CallsIn Fence.wide 3 Try.prog 10 #[.slice a n c, .int .i64 (at_ : Int), .int .i64 ((at_ : Int) + (k : Int))] W' fun e w' => e = .returned (.tuple #[.int .i64 0, .int .i64 0]) ∧ ∃ m, w' = W'.drewN m := fun W' hW => by
        have h1 := count_yes W' a n c at_ k l (HB.out.1.on (by rw [hsw]; exact hW)) HB.out.2.1 htop
        rw [cn_zeros (fun j hj => HI.out.2.2.2.off _ (by omega) (by omega)), Int.natCast_add] at h1
        exact callsIn_wide.2 h1
      have cG1 : 0 < at_ → ∀ W', Below sw w W' → CallsIn Fence.wide 3 Try.prog 11 #[.slice a n c, .int .i64 ((at_ : Int) - 1)] W' fun e w' => e = .returned (.tuple #[.bool true, .int .i64 0]) ∧ ∃ m, w' = W'.drewN m := fun hat W' hW => by
        have hbW := HB.out.1.on (by rw [hsw]; exact hW)
        obtain ⟨p, rfl⟩ : ∃ p, a = some p := by
          cases a with
          | some p => exact ⟨p, rfl⟩
          | none => have h1 := HB.out.1.nil; have h2 := HB.out.2.1; rw [h1] at h2; simp at h2; omega
        have h1 := get_yes W' p n c (at_ - 1) l hbW HB.out.2.1 (by omega)
        rw [(bt_iff _ _).2 (HI.out.2.2.2.pre hat), show ((at_ - 1 : Nat) : Int) = (at_ : Int) - 1 by omega] at h1
        exact callsIn_wide.2 h1
      have cG2 : at_ + k < 8 * n → ∀ W', Below sw w W' → CallsIn Fence.wide 3 Try.prog 11 #[.slice a n c, .int .i64 ((at_ : Int) + (k : Int))] W' fun e w' => e = .returned (.tuple #[.bool true, .int .i64 0]) ∧ ∃ m, w' = W'.drewN m := fun hat W' hW => by
        have hbW := HB.out.1.on (by rw [hsw]; exact hW)
        obtain ⟨p, rfl⟩ : ∃ p, a = some p := by
          cases a with
          | some p => exact ⟨p, rfl⟩
          | none => have h1 := HB.out.1.nil; have h2 := HB.out.2.1; rw [h1] at h2; simp at h2; omega
        have h1 := get_yes W' p n c (at_ + k) l hbW HB.out.2.1 hat
        rw [(bt_iff _ _).2 (HI.out.2.2.2.post (by rw [HB.out.2.1]; exact hat)), Int.natCast_add] at h1
        exact callsIn_wide.2 h1
      have HBF : Hid (∀ v, Below sw w (W.setCell ⟨E + 2, 0, none⟩ v)) := fun v => HI.out.2.2.1.setCell (p := ⟨E + 2, 0, none⟩) (by show sw ≤ E + 2; omega) v
      have hk1 : ¬ ((k : Int) < 1) := by omega
      have hN3 : ¬ ((at_ : Int) < (e : Int)) := by omega
      have htop' : ¬ (8 * (n : Int) < (at_ : Int) + (k : Int)) := by omega
      by_cases hq0 : q = []
      · have hf0' : f < 0 := hfn.2 hq0
        clear hfn
        by_cases hat : 0 < at_
        · have hat' : (0 : Int) < (at_ : Int) := by omega
          have hae : ((at_ : Int) == (e : Int)) = false := beq_eq_false_iff_ne.2 (fun h => by have := hN2 (by omega); omega)
          by_cases hpo : at_ + k < 8 * n
          · have hpo' : (at_ : Int) + (k : Int) < 8 * (n : Int) := by omega
            gi_wp2_with (first
              | (gi_at_call 10; refine (CallsIn.inRound lp (cCt _ (by first | exact HI.out.2.2.1 | exact HBF.out _ | exact HI.out.2.2.1.trans (belowN_drewN _ _ _) | exact (HBF.out _).trans (belowN_drewN _ _ _)))).mono ?_; rintro e1 w' ⟨rfl, m1, rfl⟩)
              | (gi_at_call 11; have hh := cG1; clear hh; refine (CallsIn.inRound lp (cG1 hat _ (by first | exact HI.out.2.2.1 | exact HBF.out _ | exact HI.out.2.2.1.trans (belowN_drewN _ _ _) | exact (HBF.out _).trans (belowN_drewN _ _ _)))).mono ?_; rintro e1 w' ⟨rfl, m2, rfl⟩; clear cG1)
              | (gi_at_call 11; refine (CallsIn.inRound lp (cG2 hpo _ (by first | exact HI.out.2.2.1 | exact HBF.out _ | exact HI.out.2.2.1.trans (belowN_drewN _ _ _) | exact (HBF.out _).trans (belowN_drewN _ _ _)))).mono ?_; rintro e1 w' ⟨rfl, m3, rfl⟩; clear cG2))
            refine ⟨?kp, ?kq, ?bx, ?ri⟩
            case kp => exact (Rm.set (Rm.set (Rm.drewN (Rm.set (Rm.refl w2.heap.size B g W) (E + 2) _ (by omega) (by omega)) _) E _ (by omega) (by omega)) (E + 1) _ (by omega) (by omega)).keeps
            case kq => exact (Rm.set (Rm.set (Rm.drewN (Rm.set (Rm.refl w2.heap.size B g W) (E + 2) _ (by omega) (by omega)) _) E _ (by omega) (by omega)) (E + 1) _ (by omega) (by omega)).kp
            case ri => rw [List.map_append, hq]; exact HI.out.2.1.snoc (by show endOf q ≤ at_; omega)
            case bx =>
              rw [List.map_append, hq]
              show Bx3 w2 E (E + 1) (E + 2) (endOf (q ++ [(at_, k)])) (tot (q ++ [(at_, k)])) (fst1 (q ++ [(at_, k)])) _
              rw [endOf_snoc, tot_app, fst1_snoc, if_pos hq0]
              have hX := fun y1 y2 m => (((HI.out.1.setF (by omega) (by omega) (at_ : Int)).drewN m).setE (by omega) (by omega) y1).setO (by omega) (by omega) y2
              have e1 : ((tot q + tot [(at_, k)] : Nat) : Int) = (o : Int) + (k : Int) := by simp [tot, ho]
              rw [e1]
              exact hX _ _ _
          · have hpo' : ¬ ((at_ : Int) + (k : Int) < 8 * (n : Int)) := by omega
            gi_wp2_with (first
              | (gi_at_call 10; refine (CallsIn.inRound lp (cCt _ (by first | exact HI.out.2.2.1 | exact HBF.out _ | exact HI.out.2.2.1.trans (belowN_drewN _ _ _) | exact (HBF.out _).trans (belowN_drewN _ _ _)))).mono ?_; rintro e1 w' ⟨rfl, m1, rfl⟩)
              | (gi_at_call 11; have hh := cG1; clear hh; refine (CallsIn.inRound lp (cG1 hat _ (by first | exact HI.out.2.2.1 | exact HBF.out _ | exact HI.out.2.2.1.trans (belowN_drewN _ _ _) | exact (HBF.out _).trans (belowN_drewN _ _ _)))).mono ?_; rintro e1 w' ⟨rfl, m2, rfl⟩; clear cG1))
            refine ⟨?kp, ?kq, ?bx, ?ri⟩
            case kp => exact (Rm.set (Rm.set (Rm.drewN (Rm.set (Rm.refl w2.heap.size B g W) (E + 2) _ (by omega) (by omega)) _) E _ (by omega) (by omega)) (E + 1) _ (by omega) (by omega)).keeps
            case kq => exact (Rm.set (Rm.set (Rm.drewN (Rm.set (Rm.refl w2.heap.size B g W) (E + 2) _ (by omega) (by omega)) _) E _ (by omega) (by omega)) (E + 1) _ (by omega) (by omega)).kp
            case ri => rw [List.map_append, hq]; exact HI.out.2.1.snoc (by show endOf q ≤ at_; omega)
            case bx =>
              rw [List.map_append, hq]
              show Bx3 w2 E (E + 1) (E + 2) (endOf (q ++ [(at_, k)])) (tot (q ++ [(at_, k)])) (fst1 (q ++ [(at_, k)])) _
              rw [endOf_snoc, tot_app, fst1_snoc, if_pos hq0]
              have hX := fun y1 y2 m => (((HI.out.1.setF (by omega) (by omega) (at_ : Int)).drewN m).setE (by omega) (by omega) y1).setO (by omega) (by omega) y2
              have e1 : ((tot q + tot [(at_, k)] : Nat) : Int) = (o : Int) + (k : Int) := by simp [tot, ho]
              rw [e1]
              exact hX _ _ _
        · have hat' : ¬ ((0 : Int) < (at_ : Int)) := by omega
          have hae : ((at_ : Int) == (e : Int)) = true := beq_iff_eq.2 (by omega)
          by_cases hpo : at_ + k < 8 * n
          · have hpo' : (at_ : Int) + (k : Int) < 8 * (n : Int) := by omega
            gi_wp2_with (first
              | (gi_at_call 10; refine (CallsIn.inRound lp (cCt _ (by first | exact HI.out.2.2.1 | exact HBF.out _ | exact HI.out.2.2.1.trans (belowN_drewN _ _ _) | exact (HBF.out _).trans (belowN_drewN _ _ _)))).mono ?_; rintro e1 w' ⟨rfl, m1, rfl⟩)
              | (gi_at_call 11; refine (CallsIn.inRound lp (cG2 hpo _ (by first | exact HI.out.2.2.1 | exact HBF.out _ | exact HI.out.2.2.1.trans (belowN_drewN _ _ _) | exact (HBF.out _).trans (belowN_drewN _ _ _)))).mono ?_; rintro e1 w' ⟨rfl, m3, rfl⟩; clear cG2))
            refine ⟨?kp, ?kq, ?bx, ?ri⟩
            case kp => exact (Rm.set (Rm.set (Rm.drewN (Rm.set (Rm.refl w2.heap.size B g W) (E + 2) _ (by omega) (by omega)) _) E _ (by omega) (by omega)) (E + 1) _ (by omega) (by omega)).keeps
            case kq => exact (Rm.set (Rm.set (Rm.drewN (Rm.set (Rm.refl w2.heap.size B g W) (E + 2) _ (by omega) (by omega)) _) E _ (by omega) (by omega)) (E + 1) _ (by omega) (by omega)).kp
            case ri => rw [List.map_append, hq]; exact HI.out.2.1.snoc (by show endOf q ≤ at_; omega)
            case bx =>
              rw [List.map_append, hq]
              show Bx3 w2 E (E + 1) (E + 2) (endOf (q ++ [(at_, k)])) (tot (q ++ [(at_, k)])) (fst1 (q ++ [(at_, k)])) _
              rw [endOf_snoc, tot_app, fst1_snoc, if_pos hq0]
              have hX := fun y1 y2 m => (((HI.out.1.setF (by omega) (by omega) (at_ : Int)).drewN m).setE (by omega) (by omega) y1).setO (by omega) (by omega) y2
              have e1 : ((tot q + tot [(at_, k)] : Nat) : Int) = (o : Int) + (k : Int) := by simp [tot, ho]
              rw [e1]
              exact hX _ _ _
          · have hpo' : ¬ ((at_ : Int) + (k : Int) < 8 * (n : Int)) := by omega
            gi_wp2_with (first
              | (gi_at_call 10; refine (CallsIn.inRound lp (cCt _ (by first | exact HI.out.2.2.1 | exact HBF.out _ | exact HI.out.2.2.1.trans (belowN_drewN _ _ _) | exact (HBF.out _).trans (belowN_drewN _ _ _)))).mono ?_; rintro e1 w' ⟨rfl, m1, rfl⟩))
            refine ⟨?kp, ?kq, ?bx, ?ri⟩
            case kp => exact (Rm.set (Rm.set (Rm.drewN (Rm.set (Rm.refl w2.heap.size B g W) (E + 2) _ (by omega) (by omega)) _) E _ (by omega) (by omega)) (E + 1) _ (by omega) (by omega)).keeps
            case kq => exact (Rm.set (Rm.set (Rm.drewN (Rm.set (Rm.refl w2.heap.size B g W) (E + 2) _ (by omega) (by omega)) _) E _ (by omega) (by omega)) (E + 1) _ (by omega) (by omega)).kp
            case ri => rw [List.map_append, hq]; exact HI.out.2.1.snoc (by show endOf q ≤ at_; omega)
            case bx =>
              rw [List.map_append, hq]
              show Bx3 w2 E (E + 1) (E + 2) (endOf (q ++ [(at_, k)])) (tot (q ++ [(at_, k)])) (fst1 (q ++ [(at_, k)])) _
              rw [endOf_snoc, tot_app, fst1_snoc, if_pos hq0]
              have hX := fun y1 y2 m => (((HI.out.1.setF (by omega) (by omega) (at_ : Int)).drewN m).setE (by omega) (by omega) y1).setO (by omega) (by omega) y2
              have e1 : ((tot q + tot [(at_, k)] : Nat) : Int) = (o : Int) + (k : Int) := by simp [tot, ho]
              rw [e1]
              exact hX _ _ _
      · have hf0' : ¬ f < 0 := fun h => hq0 (hfn.1 h)
        clear hfn
        by_cases hat : 0 < at_
        · have hat' : (0 : Int) < (at_ : Int) := by omega
          have hae : ((at_ : Int) == (e : Int)) = false := beq_eq_false_iff_ne.2 (fun h => by have := hN2 (by omega); omega)
          by_cases hpo : at_ + k < 8 * n
          · have hpo' : (at_ : Int) + (k : Int) < 8 * (n : Int) := by omega
            gi_wp2_with (first
              | (gi_at_call 10; refine (CallsIn.inRound lp (cCt _ (by first | exact HI.out.2.2.1 | exact HBF.out _ | exact HI.out.2.2.1.trans (belowN_drewN _ _ _) | exact (HBF.out _).trans (belowN_drewN _ _ _)))).mono ?_; rintro e1 w' ⟨rfl, m1, rfl⟩)
              | (gi_at_call 11; have hh := cG1; clear hh; refine (CallsIn.inRound lp (cG1 hat _ (by first | exact HI.out.2.2.1 | exact HBF.out _ | exact HI.out.2.2.1.trans (belowN_drewN _ _ _) | exact (HBF.out _).trans (belowN_drewN _ _ _)))).mono ?_; rintro e1 w' ⟨rfl, m2, rfl⟩; clear cG1)
              | (gi_at_call 11; refine (CallsIn.inRound lp (cG2 hpo _ (by first | exact HI.out.2.2.1 | exact HBF.out _ | exact HI.out.2.2.1.trans (belowN_drewN _ _ _) | exact (HBF.out _).trans (belowN_drewN _ _ _)))).mono ?_; rintro e1 w' ⟨rfl, m3, rfl⟩; clear cG2))
            refine ⟨?kp, ?kq, ?bx, ?ri⟩
            case kp => exact (Rm.set (Rm.set (Rm.drewN (Rm.refl w2.heap.size B g W) _) E _ (by omega) (by omega)) (E + 1) _ (by omega) (by omega)).keeps
            case kq => exact (Rm.set (Rm.set (Rm.drewN (Rm.refl w2.heap.size B g W) _) E _ (by omega) (by omega)) (E + 1) _ (by omega) (by omega)).kp
            case ri => rw [List.map_append, hq]; exact HI.out.2.1.snoc (by show endOf q ≤ at_; omega)
            case bx =>
              rw [List.map_append, hq]
              show Bx3 w2 E (E + 1) (E + 2) (endOf (q ++ [(at_, k)])) (tot (q ++ [(at_, k)])) (fst1 (q ++ [(at_, k)])) _
              rw [endOf_snoc, tot_app, fst1_snoc, if_neg hq0]
              have hX := fun y1 y2 m => (((HI.out.1).drewN m).setE (by omega) (by omega) y1).setO (by omega) (by omega) y2
              have e1 : ((tot q + tot [(at_, k)] : Nat) : Int) = (o : Int) + (k : Int) := by simp [tot, ho]
              rw [e1]
              exact hX _ _ _
          · have hpo' : ¬ ((at_ : Int) + (k : Int) < 8 * (n : Int)) := by omega
            gi_wp2_with (first
              | (gi_at_call 10; refine (CallsIn.inRound lp (cCt _ (by first | exact HI.out.2.2.1 | exact HBF.out _ | exact HI.out.2.2.1.trans (belowN_drewN _ _ _) | exact (HBF.out _).trans (belowN_drewN _ _ _)))).mono ?_; rintro e1 w' ⟨rfl, m1, rfl⟩)
              | (gi_at_call 11; have hh := cG1; clear hh; refine (CallsIn.inRound lp (cG1 hat _ (by first | exact HI.out.2.2.1 | exact HBF.out _ | exact HI.out.2.2.1.trans (belowN_drewN _ _ _) | exact (HBF.out _).trans (belowN_drewN _ _ _)))).mono ?_; rintro e1 w' ⟨rfl, m2, rfl⟩; clear cG1))
            refine ⟨?kp, ?kq, ?bx, ?ri⟩
            case kp => exact (Rm.set (Rm.set (Rm.drewN (Rm.refl w2.heap.size B g W) _) E _ (by omega) (by omega)) (E + 1) _ (by omega) (by omega)).keeps
            case kq => exact (Rm.set (Rm.set (Rm.drewN (Rm.refl w2.heap.size B g W) _) E _ (by omega) (by omega)) (E + 1) _ (by omega) (by omega)).kp
            case ri => rw [List.map_append, hq]; exact HI.out.2.1.snoc (by show endOf q ≤ at_; omega)
            case bx =>
              rw [List.map_append, hq]
              show Bx3 w2 E (E + 1) (E + 2) (endOf (q ++ [(at_, k)])) (tot (q ++ [(at_, k)])) (fst1 (q ++ [(at_, k)])) _
              rw [endOf_snoc, tot_app, fst1_snoc, if_neg hq0]
              have hX := fun y1 y2 m => (((HI.out.1).drewN m).setE (by omega) (by omega) y1).setO (by omega) (by omega) y2
              have e1 : ((tot q + tot [(at_, k)] : Nat) : Int) = (o : Int) + (k : Int) := by simp [tot, ho]
              rw [e1]
              exact hX _ _ _
        · have hat' : ¬ ((0 : Int) < (at_ : Int)) := by omega
          have hae : ((at_ : Int) == (e : Int)) = true := beq_iff_eq.2 (by omega)
          by_cases hpo : at_ + k < 8 * n
          · have hpo' : (at_ : Int) + (k : Int) < 8 * (n : Int) := by omega
            gi_wp2_with (first
              | (gi_at_call 10; refine (CallsIn.inRound lp (cCt _ (by first | exact HI.out.2.2.1 | exact HBF.out _ | exact HI.out.2.2.1.trans (belowN_drewN _ _ _) | exact (HBF.out _).trans (belowN_drewN _ _ _)))).mono ?_; rintro e1 w' ⟨rfl, m1, rfl⟩)
              | (gi_at_call 11; refine (CallsIn.inRound lp (cG2 hpo _ (by first | exact HI.out.2.2.1 | exact HBF.out _ | exact HI.out.2.2.1.trans (belowN_drewN _ _ _) | exact (HBF.out _).trans (belowN_drewN _ _ _)))).mono ?_; rintro e1 w' ⟨rfl, m3, rfl⟩; clear cG2))
            refine ⟨?kp, ?kq, ?bx, ?ri⟩
            case kp => exact (Rm.set (Rm.set (Rm.drewN (Rm.refl w2.heap.size B g W) _) E _ (by omega) (by omega)) (E + 1) _ (by omega) (by omega)).keeps
            case kq => exact (Rm.set (Rm.set (Rm.drewN (Rm.refl w2.heap.size B g W) _) E _ (by omega) (by omega)) (E + 1) _ (by omega) (by omega)).kp
            case ri => rw [List.map_append, hq]; exact HI.out.2.1.snoc (by show endOf q ≤ at_; omega)
            case bx =>
              rw [List.map_append, hq]
              show Bx3 w2 E (E + 1) (E + 2) (endOf (q ++ [(at_, k)])) (tot (q ++ [(at_, k)])) (fst1 (q ++ [(at_, k)])) _
              rw [endOf_snoc, tot_app, fst1_snoc, if_neg hq0]
              have hX := fun y1 y2 m => (((HI.out.1).drewN m).setE (by omega) (by omega) y1).setO (by omega) (by omega) y2
              have e1 : ((tot q + tot [(at_, k)] : Nat) : Int) = (o : Int) + (k : Int) := by simp [tot, ho]
              rw [e1]
              exact hX _ _ _
          · have hpo' : ¬ ((at_ : Int) + (k : Int) < 8 * (n : Int)) := by omega
            gi_wp2_with (first
              | (gi_at_call 10; refine (CallsIn.inRound lp (cCt _ (by first | exact HI.out.2.2.1 | exact HBF.out _ | exact HI.out.2.2.1.trans (belowN_drewN _ _ _) | exact (HBF.out _).trans (belowN_drewN _ _ _)))).mono ?_; rintro e1 w' ⟨rfl, m1, rfl⟩))
            refine ⟨?kp, ?kq, ?bx, ?ri⟩
            case kp => exact (Rm.set (Rm.set (Rm.drewN (Rm.refl w2.heap.size B g W) _) E _ (by omega) (by omega)) (E + 1) _ (by omega) (by omega)).keeps
            case kq => exact (Rm.set (Rm.set (Rm.drewN (Rm.refl w2.heap.size B g W) _) E _ (by omega) (by omega)) (E + 1) _ (by omega) (by omega)).kp
            case ri => rw [List.map_append, hq]; exact HI.out.2.1.snoc (by show endOf q ≤ at_; omega)
            case bx =>
              rw [List.map_append, hq]
              show Bx3 w2 E (E + 1) (E + 2) (endOf (q ++ [(at_, k)])) (tot (q ++ [(at_, k)])) (fst1 (q ++ [(at_, k)])) _
              rw [endOf_snoc, tot_app, fst1_snoc, if_neg hq0]
              have hX := fun y1 y2 m => (((HI.out.1).drewN m).setE (by omega) (by omega) y1).setO (by omega) (by omega) y2
              have e1 : ((tot q + tot [(at_, k)] : Nat) : Int) = (o : Int) + (k : Int) := by simp [tot, ho]
              rw [e1]
              exact hX _ _ _
    · have hxi : WhX l .ret (pre ++ [⟨(at_, k), hx⟩]) W := ⟨pre, ⟨(at_, k), hx⟩, rfl, by rw [hq]; exact hN⟩
      have hN' : at_ < e ∨ (at_ = e ∧ 0 < at_) := by
        have h1 : ¬ (e ≤ at_ ∧ (at_ = e → at_ = 0)) := by rw [← he]; exact hN
        omega
      have hk1 : ¬ ((k : Int) < 1) := by omega
      clear hN hfn
      rcases hN' with hN | ⟨hN, hN2⟩
      · have hN' : (at_ : Int) < (e : Int) := by omega
        gi_wp2
        exact ⟨(Rm.set (Rm.refl w2.heap.size B g W) (sw + 1) _ (by omega) (by omega)).keeps, hxi⟩
      · subst hN
        have hN' : (0 : Int) < (at_ : Int) := by omega
        gi_wp2
        exact ⟨(Rm.set (Rm.refl w2.heap.size B g W) (sw + 1) _ (by omega) (by omega)).keeps, hxi⟩
  case done =>
    rintro D ys W hD hS ⟨hI, hRi⟩ hK
    clear hRi
    rw [hS] at hI
    have hBW : Below sw w W := HX.out.1.trans (hI.fr.below sw (fun k e => by rcases e with e | e | e | e <;> omega) (by omega))
    have hcb : W.cell? ⟨sw, 0, none⟩ = some (.slice a n c) := hI.fr.cell HX.out.2.1 (fun e => by have e : sw = E ∨ sw = E + 1 ∨ sw = E + 2 ∨ w2.heap.size ≤ sw := e; omega)
    have hne : ¬ (sw + 1 = E ∨ sw + 1 = E + 1 ∨ sw + 1 = E + 2 ∨ w2.heap.size ≤ sw + 1) := by omega
    have hcr : W.cell? ⟨sw + 1, 0, none⟩ = some (.bool false) := hI.fr.cell HX.out.2.2.1 hne
    have hfr : W.frozen? ⟨sw + 1, 0, none⟩ = false := (frozen_block (hI.fr.block (sw + 1) (by omega) hne)).trans HX.out.2.2.2.1
    have hcO := hI.cO
    have hcF := hI.cF
    obtain ⟨o, ho⟩ : ∃ o, (tot (runs l) : Int) = o := ⟨_, rfl⟩
    obtain ⟨f, hf⟩ : ∃ f, fst1 (runs l) = f := ⟨_, rfl⟩
    obtain ⟨q, hq⟩ : ∃ q, cn l 0 (8 * n) = q := ⟨_, rfl⟩
    have hlow : low l 0 = f := by
      rw [runs_first, ← hf]
      cases runs l <;> rfl
    have hsum : q + o = 8 * (n : Int) := by
      have := runs_tot l
      rw [HB.out.2.1, hq, ho] at this
      omega
    have hob : 0 ≤ o := by omega
    have hqb := cn_bd l 0 (8 * n)
    rw [hq] at hqb
    rw [ho] at hcO
    rw [hf] at hcF
    have HW : Hid (Below sw w W) := hBW
    have HK : Hid (W.heap[D]? = some (.deferred (some []))) := hK
    clear hI hBW hK
    rename_i hkk
    refine hkk _ _ (wpIn_wide.2 ?_)
    have cC : Calls Try.prog 10 #[.slice a n c, .int .i64 0, .int .i64 (8 * (n : Int))] W fun e w' => e = .returned (.tuple #[.int .i64 q, .int .i64 0]) ∧ Below sw w w' ∧ w'.cell? ⟨sw, 0, none⟩ = some (.slice a n c) ∧ w'.cell? ⟨sw + 1, 0, none⟩ = some (.bool false) ∧ w'.frozen? ⟨sw + 1, 0, none⟩ = false ∧ w'.cell? ⟨E + 1, 0, none⟩ = some (.int .i64 o) ∧ w'.cell? ⟨E + 2, 0, none⟩ = some (.int .i64 f) ∧ w'.heap[D]? = some (.deferred (some [])) := by
      have h1 := count_yes W a n c 0 (8 * n) l (HB.out.1.on (by rw [hsw]; exact HW.out)) HB.out.2.1 (by omega)
      rw [hq, Nat.zero_add, Int.natCast_mul] at h1
      refine h1.mono ?_
      rintro e w' ⟨rfl, m, rfl⟩
      exact ⟨rfl, HW.out.trans (belowN_drewN _ _ _), hcb, hcr, hfr, hcO, hcF, HK.out⟩
    go_upto_region 30 with (go_at_call 10; refine cC.mono ?_; rintro e W1 ⟨rfl, hBW1, hcb1, hcr1, hfr1, hcO1, hcF1, hK1⟩)
    clear cC hcb hcr hfr hcO hcF
    have HW1 : Hid (Below sw w W1 ∧ W1.heap[D]? = some (.deferred (some []))) := ⟨hBW1, hK1⟩
    clear hBW1 hK1
    have cL : ∀ (i : Int) (m : Nat), i ≤ 9223372036854775807 → Calls Try.prog 12 #[.slice a n c, .int .i64 i] (W1.drewN m) fun e w' => e = .returned (.int .i64 (low l i.toNat)) ∧ ∃ k, w' = (W1.drewN m).drewN k := fun i m hi => low_any _ a n c i l (HB.out.1.on (by rw [hsw]; exact HW1.out.1.trans (belowN_drewN _ _ _))) HB.out.2.1 hi
    have cL0 : ∀ m : Nat, Calls Try.prog 12 #[.slice a n c, .int .i64 0] (W1.drewN m) fun e w' => e = .returned (.int .i64 f) ∧ ∃ k, w' = (W1.drewN m).drewN k := fun m => by
      have h1 := cL 0 m (by decide)
      rw [show low l (0 : Int).toNat = f from hlow] at h1
      exact h1
    have hf1' : (8 * (n : Int) == 8 * (n : Int)) = true := by simp
    go_quiet (first | (go_at_call 12; refine Calls.quiet_of (cL0 _)))
    (try go_wp2)
    clear cL0 hf1'
    go_loopw [17, 18] (fun s17 s18 wr => ∃ (j : Nat) (z i : Int), j ≤ 8 * n ∧ i = (j : Int) - 1 ∧ s18 = .int .i64 i ∧ s17 = .int .i64 z ∧ z = low l j ∧ ∃ m, wr = W1.drewN m) (fun _ s _ => (intOf s + 1).toNat)
    case atStart => exact ⟨8 * n, -1, 8 * (n : Int) - 1, Nat.le_refl _, by omega, rfl, rfl, (low_end (by rw [HB.out.2.1]; omega)).symm, _, rfl⟩
    case round =>
      obtain ⟨j, z, i, hj, hij, rfl, rfl, hz, m, rfl⟩ := hrel
      have HZ : Hid (z = low l j) := hz
      have hzb := low_bd l j
      rw [← hz, HB.out.2.1] at hzb
      clear hz
      have hE1 : ∀ Q : Prop, (Q → ∃ e, e = Q) := fun Q _ => ⟨Q, rfl⟩
      clear hE1
      by_cases hgo : 0 ≤ i ∧ 8 * (n : Int) - 400 < i
      · obtain ⟨hi0, hi1⟩ := hgo
        obtain ⟨y, hy⟩ : ∃ y : Nat, (y : Int) = i := ⟨i.toNat, by omega⟩
        subst hy
        have hyj : j = y + 1 := by omega
        have hyn : y < 8 * n := by omega
        obtain ⟨p, rfl⟩ : ∃ p, a = some p := by
          cases a with
          | some p => exact ⟨p, rfl⟩
          | none => have h1 := HB.out.1.nil; have h2 := HB.out.2.1; rw [h1] at h2; simp at h2; omega
        have hbW : ∀ k, Bytes (W1.drewN k) (some p) l := fun k => HB.out.1.on (by rw [hsw]; exact HW1.out.1.trans (belowN_drewN _ _ _))
        have cG := fun k => get_yes (W1.drewN k) p n c y l (hbW k) HB.out.2.1 hyn
        have cL := fun k => low_any (W1.drewN k) (some p) n c (y : Int) l (hbW k) HB.out.2.1 (by omega)
        simp only [Int.toNat_natCast] at cL
        clear hij
        rcases hbit : bt l y with _ | _
        · have hlw : low l y = (y : Int) := low_here ((bt_not l y).1 hbit) (by rw [HB.out.2.1]; exact hyn)
          rw [hlw] at cL
          rw [hbit] at cG
          go_wp2_with (first
            | (go_at_call 11; refine (cG _).mono ?_; rintro e w' ⟨rfl, k1, rfl⟩)
            | (go_at_call 12; refine (cL _).mono ?_; rintro e w' ⟨rfl, k2, rfl⟩))
          go_round
          case rel => exact ⟨y, (y : Int), (y : Int) - 1, by omega, rfl, by go_num, rfl, hlw.symm, _, rfl⟩
          case measure => simp [intOf]
        · have hlw : low l y = z := by rw [HZ.out, hyj]; exact low_step ((bt_iff l y).1 hbit)
          rw [hlw] at cL
          rw [hbit] at cG
          go_wp2_with (first
            | (go_at_call 11; refine (cG _).mono ?_; rintro e w' ⟨rfl, k1, rfl⟩)
            | (go_at_call 12; refine (cL _).mono ?_; rintro e w' ⟨rfl, k2, rfl⟩))
          go_round
          case rel => exact ⟨y, z, (y : Int) - 1, by omega, rfl, by go_num, rfl, hlw.symm, _, rfl⟩
          case measure => simp [intOf]
      · clear hij
        by_cases hi0 : 0 ≤ i
        · have hi1 : ¬ (8 * (n : Int) - 400 < i) := fun h => hgo ⟨hi0, h⟩
          go_wp2
          have hK' : ((W1.drewN m).setCell ⟨sw + 1, 0, none⟩ (.bool true)).heap[D]? = some (.deferred (some [])) := (set_other (by omega)).trans HW1.out.2
          have hc5 := cell_kept (World.cell?_setCell_same' (W1.drewN m) ⟨sw + 1, 0, none⟩ (.bool true) (by show (W1.cell? _).isSome = true; rw [hcr1]; rfl)) (grownBy_putObj' _ D (.deferred none)) (fun r e => by cases e; exact ⟨_, hK', rfl⟩)
          refine ⟨by simp, .inl ⟨_, _, rfl, run_takeDeferred hK', ?_⟩⟩
          refine ⟨.bool true, ?_, rfl, ((HW1.out.1.trans (belowN_drewN _ _ m)).setCell (p := ⟨sw + 1, 0, none⟩) (by show sw ≤ sw + 1; omega) _).trans (belowK_b (w := w) (by omega) _ D _ _ (by omega) hK' rfl rfl)⟩
          simp [results, Try.f3, go_sem, hc5]
        · have hi0' : i < 0 := by omega
          go_wp2
          have hK' : ((W1.drewN m).setCell ⟨sw + 1, 0, none⟩ (.bool true)).heap[D]? = some (.deferred (some [])) := (set_other (by omega)).trans HW1.out.2
          have hc5 := cell_kept (World.cell?_setCell_same' (W1.drewN m) ⟨sw + 1, 0, none⟩ (.bool true) (by show (W1.cell? _).isSome = true; rw [hcr1]; rfl)) (grownBy_putObj' _ D (.deferred none)) (fun r e => by cases e; exact ⟨_, hK', rfl⟩)
          refine ⟨by simp, .inl ⟨_, _, rfl, run_takeDeferred hK', ?_⟩⟩
          refine ⟨.bool true, ?_, rfl, ((HW1.out.1.trans (belowN_drewN _ _ m)).setCell (p := ⟨sw + 1, 0, none⟩) (by show sw ≤ sw + 1; omega) _).trans (belowK_b (w := w) (by omega) _ D _ _ (by omega) hK' rfl rfl)⟩
          simp [results, Try.f3, go_sem, hc5]
end Go.Proofs.Ytlgjkmfekkegbaa
