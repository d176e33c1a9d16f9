import Derived.Test.YtlgjkmfekkegbaaBtQ
import Derived.Test.YtlgjkmfekkegbaaBtF
import Derived.ChangeKeysEq
namespace Go.Proofs.Ytlgjkmfekkegbaa
open Go.RowKit Go.Shelf Rec
attribute [local go_sem] Oper.semAt_some

theorem neq42 (w : World) (a b c d : Int) : (binOp .neq 42 (.agg #[.int .i64 a, .int .i64 b]) (.agg #[.int .i64 c, .int .i64 d])).run Try.prog w = .ok (.bool (!(decide (a = c) && decide (b = d)))) w := by
  obtain ⟨i0, hi0, hz0, hz1, hz2⟩ := info_parts info3q
  have hce : Try.prog.cellsOf 3 = 1 := by kernel_rfl
  have hi : ∀ (e : Nat) (x y : Int) (w : World), (Op.equalIn (e + 1) 3 (.int .i64 x) (.int .i64 y)).run Try.prog w = .ok (x == y) w := fun e x y w => by
    simp [Op.equalIn, run_underlying Try.underlying3]
  have hp : ∀ (x y : Int) (w : World), (part 3 #[.int .i64 x, .int .i64 y] 0).run Try.prog w = .ok (.int .i64 x) w ∧ (part 3 #[.int .i64 x, .int .i64 y] 1).run Try.prog w = .ok (.int .i64 y) w := fun x y w => by
    constructor <;> simp [part, typeInfo, sizeOf, hi0, hz1]
  have h : ∀ e : Nat, (Op.equalIn (e + 2) 42 (.agg #[.int .i64 a, .int .i64 b]) (.agg #[.int .i64 c, .int .i64 d])).run Try.prog w = .ok (decide (a = c) && decide (b = d)) w := fun e => by
    rw [run_equalIn_array w (e + 1) _ _ Try.underlying42 hi0, hce]
    show (Op.eqItems (e + 1) 3 1 _ _ [0, 1]).run Try.prog w = _
    by_cases h1 : a = c
    · by_cases h2 : b = d
      · simp [Op.eqItems, hp, hi, h1, h2]
      · simp [Op.eqItems, hp, hi, h1, h2]
    · simp [Op.eqItems, hp, hi, h1]
  simp only [binOp]
  simp [Op.equal, Op.maxDepth, h 9998]
/-- the rows of s, as the law's list has them -/
def Pairs (w : World) (v : Value) (L : List (Nat × Nat)) : Prop := w.ownsRow 0 42 2 v L.length (flatP L)
theorem Pairs.on {w w' : World} {v : Value} {L : List (Nat × Nat)} (h : Pairs w v L) (hb : Below w.heap.size w w') : Pairs w' v L := owns_fr h (below_fr hb (fun _ => False)) (fun _ _ h => h)
/-- a round has left: a row came that is none of these, or there were enough -/
def GoX (w : World) (S : Nat) (most : Int) (s : List Int) (c : Code) (pre : List (Rw s)) (W : World) : Prop := (c = .ret ∧ ¬ (pre.map (·.1) <+: runs s)) ∨ (c = .exit 0 ∧ BoxI w S most W)
theorem GoX.own (w : World) (S : Nat) (most : Int) (s : List Int) (c : Code) (hS : S < w.heap.size) : OwnFrom w.heap.size (GoX w S most s c) := fun pre W W' row h hg hr => by
  rcases h with h | ⟨h1, h2⟩
  · exact .inl h
  · exact .inr ⟨h1, BoxI.own (β := Unit) w S (fun _ => most) hS () W W' row h2 hg hr⟩
def GoI (w : World) (S : Nat) (s : List Int) (pre : List (Rw s)) (W : World) : Prop := BoxI w S (pre.length : Int) W ∧ pre.map (·.1) <+: runs s
theorem GoI.own (w : World) (S : Nat) (s : List Int) (hS : S < w.heap.size) : OwnFrom w.heap.size (GoI w S s) := fun pre W W' row h hg hr => ⟨BoxI.own (β := Unit) w S (fun _ => (pre.length : Int)) hS () W W' row h.1 hg hr, h.2⟩
theorem pre_next {α : Type} {p all : List α} {x y : α} (h : p <+: all) (hx : all[p.length]? = some y) : (p ++ [x] <+: all) ↔ x = y := by
  obtain ⟨t, rfl⟩ := h
  rw [List.getElem?_append_right (Nat.le_refl _), Nat.sub_self] at hx
  cases t with
  | nil => simp at hx
  | cons z t =>
    simp at hx
    subst hx
    constructor
    · rintro ⟨u, hu⟩
      rw [List.append_assoc] at hu
      have := List.append_cancel_left hu
      simp at this
      exact this.1
    · rintro rfl
      exact ⟨t, by simp⟩
set_option maxRecDepth 100000 in
set_option maxHeartbeats 8000000 in
theorem goes_any (w : World) (B g cap : Nat) (s : List Int) (hsq : SeqAt w B g cap s) (hlen : s.length ≤ 10000000) (v : Value) (hv : Pairs w v (runs s)) (most : Int) (hm : 0 ≤ most) :
    Calls Try.prog 17 #[.func (.func 20) #[] #[.pointer (some ⟨B, 0, none⟩)], v, .int .i64 most] w fun e w' => e = .returned (.bool true) ∧ Below w.heap.size w w' := by
  refine (callsIn_wide (n := 6)).1 ?_
  obtain ⟨av, cv, rfl⟩ := own_sl hv
  obtain ⟨R, hR⟩ : ∃ R, (runs s).length = R := ⟨_, rfl⟩
  have hRb : R ≤ 80000000 := by have := runs_len s; omega
  have HQ : Hid (SeqAt w B g cap s ∧ Pairs w (.slice av (runs s).length cv) (runs s) ∧ (runs s).length = R) := ⟨hsq, hv, hR⟩
  have hBl := hsq.ltB
  have hgl := hsq.ltg
  have E42 := neq42
  rw [hR]
  clear hsq hv hR
  refine callsIn_of_wp_marks Try.func17 rfl trivial ?_ rfl
  simp only [Try.ntmps17, List.size_toArray, List.length_cons, List.length_nil, Nat.reduceAdd, Nat.reduceSub, Array.replicate_succ, Array.replicate_zero, List.push_toArray, List.append_toArray, List.nil_append, List.cons_append]
  gi_wp2
  obtain ⟨wa, hwa⟩ : ∃ wa, (((w.alloc (.cells #[.slice av R cv] 38)).alloc (.cells #[.int .i64 most] 3)).alloc (.cells #[.bool false] 4)).alloc (.cells #[.int .i64 0] 3) = wa := ⟨_, rfl⟩
  have HA : Hid (Below w.heap.size w wa ∧ wa.heap.size = w.heap.size + 4 ∧ wa.heap[w.heap.size]? = some (.cells #[.slice av R cv] 38 (0, 0)) ∧ wa.heap[w.heap.size + 1]? = some (.cells #[.int .i64 most] 3 (0, 0)) ∧ wa.heap[w.heap.size + 2]? = some (.cells #[.bool false] 4 (0, 0)) ∧ wa.heap[w.heap.size + 3]? = some (.cells #[.int .i64 0] 3 (0, 0))) := by
    rw [← hwa]
    refine ⟨((((Below.refl _ _).alloc (Nat.le_refl _) _).alloc (by simp) _).alloc (by simp <;> omega) _).alloc (by simp <;> omega) _, by simp, ?_, ?_, ?_, ?_⟩
    · exact (Below.heap_alloc _ _ _ (by simp <;> omega)).trans ((Below.heap_alloc _ _ _ (by simp <;> omega)).trans ((Below.heap_alloc _ _ _ (by simp)).trans (heap_alloc_new _ _)))
    · refine (Below.heap_alloc _ _ _ (by simp <;> omega)).trans ((Below.heap_alloc _ _ _ (by simp)).trans ?_)
      have := heap_alloc_new (w.alloc (.cells #[.slice av R cv] 38)) (.cells #[.int .i64 most] 3)
      rw [World.size_alloc] at this
      exact this
    · refine (Below.heap_alloc _ _ _ (by simp)).trans ?_
      have := heap_alloc_new ((w.alloc (.cells #[.slice av R cv] 38)).alloc (.cells #[.int .i64 most] 3)) (.cells #[.bool false] 4)
      rw [World.size_alloc, World.size_alloc] at this
      exact this
    · have := heap_alloc_new (((w.alloc (.cells #[.slice av R cv] 38)).alloc (.cells #[.int .i64 most] 3)).alloc (.cells #[.bool false] 4)) (.cells #[.int .i64 0] 3)
      rw [World.size_alloc, World.size_alloc, World.size_alloc] at this
      exact this
  rw [hwa]
  obtain ⟨sw, hsw⟩ : ∃ sw, w.heap.size = sw := ⟨_, rfl⟩
  rw [hsw] at HA hBl hgl
  simp only [hsw]
  have hsa := HA.out.2.1
  clear hwa
  refine wpIn_rangeFunc_ownG rfl (by omega) (gf := 20) (lb := #[.pointer (some ⟨B, 0, none⟩)]) rfl trivial (enters_of Try.func20 (by kernel_rfl) rfl)
    (runs_stops B g cap s w HQ.out.1 (by omega)) (fun h k => h.trans k) (KpB.put (by omega) (by omega)) (by rw [hsw]; exact HA.out.1) (fun _ => rfl)
    (GoI wa (sw + 3) s) (GoX wa (sw + 3) most s) (GoI.own wa (sw + 3) s (by omega)) (fun c => GoX.own wa (sw + 3) most s c (by omega)) ⟨⟨by rw [cell_of_row _ _ _ _ _ _ HA.out.2.2.2.2.2]; rfl, frozen_of_row _ _ _ _ _ HA.out.2.2.2.2.2, Fr.refl _ _⟩, by exact List.nil_prefix⟩ ?a1 ?assign ?body ?done ?stop
  case assign =>
    intro l x W K hK
    gi_wp2
    exact hK
  case body =>
    rintro lp pre ⟨⟨at_, k⟩, hx⟩ W ⟨hI, hpre⟩ hlt
    rw [HQ.out.2.2] at hlt
    have hrow := runs_row hx
    have htop := hrow.top
    have hcn := hI.cell
    have hfn := hI.frozen
    obtain ⟨j, hj⟩ : ∃ j, pre.length = j := ⟨_, rfl⟩
    rw [hj] at hcn hlt
    have hnS : ∀ q, q < sw + 3 → ¬ (q = sw + 3 ∨ wa.heap.size ≤ q) := fun q hq => by omega
    have hcw : W.cell? ⟨sw, 0, none⟩ = some (.slice av R cv) := hI.fr.cell (by rw [cell_of_row _ _ _ _ _ _ HA.out.2.2.1]; rfl) (hnS sw (by omega))
    have hcm : W.cell? ⟨sw + 1, 0, none⟩ = some (.int .i64 most) := hI.fr.cell (by rw [cell_of_row _ _ _ _ _ _ HA.out.2.2.2.1]; rfl) (hnS (sw + 1) (by omega))
    have hcr : W.cell? ⟨sw + 2, 0, none⟩ = some (.bool false) := hI.fr.cell (by rw [cell_of_row _ _ _ _ _ _ HA.out.2.2.2.2.1]; rfl) (hnS (sw + 2) (by omega))
    have hfr : W.frozen? ⟨sw + 2, 0, none⟩ = false := (frozen_block (hI.fr.block (sw + 2) (by omega) (hnS _ (by omega)))).trans (frozen_of_row _ _ _ _ _ HA.out.2.2.2.2.1)
    have hPw : Pairs W (.slice av R cv) (runs s) := by
      have h1 : Pairs W (.slice av (runs s).length cv) (runs s) := HQ.out.2.1.on (by rw [hsw]; exact HA.out.1.trans (hI.fr.below sw (fun k e => by rcases e with e | e <;> omega) (by omega)))
      rw [HQ.out.2.2] at h1
      exact h1
    unfold Pairs at hPw
    rw [HQ.out.2.2] at hPw
    obtain ⟨gv, rfl⟩ := own_at hPw (by omega)
    obtain ⟨p, hp⟩ : ∃ p, (runs s)[j]? = some p := ⟨(runs s)[j]'(by rw [HQ.out.2.2]; exact hlt), List.getElem?_eq_getElem _⟩
    have hg1 := (hPw.cellAt (j * 2) (by omega)).trans (flatP_get _ j p hp).1
    have hg2 := (hPw.cellAt (j * 2 + 1) (by omega)).trans (flatP_get _ j p hp).2
    have hmem := runs_row (List.mem_of_getElem? hp)
    have htop2 := hmem.top
    obtain ⟨p1, p2⟩ := p
    dsimp only at hg1 hg2 htop2 htop
    have HI : Hid (BoxI wa (sw + 3) (j : Int) W ∧ pre.map (·.1) <+: runs s ∧ pre.length = j ∧ (runs s)[j]? = some (p1, p2)) := ⟨(by rw [← hj]; exact hI), hpre, hj, hp⟩
    have hnx : Hid ((pre.map (·.1) ++ [(at_, k)] <+: runs s) ↔ (at_, k) = (p1, p2)) := pre_next hpre (by rw [List.length_map, hj]; exact hp)
    clear hI hpre hj hp hPw hrow hmem
    by_cases hmo : (j : Int) = most
    · subst hmo
      gi_wp2
      exact ⟨(KeepsOthers.refl _).from _, .inr ⟨rfl, HI.out.1⟩⟩
    · have hmo' : ((j : Int) == most) = false := beq_eq_false_iff_ne.2 hmo
      have hjR : ¬ ((R : Int) ≤ (j : Int)) := by omega
      clear hmo
      by_cases heq : at_ = p1 ∧ k = p2
      · obtain ⟨rfl, rfl⟩ := heq
        gi_wp2
        refine ⟨(Rm.set (Rm.refl _ B g W) (sw + 3) _ (by omega) (by omega)).keeps, (Rm.set (Rm.refl 0 B g W) (sw + 3) _ (by omega) (by omega)).kp, ?_, ?_⟩
        · rw [List.length_append, HI.out.2.2.1]
          exact HI.out.1.set _
        · rw [List.map_append]
          first | exact hnx.out.2 rfl | exact hnx.out.2 trivial
      · have hne : (!(decide ((p1 : Int) = (at_ : Int)) && decide ((p2 : Int) = (k : Int)))) = true := by
          simp only [Bool.not_eq_true', Bool.and_eq_false_iff, decide_eq_false_iff_not]
          omega
        have hxi : ¬ ((pre ++ [(⟨(at_, k), hx⟩ : Rw s)]).map (·.1) <+: runs s) := by
          rw [List.map_append]
          exact fun h => heq (by have := hnx.out.1 h; simp at this; exact this)
        clear heq hnx
        gi_wp2
        exact ⟨(Rm.set (Rm.refl _ B g W) (sw + 2) _ (by omega) (by omega)).keeps, .inl ⟨rfl, hxi⟩⟩
  case done =>
    rintro D ys W hD hS ⟨hI, hpre⟩ hK
    have hyl : ys.length = R := by rw [← HQ.out.2.2, ← hS, List.length_map]
    rw [hyl] at hI
    clear hyl hS hpre
    have hnS : ∀ q, q < sw + 3 → ¬ (q = sw + 3 ∨ wa.heap.size ≤ q) := fun q hq => by omega
    have hcw : W.cell? ⟨sw, 0, none⟩ = some (.slice av R cv) := hI.fr.cell (by rw [cell_of_row _ _ _ _ _ _ HA.out.2.2.1]; rfl) (hnS sw (by omega))
    have hcm : W.cell? ⟨sw + 1, 0, none⟩ = some (.int .i64 most) := hI.fr.cell (by rw [cell_of_row _ _ _ _ _ _ HA.out.2.2.2.1]; rfl) (hnS (sw + 1) (by omega))
    have hcr : W.cell? ⟨sw + 2, 0, none⟩ = some (.bool false) := hI.fr.cell (by rw [cell_of_row _ _ _ _ _ _ HA.out.2.2.2.2.1]; rfl) (hnS (sw + 2) (by omega))
    have hfr : W.frozen? ⟨sw + 2, 0, none⟩ = false := (frozen_block (hI.fr.block (sw + 2) (by omega) (hnS _ (by omega)))).trans (frozen_of_row _ _ _ _ _ HA.out.2.2.2.2.1)
    have hBW : Below sw w W := HA.out.1.trans (hI.fr.below sw (fun k e => by rcases e with e | e <;> omega) (by omega))
    have hcn := hI.cell
    have HK : Hid (W.heap[D]? = some (.deferred (some [])) ∧ Below sw w W) := ⟨hK, hBW⟩
    clear hK hBW hI
    gi_wp2
    have hK' : (W.setCell ⟨sw + 2, 0, none⟩ (.bool true)).heap[D]? = some (.deferred (some [])) := (set_other (by omega)).trans HK.out.1
    have hc5 := cell_kept (World.cell?_setCell_same' W ⟨sw + 2, 0, none⟩ (.bool true) (by rw [hcr]; rfl)) (grownBy_putObj' _ D (.deferred none)) (fun r e => by cases e; exact ⟨_, hK', rfl⟩)
    refine ⟨by simp, .inl ⟨_, _, rfl, run_takeDeferred hK', ?_⟩⟩
    refine ⟨.bool true, ?_, rfl, by first | exact (HK.out.2.setCell (p := ⟨sw + 2, 0, none⟩) (by show sw ≤ sw + 2; omega) _).trans (belowK_b (w := w) (by omega) _ D _ _ (by omega) hK' rfl rfl) | (rw [hsw]; exact (HK.out.2.setCell (p := ⟨sw + 2, 0, none⟩) (by show sw ≤ sw + 2; omega) _).trans (belowK_b (w := w) (by omega) _ D _ _ (by omega) hK' rfl rfl))⟩
    simp [results, Try.f17, go_sem, hc5]
  case stop =>
    rintro D c pre W hD hS hX hK
    rcases hX with ⟨rfl, hX⟩ | ⟨rfl, hI⟩
    · exact absurd hS hX
    · have hnS : ∀ q, q < sw + 3 → ¬ (q = sw + 3 ∨ wa.heap.size ≤ q) := fun q hq => by omega
      have hcw : W.cell? ⟨sw, 0, none⟩ = some (.slice av R cv) := hI.fr.cell (by rw [cell_of_row _ _ _ _ _ _ HA.out.2.2.1]; rfl) (hnS sw (by omega))
      have hcm : W.cell? ⟨sw + 1, 0, none⟩ = some (.int .i64 most) := hI.fr.cell (by rw [cell_of_row _ _ _ _ _ _ HA.out.2.2.2.1]; rfl) (hnS (sw + 1) (by omega))
      have hcr : W.cell? ⟨sw + 2, 0, none⟩ = some (.bool false) := hI.fr.cell (by rw [cell_of_row _ _ _ _ _ _ HA.out.2.2.2.2.1]; rfl) (hnS (sw + 2) (by omega))
      have hfr : W.frozen? ⟨sw + 2, 0, none⟩ = false := (frozen_block (hI.fr.block (sw + 2) (by omega) (hnS _ (by omega)))).trans (frozen_of_row _ _ _ _ _ HA.out.2.2.2.2.1)
      have hBW : Below sw w W := HA.out.1.trans (hI.fr.below sw (fun k e => by rcases e with e | e <;> omega) (by omega))
      have hcn := hI.cell
      have HK : Hid (W.heap[D]? = some (.deferred (some [])) ∧ Below sw w W) := ⟨hK, hBW⟩
      clear hK hBW hI
      by_cases hmR : most = (R : Int)
      · subst hmR
        gi_wp2
        have hK' : (W.setCell ⟨sw + 2, 0, none⟩ (.bool true)).heap[D]? = some (.deferred (some [])) := (set_other (by omega)).trans HK.out.1
        have hc5 := cell_kept (World.cell?_setCell_same' W ⟨sw + 2, 0, none⟩ (.bool true) (by rw [hcr]; rfl)) (grownBy_putObj' _ D (.deferred none)) (fun r e => by cases e; exact ⟨_, hK', rfl⟩)
        refine ⟨by simp, .inl ⟨_, _, rfl, run_takeDeferred hK', ?_⟩⟩
        refine ⟨.bool true, ?_, rfl, by first | exact (HK.out.2.setCell (p := ⟨sw + 2, 0, none⟩) (by show sw ≤ sw + 2; omega) _).trans (belowK_b (w := w) (by omega) _ D _ _ (by omega) hK' rfl rfl) | (rw [hsw]; exact (HK.out.2.setCell (p := ⟨sw + 2, 0, none⟩) (by show sw ≤ sw + 2; omega) _).trans (belowK_b (w := w) (by omega) _ D _ _ (by omega) hK' rfl rfl))⟩
        simp [results, Try.f17, go_sem, hc5]
      · have hmR' : (most == (R : Int)) = false := beq_eq_false_iff_ne.2 hmR
        gi_wp2
        have hK' : (W.setCell ⟨sw + 2, 0, none⟩ (.bool true)).heap[D]? = some (.deferred (some [])) := (set_other (by omega)).trans HK.out.1
        have hc5 := cell_kept (World.cell?_setCell_same' W ⟨sw + 2, 0, none⟩ (.bool true) (by rw [hcr]; rfl)) (grownBy_putObj' _ D (.deferred none)) (fun r e => by cases e; exact ⟨_, hK', rfl⟩)
        refine ⟨by simp, .inl ⟨_, _, rfl, run_takeDeferred hK', ?_⟩⟩
        refine ⟨.bool true, ?_, rfl, by first | exact (HK.out.2.setCell (p := ⟨sw + 2, 0, none⟩) (by show sw ≤ sw + 2; omega) _).trans (belowK_b (w := w) (by omega) _ D _ _ (by omega) hK' rfl rfl) | (rw [hsw]; exact (HK.out.2.setCell (p := ⟨sw + 2, 0, none⟩) (by show sw ≤ sw + 2; omega) _).trans (belowK_b (w := w) (by omega) _ D _ _ (by omega) hK' rfl rfl))⟩
        simp [results, Try.f17, go_sem, hc5]
end Go.Proofs.Ytlgjkmfekkegbaa
