import Derived.Test.YtlgjkmfekkegbaaBtD
namespace Go.Proofs.Ytlgjkmfekkegbaa
open Go.RowKit Go.Shelf Rec
attribute [local go_sem] Oper.semAt_some

theorem fr_drewN {S : Nat → Prop} {w w' : World} (h : Fr S w w') (m : Nat) : Fr S w (w'.drewN m) := ⟨h.os, h.tape, h.output, h.size, h.block⟩
theorem frN (S : Nat → Prop) (w : World) (m : Nat) : Fr S w (w.drewN m) := ⟨rfl, rfl, rfl, Nat.le_refl _, fun _ _ _ => rfl⟩
theorem OwnB.drewN {w : World} {g cap : Nat} {l : List Int} (h : OwnB w g cap l) (m : Nat) : OwnB (w.drewN m) g cap l := h.on (drewN_below _ _)
/-- Put into a row of one's own -/
theorem put_own (w : World) (g n c cap i : Nat) (l : List Int) (on : Bool) (h : OwnB w g cap l) (hn : l.length = n) (hi : i < 8 * n) : Calls Try.prog 13 #[.slice (some ⟨g, 0, none⟩) n c, .int .i64 (i : Int), .bool on] w fun e w' => e = .returned (.int .i64 0) ∧ OwnB w' g cap (bput l i on) ∧ Fr (fun k => k = g) w w' := by
  have hc := h.cell (i / 8) (by omega)
  refine (put_raw w g n c i _ on hc (h.frozen _) (h.wf _) (by rw [← hn]; exact h.len) hi).mono ?_
  rintro e w' ⟨rfl, m, rfl⟩
  exact ⟨rfl, (h.set (i / 8) _ (by omega) (byt_bd _ _ _ (by omega) (h.wf _))).drewN m, fr_drewN Fr.set m⟩
/-- what lies at the bytes of the document -/
def b3 : List Int := [247, 255, 1]
theorem runs_b3 : runs b3 = [(3, 1), (17, 7)] := by decide
theorem b3_wf : ∀ i, 0 ≤ nth b3 i ∧ nth b3 i < 256 := wf_list (by decide)
def fsm (pre : List (Nat × Nat)) : Int := pre.foldl (fun z p => 100 * z + p.1 + p.2) 0
theorem fsm_snoc (pre : List (Nat × Nat)) (p : Nat × Nat) : fsm (pre ++ [p]) = 100 * fsm pre + p.1 + p.2 := by simp [fsm]
theorem fsm_bd (pre : List (Rw b3)) (h : pre.length < 2) : 0 ≤ fsm (pre.map (·.1)) ∧ fsm (pre.map (·.1)) ≤ 24 := by
  match pre, h with
  | [], _ => simp [fsm]
  | [x], _ =>
    have h1 := (runs_row x.2).top
    have h2 : fsm ([x].map (·.1)) = x.1.1 + x.1.2 := by simp [fsm]
    rw [h2]
    have h3 : b3.length = 3 := rfl
    omega
/-- between two rounds: the box S holds z; else nothing that lay has changed -/
structure BoxI (w : World) (S : Nat) (z : Int) (W : World) : Prop where
  cell : W.cell? ⟨S, 0, none⟩ = some (.int .i64 z)
  frozen : W.frozen? ⟨S, 0, none⟩ = false
  fr : Fr (fun k => k = S ∨ w.heap.size ≤ k) w W
theorem BoxI.own {β : Type} (w : World) (S : Nat) (z : β → Int) (hS : S < w.heap.size) : OwnFrom w.heap.size (fun pre W => BoxI w S (z pre) W) := fun pre W W' row h hg hr => by
  have hne : some S ≠ row := fun e => by have := (hr S e.symm).1; omega
  have hF : Fr (fun k => row = some k) W W' := ⟨hg.os, hg.tape, hg.output, hg.size, fun k hk hS => hg.block k hk (fun e => hS e.symm)⟩
  have hlt : S < W.heap.size := block_lt_of_cell h.cell
  refine ⟨hF.cell h.cell (fun e => hne e.symm), ?_, h.fr.trans hF (fun k hk => .inl (.inr (hr k hk).1))⟩
  have := hg.block S hlt hne
  rw [← h.frozen]
  simp only [World.frozen?, this]
theorem BoxI.set {w : World} {S : Nat} {z : Int} {W : World} (h : BoxI w S z W) (y : Int) : BoxI w S y (W.setCell ⟨S, 0, none⟩ (.int .i64 y)) := by
  refine ⟨World.cell?_setCell_same' _ _ _ (by rw [h.cell]; rfl), by rw [World.frozen?_setCell]; exact h.frozen, h.fr.trans Fr.set (fun k hk => .inl (.inl hk))⟩
theorem eql_seq (w : World) (f : Fn) (a b : Array Value) : (binOp .eql 25 (.func f a b) .nilFunc).run Try.prog w = .ok (.bool false) w := by
  have h : ∀ d : Nat, (Op.equalIn (d + 1) 25 (.func f a b) .nilFunc).run Try.prog w = .ok false w := fun d => by
    simp [Op.equalIn, run_underlying Try.underlying25]
  simp only [binOp]
  simp [Op.equal, Op.maxDepth, h 9999]
set_option maxRecDepth 100000 in
set_option maxHeartbeats 8000000 in
theorem fixed_any (w : World) : Calls Try.prog 8 #[] w fun e w' => e = .returned (.bool true) ∧ Below w.heap.size w w' := by
  refine (callsIn_wide (n := 6)).1 ?_
  have hf1 : Fence.wide.fn 11 := trivial
  have hf2 : Fence.wide.fn 10 := trivial
  have hf3 : Fence.wide.fn 12 := trivial
  have hf4 : Fence.wide.fn 9 := trivial
  have hf5 : Fence.wide.fn 13 := trivial
  obtain ⟨w1, hw1⟩ : ∃ w1, w.alloc (.cells #[.int .u8 247, .int .u8 255, .int .u8 1] 5) = w1 := ⟨_, rfl⟩
  have HW1 : Hid (Below w.heap.size w w1 ∧ OwnB w1 w.heap.size 3 b3) := by
    rw [← hw1]
    exact ⟨(Below.refl _ _).alloc (Nat.le_refl _) _, ⟨_, heap_alloc_new _ _, rfl, rfl⟩, by decide, by decide, by unfold maxLen; omega, b3_wf⟩
  have cG : ∀ m, CallsIn Fence.wide 5 Try.prog 11 #[.slice (some ⟨w.heap.size, 0, none⟩) 3 3, .int .i64 4] (w1.drewN m) fun e w' => e = .returned (.tuple #[.bool true, .int .i64 0]) ∧ ∃ k, w' = (w1.drewN m).drewN k := fun m => callsIn_wide.2 (get_yes _ _ 3 3 4 b3 (HW1.out.2.drewN m).bytes rfl (by decide))
  have cC : ∀ m, CallsIn Fence.wide 5 Try.prog 10 #[.slice (some ⟨w.heap.size, 0, none⟩) 3 3, .int .i64 0, .int .i64 24] (w1.drewN m) fun e w' => e = .returned (.tuple #[.int .i64 16, .int .i64 0]) ∧ ∃ k, w' = (w1.drewN m).drewN k := fun m => callsIn_wide.2 (count_yes _ _ 3 3 0 24 b3 (HW1.out.2.drewN m).bytes rfl (by decide))
  have cL : ∀ m, CallsIn Fence.wide 5 Try.prog 12 #[.slice (some ⟨w.heap.size, 0, none⟩) 3 3, .int .i64 0] (w1.drewN m) fun e w' => e = .returned (.int .i64 3) ∧ ∃ k, w' = (w1.drewN m).drewN k := fun m => callsIn_wide.2 (low_any _ _ 3 3 0 b3 (HW1.out.2.drewN m).bytes rfl (by decide))
  have cR : ∀ m, CallsIn Fence.wide 5 Try.prog 9 #[.slice (some ⟨w.heap.size, 0, none⟩) 3 3] (w1.drewN m) fun e w' => ∃ B g cap, e = .returned (.func (.func 20) #[] #[.pointer (some ⟨B, 0, none⟩)]) ∧ SeqAt w' B g cap b3 ∧ Below w1.heap.size w1 w' := fun m => callsIn_wide.2 ((runs_any _ 3 3 _ b3 (HW1.out.2.drewN m).bytes rfl (fun e => by cases e) (by decide)).mono (fun e w' ⟨B, g, cap, h1, h2, _, _, h3⟩ => ⟨B, g, cap, h1, h2, (drewN_below w1 m).trans h3⟩))
  have E1 := eql_seq
  refine callsIn_of_wp_marks Try.func8 rfl trivial ?_ rfl
  simp only [Try.ntmps8, List.size_toArray, List.length_nil, Nat.reduceSub, Array.replicate_succ, Array.replicate_zero, List.push_toArray, List.append_toArray, List.nil_append, List.cons_append]
  gi_wp2_with (first
    | (gi_at_call 11; refine (cG 0).mono ?_; rintro e w' ⟨rfl, m, rfl⟩)
    | (gi_at_call 10; refine (cC _).mono ?_; rintro e w' ⟨rfl, m, rfl⟩)
    | (gi_at_call 12; refine (cL _).mono ?_; rintro e w' ⟨rfl, m, rfl⟩)
    | (gi_at_call 9; refine (cR _).mono ?_; rintro e w2 ⟨B, g, cap, rfl, hB, hb2⟩; have H2 : Hid (SeqAt w2 B g cap b3 ∧ Below w1.heap.size w1 w2) := ⟨hB, hb2⟩; clear hB hb2))
  have hsz : w1.heap.size ≤ w2.heap.size := H2.out.2.size
  obtain ⟨w3, hw3⟩ : ∃ w3, w2.alloc (.cells #[.int .i64 0] 3) = w3 := ⟨_, rfl⟩
  have hb3 : Below w2.heap.size w2 w3 := by rw [← hw3]; exact (Below.refl _ _).alloc (Nat.le_refl _) _
  have hs3 : w3.heap.size = w2.heap.size + 1 := by rw [← hw3]; simp
  have hn3 : w3.heap[w2.heap.size]? = some (.cells #[.int .i64 0] 3 (0, 0)) := by rw [← hw3]; exact heap_alloc_new _ _
  rw [hw3]
  refine wpIn_rangeFunc_ownG rfl (by omega) (gf := 20) (lb := #[.pointer (some ⟨B, 0, none⟩)]) rfl trivial (enters_of Try.func20 (by kernel_rfl) rfl)
    (runs_stops B g cap b3 w2 H2.out.1 (by decide)) (fun h k => h.trans k) (KpB.put (Nat.lt_of_lt_of_le H2.out.1.ltB (by omega)) (Nat.lt_of_lt_of_le H2.out.1.ltg (by omega))) hb3 (fun _ => rfl)
    (fun pre W => BoxI w3 w2.heap.size (fsm (pre.map (·.1))) W) (fun _ _ _ => False) (BoxI.own w3 w2.heap.size (fun pre : List (Rw b3) => fsm (pre.map (·.1))) (by omega)) (fun _ _ _ _ _ hs _ _ => hs.elim) ⟨by rw [cell_of_row _ _ _ _ _ _ hn3]; rfl, frozen_of_row _ _ _ _ _ hn3, Fr.refl _ _⟩ ?a1 ?assign ?body ?done ?stop
  case assign =>
    intro l x W K hK
    gi_wp2
    exact hK
  case body =>
    rintro l pre x W hI hlt
    rw [runs_b3] at hlt
    have hc := hI.cell
    have hfz := hI.frozen
    have hbd := fsm_bd pre hlt
    have hx := (runs_row x.2).top
    have h3 : b3.length = 3 := rfl
    rw [h3] at hx
    obtain ⟨z, hz⟩ : ∃ z, fsm (pre.map (·.1)) = z := ⟨_, rfl⟩
    rw [hz] at hc hbd
    gi_wp2
    refine ⟨(KeepsOthers.setCell _ _ _).from _, KpB.of_below ((Below.refl w2.heap.size W).setCell (p := ⟨w2.heap.size, 0, none⟩) (Nat.le_refl _) _) H2.out.1.ltB H2.out.1.ltg, ?_⟩
    show BoxI w3 w2.heap.size (fsm ((pre ++ [x]).map (·.1))) _
    rw [List.map_append, List.map_cons, List.map_nil, fsm_snoc, hz]
    exact hI.set _
  case done =>
    rintro D ys W hD hS hI hK
    have hz : fsm (ys.map (·.1)) = 424 := by rw [hS, runs_b3]; rfl
    have hown : OwnB W w.heap.size 3 b3 := by
      have h1 := (HW1.out.2.on H2.out.2).on hb3
      obtain ⟨cur, hg, h2, h3⟩ := h1.row
      have hlt : w.heap.size < w2.heap.size := (HW1.out.2.on H2.out.2).lt
      exact ⟨⟨cur, hI.fr.heap hg (fun e => by rcases e with e | e <;> omega), h2, h3⟩, h1.len, h1.room, h1.top, h1.wf⟩
    have hlt2 : w.heap.size < w2.heap.size := (HW1.out.2.on H2.out.2).lt
    have hBw : Below w.heap.size w W := (HW1.out.1.trans ((H2.out.2.mono HW1.out.1.size).trans (hb3.mono (by omega)))).trans (hI.fr.below w.heap.size (fun k e => by rcases e with e | e <;> omega) (by omega))
    have cP : CallsIn Fence.wide 5 Try.prog 13 #[.slice (some ⟨w.heap.size, 0, none⟩) 3 3, .int .i64 3, .bool true] W fun e w' => e = .returned (.int .i64 0) ∧ w'.cell? ⟨w.heap.size, 0, none⟩ = some (.int .u8 255) ∧ w'.cell? ⟨w2.heap.size, 0, none⟩ = some (.int .i64 424) ∧ w'.heap[D]? = some (.deferred (some [])) ∧ Below w.heap.size w w' := callsIn_wide.2 ((put_own W _ 3 3 3 3 b3 true hown rfl (by decide)).mono (fun e w' ⟨h1, h2, h3⟩ => by
      refine ⟨h1, ?_, h3.cell (by rw [← hz]; exact hI.cell) (fun e => ?_), h3.heap hK (fun e => ?_), hBw.trans (h3.below _ (fun k e => Nat.le_of_eq e.symm) hBw.size)⟩
      · exact h2.cell 0 (by decide)
      · have e : w2.heap.size = w.heap.size := e
        omega
      · have e : D = w.heap.size := e
        omega))
    have HKp : Hid (W.heap[D]? = some (.deferred (some []))) := hK
    clear hI hK
    gi_wp2_with (gi_at_call 13; refine cP.mono ?_; rintro e w4 ⟨rfl, hc1, hc2, hK4, hb4⟩)
    refine ⟨by simp, .inl ⟨_, _, rfl, run_takeDeferred hK4, ?_⟩⟩
    exact ⟨_, results_tmp rfl _ _ _, rfl, hb4.trans (belowK_b (w := w) (Nat.le_refl _) w4 D _ _ (by omega) hK4 rfl rfl)⟩
  case stop =>
    rintro D c pre W hD _ h _
    exact h.elim
end Go.Proofs.Ytlgjkmfekkegbaa
