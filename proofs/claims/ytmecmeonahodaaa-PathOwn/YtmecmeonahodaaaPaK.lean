import Derived.Test.YtmecmeonahodaaaPaJ
import Derived.Test.YtmecmeonahodaaaPaH
namespace Go.Proofs.Ytmecmeonahodaaa
open Go.RowKit Go.Shelf Pa
attribute [local go_sem] Oper.semAt_some

theorem frozen_new (w : World) (v : Value) (t : Nat) : (w.alloc (.cells #[v] t)).frozen? ⟨w.heap.size, 0, none⟩ = false := by
  unfold World.frozen?
  rw [World.alloc_heap_new]
  rfl
theorem grown_frozen {w w' : World} {row : Option Nat} (hg : w.grownBy w' row) {a : Addr} {v : Value} (h : w.cell? a = some v) (hne : some a.block ≠ row) : w'.frozen? a = w.frozen? a := World.frozen?_of_block (hg.block _ (block_lt_of_cell h) hne)
theorem cell_other {W : World} {a b : Addr} {v u : Value} (hne : a.block ≠ b.block) (h : W.cell? a = some u) : (W.setCell b v).cell? a = some u := (World.cell?_of_block (Below.heap_setCell W b v a.block hne)).trans h
theorem wp_ret1 {P : Program} {fn : Func} {R : Ending → World → Prop} {W : World} {D : Nat} {t : Array Value} {k : Nat} (hfn : fn.results = #[.tmp k]) (hd : W.heap[D]? = some (.deferred (some [])))
    (h : R (.returned (t.getD k undef)) (W.putObj D (.deferred none))) : bodyPostM Fence.wide 5 P fn R .ret { tmps := t, defers := [{ target := .collected D, args := #[] }] } W :=
  ⟨by simp, .inl ⟨_, _, rfl, run_takeDeferred hd, _, results_tmp hfn _ _ _, h⟩⟩
set_option maxRecDepth 100000 in
set_option maxHeartbeats 4000000 in
theorem last_any (w : World) (s : ByteArray) (hs : s.size ≤ 9223372036854775807) : Calls Try.prog 19 #[.string s] w fun e w' => (∃ t : ByteArray, e = .returned (.string t) ∧ tx t = last (tx s)) ∧ Below w.heap.size w w' := by
  obtain ⟨we, hwe⟩ : ∃ we, w.alloc (.cells #[.string ⟨#[]⟩] 9) = we := ⟨_, rfl⟩
  have hez : we.heap.size = w.heap.size + 1 := by rw [← hwe]; simp
  have hbe : Below w.heap.size w we := by rw [← hwe]; exact (Below.refl _ w).alloc (Nat.le_refl _) _
  have hce : we.cell? ⟨w.heap.size, 0, none⟩ = some (.string ⟨#[]⟩) := by rw [← hwe]; exact cell_new w _ _
  have hfe : we.frozen? ⟨w.heap.size, 0, none⟩ = false := by rw [← hwe]; exact frozen_new w _ _
  have HW : Hid (w.alloc (.cells #[.string ⟨#[]⟩] 9) = we) := hwe
  have C : CallsIn Fence.wide 4 Try.prog 29 #[.string s] (w.alloc (.cells #[.string ⟨#[]⟩] 9)) _ := callsIn_wide.2 (pieces_any _ s)
  clear hwe
  have hf : Fence.wide.fn 29 := trivial
  refine callsIn_wide (n := 5).1 ?_
  refine callsIn_of_wp_marks Try.func19 rfl trivial ?_ rfl
  simp only [Try.ntmps19, List.size_toArray, List.length_cons, List.length_nil, Nat.reduceAdd, Nat.reduceSub, Array.replicate_succ, Array.replicate_zero, List.push_toArray, List.append_toArray, List.nil_append, List.cons_append]
  gi_wp2_with (gi_at_call 29; refine C.mono ?_; clear C; rintro e w' ⟨rfl, rfl⟩)
  rw [HW.out]
  try rw [hez]
  obtain ⟨w1, hw1⟩ : ∃ w1, we.alloc (.cells #[.string s] 9) = w1 := ⟨_, rfl⟩
  rw [hw1]
  have h1z : w1.heap.size = w.heap.size + 2 := by rw [← hw1]; simp [hez]
  have hb1 : Below we.heap.size we w1 := by rw [← hw1]; exact (Below.refl _ we).alloc (Nat.le_refl _) _
  have hcs : w1.cell? ⟨w.heap.size + 1, 0, none⟩ = some (.string s) := by rw [← hw1, ← hez]; exact cell_new we _ _
  have hce1 : w1.cell? ⟨w.heap.size, 0, none⟩ = some (.string ⟨#[]⟩) := (hb1.cell (p := ⟨w.heap.size, 0, none⟩) (by show w.heap.size < _; omega)).trans hce
  have hfe1 : w1.frozen? ⟨w.heap.size, 0, none⟩ = false := (hb1.frozen (p := ⟨w.heap.size, 0, none⟩) (by show w.heap.size < _; omega)).trans hfe
  have hb2 : Below w.heap.size w w1 := hbe.trans (hb1.mono hbe.size)
  refine wpIn_rangeR (gf := 37) (lb := #[.pointer (some ⟨w.heap.size + 1, 0, none⟩)]) rfl (enters_of Try.func37 (by kernel_rfl) rfl)
    (pieces_seq w1 s hs (w.heap.size + 1) (by omega) hcs) (Below.refl _ _)
    (fun pre W' => ∃ t : ByteArray, tx t = (txs pre).getLast?.getD [] ∧ W'.cell? ⟨w.heap.size, 0, none⟩ = some (.string t) ∧ W'.frozen? ⟨w.heap.size, 0, none⟩ = false ∧ Below w.heap.size w W')
    (fun _ _ => False) ?_ (fun _ _ _ _ h _ _ => h) ⟨⟨#[]⟩, rfl, hce1, hfe1, hb2⟩
    (fun x => { tmps := #[.string s, undef, .string ⟨#[]⟩, .pointer (some ⟨w.heap.size, 0, none⟩), .string x.1, .string s, .func (.func 37) #[] #[.pointer (some ⟨w.heap.size + 1, 0, none⟩)], .string x.1, undef, undef], defers := [] }) ?assign ?body ?done ?stop
  · rintro pre A C row ⟨t, e1, e2, e3, e4⟩ hg hr
    exact ⟨t, e1, hg.cell e2 (fun e => by have := (hr _ e.symm).1; simp at this; omega), (grown_frozen hg e2 (fun e => by have := (hr _ e.symm).1; simp at this; omega)).trans e3, e4.grown hg e4.size (fun k e => by have := (hr _ e).1; omega)⟩
  case assign =>
    intro l2 x W2 K hK
    gi_wp2
    exact hK
  case body =>
    rintro l2 pre x W2 ⟨t, e1, e2, e3, e4⟩ _ _
    gi_wp2
    exact ⟨Rng.setCell _ _ _ (.inl (by show w.heap.size < _; omega)), x.1, by rw [txs_snoc]; simp, World.cell?_setCell_same' _ _ _ (by rw [e2]; rfl), by rw [World.frozen?_setCell]; exact e3, e4.setCell (p := ⟨w.heap.size, 0, none⟩) (Nat.le_refl _) _⟩
  case done =>
    rintro xs W2 hxs ⟨t, e1, e2, e3, e4⟩ hd
    gi_wp2
    refine wp_ret1 rfl hd ?_
    exact ⟨⟨t, rfl, by rw [e1, hxs]; rfl⟩, e4.trans (belowK_b (w := w) (Nat.le_refl _) W2 w1.heap.size _ _ (by omega) hd rfl rfl)⟩
  case stop =>
    rintro xs W2 hxs h hd
    exact h.elim
theorem res_cellB {P : Program} {fn : Func} {p : Tmp} (h : fn.results = #[.cell p 4]) (tmps : Array Value) (w : World) (g : Nat) (b : Bool)
    (hp : tmps.getD p undef = .pointer (some ⟨g, 0, none⟩)) (hl : (loadVar 4 ⟨g, 0, none⟩).run P w = .ok (.bool b) w) :
    (results fn tmps).run P w = .ok (.bool b) w := by
  have e : (results fn tmps).run P w = ((asAddr (tmps.getD p undef)).run P w).andThen fun a w₁ => (loadVar 4 a).run P w₁ := by
    simp only [results, h]
    simp [Sem.run_bind, Result.andThen]
  rw [e, hp]
  simp [asAddr, hl]
theorem loadB {w : World} {a : Addr} {b : Bool} (h : w.cell? a = some (.bool b)) : (loadVar 4 a).run Try.prog w = .ok (.bool b) w := by
  simp [go_sem, loadVar, h]
/-- what has come of components tells nothing too long -/
def Ok32 (pre : List Tx) : Prop := (∀ p, p ∈ pre → long p = false) ∧ pre.length ≤ 32
theorem tooLong_ok {l : Tx} (h : ¬ 1024 < l.length) (hk : Ok32 (cps l)) : tooLong l = false := by
  unfold tooLong
  rw [Bool.or_eq_false_iff, Bool.or_eq_false_iff, List.any_eq_false]
  exact ⟨by simpa using h, fun p hp => by rw [hk.1 p hp]; simp, by simpa using hk.2⟩
theorem tooLong_bad {l : Tx} {pre : List Tx} (h : pre <+: cps l) (hk : ¬ Ok32 pre) : tooLong l = true := by
  cases e : tooLong l with
  | true => rfl
  | false =>
    unfold tooLong at e
    rw [Bool.or_eq_false_iff, Bool.or_eq_false_iff, List.any_eq_false] at e
    exact (hk ⟨fun p hp => by have := e.2.1 p (h.subset hp); simpa using this, Nat.le_trans h.length_le (by simpa using e.2.2)⟩).elim
theorem retM0 {P : Program} {fn : Func} {R : Ending → World → Prop} {W : World} {t : Array Value} {v : Value} (hr : (results fn t).run P W = .ok v W) (h : R (.returned v) W) : bodyPostM Fence.wide 5 P fn R .ret { tmps := t, defers := [] } W := ⟨v, hr, h⟩
theorem retM1 {P : Program} {fn : Func} {R : Ending → World → Prop} {W : World} {D : Nat} {t : Array Value} {v : Value} (hd : W.heap[D]? = some (.deferred (some [])))
    (hr : (results fn t).run P (W.putObj D (.deferred none)) = .ok v (W.putObj D (.deferred none))) (h : R (.returned v) (W.putObj D (.deferred none))) : bodyPostM Fence.wide 5 P fn R .ret { tmps := t, defers := [{ target := .collected D, args := #[] }] } W :=
  ⟨by simp, .inl ⟨_, _, rfl, run_takeDeferred hd, v, hr, h⟩⟩
theorem cell_putD {W : World} {D : Nat} {o o' : Obj} {a : Addr} {v : Value} (h : W.cell? a = some v) (_ : W.heap[D]? = some o) (hne : a.block ≠ D) : (W.putObj D o').cell? a = some v := (World.cell?_of_block (World.putObj_heap_other hne)).trans h
set_option maxRecDepth 100000 in
set_option maxHeartbeats 4000000 in
theorem isTooLong_any (w : World) (s : ByteArray) (hs : s.size ≤ 9223372036854775807) : Calls Try.prog 16 #[.string s] w fun e w' => e = .returned (.bool (tooLong (tx s))) ∧ Below w.heap.size w w' := by
  obtain ⟨we, hwe⟩ : ∃ we, (w.alloc (.cells #[.bool false] 4)).alloc (.cells #[.int .i64 0] 3) = we := ⟨_, rfl⟩
  have hez : we.heap.size = w.heap.size + 2 := by rw [← hwe]; simp
  have hb0 : Below w.heap.size w (w.alloc (.cells #[.bool false] 4)) := (Below.refl _ w).alloc (Nat.le_refl _) _
  have hb1 : Below (w.heap.size + 1) (w.alloc (.cells #[.bool false] 4)) we := by rw [← hwe]; exact (Below.refl _ _).alloc (by simp) _
  have hbe : Below w.heap.size w we := hb0.trans (hb1.mono (by omega))
  have hr0 : we.cell? ⟨w.heap.size, 0, none⟩ = some (.bool false) := (hb1.cell (p := ⟨w.heap.size, 0, none⟩) (by show w.heap.size < _; omega)).trans (cell_new w _ _)
  have hf0 : we.frozen? ⟨w.heap.size, 0, none⟩ = false := (hb1.frozen (p := ⟨w.heap.size, 0, none⟩) (by show w.heap.size < _; omega)).trans (frozen_new w _ _)
  have hr1 : we.cell? ⟨w.heap.size + 1, 0, none⟩ = some (.int .i64 0) := by
    have := cell_new (w.alloc (.cells #[.bool false] 4)) (.int .i64 0) 3
    rw [hwe, World.size_alloc] at this; exact this
  have hf1 : we.frozen? ⟨w.heap.size + 1, 0, none⟩ = false := by
    have := frozen_new (w.alloc (.cells #[.bool false] 4)) (.int .i64 0) 3
    rw [hwe, World.size_alloc] at this; exact this
  have HW : Hid ((w.alloc (.cells #[.bool false] 4)).alloc (.cells #[.int .i64 0] 3) = we) := hwe
  have C : CallsIn Fence.wide 4 Try.prog 27 #[.string s] ((w.alloc (.cells #[.bool false] 4)).alloc (.cells #[.int .i64 0] 3)) _ := callsIn_wide.2 (components_any _ s)
  clear hwe
  have hf : Fence.wide.fn 27 := trivial
  have hfl : Fence.wide.fn 22 := trivial
  refine callsIn_wide (n := 5).1 ?_
  refine callsIn_of_wp_marks Try.func16 rfl trivial ?_ rfl
  simp only [Try.ntmps16, List.size_toArray, List.length_cons, List.length_nil, Nat.reduceAdd, Nat.reduceSub, Array.replicate_succ, Array.replicate_zero, List.push_toArray, List.append_toArray, List.nil_append, List.cons_append]
  by_cases hlen : 1024 < s.size
  · have hlen' : (1024 : Int) < (s.size : Int) := by omega
    gi_wp2
    refine retM0 (res_cellB rfl _ _ w.heap.size true rfl (loadB (cell_new w _ _))) ?_
    refine ⟨?_, (Below.refl _ w).alloc (Nat.le_refl _) _⟩
    unfold tooLong
    rw [← size_tx]
    simp [hlen]
  · have hlen' : ¬ (1024 : Int) < (s.size : Int) := by omega
    gi_wp2_with (gi_at_call 27; refine C.mono ?_; clear C; rintro e w' ⟨rfl, rfl⟩)
    rw [HW.out]
    obtain ⟨w1, hw1⟩ : ∃ w1, we.alloc (.cells #[.string s] 9) = w1 := ⟨_, rfl⟩
    rw [hw1]
    have h1z : w1.heap.size = w.heap.size + 3 := by rw [← hw1]; simp [hez]
    have hb2 : Below we.heap.size we w1 := by rw [← hw1]; exact (Below.refl _ we).alloc (Nat.le_refl _) _
    have hcs : w1.cell? ⟨w.heap.size + 2, 0, none⟩ = some (.string s) := by rw [← hw1, ← hez]; exact cell_new we _ _
    have hR0 : w1.cell? ⟨w.heap.size, 0, none⟩ = some (.bool false) := (hb2.cell (p := ⟨w.heap.size, 0, none⟩) (by show w.heap.size < _; omega)).trans hr0
    have hF0 : w1.frozen? ⟨w.heap.size, 0, none⟩ = false := (hb2.frozen (p := ⟨w.heap.size, 0, none⟩) (by show w.heap.size < _; omega)).trans hf0
    have hR1 : w1.cell? ⟨w.heap.size + 1, 0, none⟩ = some (.int .i64 0) := (hb2.cell (p := ⟨w.heap.size + 1, 0, none⟩) (by show w.heap.size + 1 < _; omega)).trans hr1
    have hF1 : w1.frozen? ⟨w.heap.size + 1, 0, none⟩ = false := (hb2.frozen (p := ⟨w.heap.size + 1, 0, none⟩) (by show w.heap.size + 1 < _; omega)).trans hf1
    have hbw : Below w.heap.size w w1 := hbe.trans (hb2.mono (by omega))
    have hne01 : w.heap.size ≠ w.heap.size + 1 := by omega
    refine wpIn_rangeR (gf := 35) (lb := #[.pointer (some ⟨w.heap.size + 2, 0, none⟩)]) rfl (enters_of Try.func35 (by kernel_rfl) rfl)
      (comps_seq w1 s hs (w.heap.size + 2) (by omega) hcs) (Below.refl _ _)
      (fun pre W' => Ok32 (txs pre) ∧ W'.cell? ⟨w.heap.size, 0, none⟩ = some (.bool false) ∧ W'.frozen? ⟨w.heap.size, 0, none⟩ = false ∧ W'.cell? ⟨w.heap.size + 1, 0, none⟩ = some (.int .i64 (pre.length : Int)) ∧ W'.frozen? ⟨w.heap.size + 1, 0, none⟩ = false ∧ Below w.heap.size w W')
      (fun pre W' => ¬ Ok32 (txs pre) ∧ W'.cell? ⟨w.heap.size, 0, none⟩ = some (.bool true) ∧ Below w.heap.size w W') ?_ ?_ ⟨⟨fun p hp => (by cases hp), Nat.zero_le _⟩, hR0, hF0, hR1, hF1, hbw⟩
      (fun x => { tmps := #[.string s, undef, .pointer (some ⟨w.heap.size, 0, none⟩), .pointer (some ⟨w.heap.size + 1, 0, none⟩), .string x.1, .string s, .int .i64 (s.size : Int), .bool false, .string s, .func (.func 35) #[] #[.pointer (some ⟨w.heap.size + 2, 0, none⟩)], .string x.1, undef, undef, undef, undef, undef, undef, undef, undef], defers := [] }) ?assign ?body ?done ?stop
    · rintro pre A C row ⟨e1, e2, e3, e4, e5, e6⟩ hg hr
      have n0 : some w.heap.size ≠ row := fun e => by have := (hr _ e.symm).1; omega
      have n1 : some (w.heap.size + 1) ≠ row := fun e => by have := (hr _ e.symm).1; omega
      exact ⟨e1, hg.cell e2 n0, (grown_frozen hg e2 n0).trans e3, hg.cell e4 n1, (grown_frozen hg e4 n1).trans e5, e6.grown hg e6.size (fun k e => by have := (hr _ e).1; omega)⟩
    · rintro pre A C row ⟨e1, e2, e6⟩ hg hr
      have n0 : some w.heap.size ≠ row := fun e => by have := (hr _ e.symm).1; omega
      exact ⟨e1, hg.cell e2 n0, e6.grown hg e6.size (fun k e => by have := (hr _ e).1; omega)⟩
    case assign =>
      intro l2 x W2 K hK
      gi_wp2
      exact hK
    case body =>
      rintro l2 pre x W2 ⟨e1, e2, e3, e4, e5, e6⟩ _ hsz
      have hpl : (txs pre).length = pre.length := by simp [txs]
      have hp32 : pre.length ≤ 32 := by rw [← hpl]; exact e1.2
      have CL : ∀ W, CallsIn (Fence.wide.inRound l2) 3 Try.prog 22 #[.string x.1] W _ := fun W => CallsIn.inRound l2 (callsIn_wide.2 (isLong_any W x.1))
      obtain ⟨n, hn⟩ : ∃ n, pre.length = n := ⟨_, rfl⟩
      rw [hn] at e4
      have E1 : Hid (Ok32 (txs pre) ∧ pre.length = n ∧ (txs pre).length = n) := ⟨e1, hn, hpl.trans hn⟩
      have hn32 : n ≤ 32 := by omega
      clear e1 hpl hn hp32
      have hbs : ∀ v, Below w.heap.size w (W2.setCell ⟨w.heap.size + 1, 0, none⟩ v) := fun v => e6.setCell (p := ⟨w.heap.size + 1, 0, none⟩) (by show w.heap.size ≤ w.heap.size + 1; omega) _
      cases hl : long (tx x.1) with
      | true =>
        gi_wp2_with (gi_at_call 22; refine (CL _).mono ?_; clear CL; rintro e w' ⟨rfl, rfl⟩; rw [hl])
        have hc0 : ∀ v, (W2.setCell ⟨w.heap.size + 1, 0, none⟩ v).cell? ⟨w.heap.size, 0, none⟩ = some (.bool false) := fun v => by
          exact cell_other (by show w.heap.size ≠ w.heap.size + 1; omega) e2
        refine ⟨(Rng.setCell _ _ _ (.inl (by show w.heap.size + 1 < _; omega))).trans (Rng.setCell _ _ _ (.inl (by show w.heap.size < _; omega))), fun hk => ?_, World.cell?_setCell_same' _ _ _ (by rw [hc0]; rfl), (hbs _).setCell (p := ⟨w.heap.size, 0, none⟩) (Nat.le_refl _) _⟩
        have := hk.1 (tx x.1) (by rw [txs_snoc]; simp)
        rw [hl] at this; cases this
      | false =>
        by_cases h32 : n < 32
        · have hw : wrap64 ((n : Int) + 1) = ((n + 1 : Nat) : Int) := by unfold wrap64; omega
          have h32' : ¬ (32 : Int) < ((n + 1 : Nat) : Int) := by omega
          gi_wp2_with (gi_at_call 22; refine (CL _).mono ?_; clear CL; rintro e w' ⟨rfl, rfl⟩; rw [hl])
          refine ⟨Rng.setCell _ _ _ (.inl (by show w.heap.size + 1 < _; omega)), ⟨fun p hp => ?_, ?_⟩, cell_other (by show w.heap.size ≠ w.heap.size + 1; omega) e2, by rw [World.frozen?_setCell]; exact e3, ?_, by rw [World.frozen?_setCell]; exact e5, hbs _⟩
          · rw [txs_snoc] at hp
            rcases List.mem_append.1 hp with hp | hp
            · exact E1.out.1.1 p hp
            · rw [List.mem_singleton.1 hp]; exact hl
          · rw [txs_snoc, List.length_append, E1.out.2.2]; exact h32
          · refine (World.cell?_setCell_same' _ _ _ (by rw [e4]; rfl)).trans ?_
            rw [List.length_append, E1.out.2.1]; rfl
        · have h32' : (32 : Int) < wrap64 ((n : Int) + 1) := by unfold wrap64; omega
          gi_wp2_with (gi_at_call 22; refine (CL _).mono ?_; clear CL; rintro e w' ⟨rfl, rfl⟩; rw [hl])
          have hc0 : ∀ v, (W2.setCell ⟨w.heap.size + 1, 0, none⟩ v).cell? ⟨w.heap.size, 0, none⟩ = some (.bool false) := fun v => by
            exact cell_other (by show w.heap.size ≠ w.heap.size + 1; omega) e2
          refine ⟨(Rng.setCell _ _ _ (.inl (by show w.heap.size + 1 < _; omega))).trans (Rng.setCell _ _ _ (.inl (by show w.heap.size < _; omega))), fun hk => ?_, World.cell?_setCell_same' _ _ _ (by rw [hc0]; rfl), (hbs _).setCell (p := ⟨w.heap.size, 0, none⟩) (Nat.le_refl _) _⟩
          have := hk.2
          rw [txs_snoc, List.length_append, E1.out.2.2] at this
          simp at this; omega
    case done =>
      rintro xs W2 hxs ⟨e1, e2, e3, e4, e5, e6⟩ hd
      gi_wp2
      have hd' : (W2.setCell ⟨w.heap.size, 0, none⟩ (.bool false)).heap[w1.heap.size]? = some (.deferred (some [])) := (Below.heap_setCell _ _ _ _ (by show w1.heap.size ≠ w.heap.size; omega)).trans hd
      have hcc : (W2.setCell ⟨w.heap.size, 0, none⟩ (.bool false)).cell? ⟨w.heap.size, 0, none⟩ = some (.bool false) := World.cell?_setCell_same' _ _ _ (by rw [e2]; rfl)
      refine retM1 hd' (res_cellB rfl _ _ w.heap.size false rfl (loadB (cell_putD hcc hd' (by show w.heap.size ≠ _; omega)))) ?_
      refine ⟨?_, (e6.setCell (p := ⟨w.heap.size, 0, none⟩) (Nat.le_refl _) _).trans (belowK_b (w := w) (Nat.le_refl _) _ w1.heap.size _ _ (by omega) hd' rfl rfl)⟩
      rw [hxs] at e1
      rw [tooLong_ok (by rw [← size_tx]; exact hlen) e1]
    case stop =>
      rintro xs W2 hxs ⟨e1, e2, e6⟩ hd
      gi_wp2
      refine retM1 hd (res_cellB rfl _ _ w.heap.size true rfl (loadB (cell_putD e2 hd (by show w.heap.size ≠ _; omega)))) ?_
      exact ⟨by rw [tooLong_bad hxs e1], e6.trans (belowK_b (w := w) (Nat.le_refl _) W2 w1.heap.size _ _ (by omega) hd rfl rfl)⟩
end Go.Proofs.Ytmecmeonahodaaa
