import Derived.Test.YtpheajiepnjhdaaDoorRef5
namespace Go.Proofs.YtpheajiepnjhdaaDoor
open Go.RowKit Rec

theorem Ints.cellA {w : World} {ad : Addr} {l : List Int} (h : Ints w (Option.some ad) l) : ∀ j, j < l.length → w.cell? (ad.add j) = Option.some (.int .i64 (nth l j)) := by
  intro j hj
  rcases h.at_ with e | ⟨b, off, e, hc⟩
  · subst e; exact absurd hj (by simp)
  · cases e
    rw [Addr.add_lit]; exact hc j hj
theorem own_emptyI (w : World) : (w.alloc (.cells #[] 3)).ownsRow 0 3 1 (.slice (some ⟨w.heap.size, 0, none⟩) 0 0) 0 (([] : List Int).map (Value.int .i64)) :=
  ⟨rfl, .inr ⟨_, _, _, rfl, Nat.zero_le _, heap_alloc_new _ _, Nat.le_refl _, by unfold maxLen; omega, rfl, rfl⟩⟩
theorem two_cells (w : World) (a b : Int) : ∀ m, m < [a, b].length → (w.alloc (.cells #[.int .i64 a, .int .i64 b] 3)).cell? ((⟨w.heap.size, 0, none⟩ : Addr).add m) = some (.int .i64 (nth [a, b] m)) := fun m hm => by
  have : m = 0 ∨ m = 1 := by simp at hm; omega
  rcases this with rfl | rfl
  · rw [Addr.add_lit, cell_of_row _ _ _ _ _ _ (heap_alloc_new _ _)]; rfl
  · rw [Addr.add_lit, cell_of_row _ _ _ _ _ _ (heap_alloc_new _ _)]; rfl
set_option maxRecDepth 100000 in
set_option maxHeartbeats 1600000 in
/-- the numbers anew, two marks behind them -/
theorem ints_some (w : World) (ad : Addr) (k c : Nat) (l : List Int) (hk : l.length = k) (hI : Ints w (some ad) l) (h0 : 0 < k) (h47 : k ≤ 17592186043904) :
    Calls Tryd.prog 15 #[.slice (some ad) k c] w fun e w' => ∃ g cap, e = .returned (.slice (some ⟨g, 0, none⟩) k cap) ∧ OwnI w' g cap (l ++ [-71, -72]) ∧ w.heap.size ≤ g ∧ Below w.heap.size w w' := by
  have HI : Hid (Ints w (some ad) l) := hI
  have HN : Hid (l.length = k) := hk
  have HAl : Hid (∀ (w : World) (o : Obj), Below w.heap.size w (w.alloc o)) := fun w o => (Below.refl _ _).alloc (Nat.le_refl _) _
  clear hI hk
  go_enter Tryd.func15, Tryd.ntmps15
  go_wp2_with (first
    | (at_builtin; have hh := H1.out.1; clear hh; refine wp_iown rfl (.tmp 7) (.tmp 8) rfl (.slice (some ⟨g1, 0, none⟩) k cap1) k l rfl (owns_on H1.out.1 (HAl.out w1 _)) ⟨w1.heap.size, 0, none⟩ 2 2 [-71, -72] rfl (by omega) rfl (two_cells w1 (-71) (-72)) (by omega) ?_; intro g2 cap2 w2 ho hf hg; have H2 : Hid (OwnI w2 g2 cap2 (l ++ [-71, -72]) ∧ w.heap.size ≤ g2 ∧ Below w.heap.size w w2 ∧ k + 2 ≤ cap2) := (by
        have b1 : Below w.heap.size w (w1.alloc (.cells #[.int .i64 (-71), .int .i64 (-72)] 3)) := H1.out.2.2.trans ((HAl.out w1 _).mono H1.out.2.2.size)
        have hl : (l ++ [-71, -72]).length = k + 2 := by rw [List.length_append, HN.out]; simp
        refine ⟨OwnI.of ho hl (by omega), ?_, b1.trans (hf.below _ (fun i hi => by cases hi; exact H1.out.2.1) b1.size), by have := own_cap ho; omega⟩
        rcases hg with e | e
        · cases e; exact H1.out.2.1
        · exact Nat.le_trans b1.size e); have hc2 : k + 2 ≤ cap2 := H2.out.2.2.2; clear ho hf hg)
    | (at_builtin; refine wp_iown rfl (.tmp 4) (.tmp 5) rfl (.slice (some ⟨w.heap.size, 0, none⟩) 0 0) 0 [] rfl (own_emptyI w) ad k c l rfl h0 HN.out (fun j hj => ((HAl.out w _).cell (block_lt_of_cell (HI.out.cellA j hj))).trans (HI.out.cellA j hj)) (by omega) ?_; intro g1 cap1 w1 ho hf hg; have H1 : Hid (w1.ownsRow 0 3 1 (.slice (some ⟨g1, 0, none⟩) k cap1) k (l.map (Value.int .i64)) ∧ w.heap.size ≤ g1 ∧ Below w.heap.size w w1) := (by
        rw [Nat.zero_add] at ho
        refine ⟨ho, ?_, (HAl.out w _).trans (hf.below _ (fun i hi => by cases hi; exact Nat.le_refl _) (HAl.out w _).size)⟩
        rcases hg with e | e
        · cases e; exact Nat.le_refl _
        · exact Nat.le_trans (HAl.out w _).size e); clear ho hf hg))
  go_ret
  exact ⟨g2, cap2, rfl, H2.out.1, H2.out.2.1, H2.out.2.2.1⟩
/-- append of nothing to an empty row -/
theorem wp_inone {ops : Array Oper} {rest : List Oper} {o : Oper} {act : Act} {Q : Exit → Act → World → Prop} {w : World} (hg : o.guard = none) (s x : Operand) (ho : o.op = .call { callee := .builtin .append, args := #[s, x], argTypes := #[22, 22] }) (a : Option Addr) (c : Nat) (hz : a = none → c = 0)
    (hs : act.eval s = .slice (some ⟨w.heap.size, 0, none⟩) 0 0) (hx : act.eval x = .slice a 0 c) (h : wpList Tryd.prog ops Q rest (act.put o.dst (.slice (some ⟨w.heap.size, 0, none⟩) 0 0)) (w.alloc (.cells #[] 3))) :
    wpList Tryd.prog ops Q (o :: rest) act (w.alloc (.cells #[] 3)) := by
  obtain ⟨i0, hi, hz0, hz1, hz2⟩ := info_parts info3
  cases a with
  | none =>
    have := hz rfl
    subst this
    exact wpList_append_own_none hg s x 22 ho 0 3 i0 1 Tryd.underlying22 hi _ _ _ hs (own_emptyI w) hx h
  | some ad =>
    have hr := run_append_room (P := Tryd.prog) (w.alloc (.cells #[] 3)) 22 o.type 3 i0 Tryd.underlying22 hi w.heap.size 0 0 #[] (heap_alloc_new _ _) ad 0 c [] (by simp) (by simp) (by simp) (by omega) (by simp)
    refine wpList_plain hg fun K hK => ?_
    unfold Oper.wp execOp
    simp only [ho, resolve, invoke, builtin, Sem.run_bind, Sem.run_pure, Result.andThen_ok, List.map_toArray, List.map_cons, List.map_nil, hs, hx, hr]
    have e : (w.alloc (.cells #[] 3)).setRow w.heap.size #[] = w.alloc (.cells #[] 3) := by
      have hm : ∀ (a : Array Obj) (x : Obj) (f : Obj → Obj), (a.push x).modify a.size f = a.push (f x) := by
        intro a x f
        apply Array.ext
        · simp
        · intro i h1 h2
          simp only [Array.getElem_modify, Array.getElem_push]
          by_cases h : a.size = i
          · subst h
            simp
          · have hi : i < a.size := by simp at h1; omega
            simp [h, hi]
      unfold World.setRow
      show ({ w.alloc (.cells #[] 3) with heap := (w.heap.push (.cells #[] 3)).modify w.heap.size _ } : World) = _
      rw [hm]
      rfl
    refine hK _ _ ?_
    have e2 : (List.take (0 * i0.size) ([] : List Value) ++ [] ++ List.drop (0 * i0.size + ([] : List Value).length) []).toArray = #[] := by simp
    rw [e2, e]
    exact h
set_option maxRecDepth 100000 in
set_option maxHeartbeats 1600000 in
theorem ints_none (w : World) (a : Option Addr) (c : Nat) (hz : a = none → c = 0) :
    Calls Tryd.prog 15 #[.slice a 0 c] w fun e w' => ∃ g cap, e = .returned (.slice (some ⟨g, 0, none⟩) 0 cap) ∧ OwnI w' g cap [-71, -72] ∧ w.heap.size ≤ g ∧ Below w.heap.size w w' := by
  have HAl : Hid (∀ (w : World) (o : Obj), Below w.heap.size w (w.alloc o)) := fun w o => (Below.refl _ _).alloc (Nat.le_refl _) _
  have HZ : Hid (a = none → c = 0) := hz
  clear hz
  go_enter Tryd.func15, Tryd.ntmps15
  go_upto_region 2 with (at_builtin; refine wp_inone (w := w) rfl (.tmp 4) (.tmp 5) rfl a c HZ.out rfl rfl ?_)
  have H1 : Hid ((w.alloc (.cells #[] 3)).ownsRow 0 3 1 (.slice (some ⟨w.heap.size, 0, none⟩) 0 0) 0 (([] : List Int).map (Value.int .i64)) ∧ Below w.heap.size w (w.alloc (.cells #[] 3))) := ⟨own_emptyI w, HAl.out w _⟩
  generalize w.alloc (.cells #[] 3) = w1 at H1 ⊢
  go_wp2_with (at_builtin; refine wp_iown rfl (.tmp 7) (.tmp 8) rfl (.slice (some ⟨w.heap.size, 0, none⟩) 0 0) 0 [] rfl (owns_on H1.out.1 (HAl.out w1 _)) ⟨w1.heap.size, 0, none⟩ 2 2 [-71, -72] rfl (by omega) rfl (two_cells w1 (-71) (-72)) (by omega) ?_; intro g2 cap2 w2 ho hf hg; have H2 : Hid (OwnI w2 g2 cap2 [-71, -72] ∧ w.heap.size ≤ g2 ∧ Below w.heap.size w w2) := (by
      have b1 : Below w.heap.size w (w1.alloc (.cells #[.int .i64 (-71), .int .i64 (-72)] 3)) := H1.out.2.trans ((HAl.out w1 _).mono H1.out.2.size)
      refine ⟨OwnI.of ho rfl (by omega), ?_, b1.trans (hf.below _ (fun i hi => by cases hi; exact Nat.le_refl _) b1.size)⟩
      rcases hg with e | e
      · cases e; exact Nat.le_refl _
      · exact Nat.le_trans b1.size e); have hc2 : 2 ≤ cap2 := (by have := own_cap ho; omega); clear ho hf hg)
  go_ret
  exact ⟨g2, cap2, rfl, H2.out.1, H2.out.2.1, H2.out.2.2⟩
/-- the numbers anew -/
theorem ints_any (w : World) (a : Option Addr) (k c : Nat) (l : List Int) (hk : l.length = k) (hI : Ints w a l) (hz : a = none → c = 0) (h47 : k ≤ 17592186043904) :
    Calls Tryd.prog 15 #[.slice a k c] w fun e w' => ∃ g cap, e = .returned (.slice (some ⟨g, 0, none⟩) k cap) ∧ OwnI w' g cap (l ++ [-71, -72]) ∧ w.heap.size ≤ g ∧ Below w.heap.size w w' := by
  by_cases h0 : k = 0
  · subst h0
    have := List.eq_nil_of_length_eq_zero hk
    subst this
    exact ints_none w a c hz
  · obtain ⟨b, off, rfl⟩ := hI.some (by omega)
    exact ints_some w ⟨b, off, none⟩ k c l hk hI (by omega) h47
end Go.Proofs.YtpheajiepnjhdaaDoor
