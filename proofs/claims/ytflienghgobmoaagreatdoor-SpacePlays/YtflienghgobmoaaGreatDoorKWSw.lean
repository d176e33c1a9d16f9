import Derived.Test.YtflienghgobmoaaGreatDoorKWalC
namespace Go.Proofs.YtflienghgobmoaaGreatDoor
open Go.RowKit Rec

theorem infoF : (Tryz.prog.info? 84).map (fun i => (i.zero, i.size, i.bytes)) = some (some .nilFunc, 1, 8) := by kernel_rfl
theorem newsF (w : World) (v : Value) : ∀ j u, [v][j]? = some u → (w.alloc (.cells #[v] 84)).cell? ((⟨w.heap.size, 0, none⟩ : Addr).add j) = some u := fun m u hm => by
  have : m = 0 := by
    have := (List.getElem?_eq_some_iff.1 hm).1
    simp at this; omega
  subst this
  simp at hm
  subst hm
  rw [Addr.add_lit, cell_of_row _ _ _ _ _ _ (heap_alloc_new _ _)]
  rfl
theorem step_f1 {ops : Array Oper} {o : Oper} {act : Act} {K : Act → World → Prop} {Q : Exit → Act → World → Prop} {E : Prop} {w1 : World} (hgd : o.guard = none) (s x : Operand)
    (ho : o.op = .call { callee := .builtin .append, args := #[s, x], argTypes := #[170, 170] }) (v : Value) (k : Nat) (l : List Value) (u : Value) (hu : u.oneCell' = true) (hs : act.eval s = v) (hx : act.eval x = .slice (some ⟨w1.heap.size, 0, none⟩) 1 1)
    (hown : w1.ownsRow 0 84 1 v k l) (h47 : k + 1 ≤ 5864062014805)
    (h : ∀ g cap w', w'.ownsRow 0 84 1 (.slice (some ⟨g, 0, none⟩) (k + 1) cap) (k + 1) (l ++ [u]) → Fr (fun k => v.ownBlock = some k) w1 w' → (v.ownBlock = some g ∨ w1.heap.size ≤ g) → K (act.put o.dst (.slice (some ⟨g, 0, none⟩) (k + 1) cap)) w') :
    if Region.wanted o (yielded ops act.tmps) = true then Oper.wp Tryz.prog o act (w1.alloc (.cells #[u] 84)).drew K Q else E := by
  have hA : Below w1.heap.size w1 (w1.alloc (.cells #[u] 84)).drew := ((Below.refl _ _).alloc (Nat.le_refl _) _).drew
  obtain ⟨i0, hi, hz0, hz1, hz2⟩ := info_parts infoF
  refine step_own hgd s x 170 ho 84 i0 _ 1 8 Tryz.underlying170 hi hz0 hz1 hz2 rfl (by decide) v k l hs (owns_on hown hA) ⟨w1.heap.size, 0, none⟩ 1 1 [u] hx (by omega) rfl (fun j y hy => newsF w1 u j y hy) (fun y hy => by simp at hy; subst hy; exact hu) (by unfold maxLen; omega) (by omega) ?_
  intro g cap w' h1 h2 h3
  refine h g cap w' h1 ((below_fr hA _).trans h2 (fun k hk => .inl hk)) (h3.elim .inl (fun e => .inr (Nat.le_trans hA.size e)))
theorem rows1 (w : World) (c1 : Array Value) (t1 : TypeId) : Below w.heap.size w (w.alloc (.cells c1 t1)) ∧ (w.alloc (.cells c1 t1)).heap[w.heap.size]? = some (.cells c1 t1 (0, 0)) := ⟨(Below.refl _ _).alloc (Nat.le_refl _) _, heap_alloc_new _ _⟩
theorem rows3 (w : World) (c1 c2 c3 : Array Value) (t1 t2 t3 : TypeId) : Below w.heap.size w (((w.alloc (.cells c1 t1)).alloc (.cells c2 t2)).alloc (.cells c3 t3)) ∧ (((w.alloc (.cells c1 t1)).alloc (.cells c2 t2)).alloc (.cells c3 t3)).heap[w.heap.size]? = some (.cells c1 t1 (0, 0)) ∧ (((w.alloc (.cells c1 t1)).alloc (.cells c2 t2)).alloc (.cells c3 t3)).heap[w.heap.size + 1]? = some (.cells c2 t2 (0, 0)) ∧ (((w.alloc (.cells c1 t1)).alloc (.cells c2 t2)).alloc (.cells c3 t3)).heap[w.heap.size + 1 + 1]? = some (.cells c3 t3 (0, 0)) := by
  have e1 := alloc_size w (.cells c1 t1)
  have e2 := alloc_size (w.alloc (.cells c1 t1)) (.cells c2 t2)
  have b1 : Below w.heap.size w (w.alloc (.cells c1 t1)) := (Below.refl _ _).alloc (Nat.le_refl _) _
  have b2 : Below (w.alloc (.cells c1 t1)).heap.size (w.alloc (.cells c1 t1)) ((w.alloc (.cells c1 t1)).alloc (.cells c2 t2)) := (Below.refl _ _).alloc (Nat.le_refl _) _
  have b3 : Below ((w.alloc (.cells c1 t1)).alloc (.cells c2 t2)).heap.size ((w.alloc (.cells c1 t1)).alloc (.cells c2 t2)) (((w.alloc (.cells c1 t1)).alloc (.cells c2 t2)).alloc (.cells c3 t3)) := (Below.refl _ _).alloc (Nat.le_refl _) _
  have r1 := heap_alloc_new w (.cells c1 t1)
  have r2 := heap_alloc_new (w.alloc (.cells c1 t1)) (.cells c2 t2)
  have r3 := heap_alloc_new ((w.alloc (.cells c1 t1)).alloc (.cells c2 t2)) (.cells c3 t3)
  have r1' := (b2.block _ (heap_lt r1)).trans r1
  have r1'' := (b3.block _ (heap_lt r1')).trans r1'
  have r2' := (b3.block _ (heap_lt r2)).trans r2
  rw [e1] at r2'
  rw [e2, e1] at r3
  exact ⟨(b1.trans (b2.mono b1.size)).trans (b3.mono (Nat.le_trans b1.size b2.size)), r1'', r2', r3⟩
/-- what stands around a step that is added -/
theorem steps_add (B : Nat) (w w3 : World) (D : Dk) (hDl : ∀ k, D.has k → k < B) (p : Nat) (v : Value) (fs : List Value) (acts : List WA) (h : StepsAt w3 D p v fs acts) (hp : B ≤ p) (hv : ∀ k, v.ownBlock = some k → B ≤ k) (hB : B ≤ w.heap.size) (hb : Below w.heap.size w w3) (f : Value) (t : WA) (hj : JobAt w3 D p f t) (s : Nat) (hs : w3.heap[s]? = some (.cells #[.pointer (some ⟨p, 0, none⟩)] 169 (0, 0)))
    (g cap : Nat) (w' : World) (h1 : w'.ownsRow 0 84 1 (.slice (some ⟨g, 0, none⟩) (acts.length + 1) cap) (acts.length + 1) (fs ++ [f])) (h2 : Fr (fun k => v.ownBlock = some k) w3 w') (h3 : v.ownBlock = some g ∨ w3.heap.size ≤ g) :
    StepsAt (w'.setCell ⟨p, 1, none⟩ (.slice (some ⟨g, 0, none⟩) (acts.length + 1) cap)) D p (.slice (some ⟨g, 0, none⟩) (acts.length + 1) cap) (fs ++ [f]) (acts ++ [t]) ∧ B ≤ g ∧ Below B w (w'.setCell ⟨p, 1, none⟩ (.slice (some ⟨g, 0, none⟩) (acts.length + 1) cap)) ∧ w'.cell? ⟨p, 1, none⟩ = some v ∧ w'.frozen? ⟨p, 1, none⟩ = false ∧ w'.cell? ⟨s, 0, none⟩ = some (.pointer (some ⟨p, 0, none⟩)) := by
  have hnp : ¬ v.ownBlock = some p := own_apartR h.own h.row (by decide)
  have hrow : w'.heap[p]? = some (.cells #[.pointer (some ⟨D.d, 0, none⟩), v] 172 (0, 0)) := h2.heap h.row hnp
  have hsr := h2.heap hs (own_apartR h.own hs (by decide))
  have hs3 : w.heap.size ≤ w3.heap.size := hb.size
  have hg : B ≤ g := h3.elim (hv g) (fun e => by omega)
  have b1 : Below B w w3 := hb.mono hB
  have b2 : Below B w w' := b1.trans (h2.below B hv (by omega))
  refine ⟨h.more hj h1 h2 h3 (fun k hk => by have := hDl k hk; omega), hg, b2.trans (Fr.below Fr.set _ (fun k hk => by rw [hk]; exact hp) (Nat.le_trans hB b2.size)), by rw [cell_of_row _ _ _ _ _ _ hrow]; rfl, frozen_of_row _ _ _ _ _ hrow, by rw [cell_of_row _ _ _ _ _ _ hsr]; rfl⟩
set_option maxRecDepth 100000 in
set_option maxHeartbeats 4000000 in
theorem swrite_any (B : Nat) (w : World) (D : Dk) (hDl : ∀ k, D.has k → k < B) (p : Nat) (v : Value) (fs : List Value) (acts : List WA) (h : StepsAt w D p v fs acts) (hp : B ≤ p) (hv : ∀ k, v.ownBlock = some k → B ≤ k) (hB : B ≤ w.heap.size) (i g c : Nat) (x : List Int) (hx : BlkAt w g x) (hg : ¬ D.has g) (hi : i < D.nb) (hl : acts.length + 1 ≤ 1000000) :
    Calls Tryz.prog 120 #[.pointer (some ⟨p, 0, none⟩), .int .i64 i, .slice (some ⟨g, 0, none⟩) 512 c] w fun e w' => e = .returned (.tuple #[]) ∧ ∃ v' f, StepsAt w' D p v' (fs ++ [f]) (acts ++ [some (i, x)]) ∧ (∀ k, v'.ownBlock = some k → B ≤ k) ∧ Below B w w' := by
  obtain ⟨wb, hwb⟩ : ∃ wb, wb = (((w.alloc (.cells #[.pointer (some ⟨p, 0, none⟩)] 169)).alloc (.cells #[.int .i64 i] 3)).alloc (.cells #[.slice (some ⟨g, 0, none⟩) 512 c] 22)) := ⟨_, rfl⟩
  obtain ⟨hbw, hr0, hr1, hr2⟩ := rows3 w #[.pointer (some ⟨p, 0, none⟩)] #[.int .i64 i] #[.slice (some ⟨g, 0, none⟩) 512 c] 169 3 22
  rw [← hwb] at hbw hr0 hr1 hr2
  have hS0 := h.on hbw
  have hge : ∀ k, w.heap.size ≤ k → ¬ D.has k := fun k hk hd => by have := hDl k hd; omega
  have hj : JobAt wb D p (.func (.func 152) #[] #[.pointer (some ⟨w.heap.size, 0, none⟩), .pointer (some ⟨w.heap.size + 1, 0, none⟩), .pointer (some ⟨w.heap.size + 1 + 1, 0, none⟩)]) (some (i, x)) := ⟨_, _, _, g, c, rfl, hr0, hr1, hr2, hx.on hbw, hi, hge _ (by omega), hge _ (by omega), hge _ (by omega), hg⟩
  have HS : Hid (StepsAt wb D p v fs acts) := hS0
  obtain ⟨q0, q1, q2⟩ := HS.out.cells
  have q3 : wb.cell? ⟨w.heap.size, 0, none⟩ = some (.pointer (some ⟨p, 0, none⟩)) := by rw [cell_of_row _ _ _ _ _ _ hr0]; rfl
  have HAl : Hid (∀ (o : Obj), Below wb.heap.size wb (wb.alloc o)) := fun o => (Below.refl _ _).alloc (Nat.le_refl _) _
  have q4 : ∀ o, (wb.alloc o).cell? ⟨w.heap.size, 0, none⟩ = some (.pointer (some ⟨p, 0, none⟩)) := fun o => ((HAl.out o).cell (block_lt_of_cell q3)).trans q3
  have q5 : ∀ o, (wb.alloc o).cell? ⟨p, 1, none⟩ = some v := fun o => ((HAl.out o).cell (block_lt_of_cell q1)).trans q1
  have hmf : ∀ (fn : Fn) (first cap : Array Value) (w : World), (Instr.makeFunc fn first cap).run Tryz.prog w = .ok (.func fn first cap) w := fun _ _ _ _ => rfl
  have HX := steps_add B w wb D hDl p v fs acts HS.out hp hv hB hbw _ _ hj _ hr0
  have HXh : Hid (∀ g cap w', w'.ownsRow 0 84 1 (.slice (some ⟨g, 0, none⟩) (acts.length + 1) cap) (acts.length + 1) (fs ++ [(Value.func (.func 152) #[] #[.pointer (some ⟨w.heap.size, 0, none⟩), .pointer (some ⟨w.heap.size + 1, 0, none⟩), .pointer (some ⟨w.heap.size + 1 + 1, 0, none⟩)])]) → Fr (fun k => v.ownBlock = some k) wb w' → (v.ownBlock = some g ∨ wb.heap.size ≤ g) → _) := HX
  clear h hS0 hge hj HX hbw hr0 hr1 hr2
  go_enter Tryz.func120, Tryz.ntmps120
  go_wp2
  rw [← hwb]
  clear hwb
  go_region_law (refine step_f1 (w1 := wb) rfl (.tmp 10) (.tmp 12) rfl v acts.length fs (Value.func (.func 152) #[] #[.pointer (some ⟨w.heap.size, 0, none⟩), .pointer (some ⟨w.heap.size + 1, 0, none⟩), .pointer (some ⟨w.heap.size + 1 + 1, 0, none⟩)]) rfl (by simp [Act.eval]) (by simp [Act.eval]) HS.out.own (by omega) ?_; intro g5 cap5 w5 ho hf hg; obtain ⟨x1, x2, x3, x4, x5, x6⟩ := HXh.out g5 cap5 w5 ho hf hg; have H5 : Hid (StepsAt (w5.setCell ⟨p, 1, none⟩ (.slice (some ⟨g5, 0, none⟩) (acts.length + 1) cap5)) D p (.slice (some ⟨g5, 0, none⟩) (acts.length + 1) cap5) (fs ++ [(Value.func (.func 152) #[] #[.pointer (some ⟨w.heap.size, 0, none⟩), .pointer (some ⟨w.heap.size + 1, 0, none⟩), .pointer (some ⟨w.heap.size + 1 + 1, 0, none⟩)])]) (acts ++ [some (i, x)]) ∧ B ≤ g5 ∧ Below B w (w5.setCell ⟨p, 1, none⟩ (.slice (some ⟨g5, 0, none⟩) (acts.length + 1) cap5))) := ⟨x1, x2, x3⟩; clear ho hf hg x1 x2 x3)
  all_goals
    go_wp2
    go_end0
    exact ⟨rfl, _, _, H5.out.1, (fun k hk => by cases hk; exact H5.out.2.1), H5.out.2.2⟩
end Go.Proofs.YtflienghgobmoaaGreatDoor

namespace Go.Proofs.YtflienghgobmoaaGreatDoor
open Go.RowKit Rec

set_option maxRecDepth 100000 in
set_option maxHeartbeats 4000000 in
theorem sflush_any (B : Nat) (w : World) (D : Dk) (hDl : ∀ k, D.has k → k < B) (p : Nat) (v : Value) (fs : List Value) (acts : List WA) (h : StepsAt w D p v fs acts) (hp : B ≤ p) (hv : ∀ k, v.ownBlock = some k → B ≤ k) (hB : B ≤ w.heap.size) (hl : acts.length + 1 ≤ 1000000) :
    Calls Tryz.prog 121 #[.pointer (some ⟨p, 0, none⟩)] w fun e w' => e = .returned (.tuple #[]) ∧ ∃ v' f, StepsAt w' D p v' (fs ++ [f]) (acts ++ [none]) ∧ (∀ k, v'.ownBlock = some k → B ≤ k) ∧ Below B w w' := by
  obtain ⟨wb, hwb⟩ : ∃ wb, wb = w.alloc (.cells #[.pointer (some ⟨p, 0, none⟩)] 169) := ⟨_, rfl⟩
  obtain ⟨hbw, hr0⟩ := rows1 w #[.pointer (some ⟨p, 0, none⟩)] 169
  rw [← hwb] at hbw hr0
  have hS0 := h.on hbw
  have hge : ∀ k, w.heap.size ≤ k → ¬ D.has k := fun k hk hd => by have := hDl k hd; omega
  have hj : JobAt wb D p (.func (.func 154) #[] #[.pointer (some ⟨w.heap.size, 0, none⟩)]) (none) := ⟨_, rfl, hr0, hge _ (by omega)⟩
  have HS : Hid (StepsAt wb D p v fs acts) := hS0
  obtain ⟨q0, q1, q2⟩ := HS.out.cells
  have q3 : wb.cell? ⟨w.heap.size, 0, none⟩ = some (.pointer (some ⟨p, 0, none⟩)) := by rw [cell_of_row _ _ _ _ _ _ hr0]; rfl
  have HAl : Hid (∀ (o : Obj), Below wb.heap.size wb (wb.alloc o)) := fun o => (Below.refl _ _).alloc (Nat.le_refl _) _
  have q4 : ∀ o, (wb.alloc o).cell? ⟨w.heap.size, 0, none⟩ = some (.pointer (some ⟨p, 0, none⟩)) := fun o => ((HAl.out o).cell (block_lt_of_cell q3)).trans q3
  have q5 : ∀ o, (wb.alloc o).cell? ⟨p, 1, none⟩ = some v := fun o => ((HAl.out o).cell (block_lt_of_cell q1)).trans q1
  have hmf : ∀ (fn : Fn) (first cap : Array Value) (w : World), (Instr.makeFunc fn first cap).run Tryz.prog w = .ok (.func fn first cap) w := fun _ _ _ _ => rfl
  have HX := steps_add B w wb D hDl p v fs acts HS.out hp hv hB hbw _ _ hj _ hr0
  have HXh : Hid (∀ g cap w', w'.ownsRow 0 84 1 (.slice (some ⟨g, 0, none⟩) (acts.length + 1) cap) (acts.length + 1) (fs ++ [(Value.func (.func 154) #[] #[.pointer (some ⟨w.heap.size, 0, none⟩)])]) → Fr (fun k => v.ownBlock = some k) wb w' → (v.ownBlock = some g ∨ wb.heap.size ≤ g) → _) := HX
  clear h hS0 hge hj HX hbw hr0
  go_enter Tryz.func121, Tryz.ntmps121
  go_wp2
  rw [← hwb]
  clear hwb
  go_region_law (refine step_f1 (w1 := wb) rfl (.tmp 6) (.tmp 8) rfl v acts.length fs (Value.func (.func 154) #[] #[.pointer (some ⟨w.heap.size, 0, none⟩)]) rfl (by simp [Act.eval]) (by simp [Act.eval]) HS.out.own (by omega) ?_; intro g5 cap5 w5 ho hf hg; obtain ⟨x1, x2, x3, x4, x5, x6⟩ := HXh.out g5 cap5 w5 ho hf hg; have H5 : Hid (StepsAt (w5.setCell ⟨p, 1, none⟩ (.slice (some ⟨g5, 0, none⟩) (acts.length + 1) cap5)) D p (.slice (some ⟨g5, 0, none⟩) (acts.length + 1) cap5) (fs ++ [(Value.func (.func 154) #[] #[.pointer (some ⟨w.heap.size, 0, none⟩)])]) (acts ++ [none]) ∧ B ≤ g5 ∧ Below B w (w5.setCell ⟨p, 1, none⟩ (.slice (some ⟨g5, 0, none⟩) (acts.length + 1) cap5))) := ⟨x1, x2, x3⟩; clear ho hf hg x1 x2 x3)
  all_goals
    go_wp2
    go_end0
    exact ⟨rfl, _, _, H5.out.1, (fun k hk => by cases hk; exact H5.out.2.1), H5.out.2.2⟩
end Go.Proofs.YtflienghgobmoaaGreatDoor

namespace Go.Proofs.YtflienghgobmoaaGreatDoor
open Go.RowKit Rec

theorem take_append (a : AD) (xs ys : List WA) : (a.takeE xs = 0 → a.take (xs ++ ys) = (a.take xs).take ys ∧ a.takeE (xs ++ ys) = (a.take xs).takeE ys) ∧ (a.takeE xs ≠ 0 → a.take (xs ++ ys) = a.take xs ∧ a.takeE (xs ++ ys) = a.takeE xs) := by
  induction xs generalizing a with
  | nil => exact ⟨fun _ => ⟨rfl, rfl⟩, fun h => absurd rfl h⟩
  | cons t xs ih =>
    simp only [List.cons_append, AD.take, AD.takeE]
    cases hd : a.down with
    | true => simp
    | false =>
      by_cases h1 : a.at_ = 1
      · simp [h1]
      · simp only [Bool.false_eq_true, if_false, if_neg h1]
        exact ih (a.act t)
theorem takeE_vals (a : AD) (xs : List WA) : a.takeE xs = 0 ∨ a.takeE xs = 30 := by
  induction xs generalizing a with
  | nil => exact .inl rfl
  | cons t xs ih =>
    rw [AD.takeE]
    split
    · exact .inr rfl
    · split
      · exact .inr rfl
      · exact ih _
/-- there is room for so many steps -/
structure RoomN (a : AD) (n : Nat) : Prop where
  p : a.P.length + n ≤ 4294967296
  t : a.T.length + n ≤ 4294967296
  w : a.wr + n ≤ 4294967296
  f : a.fl + n ≤ 4294967296
  k : a.keep.length ≤ 9223372036854775807
theorem RoomN.room {a : AD} {n : Nat} (h : RoomN a (n + 1)) : RoomD a := ⟨by have := h.p; omega, by have := h.t; omega, by have := h.w; omega, by have := h.f; omega, h.k⟩
theorem RoomN.le {a : AD} {n m : Nat} (h : RoomN a n) (hm : m ≤ n) : RoomN a m := ⟨by have := h.p; omega, by have := h.t; omega, by have := h.w; omega, by have := h.f; omega, h.k⟩
/-- what the step at which the power goes does -/
def AD.lastA (a : AD) : WA → AD
  | none => ({ a with fl := a.fl + 1 } : AD).cutW (kpOf a.keep)
  | some p => (a.wrs [p]).cutW (kpOf a.keep)
theorem take_one (a : AD) (t : WA) (h : a.at_ = 1) : a.act t = a.lastA t ∧ True := by
  refine ⟨?_, trivial⟩
  cases t with
  | none =>
    show a.flush = _
    unfold AD.flush
    rw [if_pos h]
    unfold AD.cut
    rw [AD.settle_fw]; rfl
  | some p =>
    show a.write p.1 p.2 = _
    unfold AD.write
    rw [if_pos h]
    unfold AD.cut
    rw [AD.settle_fw]
    rfl
theorem RoomN.act {a : AD} {n : Nat} (h : RoomN a (n + 1)) (t : WA) : RoomN (a.act t) n := by
  have h1 := h.p
  have h2 := h.t
  have h3 := h.w
  have h4 := h.f
  have h5 := h.k
  cases t with
  | none =>
    by_cases c : a.at_ = 1
    · have e : a.act none = (({ a with fl := a.fl + 1 } : AD).cutW (kpOf a.keep)) := (take_one a none c).1
      rw [e]
      exact ⟨by show 0 + n ≤ _; omega, by show a.T.length + n ≤ _; omega, by show a.wr + n ≤ _; omega, by show a.fl + 1 + n ≤ _; omega, h5⟩
    · rw [show a.act none = a.fls from flush_un a c]
      exact ⟨by show 0 + n ≤ _; omega, by show (a.T ++ [actT none]).length + n ≤ _; rw [List.length_append]; simp; omega, by show a.wr + n ≤ _; omega, by show a.fl + 1 + n ≤ _; omega, h5⟩
  | some p =>
    by_cases c : a.at_ = 1
    · have e : a.act (some p) = (a.wrs [p]).cutW (kpOf a.keep) := (take_one a (some p) c).1
      rw [e]
      exact ⟨by show 0 + n ≤ _; omega, by show (a.T ++ [actT (some p)]).length + n ≤ _; rw [List.length_append]; simp; omega, by show a.wr + 1 + n ≤ _; omega, by show a.fl + n ≤ _; omega, h5⟩
    · rw [show a.act (some p) = a.wrs [p] from write_un a _ _ c]
      exact ⟨by show (a.P ++ [p]).length + n ≤ _; rw [List.length_append]; simp; omega, by show (a.T ++ [actT (some p)]).length + n ≤ _; rw [List.length_append]; simp; omega, by show a.wr + 1 + n ≤ _; omega, by show a.fl + n ≤ _; omega, h5⟩
theorem RoomN.take {n : Nat} (xs : List WA) : ∀ {a : AD}, RoomN a (xs.length + n) → RoomN (a.take xs) n := by
  induction xs with
  | nil => intro a h; exact h.le (by omega)
  | cons t xs ih =>
    intro a h
    have h' : RoomN a ((xs.length + n) + 1) := h.le (by simp; omega)
    rw [AD.take]
    split
    · exact h.le (by omega)
    · split
      · exact (h'.act t).le (by omega)
      · exact ih (h'.act t)
theorem act_nb (a : AD) (t : WA) : (a.act t).nb = a.nb := by
  by_cases c : a.at_ = 1
  · rw [(take_one a t c).1]; cases t <;> rfl
  · cases t with
    | none => rw [show a.act none = a.fls from flush_un a c]; rfl
    | some p => rw [show a.act (some p) = a.wrs [p] from write_un a _ _ c]; rfl
end Go.Proofs.YtflienghgobmoaaGreatDoor

namespace Go.Proofs.YtflienghgobmoaaGreatDoor
open Go.RowKit Rec

theorem al_refl (n : Nat) (D : Dk) : Al n D D := fun _ hk => .inl hk
theorem take_single (a : AD) (t : WA) (hd : a.down = false) : a.takeE [t] = a.stepE ∧ a.take [t] = a.act t := by
  unfold AD.stepE
  rw [AD.takeE, AD.take, hd]
  simp only [Bool.false_eq_true, if_false]
  split
  · exact ⟨rfl, rfl⟩
  · exact ⟨rfl, rfl⟩
theorem take_down (a : AD) (t : WA) (xs : List WA) (hd : a.down = true) : a.takeE (t :: xs) = 30 ∧ a.take (t :: xs) = a := by
  rw [AD.takeE, AD.take, hd]; exact ⟨rfl, rfl⟩
theorem write_job (w : World) (D : Dk) (h : Disk w D) (i g c : Nat) (x : List Int) (hx : BlkAt w g x) (hg : ¬ D.has g) (hi : i < D.nb) (hr : RoomD D.abs) :
    Calls Tryz.prog 153 #[.pointer (some ⟨D.d, 0, none⟩), .int .i64 i, .slice (some ⟨g, 0, none⟩) 512 c] w fun e w' => e = .returned (.int .i64 (D.abs.takeE [some (i, x)])) ∧ ∃ D', Disk w' D' ∧ Mv w D w' D' ∧ Al w.heap.size D D' ∧ D'.abs = D.abs.take [some (i, x)] := by
  cases hd : D.down with
  | true =>
    have ht : touchE D i = 30 := by unfold touchE; rw [hd]; rfl
    obtain ⟨e1, e2⟩ := take_down D.abs (some (i, x)) [] hd
    rw [e1, e2]
    refine (write_no w D h i _ _ _ (by rw [ht]; decide)).mono ?_
    rintro e w' ⟨rfl, rfl⟩
    exact ⟨by rw [ht], D, h, Mv.refl _ _, al_refl _ _, rfl⟩
  | false =>
    obtain ⟨e1, e2⟩ := take_single D.abs (some (i, x)) hd
    rw [e1, e2]
    exact write_yes w D h i ⟨g, 0, none⟩ c x hi hd hx.bytes hx.len hr hg
theorem flush_job (w : World) (D : Dk) (h : Disk w D) (hr : RoomD D.abs) :
    Calls Tryz.prog 155 #[.pointer (some ⟨D.d, 0, none⟩)] w fun e w' => e = .returned (.int .i64 (D.abs.takeE [none])) ∧ ∃ D', Disk w' D' ∧ Mv w D w' D' ∧ Al w.heap.size D D' ∧ D'.abs = D.abs.take [none] := by
  cases hd : D.down with
  | true =>
    obtain ⟨e1, e2⟩ := take_down D.abs none [] hd
    rw [e1, e2]
    refine (flush_no w D h hd).mono ?_
    rintro e w' ⟨rfl, hb⟩
    exact ⟨rfl, D, h.on hb, mv_on _ _ _ hb, al_refl _ _, rfl⟩
  | false =>
    obtain ⟨e1, e2⟩ := take_single D.abs none hd
    rw [e1, e2]
    exact flush_yes w D h hd hr
set_option maxRecDepth 100000 in
set_option maxHeartbeats 1600000 in
theorem flush1_job (w : World) (D : Dk) (h : Disk w D) (p : Nat) (v : Value) (fs : List Value) (acts : List WA) (hs : StepsAt w D p v fs acts) (s : Nat) (hrow : w.heap[s]? = some (.cells #[.pointer (some ⟨p, 0, none⟩)] 169 (0, 0))) (hr : RoomD D.abs) :
    Calls Tryz.prog 154 #[.pointer (some ⟨s, 0, none⟩)] w fun e w' => e = .returned (.int .i64 (D.abs.takeE [none])) ∧ ∃ D', Disk w' D' ∧ Mv w D w' D' ∧ Al w.heap.size D D' ∧ D'.abs = D.abs.take [none] := by
  have HC : Hid (Calls Tryz.prog 155 #[.pointer (some ⟨D.d, 0, none⟩)] w fun e w' => e = .returned (.int .i64 (D.abs.takeE [none])) ∧ ∃ D', Disk w' D' ∧ Mv w D w' D' ∧ Al w.heap.size D D' ∧ D'.abs = D.abs.take [none]) := flush_job w D h hr
  obtain ⟨q0, q1, q2⟩ := hs.cells
  have q3 : w.cell? ⟨s, 0, none⟩ = some (.pointer (some ⟨p, 0, none⟩)) := by rw [cell_of_row _ _ _ _ _ _ hrow]; rfl
  clear h hs hrow hr q1 q2
  go_enter Tryz.func154, Tryz.ntmps154
  go_wp2_with (go_at_call 155; refine HC.out.mono ?_; rintro e w' ⟨rfl, hD⟩; have HD : Hid (∃ D', Disk w' D' ∧ Mv w D w' D' ∧ Al w.heap.size D D' ∧ D'.abs = D.abs.take [none]) := hD; clear hD)
  go_ret
  exact ⟨rfl, HD.out⟩
set_option maxRecDepth 100000 in
set_option maxHeartbeats 1600000 in
theorem write1_job (w : World) (D : Dk) (h : Disk w D) (p : Nat) (v : Value) (fs : List Value) (acts : List WA) (hs : StepsAt w D p v fs acts) (q : Nat × List Int) (s n b g c : Nat) (h1 : w.heap[s]? = some (.cells #[.pointer (some ⟨p, 0, none⟩)] 169 (0, 0))) (h2 : w.heap[n]? = some (.cells #[.int .i64 q.1] 3 (0, 0))) (h3 : w.heap[b]? = some (.cells #[.slice (some ⟨g, 0, none⟩) 512 c] 22 (0, 0))) (h4 : BlkAt w g q.2) (h5 : q.1 < D.nb) (h9 : ¬ D.has g) (hr : RoomD D.abs) :
    Calls Tryz.prog 152 #[.pointer (some ⟨s, 0, none⟩), .pointer (some ⟨n, 0, none⟩), .pointer (some ⟨b, 0, none⟩)] w fun e w' => e = .returned (.int .i64 (D.abs.takeE [some q])) ∧ ∃ D', Disk w' D' ∧ Mv w D w' D' ∧ Al w.heap.size D D' ∧ D'.abs = D.abs.take [some q] := by
  have hb : Below w.heap.size w w.drew := (Below.refl _ _).drew
  have HC : Hid (Calls Tryz.prog 153 #[.pointer (some ⟨D.d, 0, none⟩), .int .i64 q.1, .slice (some ⟨g, 0, none⟩) 512 c] w.drew fun e w' => e = .returned (.int .i64 (D.abs.takeE [some q])) ∧ ∃ D', Disk w' D' ∧ Mv w D w' D' ∧ Al w.heap.size D D' ∧ D'.abs = D.abs.take [some q]) := by
    refine (write_job w.drew D (h.on hb) q.1 g c q.2 (h4.on hb) h9 h5 hr).mono ?_
    rintro e w' ⟨rfl, D', hD, hm, ha, he⟩
    exact ⟨rfl, D', hD, (mv_on w w.drew D hb).trans hm, ha, he⟩
  obtain ⟨q0, q1, q2⟩ := hs.cells
  have q3 : w.cell? ⟨s, 0, none⟩ = some (.pointer (some ⟨p, 0, none⟩)) := by rw [cell_of_row _ _ _ _ _ _ h1]; rfl
  have q4 : w.cell? ⟨n, 0, none⟩ = some (.int .i64 q.1) := by rw [cell_of_row _ _ _ _ _ _ h2]; rfl
  have q5 : w.cell? ⟨b, 0, none⟩ = some (.slice (some ⟨g, 0, none⟩) 512 c) := by rw [cell_of_row _ _ _ _ _ _ h3]; rfl
  clear h hs h1 h2 h3 h4 h9 hr q1 q2 hb
  go_enter Tryz.func152, Tryz.ntmps152
  go_wp2
  go_region_law (go_simp; go_at_call 153; refine HC.out.mono ?_; rintro e w' ⟨rfl, hD⟩; have HD : Hid (∃ D', Disk w' D' ∧ Mv w D w' D' ∧ Al w.heap.size D D' ∧ D'.abs = D.abs.take [some q]) := hD; clear hD)
  all_goals
    go_wp2
    go_ret
    exact ⟨rfl, HD.out⟩
end Go.Proofs.YtflienghgobmoaaGreatDoor

namespace Go.Proofs.YtflienghgobmoaaGreatDoor
open Go.RowKit Rec

def jobFn : WA → Nat
  | none => 154
  | some _ => 152
def jobArgs : Value → Array Value
  | .func _ _ a => a
  | _ => #[]
/-- the disk behind some of the steps -/
structure DoneAt (w : World) (D : Dk) (wr : World) (E : Dk) (acts : List WA) : Prop where
  disk : Disk wr E
  mv : Mv w D wr E
  al : Al w.heap.size D E
  abs : E.abs = D.abs.take acts
theorem take_more (a : AD) (acts : List WA) (k : Nat) (t : WA) (ht : acts[k]? = some t) (h0 : a.takeE (acts.take k) = 0) : a.take (acts.take (k + 1)) = (a.take (acts.take k)).take [t] ∧ a.takeE (acts.take (k + 1)) = (a.take (acts.take k)).takeE [t] := by
  have e : acts.take (k + 1) = acts.take k ++ [t] := by rw [List.take_add_one, ht]; rfl
  rw [e]
  exact (take_append a (acts.take k) [t]).1 h0
theorem take_stop (a : AD) (acts : List WA) (k : Nat) (h0 : a.takeE (acts.take k) ≠ 0) : a.take acts = a.take (acts.take k) ∧ a.takeE acts = a.takeE (acts.take k) := by
  have := (take_append a (acts.take k) (acts.drop k)).2 h0
  rwa [List.take_append_drop] at this
theorem DoneAt.next {w : World} {D : Dk} {wr w' : World} {E E' : Dk} {acts : List WA} {k : Nat} {t : WA} (h : DoneAt w D wr E (acts.take k)) (h0 : D.abs.takeE (acts.take k) = 0) (ht : acts[k]? = some t) (hd : Disk w' E') (hm : Mv wr E w' E') (ha : Al wr.heap.size E E') (he : E'.abs = E.abs.take [t]) : DoneAt w D w' E' (acts.take (k + 1)) :=
  ⟨hd, h.mv.trans hm, al_trans h.al ha h.mv.fr.size, by rw [(take_more _ acts k t ht h0).1, ← h.abs]; exact he⟩
set_option maxRecDepth 100000 in
set_option maxHeartbeats 4000000 in
theorem carry_any (w : World) (D : Dk) (h : Disk w D) (p : Nat) (v : Value) (fs : List Value) (acts : List WA) (hs : StepsAt w D p v fs acts) (hr : RoomN D.abs acts.length) (hl : acts.length ≤ 1000000) :
    Calls Tryz.prog 124 #[.pointer (some ⟨p, 0, none⟩)] w fun e w' => e = .returned (.int .i64 (D.abs.takeE acts)) ∧ ∃ E, DoneAt w D w' E acts := by
  obtain ⟨a, c, rfl⟩ := own_form hs.own
  obtain ⟨q0, q1, q2⟩ := hs.cells
  have HS : Hid (StepsAt w D p (.slice a acts.length c) fs acts) := hs
  have HR : Hid (RoomN D.abs acts.length) := hr
  have H0 : Hid (DoneAt w D w D (acts.take 0)) := ⟨h, Mv.refl _ _, al_refl _ _, rfl⟩
  obtain ⟨n, hn⟩ : ∃ n, acts.length = n := ⟨_, rfl⟩
  have HN : Hid (acts.length = n) := hn
  rw [hn] at hl q1
  rw [hn] at HS
  clear h hs hr q0 q2 hn
  go_enter Tryz.func124, Tryz.ntmps124
  go_wp2
  clear q1
  go_loopw [11] (fun s wr => ∃ (k : Nat) (E : Dk), k ≤ n ∧ s = .int .i64 k ∧ DoneAt w D wr E (acts.take k) ∧ D.abs.takeE (acts.take k) = 0) (fun s _ => n - (intOf s).toNat)
  case atStart => exact ⟨0, D, Nat.zero_le _, rfl, H0.out, rfl⟩
  case round =>
    obtain ⟨k, E, hk, rfl, hd, h0⟩ := hrel
    have HE : Hid (DoneAt w D wr E (acts.take k) ∧ D.abs.takeE (acts.take k) = 0) := ⟨hd, h0⟩
    clear hd h0
    by_cases hlt : k < n
    · have hkl : k < acts.length := by rw [HN.out]; exact hlt
      obtain ⟨g, rfl⟩ : ∃ g, a = some ⟨g, 0, none⟩ := by
        obtain ⟨g, c', e⟩ := own_some HS.out.own (by omega)
        cases e; exact ⟨g, rfl⟩
      have HSr : Hid (StepsAt wr E p (.slice (some ⟨g, 0, none⟩) n c) fs acts) := HS.out.mv HE.out.1.mv
      obtain ⟨t, ht⟩ : ∃ t, acts[k]? = some t := ⟨acts[k], List.getElem?_eq_getElem hkl⟩
      obtain ⟨f, hf, hj⟩ := HSr.out.jobs k t ht
      have c0 : wr.cell? ⟨g, k, none⟩ = some f := by
        have := HSr.out.own.cells (g := g) rfl k f hf
        rw [Addr.add_lit] at this
        simpa using this
      have HRo : Hid (RoomD E.abs) := by
        have e : E.abs = D.abs.take (acts.take k) := HE.out.1.abs
        have : RoomN (D.abs.take (acts.take k)) 1 := RoomN.take (n := 1) (acts.take k) (HR.out.le (by rw [List.length_take]; omega))
        show RoomD E.abs
        rw [e]
        exact this.room
      have HT : Hid (acts[k]? = some t) := ht
      have HTm : Hid (D.abs.takeE (acts.take (k + 1)) = E.abs.takeE [t]) := by
        have := (take_more D.abs acts k t ht HE.out.2).2
        rw [← HE.out.1.abs] at this
        exact this
      have HF : Hid (Calls Tryz.prog (jobFn t) (jobArgs f) wr fun e w' => e = .returned (.int .i64 (E.abs.takeE [t])) ∧ ∃ E', DoneAt w D w' E' (acts.take (k + 1))) := by
        cases t with
        | none =>
          obtain ⟨s, rfl, h1, h2⟩ := hj
          refine (flush1_job wr E HE.out.1.disk p _ fs acts HSr.out s h1 HRo.out).mono ?_
          rintro e w' ⟨rfl, E', x1, x2, x3, x4⟩
          exact ⟨rfl, E', HE.out.1.next HE.out.2 HT.out x1 x2 x3 x4⟩
        | some q =>
          obtain ⟨s, n', b, g', c', rfl, h1, h2, h3, h4, h5, h6, h7, h8, h9⟩ := hj
          refine (write1_job wr E HE.out.1.disk p _ fs acts HSr.out q s n' b g' c' h1 h2 h3 h4 h5 h9 HRo.out).mono ?_
          rintro e w' ⟨rfl, E', x1, x2, x3, x4⟩
          exact ⟨rfl, E', HE.out.1.next HE.out.2 HT.out x1 x2 x3 x4⟩
      rcases takeE_vals E.abs [t] with hv | hv
      · have HV : Hid (D.abs.takeE (acts.take (k + 1)) = 0) := HTm.out.trans hv
        rw [hv] at HF
        clear hv ht HRo HTm hf HSr
        cases t with
        | none =>
          obtain ⟨s, rfl, _⟩ := hj
          go_wp2_with (go_at_call 154; refine HF.out.mono ?_; rintro e w2 ⟨rfl, E', hd⟩; have HD : Hid (DoneAt w D w2 E' (acts.take (k + 1))) := hd; clear hd)
          go_round
          case rel => exact ⟨k + 1, E', by omega, by go_num, HD.out, HV.out⟩
          case measure => simp [intOf]; omega
        | some q =>
          obtain ⟨s, n', b, g', c', rfl, _⟩ := hj
          go_wp2_with (go_at_call 152; refine HF.out.mono ?_; rintro e w2 ⟨rfl, E', hd⟩; have HD : Hid (DoneAt w D w2 E' (acts.take (k + 1))) := hd; clear hd)
          go_round
          case rel => exact ⟨k + 1, E', by omega, by go_num, HD.out, HV.out⟩
          case measure => simp [intOf]; omega
      · have HV : Hid (D.abs.takeE acts = 30 ∧ D.abs.take acts = D.abs.take (acts.take (k + 1))) := by
          have e : D.abs.takeE (acts.take (k + 1)) = 30 := HTm.out.trans hv
          obtain ⟨e1, e2⟩ := take_stop D.abs acts (k + 1) (by rw [e]; decide)
          exact ⟨e2.trans e, e1⟩
        rw [hv] at HF
        clear hv ht HRo HTm hf HSr
        cases t with
        | none =>
          obtain ⟨s, rfl, _⟩ := hj
          go_wp2_with (go_at_call 154; refine HF.out.mono ?_; rintro e w2 ⟨rfl, E', hd⟩; have HD : Hid (DoneAt w D w2 E' (acts.take (k + 1))) := hd; clear hd)
          go_ret
          exact ⟨by rw [HV.out.1]; rfl, E', HD.out.disk, HD.out.mv, HD.out.al, by rw [HV.out.2]; exact HD.out.abs⟩
        | some q =>
          obtain ⟨s, n', b, g', c', rfl, _⟩ := hj
          go_wp2_with (go_at_call 152; refine HF.out.mono ?_; rintro e w2 ⟨rfl, E', hd⟩; have HD : Hid (DoneAt w D w2 E' (acts.take (k + 1))) := hd; clear hd)
          go_ret
          exact ⟨by rw [HV.out.1]; rfl, E', HD.out.disk, HD.out.mv, HD.out.al, by rw [HV.out.2]; exact HD.out.abs⟩
    · have e : k = n := by omega
      have et : acts.take k = acts := by rw [e, ← HN.out, List.take_length]
      rw [et] at HE
      clear et
      go_wp2
      go_ret
      exact ⟨by rw [HE.out.2]; rfl, E, HE.out.1⟩
end Go.Proofs.YtflienghgobmoaaGreatDoor
