import Derived.Test.YtcdggcdkjooohaaGreatDoorWSt
import Derived.Test.YtcdggcdkjooohaaGreatDoorKWBh
namespace Go.Proofs.YtcdggcdkjooohaaGreatDoor
open Go.RowKit Rec

theorem infoF : (Tryz.prog.info? 44).map (fun i => (i.zero, i.size, i.bytes)) = some (some .nilFunc, 1, 8) := by kernel_rfl
theorem newsF (w : World) (v : Value) : ∀ j u, [v][j]? = some u → (w.alloc (.cells #[v] 44)).cell? ((⟨w.heap.size, 0, none⟩ : Addr).add j) = some u := fun m u hm => by
  have : m = 0 := by
    have := (List.getElem?_eq_some_iff.1 hm).1
    simp at this; omega
  subst this
  simp at hm
  subst hm
  rw [Addr.add_lit, cell_of_row _ _ _ _ _ _ (heap_alloc_new _ _)]
  rfl
theorem step_f1 {ops : Array Oper} {o : Oper} {act : Act} {K : Act → World → Prop} {Q : Exit → Act → World → Prop} {E : Prop} {w1 : World} (hgd : o.guard = none) (s x : Operand)
    (ho : o.op = .call { callee := .builtin .append, args := #[s, x], argTypes := #[131, 131] }) (v : Value) (k : Nat) (l : List Value) (u : Value) (hu : u.oneCell' = true) (hs : act.eval s = v) (hx : act.eval x = .slice (some ⟨w1.heap.size, 0, none⟩) 1 1)
    (hown : w1.ownsRow 0 44 1 v k l) (h47 : k + 1 ≤ 5864062014805)
    (h : ∀ g cap w', w'.ownsRow 0 44 1 (.slice (some ⟨g, 0, none⟩) (k + 1) cap) (k + 1) (l ++ [u]) → Fr (fun k => v.ownBlock = some k) w1 w' → (v.ownBlock = some g ∨ w1.heap.size ≤ g) → K (act.put o.dst (.slice (some ⟨g, 0, none⟩) (k + 1) cap)) w') :
    if Region.wanted o (yielded ops act.tmps) = true then Oper.wp Tryz.prog o act (w1.alloc (.cells #[u] 44)).drew K Q else E := by
  have hA : Below w1.heap.size w1 (w1.alloc (.cells #[u] 44)).drew := ((Below.refl _ _).alloc (Nat.le_refl _) _).drew
  obtain ⟨i0, hi, hz0, hz1, hz2⟩ := info_parts infoF
  refine step_own hgd s x 131 ho 44 i0 _ 1 8 Tryz.underlying131 hi hz0 hz1 hz2 rfl (by decide) v k l hs (owns_on hown hA) ⟨w1.heap.size, 0, none⟩ 1 1 [u] hx (by omega) rfl (fun j y hy => newsF w1 u j y hy) (fun y hy => by simp at hy; subst hy; exact hu) (by unfold maxLen; omega) (by omega) ?_
  intro g cap w' h1 h2 h3
  refine h g cap w' h1 ((below_fr hA _).trans h2 (fun k hk => .inl hk)) (h3.elim .inl (fun e => .inr (Nat.le_trans hA.size e)))
theorem rows1 (w : World) (c1 : Array Value) (t1 : TypeId) : Below w.heap.size w (w.alloc (.cells c1 t1)) ∧ (w.alloc (.cells c1 t1)).heap[w.heap.size]? = some (.cells c1 t1 (0, 0)) := ⟨(Below.refl _ _).alloc (Nat.le_refl _) _, heap_alloc_new _ _⟩
theorem rows3 (w : World) (c1 c2 c3 : Array Value) (t1 t2 t3 : TypeId) : Below w.heap.size w (((w.alloc (.cells c1 t1)).alloc (.cells c2 t2)).alloc (.cells c3 t3)) ∧ (((w.alloc (.cells c1 t1)).alloc (.cells c2 t2)).alloc (.cells c3 t3)).heap[w.heap.size]? = some (.cells c1 t1 (0, 0)) ∧ (((w.alloc (.cells c1 t1)).alloc (.cells c2 t2)).alloc (.cells c3 t3)).heap[w.heap.size + 1]? = some (.cells c2 t2 (0, 0)) ∧ (((w.alloc (.cells c1 t1)).alloc (.cells c2 t2)).alloc (.cells c3 t3)).heap[w.heap.size + 1 + 1]? = some (.cells c3 t3 (0, 0)) := by
  have e1 := alloc_size w (.cells c1 t1)
  have e2 := alloc_size (w.alloc (.cells c1 t1)) (.cells c2 t2)
  have b1 : Below w.heap.size w (w.alloc (.cells c1 t1)) := (Below.refl _ _).alloc (Nat.le_refl _) _
  have b2 : Below (w.alloc (.cells c1 t1)).heap.size (w.alloc (.cells c1 t1)) ((w.alloc (.cells c1 t1)).alloc (.cells c2 t2)) := (Below.refl _ _).alloc (Nat.le_refl _) _
  have b3 : Below ((w.alloc (.cells c1 t1)).alloc (.cells c2 t2)).heap.size ((w.alloc (.cells c1 t1)).alloc (.cells c2 t2)) (((w.alloc (.cells c1 t1)).alloc (.cells c2 t2)).alloc (.cells c3 t3)) := (Below.refl _ _).alloc (Nat.le_refl _) _
  have r1 := heap_alloc_new w (.cells c1 t1)
  have r2 := heap_alloc_new (w.alloc (.cells c1 t1)) (.cells c2 t2)
  have r3 := heap_alloc_new ((w.alloc (.cells c1 t1)).alloc (.cells c2 t2)) (.cells c3 t3)
  have r1' := (b2.block _ (heap_lt r1)).trans r1
  have r1'' := (b3.block _ (heap_lt r1')).trans r1'
  have r2' := (b3.block _ (heap_lt r2)).trans r2
  rw [e1] at r2'
  rw [e2, e1] at r3
  exact ⟨(b1.trans (b2.mono b1.size)).trans (b3.mono (Nat.le_trans b1.size b2.size)), r1'', r2', r3⟩
/-- what stands around a step that is added -/
theorem steps_add (B : Nat) (w w3 : World) (D : Dk) (hDl : ∀ k, D.has k → k < B) (p : Nat) (v : Value) (fs : List Value) (acts : List WA) (h : StepsAt w3 D p v fs acts) (hp : B ≤ p) (hv : ∀ k, v.ownBlock = some k → B ≤ k) (hB : B ≤ w.heap.size) (hb : Below w.heap.size w w3) (f : Value) (t : WA) (hj : JobAt w3 D p f t) (s : Nat) (hs : w3.heap[s]? = some (.cells #[.pointer (some ⟨p, 0, none⟩)] 130 (0, 0)))
    (g cap : Nat) (w' : World) (h1 : w'.ownsRow 0 44 1 (.slice (some ⟨g, 0, none⟩) (acts.length + 1) cap) (acts.length + 1) (fs ++ [f])) (h2 : Fr (fun k => v.ownBlock = some k) w3 w') (h3 : v.ownBlock = some g ∨ w3.heap.size ≤ g) :
    StepsAt (w'.setCell ⟨p, 1, none⟩ (.slice (some ⟨g, 0, none⟩) (acts.length + 1) cap)) D p (.slice (some ⟨g, 0, none⟩) (acts.length + 1) cap) (fs ++ [f]) (acts ++ [t]) ∧ B ≤ g ∧ Below B w (w'.setCell ⟨p, 1, none⟩ (.slice (some ⟨g, 0, none⟩) (acts.length + 1) cap)) ∧ w'.cell? ⟨p, 1, none⟩ = some v ∧ w'.frozen? ⟨p, 1, none⟩ = false ∧ w'.cell? ⟨s, 0, none⟩ = some (.pointer (some ⟨p, 0, none⟩)) := by
  have hnp : ¬ v.ownBlock = some p := own_apartR h.own h.row (by decide)
  have hrow : w'.heap[p]? = some (.cells #[.pointer (some ⟨D.d, 0, none⟩), v] 133 (0, 0)) := h2.heap h.row hnp
  have hsr := h2.heap hs (own_apartR h.own hs (by decide))
  have hs3 : w.heap.size ≤ w3.heap.size := hb.size
  have hg : B ≤ g := h3.elim (hv g) (fun e => by omega)
  have b1 : Below B w w3 := hb.mono hB
  have b2 : Below B w w' := b1.trans (h2.below B hv (by omega))
  refine ⟨h.more hj h1 h2 h3 (fun k hk => by have := hDl k hk; omega), hg, b2.trans (Fr.below Fr.set _ (fun k hk => by rw [hk]; exact hp) (Nat.le_trans hB b2.size)), by rw [cell_of_row _ _ _ _ _ _ hrow]; rfl, frozen_of_row _ _ _ _ _ hrow, by rw [cell_of_row _ _ _ _ _ _ hsr]; rfl⟩
set_option maxRecDepth 100000 in
set_option maxHeartbeats 4000000 in
theorem swrite_any (B : Nat) (w : World) (D : Dk) (hDl : ∀ k, D.has k → k < B) (p : Nat) (v : Value) (fs : List Value) (acts : List WA) (h : StepsAt w D p v fs acts) (hp : B ≤ p) (hv : ∀ k, v.ownBlock = some k → B ≤ k) (hB : B ≤ w.heap.size) (i g c : Nat) (x : List Int) (hx : BlkAt w g x) (hg : ¬ D.has g) (hi : i < D.nb) (hl : acts.length + 1 ≤ 1000000) :
    Calls Tryz.prog 84 #[.pointer (some ⟨p, 0, none⟩), .int .i64 i, .slice (some ⟨g, 0, none⟩) 512 c] w fun e w' => e = .returned (.tuple #[]) ∧ ∃ v' f, StepsAt w' D p v' (fs ++ [f]) (acts ++ [some (i, x)]) ∧ (∀ k, v'.ownBlock = some k → B ≤ k) ∧ Below B w w' := by
  obtain ⟨wb, hwb⟩ : ∃ wb, wb = (((w.alloc (.cells #[.pointer (some ⟨p, 0, none⟩)] 130)).alloc (.cells #[.int .i64 i] 3)).alloc (.cells #[.slice (some ⟨g, 0, none⟩) 512 c] 40)) := ⟨_, rfl⟩
  obtain ⟨hbw, hr0, hr1, hr2⟩ := rows3 w #[.pointer (some ⟨p, 0, none⟩)] #[.int .i64 i] #[.slice (some ⟨g, 0, none⟩) 512 c] 130 3 40
  rw [← hwb] at hbw hr0 hr1 hr2
  have hS0 := h.on hbw
  have hge : ∀ k, w.heap.size ≤ k → ¬ D.has k := fun k hk hd => by have := hDl k hd; omega
  have hj : JobAt wb D p (.func (.func 107) #[] #[.pointer (some ⟨w.heap.size, 0, none⟩), .pointer (some ⟨w.heap.size + 1, 0, none⟩), .pointer (some ⟨w.heap.size + 1 + 1, 0, none⟩)]) (some (i, x)) := ⟨_, _, _, g, c, rfl, hr0, hr1, hr2, hx.on hbw, hi, hge _ (by omega), hge _ (by omega), hge _ (by omega), hg⟩
  have HS : Hid (StepsAt wb D p v fs acts) := hS0
  obtain ⟨q0, q1, q2⟩ := HS.out.cells
  have q3 : wb.cell? ⟨w.heap.size, 0, none⟩ = some (.pointer (some ⟨p, 0, none⟩)) := by rw [cell_of_row _ _ _ _ _ _ hr0]; rfl
  have HAl : Hid (∀ (o : Obj), Below wb.heap.size wb (wb.alloc o)) := fun o => (Below.refl _ _).alloc (Nat.le_refl _) _
  have q4 : ∀ o, (wb.alloc o).cell? ⟨w.heap.size, 0, none⟩ = some (.pointer (some ⟨p, 0, none⟩)) := fun o => ((HAl.out o).cell (block_lt_of_cell q3)).trans q3
  have q5 : ∀ o, (wb.alloc o).cell? ⟨p, 1, none⟩ = some v := fun o => ((HAl.out o).cell (block_lt_of_cell q1)).trans q1
  have hmf : ∀ (fn : Fn) (first cap : Array Value) (w : World), (Instr.makeFunc fn first cap).run Tryz.prog w = .ok (.func fn first cap) w := fun _ _ _ _ => rfl
  have HX := steps_add B w wb D hDl p v fs acts HS.out hp hv hB hbw _ _ hj _ hr0
  have HXh : Hid (∀ g cap w', w'.ownsRow 0 44 1 (.slice (some ⟨g, 0, none⟩) (acts.length + 1) cap) (acts.length + 1) (fs ++ [(Value.func (.func 107) #[] #[.pointer (some ⟨w.heap.size, 0, none⟩), .pointer (some ⟨w.heap.size + 1, 0, none⟩), .pointer (some ⟨w.heap.size + 1 + 1, 0, none⟩)])]) → Fr (fun k => v.ownBlock = some k) wb w' → (v.ownBlock = some g ∨ wb.heap.size ≤ g) → _) := HX
  clear h hS0 hge hj HX hbw hr0 hr1 hr2
  go_enter Tryz.func84, Tryz.ntmps84
  go_wp2
  rw [← hwb]
  clear hwb
  go_region_law (refine step_f1 (w1 := wb) rfl (.tmp 10) (.tmp 12) rfl v acts.length fs (Value.func (.func 107) #[] #[.pointer (some ⟨w.heap.size, 0, none⟩), .pointer (some ⟨w.heap.size + 1, 0, none⟩), .pointer (some ⟨w.heap.size + 1 + 1, 0, none⟩)]) rfl (by simp [Act.eval]) (by simp [Act.eval]) HS.out.own (by omega) ?_; intro g5 cap5 w5 ho hf hg; obtain ⟨x1, x2, x3, x4, x5, x6⟩ := HXh.out g5 cap5 w5 ho hf hg; have H5 : Hid (StepsAt (w5.setCell ⟨p, 1, none⟩ (.slice (some ⟨g5, 0, none⟩) (acts.length + 1) cap5)) D p (.slice (some ⟨g5, 0, none⟩) (acts.length + 1) cap5) (fs ++ [(Value.func (.func 107) #[] #[.pointer (some ⟨w.heap.size, 0, none⟩), .pointer (some ⟨w.heap.size + 1, 0, none⟩), .pointer (some ⟨w.heap.size + 1 + 1, 0, none⟩)])]) (acts ++ [some (i, x)]) ∧ B ≤ g5 ∧ Below B w (w5.setCell ⟨p, 1, none⟩ (.slice (some ⟨g5, 0, none⟩) (acts.length + 1) cap5))) := ⟨x1, x2, x3⟩; clear ho hf hg x1 x2 x3)
  all_goals
    go_wp2
    go_end0
    exact ⟨rfl, _, _, H5.out.1, (fun k hk => by cases hk; exact H5.out.2.1), H5.out.2.2⟩
end Go.Proofs.YtcdggcdkjooohaaGreatDoor
