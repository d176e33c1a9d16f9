import Derived.Test.YtckldbhaaagncaaGreatDoorKWBd
import Derived.Test.YtckldbhaaagncaaGreatDoorKAStep
import Derived.Test.YtckldbhaaagncaaGreatDoorWSt
namespace Go.Proofs.YtckldbhaaagncaaGreatDoor
open Go.RowKit Rec

theorem take_bck (F : List Int) (j : Nat) : F.take (512 * (j + 1)) = F.take (512 * j) ++ bck F j := by
  rw [Nat.mul_add, Nat.mul_one, List.take_add]; rfl
theorem ReadAt.cell {w0 w : World} {F : List Int} {f k g c : Nat} {L : List Rb} (h : ReadAt w0 w F f k (.slice (some ⟨g, 0, none⟩) k c) L) (i : Nat) (q : Rb) (hq : L[i]? = some q) : w.cell? ⟨g, i, none⟩ = some (.slice (some ⟨q.g, 0, none⟩) 512 q.c) := by
  have hc := h.row.cells (g := g) rfl i q.v (by simp [hq])
  rw [Addr.add_lit] at hc
  rw [Nat.zero_add] at hc
  exact hc
end Go.Proofs.YtckldbhaaagncaaGreatDoor

namespace Go.Proofs.YtckldbhaaagncaaGreatDoor
open Go.RowKit Rec

end Go.Proofs.YtckldbhaaagncaaGreatDoor

namespace Go.Proofs.YtckldbhaaagncaaGreatDoor
open Go.RowKit Rec

theorem LogAt.on {w0 w w' : World} {F : List Int} {nb : Nat} {v1 v2 : Value} {L : List Rb} (h : LogAt w0 w F nb v1 v2 L) (hb : Below w.heap.size w w') : LogAt w0 w' F nb v1 v2 L :=
  ⟨h.nums.on hb, h.data.on hb, h.bel.trans (hb.mono h.bel.size)⟩
/-- a number and its block -/
theorem LogAt.at_ {w0 w : World} {F : List Int} {nb k : Nat} {v1 v2 : Value} {L : List Rb} (h : LogAt w0 w F nb v1 v2 L) (hk : (logN F nb).length = k) (h0 : 0 < k) :
    ∃ gn cn gd cd, v1 = .slice (some ⟨gn, 0, none⟩) k cn ∧ v2 = .slice (some ⟨gd, 0, none⟩) k cd ∧ w0.heap.size ≤ gn ∧ w0.heap.size ≤ gd ∧ ∀ i, i < k → w.cell? ⟨gn, i, none⟩ = some (.int .i64 (nth (logN F nb) i)) ∧ ∃ g c, w.cell? ⟨gd, i, none⟩ = some (.slice (some ⟨g, 0, none⟩) 512 c) ∧ OwnB w g c (bck F (2 + i)) ∧ w0.heap.size ≤ g := by
  have hd := h.data
  rw [hk] at hd
  obtain ⟨gd, cd, rfl⟩ := own_some hd.row h0
  rcases h.nums with ⟨e, _⟩ | ⟨gn, cn, e, ho, hg⟩
  · rw [e] at hk; simp at hk; omega
  · rw [hk] at e
    refine ⟨gn, cn, gd, cd, e, rfl, hg, hd.far gd rfl, fun i hi => ⟨ho.cell i (by rw [hk]; exact hi), ?_⟩⟩
    obtain ⟨q, hq⟩ : ∃ q, L[i]? = some q := ⟨L[i]'(by rw [hd.len]; exact hi), List.getElem?_eq_getElem _⟩
    obtain ⟨e1, e2, e3⟩ := hd.at_ i q hq
    rw [e1] at e2
    exact ⟨q.g, q.c, hd.cell i q hq, e2, e3⟩
theorem logH_take (F : List Int) (nb j : Nat) (hj : j < (logN F nb).length) (m : Nat) (hm : nth (logN F nb) j = (m : Int)) : (logH F nb).take (j + 1) = (logH F nb).take j ++ [(m, bck F (2 + j))] := by
  have hl : (logH F nb).length = (logN F nb).length := homes_length _ _ (logD_length _ _)
  rw [List.take_add_one, List.getElem?_eq_getElem (by rw [hl]; exact hj)]
  have e := homes_get (logN F nb) (logD F (logN F nb).length) j (by rw [← hl] at hj; exact hj)
  rw [row_logD F _ j hj, hm] at e
  have e2 : (logH F nb)[j]'(by rw [hl]; exact hj) = (m, bck F (2 + j)) := e
  rw [e2]; rfl
end Go.Proofs.YtckldbhaaagncaaGreatDoor

namespace Go.Proofs.YtckldbhaaagncaaGreatDoor
open Go.RowKit Rec

theorem openE_facts {D : Dk} (he : openE D = 0) : D.down = false ∧ 98 ≤ D.nb ∧ logE D.full D.nb = 0 := by
  have hd : D.down = false := by
    cases hd : D.down with
    | false => rfl
    | true => unfold openE at he; rw [hd] at he; simp at he
  have heL : logE D.full D.nb = 0 := by unfold openE at he; rw [hd] at he; simpa using he
  refine ⟨hd, ?_, heL⟩
  by_cases c : D.nb < 98
  · unfold logE at heL; rw [if_pos c] at heL; exact absurd heL (by decide)
  · omega
theorem logN_nat (F : List Int) (nb j : Nat) (hj : j < (logN F nb).length) : ∃ m : Nat, nth (logN F nb) j = (m : Int) ∧ 98 ≤ m ∧ m < nb := by
  have hne : logN F nb ≠ [] := fun e => by rw [e] at hj; simp at hj
  have := pre_bd _ _ (numsL_ok _ _ hne).1 j hj
  refine ⟨(nth (logN F nb) j).toNat, ?_, ?_, ?_⟩
  · have : 0 ≤ nth (logN F nb) j := by have h := this; unfold logN; omega
    omega
  · have h := this; unfold logN; omega
  · have h := this; unfold logN; omega
end Go.Proofs.YtckldbhaaagncaaGreatDoor

namespace Go.Proofs.YtckldbhaaagncaaGreatDoor
open Go.RowKit Rec

theorem alloc_size (w : World) (o : Obj) : (w.alloc o).heap.size = w.heap.size + 1 := Array.size_push _
theorem wp_make0 {ops : Array Oper} {rest : List Oper} {o : Oper} {a : Act} {Q : Exit → Act → World → Prop} {w : World} (hg : o.guard = none) (l c : Operand) (hop : o.op = Op.makeSlice 28 l c)
    (kl kc : IntKind) (C : Int) (n : Nat) (hl : a.eval l = .int kl 0) (hc : a.eval c = .int kc C) (hC : C = (n : Int)) (hn : n ≤ 4294967296)
    (hK : ∀ w', w'.ownsRow 0 3 1 (.slice (some ⟨w.heap.size, 0, none⟩) 0 n) 0 [] → Below w.heap.size w w' → wpList Tryz.prog ops Q rest (a.put o.dst (.slice (some ⟨w.heap.size, 0, none⟩) 0 n)) w') :
    wpList Tryz.prog ops Q (o :: rest) a w := by
  obtain ⟨i0, hi, hz0, hz1, hz2⟩ := info_parts info3
  refine wpList_make_own w hg l c 28 hop 0 3 i0 _ 1 Tryz.underlying28 hi hz0 hz1 kl kc C n hl hc hC (by rw [hz2]; omega) (by unfold maxLen; omega) (Nat.zero_le _) ?_
  intro w' h1 h2
  exact hK w' h1 ⟨h2.os, h2.tape, h2.output, h2.size, fun k hk => h2.block k hk (by simp)⟩
set_option maxRecDepth 100000 in
set_option maxHeartbeats 1600000 in
theorem pending_any (w : World) (D : Dk) (h : Disk w D) : Calls Tryz.prog 18 #[.pointer (some ⟨D.d, 0, none⟩)] w fun e w' => ∃ g c, e = .returned (.slice (some ⟨g, 0, none⟩) D.pen.length c) ∧ w.heap.size ≤ g ∧ w'.ownsRow 0 3 1 (.slice (some ⟨g, 0, none⟩) D.pen.length c) D.pen.length (D.pen.map (fun p => Value.int .i64 p.b)) ∧ Below w.heap.size w w' := by
  obtain ⟨pa, pc, hv, hpc, hga, hcc⟩ := owns_slice h.pen
  have C1 : w.cell? ⟨D.d, 1, none⟩ = some (.slice pa D.pen.length pc) := by rw [← hv]; exact h.cell 1
  have hpl := h.pl
  have HD : Hid (Disk w D) := h
  have HV : Hid (D.pv = .slice pa D.pen.length pc ∧ (D.pen.length = 0 ∨ ∃ g, pa = some ⟨g, 0, none⟩)) := ⟨hv, hga⟩
  obtain ⟨i1, j1, j2, j3, j4⟩ := info_parts info3
  clear h hcc hv hga
  go_enter Tryz.func18, Tryz.ntmps18
  go_wp2_with (at_make; refine wp_make0 rfl _ _ rfl _ _ _ D.pen.length rfl rfl (by rfl) hpl ?_; intro w1 ho hb; have HO : Hid (w1.ownsRow 0 3 1 (.slice (some ⟨w.heap.size, 0, none⟩) 0 D.pen.length) 0 []) := ho; have HB : Hid (Below w.heap.size w w1) := hb; have C1' : w1.cell? ⟨D.d, 1, none⟩ = some (.slice pa D.pen.length pc) := (below_fr hb (fun _ => False)).cell C1 (fun e => e); clear ho hb)
  clear C1 C1'
  go_loopw [3, 5, 17, 18, 19, 20, 21, 22, 23, 24, 25, 26] (fun b _ i _ _ _ _ _ _ _ _ _ wr => ∃ k g c : Nat, k ≤ D.pen.length ∧ i = .int .i64 k ∧ b = .slice (some ⟨g, 0, none⟩) k c ∧ w.heap.size ≤ g ∧ wr.ownsRow 0 3 1 (.slice (some ⟨g, 0, none⟩) k c) k ((D.pen.take k).map (fun p => Value.int .i64 p.b)) ∧ Below w.heap.size w wr) (fun _ _ i _ _ _ _ _ _ _ _ _ _ => D.pen.length - (intOf i).toNat)
  case atStart => exact ⟨0, _, _, Nat.zero_le _, rfl, rfl, Nat.le_refl _, by simpa using HO.out, HB.out⟩
  case round =>
    obtain ⟨k, g, c, hk, rfl, rfl, hg, ho, hb⟩ := hrel
    have HO2 : Hid (wr.ownsRow 0 3 1 (.slice (some ⟨g, 0, none⟩) k c) k ((D.pen.take k).map (fun p => Value.int .i64 p.b))) := ho
    have HB2 : Hid (Below w.heap.size w wr) := hb
    clear ho hb HO HB
    by_cases hlt : k < D.pen.length
    · obtain ⟨p, hpk, hp, hfk, hxk, c1, c2⟩ := penX D k hlt
      have hd2 := HD.out.on HB2.out
      obtain ⟨pa', pc', hv', _, _, hcc⟩ := owns_slice hd2.pen
      rw [HV.out.1] at hv'
      cases hv'
      obtain ⟨gp, rfl⟩ := HV.out.2.resolve_left (by omega)
      have d1 := (hcc gp 0 rfl).2.1 _ _ c1
      have d2 := (hcc gp 0 rfl).2.1 _ _ c2
      have HP : Hid ((D.pen.take k).map (fun p => Value.int .i64 p.b) ++ [Value.int .i64 p.b] = (D.pen.take (k + 1)).map (fun p => Value.int .i64 p.b)) := by
        show _ = _
        rw [List.take_add_one, hpk, List.map_append]; rfl
      clear hcc c1 c2 hp hfk hxk hpk hd2
      have HA : Hid (Below wr.heap.size wr ((wr.alloc (.cells #[.int .i64 p.b, .slice (some ⟨p.g, 0, none⟩) 512 p.cap] 74)).alloc (.cells #[.int .i64 p.b] 3))) := ((Below.refl _ _).alloc (Nat.le_refl _) _).alloc (by simp) _
      have hrow := heap_alloc_new (wr.alloc (.cells #[.int .i64 p.b, .slice (some ⟨p.g, 0, none⟩) 512 p.cap] 74)) (.cells #[.int .i64 p.b] 3)
      rw [alloc_size] at hrow
      have HN : Hid (∀ j u, [Value.int .i64 p.b][j]? = some u → ((wr.alloc (.cells #[.int .i64 p.b, .slice (some ⟨p.g, 0, none⟩) 512 p.cap] 74)).alloc (.cells #[.int .i64 p.b] 3)).cell? ((⟨wr.heap.size + 1, 0, none⟩ : Addr).add j) = some u) := news_of hrow _ rfl
      have HW : Hid (((wr.alloc (.cells #[.int .i64 p.b, .slice (some ⟨p.g, 0, none⟩) 512 p.cap] 74)).alloc (.cells #[.int .i64 p.b] 3)).ownsRow 0 3 1 (.slice (some ⟨g, 0, none⟩) k c) k ((D.pen.take k).map (fun p => Value.int .i64 p.b))) := owns_fr HO2.out (below_fr HA.out (fun j => wr.heap.size ≤ j)) (fun j hj => by cases hj; exact Nat.not_le.2 (owns_block HO2.out rfl))
      clear hrow
      go_wp2_with (at_builtin; refine wp_own rfl (.tmp 21) (.tmp 24) 28 rfl 3 i1 _ 1 8 Tryz.underlying28 j1 j2 j3 j4 rfl (by decide) (.slice (some ⟨g, 0, none⟩) k c) k ((D.pen.take k).map (fun p => Value.int .i64 p.b)) rfl HW.out ⟨wr.heap.size + 1, 0, none⟩ 1 1 [Value.int .i64 p.b] rfl (by decide) rfl HN.out (by intro u hu; simp at hu; subst hu; rfl) (by unfold maxLen; omega) (by omega) ?_; intro g' c' w3 ho hf hgp; have HZ : Hid (w3.ownsRow 0 3 1 (.slice (some ⟨g', 0, none⟩) (k + 1) c') (k + 1) ((D.pen.take (k + 1)).map (fun p => Value.int .i64 p.b)) ∧ w.heap.size ≤ g' ∧ Below w.heap.size w w3) := ⟨by rw [← HP.out]; exact ho, hgp.elim (fun e => by cases e; exact hg) (fun e => Nat.le_trans HB2.out.size (Nat.le_trans HA.out.size e)), (HB2.out.trans (HA.out.mono HB2.out.size)).trans (hf.below w.heap.size (fun j hj => by cases hj; exact hg) (Nat.le_trans HB2.out.size HA.out.size))⟩; clear ho hf hgp)
      exact ⟨⟨_, _, _, hlt, rfl, rfl, HZ.out.2.1, HZ.out.1, HZ.out.2.2⟩, by simp [intOf]; omega⟩
    · obtain rfl : k = D.pen.length := by omega
      go_wp2
      go_ret
      exact ⟨_, _, rfl, hg, by simpa using HO2.out, HB2.out⟩
end Go.Proofs.YtckldbhaaagncaaGreatDoor

namespace Go.Proofs.YtckldbhaaagncaaGreatDoor
open Go.RowKit Rec

theorem infoF : (Tryz.prog.info? 51).map (fun i => (i.zero, i.size, i.bytes)) = some (some .nilFunc, 1, 8) := by kernel_rfl
theorem newsF (w : World) (v : Value) : ∀ j u, [v][j]? = some u → (w.alloc (.cells #[v] 51)).cell? ((⟨w.heap.size, 0, none⟩ : Addr).add j) = some u := fun m u hm => by
  have : m = 0 := by
    have := (List.getElem?_eq_some_iff.1 hm).1
    simp at this; omega
  subst this
  simp at hm
  subst hm
  rw [Addr.add_lit, cell_of_row _ _ _ _ _ _ (heap_alloc_new _ _)]
  rfl
theorem step_f1 {ops : Array Oper} {o : Oper} {act : Act} {K : Act → World → Prop} {Q : Exit → Act → World → Prop} {E : Prop} {w1 : World} (hgd : o.guard = none) (s x : Operand)
    (ho : o.op = .call { callee := .builtin .append, args := #[s, x], argTypes := #[86, 86] }) (v : Value) (k : Nat) (l : List Value) (u : Value) (hu : u.oneCell' = true) (hs : act.eval s = v) (hx : act.eval x = .slice (some ⟨w1.heap.size, 0, none⟩) 1 1)
    (hown : w1.ownsRow 0 51 1 v k l) (h47 : k + 1 ≤ 5864062014805)
    (h : ∀ g cap w', w'.ownsRow 0 51 1 (.slice (some ⟨g, 0, none⟩) (k + 1) cap) (k + 1) (l ++ [u]) → Fr (fun k => v.ownBlock = some k) w1 w' → (v.ownBlock = some g ∨ w1.heap.size ≤ g) → K (act.put o.dst (.slice (some ⟨g, 0, none⟩) (k + 1) cap)) w') :
    if Region.wanted o (yielded ops act.tmps) = true then Oper.wp Tryz.prog o act (w1.alloc (.cells #[u] 51)).drew K Q else E := by
  have hA : Below w1.heap.size w1 (w1.alloc (.cells #[u] 51)).drew := ((Below.refl _ _).alloc (Nat.le_refl _) _).drew
  obtain ⟨i0, hi, hz0, hz1, hz2⟩ := info_parts infoF
  refine step_own hgd s x 86 ho 51 i0 _ 1 8 Tryz.underlying86 hi hz0 hz1 hz2 rfl (by decide) v k l hs (owns_on hown hA) ⟨w1.heap.size, 0, none⟩ 1 1 [u] hx (by omega) rfl (fun j y hy => newsF w1 u j y hy) (fun y hy => by simp at hy; subst hy; exact hu) (by unfold maxLen; omega) (by omega) ?_
  intro g cap w' h1 h2 h3
  refine h g cap w' h1 ((below_fr hA _).trans h2 (fun k hk => .inl hk)) (h3.elim .inl (fun e => .inr (Nat.le_trans hA.size e)))
theorem rows1 (w : World) (c1 : Array Value) (t1 : TypeId) : Below w.heap.size w (w.alloc (.cells c1 t1)) ∧ (w.alloc (.cells c1 t1)).heap[w.heap.size]? = some (.cells c1 t1 (0, 0)) := ⟨(Below.refl _ _).alloc (Nat.le_refl _) _, heap_alloc_new _ _⟩
theorem rows3 (w : World) (c1 c2 c3 : Array Value) (t1 t2 t3 : TypeId) : Below w.heap.size w (((w.alloc (.cells c1 t1)).alloc (.cells c2 t2)).alloc (.cells c3 t3)) ∧ (((w.alloc (.cells c1 t1)).alloc (.cells c2 t2)).alloc (.cells c3 t3)).heap[w.heap.size]? = some (.cells c1 t1 (0, 0)) ∧ (((w.alloc (.cells c1 t1)).alloc (.cells c2 t2)).alloc (.cells c3 t3)).heap[w.heap.size + 1]? = some (.cells c2 t2 (0, 0)) ∧ (((w.alloc (.cells c1 t1)).alloc (.cells c2 t2)).alloc (.cells c3 t3)).heap[w.heap.size + 1 + 1]? = some (.cells c3 t3 (0, 0)) := by
  have e1 := alloc_size w (.cells c1 t1)
  have e2 := alloc_size (w.alloc (.cells c1 t1)) (.cells c2 t2)
  have b1 : Below w.heap.size w (w.alloc (.cells c1 t1)) := (Below.refl _ _).alloc (Nat.le_refl _) _
  have b2 : Below (w.alloc (.cells c1 t1)).heap.size (w.alloc (.cells c1 t1)) ((w.alloc (.cells c1 t1)).alloc (.cells c2 t2)) := (Below.refl _ _).alloc (Nat.le_refl _) _
  have b3 : Below ((w.alloc (.cells c1 t1)).alloc (.cells c2 t2)).heap.size ((w.alloc (.cells c1 t1)).alloc (.cells c2 t2)) (((w.alloc (.cells c1 t1)).alloc (.cells c2 t2)).alloc (.cells c3 t3)) := (Below.refl _ _).alloc (Nat.le_refl _) _
  have r1 := heap_alloc_new w (.cells c1 t1)
  have r2 := heap_alloc_new (w.alloc (.cells c1 t1)) (.cells c2 t2)
  have r3 := heap_alloc_new ((w.alloc (.cells c1 t1)).alloc (.cells c2 t2)) (.cells c3 t3)
  have r1' := (b2.block _ (heap_lt r1)).trans r1
  have r1'' := (b3.block _ (heap_lt r1')).trans r1'
  have r2' := (b3.block _ (heap_lt r2)).trans r2
  rw [e1] at r2'
  rw [e2, e1] at r3
  exact ⟨(b1.trans (b2.mono b1.size)).trans (b3.mono (Nat.le_trans b1.size b2.size)), r1'', r2', r3⟩
/-- what stands around a step that is added -/
theorem steps_add (B : Nat) (w w3 : World) (D : Dk) (hDl : ∀ k, D.has k → k < B) (p : Nat) (v : Value) (fs : List Value) (acts : List WA) (h : StepsAt w3 D p v fs acts) (hp : B ≤ p) (hv : ∀ k, v.ownBlock = some k → B ≤ k) (hB : B ≤ w.heap.size) (hb : Below w.heap.size w w3) (f : Value) (t : WA) (hj : JobAt w3 D p f t) (s : Nat) (hs : w3.heap[s]? = some (.cells #[.pointer (some ⟨p, 0, none⟩)] 85 (0, 0)))
    (g cap : Nat) (w' : World) (h1 : w'.ownsRow 0 51 1 (.slice (some ⟨g, 0, none⟩) (acts.length + 1) cap) (acts.length + 1) (fs ++ [f])) (h2 : Fr (fun k => v.ownBlock = some k) w3 w') (h3 : v.ownBlock = some g ∨ w3.heap.size ≤ g) :
    StepsAt (w'.setCell ⟨p, 1, none⟩ (.slice (some ⟨g, 0, none⟩) (acts.length + 1) cap)) D p (.slice (some ⟨g, 0, none⟩) (acts.length + 1) cap) (fs ++ [f]) (acts ++ [t]) ∧ B ≤ g ∧ Below B w (w'.setCell ⟨p, 1, none⟩ (.slice (some ⟨g, 0, none⟩) (acts.length + 1) cap)) ∧ w'.cell? ⟨p, 1, none⟩ = some v ∧ w'.frozen? ⟨p, 1, none⟩ = false ∧ w'.cell? ⟨s, 0, none⟩ = some (.pointer (some ⟨p, 0, none⟩)) := by
  have hnp : ¬ v.ownBlock = some p := own_apartR h.own h.row (by decide)
  have hrow : w'.heap[p]? = some (.cells #[.pointer (some ⟨D.d, 0, none⟩), v] 88 (0, 0)) := h2.heap h.row hnp
  have hsr := h2.heap hs (own_apartR h.own hs (by decide))
  have hs3 : w.heap.size ≤ w3.heap.size := hb.size
  have hg : B ≤ g := h3.elim (hv g) (fun e => by omega)
  have b1 : Below B w w3 := hb.mono hB
  have b2 : Below B w w' := b1.trans (h2.below B hv (by omega))
  refine ⟨h.more hj h1 h2 h3 (fun k hk => by have := hDl k hk; omega), hg, b2.trans (Fr.below Fr.set _ (fun k hk => by rw [hk]; exact hp) (Nat.le_trans hB b2.size)), by rw [cell_of_row _ _ _ _ _ _ hrow]; rfl, frozen_of_row _ _ _ _ _ hrow, by rw [cell_of_row _ _ _ _ _ _ hsr]; rfl⟩
set_option maxRecDepth 100000 in
set_option maxHeartbeats 4000000 in
theorem swrite_any (B : Nat) (w : World) (D : Dk) (hDl : ∀ k, D.has k → k < B) (p : Nat) (v : Value) (fs : List Value) (acts : List WA) (h : StepsAt w D p v fs acts) (hp : B ≤ p) (hv : ∀ k, v.ownBlock = some k → B ≤ k) (hB : B ≤ w.heap.size) (i g c : Nat) (x : List Int) (hx : BlkAt w g x) (hg : ¬ D.has g) (hi : i < D.nb) (hl : acts.length + 1 ≤ 1000000) :
    Calls Tryz.prog 37 #[.pointer (some ⟨p, 0, none⟩), .int .i64 i, .slice (some ⟨g, 0, none⟩) 512 c] w fun e w' => e = .returned (.tuple #[]) ∧ ∃ v' f, StepsAt w' D p v' (fs ++ [f]) (acts ++ [some (i, x)]) ∧ (∀ k, v'.ownBlock = some k → B ≤ k) ∧ Below B w w' := by
  obtain ⟨wb, hwb⟩ : ∃ wb, wb = (((w.alloc (.cells #[.pointer (some ⟨p, 0, none⟩)] 85)).alloc (.cells #[.int .i64 i] 3)).alloc (.cells #[.slice (some ⟨g, 0, none⟩) 512 c] 42)) := ⟨_, rfl⟩
  obtain ⟨hbw, hr0, hr1, hr2⟩ := rows3 w #[.pointer (some ⟨p, 0, none⟩)] #[.int .i64 i] #[.slice (some ⟨g, 0, none⟩) 512 c] 85 3 42
  rw [← hwb] at hbw hr0 hr1 hr2
  have hS0 := h.on hbw
  have hge : ∀ k, w.heap.size ≤ k → ¬ D.has k := fun k hk hd => by have := hDl k hd; omega
  have hj : JobAt wb D p (.func (.func 47) #[] #[.pointer (some ⟨w.heap.size, 0, none⟩), .pointer (some ⟨w.heap.size + 1, 0, none⟩), .pointer (some ⟨w.heap.size + 1 + 1, 0, none⟩)]) (some (i, x)) := ⟨_, _, _, g, c, rfl, hr0, hr1, hr2, hx.on hbw, hi, hge _ (by omega), hge _ (by omega), hge _ (by omega), hg⟩
  have HS : Hid (StepsAt wb D p v fs acts) := hS0
  obtain ⟨q0, q1, q2⟩ := HS.out.cells
  have q3 : wb.cell? ⟨w.heap.size, 0, none⟩ = some (.pointer (some ⟨p, 0, none⟩)) := by rw [cell_of_row _ _ _ _ _ _ hr0]; rfl
  have HAl : Hid (∀ (o : Obj), Below wb.heap.size wb (wb.alloc o)) := fun o => (Below.refl _ _).alloc (Nat.le_refl _) _
  have q4 : ∀ o, (wb.alloc o).cell? ⟨w.heap.size, 0, none⟩ = some (.pointer (some ⟨p, 0, none⟩)) := fun o => ((HAl.out o).cell (block_lt_of_cell q3)).trans q3
  have q5 : ∀ o, (wb.alloc o).cell? ⟨p, 1, none⟩ = some v := fun o => ((HAl.out o).cell (block_lt_of_cell q1)).trans q1
  have hmf : ∀ (fn : Fn) (first cap : Array Value) (w : World), (Instr.makeFunc fn first cap).run Tryz.prog w = .ok (.func fn first cap) w := fun _ _ _ _ => rfl
  have HX := steps_add B w wb D hDl p v fs acts HS.out hp hv hB hbw _ _ hj _ hr0
  have HXh : Hid (∀ g cap w', w'.ownsRow 0 51 1 (.slice (some ⟨g, 0, none⟩) (acts.length + 1) cap) (acts.length + 1) (fs ++ [(Value.func (.func 47) #[] #[.pointer (some ⟨w.heap.size, 0, none⟩), .pointer (some ⟨w.heap.size + 1, 0, none⟩), .pointer (some ⟨w.heap.size + 1 + 1, 0, none⟩)])]) → Fr (fun k => v.ownBlock = some k) wb w' → (v.ownBlock = some g ∨ wb.heap.size ≤ g) → _) := HX
  clear h hS0 hge hj HX hbw hr0 hr1 hr2
  go_enter Tryz.func37, Tryz.ntmps37
  go_wp2
  rw [← hwb]
  clear hwb
  go_region_law (refine step_f1 (w1 := wb) rfl (.tmp 10) (.tmp 12) rfl v acts.length fs (Value.func (.func 47) #[] #[.pointer (some ⟨w.heap.size, 0, none⟩), .pointer (some ⟨w.heap.size + 1, 0, none⟩), .pointer (some ⟨w.heap.size + 1 + 1, 0, none⟩)]) rfl (by simp [Act.eval]) (by simp [Act.eval]) HS.out.own (by omega) ?_; intro g5 cap5 w5 ho hf hg; obtain ⟨x1, x2, x3, x4, x5, x6⟩ := HXh.out g5 cap5 w5 ho hf hg; have H5 : Hid (StepsAt (w5.setCell ⟨p, 1, none⟩ (.slice (some ⟨g5, 0, none⟩) (acts.length + 1) cap5)) D p (.slice (some ⟨g5, 0, none⟩) (acts.length + 1) cap5) (fs ++ [(Value.func (.func 47) #[] #[.pointer (some ⟨w.heap.size, 0, none⟩), .pointer (some ⟨w.heap.size + 1, 0, none⟩), .pointer (some ⟨w.heap.size + 1 + 1, 0, none⟩)])]) (acts ++ [some (i, x)]) ∧ B ≤ g5 ∧ Below B w (w5.setCell ⟨p, 1, none⟩ (.slice (some ⟨g5, 0, none⟩) (acts.length + 1) cap5))) := ⟨x1, x2, x3⟩; clear ho hf hg x1 x2 x3)
  all_goals
    go_wp2
    go_end0
    exact ⟨rfl, _, _, H5.out.1, (fun k hk => by cases hk; exact H5.out.2.1), H5.out.2.2⟩
end Go.Proofs.YtckldbhaaagncaaGreatDoor
