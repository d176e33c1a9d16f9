import Derived.Test.YtmecmeonahodaaaPaI
namespace Go.Proofs.Ytmecmeonahodaaa
open Go.RowKit Go.Shelf Pa
attribute [local go_sem] Oper.semAt_some

theorem grown_of {w w' : World} (h : Below w.heap.size w w') (r : Option Nat) : w.grownBy w' r := ⟨h.os, h.tape, h.output, h.size, fun k hk _ => h.block k hk⟩
theorem cell_new (w : World) (v : Value) (t : Nat) : (w.alloc (.cells #[v] t)).cell? ⟨w.heap.size, 0, none⟩ = some v := by
  unfold World.cell?
  rw [World.alloc_heap_new]
  rfl
theorem cps_snoc_dot (l : List Tx) : (l ++ [[46]]).filter (· ≠ [46]) = l.filter (· ≠ [46]) := by simp
theorem cps_snoc {p : Tx} (h : p ≠ [46]) (l : List Tx) : (l ++ [p]).filter (· ≠ [46]) = l.filter (· ≠ [46]) ++ [p] := by simp [h]
theorem prefix_filter {a b : List Tx} (h : a <+: b) : a.filter (· ≠ [46]) <+: b.filter (· ≠ [46]) := by
  obtain ⟨c, rfl⟩ := h
  rw [List.filter_append]
  exact List.prefix_append _ _
set_option maxRecDepth 100000 in
set_option maxHeartbeats 4000000 in
theorem comps_seq (w : World) (s : ByteArray) (hs : s.size ≤ 9223372036854775807) (B : Nat) (hB : B < w.heap.size) (hc : w.cell? ⟨B, 0, none⟩ = some (.string s)) :
    SeqR Try.prog 35 #[.pointer (some ⟨B, 0, none⟩)] (Of.enc (ps := cps (tx s))) 4 (fun ys => txs ys = cps (tx s)) (fun pre => txs pre <+: cps (tx s)) w := by
  intro l J Jx W hW hJ hJx hY h0
  have hcW : W.cell? ⟨B, 0, none⟩ = some (.string s) := (hW.cell (p := ⟨B, 0, none⟩) hB).trans hc
  have hBW : B < W.heap.size := Nat.lt_of_lt_of_le hB hW.size
  have hc1 : (W.alloc (.cells #[.func (.yield l) #[] #[]] 39)).cell? ⟨B, 0, none⟩ = some (.string s) := by
    rw [((Below.refl W.heap.size W).alloc (Nat.le_refl _) _).cell (p := ⟨B, 0, none⟩) hBW]; exact hcW
  obtain ⟨wy, hwy⟩ : ∃ wy, W.alloc (.cells #[.func (.yield l) #[] #[]] 39) = wy := ⟨_, rfl⟩
  rw [hwy] at hc1
  have hyz : wy.heap.size = W.heap.size + 1 := by rw [← hwy]; simp
  have hby : Below W.heap.size W wy := by rw [← hwy]; exact (Below.refl _ W).alloc (Nat.le_refl _) _
  have hcy : wy.cell? ⟨W.heap.size, 0, none⟩ = some (.func (.yield l) #[] #[]) := by rw [← hwy]; exact cell_new W _ _
  have C : CallsIn Fence.wide 4 Try.prog 29 #[.string s] wy _ := callsIn_wide.2 (pieces_any wy s)
  have hf : Fence.wide.fn 29 := trivial
  refine callsIn_wide (n := 5).1 ?_
  refine callsIn_of_wp_marks Try.func35 rfl trivial ?_ rfl
  simp only [Try.ntmps35, List.size_toArray, List.length_cons, List.length_nil, Nat.reduceAdd, Nat.reduceSub, Array.replicate_succ, Array.replicate_zero, List.push_toArray, List.append_toArray, List.nil_append, List.cons_append]
  gi_wp2_with (gi_at_call 29; refine C.mono ?_; clear C; rintro e w' ⟨rfl, rfl⟩)
  obtain ⟨w1, hw1⟩ : ∃ w1, wy.alloc (.cells #[.string s] 9) = w1 := ⟨_, rfl⟩
  rw [hw1]
  have h1z : w1.heap.size = W.heap.size + 2 := by rw [← hw1]; simp [hyz]
  have hb1 : Below wy.heap.size wy w1 := by rw [← hw1]; exact (Below.refl _ wy).alloc (Nat.le_refl _) _
  have hcs : w1.cell? ⟨W.heap.size + 1, 0, none⟩ = some (.string s) := by rw [← hw1, ← hyz]; exact cell_new wy _ _
  have hcy1 : w1.cell? ⟨W.heap.size, 0, none⟩ = some (.func (.yield l) #[] #[]) := (hb1.cell (p := ⟨W.heap.size, 0, none⟩) (by show W.heap.size < _; omega)).trans hcy
  have hb2 : Below W.heap.size W w1 := hby.trans (hb1.mono hby.size)
  have hJ1 : J [] w1 := hJ _ _ _ none h0 (grown_of hb2 none) (fun r e => by cases e)
  refine wpIn_rangeR (gf := 37) (lb := #[.pointer (some ⟨W.heap.size + 1, 0, none⟩)]) rfl (enters_of Try.func37 (by kernel_rfl) rfl)
    (pieces_seq w1 s hs (W.heap.size + 1) (by omega) hcs) (Below.refl _ _)
    (fun pre W' => ∃ q : List (Of (cps (tx s))), txs q = (txs pre).filter (· ≠ [46]) ∧ J q W' ∧ W'.cell? ⟨W.heap.size, 0, none⟩ = some (.func (.yield l) #[] #[]))
    (fun pre W' => ∃ q : List (Of (cps (tx s))), txs q = (txs pre).filter (· ≠ [46]) ∧ Jx q W') ?_ ?_ ⟨[], rfl, hJ1, hcy1⟩
    (fun x => { tmps := #[.func (.yield l) #[] #[], .pointer (some ⟨B, 0, none⟩), .pointer (some ⟨W.heap.size, 0, none⟩), .string x.1, .string s, .func (.func 37) #[] #[.pointer (some ⟨W.heap.size + 1, 0, none⟩)], .string x.1, undef, undef, undef, undef, undef, undef, undef, undef], defers := [] }) ?assign ?body ?done ?stop
  · rintro pre A C row ⟨q, e1, e2, e3⟩ hg hr
    exact ⟨q, e1, hJ q A C row e2 hg (fun r e => ⟨by have := (hr r e).1; omega, (hr r e).2⟩), hg.cell e3 (fun e => by have := (hr _ e.symm).1; simp at this; omega)⟩
  · rintro pre A C row ⟨q, e1, e2⟩ hg hr
    exact ⟨q, e1, hJx q A C row e2 hg (fun r e => ⟨by have := (hr r e).1; omega, (hr r e).2⟩)⟩
  case assign =>
    intro l2 x W2 K hK
    gi_wp2
    exact hK
  case body =>
    rintro l2 pre x W2 ⟨q, e1, e2, e3⟩ hsp hsz
    have HQ : Hid (txs q = (txs pre).filter (· ≠ [46]) ∧ J q W2 ∧ W2.cell? ⟨W.heap.size, 0, none⟩ = some (.func (.yield l) #[] #[])) := ⟨e1, e2, e3⟩
    clear e1 e2
    by_cases hx : tx x.1 = [46]
    · have hxb : (x.1.toList == [46]) = true := by rw [toList_tx, hx]; rfl
      gi_wp2
      refine ⟨fun _ h => (by cases h), ?_⟩
      gi_wp2
      refine ⟨Rng.refl _ _ _, q, ?_, HQ.out.2⟩
      rw [txs_snoc, hx, cps_snoc_dot]; exact HQ.out.1
    · have hxb : (x.1.toList == [46]) = false := by rw [toList_tx]; simpa using hx
      have hm : tx x.1 ∈ cps (tx s) := by
        unfold cps
        rw [List.mem_filter]
        exact ⟨x.2, by simpa using hx⟩
      obtain ⟨fn, tmps, assign, body, hy, hR⟩ := hY q ⟨x.1, hm⟩ W2 HQ.out.2.1 (by
        have := prefix_filter hsp
        rw [txs_snoc, cps_snoc hx, ← HQ.out.1] at this
        rw [txs_snoc]; exact this) (by omega)
      simp only [Of.enc] at hy
      gi_wp2
      refine (roundIn_in l2 (roundIn_any hR)).mono ?_
      rintro e W3 (⟨rfl, hJ3, hk3⟩ | ⟨rfl, hJx3, hk3⟩)
      · gi_wp2
        refine ⟨hk3.part (by omega) (by omega), q ++ [⟨x.1, hm⟩], ?_, hJ3, ?_⟩
        · rw [txs_snoc, txs_snoc, cps_snoc hx, HQ.out.1]
        · exact (World.cell?_of_block (hk3.same W.heap.size (Nat.le_refl _) (by omega))).trans HQ.out.2.2
      · gi_wp2
        refine ⟨hk3.part (by omega) (by omega), q ++ [⟨x.1, hm⟩], ?_, hJx3⟩
        rw [txs_snoc, txs_snoc, cps_snoc hx, HQ.out.1]
  case done =>
    rintro xs W2 hxs ⟨q, e1, e2, e3⟩ hd
    gi_wp2
    refine ⟨by simp, .inl ⟨_, _, rfl, run_takeDeferred hd, ?_⟩⟩
    refine ⟨_, results_none rfl _ _ _, ⟨_, rfl⟩, .inl ⟨q, ?_, hJ.putObj _ e2 (by omega) hd rfl⟩⟩
    rw [e1, hxs]; rfl
  case stop =>
    rintro xs W2 hxs ⟨q, e1, e2⟩ hd
    gi_wp2
    refine ⟨by simp, .inl ⟨_, _, rfl, run_takeDeferred hd, ?_⟩⟩
    refine ⟨_, results_none rfl _ _ _, ⟨_, rfl⟩, .inr ⟨q, ?_, hJx.putObj _ e2 (by omega) hd rfl⟩⟩
    rw [e1]; exact prefix_filter hxs
end Go.Proofs.Ytmecmeonahodaaa
