import Derived.Test.YtccocjipgbeaeabPut
namespace Go.Proofs.Ytccocjipgbeaeab
open Go.RowKit Adk

theorem neq_nil (w : World) : (binOp .neq 1 .nilFunc .nilFunc).run Try.prog w = .ok (.bool false) w := by
  have h : ∀ d : Nat, (Op.equalIn (d + 1) 1 .nilFunc .nilFunc).run Try.prog w = .ok true w := fun d => by
    simp [Op.equalIn, run_underlying Try.underlying1]
  simp only [binOp]
  simp [Op.equal, Op.maxDepth, h 9999]
theorem neq_fn (w : World) (f : Fn) (a b : Array Value) : (binOp .neq 1 (.func f a b) .nilFunc).run Try.prog w = .ok (.bool true) w := by
  have h : ∀ d : Nat, (Op.equalIn (d + 1) 1 (.func f a b) .nilFunc).run Try.prog w = .ok false w := fun d => by
    simp [Op.equalIn, run_underlying Try.underlying1]
  simp only [binOp]
  simp [Op.equal, Op.maxDepth, h 9999]
theorem Dk.ticked_has (D : Dk) (k : Nat) : D.ticked.has k ↔ D.has k := by unfold Dk.ticked; split <;> exact Iff.rfl
set_option maxRecDepth 100000 in
set_option maxHeartbeats 800000 in
theorem step_nil (w : World) (D : Dk) (h : Disk w D) (hg : D.at_ ≠ 1) :
    Calls Try.prog 60 #[.pointer (some ⟨D.d, 0, none⟩), .nilFunc] w fun e w' => e = .returned (.int .i64 0) ∧ Disk w' D.ticked ∧ Mv w D w' D.ticked := by
  have C6 : w.cell? ⟨D.d, 6, none⟩ = some (.int .i64 D.at_) := h.cell 6
  have F6 := h.frozen 6
  have h9 := h.at1
  unfold Dk.ticked
  by_cases hp : 0 < D.at_
  · rw [if_pos hp]
    have h2 : 1 < D.at_ := by omega
    obtain ⟨h8, m8⟩ := h.put1 (D' := { D with at_ := D.at_ - 1 }) 6 (.int .i64 (D.at_ - 1)) rfl rfl h.dn h.wrs h.fls (by show D.at_ - 1 ≤ _; omega)
    have HD : Hid (Disk (w.setCell ⟨D.d, 6, none⟩ (.int .i64 (D.at_ - 1))) { D with at_ := D.at_ - 1 } ∧ Mv w D (w.setCell ⟨D.d, 6, none⟩ (.int .i64 (D.at_ - 1))) { D with at_ := D.at_ - 1 }) := ⟨h8, m8⟩
    clear h h8 m8
    have E1 := neq_nil
    go_enter Try.func60, Try.ntmps60
    go_wp2
    go_ret
    exact ⟨rfl, HD.out⟩
  · rw [if_neg hp]
    have HD : Hid (Disk w D) := h
    clear h
    have E1 := neq_nil
    go_enter Try.func60, Try.ntmps60
    go_wp2
    go_ret
    exact ⟨rfl, HD.out, Mv.refl _ _⟩
/-- an act of a flush -/
def flushAc : Ac := ⟨2, 0, .slice none 0 0, []⟩
set_option maxRecDepth 100000 in
set_option maxHeartbeats 1600000 in
theorem flush1_any (w : World) (D : Dk) (h : Disk w D) (c : Nat) (hc : w.cell? ⟨c, 0, none⟩ = some (.pointer (some ⟨D.d, 0, none⟩))) (hcn : ¬ D.has c) (htl : D.tap.length + 1 ≤ 4294967296) :
    Calls Try.prog 61 #[.pointer (some ⟨c, 0, none⟩)] w fun e w' => e = .returned (.tuple #[]) ∧ ∃ gt ct, Disk w' ((D.act gt ct flushAc).settled (fun _ => true)) ∧ Mv w D w' ((D.act gt ct flushAc).settled (fun _ => true)) := by
  obtain ⟨ta, tc, htv, _⟩ := owns_slice h.tap
  have C3 : w.cell? ⟨D.d, 3, none⟩ = some (.slice ta D.tap.length tc) := by rw [← htv]; exact h.cell 3
  have HD : Hid (Disk w D) := h
  have HT : Hid (D.tv = .slice ta D.tap.length tc) := htv
  have HC : Hid (w.cell? ⟨c, 0, none⟩ = some (.pointer (some ⟨D.d, 0, none⟩)) ∧ ¬ D.has c) := ⟨hc, hcn⟩
  clear h htv hcn
  obtain ⟨i1, j1, j2, j3, j4⟩ := info_parts infoAct
  have HA : Hid (Below w.heap.size w ((w.alloc (.cells #[.int .i64 2, .int .i64 0, .slice none 0 0] 80)).drew)) := ((Below.refl _ _).alloc (Nat.le_refl _) _).drew
  have HR : (w.alloc (.cells #[.int .i64 2, .int .i64 0, .slice none 0 0] 80)).drew.heap[w.heap.size]? = _ := heap_alloc_new w (.cells #[.int .i64 2, .int .i64 0, .slice none 0 0] 80)
  have C3a : (w.alloc (.cells #[.int .i64 2, .int .i64 0, .slice none 0 0] 80)).cell? ⟨D.d, 3, none⟩ = some (.slice ta D.tap.length tc) := (fr_alloc (fun _ => False) w _).cell C3 (fun e => e)
  have Cca : (w.alloc (.cells #[.int .i64 2, .int .i64 0, .slice none 0 0] 80)).cell? ⟨c, 0, none⟩ = some (.pointer (some ⟨D.d, 0, none⟩)) := (fr_alloc (fun _ => False) w _).cell hc (fun e => e)
  have HN : Hid (∀ j u, (Ac.cells flushAc)[j]? = some u → ((w.alloc (.cells #[.int .i64 2, .int .i64 0, .slice none 0 0] 80)).drew).cell? ((⟨w.heap.size, 0, none⟩ : Addr).add j) = some u) := news_of HR _ rfl
  have HW : Hid (((w.alloc (.cells #[.int .i64 2, .int .i64 0, .slice none 0 0] 80)).drew).ownsRow 0 80 3 (.slice ta D.tap.length tc) D.tap.length (D.tap.flatMap Ac.cells)) := by
    have e := (HD.out.on HA.out).tap
    rw [HT.out] at e; exact e
  clear HR
  go_enter Try.func61, Try.ntmps61
  go_wp2
  go_region_law (refine step_own rfl (.tmp 5) (.tmp 7) 37 rfl 80 i1 _ 3 40 Try.underlying37 j1 j2 j3 j4 rfl (by decide) (.slice ta D.tap.length tc) D.tap.length (D.tap.flatMap Ac.cells) (by simp [Act.eval]) HW.out ⟨w.heap.size, 0, none⟩ 1 1 (Ac.cells flushAc) (by simp [Act.eval]) (by decide) rfl HN.out (by intro u hu; simp [Ac.cells, flushAc] at hu; rcases hu with rfl | rfl | rfl <;> rfl) (by unfold maxLen; omega) (by omega) ?_; intro gt ct w1 ho hf hgt; rw [← HT.out] at hf hgt; have HQ : Hid (Disk (w1.setCell ⟨D.d, 3, none⟩ (.slice (some ⟨gt, 0, none⟩) (D.tap.length + 1) ct)) (D.act gt ct flushAc) ∧ Mv w D (w1.setCell ⟨D.d, 3, none⟩ (.slice (some ⟨gt, 0, none⟩) (D.tap.length + 1) ct)) (D.act gt ct flushAc)) := HD.out.taped HA.out (.inr ⟨rfl, rfl, rfl, rfl⟩) ho hf hgt htl; have r1 := hf.heap (HD.out.on HA.out).row (fun e => (HD.out.ap.t _ e).1 rfl); have c3 : w1.cell? ⟨D.d, 3, none⟩ = some D.tv := cell_of_row _ _ _ _ _ _ r1; have f3 := frozen_of_row _ _ 3 _ _ r1; have cc : w1.cell? ⟨c, 0, none⟩ = some (.pointer (some ⟨D.d, 0, none⟩)) := hf.cell (by rw [HA.out.cell (p := ⟨c, 0, none⟩) (block_lt_of_cell HC.out.1)]; exact HC.out.1) (fun e => HC.out.2 (.inr (.inr (.inr (.inr e))))); clear r1 ho hf hgt)
  all_goals
    clear c3 f3 C3 hc C3a Cca cc
    generalize w1.setCell ⟨D.d, 3, none⟩ (.slice (some ⟨gt, 0, none⟩) (D.tap.length + 1) ct) = w2 at *
    have hc : w2.cell? ⟨c, 0, none⟩ = some (.pointer (some ⟨D.d, 0, none⟩)) := HQ.out.2.fr.cell HC.out.1 HC.out.2
    go_wp2_with (go_at_call 33; refine (settle_all _ (D.act gt ct flushAc) HQ.out.1).mono ?_; rintro e w3 ⟨rfl, hd, hf⟩; have HZ : Hid (Disk w3 ((D.act gt ct flushAc).settled (fun _ => true)) ∧ Fr (D.act gt ct flushAc).has w2 w3) := ⟨hd, hf⟩; clear hd hf)
    go_end0
    exact ⟨rfl, gt, ct, HZ.out.1, HQ.out.2.trans ⟨HZ.out.2, fun k hk => .inl ((settled_has _ _ k).1 hk), rfl, rfl⟩⟩
set_option maxRecDepth 100000 in
set_option maxHeartbeats 1600000 in
theorem step_flush (w : World) (D : Dk) (h : Disk w D) (hg : D.at_ ≠ 1) (c : Nat) (hc : w.cell? ⟨c, 0, none⟩ = some (.pointer (some ⟨D.d, 0, none⟩))) (hcn : ¬ D.has c) (htl : D.tap.length + 1 ≤ 4294967296) :
    Calls Try.prog 60 #[.pointer (some ⟨D.d, 0, none⟩), .func (.func 61) #[] #[.pointer (some ⟨c, 0, none⟩)]] w fun e w' => e = .returned (.int .i64 0) ∧ ∃ gt ct, Disk w' ((D.ticked.act gt ct flushAc).settled (fun _ => true)) ∧ Mv w D w' ((D.ticked.act gt ct flushAc).settled (fun _ => true)) := by
  have C6 : w.cell? ⟨D.d, 6, none⟩ = some (.int .i64 D.at_) := h.cell 6
  have F6 := h.frozen 6
  have h9 := h.at1
  unfold Dk.ticked
  by_cases hp : 0 < D.at_
  · rw [if_pos hp]
    have h2 : 1 < D.at_ := by omega
    obtain ⟨h8, m8⟩ := h.put1 (D' := { D with at_ := D.at_ - 1 }) 6 (.int .i64 (D.at_ - 1)) rfl rfl h.dn h.wrs h.fls (by show D.at_ - 1 ≤ _; omega)
    have HD : Hid (Disk (w.setCell ⟨D.d, 6, none⟩ (.int .i64 (D.at_ - 1))) { D with at_ := D.at_ - 1 } ∧ Mv w D (w.setCell ⟨D.d, 6, none⟩ (.int .i64 (D.at_ - 1))) { D with at_ := D.at_ - 1 }) := ⟨h8, m8⟩
    have HC : Hid ((w.setCell ⟨D.d, 6, none⟩ (.int .i64 (D.at_ - 1))).cell? ⟨c, 0, none⟩ = some (.pointer (some ⟨D.d, 0, none⟩)) ∧ ¬ D.has c) := ⟨m8.fr.cell hc hcn, hcn⟩
    clear h h8 m8 hc hcn
    have E1 := neq_fn
    go_enter Try.func60, Try.ntmps60
    go_wp2_with (go_at_call 61; refine (flush1_any _ { D with at_ := D.at_ - 1 } HD.out.1 c HC.out.1 HC.out.2 htl).mono ?_; rintro e w3 ⟨rfl, gt, ct, hd, hf⟩; have HZ : Hid (Disk w3 ((({ D with at_ := D.at_ - 1 } : Dk).act gt ct flushAc).settled (fun _ => true)) ∧ Mv w D w3 ((({ D with at_ := D.at_ - 1 } : Dk).act gt ct flushAc).settled (fun _ => true))) := ⟨hd, HD.out.2.trans hf⟩; clear hd hf)
    go_ret
    exact ⟨rfl, gt, ct, HZ.out⟩
  · rw [if_neg hp]
    have HD : Hid (Disk w D) := h
    have HC : Hid (w.cell? ⟨c, 0, none⟩ = some (.pointer (some ⟨D.d, 0, none⟩)) ∧ ¬ D.has c) := ⟨hc, hcn⟩
    clear h hc hcn
    have E1 := neq_fn
    go_enter Try.func60, Try.ntmps60
    go_wp2_with (go_at_call 61; refine (flush1_any _ D HD.out c HC.out.1 HC.out.2 htl).mono ?_; rintro e w3 ⟨rfl, gt, ct, hd, hf⟩; have HZ : Hid (Disk w3 ((D.act gt ct flushAc).settled (fun _ => true)) ∧ Mv w D w3 ((D.act gt ct flushAc).settled (fun _ => true))) := ⟨hd, hf⟩; clear hd hf)
    go_ret
    exact ⟨rfl, gt, ct, HZ.out⟩
end Go.Proofs.Ytccocjipgbeaeab
