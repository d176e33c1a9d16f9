import Derived.Test.YtgodjnnciacliaaKept
import Derived.Laws.ResultCell
namespace Go.Proofs.Ytgodjnnciacliaa
open Go.RowKit Adk

theorem results_row_tmp {fn : Func} {p u : Tmp} {ty : TypeId} (h : fn.results = #[.cell p ty, .tmp u]) (tmps : Array Value) (w : World) (g : Nat) (cs : Array Value)
    (hp : tmps.getD p undef = .pointer (some ⟨g, 0, none⟩)) (hl : (loadVar ty ⟨g, 0, none⟩).run Try.prog w = .ok (.agg cs) w) :
    (results fn tmps).run Try.prog w = .ok (.tuple #[.agg cs, tmps.getD u undef]) w := by
  rw [results_cell_tmp h, hp]
  simp [asAddr, hl]
theorem drewN_below (w : World) (n : Nat) : Below w.heap.size w (w.drewN n) := ⟨rfl, rfl, rfl, Nat.le_refl _, fun _ _ => rfl⟩
theorem eql_ptr1 (w : World) (p : Addr) : (binOp .eql 23 (.pointer (some p)) (.pointer none)).run Try.prog w = .ok (.bool false) w := by
  have h : ∀ d : Nat, (Op.equalIn (d + 1) 23 (.pointer (some p)) (.pointer none)).run Try.prog w = .ok false w := fun d => by
    simp [Op.equalIn, run_underlying Try.underlying23]
  simp only [binOp]
  simp [Op.equal, Op.maxDepth, h 9999]
set_option maxRecDepth 100000 in
set_option maxHeartbeats 1600000 in
theorem opened_yes (w : World) (p : Addr) (c nb : Nat) (l : List Int) (hb : Bytes w (some p) l) (hn : l.length = 512 * nb) (h0 : 1 ≤ nb) (h1 : nb ≤ 16384) :
    Calls Try.prog 12 #[.slice (some p) (512 * nb : Nat) c] w fun e w' => ∃ d nw L capL r g cap, e = .returned (.tuple #[.agg #[.pointer (some ⟨d, 0, none⟩), .pointer (some ⟨r, 0, none⟩)], .bool true]) ∧ w.heap.size ≤ d ∧ Disk w' (newDk d L nw capL nb l) ∧ RefAt w' r g cap nb ∧ Below w.heap.size w w' := by
  have HI : Hid (Bytes w (some p) l) := hb
  have HN : Hid (l.length = 512 * nb) := hn
  clear hb hn
  have HA : Hid (Below w.heap.size w (w.alloc (.cells #[.pointer none, .pointer none] 32))) := (Below.refl _ _).alloc (Nat.le_refl _) _
  have HR : Hid ((w.alloc (.cells #[.pointer none, .pointer none] 32)).heap[w.heap.size]? = some (.cells #[.pointer none, .pointer none] 32 (0, 0))) := heap_alloc_new w _
  go_enter Try.func12, Try.ntmps12
  go_upto_region 1 with fail
  generalize w.alloc (.cells #[.pointer none, .pointer none] 32) = wa at *
  go_upto_region 4 with (first
    | (go_at_call 29; refine (lent_any _ (some p) _ c l (HI.out.on HA.out) HN.out (fun h => by cases h) (by omega)).mono ?_; rintro e w1 ⟨gf, cf, rfl, hg, ho, hb⟩; have H1 : Hid (wa.heap.size ≤ gf ∧ OwnB w1 gf cf (l ++ [165]) ∧ Below wa.heap.size wa w1) := ⟨hg, ho, hb⟩; clear hg ho hb)
    | (go_at_call 39; refine (open_yes _ ⟨gf, 0, none⟩ cf nb l (by have z := H1.out.2.1.bytes.take (512 * nb); have e : (l ++ [165]).take (512 * nb) = l := (by rw [← HN.out]; exact List.take_left); rw [e] at z; exact z) HN.out h0 h1).mono ?_; rintro e w2 ⟨d, nw, L, capL, rfl, hd, hnw, hL, hD, hb2⟩; have HLn : Hid (w1.heap.size ≤ nw ∧ w1.heap.size ≤ L) := ⟨hnw, hL⟩; have H2 : Hid (w1.heap.size ≤ d ∧ Disk w2 (newDk d L nw capL nb l) ∧ Below w1.heap.size w1 w2) := ⟨hd, hD, hb2⟩; clear hd hnw hL hD hb2)
    | (go_at_call 40; refine (of_yes _ p c nb l ((HI.out.on HA.out).on (H1.out.2.2.trans (H2.out.2.2.mono H1.out.2.2.size))) HN.out h0 h1).mono ?_; rintro e w3 ⟨r, g, cap, rfl, hr, hR, hb3⟩; have H3 : Hid (w2.heap.size ≤ r ∧ RefAt w3 r g cap nb ∧ Below w2.heap.size w2 w3) := ⟨hr, hR, hb3⟩; clear hr hR hb3))
  have HB13 : Hid (Below w1.heap.size w1 w3) := H2.out.2.2.trans (H3.out.2.2.mono H2.out.2.2.size)
  have HBa3 : Hid (Below wa.heap.size wa w3) := H1.out.2.2.trans (HB13.out.mono H1.out.2.2.size)
  have hgfw : ¬ w.heap.size = gf := by have := heap_lt HR.out; have := H1.out.1; omega
  have E1 := eql_ptr1
  go_wp2_with (go_at_call 32; refine (kept_any _ gf cf _ c (some p) l (H1.out.2.1.on HB13.out) ((HI.out.on HA.out).on HBa3.out) HN.out (by omega)).mono ?_; rintro e w4 ⟨rfl, hf⟩; have H4 : Hid (Fr (fun k => k = gf) w3 w4) := hf; have HR4 : Hid (w4.heap[w.heap.size]? = some (.cells #[.pointer none, .pointer none] 32 (0, 0))) := hf.heap ((below_fr HBa3.out (fun _ => False)).heap HR.out (fun e => e)) hgfw; have R0 : w4.cell? ⟨w.heap.size, 0, none⟩ = some (.pointer none) := cell_of_row _ _ _ _ _ _ HR4.out; have R1 : w4.cell? ⟨w.heap.size, 1, none⟩ = some (.pointer none) := cell_of_row _ _ _ _ _ _ HR4.out; have F0 := frozen_of_row _ _ 0 _ _ HR4.out; have F1 := frozen_of_row _ _ 1 _ _ HR4.out; clear hf)
  have r0 := heap_setCell_same _ _ 0 _ _ (.pointer (some ⟨d, 0, none⟩)) HR4.out
  have r1 := heap_setCell_same _ _ 1 _ _ (.pointer (some ⟨r, 0, none⟩)) r0
  have f5 : Fr (fun k => k = w.heap.size) w4 ((w4.setCell ⟨w.heap.size, 0, none⟩ (.pointer (some ⟨d, 0, none⟩))).setCell ⟨w.heap.size, 1, none⟩ (.pointer (some ⟨r, 0, none⟩))) := (Fr.set).trans Fr.set (fun _ e => .inl e)
  have hwa := heap_lt HR.out
  have q1 := H1.out.1
  have q2 := H1.out.2.1.lt
  have q3 := H2.out.1
  have q4 := H3.out.1
  have q5 := H2.out.2.2.size
  have q6 := HA.out.size
  have q7 := H1.out.2.2.size
  refine bodyPost_ret (results_row_tmp rfl _ _ w.heap.size _ rfl (run_loadVar_row _ _ _ _ _ _ _ r1 Try.underlying32 rfl (by kernel_rfl))) rfl ?_
  have hDno : ∀ k, (newDk d L nw capL nb l).all k → w1.heap.size ≤ k := by
    rintro k ((e | e | e | e | e) | e | ⟨_, hp, _⟩ | ⟨_, hp, _⟩)
    · have e : k = d := e; omega
    · have e : k = L := e; have := HLn.out.2; omega
    · have e : k = nw := e; have := HLn.out.1; omega
    · cases e
    · cases e
    · cases e
    · cases hp
    · cases hp
  refine ⟨d, nw, L, capL, r, g, cap, rfl, by omega, ?_, ?_, ?_⟩
  · exact (((H2.out.2.1.on H3.out.2.2).fr H4.out (fun k hk e => by have := hDno k hk; omega)).fr f5 (fun k hk e => by have := hDno k hk; omega))
  · exact f5.heap (H4.out.heap H3.out.2.1 (by omega)) (by omega)
  · have b3 := HA.out.trans (HBa3.out.mono HA.out.size)
    exact (b3.trans (H4.out.below _ (fun k hk => by omega) b3.size)).trans (f5.below _ (fun k hk => by omega) (Nat.le_trans b3.size H4.out.size))
set_option maxRecDepth 100000 in
set_option maxHeartbeats 1600000 in
theorem opened_no (w : World) (a : Option Addr) (n c : Nat) (l : List Int) (hb : Bytes w a l) (hl : l.length = n) (hn : a = none → c = 0) (h47 : n ≤ 140737488351232) (h : n % 512 ≠ 0 ∨ isz ((n / 512 : Nat) : Int) = false) :
    Calls Try.prog 12 #[.slice a n c] w fun e w' => e = .returned (.tuple #[.agg #[.pointer none, .pointer none], .bool true]) ∧ Below w.heap.size w w' := by
  have HI : Hid (Bytes w a l) := hb
  have HN : Hid (l.length = n) := hl
  have HH : Hid (n % 512 ≠ 0 ∨ isz ((n / 512 : Nat) : Int) = false) := h
  clear hb hl h
  have HA : Hid (Below w.heap.size w (w.alloc (.cells #[.pointer none, .pointer none] 32))) := (Below.refl _ _).alloc (Nat.le_refl _) _
  have HR : Hid ((w.alloc (.cells #[.pointer none, .pointer none] 32)).heap[w.heap.size]? = some (.cells #[.pointer none, .pointer none] 32 (0, 0))) := heap_alloc_new w _
  go_enter Try.func12, Try.ntmps12
  go_upto_region 1 with fail
  generalize w.alloc (.cells #[.pointer none, .pointer none] 32) = wa at *
  go_upto_region 4 with (first
    | (go_at_call 29; refine (lent_any _ a n c l (HI.out.on HA.out) HN.out hn h47).mono ?_; rintro e w1 ⟨gf, cf, rfl, hg, ho, hb⟩; have H1 : Hid (wa.heap.size ≤ gf ∧ OwnB w1 gf cf (l ++ [165]) ∧ Below wa.heap.size wa w1) := ⟨hg, ho, hb⟩; clear hg ho hb)
    | (go_at_call 39; refine (open_no _ _ n _ (by omega) HH.out).mono ?_; rintro e w' ⟨rfl, rfl⟩)
    | (go_at_call 40; refine (of_no _ a n c (by omega) HH.out).mono ?_; rintro e w' ⟨rfl, rfl⟩))
  have hgfw : ¬ w.heap.size = gf := by have := heap_lt HR.out; have := H1.out.1; omega
  go_wp2_with (go_at_call 32; refine (kept_any _ gf cf n c a l H1.out.2.1 ((HI.out.on HA.out).on H1.out.2.2) HN.out h47).mono ?_; rintro e w4 ⟨rfl, hf⟩; have H4 : Hid (Fr (fun k => k = gf) w1 w4) := hf; have HR4 : Hid (w4.heap[w.heap.size]? = some (.cells #[.pointer none, .pointer none] 32 (0, 0))) := hf.heap ((below_fr H1.out.2.2 (fun _ => False)).heap HR.out (fun e => e)) hgfw; have R0 : w4.cell? ⟨w.heap.size, 0, none⟩ = some (.pointer none) := cell_of_row _ _ _ _ _ _ HR4.out; have R1 : w4.cell? ⟨w.heap.size, 1, none⟩ = some (.pointer none) := cell_of_row _ _ _ _ _ _ HR4.out; have F0 := frozen_of_row _ _ 0 _ _ HR4.out; have F1 := frozen_of_row _ _ 1 _ _ HR4.out; clear hf)
  have r0 := heap_setCell_same _ _ 0 _ _ (.pointer none) HR4.out
  have r1 := heap_setCell_same _ _ 1 _ _ (.pointer none) r0
  have f5 : Fr (fun k => k = w.heap.size) w4 ((w4.setCell ⟨w.heap.size, 0, none⟩ (.pointer none)).setCell ⟨w.heap.size, 1, none⟩ (.pointer none)) := (Fr.set).trans Fr.set (fun _ e => .inl e)
  have hwa := heap_lt HR.out
  have q1 := H1.out.1
  have q6 := HA.out.size
  refine bodyPost_ret (results_row_tmp rfl _ _ w.heap.size _ rfl (run_loadVar_row _ _ _ _ _ _ _ r1 Try.underlying32 rfl (by kernel_rfl))) rfl ?_
  refine ⟨rfl, ?_⟩
  have b3 := HA.out.trans (H1.out.2.2.mono HA.out.size)
  exact (b3.trans (H4.out.below _ (fun k hk => by omega) b3.size)).trans (f5.below _ (fun k hk => by omega) (Nat.le_trans b3.size H4.out.size))
set_option maxRecDepth 100000 in
set_option maxHeartbeats 4000000 in
theorem asks_any (w : World) (d L nw capL nb r g cap : Nat) (l : List Int) (hD : Disk w (newDk d L nw capL nb l)) (hR : RefAt w r g cap nb) :
    Calls Try.prog 13 #[.agg #[.pointer (some ⟨d, 0, none⟩), .pointer (some ⟨r, 0, none⟩)]] w fun e w' => e = .returned (.bool true) ∧ Below w.heap.size w w' := by
  have HD : Hid (Disk w (newDk d L nw capL nb l)) := hD
  have HRf : Hid (RefAt w r g cap nb) := hR
  have hnb : nb ≤ 16384 := hD.nb1
  clear hD hR
  have HA : Hid (Below w.heap.size w (w.alloc (.cells #[.pointer (some ⟨d, 0, none⟩), .pointer (some ⟨r, 0, none⟩)] 32))) := (Below.refl _ _).alloc (Nat.le_refl _) _
  have HR := heap_alloc_new w (.cells #[.pointer (some ⟨d, 0, none⟩), .pointer (some ⟨r, 0, none⟩)] 32)
  have HC : Hid (∀ j, (w.alloc (.cells #[.pointer (some ⟨d, 0, none⟩), .pointer (some ⟨r, 0, none⟩)] 32)).cell? ⟨w.heap.size, j, none⟩ = (#[Value.pointer (some ⟨d, 0, none⟩), .pointer (some ⟨r, 0, none⟩)])[j]?) := fun j => cell_of_row _ _ _ _ _ _ HR
  clear HR
  go_enter Try.func13, Try.ntmps13
  go_upto_region 1 with fail
  generalize w.alloc (.cells #[.pointer (some ⟨d, 0, none⟩), .pointer (some ⟨r, 0, none⟩)] 32) = wa at *
  have S0 : wa.cell? ⟨w.heap.size, 0, none⟩ = some (.pointer (some ⟨d, 0, none⟩)) := HC.out 0
  have S1 : wa.cell? ⟨w.heap.size, 1, none⟩ = some (.pointer (some ⟨r, 0, none⟩)) := HC.out 1
  go_upto_region 2 with (go_at_call 25; refine (steps_any _ (newDk d L nw capL nb l) (HD.out.on HA.out)).mono ?_; rintro e w1 ⟨rfl, hb⟩; have H1 : Hid (Below w.heap.size w w1) := HA.out.trans (hb.mono HA.out.size); have T0 : w1.cell? ⟨w.heap.size, 0, none⟩ = some (.pointer (some ⟨d, 0, none⟩)) := (below_fr hb (fun _ => False)).cell S0 (fun e => e); have T1 : w1.cell? ⟨w.heap.size, 1, none⟩ = some (.pointer (some ⟨r, 0, none⟩)) := (below_fr hb (fun _ => False)).cell S1 (fun e => e); clear hb)
  rw [show ((newDk d L nw capL nb l).wr : Int) = 0 from rfl, show ((newDk d L nw capL nb l).fl : Int) = 0 from rfl]
  have HD1 : Hid (Disk w1 (newDk d L nw capL nb l)) := HD.out.on H1.out
  have hR1 : RefAt w1 r g cap nb := (below_fr H1.out (fun _ => False)).heap HRf.out (fun e => e)
  have HR1 : Hid (RefAt w1 r g cap nb) := hR1
  have U4 : w1.cell? ⟨r, 4, none⟩ = some (.bool false) := cell_of_row _ _ _ _ _ _ hR1
  have U5 : w1.cell? ⟨r, 5, none⟩ = some (.int .i64 0) := cell_of_row _ _ _ _ _ _ hR1
  have U6 : w1.cell? ⟨r, 6, none⟩ = some (.int .i64 0) := cell_of_row _ _ _ _ _ _ hR1
  clear hR1 S0 S1 HC
  have HBl : Hid (∀ wx, Below w1.heap.size w1 wx → Calls Try.prog 11 #[.pointer (some ⟨d, 0, none⟩)] wx fun e w' => e = .returned (.int .i64 nb) ∧ w' = wx) := fun wx hx => (blocks_any wx (newDk d L nw capL nb l) (HD1.out.on hx)).mono (fun e w' h => ⟨h.1, h.2.symm⟩)
  have HRb : Hid (∀ wx, Below w1.heap.size w1 wx → Calls Try.prog 41 #[.pointer (some ⟨r, 0, none⟩)] wx fun e w' => e = .returned (.int .i64 nb) ∧ w' = wx) := fun wx hx => (rblocks_any wx r g cap nb ((below_fr hx (fun _ => False)).heap HR1.out (fun e => e)) hnb).mono (fun e w' h => ⟨h.1, h.2.symm⟩)
  have HDo : Hid (∀ wx, Below w1.heap.size w1 wx → Calls Try.prog 21 #[.pointer (some ⟨d, 0, none⟩)] wx fun e w' => e = .returned (.bool false) ∧ w' = wx) := fun wx hx => (down_any wx (newDk d L nw capL nb l) (HD1.out.on hx)).mono (fun e w' h => ⟨h.1, h.2.symm⟩)

  go_quiet (first
    | (go_at_call 11; refine Calls.quiet_of_same (HBl.out _ (drewN_below _ _)))
    | (go_at_call 41; refine Calls.quiet_of_same (HRb.out _ (drewN_below _ _)))
    | (go_at_call 21; refine Calls.quiet_of_same (HDo.out _ (drewN_below _ _))))
  (try go_wp2)
  go_ret
  exact ⟨rfl, H1.out.trans ((drewN_below _ _).mono H1.out.size)⟩
end Go.Proofs.Ytgodjnnciacliaa
