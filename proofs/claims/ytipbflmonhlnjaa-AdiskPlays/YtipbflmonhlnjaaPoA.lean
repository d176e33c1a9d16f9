import Derived.Test.YtipbflmonhlnjaaKBkZ
import Derived.Laws.ResultCell
namespace Go.Proofs.Ytipbflmonhlnjaa
open Go.RowKit Rec

/-- the document's disk, new -/
def newR (r nb g cap : Nat) (l : List Int) : RDk := { r := r, nb := nb, gf := g, cf := cap, f := l, av := .slice none 0 0, L := [], kv := .slice none 0 0, keep := [], left := 0, out := false, wr := 0, fl := 0 }
theorem newR_disk {w : World} {r nb g cap : Nat} {l : List Int} (hb : w.heap[r]? = some (.cells (newR r nb g cap l).cells 53 (0, 0))) (ho : OwnB w g cap l) (hl : l.length = 512 * nb) (h0 : 1 ≤ nb) (h1 : nb ≤ 16384) : RDisk w (newR r nb g cap l) :=
  ⟨hb, ho, hl, ⟨h0, h1⟩, ⟨rfl, .inl ⟨rfl, rfl⟩⟩, (fun _ h => by cases h), ⟨rfl, .inl ⟨rfl, rfl⟩⟩, (by show 0 ≤ _; omega), Int.le_refl _⟩
theorem newR_all {r nb g cap : Nat} {l : List Int} {k : Nat} (h : (newR r nb g cap l).all k) : k = r ∨ k = g := by
  rcases h with e | e | e | e | ⟨q, hq, _⟩
  · exact .inl e
  · exact .inr e
  · cases e
  · cases e
  · cases hq
theorem newDk_all {d L nw capL nb : Nat} {l : List Int} {k : Nat} (h : (newDk d L nw capL nb l).all k) : k = d ∨ k = L ∨ k = nw := by
  rcases h with (e | e | e | e | e) | e | ⟨_, hp, _⟩ | ⟨_, hp, _⟩
  · exact .inl e
  · exact .inr (.inl e)
  · exact .inr (.inr e)
  · cases e
  · cases e
  · cases e
  · cases hp
  · cases hp
theorem new_tie (d L nw capL nb r g cap : Nat) (l : List Int) : Tie (newDk d L nw capL nb l).abs (newR r nb g cap l) :=
  ⟨rfl, rfl, rfl, rfl, rfl, (fun i hi => absurd hi (Nat.not_lt_zero _)), fun _ => ⟨rfl, rfl, .inl ⟨Int.le_refl _, rfl⟩⟩, (fun e => by cases e)⟩
theorem new_pr {w : World} {d L nw capL nb r g cap : Nat} {l : List Int} (hD : Disk w (newDk d L nw capL nb l)) (hR : RDisk w (newR r nb g cap l)) {B : Nat} (h1 : d < B ∧ L < B ∧ nw < B) (h2 : B ≤ r ∧ B ≤ g) : Pr w (newDk d L nw capL nb l) (newR r nb g cap l) 0 :=
  ⟨hD, hR, fun k e e2 => by
    rcases newDk_all e with e | e | e <;> rcases newR_all e2 with e2 | e2 <;> omega, new_tie _ _ _ _ _ _ _ _ _, Nat.le_refl _, Nat.le_refl _, Nat.le_refl _, ⟨Nat.zero_le _, Nat.zero_le _⟩, by show (0 : Int) ≤ _; omega⟩
theorem results_row_tmpP {fn : Func} {p u : Tmp} {ty : TypeId} (h : fn.results = #[.cell p ty, .tmp u]) (tmps : Array Value) (w : World) (g : Nat) (cs : Array Value)
    (hp : tmps.getD p undef = .pointer (some ⟨g, 0, none⟩)) (hl : (loadVar ty ⟨g, 0, none⟩).run Try.prog w = .ok (.agg cs) w) :
    (results fn tmps).run Try.prog w = .ok (.tuple #[.agg cs, tmps.getD u undef]) w := by
  rw [results_cell_tmp h, hp]
  simp [asAddr, hl]
theorem eql_ptr1 (w : World) (p : Addr) : (binOp .eql 24 (.pointer (some p)) (.pointer none)).run Try.prog w = .ok (.bool false) w := by
  have h : ∀ d : Nat, (Op.equalIn (d + 1) 24 (.pointer (some p)) (.pointer none)).run Try.prog w = .ok false w := fun d => by
    simp [Op.equalIn, run_underlying Try.underlying24]
  simp only [binOp]
  simp [Op.equal, Op.maxDepth, h 9999]
theorem eql_ptr2 (w : World) (p : Addr) : (binOp .eql 28 (.pointer (some p)) (.pointer none)).run Try.prog w = .ok (.bool false) w := by
  have h : ∀ d : Nat, (Op.equalIn (d + 1) 28 (.pointer (some p)) (.pointer none)).run Try.prog w = .ok false w := fun d => by
    simp [Op.equalIn, run_underlying Try.underlying28]
  simp only [binOp]
  simp [Op.equal, Op.maxDepth, h 9999]
/-- a new disk of the document's -/
def OfR (w : World) (nb : Nat) (l : List Int) (e : Ending) (w' : World) : Prop := ∃ r g cap, e = .returned (.tuple #[.pointer (some ⟨r, 0, none⟩), .int .i64 0]) ∧ w.heap.size ≤ r ∧ w.heap.size ≤ g ∧ RDisk w' (newR r nb g cap l) ∧ Below w.heap.size w w'
set_option maxRecDepth 100000 in
set_option maxHeartbeats 800000 in
theorem of_yesR (w : World) (p : Addr) (c nb : Nat) (l : List Int) (hb : Bytes w (some p) l) (hn : l.length = 512 * nb) (h0 : 1 ≤ nb) (h1 : nb ≤ 16384) :
    Calls Try.prog 16 #[.slice (some p) (512 * nb : Nat) c] w (OfR w nb l) := by
  have HI : Hid (Bytes w (some p) l) := hb
  have HN : Hid (l.length = 512 * nb) := hn
  clear hb hn
  have hz : ((512 * (nb : Int)) == 0) = false := by rw [beq_eq_false_iff_ne]; omega
  have hz2 : ¬ 512 * (nb : Int) = 0 := by omega
  go_enter Try.func16, Try.ntmps16
  go_wp2_with (go_at_call 48; refine (copied_any _ p (512 * nb) c l HI.out HN.out (by omega) (by omega)).mono ?_; rintro e w1 ⟨g, cap, rfl, hg, ho, hb⟩; have H1 : Hid (w.heap.size ≤ g ∧ OwnB w1 g cap l ∧ Below w.heap.size w w1) := ⟨hg, ho, hb⟩; clear hg ho hb)
  go_ret2
  have ha : Below w1.heap.size w1 (w1.alloc (.cells (newR w1.heap.size nb g cap l).cells 53)) := (Below.refl _ _).alloc (Nat.le_refl _) _
  exact ⟨w1.heap.size, g, cap, rfl, H1.out.2.2.size, H1.out.1, newR_disk (heap_alloc_new w1 _) (H1.out.2.1.on ha) HN.out h0 h1, H1.out.2.2.alloc H1.out.2.2.size _⟩
set_option maxRecDepth 100000 in
set_option maxHeartbeats 800000 in
theorem rnew_no (w : World) : Calls Try.prog 5 #[.int .i64 0] w fun e w' => e = .returned (.tuple #[.pointer none, .int .i64 32]) ∧ w = w' := by
  go_enter Try.func5, Try.ntmps5
  go_wp2
  go_ret2
  exact ⟨rfl, rfl⟩
set_option maxRecDepth 100000 in
set_option maxHeartbeats 800000 in
theorem rnew_yes (w : World) (nb : Nat) (h0 : 1 ≤ nb) (h1 : nb ≤ 16384) : Calls Try.prog 5 #[.int .i64 nb] w (OfR w nb (zsA (512 * nb))) := by
  have hz : ¬ (nb : Int) < 1 := by omega
  have hz2 : ¬ 16384 < (nb : Int) := by omega
  go_enter Try.func5, Try.ntmps5
  go_wp2_with (at_make; refine wp_makeB rfl _ _ rfl _ _ _ _ (512 * nb) rfl rfl (by omega) (by omega) (by omega) ?_; intro w1 ho hb; have HO : Hid (OwnB w1 w.heap.size (512 * nb) (zsA (512 * nb))) := ho; have HB : Hid (Below w.heap.size w w1) := hb; clear ho hb)
  go_ret2
  have ha : Below w1.heap.size w1 (w1.alloc (.cells (newR w1.heap.size nb w.heap.size (512 * nb) (zsA (512 * nb))).cells 53)) := (Below.refl _ _).alloc (Nat.le_refl _) _
  exact ⟨w1.heap.size, w.heap.size, 512 * nb, rfl, HB.out.size, Nat.le_refl _, newR_disk (heap_alloc_new w1 _) (HO.out.on ha) (zsA_length _) h0 h1, HB.out.alloc HB.out.size _⟩
set_option maxRecDepth 100000 in
set_option maxHeartbeats 1600000 in
theorem popened_yes (w : World) (p : Addr) (c nb : Nat) (l : List Int) (hb : Bytes w (some p) l) (hn : l.length = 512 * nb) (h0 : 1 ≤ nb) (h1 : nb ≤ 16384) :
    Calls Try.prog 6 #[.slice (some p) (512 * nb : Nat) c] w fun e w' => ∃ D R, e = .returned (.tuple #[.agg #[.pointer (some ⟨D.d, 0, none⟩), .pointer (some ⟨R.r, 0, none⟩)], .bool true]) ∧ Pr w' D R 0 ∧ (∀ k, PrA D R k → w.heap.size ≤ k) ∧ Below w.heap.size w w' := by
  have HI : Hid (Bytes w (some p) l) := hb
  have HN : Hid (l.length = 512 * nb) := hn
  clear hb hn
  have HA : Hid (Below w.heap.size w (w.alloc (.cells #[.pointer none, .pointer none] 32))) := (Below.refl _ _).alloc (Nat.le_refl _) _
  have HR : Hid ((w.alloc (.cells #[.pointer none, .pointer none] 32)).heap[w.heap.size]? = some (.cells #[.pointer none, .pointer none] 32 (0, 0))) := heap_alloc_new w _
  go_enter Try.func6, Try.ntmps6
  go_upto_region 1 with fail
  generalize w.alloc (.cells #[.pointer none, .pointer none] 32) = wa at *
  go_upto_region 4 with (first
    | (go_at_call 14; refine (lent_any _ (some p) _ c l (HI.out.on HA.out) HN.out (fun h => by cases h) (by omega)).mono ?_; rintro e w1 ⟨gf, cf, rfl, hg, ho, hb⟩; have H1 : Hid (wa.heap.size ≤ gf ∧ OwnB w1 gf cf (l ++ [165]) ∧ Below wa.heap.size wa w1) := ⟨hg, ho, hb⟩; clear hg ho hb)
    | (go_at_call 15; refine (open_yes _ ⟨gf, 0, none⟩ cf nb l (by have z := H1.out.2.1.bytes.take (512 * nb); have e : (l ++ [165]).take (512 * nb) = l := (by rw [← HN.out]; exact List.take_left); rw [e] at z; exact z) HN.out h0 h1).mono ?_; rintro e w2 ⟨d, nw, L, capL, rfl, hd, hnw, hL, hD, hb2⟩; have HLn : Hid (w1.heap.size ≤ nw ∧ w1.heap.size ≤ L) := ⟨hnw, hL⟩; have H2 : Hid (w1.heap.size ≤ d ∧ Disk w2 (newDk d L nw capL nb l) ∧ Below w1.heap.size w1 w2) := ⟨hd, hD, hb2⟩; clear hd hnw hL hD hb2)
    | (go_at_call 16; refine (of_yesR _ p c nb l ((HI.out.on HA.out).on (H1.out.2.2.trans (H2.out.2.2.mono H1.out.2.2.size))) HN.out h0 h1).mono ?_; rintro e w3 ⟨r, g, cap, rfl, hr, hg, hR, hb3⟩; have H3 : Hid (w2.heap.size ≤ r ∧ w2.heap.size ≤ g ∧ RDisk w3 (newR r nb g cap l) ∧ Below w2.heap.size w2 w3) := ⟨hr, hg, hR, hb3⟩; clear hr hg hR hb3))
  have HB13 : Hid (Below w1.heap.size w1 w3) := H2.out.2.2.trans (H3.out.2.2.2.mono H2.out.2.2.size)
  have HBa3 : Hid (Below wa.heap.size wa w3) := H1.out.2.2.trans (HB13.out.mono H1.out.2.2.size)
  have hgfw : ¬ w.heap.size = gf := by have := heap_lt HR.out; have := H1.out.1; omega
  have E1 := eql_ptr1
  have E2 := eql_ptr2
  go_wp2_with (go_at_call 17; refine (kept_any _ gf cf _ c (some p) l (H1.out.2.1.on HB13.out) ((HI.out.on HA.out).on HBa3.out) HN.out (by omega)).mono ?_; rintro e w4 ⟨rfl, hf⟩; have H4 : Hid (Fr (fun k => k = gf) w3 w4) := hf; have HR4 : Hid (w4.heap[w.heap.size]? = some (.cells #[.pointer none, .pointer none] 32 (0, 0))) := hf.heap ((below_fr HBa3.out (fun _ => False)).heap HR.out (fun e => e)) hgfw; have R0 : w4.cell? ⟨w.heap.size, 0, none⟩ = some (.pointer none) := cell_of_row _ _ _ _ _ _ HR4.out; have R1 : w4.cell? ⟨w.heap.size, 1, none⟩ = some (.pointer none) := cell_of_row _ _ _ _ _ _ HR4.out; have F0 := frozen_of_row _ _ 0 _ _ HR4.out; have F1 := frozen_of_row _ _ 1 _ _ HR4.out; clear hf)
  have r0 := heap_setCell_same _ _ 0 _ _ (.pointer (some ⟨d, 0, none⟩)) HR4.out
  have r1 := heap_setCell_same _ _ 1 _ _ (.pointer (some ⟨r, 0, none⟩)) r0
  have f5 : Fr (fun k => k = w.heap.size) w4 ((w4.setCell ⟨w.heap.size, 0, none⟩ (.pointer (some ⟨d, 0, none⟩))).setCell ⟨w.heap.size, 1, none⟩ (.pointer (some ⟨r, 0, none⟩))) := (Fr.set).trans Fr.set (fun _ e => .inl e)
  have hwa := heap_lt HR.out
  have q1 := H1.out.1
  have q2 := H1.out.2.1.lt
  have q3 := H2.out.1
  have q4 := H3.out.1
  have q4g := H3.out.2.1
  have q5 := H2.out.2.2.size
  have q6 := HA.out.size
  have q7 := H1.out.2.2.size
  have q8 := HLn.out
  refine bodyPost_ret (results_row_tmpP rfl _ _ w.heap.size _ rfl (run_loadVar_row _ _ _ _ _ _ _ r1 Try.underlying32 rfl (by kernel_rfl))) rfl ?_
  have hDno : ∀ k, (newDk d L nw capL nb l).all k → w1.heap.size ≤ k := by
    intro k e; rcases newDk_all e with e | e | e <;> omega
  have hRno : ∀ k, (newR r nb g cap l).all k → w2.heap.size ≤ k := by
    intro k e; rcases newR_all e with e | e <;> omega
  have hlt := H2.out.2.1
  have l1 : d < w2.heap.size := hlt.ltAll (.inl (.inl rfl))
  have l2 : L < w2.heap.size := hlt.ltAll (.inl (.inr (.inl rfl)))
  have l3 : nw < w2.heap.size := hlt.ltAll (.inl (.inr (.inr (.inl rfl))))
  refine ⟨newDk d L nw capL nb l, newR r nb g cap l, rfl, new_pr ?_ ?_ (B := w2.heap.size) ⟨l1, l2, l3⟩ ⟨q4, q4g⟩, ?_, ?_⟩
  · exact (((H2.out.2.1.on H3.out.2.2.2).fr H4.out (fun k hk e => by have := hDno k hk; omega)).fr f5 (fun k hk e => by have := hDno k hk; omega))
  · exact ((H3.out.2.2.1.fr H4.out (fun k hk e => by have := hRno k hk; omega)).fr f5 (fun k hk e => by have := hRno k hk; omega))
  · intro k e
    rcases e with e | e
    · have := hDno k e; omega
    · have := hRno k e; omega
  · have b3 := HA.out.trans (HBa3.out.mono HA.out.size)
    exact (b3.trans (H4.out.below _ (fun k hk => by omega) b3.size)).trans (f5.below _ (fun k hk => by omega) (Nat.le_trans b3.size H4.out.size))
set_option maxRecDepth 100000 in
set_option maxHeartbeats 1600000 in
theorem popened_no (w : World) (a : Option Addr) (n c : Nat) (l : List Int) (hb : Bytes w a l) (hl : l.length = n) (hn : a = none → c = 0) (h47 : n ≤ 140737488351232) (h : n % 512 ≠ 0 ∨ isz ((n / 512 : Nat) : Int) = false) :
    Calls Try.prog 6 #[.slice a n c] w fun e w' => e = .returned (.tuple #[.agg #[.pointer none, .pointer none], .bool true]) ∧ Below w.heap.size w w' := by
  have HI : Hid (Bytes w a l) := hb
  have HN : Hid (l.length = n) := hl
  have HH : Hid (n % 512 ≠ 0 ∨ isz ((n / 512 : Nat) : Int) = false) := h
  clear hb hl h
  have HA : Hid (Below w.heap.size w (w.alloc (.cells #[.pointer none, .pointer none] 32))) := (Below.refl _ _).alloc (Nat.le_refl _) _
  have HR : Hid ((w.alloc (.cells #[.pointer none, .pointer none] 32)).heap[w.heap.size]? = some (.cells #[.pointer none, .pointer none] 32 (0, 0))) := heap_alloc_new w _
  go_enter Try.func6, Try.ntmps6
  go_upto_region 1 with fail
  generalize w.alloc (.cells #[.pointer none, .pointer none] 32) = wa at *
  go_upto_region 4 with (first
    | (go_at_call 14; refine (lent_any _ a n c l (HI.out.on HA.out) HN.out hn h47).mono ?_; rintro e w1 ⟨gf, cf, rfl, hg, ho, hb⟩; have H1 : Hid (wa.heap.size ≤ gf ∧ OwnB w1 gf cf (l ++ [165]) ∧ Below wa.heap.size wa w1) := ⟨hg, ho, hb⟩; clear hg ho hb)
    | (go_at_call 15; refine (open_no _ _ n _ (by omega) HH.out).mono ?_; rintro e w' ⟨rfl, rfl⟩)
    | (go_at_call 16; refine (of_no _ a n c (by omega) HH.out).mono ?_; rintro e w' ⟨rfl, rfl⟩))
  have hgfw : ¬ w.heap.size = gf := by have := heap_lt HR.out; have := H1.out.1; omega
  go_wp2_with (go_at_call 17; refine (kept_any _ gf cf n c a l H1.out.2.1 ((HI.out.on HA.out).on H1.out.2.2) HN.out h47).mono ?_; rintro e w4 ⟨rfl, hf⟩; have H4 : Hid (Fr (fun k => k = gf) w1 w4) := hf; have HR4 : Hid (w4.heap[w.heap.size]? = some (.cells #[.pointer none, .pointer none] 32 (0, 0))) := hf.heap ((below_fr H1.out.2.2 (fun _ => False)).heap HR.out (fun e => e)) hgfw; have R0 : w4.cell? ⟨w.heap.size, 0, none⟩ = some (.pointer none) := cell_of_row _ _ _ _ _ _ HR4.out; have R1 : w4.cell? ⟨w.heap.size, 1, none⟩ = some (.pointer none) := cell_of_row _ _ _ _ _ _ HR4.out; have F0 := frozen_of_row _ _ 0 _ _ HR4.out; have F1 := frozen_of_row _ _ 1 _ _ HR4.out; clear hf)
  have r0 := heap_setCell_same _ _ 0 _ _ (.pointer none) HR4.out
  have r1 := heap_setCell_same _ _ 1 _ _ (.pointer none) r0
  have f5 : Fr (fun k => k = w.heap.size) w4 ((w4.setCell ⟨w.heap.size, 0, none⟩ (.pointer none)).setCell ⟨w.heap.size, 1, none⟩ (.pointer none)) := (Fr.set).trans Fr.set (fun _ e => .inl e)
  have hwa := heap_lt HR.out
  have q1 := H1.out.1
  have q6 := HA.out.size
  refine bodyPost_ret (results_row_tmpP rfl _ _ w.heap.size _ rfl (run_loadVar_row _ _ _ _ _ _ _ r1 Try.underlying32 rfl (by kernel_rfl))) rfl ?_
  refine ⟨rfl, ?_⟩
  have b3 := HA.out.trans (H1.out.2.2.mono HA.out.size)
  exact (b3.trans (H4.out.below _ (fun k hk => by omega) b3.size)).trans (f5.below _ (fun k hk => by omega) (Nat.le_trans b3.size H4.out.size))
end Go.Proofs.Ytipbflmonhlnjaa
