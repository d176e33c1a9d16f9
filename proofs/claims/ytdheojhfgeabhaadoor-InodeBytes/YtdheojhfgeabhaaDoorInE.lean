import Derived.Test.YtdheojhfgeabhaaDoorInD
namespace Go.Proofs.YtdheojhfgeabhaaDoor
open Go.RowKit Rec

set_option maxRecDepth 100000 in
theorem field_any (w : World) (b off n c A W : Nat) (l : List Int) (hn : l.length = n) (hO : Bytes w (some ⟨b, off, none⟩) l) (hc : n ≤ c) (hT : TabAt w) (hw : isW W = true) (h4 : W ≤ 4) (hA : A + W ≤ n) :
    Calls Tryd.prog 41 #[.slice (some ⟨b, off, none⟩) n c, .int .i64 A, .int .i64 W] w fun e w' => e = .returned (.int .i64 (num l A W)) ∧ w = w' := by
  have HG : Hid (Calls Tryd.prog 50 #[.slice (some ⟨b, off, none⟩) n c, .int .i64 A, .int .i64 W] w fun e w' => e = .returned (.tuple #[.int .u64 (num l A W), .int .i64 0]) ∧ w = w') := get_in w b off n c A W l hn hO hc hT hw hA
  have hv := num_bd l A W hO.wf
  have hp : (256 : Int) ^ W ≤ 256 ^ 4 := by
    have h : 256 ^ W ≤ 256 ^ 4 := Nat.pow_le_pow_right (by omega) h4
    exact_mod_cast h
  have hv2 : 0 ≤ num l A W ∧ num l A W < 4294967296 := ⟨hv.1, by omega⟩
  clear hv hp hn hO hc hT hw h4 hA
  generalize num l A W = v at *
  go_enter Tryd.func41, Tryd.ntmps41
  go_wp2_with (go_at_call 50; refine HG.out.mono ?_; rintro e w' ⟨rfl, rfl⟩)
  go_ret
  exact ⟨rfl, rfl⟩
set_option maxRecDepth 100000 in
theorem gaps_any (w : World) (b off c : Nat) (l : List Int) (hn : l.length = 64) (hO : Bytes w (some ⟨b, off, none⟩) l) (hc : 64 ≤ c) :
    Calls Tryd.prog 25 #[.slice (some ⟨b, off, none⟩) 64 c] w fun e w' => e = .returned (.bool (gz l)) ∧ w = w' := by
  have H1 : Hid (Calls Tryd.prog 42 #[.slice (some ⟨b, off, none⟩) 64 c, .int .i64 1, .int .i64 1] w fun e w' => e = .returned (.tuple #[.bool (zr l 1 1), .int .i64 0]) ∧ w = w') := zero_in w b off 64 c 1 1 l hn hO hc (by omega)
  have H2 : Hid (Calls Tryd.prog 42 #[.slice (some ⟨b, off, none⟩) 64 c, .int .i64 56, .int .i64 8] w fun e w' => e = .returned (.tuple #[.bool (zr l 56 8), .int .i64 0]) ∧ w = w') := zero_in w b off 64 c 56 8 l hn hO hc (by omega)
  have HG : Hid (gz l = (zr l 1 1 && zr l 56 8)) := rfl
  clear hn hO hc
  generalize gz l = R at *
  go_enter Tryd.func25, Tryd.ntmps25
  cases h1 : zr l 1 1
  all_goals
    have e := HG.out
    rw [h1] at e
    clear HG
    subst e
    go_wp2_with (first
      | (go_at_call 42; have hh := H1.out; clear hh; refine H1.out.mono ?_; rintro e w' ⟨rfl, rfl⟩; clear H1)
      | (go_at_call 42; refine H2.out.mono ?_; rintro e w' ⟨rfl, rfl⟩))
    go_ret
    exact ⟨rfl, rfl⟩
/-- twelve cells, so many of them read -/
def frow (l : List Int) (k : Nat) : Array Value := ((List.range 12).map fun i => Value.int .i64 (if i < k then rdf l (3 + i) else 0)).toArray
theorem frow_next (l : List Int) (k : Nat) (_ : k < 12) : (frow l k).setIfInBounds k (.int .i64 (rdf l (3 + k))) = frow l (k + 1) := by
  unfold frow
  rw [List.setIfInBounds_toArray]
  congr 1
  refine List.ext_getElem (by simp) fun i h1 h2 => ?_
  have hi : i < 12 := by simpa using h2
  rw [List.getElem_set]
  by_cases c : k = i
  · subst c; simp
  · simp [c]
    by_cases d : i < k
    · simp [d, show i < k + 1 by omega]
    · simp [d, show ¬ i < k + 1 by omega]
theorem frow_at (l : List Int) (k j : Nat) (hj : j < 12) : (frow l k)[j]? = some (.int .i64 (if j < k then rdf l (3 + j) else 0)) := by
  unfold frow
  simp [hj]
theorem fld_cells (w : World) (p : Nat) (l : List Int) (h : w.heap[p]? = some (.cells (frow l 12) 55 (0, 0))) : ∀ j v, (inD (rdf l))[j]? = some v → w.cell? ((⟨p, 0, none⟩ : Addr).add j) = some v := fun j v hj => by
  match j, hj with
  | 0, hj | 1, hj | 2, hj | 3, hj | 4, hj | 5, hj | 6, hj | 7, hj | 8, hj | 9, hj => cases hj; rw [Addr.add_lit, cell_of_row _ _ _ _ _ _ h]; exact frow_at l 12 _ (by omega)
/-- a record as it is read -/
structure FldI (w wr : World) (P : Nat) (l : List Int) (k : Nat) : Prop where
  bel : Below w.heap.size w wr
  p : w.heap.size = P
  ans : wr.heap[P]? = some (.cells #[.int .i64 0, .int .i64 0, .int .i64 0, .int .i64 0, .int .i64 0, .int .i64 0, .int .i64 0, .int .i64 0, .int .i64 0, .int .i64 0, .int .i64 0, .int .i64 0, .int .i64 0, .int .i64 0, .int .i64 0] 24 (0, 0))
  row : wr.heap[P + 1]? = some (.cells (frow l k) 55 (0, 0))
theorem FldI.next {w wr : World} {P k : Nat} {l : List Int} (h : FldI w wr P l k) (hk : k < 12) : FldI w (wr.setCell ⟨P + 1, k, none⟩ (.int .i64 (rdf l (3 + k)))) P l (k + 1) := by
  have := h.p
  refine ⟨below_put h.bel (Nat.le_refl _) (by omega), h.p, Fr.set.heap h.ans (fun e => by omega), ?_⟩
  have := heap_setCell_same _ _ k _ _ (.int .i64 (rdf l (3 + k))) h.row
  rw [frow_next l k hk] at this
  exact this
set_option maxRecDepth 100000 in
set_option maxHeartbeats 4000000 in
theorem fields_any (w : World) (b off c : Nat) (l : List Int) (hn : l.length = 64) (hO : Bytes w (some ⟨b, off, none⟩) l) (hc : 64 ≤ c) (hT : TabAt w) :
    Calls Tryd.prog 24 #[.slice (some ⟨b, off, none⟩) 64 c] w fun e w' => e = .returned (inV (rdf l)) ∧ Below w.heap.size w w' := by
  have HF : Hid (∀ (wx : World) (A W : Nat), Below w.heap.size w wx → isW W = true → W ≤ 4 → A + W ≤ 64 → Calls Tryd.prog 41 #[.slice (some ⟨b, off, none⟩) 64 c, .int .i64 A, .int .i64 W] wx fun e w' => e = .returned (.int .i64 (num l A W)) ∧ wx = w') := fun wx A W hb h1 h2 h3 => field_any wx b off 64 c A W l hn (hO.on hb) hc (hT.on hb) h1 h2 h3
  clear hn hO hc hT
  obtain ⟨P, hP⟩ : ∃ P, w.heap.size = P := ⟨_, rfl⟩
  obtain ⟨wa, hwa⟩ : ∃ wa, (w.alloc (.cells #[.int .i64 0, .int .i64 0, .int .i64 0, .int .i64 0, .int .i64 0, .int .i64 0, .int .i64 0, .int .i64 0, .int .i64 0, .int .i64 0, .int .i64 0, .int .i64 0, .int .i64 0, .int .i64 0, .int .i64 0] 24)).alloc (.cells #[.int .i64 0, .int .i64 0, .int .i64 0, .int .i64 0, .int .i64 0, .int .i64 0, .int .i64 0, .int .i64 0, .int .i64 0, .int .i64 0, .int .i64 0, .int .i64 0] 55) = wa := ⟨_, rfl⟩
  have HA : Hid (FldI w wa P l 0) := by
    rw [← hwa, ← hP]
    refine ⟨((Below.refl _ _).alloc (Nat.le_refl _) _).alloc (by simp) _, rfl, (Below.heap_alloc _ _ _ (by simp)).trans (heap_alloc_new _ _), ?_⟩
    have := heap_alloc_new (w.alloc (.cells #[.int .i64 0, .int .i64 0, .int .i64 0, .int .i64 0, .int .i64 0, .int .i64 0, .int .i64 0, .int .i64 0, .int .i64 0, .int .i64 0, .int .i64 0, .int .i64 0, .int .i64 0, .int .i64 0, .int .i64 0] 24)) (.cells #[.int .i64 0, .int .i64 0, .int .i64 0, .int .i64 0, .int .i64 0, .int .i64 0, .int .i64 0, .int .i64 0, .int .i64 0, .int .i64 0, .int .i64 0, .int .i64 0] 55)
    rw [World.size_alloc] at this
    exact this
  go_enter Tryd.func24, Tryd.ntmps24
  go_wp2
  clear hwa
  go_loopw [6] (fun i wr => ∃ k : Nat, k ≤ 12 ∧ i = .int .i64 k ∧ FldI w wr P l k) (fun i _ => 12 - (intOf i).toNat)
  case atStart => exact ⟨0, Nat.zero_le _, rfl, HA.out⟩
  case round =>
    obtain ⟨k, hk, rfl, hI⟩ := hrel
    have HI : Hid (FldI w wr P l k) := hI
    clear hI
    by_cases hlt : k < 12
    · have c0 : wr.cell? ⟨P + 1, k, none⟩ = some (.int .i64 (if k < k then rdf l (3 + k) else 0)) := (cell_of_row _ _ _ _ _ _ HI.out.row).trans (frow_at l k k hlt)
      rw [if_neg (by omega)] at c0
      have f0 : wr.frozen? ⟨P + 1, k, none⟩ = false := frozen_of_row _ _ _ _ _ HI.out.row
      have HN : Hid (FldI w (wr.setCell ⟨P + 1, k, none⟩ (.int .i64 (rdf l (3 + k)))) P l (k + 1)) := HI.out.next hlt
      obtain ⟨A, hA⟩ : ∃ A, 8 + 4 * k = A := ⟨_, rfl⟩
      have hA' : (8 : Int) + (k : Int) * 4 = (A : Int) := by omega
      have hA9 : A + 4 ≤ 64 := by omega
      have HR : Hid (num l A 4 = rdf l (3 + k)) := by
        show num l A 4 = _
        unfold rdf
        rw [if_neg (by omega), if_neg (by omega), if_neg (by omega), ← hA, show 3 + k - 3 = k by omega]
      clear hA
      go_wp2_with (go_at_call 41; refine (HF.out _ A 4 HI.out.bel rfl (by omega) hA9).mono ?_; rintro e w' ⟨rfl, rfl⟩; rw [HR.out])
      exact ⟨⟨k + 1, hlt, rfl, HN.out⟩, by simp [intOf]; omega⟩
    · obtain rfl : k = 12 := by omega
      have c10 : wr.cell? ⟨P + 1, 10, none⟩ = some (.int .i64 (rdf l 13)) := (cell_of_row _ _ _ _ _ _ HI.out.row).trans (frow_at l 12 10 (by omega))
      have c11 : wr.cell? ⟨P + 1, 11, none⟩ = some (.int .i64 (rdf l 14)) := (cell_of_row _ _ _ _ _ _ HI.out.row).trans (frow_at l 12 11 (by omega))
      have HX : Hid (∀ wx, Below wr.heap.size wr wx → wx.cell? ⟨P + 1, 10, none⟩ = some (.int .i64 (rdf l 13)) ∧ wx.cell? ⟨P + 1, 11, none⟩ = some (.int .i64 (rdf l 14))) := fun wx hb => by
        have h1 := (hb.block _ (heap_lt HI.out.row)).trans HI.out.row
        exact ⟨(cell_of_row _ _ _ _ _ _ h1).trans (frow_at l 12 10 (by omega)), (cell_of_row _ _ _ _ _ _ h1).trans (frow_at l 12 11 (by omega))⟩
      go_upto_region 7 with (fail)
      have HD : Hid (Below wr.heap.size wr wr.drew) := (Below.refl _ _).drew
      have HD2 : Hid (Below w.heap.size w wr.drew) := HI.out.bel.trans (HD.out.mono HI.out.bel.size)
      have HF0 : Hid (∀ wx, Below wr.heap.size wr wx → Calls Tryd.prog 41 #[.slice (some ⟨b, off, none⟩) 64 c, .int .i64 0, .int .i64 1] wx fun e w' => e = .returned (.int .i64 (rdf l 0)) ∧ wx = w') := fun wx hb => HF.out wx 0 1 (HI.out.bel.trans (hb.mono HI.out.bel.size)) rfl (by omega) (by omega)
      have HF1 : Hid (∀ wx, Below wr.heap.size wr wx → Calls Tryd.prog 41 #[.slice (some ⟨b, off, none⟩) 64 c, .int .i64 2, .int .i64 2] wx fun e w' => e = .returned (.int .i64 (rdf l 1)) ∧ wx = w') := fun wx hb => HF.out wx 2 2 (HI.out.bel.trans (hb.mono HI.out.bel.size)) rfl (by omega) (by omega)
      have HF2 : Hid (∀ wx, Below wr.heap.size wr wx → Calls Tryd.prog 41 #[.slice (some ⟨b, off, none⟩) 64 c, .int .i64 4, .int .i64 4] wx fun e w' => e = .returned (.int .i64 (rdf l 2)) ∧ wx = w') := fun wx hb => HF.out wx 4 4 (HI.out.bel.trans (hb.mono HI.out.bel.size)) rfl (by omega) (by omega)
      have HDA : Hid (∀ o, Below wr.heap.size wr (wr.alloc o).drew) := fun o => ((Below.refl _ _).alloc (Nat.le_refl _) o).drew
      obtain ⟨z10, z11⟩ := HX.out _ HD.out
      have y10 : ∀ o, (wr.alloc o).cell? ⟨P + 1, 10, none⟩ = some (.int .i64 (rdf l 13)) := fun o => (HX.out _ ((Below.refl _ _).alloc (Nat.le_refl _) o)).1
      have y11 : ∀ o, (wr.alloc o).cell? ⟨P + 1, 11, none⟩ = some (.int .i64 (rdf l 14)) := fun o => (HX.out _ ((Below.refl _ _).alloc (Nat.le_refl _) o)).2
      go_region_held3 (fun w' => w'.cell? ⟨P + 1, 10, none⟩ = some (.int .i64 (rdf l 13)) ∧ w'.cell? ⟨P + 1, 11, none⟩ = some (.int .i64 (rdf l 14))) (go_keep)
        (first
          | (go_at_call 41; have hh := HF0.out; clear hh; refine (HF0.out _ (by first | exact HD.out | exact HDA.out _)).mono ?_; rintro e w' ⟨rfl, rfl⟩; clear HF0)
          | (go_at_call 41; have hh := HF1.out; clear hh; refine (HF1.out _ (by first | exact HD.out | exact HDA.out _)).mono ?_; rintro e w' ⟨rfl, rfl⟩; clear HF1)
          | (go_at_call 41; refine (HF2.out _ (by first | exact HD.out | exact HDA.out _)).mono ?_; rintro e w' ⟨rfl, rfl⟩))
      all_goals
        go_upto_region 8 with (fail)
        obtain ⟨Q, hQ⟩ : ∃ Q, wr.heap.size = Q := ⟨_, rfl⟩
        obtain ⟨wq, hwq⟩ : ∃ wq, (wr.alloc (.cells #[.int .i64 (rdf l 0), .int .i64 (rdf l 1), .int .i64 (rdf l 2), .int .i64 0, .int .i64 0, .int .i64 0, .int .i64 0, .int .i64 0, .int .i64 0, .int .i64 0, .int .i64 0, .int .i64 0, .int .i64 0, .int .i64 (rdf l 13), .int .i64 (rdf l 14)] 24)).drew = wq := ⟨_, rfl⟩
        have HQ : Hid (Below wr.heap.size wr wq ∧ wq.heap[Q]? = some (.cells #[.int .i64 (rdf l 0), .int .i64 (rdf l 1), .int .i64 (rdf l 2), .int .i64 0, .int .i64 0, .int .i64 0, .int .i64 0, .int .i64 0, .int .i64 0, .int .i64 0, .int .i64 0, .int .i64 0, .int .i64 0, .int .i64 (rdf l 13), .int .i64 (rdf l 14)] 24 (0, 0)) ∧ P + 1 < Q) := by
          rw [← hwq, ← hQ]
          exact ⟨HDA.out _, heap_alloc_new _ _, heap_lt HI.out.row⟩
        rw [hwq, hQ]
        clear hwq y10 y11 z10 z11 c10 c11
        have HE : Hid (Below wq.heap.size wq wq.drew) := (Below.refl _ _).drew
        have HRw : Hid (wq.drew.heap[P + 1]? = some (.cells (frow l 12) 55 (0, 0)) ∧ wq.drew.heap[P]? = some (.cells #[.int .i64 0, .int .i64 0, .int .i64 0, .int .i64 0, .int .i64 0, .int .i64 0, .int .i64 0, .int .i64 0, .int .i64 0, .int .i64 0, .int .i64 0, .int .i64 0, .int .i64 0, .int .i64 0, .int .i64 0] 24 (0, 0))) := by
          have h1 := (HQ.out.1.block _ (heap_lt HI.out.row)).trans HI.out.row
          have h2 := (HQ.out.1.block _ (heap_lt HI.out.ans)).trans HI.out.ans
          exact ⟨(HE.out.block _ (heap_lt h1)).trans h1, (HE.out.block _ (heap_lt h2)).trans h2⟩
        obtain ⟨w3, E3, h3, hf3⟩ := copyI_run (w := wq.drew) (g := Q) (off := 3) (dLen := 10) (dCap := 10) 3 ⟨P + 1, 0, none⟩ 12 12 10 (inD (rdf l)) ((HE.out.block _ (heap_lt HQ.out.2.1)).trans HQ.out.2.1) rfl rfl (fld_cells _ _ _ HRw.out.1) (by simp) (inD_one _)
        have HF3 : Hid (Fr (fun k => k = Q) wq.drew w3) := hf3
        have H3 : Hid (w3.heap[Q]? = some (.cells (inC (rdf l)) 24 (0, 0))) := h3
        have H0 : Hid (w3.heap[P]? = some (.cells #[.int .i64 0, .int .i64 0, .int .i64 0, .int .i64 0, .int .i64 0, .int .i64 0, .int .i64 0, .int .i64 0, .int .i64 0, .int .i64 0, .int .i64 0, .int .i64 0, .int .i64 0, .int .i64 0, .int .i64 0] 24 (0, 0))) := HF3.out.heap HRw.out.2 (show ¬ P = Q by have := HQ.out.2.2; omega)
        clear h3 hf3
        have c0 : w3.cell? ⟨Q, 0, none⟩ = some (.int .i64 (rdf l 0)) := cell_of_row _ _ 0 _ _ _ H3.out
        have d0 : w3.cell? ⟨P, 0, none⟩ = some (.int .i64 0) := cell_of_row _ _ 0 _ _ _ H0.out
        have e0 : w3.frozen? ⟨P, 0, none⟩ = false := frozen_of_row _ _ _ _ _ H0.out
        have c1 : w3.cell? ⟨Q, 1, none⟩ = some (.int .i64 (rdf l 1)) := cell_of_row _ _ 1 _ _ _ H3.out
        have d1 : w3.cell? ⟨P, 1, none⟩ = some (.int .i64 0) := cell_of_row _ _ 1 _ _ _ H0.out
        have e1 : w3.frozen? ⟨P, 1, none⟩ = false := frozen_of_row _ _ _ _ _ H0.out
        have c2 : w3.cell? ⟨Q, 2, none⟩ = some (.int .i64 (rdf l 2)) := cell_of_row _ _ 2 _ _ _ H3.out
        have d2 : w3.cell? ⟨P, 2, none⟩ = some (.int .i64 0) := cell_of_row _ _ 2 _ _ _ H0.out
        have e2 : w3.frozen? ⟨P, 2, none⟩ = false := frozen_of_row _ _ _ _ _ H0.out
        have c3 : w3.cell? ⟨Q, 3, none⟩ = some (.int .i64 (rdf l 3)) := cell_of_row _ _ 3 _ _ _ H3.out
        have d3 : w3.cell? ⟨P, 3, none⟩ = some (.int .i64 0) := cell_of_row _ _ 3 _ _ _ H0.out
        have e3 : w3.frozen? ⟨P, 3, none⟩ = false := frozen_of_row _ _ _ _ _ H0.out
        have c4 : w3.cell? ⟨Q, 4, none⟩ = some (.int .i64 (rdf l 4)) := cell_of_row _ _ 4 _ _ _ H3.out
        have d4 : w3.cell? ⟨P, 4, none⟩ = some (.int .i64 0) := cell_of_row _ _ 4 _ _ _ H0.out
        have e4 : w3.frozen? ⟨P, 4, none⟩ = false := frozen_of_row _ _ _ _ _ H0.out
        have c5 : w3.cell? ⟨Q, 5, none⟩ = some (.int .i64 (rdf l 5)) := cell_of_row _ _ 5 _ _ _ H3.out
        have d5 : w3.cell? ⟨P, 5, none⟩ = some (.int .i64 0) := cell_of_row _ _ 5 _ _ _ H0.out
        have e5 : w3.frozen? ⟨P, 5, none⟩ = false := frozen_of_row _ _ _ _ _ H0.out
        have c6 : w3.cell? ⟨Q, 6, none⟩ = some (.int .i64 (rdf l 6)) := cell_of_row _ _ 6 _ _ _ H3.out
        have d6 : w3.cell? ⟨P, 6, none⟩ = some (.int .i64 0) := cell_of_row _ _ 6 _ _ _ H0.out
        have e6 : w3.frozen? ⟨P, 6, none⟩ = false := frozen_of_row _ _ _ _ _ H0.out
        have c7 : w3.cell? ⟨Q, 7, none⟩ = some (.int .i64 (rdf l 7)) := cell_of_row _ _ 7 _ _ _ H3.out
        have d7 : w3.cell? ⟨P, 7, none⟩ = some (.int .i64 0) := cell_of_row _ _ 7 _ _ _ H0.out
        have e7 : w3.frozen? ⟨P, 7, none⟩ = false := frozen_of_row _ _ _ _ _ H0.out
        have c8 : w3.cell? ⟨Q, 8, none⟩ = some (.int .i64 (rdf l 8)) := cell_of_row _ _ 8 _ _ _ H3.out
        have d8 : w3.cell? ⟨P, 8, none⟩ = some (.int .i64 0) := cell_of_row _ _ 8 _ _ _ H0.out
        have e8 : w3.frozen? ⟨P, 8, none⟩ = false := frozen_of_row _ _ _ _ _ H0.out
        have c9 : w3.cell? ⟨Q, 9, none⟩ = some (.int .i64 (rdf l 9)) := cell_of_row _ _ 9 _ _ _ H3.out
        have d9 : w3.cell? ⟨P, 9, none⟩ = some (.int .i64 0) := cell_of_row _ _ 9 _ _ _ H0.out
        have e9 : w3.frozen? ⟨P, 9, none⟩ = false := frozen_of_row _ _ _ _ _ H0.out
        have c10 : w3.cell? ⟨Q, 10, none⟩ = some (.int .i64 (rdf l 10)) := cell_of_row _ _ 10 _ _ _ H3.out
        have d10 : w3.cell? ⟨P, 10, none⟩ = some (.int .i64 0) := cell_of_row _ _ 10 _ _ _ H0.out
        have e10 : w3.frozen? ⟨P, 10, none⟩ = false := frozen_of_row _ _ _ _ _ H0.out
        have c11 : w3.cell? ⟨Q, 11, none⟩ = some (.int .i64 (rdf l 11)) := cell_of_row _ _ 11 _ _ _ H3.out
        have d11 : w3.cell? ⟨P, 11, none⟩ = some (.int .i64 0) := cell_of_row _ _ 11 _ _ _ H0.out
        have e11 : w3.frozen? ⟨P, 11, none⟩ = false := frozen_of_row _ _ _ _ _ H0.out
        have c12 : w3.cell? ⟨Q, 12, none⟩ = some (.int .i64 (rdf l 12)) := cell_of_row _ _ 12 _ _ _ H3.out
        have d12 : w3.cell? ⟨P, 12, none⟩ = some (.int .i64 0) := cell_of_row _ _ 12 _ _ _ H0.out
        have e12 : w3.frozen? ⟨P, 12, none⟩ = false := frozen_of_row _ _ _ _ _ H0.out
        have c13 : w3.cell? ⟨Q, 13, none⟩ = some (.int .i64 (rdf l 13)) := cell_of_row _ _ 13 _ _ _ H3.out
        have d13 : w3.cell? ⟨P, 13, none⟩ = some (.int .i64 0) := cell_of_row _ _ 13 _ _ _ H0.out
        have e13 : w3.frozen? ⟨P, 13, none⟩ = false := frozen_of_row _ _ _ _ _ H0.out
        have c14 : w3.cell? ⟨Q, 14, none⟩ = some (.int .i64 (rdf l 14)) := cell_of_row _ _ 14 _ _ _ H3.out
        have d14 : w3.cell? ⟨P, 14, none⟩ = some (.int .i64 0) := cell_of_row _ _ 14 _ _ _ H0.out
        have e14 : w3.frozen? ⟨P, 14, none⟩ = false := frozen_of_row _ _ _ _ _ H0.out
        go_region
        go_wp2
        refine bodyPost_ret (v := inV (rdf l)) (res_row9 (fn := Tryd.f24) (p := 2) (ty := 24) rfl _ _ P (inC (rdf l)) rfl ?_) rfl ?_
        · refine load15 _ P (rdf l 0) (rdf l 1) (rdf l 2) (rdf l 3) (rdf l 4) (rdf l 5) (rdf l 6) (rdf l 7) (rdf l 8) (rdf l 9) (rdf l 10) (rdf l 11) (rdf l 12) (rdf l 13) (rdf l 14) ?_
          exact set15 _ P (.int .i64 0) (.int .i64 0) (.int .i64 0) (.int .i64 0) (.int .i64 0) (.int .i64 0) (.int .i64 0) (.int .i64 0) (.int .i64 0) (.int .i64 0) (.int .i64 0) (.int .i64 0) (.int .i64 0) (.int .i64 0) (.int .i64 0) (.int .i64 (rdf l 0)) (.int .i64 (rdf l 1)) (.int .i64 (rdf l 2)) (.int .i64 (rdf l 3)) (.int .i64 (rdf l 4)) (.int .i64 (rdf l 5)) (.int .i64 (rdf l 6)) (.int .i64 (rdf l 7)) (.int .i64 (rdf l 8)) (.int .i64 (rdf l 9)) (.int .i64 (rdf l 10)) (.int .i64 (rdf l 11)) (.int .i64 (rdf l 12)) (.int .i64 (rdf l 13)) (.int .i64 (rdf l 14)) H0.out
        · refine ⟨rfl, ?_⟩
          have hb : Below w.heap.size w w3 := by
            have h1 := HI.out.bel.trans (HQ.out.1.mono HI.out.bel.size)
            have h2 := h1.trans (HE.out.mono h1.size)
            exact h2.trans (HF3.out.below _ (fun k hk => by have hk : k = Q := hk; have := HQ.out.2.2; omega) h2.size)
          iterate 15 refine below_put ?_ (Nat.le_refl _) (by omega)
          exact hb
end Go.Proofs.YtdheojhfgeabhaaDoor
