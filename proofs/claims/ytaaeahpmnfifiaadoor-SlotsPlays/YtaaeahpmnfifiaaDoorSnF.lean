import Derived.Test.YtaaeahpmnfifiaaDoorSnE
namespace Go.Proofs.YtaaeahpmnfifiaaDoor
open Go.RowKit Rec Sc
def tk (q : ET) : Bool := !fr q
/-- how far DeleteFunc has come -/
structure DlI (w wr : World) (g cap : Nat) (xs : List ET) (i j : Nat) : Prop where
  fr : Fr (fun k => k = g) w wr
  row : ∃ ys, OwnE wr g cap ys ∧ ys.length = 16 ∧ ys.take i = (xs.take j).filter tk ∧ ∀ m, j ≤ m → ys[m]? = xs[m]?
  lt : i < j
theorem DlI.start {w wr : World} {g cap : Nat} {xs : List ET} (h : OwnE w g cap xs) (hn : xs.length = 16) (hb : Below w.heap.size w wr) {k : Nat} (hk : fi xs = k) : DlI w wr g cap xs k (k + 1) ∧ k < 16 := by
  have hany : xs.any Go.Proofs.YtaaeahpmnfifiaaDoor.fr = true := by
    cases e : xs.any Go.Proofs.YtaaeahpmnfifiaaDoor.fr with
    | true => rfl
    | false => rw [fi, e] at hk; simp at hk
  rw [fi, if_pos hany] at hk
  have hk : xs.findIdx Go.Proofs.YtaaeahpmnfifiaaDoor.fr = k := by omega
  have hlt : k < xs.length := by rw [← hk]; exact List.findIdx_lt_length.2 (by simpa using hany)
  refine ⟨⟨below_fr hb _, ⟨xs, h.on hb, hn, ?_, fun _ _ => rfl⟩, Nat.lt_succ_self _⟩, by omega⟩
  have h0 := (List.findIdx_eq hlt).1 hk
  rw [List.take_add_one, List.getElem?_eq_getElem hlt, List.filter_append]
  have e1 : (xs.take k).filter tk = xs.take k := by
    rw [List.filter_eq_self]
    intro q hq
    obtain ⟨j, hj⟩ := List.getElem?_of_mem hq
    have hjl := (List.getElem?_eq_some_iff.1 hj).1
    rw [List.length_take] at hjl
    rw [List.getElem?_take_of_lt (by omega)] at hj
    have := h0.2 j (by omega)
    rw [(List.getElem?_eq_some_iff.1 hj).2] at this
    simp [tk, this]
  rw [e1]
  simp [tk, h0.1]
theorem DlI.skip {w wr : World} {g cap : Nat} {xs : List ET} {i j : Nat} {q : ET} (h : DlI w wr g cap xs i j) (hq : xs[j]? = some q) (hf : Go.Proofs.YtaaeahpmnfifiaaDoor.fr q = true) {wx : World} (hb : Below wr.heap.size wr wx) : DlI w wx g cap xs i (j + 1) := by
  obtain ⟨ys, h1, h2, h3, h4⟩ := h.row
  refine ⟨h.fr.trans (below_fr hb (fun _ => False)) (fun _ e => e.elim), ⟨ys, h1.on hb, h2, ?_, fun m hm => h4 m (by omega)⟩, by have := h.lt; omega⟩
  rw [List.take_add_one, hq, List.filter_append, h3]
  simp [tk, hf]
theorem DlI.move {w wr : World} {g cap : Nat} {xs : List ET} {i j : Nat} {q : ET} (h : DlI w wr g cap xs i j) (hj : j < 16) (hq : xs[j]? = some q) (hf : Go.Proofs.YtaaeahpmnfifiaaDoor.fr q = false) {wx : World} (hb : Below wr.heap.size wr wx) :
    DlI w (((wx.setCell ⟨g, i * 3, none⟩ (.int .i64 q.1)).setCell ⟨g, i * 3 + 1, none⟩ (.string q.2.1)).setCell ⟨g, i * 3 + 2, none⟩ (.int .i64 q.2.2)) g cap xs (i + 1) (j + 1) := by
  obtain ⟨ys, h1, h2, h3, h4⟩ := h.row
  have hl := h.lt
  refine ⟨(((h.fr.trans (below_fr hb (fun _ => False)) (fun _ e => e.elim)).trans (Fr.set (g := g)) (fun _ e => .inl e)).trans (Fr.set (g := g)) (fun _ e => .inl e)).trans (Fr.set (g := g)) (fun _ e => .inl e), ⟨ys.set i q, (h1.on hb).set (by omega) q, by rw [List.length_set]; exact h2, ?_, fun m hm => ?_⟩, by omega⟩
  · rw [List.take_add_one, List.take_add_one, hq, List.filter_append, List.getElem?_set_self (by omega), List.take_set_of_le (Nat.le_refl _), h3]
    simp [tk, hf]
  · rw [List.getElem?_set_ne (by omega)]; exact h4 m (by omega)
theorem DlI.cell {w wr : World} {g cap : Nat} {xs : List ET} {i j : Nat} {q : ET} (h : DlI w wr g cap xs i j) (hq : xs[j]? = some q) :
    wr.cell? ⟨g, j * 3, none⟩ = some (.int .i64 q.1) ∧ wr.cell? ⟨g, j * 3 + 1, none⟩ = some (.string q.2.1) ∧ wr.cell? ⟨g, j * 3 + 2, none⟩ = some (.int .i64 q.2.2) := by
  obtain ⟨ys, h1, h2, h3, h4⟩ := h.row
  exact h1.cell ((h4 j (Nat.le_refl _)).trans hq)
theorem DlI.spot {w wr : World} {g cap : Nat} {xs : List ET} {i j : Nat} (h : DlI w wr g cap xs i j) (hi : i < 16) :
    ∃ q : ET, (wr.cell? ⟨g, i * 3, none⟩ = some (.int .i64 q.1) ∧ wr.cell? ⟨g, i * 3 + 1, none⟩ = some (.string q.2.1) ∧ wr.cell? ⟨g, i * 3 + 2, none⟩ = some (.int .i64 q.2.2)) ∧ wr.frozen? ⟨g, i * 3, none⟩ = false ∧ wr.frozen? ⟨g, i * 3 + 1, none⟩ = false ∧ wr.frozen? ⟨g, i * 3 + 2, none⟩ = false := by
  obtain ⟨ys, h1, h2, h3, h4⟩ := h.row
  exact ⟨_, h1.cell (List.getElem?_eq_getElem (by omega)), h1.frozen _, h1.frozen _, h1.frozen _⟩
theorem DlI.done {w wr : World} {g cap : Nat} {xs : List ET} {i : Nat} (hn : xs.length = 16) (h : DlI w wr g cap xs i 16) :
    i = (xs.filter tk).length ∧ ∃ w', (Builtin.clear_ #[36] 0 #[.slice (some ⟨g, i * 3, none⟩) (16 - i) (cap - i)]).run Tryd.prog wr = .ok (.tuple #[]) w' ∧ OwnE w' g cap (xs.filter tk) ∧ Fr (fun k => k = g) w w' := by
  obtain ⟨ys, h1, h2, h3, h4⟩ := h.row
  have hl := h.lt
  rw [List.take_of_length_le (l := xs) (by omega)] at h3
  obtain ⟨w', c1, c2, c3⟩ := clearE h1 i (by omega) 0 (cap - i)
  rw [h2] at c1
  rw [h3] at c2
  refine ⟨by rw [← h3, List.length_take]; omega, w', c1, c2, h.fr.trans (grown_fr c3) (fun k e => .inl (by cases e; rfl))⟩
set_option maxRecDepth 100000 in
set_option maxHeartbeats 4000000 in
theorem delete_free (w : World) (g cap : Nat) (xs : List ET) (hO : OwnE w g cap xs) (hn : xs.length = 16) :
    Calls Tryd.prog 30 #[.slice (some ⟨g, 0, none⟩) 16 cap, frF] w fun e w' => e = .returned (.slice (some ⟨g, 0, none⟩) (xs.filter tk).length cap) ∧ OwnE w' g cap (xs.filter tk) ∧ Fr (fun k => k = g) w w' := by
  have hcap : 16 ≤ cap := by have := hO.room; omega
  have hbig : cap ≤ 9223372036854775807 := hO.top
  have HO : Hid (OwnE w g cap xs) := hO
  clear hO
  have HI := index_free w g cap xs HO.out hn
  by_cases hany : xs.any fr = true
  · obtain ⟨k, hk⟩ : ∃ k : Nat, fi xs = k := ⟨_, by rw [fi, if_pos hany]⟩
    have HS : Hid (∀ wx, Below w.heap.size w wx → DlI w wx g cap xs k (k + 1) ∧ k < 16) := fun wx hb => DlI.start HO.out hn hb hk
    have hk16 : k < 16 := (HS.out w (Below.refl _ _)).2
    rw [hk] at HI
    clear hk hany
    go_enter Tryd.func30, Tryd.ntmps30
    go_wp2_with (go_at_call 32; refine HI.mono ?_; rintro e w' ⟨rfl, hb⟩; have HB : Hid (DlI w w' g cap xs k (k + 1)) := (HS.out _ hb).1; clear hb)
    go_loopw [5, 6] (fun s5 s6 wr => ∃ i j : Nat, i < 16 ∧ j ≤ 16 ∧ s5 = .int .i64 (i : Int) ∧ s6 = .int .i64 (j : Int) ∧ DlI w wr g cap xs i j) (fun _ s6 _ => 16 - (intOf s6).toNat)
    case atStart => exact ⟨k, k + 1, hk16, by omega, rfl, by go_num, HB.out⟩
    case round =>
      obtain ⟨i, j, hi, hj, rfl, rfl, hD⟩ := hrel
      have HD : Hid (DlI w wr g cap xs i j) := hD
      clear hD HB HS
      by_cases hlt : j < 16
      · have hlt' : (j : Int) < 16 := by omega
        obtain ⟨q, hq⟩ : ∃ q, xs[j]? = some q := ⟨_, List.getElem?_eq_getElem (by omega)⟩
        obtain ⟨c0, c1, c2⟩ := HD.out.cell hq
        have HX : Hid (xs[j]? = some q) := hq
        clear hq
        have HF : Hid (∀ wx, Calls Tryd.prog 31 #[eV q.1 q.2.1 q.2.2] wx fun e w' => e = .returned (.bool (fr q)) ∧ w' = wx.alloc (.cells #[.int .i64 q.1, .string q.2.1, .int .i64 q.2.2] 27 (0, 0))) := fun wx => isFree_any wx _ _ _
        cases hp : fr q with
        | true =>
          go_wp2_with (go_at_call 31; refine (HF.out _).mono ?_; rw [hp]; rintro e w' ⟨rfl, rfl⟩)
          go_roundw
          case rel =>
            (repeat apply Exists.intro)
            refine ⟨?_, rfl⟩
            exact ⟨i, j + 1, hi, by omega, rfl, by go_num, HD.out.skip HX.out hp (((Below.refl _ _).alloc (Nat.le_refl _) _).alloc (by simp) _)⟩
          case measure => simp [intOf]; omega
        | false =>
          obtain ⟨q2, ⟨d0, d1, d2⟩, f0, f1, f2⟩ := HD.out.spot hi
          have hi' : (i : Int) < 16 := by omega
          obtain ⟨P, hP⟩ : ∃ P, wr.heap.size = P := ⟨_, rfl⟩
          have HF2 : Hid (Calls Tryd.prog 31 #[eV q.1 q.2.1 q.2.2] (wr.alloc (.cells #[.int .i64 q.1, .string q.2.1, .int .i64 q.2.2] 27 (0, 0))) fun e w' => e = .returned (.bool false) ∧ Below wr.heap.size wr w' ∧ (w'.cell? ⟨P, 0, none⟩ = some (.int .i64 q.1) ∧ w'.cell? ⟨P, 1, none⟩ = some (.string q.2.1) ∧ w'.cell? ⟨P, 2, none⟩ = some (.int .i64 q.2.2)) ∧ (w'.cell? ⟨g, i * 3, none⟩ = some (.int .i64 q2.1) ∧ w'.cell? ⟨g, i * 3 + 1, none⟩ = some (.string q2.2.1) ∧ w'.cell? ⟨g, i * 3 + 2, none⟩ = some (.int .i64 q2.2.2)) ∧ w'.frozen? ⟨g, i * 3, none⟩ = false ∧ w'.frozen? ⟨g, i * 3 + 1, none⟩ = false ∧ w'.frozen? ⟨g, i * 3 + 2, none⟩ = false) := by
            refine (HF.out _).mono ?_
            rw [hp]
            rintro e w' ⟨rfl, hw⟩
            have hb : Below wr.heap.size wr w' := by rw [hw]; exact ((Below.refl _ _).alloc (Nat.le_refl _) _).alloc (by simp) _
            have hh : w'.heap[P]? = some (.cells #[.int .i64 q.1, .string q.2.1, .int .i64 q.2.2] 27 (0, 0)) := by
              rw [hw, ← hP, Below.heap_alloc _ _ _ (by simp)]; exact heap_alloc_new _ _
            exact ⟨rfl, hb, ⟨cell_of_row _ _ 0 _ _ _ hh, cell_of_row _ _ 1 _ _ _ hh, cell_of_row _ _ 2 _ _ _ hh⟩, ⟨(hb.cell (block_lt_of_cell d0)).trans d0, (hb.cell (block_lt_of_cell d1)).trans d1, (hb.cell (block_lt_of_cell d2)).trans d2⟩, (hb.frozen (block_lt_of_cell d0)).trans f0, (hb.frozen (block_lt_of_cell d1)).trans f1, (hb.frozen (block_lt_of_cell d2)).trans f2⟩
          clear d0 d1 d2 f0 f1 f2
          go_wp2_with (go_at_call 31; refine HF2.out.mono ?_; rintro e w' ⟨rfl, hb9, ⟨a0, a1, a2⟩, ⟨d0, d1, d2⟩, f0, f1, f2⟩; have HB9 : Hid _ := hb9; clear hb9)
          go_roundw
          case rel =>
            (repeat apply Exists.intro)
            refine ⟨?_, rfl⟩
            exact ⟨i + 1, j + 1, by have := HD.out.lt; omega, by omega, by go_num, by go_num, HD.out.move hlt HX.out hp HB9.out⟩
          case measure => simp [intOf]; omega
      · have hlt' : ¬ (j : Int) < 16 := by omega
        obtain rfl : j = 16 := by omega
        obtain ⟨he, w', hr, h1, h2⟩ := HD.out.done hn
        have HE : Hid (OwnE w' g cap (xs.filter tk) ∧ Fr (fun k => k = g) w w') := ⟨h1, h2⟩
        have HEi : Hid (i = (xs.filter tk).length) := he
        clear h1 h2 he
        go_wp2
        go_ret
        exact ⟨by rw [← HEi.out]; rfl, HE.out⟩
  · have hno : xs.any fr = false := by simpa using hany
    have e1 : fi xs = -1 := by rw [fi, hno]; rfl
    have e2 : xs.filter tk = xs := by
      rw [List.filter_eq_self]
      intro q hq
      have := (List.any_eq_false.1 hno) q hq
      simp [tk, this]
    rw [e1] at HI
    rw [e2, hn]
    clear e1 e2 hno hany
    go_enter Tryd.func30, Tryd.ntmps30
    go_wp2_with (go_at_call 32; refine HI.mono ?_; rintro e w' ⟨rfl, hb⟩; have HB : Hid _ := hb; clear hb)
    go_ret
    exact ⟨rfl, HO.out.on HB.out, below_fr HB.out _⟩
end Go.Proofs.YtaaeahpmnfifiaaDoor
