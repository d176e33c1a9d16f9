import Derived.Test.YtaaeahpmnfifiaaDoorSnA
import Derived.Laws.ResultCell
import Derived.BigRegion
namespace Go.Proofs.YtaaeahpmnfifiaaDoor
open Go.RowKit Rec Sc
theorem res_cell_tmp {fn : Func} {p u : Tmp} {ty : TypeId} (h : fn.results = #[.cell p ty, .tmp u]) (tmps : Array Value) (w : World) (g : Nat) (cs : Array Value)
    (hp : tmps.getD p undef = .pointer (some ⟨g, 0, none⟩)) (hl : (loadVar ty ⟨g, 0, none⟩).run Tryd.prog w = .ok (.agg cs) w) :
    (results fn tmps).run Tryd.prog w = .ok (.tuple #[.agg cs, tmps.getD u undef]) w := by
  rw [results_cell_tmp h, hp]
  simp [asAddr, hl]
theorem ldE (w : World) (p o : Nat) (x : Int) (s : ByteArray) (i : Int) (h0 : w.cell? ⟨p, o, none⟩ = some (.int .i64 x)) (h1 : w.cell? ⟨p, o + 1, none⟩ = some (.string s)) (h2 : w.cell? ⟨p, o + 2, none⟩ = some (.int .i64 i)) :
    (loadVar 27 ⟨p, o, none⟩).run Tryd.prog w = .ok (eV x s i) w := by
  go_simp
/-- what entry tells -/
def eN (L : List Int) (k : Nat) : ByteArray := if inc L k = 0 then ⟨#[]⟩ else nmc L k
set_option maxRecDepth 100000 in
set_option maxHeartbeats 2000000 in
theorem entry_free (w : World) (g o c : Nat) (L : List Int) (k : Nat) (hn : L.length = 512) (hO : Bytes w (some ⟨g, o, none⟩) L) (hc : 512 ≤ c) (hT : TabAt w) (hk : k < 16) (h0 : inc L k = 0) :
    Calls Tryd.prog 42 #[.slice (some ⟨g, o, none⟩) 512 c, .int .i64 k] w fun e w' => e = .returned (.tuple #[eV k ⟨#[]⟩ 0, .bool (zr L (32 * k) 32)]) ∧ Below w.heap.size w w' := by
  have hBk : Bytes w (some ⟨g, o + 32 * k, none⟩) (fld L (32 * k) 32) := hO.field (by omega) _ (.inl rfl)
  have hLk := fld_length L (32 * k) 32 (by omega)
  have hnum : num (fld L (32 * k) 32) 0 4 = 0 := by
    rw [← h0]
    simp only [inc, num, nth_fld _ _ _ _ (show 0 + 0 < 32 by omega), nth_fld _ _ _ _ (show 0 + 1 < 32 by omega), nth_fld _ _ _ _ (show 0 + 2 < 32 by omega), nth_fld _ _ _ _ (show 0 + 3 < 32 by omega), Nat.zero_add]
  have HF : Hid (∀ wx, Below w.heap.size w wx → Calls Tryd.prog 48 #[.slice (some ⟨g, o + 32 * k, none⟩) 32 32, .int .i64 0, .int .i64 4] wx fun e w' => e = .returned (.int .i64 0) ∧ wx = w') := fun wx hb => by
    have := field_any wx g (o + 32 * k) 0 4 _ hLk (hBk.on hb) (hT.on hb) rfl (by omega) (by omega)
    rw [hnum] at this
    exact this
  have HZ : Hid (∀ wx, Below w.heap.size w wx → Calls Tryd.prog 49 #[.slice (some ⟨g, o + 32 * k, none⟩) 32 32, .int .i64 0, .int .i64 32] wx fun e w' => e = .returned (.tuple #[.bool (zr L (32 * k) 32), .int .i64 0]) ∧ wx = w') := fun wx hb => by
    have := zero_in wx g (o + 32 * k) 32 32 0 32 _ hLk (hBk.on hb) (by omega) (by omega)
    rw [zr_fld] at this
    exact this
  have HFr : Hid (∀ wx, Calls Tryd.prog 31 #[eV k ⟨#[]⟩ 0] wx fun e w' => e = .returned (.bool true) ∧ w' = wx.alloc (.cells #[.int .i64 (k : Int), .string ⟨#[]⟩, .int .i64 0] 27 (0, 0))) := fun wx => isFree_any wx k ⟨#[]⟩ 0
  generalize zr L (32 * k) 32 = Z at *
  clear hO hBk hT hn hLk hnum h0
  go_enter Tryd.func42, Tryd.ntmps42
  go_wp2_with (first
    | (go_at_call 25; refine (cut_any _ _ _ _ _ hk hc).mono ?_; rintro e w' ⟨rfl, rfl⟩)
    | (go_at_call 48; refine (HF.out _ ?_).mono ?_; (· exact (Below.refl _ w).alloc (Nat.le_refl _) _); rintro e w' ⟨rfl, rfl⟩)
    | (go_at_call 31; refine (HFr.out _).mono ?_; rintro e w' ⟨rfl, rfl⟩)
    | (go_at_call 49; refine (HZ.out _ ?_).mono ?_; (· exact (((Below.refl _ w).alloc (Nat.le_refl _) _).alloc (by simp) _).alloc (by simp; omega) _); rintro e w' ⟨rfl, rfl⟩))
  refine bodyPost_ret (res_cell_tmp rfl _ _ w.heap.size #[.int .i64 k, .string ⟨#[]⟩, .int .i64 0] rfl ?_) rfl ?_
  · refine ldE _ _ _ _ _ _ ?_ ?_ ?_
    all_goals go_simp
  · exact ⟨rfl, (((Below.refl _ w).alloc (Nat.le_refl _) _).alloc (by simp) _).alloc (by simp; omega) _⟩
theorem heap_alloc3 (w : World) (a b c : Obj) : (((w.alloc a).alloc b).alloc c).heap[w.heap.size]? = some a ∧ (((w.alloc a).alloc b).alloc c).heap[w.heap.size + 1]? = some b ∧ (((w.alloc a).alloc b).alloc c).heap.size = w.heap.size + 3 := by
  refine ⟨?_, ?_, by simp⟩
  · rw [Below.heap_alloc _ _ _ (by simp; omega), Below.heap_alloc _ _ _ (by simp)]
    exact Array.getElem?_push_size
  · rw [Below.heap_alloc _ _ _ (by simp)]
    have : (w.alloc a).heap.size = w.heap.size + 1 := by simp
    rw [← this]
    exact Array.getElem?_push_size
theorem put3 {w : World} {P : Nat} {a b c : Value} {ty : TypeId} (h : w.heap[P]? = some (.cells #[a, b, c] ty (0, 0))) (x y z : Value) :
    (((w.setCell ⟨P, 0, none⟩ x).setCell ⟨P, 1, none⟩ y).setCell ⟨P, 2, none⟩ z).heap[P]? = some (.cells #[x, y, z] ty (0, 0)) :=
  heap_setCell_same _ _ _ _ _ _ (heap_setCell_same _ _ _ _ _ _ (heap_setCell_same _ _ _ _ _ _ h))
theorem ldR {w : World} {P : Nat} {x : Int} {s : ByteArray} {i : Int} (h : w.heap[P]? = some (.cells #[.int .i64 x, .string s, .int .i64 i] 27 (0, 0))) :
    (loadVar 27 ⟨P, 0, none⟩).run Tryd.prog w = .ok (eV x s i) w :=
  ldE _ _ _ _ _ _ (cell_of_row _ _ 0 _ _ _ h) (cell_of_row _ _ 1 _ _ _ h) (cell_of_row _ _ 2 _ _ _ h)
theorem below_put3 {B : Nat} {w wx : World} {P : Nat} {x y z : Value} (h : Below B w wx) (hP : B ≤ P) : Below B w (((wx.setCell ⟨P, 0, none⟩ x).setCell ⟨P, 1, none⟩ y).setCell ⟨P, 2, none⟩ z) :=
  ((h.setCell hP _).setCell hP _).setCell hP _
theorem fld_num (L : List Int) (A W : Nat) (m n : Nat) (h : m + n ≤ W) : num (fld L A W) m n = num L (A + m) n := by
  induction n with
  | zero => rfl
  | succ n ih => rw [num, num, ih (by omega), nth_fld _ _ _ _ (by omega), Nat.add_assoc]
theorem inc_bd {L : List Int} (k : Nat) (hw : ∀ i, 0 ≤ nth L i ∧ nth L i < 256) : 0 ≤ inc L k ∧ inc L k ≤ 4294967295 := by
  have := num_bd L (32 * k) 4 hw
  simp only [Int.reducePow] at this
  unfold inc; omega
set_option maxRecDepth 100000 in
set_option maxHeartbeats 4000000 in
theorem entry_taken (w : World) (g o c : Nat) (L : List Int) (k : Nat) (hn : L.length = 512) (hO : Bytes w (some ⟨g, o, none⟩) L) (hc : 512 ≤ c) (hT : TabAt w) (hk : k < 16) (h0 : inc L k ≠ 0) :
    Calls Tryd.prog 42 #[.slice (some ⟨g, o, none⟩) 512 c, .int .i64 k] w fun e w' => e = .returned (.tuple #[eV k (nmc L k) (inc L k), .bool (rt L k)]) ∧ Below w.heap.size w w' := by
  have hBk : Bytes w (some ⟨g, o + 32 * k, none⟩) (fld L (32 * k) 32) := hO.field (by omega) _ (.inl rfl)
  have hLk := fld_length L (32 * k) 32 (by omega)
  have hBn : Bytes w (some ⟨g, o + 32 * k + 5, none⟩) (fld L (32 * k + 5) 27) := hO.field (by omega) _ (.inl (by omega))
  have hLn := fld_length L (32 * k + 5) 27 (by omega)
  have ht : tl (nth (fld L (32 * k + 5) 27)) 27 = tlc L k := tl_congr _ _ _ (fun i hi => nth_fld _ _ _ _ hi)
  have htl : tlc L k ≤ 27 := tl_le _ _
  have hib := inc_bd k hO.wf
  have hi1 : 1 ≤ inc L k := by omega
  have HF : Hid (∀ wx, Below w.heap.size w wx → Calls Tryd.prog 48 #[.slice (some ⟨g, o + 32 * k, none⟩) 32 32, .int .i64 0, .int .i64 4] wx fun e w' => e = .returned (.int .i64 (inc L k)) ∧ wx = w') := fun wx hb => by
    have := field_any wx g (o + 32 * k) 0 4 _ hLk (hBk.on hb) (hT.on hb) rfl (by omega) (by omega)
    rw [fld_num _ _ _ _ _ (by omega)] at this
    exact this
  have HF2 : Hid (∀ wx, Below w.heap.size w wx → Calls Tryd.prog 48 #[.slice (some ⟨g, o + 32 * k, none⟩) 32 32, .int .i64 4, .int .i64 1] wx fun e w' => e = .returned (.int .i64 (nth L (32 * k + 4))) ∧ wx = w') := fun wx hb => by
    have := field_any wx g (o + 32 * k) 4 1 _ hLk (hBk.on hb) (hT.on hb) rfl (by omega) (by omega)
    rw [fld_num _ _ _ _ _ (by omega), show num L (32 * k + 4) 1 = nth L (32 * k + 4) by simp [num]] at this
    exact this
  have HC : Hid (∀ wx m, Below w.heap.size w wx → (convert 25 9 (.slice (some ⟨g, o + 32 * k + 5, none⟩) (tlc L k) m)).run Tryd.prog wx = .ok (.string (nmc L k)) wx) := fun wx m hb => by
    have hB : Bytes w (some ⟨g, o + 32 * k + 5, none⟩) (fld L (32 * k + 5) (tlc L k)) := hO.field (by omega) _ (.inl (by omega))
    exact str_of (hB.on hb) (fld_length _ _ _ (by omega))
  have HT : Hid (∀ wx, Below w.heap.size w wx → Calls Tryd.prog 51 #[.slice (some ⟨g, o + 32 * k + 5, none⟩) 27 27] wx fun e w' => e = .returned (.int .i64 (tlc L k : Nat)) ∧ wx = w' ∧ (convert 25 9 (.slice (some ⟨g, o + 32 * k + 5, none⟩) (tlc L k) 27)).run Tryd.prog w' = .ok (.string (nmc L k)) w') := fun wx hb => by
    have := textLen_any wx g (o + 32 * k + 5) _ hLn (hBn.on hb)
    rw [ht] at this
    exact this.mono (fun e w' h => ⟨h.1, h.2, by rw [← h.2]; exact HC.out wx 27 hb⟩)
  have HFr : Hid (∀ wx s, Calls Tryd.prog 31 #[eV k s (inc L k)] wx fun e w' => e = .returned (.bool false) ∧ w' = wx.alloc (.cells #[.int .i64 (k : Int), .string s, .int .i64 (inc L k)] 27 (0, 0))) := fun wx s => by
    have := isFree_any wx k s (inc L k)
    rw [decide_eq_false h0] at this
    exact this
  have hsz : (nmc L k).size ≤ 27 := by
    rw [nmc, strOfNums_size, pc, List.length_take]; omega
  have HM : Hid (∀ wx, Calls Tryd.prog 24 #[eV k (nmc L k) (inc L k)] wx fun e w' => e = .returned (.bool (Pa.name (nmc L k).data.toList)) ∧ Below wx.heap.size wx w' ∧ (∀ p v, wx.cell? p = some v → w'.cell? p = some v) ∧ (∀ p v, wx.cell? p = some v → w'.frozen? p = wx.frozen? p)) := fun wx => by
    have := mayStand_any wx k (nmc L k) (inc L k) (by omega)
    have e : mst k (nmc L k) (inc L k) = Pa.name (nmc L k).data.toList := by
      simp [mst, plc, hi1, hib.2]; omega
    rw [e] at this
    exact this.mono (fun e w' h => ⟨h.1, h.2, fun p v hv => (h.2.cell (block_lt_of_cell hv)).trans hv, fun p v hv => h.2.frozen (block_lt_of_cell hv)⟩)
  have HR : Hid (rt L k = (decide ((tlc L k : Int) = nth L (32 * k + 4)) && Pa.name (nmc L k).data.toList)) := if_neg h0
  have hq := hO.wf (32 * k + 4)
  clear HC hBk hT hn hLk hBn hLn ht hib hi1 hO h0 hsz
  generalize rt L k = R at *
  generalize nmc L k = nm at *
  generalize tlc L k = t at *
  generalize inc L k = ino at *
  generalize nth L (32 * k + 4) = q at *
  generalize Pa.name nm.data.toList = M at *
  clear L
  go_enter Tryd.func42, Tryd.ntmps42
  go_wp2_with (first
    | (go_at_call 25; refine (cut_any _ _ _ _ _ hk hc).mono ?_; rintro e w' ⟨rfl, rfl⟩)
    | (go_at_call 48; refine (HF.out _ ?_).mono ?_; (· exact (Below.refl _ w).alloc (Nat.le_refl _) _); rintro e w' ⟨rfl, rfl⟩)
    | (go_at_call 31; refine (HFr.out _ _).mono ?_; rintro e w' ⟨rfl, rfl⟩)
    | (go_at_call 50; refine (nameRoom_any _ _ _).mono ?_; rintro e w' ⟨rfl, rfl⟩)
    | (go_at_call 51; refine (HT.out _ ?_).mono ?_; (· exact (((Below.refl _ w).alloc (Nat.le_refl _) _).alloc (by simp) _).alloc (by simp; omega) _); rintro e w' ⟨rfl, rfl, hcv⟩))
  obtain ⟨P, hP⟩ : ∃ P, w.heap.size = P := ⟨_, rfl⟩
  obtain ⟨wr, hwr⟩ : ∃ wr, (((w.alloc (Obj.cells #[Value.int IntKind.i64 0, Value.string { data := #[] }, Value.int IntKind.i64 0] 27 (0, 0))).alloc (Obj.cells #[Value.int IntKind.i64 ↑k, Value.string nm, Value.int IntKind.i64 ino] 27 (0, 0))).alloc (Obj.cells #[Value.int IntKind.i64 ↑k, Value.string { data := #[] }, Value.int IntKind.i64 ino] 27 (0, 0))) = wr := ⟨_, rfl⟩
  have hb0 : Below P w wr := by rw [← hwr, ← hP]; exact (((Below.refl _ w).alloc (Nat.le_refl _) _).alloc (by simp) _).alloc (by simp; omega) _
  have hz : P + 3 = wr.heap.size := by rw [← hwr, ← hP]; simp
  have h3 := heap_alloc3 w (Obj.cells #[Value.int IntKind.i64 0, Value.string { data := #[] }, Value.int IntKind.i64 0] 27 (0, 0)) (Obj.cells #[Value.int IntKind.i64 ↑k, Value.string nm, Value.int IntKind.i64 ino] 27 (0, 0)) (Obj.cells #[Value.int IntKind.i64 ↑k, Value.string { data := #[] }, Value.int IntKind.i64 ino] 27 (0, 0))
  rw [hwr, hP] at h3
  have d0 : wr.cell? ⟨P + 1, 0, none⟩ = some (.int .i64 k) := cell_of_row _ _ 0 _ _ _ h3.2.1
  have d1 : wr.cell? ⟨P + 1, 1, none⟩ = some (.string nm) := cell_of_row _ _ 1 _ _ _ h3.2.1
  have d2 : wr.cell? ⟨P + 1, 2, none⟩ = some (.int .i64 ino) := cell_of_row _ _ 2 _ _ _ h3.2.1
  have H0 : Hid (wr.heap[P]? = some (.cells #[Value.int IntKind.i64 0, Value.string { data := #[] }, Value.int IntKind.i64 0] 27 (0, 0))) := h3.1
  have e0 : wr.cell? ⟨P, 0, none⟩ = some (.int .i64 0) := cell_of_row _ _ 0 _ _ _ h3.1
  have e1 : wr.cell? ⟨P, 1, none⟩ = some (.string ⟨#[]⟩) := cell_of_row _ _ 1 _ _ _ h3.1
  have e2 : wr.cell? ⟨P, 2, none⟩ = some (.int .i64 0) := cell_of_row _ _ 2 _ _ _ h3.1
  have f0 : wr.frozen? ⟨P, 0, none⟩ = false := frozen_of_row _ _ _ _ _ h3.1
  have f1 : wr.frozen? ⟨P, 1, none⟩ = false := frozen_of_row _ _ _ _ _ h3.1
  have f2 : wr.frozen? ⟨P, 2, none⟩ = false := frozen_of_row _ _ _ _ _ h3.1
  clear h3
  rw [hwr, hP]
  clear hwr
  have HB : Hid (Below P w wr) := hb0
  rw [hP] at HF2
  clear hb0 HF HFr HT hcv hc
  have HMr : Hid (Calls Tryd.prog 24 #[eV k nm ino] wr.drew fun e w' => e = .returned (.bool M) ∧ Below P w w' ∧ w'.heap[P]? = some (.cells #[Value.int IntKind.i64 0, Value.string { data := #[] }, Value.int IntKind.i64 0] 27 (0, 0)) ∧ w'.cell? ⟨P + 1, 0, none⟩ = some (.int .i64 k) ∧ w'.cell? ⟨P + 1, 1, none⟩ = some (.string nm) ∧ w'.cell? ⟨P + 1, 2, none⟩ = some (.int .i64 ino) ∧ w'.cell? ⟨P, 0, none⟩ = some (.int .i64 0) ∧ w'.cell? ⟨P, 1, none⟩ = some (.string ⟨#[]⟩) ∧ w'.cell? ⟨P, 2, none⟩ = some (.int .i64 0) ∧ w'.frozen? ⟨P, 0, none⟩ = false ∧ w'.frozen? ⟨P, 1, none⟩ = false ∧ w'.frozen? ⟨P, 2, none⟩ = false) :=
    (HM.out wr.drew).mono (fun e w' h => by
      have hh : w'.heap[P]? = some (.cells #[Value.int IntKind.i64 0, Value.string { data := #[] }, Value.int IntKind.i64 0] 27 (0, 0)) := (h.2.1.block P (by show P < wr.heap.size; omega)).trans H0.out
      exact ⟨h.1, HB.out.drew.trans (h.2.1.mono (by show P ≤ wr.heap.size; omega)), hh, h.2.2.1 _ _ d0, h.2.2.1 _ _ d1, h.2.2.1 _ _ d2, h.2.2.1 _ _ e0, h.2.2.1 _ _ e1, h.2.2.1 _ _ e2, frozen_of_row _ _ _ _ _ hh, frozen_of_row _ _ _ _ _ hh, frozen_of_row _ _ _ _ _ hh⟩)
  clear HM
  by_cases hq2 : (t : Int) = q
  · go_region_with (first
      | (go_at_call 48; refine (HF2.out _ ?_).mono ?_; (· exact HB.out.drew); rintro e w' ⟨rfl, rfl⟩)
      | (go_at_call 24; refine HMr.out.mono ?_; rintro e w' ⟨rfl, hb, h1, g0, g1, g2, a0, a1, a2, b0, b1, b2⟩; have HB2 : Hid _ := hb; have H1 : Hid _ := h1; clear hb h1))
    all_goals
      go_wp2
      refine bodyPost_ret (res_cell_tmp rfl _ _ P #[.int .i64 k, .string nm, .int .i64 ino] rfl (ldR (put3 H1.out _ _ _))) rfl ?_
      exact ⟨by rw [HR.out, decide_eq_true hq2]; rfl, by rw [hP]; exact below_put3 HB2.out (Nat.le_refl _)⟩
  · go_region_with (first
      | (go_at_call 48; refine (HF2.out _ ?_).mono ?_; (· exact HB.out.drew); rintro e w' ⟨rfl, rfl⟩))
    all_goals
      go_wp2
      refine bodyPost_ret (res_cell_tmp rfl _ _ P #[.int .i64 k, .string nm, .int .i64 ino] rfl (ldR (put3 (w := wr.drew) H0.out _ _ _))) rfl ?_
      exact ⟨by rw [HR.out, decide_eq_false hq2]; rfl, by rw [hP]; exact below_put3 HB.out.drew (Nat.le_refl _)⟩
end Go.Proofs.YtaaeahpmnfifiaaDoor
