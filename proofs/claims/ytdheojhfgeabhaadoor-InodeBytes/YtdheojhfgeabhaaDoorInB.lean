import Derived.Test.YtdheojhfgeabhaaDoorKGeO
import Derived.Test.YtdheojhfgeabhaaDoorKOp11
import Derived.Test.YtdheojhfgeabhaaDoorASettle
import Derived.Deep.RegionHeld3
namespace Go.Proofs.YtdheojhfgeabhaaDoor
open Go.RowKit Rec

/-- the twelve numbers -/
def nmC (x : Nat → Int) : Array Value := #[.int .i64 (x 3), .int .i64 (x 4), .int .i64 (x 5), .int .i64 (x 6), .int .i64 (x 7), .int .i64 (x 8), .int .i64 (x 9), .int .i64 (x 10), .int .i64 (x 11), .int .i64 (x 12), .int .i64 (x 13), .int .i64 (x 14)]
def nmV (x : Nat → Int) : Value := .agg (nmC x)
theorem nm_i0 (w : World) (x : Nat → Int) : (Instr.index 55 (nmV x) (.int .i64 ((0 : Nat) : Int))).run Tryd.prog w = .ok (.int .i64 (x (3 + 0))) w := by kernel_rfl
theorem nm_i1 (w : World) (x : Nat → Int) : (Instr.index 55 (nmV x) (.int .i64 ((1 : Nat) : Int))).run Tryd.prog w = .ok (.int .i64 (x (3 + 1))) w := by kernel_rfl
theorem nm_i2 (w : World) (x : Nat → Int) : (Instr.index 55 (nmV x) (.int .i64 ((2 : Nat) : Int))).run Tryd.prog w = .ok (.int .i64 (x (3 + 2))) w := by kernel_rfl
theorem nm_i3 (w : World) (x : Nat → Int) : (Instr.index 55 (nmV x) (.int .i64 ((3 : Nat) : Int))).run Tryd.prog w = .ok (.int .i64 (x (3 + 3))) w := by kernel_rfl
theorem nm_i4 (w : World) (x : Nat → Int) : (Instr.index 55 (nmV x) (.int .i64 ((4 : Nat) : Int))).run Tryd.prog w = .ok (.int .i64 (x (3 + 4))) w := by kernel_rfl
theorem nm_i5 (w : World) (x : Nat → Int) : (Instr.index 55 (nmV x) (.int .i64 ((5 : Nat) : Int))).run Tryd.prog w = .ok (.int .i64 (x (3 + 5))) w := by kernel_rfl
theorem nm_i6 (w : World) (x : Nat → Int) : (Instr.index 55 (nmV x) (.int .i64 ((6 : Nat) : Int))).run Tryd.prog w = .ok (.int .i64 (x (3 + 6))) w := by kernel_rfl
theorem nm_i7 (w : World) (x : Nat → Int) : (Instr.index 55 (nmV x) (.int .i64 ((7 : Nat) : Int))).run Tryd.prog w = .ok (.int .i64 (x (3 + 7))) w := by kernel_rfl
theorem nm_i8 (w : World) (x : Nat → Int) : (Instr.index 55 (nmV x) (.int .i64 ((8 : Nat) : Int))).run Tryd.prog w = .ok (.int .i64 (x (3 + 8))) w := by kernel_rfl
theorem nm_i9 (w : World) (x : Nat → Int) : (Instr.index 55 (nmV x) (.int .i64 ((9 : Nat) : Int))).run Tryd.prog w = .ok (.int .i64 (x (3 + 9))) w := by kernel_rfl
theorem nm_i10 (w : World) (x : Nat → Int) : (Instr.index 55 (nmV x) (.int .i64 ((10 : Nat) : Int))).run Tryd.prog w = .ok (.int .i64 (x (3 + 10))) w := by kernel_rfl
theorem nm_i11 (w : World) (x : Nat → Int) : (Instr.index 55 (nmV x) (.int .i64 ((11 : Nat) : Int))).run Tryd.prog w = .ok (.int .i64 (x (3 + 11))) w := by kernel_rfl
theorem nm_index (w : World) (x : Nat → Int) (k : Nat) (hk : k < 12) : (Instr.index 55 (nmV x) (.int .i64 (k : Int))).run Tryd.prog w = .ok (.int .i64 (x (3 + k))) w := by
  have hk : k = 0 ∨ k = 1 ∨ k = 2 ∨ k = 3 ∨ k = 4 ∨ k = 5 ∨ k = 6 ∨ k = 7 ∨ k = 8 ∨ k = 9 ∨ k = 10 ∨ k = 11 := by omega
  rcases hk with rfl | rfl | rfl | rfl | rfl | rfl | rfl | rfl | rfl | rfl | rfl | rfl
  · exact nm_i0 w x
  · exact nm_i1 w x
  · exact nm_i2 w x
  · exact nm_i3 w x
  · exact nm_i4 w x
  · exact nm_i5 w x
  · exact nm_i6 w x
  · exact nm_i7 w x
  · exact nm_i8 w x
  · exact nm_i9 w x
  · exact nm_i10 w x
  · exact nm_i11 w x
theorem sizeI : (Tryd.prog.info? 3).map (·.size) = some 1 := by kernel_rfl
/-- copy of numbers -/
theorem copyI_run {w : World} {g off dLen dCap : Nat} {cur : Array Value} {t : TypeId} (ty : TypeId) (ad : Addr) (sLen sCap n : Nat) (cs : List Value) (hg : w.heap[g]? = some (.cells cur t (0, 0))) (hl : cs.length = n) (hn : n = Nat.min sLen dLen)
    (hsrc : ∀ j v, cs[j]? = some v → w.cell? (ad.add j) = some v) (hfit : off + n ≤ cur.size) (h1 : ∀ v ∈ cs, v.oneCell' = true) :
    ∃ w', (Builtin.copy_ #[75, 75] ty #[.slice (some ⟨g, off, none⟩) dLen dCap, .slice (some ad) sLen sCap]).run Tryd.prog w = .ok (.int .i64 (n : Int)) w' ∧ w'.heap[g]? = some (.cells (cur.toList.take off ++ cs ++ cur.toList.drop (off + n)).toArray t (0, 0)) ∧ Fr (fun k => k = g) w w' := by
  subst hl
  have hrun := run_copy_row (P := Tryd.prog) w 75 75 ty 3 g off dLen dCap ad sLen sCap cur t cs Tryd.underlying75 sizeI hg hn hsrc hfit h1
  exact ⟨_, hrun, setRow_heap w g _ _ _ _ hg, ⟨rfl, rfl, rfl, by simp [World.setRow], fun k _ hk => setRow_other w g k _ hk⟩⟩
theorem dir_cells (w : World) (p : Nat) (x : Nat → Int) (h : w.heap[p]? = some (.cells (inC x) 24 (0, 0))) : ∀ j v, (inD x)[j]? = some v → w.cell? ((⟨p, 3, none⟩ : Addr).add j) = some v := fun j v hj => by
  match j, hj with
  | 0, hj | 1, hj | 2, hj | 3, hj | 4, hj | 5, hj | 6, hj | 7, hj | 8, hj | 9, hj => cases hj; rw [Addr.add_lit, cell_of_row _ _ _ _ _ _ h]; rfl
theorem inD_one (x : Nat → Int) : ∀ v ∈ inD x, v.oneCell' = true := fun v hv => by
  simp only [inD, List.mem_cons, List.mem_nil_iff, or_false] at hv
  rcases hv with rfl | rfl | rfl | rfl | rfl | rfl | rfl | rfl | rfl | rfl <;> rfl
theorem below_put {B : Nat} {w wx : World} {g k : Nat} {v : Value} (h : Below B w wx) (hw : B ≤ w.heap.size) (hg : B ≤ g) : Below B w (wx.setCell ⟨g, k, none⟩ v) := h.trans (below_of grown_set hg (Nat.le_trans hw h.size))
set_option maxRecDepth 100000 in
set_option maxHeartbeats 1600000 in
theorem numbers_any (w : World) (x : Nat → Int) : Calls Tryd.prog 22 #[inV x] w fun e w' => e = .returned (nmV x) ∧ Below w.heap.size w w' := by
  unfold inV
  obtain ⟨wz, hwz⟩ : ∃ wz, ((w.alloc (.cells #[.int .i64 (x 0), .int .i64 (x 1), .int .i64 (x 2), .int .i64 (x 3), .int .i64 (x 4), .int .i64 (x 5), .int .i64 (x 6), .int .i64 (x 7), .int .i64 (x 8), .int .i64 (x 9), .int .i64 (x 10), .int .i64 (x 11), .int .i64 (x 12), .int .i64 (x 13), .int .i64 (x 14)] 24)).alloc (.cells #[.int .i64 0, .int .i64 0, .int .i64 0, .int .i64 0, .int .i64 0, .int .i64 0, .int .i64 0, .int .i64 0, .int .i64 0, .int .i64 0, .int .i64 0, .int .i64 0] 55)).alloc (.cells #[.int .i64 0, .int .i64 0, .int .i64 0, .int .i64 0, .int .i64 0, .int .i64 0, .int .i64 0, .int .i64 0, .int .i64 0, .int .i64 0, .int .i64 0, .int .i64 0] 55) = wz := ⟨_, rfl⟩
  obtain ⟨P, hP⟩ : ∃ P, w.heap.size = P := ⟨_, rfl⟩
  have HZ : Hid (Below w.heap.size w wz ∧ wz.heap.size = P + 1 + 1 + 1 ∧ wz.heap[P]? = some (.cells (inC x) 24 (0, 0)) ∧ wz.heap[P + 1]? = some (.cells #[.int .i64 0, .int .i64 0, .int .i64 0, .int .i64 0, .int .i64 0, .int .i64 0, .int .i64 0, .int .i64 0, .int .i64 0, .int .i64 0, .int .i64 0, .int .i64 0] 55 (0, 0)) ∧ wz.heap[P + 1 + 1]? = some (.cells #[.int .i64 0, .int .i64 0, .int .i64 0, .int .i64 0, .int .i64 0, .int .i64 0, .int .i64 0, .int .i64 0, .int .i64 0, .int .i64 0, .int .i64 0, .int .i64 0] 55 (0, 0))) := by
    rw [← hwz, ← hP]
    refine ⟨(((Below.refl _ _).alloc (Nat.le_refl _) _).alloc (by simp) _).alloc (by simp; omega) _, by simp, ?_, ?_, ?_⟩
    · exact (Below.heap_alloc _ _ _ (by simp; omega)).trans ((Below.heap_alloc _ _ _ (by simp)).trans (heap_alloc_new _ _))
    · refine (Below.heap_alloc _ _ _ (by simp)).trans ?_
      have := heap_alloc_new (w.alloc (.cells #[.int .i64 (x 0), .int .i64 (x 1), .int .i64 (x 2), .int .i64 (x 3), .int .i64 (x 4), .int .i64 (x 5), .int .i64 (x 6), .int .i64 (x 7), .int .i64 (x 8), .int .i64 (x 9), .int .i64 (x 10), .int .i64 (x 11), .int .i64 (x 12), .int .i64 (x 13), .int .i64 (x 14)] 24)) (.cells #[.int .i64 0, .int .i64 0, .int .i64 0, .int .i64 0, .int .i64 0, .int .i64 0, .int .i64 0, .int .i64 0, .int .i64 0, .int .i64 0, .int .i64 0, .int .i64 0] 55)
      rw [World.size_alloc] at this
      exact this
    · have := heap_alloc_new ((w.alloc (.cells #[.int .i64 (x 0), .int .i64 (x 1), .int .i64 (x 2), .int .i64 (x 3), .int .i64 (x 4), .int .i64 (x 5), .int .i64 (x 6), .int .i64 (x 7), .int .i64 (x 8), .int .i64 (x 9), .int .i64 (x 10), .int .i64 (x 11), .int .i64 (x 12), .int .i64 (x 13), .int .i64 (x 14)] 24)).alloc (.cells #[.int .i64 0, .int .i64 0, .int .i64 0, .int .i64 0, .int .i64 0, .int .i64 0, .int .i64 0, .int .i64 0, .int .i64 0, .int .i64 0, .int .i64 0, .int .i64 0] 55)) (.cells #[.int .i64 0, .int .i64 0, .int .i64 0, .int .i64 0, .int .i64 0, .int .i64 0, .int .i64 0, .int .i64 0, .int .i64 0, .int .i64 0, .int .i64 0, .int .i64 0] 55)
      rw [World.size_alloc, World.size_alloc] at this
      exact this
  have HD : Hid (Below wz.heap.size wz wz.drew) := (Below.refl _ _).drew
  obtain ⟨w3, E3, h3, hf3⟩ := copyI_run (w := wz.drew) (g := P + 1 + 1) (off := 0) (dLen := 12) (dCap := 12) 3 ⟨P, 3, none⟩ 10 10 10 (inD x) ((HD.out.block _ (heap_lt HZ.out.2.2.2.2)).trans HZ.out.2.2.2.2) rfl rfl (dir_cells _ _ _ ((HD.out.block _ (heap_lt HZ.out.2.2.1)).trans HZ.out.2.2.1)) (by decide) (inD_one x)
  have HF : Hid (Fr (fun k => k = P + 1 + 1) wz.drew w3) := hf3
  have H3 : Hid (w3.heap[P + 1 + 1]? = some (.cells #[.int .i64 (x 3), .int .i64 (x 4), .int .i64 (x 5), .int .i64 (x 6), .int .i64 (x 7), .int .i64 (x 8), .int .i64 (x 9), .int .i64 (x 10), .int .i64 (x 11), .int .i64 (x 12), .int .i64 0, .int .i64 0] 55 (0, 0))) := h3
  clear h3 hf3
  have H0 : Hid (w3.heap[P]? = some (.cells (inC x) 24 (0, 0))) := HF.out.heap ((HD.out.block _ (heap_lt HZ.out.2.2.1)).trans HZ.out.2.2.1) (show ¬ P = P + 1 + 1 by omega)
  have H1 : Hid (w3.heap[P + 1]? = some (.cells #[.int .i64 0, .int .i64 0, .int .i64 0, .int .i64 0, .int .i64 0, .int .i64 0, .int .i64 0, .int .i64 0, .int .i64 0, .int .i64 0, .int .i64 0, .int .i64 0] 55 (0, 0))) := HF.out.heap ((HD.out.block _ (heap_lt HZ.out.2.2.2.1)).trans HZ.out.2.2.2.1) (show ¬ P + 1 = P + 1 + 1 by omega)
  have a13 : w3.cell? ⟨P, 13, none⟩ = some (.int .i64 (x 13)) := by rw [cell_of_row _ _ _ _ _ _ H0.out]; rfl
  have a14 : w3.cell? ⟨P, 14, none⟩ = some (.int .i64 (x 14)) := by rw [cell_of_row _ _ _ _ _ _ H0.out]; rfl
  have HC : Hid (∀ j, w3.cell? ⟨P + 1 + 1, j, none⟩ = #[.int .i64 (x 3), .int .i64 (x 4), .int .i64 (x 5), .int .i64 (x 6), .int .i64 (x 7), .int .i64 (x 8), .int .i64 (x 9), .int .i64 (x 10), .int .i64 (x 11), .int .i64 (x 12), .int .i64 0, .int .i64 0][j]?) := fun j => cell_of_row _ _ _ _ _ _ H3.out
  have HFz : Hid (∀ j, w3.frozen? ⟨P + 1 + 1, j, none⟩ = false) := fun j => frozen_of_row _ _ _ _ _ H3.out
  have c0 : w3.cell? ⟨P + 1 + 1, 0, none⟩ = some (.int .i64 (x 3)) := HC.out 0
  have c1 : w3.cell? ⟨P + 1 + 1, 1, none⟩ = some (.int .i64 (x 4)) := HC.out 1
  have c2 : w3.cell? ⟨P + 1 + 1, 2, none⟩ = some (.int .i64 (x 5)) := HC.out 2
  have c3 : w3.cell? ⟨P + 1 + 1, 3, none⟩ = some (.int .i64 (x 6)) := HC.out 3
  have c4 : w3.cell? ⟨P + 1 + 1, 4, none⟩ = some (.int .i64 (x 7)) := HC.out 4
  have c5 : w3.cell? ⟨P + 1 + 1, 5, none⟩ = some (.int .i64 (x 8)) := HC.out 5
  have c6 : w3.cell? ⟨P + 1 + 1, 6, none⟩ = some (.int .i64 (x 9)) := HC.out 6
  have c7 : w3.cell? ⟨P + 1 + 1, 7, none⟩ = some (.int .i64 (x 10)) := HC.out 7
  have c8 : w3.cell? ⟨P + 1 + 1, 8, none⟩ = some (.int .i64 (x 11)) := HC.out 8
  have c9 : w3.cell? ⟨P + 1 + 1, 9, none⟩ = some (.int .i64 (x 12)) := HC.out 9
  have c10 : w3.cell? ⟨P + 1 + 1, 10, none⟩ = some (.int .i64 (0)) := HC.out 10
  have c11 : w3.cell? ⟨P + 1 + 1, 11, none⟩ = some (.int .i64 (0)) := HC.out 11
  have f10 := HFz.out 10
  have f11 := HFz.out 11
  have HC1 : Hid (∀ j, w3.cell? ⟨P + 1, j, none⟩ = #[.int .i64 0, .int .i64 0, .int .i64 0, .int .i64 0, .int .i64 0, .int .i64 0, .int .i64 0, .int .i64 0, .int .i64 0, .int .i64 0, .int .i64 0, .int .i64 0][j]?) := fun j => cell_of_row _ _ _ _ _ _ H1.out
  have d0 : w3.cell? ⟨P + 1, 0, none⟩ = some (.int .i64 0) := HC1.out 0
  have d1 : w3.cell? ⟨P + 1, 1, none⟩ = some (.int .i64 0) := HC1.out 1
  have d2 : w3.cell? ⟨P + 1, 2, none⟩ = some (.int .i64 0) := HC1.out 2
  have d3 : w3.cell? ⟨P + 1, 3, none⟩ = some (.int .i64 0) := HC1.out 3
  have d4 : w3.cell? ⟨P + 1, 4, none⟩ = some (.int .i64 0) := HC1.out 4
  have d5 : w3.cell? ⟨P + 1, 5, none⟩ = some (.int .i64 0) := HC1.out 5
  have d6 : w3.cell? ⟨P + 1, 6, none⟩ = some (.int .i64 0) := HC1.out 6
  have d7 : w3.cell? ⟨P + 1, 7, none⟩ = some (.int .i64 0) := HC1.out 7
  have d8 : w3.cell? ⟨P + 1, 8, none⟩ = some (.int .i64 0) := HC1.out 8
  have d9 : w3.cell? ⟨P + 1, 9, none⟩ = some (.int .i64 0) := HC1.out 9
  have d10 : w3.cell? ⟨P + 1, 10, none⟩ = some (.int .i64 0) := HC1.out 10
  have d11 : w3.cell? ⟨P + 1, 11, none⟩ = some (.int .i64 0) := HC1.out 11
  have HFy : Hid (∀ j, w3.frozen? ⟨P + 1, j, none⟩ = false) := fun j => frozen_of_row _ _ _ _ _ H1.out
  have e0 := HFy.out 0
  have e1 := HFy.out 1
  have e2 := HFy.out 2
  have e3 := HFy.out 3
  have e4 := HFy.out 4
  have e5 := HFy.out 5
  have e6 := HFy.out 6
  have e7 := HFy.out 7
  have e8 := HFy.out 8
  have e9 := HFy.out 9
  have e10 := HFy.out 10
  have e11 := HFy.out 11
  go_enter Tryd.func22, Tryd.ntmps22
  go_upto_region 2 with (fail)
  clear hwz
  go_region
  go_wp2
  refine bodyPost_ret (v := nmV x) (res_row9 (fn := Tryd.f22) (p := 2) (ty := 55) rfl _ _ (P + 1) (nmC x) rfl ?_) rfl ?_
  · refine load12 _ (P + 1) (x 3) (x 4) (x 5) (x 6) (x 7) (x 8) (x 9) (x 10) (x 11) (x 12) (x 13) (x 14) ?_
    refine set12 _ (P + 1) (.int .i64 0) (.int .i64 0) (.int .i64 0) (.int .i64 0) (.int .i64 0) (.int .i64 0) (.int .i64 0) (.int .i64 0) (.int .i64 0) (.int .i64 0) (.int .i64 0) (.int .i64 0) (.int .i64 (x 3)) (.int .i64 (x 4)) (.int .i64 (x 5)) (.int .i64 (x 6)) (.int .i64 (x 7)) (.int .i64 (x 8)) (.int .i64 (x 9)) (.int .i64 (x 10)) (.int .i64 (x 11)) (.int .i64 (x 12)) (.int .i64 (x 13)) (.int .i64 (x 14)) ?_
    exact (Fr.set (g := P + 1 + 1)).heap ((Fr.set (g := P + 1 + 1)).heap H1.out (show ¬ P + 1 = P + 1 + 1 by omega)) (show ¬ P + 1 = P + 1 + 1 by omega)
  · refine ⟨rfl, ?_⟩
    have hb : Below w.heap.size w w3 := HZ.out.1.trans ((HD.out.mono HZ.out.1.size).trans (HF.out.below _ (fun k hk => by have hk : k = P + 1 + 1 := hk; omega) (by have := HD.out.size; have := HZ.out.1.size; omega)))
    iterate 14 refine below_put ?_ (Nat.le_refl _) (by omega)
    exact hb
end Go.Proofs.YtdheojhfgeabhaaDoor
