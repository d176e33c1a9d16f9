import Derived.Test.YtcbebalakdkgnaaGreatDoorKXsL
namespace Go.Proofs.YtcbebalakdkgnaaGreatDoor
open Go.RowKit Rec

theorem infoU8 : (Tryz.prog.info? 5).map (fun i => (i.zero, i.size, i.bytes)) = some (some (.int .u8 0), 1, 1) := by kernel_rfl
def mks (k : Nat) (m : Int) (xs : List Int) : List Int := List.replicate k m ++ xs.drop k
theorem mks_set {k : Nat} {m : Int} {xs : List Int} (h : k < xs.length) : (mks k m xs).set k m = mks (k + 1) m xs := by
  unfold mks
  rw [List.set_append_right _ _ (by simp), List.length_replicate, Nat.sub_self, List.drop_eq_getElem_cons h, List.set_cons_zero, List.replicate_succ', List.append_assoc]; rfl
theorem five_set {w : World} {P : Nat} {t : TypeId} {a b c d e a' b' c' d' e' : Value} (h : w.heap[P]? = some (.cells #[a, b, c, d, e] t (0, 0))) :
    (((((w.setCell ⟨P, 0, none⟩ a').setCell ⟨P, 1, none⟩ b').setCell ⟨P, 2, none⟩ c').setCell ⟨P, 3, none⟩ d').setCell ⟨P, 4, none⟩ e').heap[P]? = some (.cells #[a', b', c', d', e'] t (0, 0)) ∧ Fr (fun k => k = P) w (((((w.setCell ⟨P, 0, none⟩ a').setCell ⟨P, 1, none⟩ b').setCell ⟨P, 2, none⟩ c').setCell ⟨P, 3, none⟩ d').setCell ⟨P, 4, none⟩ e') := by
  have h1 : (w.setCell ⟨P, 0, none⟩ a').heap[P]? = some (.cells #[a', b, c, d, e] t (0, 0)) := heap_setCell_same _ _ 0 _ _ _ h
  have h2 : ((w.setCell ⟨P, 0, none⟩ a').setCell ⟨P, 1, none⟩ b').heap[P]? = some (.cells #[a', b', c, d, e] t (0, 0)) := heap_setCell_same _ _ 1 _ _ _ h1
  have h3 : (((w.setCell ⟨P, 0, none⟩ a').setCell ⟨P, 1, none⟩ b').setCell ⟨P, 2, none⟩ c').heap[P]? = some (.cells #[a', b', c', d, e] t (0, 0)) := heap_setCell_same _ _ 2 _ _ _ h2
  have h4 : ((((w.setCell ⟨P, 0, none⟩ a').setCell ⟨P, 1, none⟩ b').setCell ⟨P, 2, none⟩ c').setCell ⟨P, 3, none⟩ d').heap[P]? = some (.cells #[a', b', c', d', e] t (0, 0)) := heap_setCell_same _ _ 3 _ _ _ h3
  refine ⟨heap_setCell_same _ _ 4 _ _ _ h4, ((((Fr.set (g := P)).trans Fr.set (fun _ e => .inl e)).trans Fr.set (fun _ e => .inl e)).trans Fr.set (fun _ e => .inl e)).trans Fr.set (fun _ e => .inl e)⟩
/-- behind the append in grown -/
structure GrM (wB w7 w8 : World) (P k g cap : Nat) (a : Option Addr) (c : Nat) (m : Int) (s : ByteArray) (kp : Bool) : Prop where
  row : w7.ownsRow 0 5 1 (.slice (some ⟨g, 0, none⟩) (k + 3) cap) (k + 3) ((List.replicate (k + 3) m).map (Value.int .u8))
  blk : (Value.slice a k c).ownBlock = some g ∨ wB.heap.size ≤ g
  fr : Fr (fun b => (Value.slice a k c).ownBlock = some b) wB w7
  z7 : w7.heap[P]? = some (.cells #[.slice a k c, .int .i64 (k : Int), .int .u8 m, .string s, .bool kp] 86 (0, 0))
  z8 : w8.heap[P]? = some (.cells #[.slice (some ⟨g, 0, none⟩) (k + 3) cap, .int .i64 (k : Int), .int .u8 m, .string s, .bool kp] 86 (0, 0))
  y8 : w8.heap[P + 1]? = some (.cells #[.slice none 0 0, .int .i64 0, .int .u8 0, .string ⟨#[]⟩, .bool false] 86 (0, 0))
  f8 : Fr (fun b => b = P) w7 w8
theorem grm {wB wr wa w7 : World} {P k g cap : Nat} {a : Option Addr} {c : Nat} {m : Int} {s : ByteArray} {kp : Bool} (hf : Fr (fun b => (Value.slice a k c).ownBlock = some b) wB wr) (ha : Below wr.heap.size wr wa)
    (hz : wr.heap[P]? = some (.cells #[.slice a k c, .int .i64 (k : Int), .int .u8 m, .string s, .bool kp] 86 (0, 0))) (hy : wr.heap[P + 1]? = some (.cells #[.slice none 0 0, .int .i64 0, .int .u8 0, .string ⟨#[]⟩, .bool false] 86 (0, 0)))
    (hP : ∀ b, (Value.slice a k c).ownBlock = some b → b < P)
    (h1 : w7.ownsRow 0 5 1 (.slice (some ⟨g, 0, none⟩) (k + 3) cap) (k + 3) ((List.replicate k m).map (Value.int .u8) ++ [.int .u8 m, .int .u8 m, .int .u8 m])) (h2 : Fr (fun b => (Value.slice a k c).ownBlock = some b) wa w7) (h3 : (Value.slice a k c).ownBlock = some g ∨ wa.heap.size ≤ g) :
    GrM wB w7 (w7.setCell ⟨P, 0, none⟩ (.slice (some ⟨g, 0, none⟩) (k + 3) cap)) P k g cap a c m s kp := by
  have er : (List.replicate (k + 3) m).map (Value.int .u8) = (List.replicate k m).map (Value.int .u8) ++ [.int .u8 m, .int .u8 m, .int .u8 m] := by
    have e0 : List.replicate (k + 3) m = List.replicate k m ++ List.replicate 3 m := by rw [List.replicate_append_replicate]
    rw [e0, List.map_append]; rfl
  have z7 := h2.heap ((below_fr ha (fun _ => False)).heap hz (fun e => e)) (fun e => absurd (hP _ e) (by omega))
  have y7 := h2.heap ((below_fr ha (fun _ => False)).heap hy (fun e => e)) (fun e => absurd (hP _ e) (by omega))
  exact ⟨by rw [er]; exact h1, h3.imp id (fun e => Nat.le_trans (Nat.le_trans hf.size ha.size) e), (hf.trans (below_fr ha (fun _ => False)) (fun _ e => e.elim)).trans h2 (fun b e => .inl e), z7, heap_setCell_same _ _ 0 _ _ _ z7, (Fr.set (g := P)).heap y7 (show ¬ P + 1 = P by omega), Fr.set⟩
set_option maxRecDepth 100000 in
set_option maxHeartbeats 4000000 in
theorem grown_any (w : World) (v : Value) (n : Nat) (xs : List Int) (m : Int) (s : ByteArray) (kp : Bool) (hv : w.ownsRow 0 5 1 v n (xs.map (Value.int .u8))) (hn : n ≤ 1000000000000) :
    Calls Tryz.prog 41 #[.agg #[v, .int .i64 (n : Int), .int .u8 m, .string s, .bool kp]] w fun e w' => ∃ g cap, e = .returned (.agg #[.slice (some ⟨g, 0, none⟩) (n + 3) cap, .int .i64 (n : Int), .int .u8 m, .string s, .bool kp]) ∧ w'.ownsRow 0 5 1 (.slice (some ⟨g, 0, none⟩) (n + 3) cap) (n + 3) ((List.replicate (n + 3) m).map (Value.int .u8)) ∧ (v.ownBlock = some g ∨ w.heap.size ≤ g) ∧ Fr (fun k => v.ownBlock = some k) w w' := by
  have hxl : xs.length = n := by have := hv.1; rw [List.length_map] at this; omega
  obtain ⟨a, c, rfl, hnc, hga, _⟩ := owns_slice hv
  obtain ⟨P, hP⟩ : ∃ P, w.heap.size = P := ⟨_, rfl⟩
  have HV : Hid (w.ownsRow 0 5 1 (.slice a n c) n (xs.map (Value.int .u8)) ∧ xs.length = n) := ⟨hv, hxl⟩
  clear hv hxl
  go_enter Tryz.func41, Tryz.ntmps41
  go_upto_region 1 with fail
  obtain ⟨wB, hwB⟩ : ∃ wB, (w.alloc (.cells #[.slice a n c, .int .i64 (n : Int), .int .u8 m, .string s, .bool kp] 86)).alloc (.cells #[.slice none 0 0, .int .i64 0, .int .u8 0, .string ⟨#[]⟩, .bool false] 86) = wB := ⟨_, rfl⟩
  have HB : Hid (Below w.heap.size w wB ∧ wB.heap[P]? = some (.cells #[.slice a n c, .int .i64 (n : Int), .int .u8 m, .string s, .bool kp] 86 (0, 0)) ∧ wB.heap[P + 1]? = some (.cells #[.slice none 0 0, .int .i64 0, .int .u8 0, .string ⟨#[]⟩, .bool false] 86 (0, 0))) := by
    rw [← hwB, ← hP]
    have b1 : Below w.heap.size w (w.alloc (.cells #[.slice a n c, .int .i64 (n : Int), .int .u8 m, .string s, .bool kp] 86)) := (Below.refl _ _).alloc (Nat.le_refl _) _
    refine ⟨b1.alloc b1.size _, (fr_alloc (fun _ => False) _ _).heap (heap_alloc_new _ _) (fun e => e), ?_⟩
    have e := heap_alloc_new (w.alloc (.cells #[.slice a n c, .int .i64 (n : Int), .int .u8 m, .string s, .bool kp] 86)) (.cells #[.slice none 0 0, .int .i64 0, .int .u8 0, .string ⟨#[]⟩, .bool false] 86)
    rw [alloc_size] at e
    exact e
  rw [hwB]
  clear hwB
  have hgP : ∀ b, (Value.slice a n c).ownBlock = some b → b < P := fun b e => by rw [← hP]; exact owns_block HV.out.1 e
  have HG : Hid (∀ b, (Value.slice a n c).ownBlock = some b → b < P) := hgP
  clear hgP
  go_wp2
  go_loopw [3, 4, 5, 6, 7, 8, 9, 10, 11, 12, 13, 14, 15] (fun i _ _ _ _ _ _ _ _ _ _ _ _ wr => ∃ k : Nat, k ≤ n ∧ i = .int .i64 k ∧ Fr (fun b => (Value.slice a n c).ownBlock = some b) wB wr ∧ wr.ownsRow 0 5 1 (.slice a n c) n ((mks k m xs).map (Value.int .u8))) (fun i _ _ _ _ _ _ _ _ _ _ _ _ _ => n - (intOf i).toNat)
  case atStart =>
    exact ⟨0, Nat.zero_le _, rfl, Fr.refl _ _, owns_fr HV.out.1 (below_fr HB.out.1 (fun _ => False)) (fun _ _ e => e)⟩
  case round =>
    obtain ⟨k, hk, rfl, hf, hr⟩ := hrel
    have HR : Hid (Fr (fun b => (Value.slice a n c).ownBlock = some b) wB wr ∧ wr.ownsRow 0 5 1 (.slice a n c) n ((mks k m xs).map (Value.int .u8))) := ⟨hf, hr⟩
    have hz : wr.heap[P]? = some (.cells #[.slice a n c, .int .i64 (n : Int), .int .u8 m, .string s, .bool kp] 86 (0, 0)) := hf.heap HB.out.2.1 (fun e => absurd (HG.out _ e) (by omega))
    have c0 : wr.cell? ⟨P, 0, none⟩ = some (.slice a n c) := cell_of_row _ _ 0 _ _ _ hz
    have c1 : wr.cell? ⟨P, 1, none⟩ = some (.int .i64 (n : Int)) := cell_of_row _ _ 1 _ _ _ hz
    have c2 : wr.cell? ⟨P, 2, none⟩ = some (.int .u8 m) := cell_of_row _ _ 2 _ _ _ hz
    have c3 : wr.cell? ⟨P, 3, none⟩ = some (.string s) := cell_of_row _ _ 3 _ _ _ hz
    have c4 : wr.cell? ⟨P, 4, none⟩ = some (.bool kp) := cell_of_row _ _ 4 _ _ _ hz
    have f0 := frozen_of_row _ _ 0 _ _ hz
    clear hf hr
    by_cases hlt : k < n
    · obtain ⟨g, rfl⟩ := hga.resolve_left (by omega)
      have d := HR.out.2.cellAt k (by omega)
      have f := HR.out.2.frozenAt k
      have hkl : k < (mks k m xs).length := by unfold mks; rw [List.length_append, List.length_replicate, List.length_drop, HV.out.2]; omega
      rw [List.getElem?_map, List.getElem?_eq_getElem hkl] at d
      generalize (mks k m xs)[k] = y at d
      replace d : wr.cell? ⟨g, k, none⟩ = some (.int .u8 y) := d
      have H5 : Hid (Fr (fun b => (Value.slice (some ⟨g, 0, none⟩) n c).ownBlock = some b) wB (wr.setCell ⟨g, k, none⟩ (.int .u8 m)) ∧ (wr.setCell ⟨g, k, none⟩ (.int .u8 m)).ownsRow 0 5 1 (.slice (some ⟨g, 0, none⟩) n c) n ((mks (k + 1) m xs).map (Value.int .u8))) := by
        refine ⟨HR.out.1.trans Fr.set (fun b e => .inl (by rw [e]; rfl)), ?_⟩
        have h5 := (HR.out.2.stored k (.int .u8 m)).1
        rw [← List.map_set, mks_set (by rw [HV.out.2]; exact hlt)] at h5
        exact h5
      clear hz c3 c4 f0
      go_wp2
      exact ⟨⟨k + 1, hlt, rfl, H5.out⟩, by simp [intOf]; omega⟩
    · have hkn : k = n := by omega
      subst hkn
      have hrow : wr.ownsRow 0 5 1 (.slice a k c) k ((List.replicate k m).map (Value.int .u8)) := by
        have h6 := HR.out.2
        unfold mks at h6
        rw [List.drop_of_length_le (by rw [HV.out.2]; exact Nat.le_refl _), List.append_nil] at h6
        exact h6
      obtain ⟨i1, j1, j2, j3, j4⟩ := info_parts infoU8
      have ha : Below wr.heap.size wr (wr.alloc (.cells #[.int .u8 m, .int .u8 m, .int .u8 m] 5)) := (Below.refl _ _).alloc (Nat.le_refl _) _
      have HZ : Hid (wr.heap[P]? = some (.cells #[.slice a k c, .int .i64 (k : Int), .int .u8 m, .string s, .bool kp] 86 (0, 0)) ∧ wr.heap[P + 1]? = some (.cells #[.slice none 0 0, .int .i64 0, .int .u8 0, .string ⟨#[]⟩, .bool false] 86 (0, 0))) := ⟨hz, HR.out.1.heap HB.out.2.2 (fun e => absurd (HG.out _ e) (by omega))⟩
      have HW : Hid (wr.ownsRow 0 5 1 (.slice a k c) k ((List.replicate k m).map (Value.int .u8))) := hrow
      clear hz hrow c3 c4 f0
      go_wp2_with (at_builtin; refine wp_own rfl (.tmp 17) (.tmp 24) 42 rfl 5 i1 _ 1 1 Tryz.underlying42 j1 j2 j3 j4 rfl (by decide) (.slice a k c) k ((List.replicate k m).map (Value.int .u8)) rfl (owns_fr HW.out (below_fr ha (fun _ => False)) (fun _ _ e => e)) ⟨wr.heap.size, 0, none⟩ 3 3 [.int .u8 m, .int .u8 m, .int .u8 m] rfl (by decide) rfl (newsA _ _ _ _ _ _ (heap_alloc_new wr _)) (by intro u hu; simp at hu; subst hu; rfl) (by unfold maxLen; omega) (by omega) ?_
                   intro g cap w7 h1 h2 h3
                   have HX := grm HR.out.1 ha HZ.out.1 HZ.out.2 HG.out h1 h2 h3
                   clear h1 h2 h3 c0 c1 c2
                   have c0 : w7.cell? ⟨P, 0, none⟩ = some (.slice a k c) := cell_of_row _ _ 0 _ _ _ HX.z7
                   have f0 := frozen_of_row _ _ 0 _ _ HX.z7
                   obtain ⟨w8, hw8⟩ : ∃ w8, w7.setCell ⟨P, 0, none⟩ (.slice (some ⟨g, 0, none⟩) (k + 3) cap) = w8 := ⟨_, rfl⟩
                   rw [hw8] at HX
                   have HX8 : Hid (GrM wB w7 w8 P k g cap a c m s kp) := HX
                   have x0 : w8.cell? ⟨P, 0, none⟩ = some (.slice (some ⟨g, 0, none⟩) (k + 3) cap) := cell_of_row _ _ 0 _ _ _ HX.z8
                   have x1 : w8.cell? ⟨P, 1, none⟩ = some (.int .i64 (k : Int)) := cell_of_row _ _ 1 _ _ _ HX.z8
                   have x2 : w8.cell? ⟨P, 2, none⟩ = some (.int .u8 m) := cell_of_row _ _ 2 _ _ _ HX.z8
                   have x3 : w8.cell? ⟨P, 3, none⟩ = some (.string s) := cell_of_row _ _ 3 _ _ _ HX.z8
                   have x4 : w8.cell? ⟨P, 4, none⟩ = some (.bool kp) := cell_of_row _ _ 4 _ _ _ HX.z8
                   have q0 := frozen_of_row w8 (P + 1) 0 _ _ HX.y8
                   have q1 := frozen_of_row w8 (P + 1) 1 _ _ HX.y8
                   have q2 := frozen_of_row w8 (P + 1) 2 _ _ HX.y8
                   have q3 := frozen_of_row w8 (P + 1) 3 _ _ HX.y8
                   have q4 := frozen_of_row w8 (P + 1) 4 _ _ HX.y8
                   have p0 : w8.cell? ⟨P + 1, 0, none⟩ = some (.slice none 0 0) := cell_of_row _ _ 0 _ _ _ HX.y8
                   have p1 : w8.cell? ⟨P + 1, 1, none⟩ = some (.int .i64 0) := cell_of_row _ _ 1 _ _ _ HX.y8
                   have p2 : w8.cell? ⟨P + 1, 2, none⟩ = some (.int .u8 0) := cell_of_row _ _ 2 _ _ _ HX.y8
                   have p3 : w8.cell? ⟨P + 1, 3, none⟩ = some (.string ⟨#[]⟩) := cell_of_row _ _ 3 _ _ _ HX.y8
                   have p4 : w8.cell? ⟨P + 1, 4, none⟩ = some (.bool false) := cell_of_row _ _ 4 _ _ _ HX.y8
                   clear HX)
      obtain ⟨y9, f9⟩ := five_set (a' := .slice (some ⟨g, 0, none⟩) (k + 3) cap) (b' := .int .i64 (k : Int)) (c' := .int .u8 m) (d' := .string s) (e' := .bool kp) HX8.out.y8
      clear x0 x1 x2 x3 x4 q0 q1 q2 q3 q4 p0 p1 p2 p3 p4
      obtain ⟨w9, hw9⟩ : ∃ w9, (((((w8.setCell ⟨P + 1, 0, none⟩ (.slice (some ⟨g, 0, none⟩) (k + 3) cap)).setCell ⟨P + 1, 1, none⟩ (.int .i64 (k : Int))).setCell ⟨P + 1, 2, none⟩ (.int .u8 m)).setCell ⟨P + 1, 3, none⟩ (.string s)).setCell ⟨P + 1, 4, none⟩ (.bool kp)) = w9 := ⟨_, rfl⟩
      rw [hw9] at y9 f9 ⊢
      have x0 : w9.cell? ⟨P + 1, 0, none⟩ = some (.slice (some ⟨g, 0, none⟩) (k + 3) cap) := cell_of_row _ _ 0 _ _ _ y9
      have x1 : w9.cell? ⟨P + 1, 1, none⟩ = some (.int .i64 (k : Int)) := cell_of_row _ _ 1 _ _ _ y9
      have x2 : w9.cell? ⟨P + 1, 2, none⟩ = some (.int .u8 m) := cell_of_row _ _ 2 _ _ _ y9
      have x3 : w9.cell? ⟨P + 1, 3, none⟩ = some (.string s) := cell_of_row _ _ 3 _ _ _ y9
      have x4 : w9.cell? ⟨P + 1, 4, none⟩ = some (.bool kp) := cell_of_row _ _ 4 _ _ _ y9
      have hlt : P + 1 < wB.heap.size := heap_lt HB.out.2.2
      have hwB := HB.out.1.size
      have hgP : g ≠ P ∧ g ≠ P + 1 := by
        rcases HX8.out.blk with e | e
        · have := HG.out g e; omega
        · omega
      refine bodyPost_ret (v := .agg #[.slice (some ⟨g, 0, none⟩) (k + 3) cap, .int .i64 (k : Int), .int .u8 m, .string s, .bool kp]) (res_row9 rfl _ _ (P + 1) #[.slice (some ⟨g, 0, none⟩) (k + 3) cap, .int .i64 (k : Int), .int .u8 m, .string s, .bool kp] rfl (by simp [go_sem, x0, x1, x2, x3, x4])) rfl ?_
      refine ⟨g, cap, rfl, owns_fr (owns_fr HX8.out.row HX8.out.f8 (fun b e => by cases e; exact hgP.1)) f9 (fun b e => by cases e; exact hgP.2), HX8.out.blk.imp id (fun e => Nat.le_trans hwB e), ?_⟩
      have f1 : Fr (fun b => (Value.slice a k c).ownBlock = some b) w w9 := (((below_fr HB.out.1 _).trans HX8.out.fr (fun b e => .inl e)).trans HX8.out.f8 (fun b e => .inr (by rw [e, ← hP]; exact Nat.le_refl _))).trans f9 (fun b e => .inr (by rw [e, ← hP]; omega))
      exact f1
end Go.Proofs.YtcbebalakdkgnaaGreatDoor

namespace Go.Proofs.YtcbebalakdkgnaaGreatDoor
open Go.RowKit Rec

section
variable {ty rs el sz : Nat} {w w' : World} {lv : Value} {n : Nat} {R : Nat → List Value} {V : Nat → Value} {M : Nat → Nat} {C : Nat → List Value}
/-- what changes a row of another type leaves it -/
theorem LV.oth (h : LV ty rs el sz w lv n R V M C) {v : Value} (x : Fr (fun b => v.ownBlock = some b) w w') {B e s k : Nat} {xs : List Value} (hv : w.ownsRow B e s v k xs) (h1 : e ≠ el) (h2 : e ≠ ty) : LV ty rs el sz w' lv n R V M C :=
  h.fr x (fun k hk e1 => by
    rcases hk with e2 | ⟨i, hi, e2⟩
    · exact own_two hv h.row h2 e1 e2
    · exact own_two hv (h.ls i hi) h1 e1 e2)
theorem LV.box (h : LV ty rs el sz w lv n R V M C) {p t : Nat} {cs : Array Value} {fz : Nat × Nat} (hp : w.heap[p]? = some (.cells cs t fz)) (h1 : t ≠ el) (h2 : t ≠ ty) {k : Nat} (hk : hasL lv n V k) : k ≠ p := fun e => by
  subst e
  rcases hk with e2 | ⟨i, hi, e2⟩
  · exact own_apartX h.row hp h2.symm e2
  · exact own_apartX (h.ls i hi) hp h1.symm e2
end
/-- the book -/
structure Kb where
  kb : Nat
  bv : Value
  bn : Nat
  bV : Nat → Value
  bX : Nat → List Int
  iv : Value
  tv : Value
  im : Nat
  iV : Nat → Value
  tV : Nat → Value
  iX : Nat → List Int
def mk8 (i : Nat) : Int := ((i : Int) * 2 + 1) % 256
def heR (V : Value) (x : List Int) (i : Nat) : List Value := [V, .int .i64 (x.length : Int), .int .u8 (mk8 i), .string (strOfNums x), .bool (decide (i % 2 = 0))]
def heC (x : List Int) (i : Nat) : List Int := if i % 2 = 0 then x else List.replicate (x.length + 3) (mk8 i)
def Kb.cells (K : Kb) : Array Value := #[K.bv, K.iv, K.tv]
def Kb.all (K : Kb) (k : Nat) : Prop := k = K.kb ∨ hasL K.bv K.bn K.bV k ∨ hasL K.iv K.im K.iV k ∨ hasL K.tv K.im K.tV k
structure KbI (w : World) (K : Kb) : Prop where
  box : w.heap[K.kb]? = some (.cells K.cells 41 (0, 0))
  b : LV 86 5 5 1 w K.bv K.bn (fun i => heR (K.bV i) (K.bX i) i) K.bV (fun i => (heC (K.bX i) i).length) (fun i => (heC (K.bX i) i).map (Value.int .u8))
  i : LV 70 1 3 1 w K.iv K.im (fun i => [K.iV i]) K.iV (fun i => (K.iX i).length) (fun i => (K.iX i).map (Value.int .i64))
  t : LV 70 1 3 1 w K.tv K.im (fun i => [K.tV i]) K.tV (fun i => (K.iX i).length) (fun i => (K.iX i).map (Value.int .i64))
  it : ∀ k, hasL K.iv K.im K.iV k → ¬ hasL K.tv K.im K.tV k
  bx : ∀ i, i < K.bn → (K.bX i).length ≤ 10000000 ∧ ∀ j, 0 ≤ nth (K.bX i) j ∧ nth (K.bX i) j < 256
  ix : ∀ i, i < K.im → (K.iX i).length ≤ 10000000
  bn : K.bn ≤ 1000000000000
  im : K.im ≤ 1000000000000
theorem KbI.fr {S : Nat → Prop} {w w' : World} {K : Kb} (h : KbI w K) (x : Fr S w w') (hS : ∀ k, K.all k → ¬ S k) : KbI w' K :=
  ⟨x.heap h.box (hS _ (.inl rfl)), h.b.fr x (fun k e => hS k (.inr (.inl e))), h.i.fr x (fun k e => hS k (.inr (.inr (.inl e)))), h.t.fr x (fun k e => hS k (.inr (.inr (.inr e)))), h.it, h.bx, h.ix, h.bn, h.im⟩
theorem KbI.on {w w' : World} {K : Kb} (h : KbI w K) (hb : Below w.heap.size w w') : KbI w' K := h.fr (below_fr hb (fun _ => False)) (fun _ _ e => e)
theorem KbI.lt {w : World} {K : Kb} (h : KbI w K) {k : Nat} (hk : K.all k) : k < w.heap.size := by
  rcases hk with rfl | e | e | e
  · exact heap_lt h.box
  · exact h.b.lt e
  · exact h.i.lt e
  · exact h.t.lt e
theorem up2 {α : Type} (F : Value → List Int → Nat → α) (V : Nat → Value) (X : Nat → List Int) (n : Nat) (v : Value) (x : List Int) : (fun i => F (up V n v i) (up X n x i) i) = up (fun i => F (V i) (X i) i) n (F v x n) := by
  funext i
  by_cases e : i = n
  · subst e; simp only [up_eq1]
  · simp only [up_ne _ _ e]
theorem up1 {α β : Type} (F : β → Nat → α) (V : Nat → β) (n : Nat) (v : β) : (fun i => F (up V n v i) i) = up (fun i => F (V i) i) n (F v n) := by
  funext i
  by_cases e : i = n
  · subst e; simp only [up_eq1]
  · simp only [up_ne _ _ e]
/-- the book with one row of bytes more -/
def Kb.addB (K : Kb) (bv V : Value) (x : List Int) : Kb := { K with bv := bv, bn := K.bn + 1, bV := up K.bV K.bn V, bX := up K.bX K.bn x }
theorem hasL_up {lv lv' : Value} {n : Nat} {V : Nat → Value} {u : Value} {k : Nat} (h : hasL lv' (n + 1) (up V n u) k) : lv'.ownBlock = some k ∨ u.ownBlock = some k ∨ hasL lv n V k := by
  rcases h with e | ⟨i, hi, e⟩
  · exact .inl e
  · by_cases ei : i = n
    · subst ei; rw [up_eq1] at e; exact .inr (.inl e)
    · rw [up_ne _ _ ei] at e; exact .inr (.inr (.inr ⟨i, by omega, e⟩))
theorem KbI.addB {w wy w1 : World} {K : Kb} {v V : Value} {x : List Int} {b cap : Nat} (h : KbI w K) (f : Fr (fun k => v.ownBlock = some k) w wy) (hv : ∀ k, v.ownBlock = some k → ¬ K.all k) (hx : x.length ≤ 10000000 ∧ ∀ j, 0 ≤ nth x j ∧ nth x j < 256) (hn : K.bn + 1 ≤ 1000000000000)
    (hV : wy.ownsRow 0 5 1 V (heC x K.bn).length ((heC x K.bn).map (Value.int .u8))) (hVb : ∀ k, V.ownBlock = some k → v.ownBlock = some k ∨ w.heap.size ≤ k)
    (h1 : w1.ownsRow 0 86 5 (.slice (some ⟨b, 0, none⟩) (K.bn + 1) cap) (K.bn + 1) ((List.range K.bn).flatMap (fun i => heR (K.bV i) (K.bX i) i) ++ heR V x K.bn)) (h2 : Fr (fun k => K.bv.ownBlock = some k) wy w1) (h3 : K.bv.ownBlock = some b ∨ wy.heap.size ≤ b) :
    w1.heap[K.kb]? = some (.cells K.cells 41 (0, 0)) ∧ KbI (w1.setCell ⟨K.kb, 0, none⟩ (.slice (some ⟨b, 0, none⟩) (K.bn + 1) cap)) (K.addB (.slice (some ⟨b, 0, none⟩) (K.bn + 1) cap) V x) ∧ Fr (fun k => K.all k ∨ v.ownBlock = some k) w (w1.setCell ⟨K.kb, 0, none⟩ (.slice (some ⟨b, 0, none⟩) (K.bn + 1) cap)) ∧ ∀ k, (K.addB (.slice (some ⟨b, 0, none⟩) (K.bn + 1) cap) V x).all k → K.all k ∨ v.ownBlock = some k ∨ w.heap.size ≤ k := by
  have hy := h.fr f (fun k e e2 => hv k e2 e)
  have hB := hy.b.row
  have hbox : w1.heap[K.kb]? = some (.cells K.cells 41 (0, 0)) := h2.heap hy.box (fun e => own_apartX hB hy.box (by decide) e)
  have hs : Fr (fun k => k = K.kb) w1 (w1.setCell ⟨K.kb, 0, none⟩ (.slice (some ⟨b, 0, none⟩) (K.bn + 1) cap)) := Fr.set
  have lb := hy.b.one (by decide) hV (fun i hi c e e2 => by
    rcases hVb c e2 with e3 | e3
    · exact hv c e3 (.inr (.inl (.inr ⟨i, hi, e⟩)))
    · exact absurd (h.lt (.inr (.inl (.inr ⟨i, hi, e⟩)))) (by omega)) h1 h2
  have li := hy.i.oth h2 hB (by decide) (by decide)
  have lt := hy.t.oth h2 hB (by decide) (by decide)
  have lb2 := lb.fr hs (fun k hk => lb.box hbox (by decide) (by decide) hk)
  refine ⟨hbox, ⟨?_, ?_, li.fr hs (fun k hk => li.box hbox (by decide) (by decide) hk), lt.fr hs (fun k hk => lt.box hbox (by decide) (by decide) hk), h.it, ?_, h.ix, hn, h.im⟩, ?_, ?_⟩
  · exact heap_setCell_same _ _ 0 _ _ _ hbox
  · show LV _ 5 _ 1 _ _ (K.bn + 1) (fun i => heR (up K.bV K.bn V i) (up K.bX K.bn x i) i) _ (fun i => (heC (up K.bX K.bn x i) i).length) (fun i => (heC (up K.bX K.bn x i) i).map (Value.int .u8))
    rw [up2 heR, up1 (fun y i => (heC y i).length), up1 (fun y i => (heC y i).map (Value.int .u8))]
    exact lb2
  · intro i hi
    show (up K.bX K.bn x i).length ≤ _ ∧ _
    by_cases e : i = K.bn
    · subst e; simp only [Kb.addB, up_eq1]; exact hx
    · simp only [Kb.addB, up_ne _ _ e]; exact h.bx i (by have : i < K.bn + 1 := hi; omega)
  · refine ((f.mono (fun k e => .inr e)).trans h2 (fun k e => .inl (.inl (.inr (.inl (.inl e)))))).trans hs (fun k e => .inl (.inl (.inl e)))
  · rintro k (e | e | e | e)
    · exact .inl (.inl e)
    · rcases hasL_up e with e | e | e
      · cases e
        rcases h3 with h3 | h3
        · exact .inl (.inr (.inl (.inl h3)))
        · exact .inr (.inr (Nat.le_trans f.size h3))
      · rcases hVb k e with e | e
        · exact .inr (.inl e)
        · exact .inr (.inr e)
      · exact .inl (.inr (.inl e))
    · exact .inl (.inr (.inr (.inl e)))
    · exact .inl (.inr (.inr (.inr e)))
end Go.Proofs.YtcbebalakdkgnaaGreatDoor
