import Derived.Test.YtipbflmonhlnjaaKBkB
import Derived.Deep.RegionHeld3
namespace Go.Proofs.Ytipbflmonhlnjaa
open Go.RowKit Rec

theorem infoHe : (Try.prog.info? 83).map (fun i => (i.zero, i.size, i.bytes)) = some (some (.agg #[.slice none 0 0, .int .i64 0, .int .u8 0, .string ⟨#[]⟩, .bool false]), 5, 64) := by kernel_rfl
theorem str_own {w : World} {v : Value} {n : Nat} {xs : List Int} (h : w.ownsRow 0 5 1 v n (xs.map (Value.int .u8))) (hw : ∀ j, 0 ≤ nth xs j ∧ nth xs j < 256) (hn : n ≤ 1000000000000) : (convert 22 9 v).run Try.prog w = .ok (.string (strOfNums xs)) w := by
  have hl : xs.length = n := by have := h.1; rw [List.length_map] at this; omega
  rcases h.2 with ⟨e, e2⟩ | ⟨g, cap, cur, e, _⟩
  · subst e e2
    have : xs = [] := List.eq_nil_of_length_eq_zero hl
    subst this
    exact str_opt (a := none) (c := 0) (RwA.bytes (B := 0) (.inl ⟨rfl, rfl, rfl⟩)) rfl
  · subst e
    exact str_opt (ownB_of h hl (by omega) hw).bytes hl
/-- ahead of the append to the book -/
structure Ah4 (w wz : World) (v : Value) (bn P : Nat) (V : Value) (x : List Int) (n : Nat) (m : Int) (kp : Bool) : Prop where
  z : wz.heap[P]? = some (.cells #[V, .int .i64 (n : Int), .int .u8 m, .string (strOfNums x), .bool kp] 83 (0, 0))
  fr : Fr (fun k => v.ownBlock = some k) w wz
  row : wz.ownsRow 0 5 1 V (heC x bn).length ((heC x bn).map (Value.int .u8))
  blk : ∀ k, V.ownBlock = some k → v.ownBlock = some k ∨ w.heap.size ≤ k
  one : V.oneCell' = true
theorem ah4 {w wP w5 : World} {v : Value} {bn P g cap n : Nat} {x : List Int} {m : Int} (hP : P = w.heap.size) (hb : Below w.heap.size w wP) (hx : x.length = n) (hm : mk8 bn = m) (hk : decide (bn % 2 = 0) = false)
    (h1 : w5.heap[P]? = some (.cells #[v, .int .i64 (n : Int), .int .u8 m, .string (strOfNums x), .bool false] 83 (0, 0))) (hg : ∀ b, v.ownBlock = some b → b < P) (hlt : P < wP.heap.size)
    (h2 : w5.ownsRow 0 5 1 (.slice (some ⟨g, 0, none⟩) (n + 3) cap) (n + 3) ((List.replicate (n + 3) m).map (Value.int .u8))) (h3 : v.ownBlock = some g ∨ wP.heap.size ≤ g) (h4 : Fr (fun k => v.ownBlock = some k) wP w5) :
    Ah4 w (((((w5.setCell ⟨P, 0, none⟩ (.slice (some ⟨g, 0, none⟩) (n + 3) cap)).setCell ⟨P, 1, none⟩ (.int .i64 (n : Int))).setCell ⟨P, 2, none⟩ (.int .u8 m)).setCell ⟨P, 3, none⟩ (.string (strOfNums x))).setCell ⟨P, 4, none⟩ (.bool false)) v bn P (.slice (some ⟨g, 0, none⟩) (n + 3) cap) x n m false := by
  obtain ⟨y, f⟩ := five_set (a' := .slice (some ⟨g, 0, none⟩) (n + 3) cap) (b' := .int .i64 (n : Int)) (c' := .int .u8 m) (d' := .string (strOfNums x)) (e' := .bool false) h1
  have hc : heC x bn = List.replicate (n + 3) m := by unfold heC; rw [if_neg (of_decide_eq_false hk), hx, hm]
  refine ⟨y, ((below_fr hb _).trans h4 (fun k e => .inl e)).trans f (fun k e => .inr (by rw [e, hP]; exact Nat.le_refl _)), ?_, fun k e => ?_, rfl⟩
  · rw [hc, List.length_replicate]
    exact owns_fr h2 f (fun k e e2 => by
      cases e
      have e3 : g = P := e2
      rcases h3 with h3 | h3
      · have := hg _ h3; omega
      · omega)
  · cases e
    exact h3.imp id (fun e => Nat.le_trans hb.size e)
/-- behind a row of bytes that goes into the book -/
def KbP (w : World) (K : Bk) (v : Value) (x : List Int) (w' : World) : Prop := ∃ bv V, BkI w' (K.addB bv V x) ∧ Fr (fun k => K.all k ∨ v.ownBlock = some k) w w' ∧ ∀ k, (K.addB bv V x).all k → K.all k ∨ v.ownBlock = some k ∨ w.heap.size ≤ k
theorem kb4 {w wz wy w4 : World} {K : Bk} {a ba : Option Addr} {n c bn bc kb P b bc2 : Nat} {V : Value} {x : List Int} {m : Int} {kp : Bool} (hK : BkI w K ∧ K.kb = kb ∧ K.bn = bn ∧ K.bv = .slice ba bn bc) (hA : Ah4 w wz (.slice a n c) bn P V x n m kp)
    (hV : w.ownsRow 0 5 1 (.slice a n c) n (x.map (Value.int .u8)) ∧ x.length = n ∧ (∀ j, 0 ≤ nth x j ∧ nth x j < 256) ∧ ∀ k, (Value.slice a n c).ownBlock = some k → ¬ K.all k) (hn : n ≤ 10000000) (hb : bn + 1 ≤ 1000000000000) (hR : heR V x bn = [V, .int .i64 (n : Int), .int .u8 m, .string (strOfNums x), .bool kp])
    (hy : Below wz.heap.size wz wy)
    (h1 : w4.ownsRow 0 83 5 (.slice (some ⟨b, 0, none⟩) (bn + 1) bc2) (bn + 1) ((List.range bn).flatMap (fun i => heR (K.bV i) (K.bX i) i) ++ [V, .int .i64 (n : Int), .int .u8 m, .string (strOfNums x), .bool kp])) (h2 : Fr (fun k => (Value.slice ba bn bc).ownBlock = some k) wy w4) (h3 : (Value.slice ba bn bc).ownBlock = some b ∨ wy.heap.size ≤ b) :
    w4.heap[kb]? = some (.cells K.cells 41 (0, 0)) ∧ KbP w K (.slice a n c) x (w4.setCell ⟨kb, 0, none⟩ (.slice (some ⟨b, 0, none⟩) (bn + 1) bc2)) := by
  obtain ⟨hI, e1, e2, e3⟩ := hK
  subst e1 e2
  rw [← e3] at h2 h3
  rw [← hR] at h1
  obtain ⟨g1, g2, g3, g4⟩ := hI.addB (v := .slice a n c) (wy := wy) (hA.fr.trans (below_fr hy (fun _ => False)) (fun _ e => e.elim)) hV.2.2.2 ⟨by rw [hV.2.1]; exact hn, hV.2.2.1⟩ hb (owns_fr hA.row (below_fr hy (fun _ => False)) (fun _ _ e => e)) hA.blk h1 h2 h3
  exact ⟨g1, _, _, g2, g3, g4⟩
set_option maxRecDepth 100000 in
set_option maxHeartbeats 8000000 in
theorem kbytes_any (w : World) (K : Bk) (h : BkI w K) (v : Value) (n : Nat) (x : List Int) (hv : w.ownsRow 0 5 1 v n (x.map (Value.int .u8))) (hn : n ≤ 10000000) (hw : ∀ j, 0 ≤ nth x j ∧ nth x j < 256) (hf : ∀ k, v.ownBlock = some k → ¬ K.all k) (hb : K.bn + 1 ≤ 1000000000000) :
    Calls Try.prog 35 #[.pointer (some ⟨K.kb, 0, none⟩), v] w fun e w' => e = .returned (.tuple #[]) ∧ KbP w K v x w' := by
  have hxl : x.length = n := by have := hv.1; rw [List.length_map] at this; omega
  have hcv := str_own hv hw (by omega)
  obtain ⟨a, c, rfl, hnc, _⟩ := owns_slice hv
  obtain ⟨ba, bc, hbv, hbc, _⟩ := owns_slice h.b.row
  obtain ⟨P, hP⟩ : ∃ P, w.heap.size = P := ⟨_, rfl⟩
  obtain ⟨kb, hkb⟩ : ∃ kb, K.kb = kb := ⟨_, rfl⟩
  obtain ⟨bn, hbn⟩ : ∃ bn, K.bn = bn := ⟨_, rfl⟩
  have hz := h.box
  rw [hkb] at hz ⊢
  rw [hbn] at hbv hbc hb
  have c0 : w.cell? ⟨kb, 0, none⟩ = some (.slice ba bn bc) := by rw [← hbv]; exact cell_of_row _ _ 0 _ _ _ hz
  have HK : Hid (BkI w K ∧ K.kb = kb ∧ K.bn = bn ∧ K.bv = .slice ba bn bc) := ⟨h, hkb, hbn, hbv⟩
  have HV : Hid (w.ownsRow 0 5 1 (.slice a n c) n (x.map (Value.int .u8)) ∧ x.length = n ∧ (∀ j, 0 ≤ nth x j ∧ nth x j < 256) ∧ ∀ k, (Value.slice a n c).ownBlock = some k → ¬ K.all k) := ⟨hv, hxl, hw, hf⟩
  clear h hv hxl hw hf hz hkb hbn hbv
  go_enter Try.func35, Try.ntmps35
  go_upto_region 2 with fail
  have hkp0 : ((bn : Int) % 2 == 0) = decide (bn % 2 = 0) := by
    rw [Bool.eq_iff_iff]; simp; omega
  rw [hkp0]
  obtain ⟨kp, hkp⟩ : ∃ kp, decide (bn % 2 = 0) = kp := ⟨_, rfl⟩
  obtain ⟨m, hm⟩ : ∃ m, ((bn : Int) * 2 + 1) % 256 = m := ⟨_, rfl⟩
  rw [hkp, hm]
  obtain ⟨wP, hwP⟩ : ∃ wP, w.alloc (.cells #[.slice a n c, .int .i64 (n : Int), .int .u8 m, .string (strOfNums x), .bool kp] 83) = wP := ⟨_, rfl⟩
  have HP : Hid (Below w.heap.size w wP ∧ wP.heap[P]? = some (.cells #[.slice a n c, .int .i64 (n : Int), .int .u8 m, .string (strOfNums x), .bool kp] 83 (0, 0))) := by
    rw [← hwP, ← hP]; exact ⟨(Below.refl _ _).alloc (Nat.le_refl _) _, heap_alloc_new _ _⟩
  rw [hwP]
  clear hwP c0
  have HG : Hid (∀ b, (Value.slice a n c).ownBlock = some b → b < P) := fun b e => by rw [← hP]; exact owns_block HV.out.1 e
  have p0 : wP.cell? ⟨P, 0, none⟩ = some (.slice a n c) := cell_of_row _ _ 0 _ _ _ HP.out.2
  have p1 : wP.cell? ⟨P, 1, none⟩ = some (.int .i64 (n : Int)) := cell_of_row _ _ 1 _ _ _ HP.out.2
  have p2 : wP.cell? ⟨P, 2, none⟩ = some (.int .u8 m) := cell_of_row _ _ 2 _ _ _ HP.out.2
  have p3 : wP.cell? ⟨P, 3, none⟩ = some (.string (strOfNums x)) := cell_of_row _ _ 3 _ _ _ HP.out.2
  have p4 : wP.cell? ⟨P, 4, none⟩ = some (.bool kp) := cell_of_row _ _ 4 _ _ _ HP.out.2
  cases kp
  · go_upto_region 4 with (go_at_call 46; refine (grown_any wP (.slice a n c) n x m (strOfNums x) false (owns_fr HV.out.1 (below_fr HP.out.1 (fun _ => False)) (fun _ _ e => e)) (by omega)).mono ?_; rintro e w5 ⟨g, cap, rfl, h1, h2, h3⟩
                           have z5 := h3.heap HP.out.2 (fun e => absurd (HG.out _ e) (Nat.lt_irrefl _))
                           have H5 : Hid (w5.heap[P]? = some (.cells #[.slice a n c, .int .i64 (n : Int), .int .u8 m, .string (strOfNums x), .bool false] 83 (0, 0)) ∧ w5.ownsRow 0 5 1 (.slice (some ⟨g, 0, none⟩) (n + 3) cap) (n + 3) ((List.replicate (n + 3) m).map (Value.int .u8)) ∧ ((Value.slice a n c).ownBlock = some g ∨ wP.heap.size ≤ g) ∧ Fr (fun k => (Value.slice a n c).ownBlock = some k) wP w5) := ⟨z5, h1, h2, h3⟩
                           clear h1 h2 h3 p0 p1 p2 p3 p4
                           have p0 : w5.cell? ⟨P, 0, none⟩ = some (.slice a n c) := cell_of_row _ _ 0 _ _ _ z5
                           have p1 : w5.cell? ⟨P, 1, none⟩ = some (.int .i64 (n : Int)) := cell_of_row _ _ 1 _ _ _ z5
                           have p2 : w5.cell? ⟨P, 2, none⟩ = some (.int .u8 m) := cell_of_row _ _ 2 _ _ _ z5
                           have p3 : w5.cell? ⟨P, 3, none⟩ = some (.string (strOfNums x)) := cell_of_row _ _ 3 _ _ _ z5
                           have p4 : w5.cell? ⟨P, 4, none⟩ = some (.bool false) := cell_of_row _ _ 4 _ _ _ z5
                           have q0 := frozen_of_row w5 P 0 _ _ z5
                           have q1 := frozen_of_row w5 P 1 _ _ z5
                           have q2 := frozen_of_row w5 P 2 _ _ z5
                           have q3 := frozen_of_row w5 P 3 _ _ z5
                           have q4 := frozen_of_row w5 P 4 _ _ z5
                           clear z5)
    have HA := ah4 (bn := bn) hP.symm HP.out.1 HV.out.2.1 hm hkp H5.out.1 HG.out (heap_lt HP.out.2) H5.out.2.1 H5.out.2.2.1 H5.out.2.2.2
    obtain ⟨wz, hwz⟩ : ∃ wz, (((((w5.setCell ⟨P, 0, none⟩ (.slice (some ⟨g, 0, none⟩) (n + 3) cap)).setCell ⟨P, 1, none⟩ (.int .i64 (n : Int))).setCell ⟨P, 2, none⟩ (.int .u8 m)).setCell ⟨P, 3, none⟩ (.string (strOfNums x))).setCell ⟨P, 4, none⟩ (.bool false)) = wz := ⟨_, rfl⟩
    rw [hwz] at HA ⊢
    have HA4 : Hid (Ah4 w wz (.slice a n c) bn P (.slice (some ⟨g, 0, none⟩) (n + 3) cap) x n m false) := HA
    clear HA hwz p0 p1 p2 p3 p4 q0 q1 q2 q3 q4 H5 HP HG
    obtain ⟨V, hVe⟩ : ∃ V, Value.slice (some ⟨g, 0, none⟩) (n + 3) cap = V := ⟨_, rfl⟩
    rw [hVe] at HA4 ⊢
    obtain ⟨kp, hkf⟩ : ∃ kp, false = kp := ⟨_, rfl⟩
    rw [hkf] at HA4 hkp
    clear hVe hkf
    clear hcv
    have hb4 := HK.out.1.fr HA4.out.fr (fun k e e2 => HV.out.2.2.2 k e2 e)
    have HB4 : Hid (BkI wz K) := hb4
    have y3 : wz.cell? ⟨kb, 0, none⟩ = some (.slice ba bn bc) := by
      have e := cell_of_row _ _ 0 _ _ _ hb4.box
      rw [HK.out.2.1] at e
      rw [← HK.out.2.2.2]; exact e
    clear hb4
    have p0 : wz.cell? ⟨P, 0, none⟩ = some V := cell_of_row _ _ 0 _ _ _ HA4.out.z
    have p1 : wz.cell? ⟨P, 1, none⟩ = some (.int .i64 (n : Int)) := cell_of_row _ _ 1 _ _ _ HA4.out.z
    have p2 : wz.cell? ⟨P, 2, none⟩ = some (.int .u8 m) := cell_of_row _ _ 2 _ _ _ HA4.out.z
    have p3 : wz.cell? ⟨P, 3, none⟩ = some (.string (strOfNums x)) := cell_of_row _ _ 3 _ _ _ HA4.out.z
    have p4 : wz.cell? ⟨P, 4, none⟩ = some (.bool kp) := cell_of_row _ _ 4 _ _ _ HA4.out.z
    obtain ⟨i1, j1, j2, j3, j4⟩ := info_parts infoHe
    have HA1 : Hid (∀ o, Below wz.heap.size wz (wz.drew.alloc o)) := fun o => (Below.refl wz.heap.size wz).drew.alloc (Nat.le_refl _) o
    have HA2 : Hid (∀ o, Below wz.heap.size wz (wz.alloc o).drew) := fun o => ((Below.refl wz.heap.size wz).alloc (Nat.le_refl _) o).drew
    have HA3 : Hid (∀ o, Below wz.heap.size wz (wz.drew.alloc o).drew) := fun o => (HA1.out o).drew
    have HA0 : Hid (∀ o, Below wz.heap.size wz (wz.alloc o)) := fun o => ((Below.refl wz.heap.size wz).alloc (Nat.le_refl _) o)
    have y3a : (wz.alloc (.cells #[V, .int .i64 (n : Int), .int .u8 m, .string (strOfNums x), .bool kp] 83)).cell? ⟨kb, 0, none⟩ = some (.slice ba bn bc) := (fr_alloc (fun _ => False) wz _).cell y3 (fun e => e)
    have HRow : Hid (wz.ownsRow 0 83 5 (.slice ba bn bc) bn ((List.range bn).flatMap (fun i => heR (K.bV i) (K.bX i) i))) := by
      have e := HB4.out.b.row
      rw [HK.out.2.2.2, HK.out.2.2.1] at e; exact e
    have hr1 : heR V x bn = [V, .int .i64 (n : Int), .int .u8 m, .string (strOfNums x), .bool kp] := by
      unfold heR; rw [HV.out.2.1, hkp, show mk8 bn = m from hm]
    have HR1 : Hid (heR V x bn = [V, .int .i64 (n : Int), .int .u8 m, .string (strOfNums x), .bool kp]) := hr1
    clear hr1
    go_region_law
      (first
        | (refine step_own (by rfl) (.tmp 33) (.tmp 35) 37 (by rfl) 83 i1 _ 5 64 Try.underlying37 j1 j2 j3 j4 (by rfl) (by decide) (.slice ba bn bc) bn ((List.range bn).flatMap (fun i => heR (K.bV i) (K.bX i) i)) (by rfl) (owns_fr HRow.out (below_fr (by first | exact HA1.out _ | exact HA2.out _ | exact HA3.out _ | exact HA0.out _) (fun _ => False)) (fun _ _ e => e)) ⟨wz.heap.size, 0, none⟩ 1 1 [V, .int .i64 (n : Int), .int .u8 m, .string (strOfNums x), .bool kp] (by rfl) (by decide) rfl (news_of (heap_alloc_new wz _) _ rfl) (by intro u hu; simp at hu; rcases hu with rfl | rfl | rfl | rfl | rfl <;> first | exact HA4.out.one | rfl) (by unfold maxLen; omega) (by omega) ?_
           intro b bc2 w4 h1 h2 h3
           have H4 := (by first | exact kb4 HK.out HA4.out HV.out hn hb HR1.out (HA0.out _) h1 h2 h3 | exact kb4 HK.out HA4.out HV.out hn hb HR1.out (HA1.out _) h1 h2 h3 | exact kb4 HK.out HA4.out HV.out hn hb HR1.out (HA2.out _) h1 h2 h3 | exact kb4 HK.out HA4.out HV.out hn hb HR1.out (HA3.out _) h1 h2 h3 : w4.heap[kb]? = some (.cells K.cells 41 (0, 0)) ∧ KbP w K (.slice a n c) x (w4.setCell ⟨kb, 0, none⟩ (.slice (some ⟨b, 0, none⟩) (bn + 1) bc2)))
           have d1 : w4.cell? ⟨kb, 0, none⟩ = some K.bv := cell_of_row _ _ 0 _ _ _ H4.1
           have e1 : w4.frozen? ⟨kb, 0, none⟩ = false := frozen_of_row _ _ 0 _ _ H4.1
           have H4' : Hid (KbP w K (.slice a n c) x (w4.setCell ⟨kb, 0, none⟩ (.slice (some ⟨b, 0, none⟩) (bn + 1) bc2))) := H4.2
           clear h1 h2 h3 H4 y3 y3a p0 p1 p2 p3 p4))
    all_goals
      go_end0
      exact ⟨rfl, H4'.out⟩
  · go_upto_region 4 with fail
    have HA : Ah4 w wP (.slice a n c) bn P (.slice a n c) x n m true := by
      have hc : heC x bn = x := by unfold heC; rw [if_pos (of_decide_eq_true hkp)]
      refine ⟨HP.out.2, below_fr HP.out.1 _, ?_, fun k e => .inl e, rfl⟩
      rw [hc, HV.out.2.1]
      exact owns_fr HV.out.1 (below_fr HP.out.1 (fun _ => False)) (fun _ _ e => e)
    obtain ⟨wz, hwz⟩ : ∃ wz, wP = wz := ⟨_, rfl⟩
    rw [hwz] at HA ⊢
    have HA4 : Hid (Ah4 w wz (.slice a n c) bn P (.slice a n c) x n m true) := HA
    clear HA p0 p1 p2 p3 p4 HP HG
    obtain ⟨V, hVe⟩ : ∃ V, Value.slice a n c = V := ⟨_, rfl⟩
    have HA5 : Hid (Ah4 w wz (.slice a n c) bn P V x n m true) := by rw [← hVe]; exact HA4.out
    clear HA4
    have HA4 := HA5
    clear HA5 hVe
    obtain ⟨kp, hkf⟩ : ∃ kp, true = kp := ⟨_, rfl⟩
    rw [hkf] at HA4 hkp
    clear hkf
    clear hcv
    have hb4 := HK.out.1.fr HA4.out.fr (fun k e e2 => HV.out.2.2.2 k e2 e)
    have HB4 : Hid (BkI wz K) := hb4
    have y3 : wz.cell? ⟨kb, 0, none⟩ = some (.slice ba bn bc) := by
      have e := cell_of_row _ _ 0 _ _ _ hb4.box
      rw [HK.out.2.1] at e
      rw [← HK.out.2.2.2]; exact e
    clear hb4
    have p0 : wz.cell? ⟨P, 0, none⟩ = some V := cell_of_row _ _ 0 _ _ _ HA4.out.z
    have p1 : wz.cell? ⟨P, 1, none⟩ = some (.int .i64 (n : Int)) := cell_of_row _ _ 1 _ _ _ HA4.out.z
    have p2 : wz.cell? ⟨P, 2, none⟩ = some (.int .u8 m) := cell_of_row _ _ 2 _ _ _ HA4.out.z
    have p3 : wz.cell? ⟨P, 3, none⟩ = some (.string (strOfNums x)) := cell_of_row _ _ 3 _ _ _ HA4.out.z
    have p4 : wz.cell? ⟨P, 4, none⟩ = some (.bool kp) := cell_of_row _ _ 4 _ _ _ HA4.out.z
    obtain ⟨i1, j1, j2, j3, j4⟩ := info_parts infoHe
    have HA1 : Hid (∀ o, Below wz.heap.size wz (wz.drew.alloc o)) := fun o => (Below.refl wz.heap.size wz).drew.alloc (Nat.le_refl _) o
    have HA2 : Hid (∀ o, Below wz.heap.size wz (wz.alloc o).drew) := fun o => ((Below.refl wz.heap.size wz).alloc (Nat.le_refl _) o).drew
    have HA3 : Hid (∀ o, Below wz.heap.size wz (wz.drew.alloc o).drew) := fun o => (HA1.out o).drew
    have HA0 : Hid (∀ o, Below wz.heap.size wz (wz.alloc o)) := fun o => ((Below.refl wz.heap.size wz).alloc (Nat.le_refl _) o)
    have y3a : (wz.alloc (.cells #[V, .int .i64 (n : Int), .int .u8 m, .string (strOfNums x), .bool kp] 83)).cell? ⟨kb, 0, none⟩ = some (.slice ba bn bc) := (fr_alloc (fun _ => False) wz _).cell y3 (fun e => e)
    have HRow : Hid (wz.ownsRow 0 83 5 (.slice ba bn bc) bn ((List.range bn).flatMap (fun i => heR (K.bV i) (K.bX i) i))) := by
      have e := HB4.out.b.row
      rw [HK.out.2.2.2, HK.out.2.2.1] at e; exact e
    have hr1 : heR V x bn = [V, .int .i64 (n : Int), .int .u8 m, .string (strOfNums x), .bool kp] := by
      unfold heR; rw [HV.out.2.1, hkp, show mk8 bn = m from hm]
    have HR1 : Hid (heR V x bn = [V, .int .i64 (n : Int), .int .u8 m, .string (strOfNums x), .bool kp]) := hr1
    clear hr1
    go_region_law
      (first
        | (refine step_own (by rfl) (.tmp 33) (.tmp 35) 37 (by rfl) 83 i1 _ 5 64 Try.underlying37 j1 j2 j3 j4 (by rfl) (by decide) (.slice ba bn bc) bn ((List.range bn).flatMap (fun i => heR (K.bV i) (K.bX i) i)) (by rfl) (owns_fr HRow.out (below_fr (by first | exact HA1.out _ | exact HA2.out _ | exact HA3.out _ | exact HA0.out _) (fun _ => False)) (fun _ _ e => e)) ⟨wz.heap.size, 0, none⟩ 1 1 [V, .int .i64 (n : Int), .int .u8 m, .string (strOfNums x), .bool kp] (by rfl) (by decide) rfl (news_of (heap_alloc_new wz _) _ rfl) (by intro u hu; simp at hu; rcases hu with rfl | rfl | rfl | rfl | rfl <;> first | exact HA4.out.one | rfl) (by unfold maxLen; omega) (by omega) ?_
           intro b bc2 w4 h1 h2 h3
           have H4 := (by first | exact kb4 HK.out HA4.out HV.out hn hb HR1.out (HA0.out _) h1 h2 h3 | exact kb4 HK.out HA4.out HV.out hn hb HR1.out (HA1.out _) h1 h2 h3 | exact kb4 HK.out HA4.out HV.out hn hb HR1.out (HA2.out _) h1 h2 h3 | exact kb4 HK.out HA4.out HV.out hn hb HR1.out (HA3.out _) h1 h2 h3 : w4.heap[kb]? = some (.cells K.cells 41 (0, 0)) ∧ KbP w K (.slice a n c) x (w4.setCell ⟨kb, 0, none⟩ (.slice (some ⟨b, 0, none⟩) (bn + 1) bc2)))
           have d1 : w4.cell? ⟨kb, 0, none⟩ = some K.bv := cell_of_row _ _ 0 _ _ _ H4.1
           have e1 : w4.frozen? ⟨kb, 0, none⟩ = false := frozen_of_row _ _ 0 _ _ H4.1
           have H4' : Hid (KbP w K (.slice a n c) x (w4.setCell ⟨kb, 0, none⟩ (.slice (some ⟨b, 0, none⟩) (bn + 1) bc2))) := H4.2
           clear h1 h2 h3 H4 y3 y3a p0 p1 p2 p3 p4))
    all_goals
      go_end0
      exact ⟨rfl, H4'.out⟩
end Go.Proofs.Ytipbflmonhlnjaa
