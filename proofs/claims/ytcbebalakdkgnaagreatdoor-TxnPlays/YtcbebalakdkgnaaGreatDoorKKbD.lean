import Derived.Test.YtcbebalakdkgnaaGreatDoorKKbB
import Derived.Deep.RegionHeld3
namespace Go.Proofs.YtcbebalakdkgnaaGreatDoor
open Go.RowKit Rec

theorem infoHe : (Tryz.prog.info? 86).map (fun i => (i.zero, i.size, i.bytes)) = some (some (.agg #[.slice none 0 0, .int .i64 0, .int .u8 0, .string ⟨#[]⟩, .bool false]), 5, 64) := by kernel_rfl
theorem str_own {w : World} {v : Value} {n : Nat} {xs : List Int} (h : w.ownsRow 0 5 1 v n (xs.map (Value.int .u8))) (hw : ∀ j, 0 ≤ nth xs j ∧ nth xs j < 256) (hn : n ≤ 1000000000000) : (convert 42 9 v).run Tryz.prog w = .ok (.string (strOfNums xs)) w := by
  have hl : xs.length = n := by have := h.1; rw [List.length_map] at this; omega
  rcases h.2 with ⟨e, e2⟩ | ⟨g, cap, cur, e, _⟩
  · subst e e2
    have : xs = [] := List.eq_nil_of_length_eq_zero hl
    subst this
    exact str_opt (a := none) (c := 0) (RwA.bytes (B := 0) (.inl ⟨rfl, rfl, rfl⟩)) rfl
  · subst e
    exact str_opt (ownB_of h hl (by omega) hw).bytes hl
/-- ahead of the append to the book -/
structure Ah4 (w wz : World) (v : Value) (bn P : Nat) (V : Value) (x : List Int) (n : Nat) (m : Int) (kp : Bool) : Prop where
  z : wz.heap[P]? = some (.cells #[V, .int .i64 (n : Int), .int .u8 m, .string (strOfNums x), .bool kp] 86 (0, 0))
  fr : Fr (fun k => v.ownBlock = some k) w wz
  row : wz.ownsRow 0 5 1 V (heC x bn).length ((heC x bn).map (Value.int .u8))
  blk : ∀ k, V.ownBlock = some k → v.ownBlock = some k ∨ w.heap.size ≤ k
  one : V.oneCell' = true
theorem ah4 {w wP w5 : World} {v : Value} {bn P g cap n : Nat} {x : List Int} {m : Int} (hP : P = w.heap.size) (hb : Below w.heap.size w wP) (hx : x.length = n) (hm : mk8 bn = m) (hk : decide (bn % 2 = 0) = false)
    (h1 : w5.heap[P]? = some (.cells #[v, .int .i64 (n : Int), .int .u8 m, .string (strOfNums x), .bool false] 86 (0, 0))) (hg : ∀ b, v.ownBlock = some b → b < P) (hlt : P < wP.heap.size)
    (h2 : w5.ownsRow 0 5 1 (.slice (some ⟨g, 0, none⟩) (n + 3) cap) (n + 3) ((List.replicate (n + 3) m).map (Value.int .u8))) (h3 : v.ownBlock = some g ∨ wP.heap.size ≤ g) (h4 : Fr (fun k => v.ownBlock = some k) wP w5) :
    Ah4 w (((((w5.setCell ⟨P, 0, none⟩ (.slice (some ⟨g, 0, none⟩) (n + 3) cap)).setCell ⟨P, 1, none⟩ (.int .i64 (n : Int))).setCell ⟨P, 2, none⟩ (.int .u8 m)).setCell ⟨P, 3, none⟩ (.string (strOfNums x))).setCell ⟨P, 4, none⟩ (.bool false)) v bn P (.slice (some ⟨g, 0, none⟩) (n + 3) cap) x n m false := by
  obtain ⟨y, f⟩ := five_set (a' := .slice (some ⟨g, 0, none⟩) (n + 3) cap) (b' := .int .i64 (n : Int)) (c' := .int .u8 m) (d' := .string (strOfNums x)) (e' := .bool false) h1
  have hc : heC x bn = List.replicate (n + 3) m := by unfold heC; rw [if_neg (of_decide_eq_false hk), hx, hm]
  refine ⟨y, ((below_fr hb _).trans h4 (fun k e => .inl e)).trans f (fun k e => .inr (by rw [e, hP]; exact Nat.le_refl _)), ?_, fun k e => ?_, rfl⟩
  · rw [hc, List.length_replicate]
    exact owns_fr h2 f (fun k e e2 => by
      cases e
      have e3 : g = P := e2
      rcases h3 with h3 | h3
      · have := hg _ h3; omega
      · omega)
  · cases e
    exact h3.imp id (fun e => Nat.le_trans hb.size e)
/-- behind a row of bytes that goes into the book -/
def KbP (w : World) (K : Kb) (v : Value) (x : List Int) (w' : World) : Prop := ∃ bv V, KbI w' (K.addB bv V x) ∧ Fr (fun k => K.all k ∨ v.ownBlock = some k) w w' ∧ ∀ k, (K.addB bv V x).all k → K.all k ∨ v.ownBlock = some k ∨ w.heap.size ≤ k
theorem kb4 {w wz wy w4 : World} {K : Kb} {a ba : Option Addr} {n c bn bc kb P b bc2 : Nat} {V : Value} {x : List Int} {m : Int} {kp : Bool} (hK : KbI w K ∧ K.kb = kb ∧ K.bn = bn ∧ K.bv = .slice ba bn bc) (hA : Ah4 w wz (.slice a n c) bn P V x n m kp)
    (hV : w.ownsRow 0 5 1 (.slice a n c) n (x.map (Value.int .u8)) ∧ x.length = n ∧ (∀ j, 0 ≤ nth x j ∧ nth x j < 256) ∧ ∀ k, (Value.slice a n c).ownBlock = some k → ¬ K.all k) (hn : n ≤ 10000000) (hb : bn + 1 ≤ 1000000000000) (hR : heR V x bn = [V, .int .i64 (n : Int), .int .u8 m, .string (strOfNums x), .bool kp])
    (hy : Below wz.heap.size wz wy)
    (h1 : w4.ownsRow 0 86 5 (.slice (some ⟨b, 0, none⟩) (bn + 1) bc2) (bn + 1) ((List.range bn).flatMap (fun i => heR (K.bV i) (K.bX i) i) ++ [V, .int .i64 (n : Int), .int .u8 m, .string (strOfNums x), .bool kp])) (h2 : Fr (fun k => (Value.slice ba bn bc).ownBlock = some k) wy w4) (h3 : (Value.slice ba bn bc).ownBlock = some b ∨ wy.heap.size ≤ b) :
    w4.heap[kb]? = some (.cells K.cells 41 (0, 0)) ∧ KbP w K (.slice a n c) x (w4.setCell ⟨kb, 0, none⟩ (.slice (some ⟨b, 0, none⟩) (bn + 1) bc2)) := by
  obtain ⟨hI, e1, e2, e3⟩ := hK
  subst e1 e2
  rw [← e3] at h2 h3
  rw [← hR] at h1
  obtain ⟨g1, g2, g3, g4⟩ := hI.addB (v := .slice a n c) (wy := wy) (hA.fr.trans (below_fr hy (fun _ => False)) (fun _ e => e.elim)) hV.2.2.2 ⟨by rw [hV.2.1]; exact hn, hV.2.2.1⟩ hb (owns_fr hA.row (below_fr hy (fun _ => False)) (fun _ _ e => e)) hA.blk h1 h2 h3
  exact ⟨g1, _, _, g2, g3, g4⟩
set_option maxRecDepth 100000 in
set_option maxHeartbeats 8000000 in
theorem kbytes_any (w : World) (K : Kb) (h : KbI w K) (v : Value) (n : Nat) (x : List Int) (hv : w.ownsRow 0 5 1 v n (x.map (Value.int .u8))) (hn : n ≤ 10000000) (hw : ∀ j, 0 ≤ nth x j ∧ nth x j < 256) (hf : ∀ k, v.ownBlock = some k → ¬ K.all k) (hb : K.bn + 1 ≤ 1000000000000) :
    Calls Tryz.prog 34 #[.pointer (some ⟨K.kb, 0, none⟩), v] w fun e w' => e = .returned (.tuple #[]) ∧ KbP w K v x w' := by
  have hxl : x.length = n := by have := hv.1; rw [List.length_map] at this; omega
  have hcv := str_own hv hw (by omega)
  obtain ⟨a, c, rfl, hnc, _⟩ := owns_slice hv
  obtain ⟨ba, bc, hbv, hbc, _⟩ := owns_slice h.b.row
  obtain ⟨P, hP⟩ : ∃ P, w.heap.size = P := ⟨_, rfl⟩
  obtain ⟨kb, hkb⟩ : ∃ kb, K.kb = kb := ⟨_, rfl⟩
  obtain ⟨bn, hbn⟩ : ∃ bn, K.bn = bn := ⟨_, rfl⟩
  have hz := h.box
  rw [hkb] at hz ⊢
  rw [hbn] at hbv hbc hb
  have c0 : w.cell? ⟨kb, 0, none⟩ = some (.slice ba bn bc) := by rw [← hbv]; exact cell_of_row _ _ 0 _ _ _ hz
  have HK : Hid (KbI w K ∧ K.kb = kb ∧ K.bn = bn ∧ K.bv = .slice ba bn bc) := ⟨h, hkb, hbn, hbv⟩
  have HV : Hid (w.ownsRow 0 5 1 (.slice a n c) n (x.map (Value.int .u8)) ∧ x.length = n ∧ (∀ j, 0 ≤ nth x j ∧ nth x j < 256) ∧ ∀ k, (Value.slice a n c).ownBlock = some k → ¬ K.all k) := ⟨hv, hxl, hw, hf⟩
  clear h hv hxl hw hf hz hkb hbn hbv
  go_enter Tryz.func34, Tryz.ntmps34
  go_upto_region 2 with fail
  have hkp0 : ((bn : Int) % 2 == 0) = decide (bn % 2 = 0) := by
    rw [Bool.eq_iff_iff]; simp; omega
  rw [hkp0]
  obtain ⟨kp, hkp⟩ : ∃ kp, decide (bn % 2 = 0) = kp := ⟨_, rfl⟩
  obtain ⟨m, hm⟩ : ∃ m, ((bn : Int) * 2 + 1) % 256 = m := ⟨_, rfl⟩
  rw [hkp, hm]
  obtain ⟨wP, hwP⟩ : ∃ wP, w.alloc (.cells #[.slice a n c, .int .i64 (n : Int), .int .u8 m, .string (strOfNums x), .bool kp] 86) = wP := ⟨_, rfl⟩
  have HP : Hid (Below w.heap.size w wP ∧ wP.heap[P]? = some (.cells #[.slice a n c, .int .i64 (n : Int), .int .u8 m, .string (strOfNums x), .bool kp] 86 (0, 0))) := by
    rw [← hwP, ← hP]; exact ⟨(Below.refl _ _).alloc (Nat.le_refl _) _, heap_alloc_new _ _⟩
  rw [hwP]
  clear hwP c0
  have HG : Hid (∀ b, (Value.slice a n c).ownBlock = some b → b < P) := fun b e => by rw [← hP]; exact owns_block HV.out.1 e
  have p0 : wP.cell? ⟨P, 0, none⟩ = some (.slice a n c) := cell_of_row _ _ 0 _ _ _ HP.out.2
  have p1 : wP.cell? ⟨P, 1, none⟩ = some (.int .i64 (n : Int)) := cell_of_row _ _ 1 _ _ _ HP.out.2
  have p2 : wP.cell? ⟨P, 2, none⟩ = some (.int .u8 m) := cell_of_row _ _ 2 _ _ _ HP.out.2
  have p3 : wP.cell? ⟨P, 3, none⟩ = some (.string (strOfNums x)) := cell_of_row _ _ 3 _ _ _ HP.out.2
  have p4 : wP.cell? ⟨P, 4, none⟩ = some (.bool kp) := cell_of_row _ _ 4 _ _ _ HP.out.2
  cases kp
  · go_upto_region 4 with (go_at_call 41; refine (grown_any wP (.slice a n c) n x m (strOfNums x) false (owns_fr HV.out.1 (below_fr HP.out.1 (fun _ => False)) (fun _ _ e => e)) (by omega)).mono ?_; rintro e w5 ⟨g, cap, rfl, h1, h2, h3⟩
                           have z5 := h3.heap HP.out.2 (fun e => absurd (HG.out _ e) (Nat.lt_irrefl _))
                           have H5 : Hid (w5.heap[P]? = some (.cells #[.slice a n c, .int .i64 (n : Int), .int .u8 m, .string (strOfNums x), .bool false] 86 (0, 0)) ∧ w5.ownsRow 0 5 1 (.slice (some ⟨g, 0, none⟩) (n + 3) cap) (n + 3) ((List.replicate (n + 3) m).map (Value.int .u8)) ∧ ((Value.slice a n c).ownBlock = some g ∨ wP.heap.size ≤ g) ∧ Fr (fun k => (Value.slice a n c).ownBlock = some k) wP w5) := ⟨z5, h1, h2, h3⟩
                           clear h1 h2 h3 p0 p1 p2 p3 p4
                           have p0 : w5.cell? ⟨P, 0, none⟩ = some (.slice a n c) := cell_of_row _ _ 0 _ _ _ z5
                           have p1 : w5.cell? ⟨P, 1, none⟩ = some (.int .i64 (n : Int)) := cell_of_row _ _ 1 _ _ _ z5
                           have p2 : w5.cell? ⟨P, 2, none⟩ = some (.int .u8 m) := cell_of_row _ _ 2 _ _ _ z5
                           have p3 : w5.cell? ⟨P, 3, none⟩ = some (.string (strOfNums x)) := cell_of_row _ _ 3 _ _ _ z5
                           have p4 : w5.cell? ⟨P, 4, none⟩ = some (.bool false) := cell_of_row _ _ 4 _ _ _ z5
                           have q0 := frozen_of_row w5 P 0 _ _ z5
                           have q1 := frozen_of_row w5 P 1 _ _ z5
                           have q2 := frozen_of_row w5 P 2 _ _ z5
                           have q3 := frozen_of_row w5 P 3 _ _ z5
                           have q4 := frozen_of_row w5 P 4 _ _ z5
                           clear z5)
    have HA := ah4 (bn := bn) hP.symm HP.out.1 HV.out.2.1 hm hkp H5.out.1 HG.out (heap_lt HP.out.2) H5.out.2.1 H5.out.2.2.1 H5.out.2.2.2
    obtain ⟨wz, hwz⟩ : ∃ wz, (((((w5.setCell ⟨P, 0, none⟩ (.slice (some ⟨g, 0, none⟩) (n + 3) cap)).setCell ⟨P, 1, none⟩ (.int .i64 (n : Int))).setCell ⟨P, 2, none⟩ (.int .u8 m)).setCell ⟨P, 3, none⟩ (.string (strOfNums x))).setCell ⟨P, 4, none⟩ (.bool false)) = wz := ⟨_, rfl⟩
    rw [hwz] at HA ⊢
    have HA4 : Hid (Ah4 w wz (.slice a n c) bn P (.slice (some ⟨g, 0, none⟩) (n + 3) cap) x n m false) := HA
    clear HA hwz p0 p1 p2 p3 p4 q0 q1 q2 q3 q4 H5 HP HG
    obtain ⟨V, hVe⟩ : ∃ V, Value.slice (some ⟨g, 0, none⟩) (n + 3) cap = V := ⟨_, rfl⟩
    rw [hVe] at HA4 ⊢
    obtain ⟨kp, hkf⟩ : ∃ kp, false = kp := ⟨_, rfl⟩
    rw [hkf] at HA4 hkp
    clear hVe hkf
    clear hcv
    have hb4 := HK.out.1.fr HA4.out.fr (fun k e e2 => HV.out.2.2.2 k e2 e)
    have HB4 : Hid (KbI wz K) := hb4
    have y3 : wz.cell? ⟨kb, 0, none⟩ = some (.slice ba bn bc) := by
      have e := cell_of_row _ _ 0 _ _ _ hb4.box
      rw [HK.out.2.1] at e
      rw [← HK.out.2.2.2]; exact e
    clear hb4
    have p0 : wz.cell? ⟨P, 0, none⟩ = some V := cell_of_row _ _ 0 _ _ _ HA4.out.z
    have p1 : wz.cell? ⟨P, 1, none⟩ = some (.int .i64 (n : Int)) := cell_of_row _ _ 1 _ _ _ HA4.out.z
    have p2 : wz.cell? ⟨P, 2, none⟩ = some (.int .u8 m) := cell_of_row _ _ 2 _ _ _ HA4.out.z
    have p3 : wz.cell? ⟨P, 3, none⟩ = some (.string (strOfNums x)) := cell_of_row _ _ 3 _ _ _ HA4.out.z
    have p4 : wz.cell? ⟨P, 4, none⟩ = some (.bool kp) := cell_of_row _ _ 4 _ _ _ HA4.out.z
    obtain ⟨i1, j1, j2, j3, j4⟩ := info_parts infoHe
    have HA1 : Hid (∀ o, Below wz.heap.size wz (wz.drew.alloc o)) := fun o => (Below.refl wz.heap.size wz).drew.alloc (Nat.le_refl _) o
    have HA2 : Hid (∀ o, Below wz.heap.size wz (wz.alloc o).drew) := fun o => ((Below.refl wz.heap.size wz).alloc (Nat.le_refl _) o).drew
    have HA3 : Hid (∀ o, Below wz.heap.size wz (wz.drew.alloc o).drew) := fun o => (HA1.out o).drew
    have HA0 : Hid (∀ o, Below wz.heap.size wz (wz.alloc o)) := fun o => ((Below.refl wz.heap.size wz).alloc (Nat.le_refl _) o)
    have y3a : (wz.alloc (.cells #[V, .int .i64 (n : Int), .int .u8 m, .string (strOfNums x), .bool kp] 86)).cell? ⟨kb, 0, none⟩ = some (.slice ba bn bc) := (fr_alloc (fun _ => False) wz _).cell y3 (fun e => e)
    have HRow : Hid (wz.ownsRow 0 86 5 (.slice ba bn bc) bn ((List.range bn).flatMap (fun i => heR (K.bV i) (K.bX i) i))) := by
      have e := HB4.out.b.row
      rw [HK.out.2.2.2, HK.out.2.2.1] at e; exact e
    have hr1 : heR V x bn = [V, .int .i64 (n : Int), .int .u8 m, .string (strOfNums x), .bool kp] := by
      unfold heR; rw [HV.out.2.1, hkp, show mk8 bn = m from hm]
    have HR1 : Hid (heR V x bn = [V, .int .i64 (n : Int), .int .u8 m, .string (strOfNums x), .bool kp]) := hr1
    clear hr1
    go_region_law
      (first
        | (refine step_own (by rfl) (.tmp 33) (.tmp 35) 38 (by rfl) 86 i1 _ 5 64 Tryz.underlying38 j1 j2 j3 j4 (by rfl) (by decide) (.slice ba bn bc) bn ((List.range bn).flatMap (fun i => heR (K.bV i) (K.bX i) i)) (by rfl) (owns_fr HRow.out (below_fr (by first | exact HA1.out _ | exact HA2.out _ | exact HA3.out _ | exact HA0.out _) (fun _ => False)) (fun _ _ e => e)) ⟨wz.heap.size, 0, none⟩ 1 1 [V, .int .i64 (n : Int), .int .u8 m, .string (strOfNums x), .bool kp] (by rfl) (by decide) rfl (news_of (heap_alloc_new wz _) _ rfl) (by intro u hu; simp at hu; rcases hu with rfl | rfl | rfl | rfl | rfl <;> first | exact HA4.out.one | rfl) (by unfold maxLen; omega) (by omega) ?_
           intro b bc2 w4 h1 h2 h3
           have H4 := (by first | exact kb4 HK.out HA4.out HV.out hn hb HR1.out (HA0.out _) h1 h2 h3 | exact kb4 HK.out HA4.out HV.out hn hb HR1.out (HA1.out _) h1 h2 h3 | exact kb4 HK.out HA4.out HV.out hn hb HR1.out (HA2.out _) h1 h2 h3 | exact kb4 HK.out HA4.out HV.out hn hb HR1.out (HA3.out _) h1 h2 h3 : w4.heap[kb]? = some (.cells K.cells 41 (0, 0)) ∧ KbP w K (.slice a n c) x (w4.setCell ⟨kb, 0, none⟩ (.slice (some ⟨b, 0, none⟩) (bn + 1) bc2)))
           have d1 : w4.cell? ⟨kb, 0, none⟩ = some K.bv := cell_of_row _ _ 0 _ _ _ H4.1
           have e1 : w4.frozen? ⟨kb, 0, none⟩ = false := frozen_of_row _ _ 0 _ _ H4.1
           have H4' : Hid (KbP w K (.slice a n c) x (w4.setCell ⟨kb, 0, none⟩ (.slice (some ⟨b, 0, none⟩) (bn + 1) bc2))) := H4.2
           clear h1 h2 h3 H4 y3 y3a p0 p1 p2 p3 p4))
    all_goals
      go_end0
      exact ⟨rfl, H4'.out⟩
  · go_upto_region 4 with fail
    have HA : Ah4 w wP (.slice a n c) bn P (.slice a n c) x n m true := by
      have hc : heC x bn = x := by unfold heC; rw [if_pos (of_decide_eq_true hkp)]
      refine ⟨HP.out.2, below_fr HP.out.1 _, ?_, fun k e => .inl e, rfl⟩
      rw [hc, HV.out.2.1]
      exact owns_fr HV.out.1 (below_fr HP.out.1 (fun _ => False)) (fun _ _ e => e)
    obtain ⟨wz, hwz⟩ : ∃ wz, wP = wz := ⟨_, rfl⟩
    rw [hwz] at HA ⊢
    have HA4 : Hid (Ah4 w wz (.slice a n c) bn P (.slice a n c) x n m true) := HA
    clear HA p0 p1 p2 p3 p4 HP HG
    obtain ⟨V, hVe⟩ : ∃ V, Value.slice a n c = V := ⟨_, rfl⟩
    have HA5 : Hid (Ah4 w wz (.slice a n c) bn P V x n m true) := by rw [← hVe]; exact HA4.out
    clear HA4
    have HA4 := HA5
    clear HA5 hVe
    obtain ⟨kp, hkf⟩ : ∃ kp, true = kp := ⟨_, rfl⟩
    rw [hkf] at HA4 hkp
    clear hkf
    clear hcv
    have hb4 := HK.out.1.fr HA4.out.fr (fun k e e2 => HV.out.2.2.2 k e2 e)
    have HB4 : Hid (KbI wz K) := hb4
    have y3 : wz.cell? ⟨kb, 0, none⟩ = some (.slice ba bn bc) := by
      have e := cell_of_row _ _ 0 _ _ _ hb4.box
      rw [HK.out.2.1] at e
      rw [← HK.out.2.2.2]; exact e
    clear hb4
    have p0 : wz.cell? ⟨P, 0, none⟩ = some V := cell_of_row _ _ 0 _ _ _ HA4.out.z
    have p1 : wz.cell? ⟨P, 1, none⟩ = some (.int .i64 (n : Int)) := cell_of_row _ _ 1 _ _ _ HA4.out.z
    have p2 : wz.cell? ⟨P, 2, none⟩ = some (.int .u8 m) := cell_of_row _ _ 2 _ _ _ HA4.out.z
    have p3 : wz.cell? ⟨P, 3, none⟩ = some (.string (strOfNums x)) := cell_of_row _ _ 3 _ _ _ HA4.out.z
    have p4 : wz.cell? ⟨P, 4, none⟩ = some (.bool kp) := cell_of_row _ _ 4 _ _ _ HA4.out.z
    obtain ⟨i1, j1, j2, j3, j4⟩ := info_parts infoHe
    have HA1 : Hid (∀ o, Below wz.heap.size wz (wz.drew.alloc o)) := fun o => (Below.refl wz.heap.size wz).drew.alloc (Nat.le_refl _) o
    have HA2 : Hid (∀ o, Below wz.heap.size wz (wz.alloc o).drew) := fun o => ((Below.refl wz.heap.size wz).alloc (Nat.le_refl _) o).drew
    have HA3 : Hid (∀ o, Below wz.heap.size wz (wz.drew.alloc o).drew) := fun o => (HA1.out o).drew
    have HA0 : Hid (∀ o, Below wz.heap.size wz (wz.alloc o)) := fun o => ((Below.refl wz.heap.size wz).alloc (Nat.le_refl _) o)
    have y3a : (wz.alloc (.cells #[V, .int .i64 (n : Int), .int .u8 m, .string (strOfNums x), .bool kp] 86)).cell? ⟨kb, 0, none⟩ = some (.slice ba bn bc) := (fr_alloc (fun _ => False) wz _).cell y3 (fun e => e)
    have HRow : Hid (wz.ownsRow 0 86 5 (.slice ba bn bc) bn ((List.range bn).flatMap (fun i => heR (K.bV i) (K.bX i) i))) := by
      have e := HB4.out.b.row
      rw [HK.out.2.2.2, HK.out.2.2.1] at e; exact e
    have hr1 : heR V x bn = [V, .int .i64 (n : Int), .int .u8 m, .string (strOfNums x), .bool kp] := by
      unfold heR; rw [HV.out.2.1, hkp, show mk8 bn = m from hm]
    have HR1 : Hid (heR V x bn = [V, .int .i64 (n : Int), .int .u8 m, .string (strOfNums x), .bool kp]) := hr1
    clear hr1
    go_region_law
      (first
        | (refine step_own (by rfl) (.tmp 33) (.tmp 35) 38 (by rfl) 86 i1 _ 5 64 Tryz.underlying38 j1 j2 j3 j4 (by rfl) (by decide) (.slice ba bn bc) bn ((List.range bn).flatMap (fun i => heR (K.bV i) (K.bX i) i)) (by rfl) (owns_fr HRow.out (below_fr (by first | exact HA1.out _ | exact HA2.out _ | exact HA3.out _ | exact HA0.out _) (fun _ => False)) (fun _ _ e => e)) ⟨wz.heap.size, 0, none⟩ 1 1 [V, .int .i64 (n : Int), .int .u8 m, .string (strOfNums x), .bool kp] (by rfl) (by decide) rfl (news_of (heap_alloc_new wz _) _ rfl) (by intro u hu; simp at hu; rcases hu with rfl | rfl | rfl | rfl | rfl <;> first | exact HA4.out.one | rfl) (by unfold maxLen; omega) (by omega) ?_
           intro b bc2 w4 h1 h2 h3
           have H4 := (by first | exact kb4 HK.out HA4.out HV.out hn hb HR1.out (HA0.out _) h1 h2 h3 | exact kb4 HK.out HA4.out HV.out hn hb HR1.out (HA1.out _) h1 h2 h3 | exact kb4 HK.out HA4.out HV.out hn hb HR1.out (HA2.out _) h1 h2 h3 | exact kb4 HK.out HA4.out HV.out hn hb HR1.out (HA3.out _) h1 h2 h3 : w4.heap[kb]? = some (.cells K.cells 41 (0, 0)) ∧ KbP w K (.slice a n c) x (w4.setCell ⟨kb, 0, none⟩ (.slice (some ⟨b, 0, none⟩) (bn + 1) bc2)))
           have d1 : w4.cell? ⟨kb, 0, none⟩ = some K.bv := cell_of_row _ _ 0 _ _ _ H4.1
           have e1 : w4.frozen? ⟨kb, 0, none⟩ = false := frozen_of_row _ _ 0 _ _ H4.1
           have H4' : Hid (KbP w K (.slice a n c) x (w4.setCell ⟨kb, 0, none⟩ (.slice (some ⟨b, 0, none⟩) (bn + 1) bc2))) := H4.2
           clear h1 h2 h3 H4 y3 y3a p0 p1 p2 p3 p4))
    all_goals
      go_end0
      exact ⟨rfl, H4'.out⟩
end Go.Proofs.YtcbebalakdkgnaaGreatDoor

namespace Go.Proofs.YtcbebalakdkgnaaGreatDoor
open Go.RowKit Rec

theorem infoI64 : (Tryz.prog.info? 3).map (fun i => (i.zero, i.size, i.bytes)) = some (some (.int .i64 0), 1, 8) := by kernel_rfl
theorem infoSI : (Tryz.prog.info? 70).map (fun i => (i.zero, i.size, i.bytes)) = some (some (.slice none 0 0), 1, 24) := by kernel_rfl
theorem mks_len (k : Nat) (m : Int) (xs : List Int) (h : k ≤ xs.length) : (mks k m xs).length = xs.length := by unfold mks; rw [List.length_append, List.length_replicate, List.length_drop]; omega
/-- what two appends leave: a list in each of two rows -/
structure TwA (ty el sz tB : Nat) (w w1 w3 w4 : World) (lv lv' : Value) (n kb j j' : Nat) (cs : Array Value) (V V' : Nat → Value) (M : Nat → Nat) (C C' : Nat → List Value) (v u : Value) (m : Nat) (c c' : List Value) (X Y : Value) : Prop where
  b1 : w1.heap[kb]? = some (.cells cs tB (0, 0))
  b3 : w3.heap[kb]? = some (.cells (cs.setIfInBounds j X) tB (0, 0))
  b4 : w4.heap[kb]? = some (.cells ((cs.setIfInBounds j X).setIfInBounds j' Y) tB (0, 0))
  i : LV ty 1 el sz w4 X (n + 1) (fun i => [up V n v i]) (up V n v) (up M n m) (up C n c)
  t : LV ty 1 el sz w4 Y (n + 1) (fun i => [up V' n u i]) (up V' n u) (up M n m) (up C' n c')
  it : ∀ k, hasL X (n + 1) (up V n v) k → ¬ hasL Y (n + 1) (up V' n u) k
  fr : Fr (fun k => k = kb ∨ lv.ownBlock = some k ∨ lv'.ownBlock = some k ∨ v.ownBlock = some k) w w4
  hi : ∀ k, hasL X (n + 1) (up V n v) k → hasL lv n V k ∨ v.ownBlock = some k ∨ w.heap.size ≤ k
  ht : ∀ k, hasL Y (n + 1) (up V' n u) k → hasL lv' n V' k ∨ w.heap.size ≤ k
theorem two_add {ty el sz tB : Nat} {w wy w1 w2 wb w3 : World} {lv lv' : Value} {n kb j j' b cap b' cap' m : Nat} {cs : Array Value} {V V' : Nat → Value} {M : Nat → Nat} {C C' : Nat → List Value} {v u : Value} {c c' : List Value} (hne : ty ≠ el) (hB1 : tB ≠ ty) (hB2 : tB ≠ el)
    (hi : LV ty 1 el sz w lv n (fun i => [V i]) V M C) (ht : LV ty 1 el sz w lv' n (fun i => [V' i]) V' M C') (it : ∀ k, hasL lv n V k → ¬ hasL lv' n V' k) (hbox : w.heap[kb]? = some (.cells cs tB (0, 0)))
    (f : Fr (fun k => v.ownBlock = some k) w wy) (hv : ∀ k, v.ownBlock = some k → ¬ hasL lv n V k ∧ ¬ hasL lv' n V' k ∧ k ≠ kb) (hu : ∀ k, u.ownBlock = some k → w.heap.size ≤ k ∧ v.ownBlock ≠ some k)
    (hV : wy.ownsRow 0 el sz v m c) (hU : wy.ownsRow 0 el sz u m c')
    (h1 : w1.ownsRow 0 ty 1 (.slice (some ⟨b, 0, none⟩) (n + 1) cap) (n + 1) ((List.range n).flatMap (fun i => [V i]) ++ [v])) (h2 : Fr (fun k => lv.ownBlock = some k) wy w1) (h3 : lv.ownBlock = some b ∨ wy.heap.size ≤ b)
    (hw2 : w2 = w1.setCell ⟨kb, j, none⟩ (.slice (some ⟨b, 0, none⟩) (n + 1) cap)) (hwb : Below w2.heap.size w2 wb)
    (h1' : w3.ownsRow 0 ty 1 (.slice (some ⟨b', 0, none⟩) (n + 1) cap') (n + 1) ((List.range n).flatMap (fun i => [V' i]) ++ [u])) (h2' : Fr (fun k => lv'.ownBlock = some k) wb w3) (h3' : lv'.ownBlock = some b' ∨ wb.heap.size ≤ b') :
    TwA ty el sz tB w w1 w3 (w3.setCell ⟨kb, j', none⟩ (.slice (some ⟨b', 0, none⟩) (n + 1) cap')) lv lv' n kb j j' cs V V' M C C' v u m c c' (.slice (some ⟨b, 0, none⟩) (n + 1) cap) (.slice (some ⟨b', 0, none⟩) (n + 1) cap') := by
  have yi := hi.fr f (fun k e e2 => (hv k e2).1 e)
  have yt := ht.fr f (fun k e e2 => (hv k e2).2.1 e)
  have yb : wy.heap[kb]? = some (.cells cs tB (0, 0)) := f.heap hbox (fun e => (hv kb e).2.2 rfl)
  have b1 : w1.heap[kb]? = some (.cells cs tB (0, 0)) := h2.heap yb (fun e => own_apartX yi.row yb (Ne.symm hB1) e)
  have i1 := yi.one hne hV (fun i hi' x e e2 => (hv x e2).1 (.inr ⟨i, hi', e⟩)) h1 h2
  have t1 := yt.fr h2 (fun k e e2 => it k (.inl e2) e)
  have U1 : w1.ownsRow 0 el sz u m c' := owns_fr hU h2 (fun x e1 e2 => own_two yi.row hU hne e2 e1)
  have s2 : Fr (fun k => k = kb) w1 w2 := by rw [hw2]; exact Fr.set
  have b2 : w2.heap[kb]? = some (.cells (cs.setIfInBounds j (.slice (some ⟨b, 0, none⟩) (n + 1) cap)) tB (0, 0)) := by rw [hw2]; exact heap_setCell_same _ _ _ _ _ _ b1
  have i2 := i1.fr s2 (fun k e => i1.box b1 hB2 hB1 e)
  have t2 := t1.fr s2 (fun k e => t1.box b1 hB2 hB1 e)
  have U2 := owns_fr U1 s2 (fun k e e2 => own_apartX U1 b1 (Ne.symm hB2) (by rw [e, show k = kb from e2]))
  have x2 : Fr (fun _ => False) w2 wb := below_fr hwb _
  have ib := i2.on hwb
  have tb := t2.on hwb
  have Ub := owns_fr U2 x2 (fun _ _ e => e)
  have bb := x2.heap b2 (fun e => e)
  have hsz : w.heap.size ≤ wy.heap.size := f.size
  have hib : ∀ k, hasL (.slice (some ⟨b, 0, none⟩) (n + 1) cap) (n + 1) (up V n v) k → hasL lv n V k ∨ v.ownBlock = some k ∨ w.heap.size ≤ k := fun k e => by
    rcases hasL_up (lv := lv) e with e | e | e
    · cases e
      exact h3.elim (fun e => .inl (.inl e)) (fun e => .inr (.inr (Nat.le_trans hsz e)))
    · exact .inr (.inl e)
    · exact .inl e
  have hwlt : w.heap.size ≤ wb.heap.size := Nat.le_trans hsz (Nat.le_trans h2.size (Nat.le_trans s2.size hwb.size))
  have htb : ∀ k, hasL (.slice (some ⟨b', 0, none⟩) (n + 1) cap') (n + 1) (up V' n u) k → hasL lv' n V' k ∨ w.heap.size ≤ k := fun k e => by
    rcases hasL_up (lv := lv') e with e | e | e
    · cases e
      exact h3'.elim (fun e => .inl (.inl e)) (fun e => .inr (Nat.le_trans hwlt e))
    · exact .inr (hu k e).1
    · exact .inl e
  have i3 := ib.fr h2' (fun k e e2 => by
    rcases hib k e with e3 | e3 | e3
    · exact it k e3 (.inl e2)
    · exact (hv k e3).2.1 (.inl e2)
    · exact absurd (ht.lt (.inl e2)) (by omega))
  have t3 := tb.one hne Ub (fun i hi' x e e2 => absurd (ht.lt (.inr ⟨i, hi', e⟩)) (by have := (hu x e2).1; omega)) h1' h2'
  have b3 := h2'.heap bb (fun e => own_apartX tb.row bb (Ne.symm hB1) e)
  have s4 : Fr (fun k => k = kb) w3 (w3.setCell ⟨kb, j', none⟩ (.slice (some ⟨b', 0, none⟩) (n + 1) cap')) := Fr.set
  have hblk : b < wb.heap.size ∧ b < w3.heap.size := by
    have e1 : b < wb.heap.size := owns_block ib.row rfl
    exact ⟨e1, Nat.lt_of_lt_of_le e1 h2'.size⟩
  refine ⟨b1, b3, heap_setCell_same _ _ _ _ _ _ b3, ?_, ?_, fun k e e2 => ?_, ?_, hib, htb⟩
  · rw [up1 (fun x _ => [x])]; exact i3.fr s4 (fun k e => i3.box b3 hB2 hB1 e)
  · rw [up1 (fun x _ => [x])]; exact t3.fr s4 (fun k e => t3.box b3 hB2 hB1 e)
  · rcases hasL_up (lv := lv') e2 with e2 | e2 | e2
    · cases e2
      rcases h3' with h3' | h3'
      · rcases hib _ e with e3 | e3 | e3
        · exact it _ e3 (.inl h3')
        · exact (hv _ e3).2.1 (.inl h3')
        · have e4 : w.heap.size ≤ b' := e3
          have e5 : b' < w.heap.size := ht.lt (.inl h3')
          omega
      · rcases hasL_up (lv := lv) e with e | e | e
        · cases e; omega
        · have e5 : b' < wy.heap.size := owns_block hV e
          have := h2.size; have := s2.size; have := hwb.size; omega
        · have e5 : b' < w.heap.size := hi.lt e
          omega
    · rcases hasL_up (lv := lv) e with e | e | e
      · cases e
        exact own_two i1.row U1 hne rfl e2
      · exact (hu k e2).2 e
      · have := hi.lt e; have := (hu k e2).1; omega
    · rcases hib k e with e3 | e3 | e3
      · exact it k e3 e2
      · exact (hv k e3).2.1 e2
      · exact absurd (ht.lt e2) (by omega)
  · refine ((((f.mono (fun k e => .inr (.inr (.inr e)))).trans h2 (fun k e => .inl (.inr (.inl e)))).trans s2 (fun k e => .inl (.inl e))).trans x2 (fun _ e => e.elim)).trans h2' (fun k e => .inl (.inr (.inr (.inl e)))) |>.trans s4 (fun k e => .inl (.inl e))
/-- the book with one row of numbers more -/
def Kb.addI (K : Kb) (iv tv V U : Value) (x : List Int) : Kb := { K with iv := iv, tv := tv, im := K.im + 1, iV := up K.iV K.im V, tV := up K.tV K.im U, iX := up K.iX K.im x }
theorem KbI.addI {w w1 w3 w4 : World} {K : Kb} {v u X Y : Value} {x : List Int} (h : KbI w K) (hv : ∀ k, v.ownBlock = some k → ¬ K.all k) (hx : x.length ≤ 10000000) (hn : K.im + 1 ≤ 1000000000000)
    (hT : TwA 70 3 1 41 w w1 w3 w4 K.iv K.tv K.im K.kb 1 2 K.cells K.iV K.tV (fun i => (K.iX i).length) (fun i => (K.iX i).map (Value.int .i64)) (fun i => (K.iX i).map (Value.int .i64)) v u x.length (x.map (Value.int .i64)) (x.map (Value.int .i64)) X Y) :
    KbI w4 (K.addI X Y v u x) ∧ Fr (fun k => K.all k ∨ v.ownBlock = some k) w w4 ∧ ∀ k, (K.addI X Y v u x).all k → K.all k ∨ v.ownBlock = some k ∨ w.heap.size ≤ k := by
  have hF : ∀ {ty rs el sz : Nat} {lv : Value} {n : Nat} {R : Nat → List Value} {V : Nat → Value} {M : Nat → Nat} {C : Nat → List Value}, LV ty rs el sz w lv n R V M C → (∀ k, hasL lv n V k → K.all k) → 70 ≠ ty → 70 ≠ el → 41 ≠ ty → 41 ≠ el → LV ty rs el sz w4 lv n R V M C := by
    intro ty rs el sz lv n R V M C hL hA n1 n2 n3 n4
    refine hL.fr hT.fr (fun k e e2 => ?_)
    rcases e2 with e2 | e2 | e2 | e2
    · exact hL.box h.box n4 n3 e e2
    · rcases e with e | ⟨i, hi, e⟩
      · exact own_two h.i.row hL.row n1 e2 e
      · exact own_two h.i.row (hL.ls i hi) n2 e2 e
    · rcases e with e | ⟨i, hi, e⟩
      · exact own_two h.t.row hL.row n1 e2 e
      · exact own_two h.t.row (hL.ls i hi) n2 e2 e
    · exact hv k e2 (hA k e)
  have hi := hT.i
  have ht := hT.t
  have e1 : (fun i => (up K.iX K.im x i).length) = up (fun i => (K.iX i).length) K.im x.length := up1 (fun (y : List Int) _ => y.length) _ _ _
  have e2 : (fun i => (up K.iX K.im x i).map (Value.int .i64)) = up (fun i => (K.iX i).map (Value.int .i64)) K.im (x.map (Value.int .i64)) := up1 (fun (y : List Int) _ => y.map (Value.int .i64)) _ _ _
  rw [← e1, ← e2] at hi ht
  refine ⟨⟨hT.b4, hF h.b (fun k e => .inr (.inl e)) (by decide) (by decide) (by decide) (by decide), hi, ht, hT.it, h.bx, ?_, h.bn, hn⟩, ?_, ?_⟩
  · intro i hi
    by_cases e : i = K.im
    · subst e; simp only [Kb.addI, up_eq1]; exact hx
    · simp only [Kb.addI, up_ne _ _ e]; exact h.ix i (by have : i < K.im + 1 := hi; omega)
  · exact hT.fr.mono (fun k e => by
      rcases e with e | e | e | e
      · exact .inl (.inl e)
      · exact .inl (.inr (.inr (.inl (.inl e))))
      · exact .inl (.inr (.inr (.inr (.inl e))))
      · exact .inr e)
  · rintro k (e | e | e | e)
    · exact .inl (.inl e)
    · exact .inl (.inr (.inl e))
    · rcases hT.hi k e with e | e | e
      · exact .inl (.inr (.inr (.inl e)))
      · exact .inr (.inl e)
      · exact .inr (.inr e)
    · rcases hT.ht k e with e | e
      · exact .inl (.inr (.inr (.inr e)))
      · exact .inr (.inr e)
/-- the book with one row of acts more -/
theorem app_zeroI (w : World) (a : Option Addr) (c : Nat) : (Builtin.append_ #[70, 70] 70 #[.slice none 0 0, .slice a 0 c]).run Tryz.prog w = .ok (.slice none 0 0) w := by
  obtain ⟨i0, hi, hz0, hz1, hz2⟩ := info_parts infoI64
  cases a <;> simp [Builtin.append_, run_underlying Tryz.underlying70, sizeOf, typeInfo, hi, Builtin.lenOf, Builtin.firstCells, loadCells, loadCellsFrom]
/-- a copy of a row, by an append to nothing -/
theorem wp_cpyV {ops : Array Oper} {rest : List Oper} {o : Oper} {a : Act} {Q : Exit → Act → World → Prop} {w : World} (hgd : o.guard = none) (s x : Operand) (t : TypeId)
    (ho : o.op = .call { callee := .builtin .append, args := #[s, x], argTypes := #[t, t] }) (hty : o.type = t) (hz0 : ∀ (w : World) (a : Option Addr) (c : Nat), (Builtin.append_ #[t, t] t #[.slice none 0 0, .slice a 0 c]).run Tryz.prog w = .ok (.slice none 0 0) w)
    (e : TypeId) (i0 : TypeInfo) (z : Value) (size bytes : Nat) (ht : Tryz.prog.underlying t = some (.slice e)) (hi : Tryz.prog.info? e = some i0) (hz : i0.zero = some z) (hsize : i0.size = size) (hby : i0.bytes = bytes) (hzs : z.cells.size = size) (hsz : 0 < size)
    (hs : a.eval s = .slice none 0 0) (v : Value) (n : Nat) (xs : List Value) (hx : a.eval x = v) (hv : w.ownsRow 0 e size v n xs) (h1 : ∀ u ∈ xs, u.oneCell' = true) (h63 : n ≤ maxLen) (h47 : n * bytes ≤ 140737488355328)
    (h : ∀ u w', w'.ownsRow 0 e size u n xs → (∀ k, u.ownBlock = some k → w.heap.size ≤ k) → (∃ ua uc, u = .slice ua n uc ∧ n ≤ uc ∧ (n = 0 ∨ ∃ g, ua = some ⟨g, 0, none⟩)) → Below w.heap.size w w' → wpList Tryz.prog ops Q rest (a.put o.dst u) w') : wpList Tryz.prog ops Q (o :: rest) a w := by
  by_cases h0 : n = 0
  · subst h0
    have hxs : xs = [] := List.eq_nil_of_length_eq_zero (by rw [hv.1, Nat.zero_mul])
    obtain ⟨va, vc, rfl, _⟩ := owns_slice hv
    refine wpList_plain hgd fun K hK => ?_
    unfold Oper.wp execOp
    simp only [ho, hty, resolve, invoke, builtin, Sem.run_bind, Sem.run_pure, Result.andThen_ok, List.map_toArray, List.map_cons, List.map_nil, hs, hx, hz0 w va vc]
    exact hK _ _ (h _ w (by rw [hxs]; exact ⟨by simp, .inl ⟨rfl, rfl⟩⟩) (fun k e => by cases e) ⟨none, 0, rfl, Nat.le_refl _, .inl rfl⟩ (Below.refl _ _))
  · obtain ⟨va, cap, rfl, _, hg, _⟩ := owns_slice hv
    obtain ⟨g, rfl⟩ := hg.resolve_left h0
    refine wp_own hgd s x t ho e i0 z size bytes ht hi hz hsize hby hzs hsz (.slice none 0 0) 0 [] hs ⟨by simp, .inl ⟨rfl, rfl⟩⟩ ⟨g, 0, none⟩ n cap xs hx (by omega) hv.1 (hv.cells rfl) h1 (by omega) (by rw [Nat.zero_add]; exact h47) ?_
    intro g2 cap2 w2 r1 r2 r3
    rw [Nat.zero_add, List.nil_append] at r1
    rw [Nat.zero_add]
    have hc : n ≤ cap2 := by
      rcases r1.2 with ⟨e2, _⟩ | ⟨_, _, _, e2, _, _, h3, _⟩
      · cases e2
      · cases e2; exact h3
    exact h _ w2 r1 (fun k e2 => by cases e2; exact r3.elim (fun e => by cases e) id) ⟨_, _, rfl, hc, .inr ⟨_, rfl⟩⟩ (r2.below _ (fun k e => by cases e) (Nat.le_refl _))
end Go.Proofs.YtcbebalakdkgnaaGreatDoor
