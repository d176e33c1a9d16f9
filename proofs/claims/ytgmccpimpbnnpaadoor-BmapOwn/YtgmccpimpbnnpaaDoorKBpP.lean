import Derived.Test.YtgmccpimpbnnpaaDoorKBpH
import Derived.Test.YtgmccpimpbnnpaaDoorKTxBm
import Derived.Test.YtgmccpimpbnnpaaDoorKSpN
import Derived.ChangeKeysEq
import Derived.Laws.StructEq
import Derived.Laws.CopyRow
import Derived.Test.YtgmccpimpbnnpaaDoorKARep
import Derived.Deep.RegionHeld3
namespace Go.Proofs.YtgmccpimpbnnpaaDoor
open Go.RowKit Go.Maps Rec
set_option maxRecDepth 100000 in
theorem wh1_ok (w : World) (E Tb Mb : Nat) (u : FrameMode) (hc : w.cell? ⟨E, 0, none⟩ = some (.int .i64 0)) : CallsD Tryd.prog 46 #[.pointer (some ⟨E, 0, none⟩), .pointer (some ⟨Tb, 0, none⟩), .pointer (some ⟨Mb, 0, none⟩)] u w fun e u' w' => u' = u ∧ (e = .returned (.tuple #[]) ∧ w = w') := by
  refine callsD_of_wp (R := fun e w' => e = .returned (.tuple #[]) ∧ w = w') Tryd.func46 rfl ?_
  simp only [Tryd.ntmps46, List.size_toArray, List.length_cons, List.length_nil, Nat.reduceAdd, Nat.reduceSub, Array.replicate_succ, Array.replicate_zero, List.push_toArray, List.append_toArray, List.nil_append, List.cons_append]
  go_wp2
  go_end0
  exact ⟨rfl, rfl⟩
set_option maxRecDepth 100000 in
theorem wh1_bad (w : World) (E Tb Mb t m z : Nat) (u : FrameMode) (P : World → Prop) (hz : z ≠ 0) (hc : w.cell? ⟨E, 0, none⟩ = some (.int .i64 (z : Int))) (ht : w.cell? ⟨Tb, 0, none⟩ = some (.pointer (some ⟨t, 0, none⟩))) (hm : w.cell? ⟨Mb, 0, none⟩ = some (.int .i64 (m : Int)))
    (hB : Calls Tryd.prog 47 #[.pointer (some ⟨t, 0, none⟩), .int .i64 (m : Int)] w fun e w' => e = .returned (.int .i64 0) ∧ P w') : CallsD Tryd.prog 46 #[.pointer (some ⟨E, 0, none⟩), .pointer (some ⟨Tb, 0, none⟩), .pointer (some ⟨Mb, 0, none⟩)] u w fun e u' w' => u' = u ∧ (e = .returned (.tuple #[]) ∧ P w') := by
  have HB : Hid (Calls Tryd.prog 47 #[.pointer (some ⟨t, 0, none⟩), .int .i64 (m : Int)] w fun e w' => e = .returned (.int .i64 0) ∧ P w') := hB
  have hz' : ((z : Int) != 0) = true := by simp; omega
  have hz2 : ((z : Int) == 0) = false := by simp; omega
  clear hB hz
  refine callsD_of_wp (R := fun e w' => e = .returned (.tuple #[]) ∧ P w') Tryd.func46 rfl ?_
  simp only [Tryd.ntmps46, List.size_toArray, List.length_cons, List.length_nil, Nat.reduceAdd, Nat.reduceSub, Array.replicate_succ, Array.replicate_zero, List.push_toArray, List.append_toArray, List.nil_append, List.cons_append]
  go_wp2_with (go_at_call 47; refine HB.out.mono ?_; rintro e w' ⟨rfl, hp⟩)
  go_end0
  exact ⟨rfl, hp⟩
structure Ob (w : World) (p t m M1 : Nat) (e : Int) : Prop where
  t : w.heap[p]? = some (.cells #[.pointer (some ⟨t, 0, none⟩)] 26 (0, 0))
  e : w.heap[p + 1]? = some (.cells #[.int .i64 e] 38 (0, 0))
  m : w.heap[M1]? = some (.cells #[.int .i64 (m : Int)] 3 (0, 0))
  ne : p + 1 < M1
theorem Ob.fr {S : Nat → Prop} {w w' : World} {p t m M1 : Nat} {e : Int} (h : Ob w p t m M1 e) (x : Fr S w w') (h0 : ¬ S p) (h1 : ¬ S (p + 1)) (h2 : ¬ S M1) : Ob w' p t m M1 e := ⟨x.heap h.t h0, x.heap h.e h1, x.heap h.m h2, h.ne⟩
theorem Ob.set {w : World} {p t m M1 : Nat} {e : Int} (h : Ob w p t m M1 e) (y : Int) : Ob (w.setCell ⟨p + 1, 0, none⟩ (.int .i64 y)) p t m M1 y :=
  ⟨(Fr.set (g := p + 1)).heap h.t (by show ¬ p = p + 1; omega), heap_setCell_same _ _ 0 _ _ (.int .i64 y) h.e, (Fr.set (g := p + 1)).heap h.m (by have := h.ne; show ¬ M1 = p + 1; omega), h.ne⟩
theorem Ob.cells {w : World} {p t m M1 : Nat} {e : Int} (h : Ob w p t m M1 e) : w.cell? ⟨p, 0, none⟩ = some (.pointer (some ⟨t, 0, none⟩)) ∧ w.cell? ⟨p + 1, 0, none⟩ = some (.int .i64 e) ∧ w.frozen? ⟨p + 1, 0, none⟩ = false ∧ w.cell? ⟨M1, 0, none⟩ = some (.int .i64 (m : Int)) :=
  ⟨by rw [cell_of_row _ _ _ _ _ _ h.t]; rfl, by rw [cell_of_row _ _ _ _ _ _ h.e]; rfl, frozen_of_row _ _ _ _ _ h.e, by rw [cell_of_row _ _ _ _ _ _ h.m]; rfl⟩
structure Bck (w0 w w' : World) (D : Dk) (T T' : Tx) (n : Nat) (S : Nat → Prop) : Prop where
  mv : SMv S w T w' T'
  spc : Spc w0 w' D T' n
  c : T'.c = T.c
  us : T'.us = T.us
structure WhE (w0 w w' : World) (D : Dk) (T T' : Tx) (n : Nat) (S : Nat → Prop) (A : Nat → Tx → World → Prop) (E : Nat) (w1 : World) : Prop where
  gon : Gon w0 w w1 D T T' n S
  ext : ∃ m, Ext T T' m
  a : A 0 T' w1
  fr : Fr (fun k => k = E) w1 w'
  le : w.heap.size ≤ E
  out : Out w0 w1 D T' E
theorem back_any (w0 w : World) (D : Dk) (T T' : Tx) (n : Nat) (h : Spc w0 w D T' n) (hx : ∃ m, Ext T T' m) (hc : (lst T.c n).length ≤ 96) (hok : ∀ i, i < n → (tv D T i).length = 512 ∧ ∀ j, 0 ≤ nth (tv D T i) j ∧ nth (tv D T i) j < 256) :
    Calls Tryd.prog 47 #[.pointer (some ⟨T'.t, 0, none⟩), .int .i64 (T.us.length : Nat)] w fun e w' => e = .returned (.int .i64 0) ∧ ∃ T'', TMv w T' w' T'' ∧ Spc w0 w' D T'' n ∧ T''.c = T.c ∧ T''.us = T.us := by
  obtain ⟨m, ext, h1, h2, h3⟩ := hx
  have hd : T'.us.drop T.us.length = ext := by rw [h1, List.drop_left]
  have ht : T'.us.take T.us.length = T.us := by rw [h1, List.take_left]
  refine (tback_ok w T' h.ses.tx (by rw [h.nb]; exact h.hi) T.us.length (by rw [h1, List.length_append]; omega) (by rw [hd, h3, h.nb]; exact hc)).mono ?_
  rintro e w' ⟨rfl, T'', g1, g2, g3, g4⟩
  rw [hd, h3] at g3
  rw [ht] at g4
  refine ⟨rfl, T'', g2, ⟨h.ses.mv g1 g2, h.dn, g2.nb.trans h.nb, h.lo, h.hi, fun i hi => ?_⟩, g3, g4⟩
  have := hok i hi
  unfold tv at this ⊢
  rw [g3]
  exact this
set_option maxRecDepth 100000 in
set_option maxHeartbeats 8000000 in
theorem whole_add (w0 w : World) (D : Dk) (T : Tx) (n : Nat) (h : Spc w0 w D T n) (S : Nat → Prop) (hS : ∀ k, S k → k < w.heap.size) (c1 c2 c3 c4 c5 : Nat) (A : Nat → Tx → World → Prop)
    (hDo : ∀ wx, Below w.heap.size w wx → Calls Tryd.prog 22 #[.pointer (some ⟨c1, 0, none⟩), .pointer (some ⟨c2, 0, none⟩), .pointer (some ⟨c3, 0, none⟩), .pointer (some ⟨c4, 0, none⟩), .pointer (some ⟨c5, 0, none⟩)] wx fun e w' => ∃ (z : Nat) (T' : Tx), e = .returned (.int .i64 (z : Int)) ∧ Gon w0 wx w' D T T' n S ∧ (∃ m, Ext T T' m) ∧ A z T' w') :
    Calls Tryd.prog 21 #[.pointer (some ⟨T.t, 0, none⟩), .func (.func 22) #[] #[.pointer (some ⟨c1, 0, none⟩), .pointer (some ⟨c2, 0, none⟩), .pointer (some ⟨c3, 0, none⟩), .pointer (some ⟨c4, 0, none⟩), .pointer (some ⟨c5, 0, none⟩)]] w fun e w' => ∃ (z : Nat) (T' : Tx), e = .returned (.int .i64 (z : Int)) ∧ ((z = 0 ∧ ∃ E w1, WhE w0 w w' D T T' n S A E w1) ∨ (z ≠ 0 ∧ (∃ T1 w1, A z T1 w1) ∧ Bck w0 w w' D T T' n S)) := by
  have hcn : (lst T.c n).length ≤ 96 := by have := h.ses.tx.cnt; rw [h.nb] at this; exact this
  have HS : Hid (Spc w0 w D T n ∧ (∀ k, S k → k < w.heap.size) ∧ (lst T.c n).length ≤ 96) := ⟨h, hS, hcn⟩
  have HM : Hid (∀ wx, Below w.heap.size w wx → Calls Tryd.prog 45 #[.pointer (some ⟨T.t, 0, none⟩)] wx fun e w' => e = .returned (.tuple #[.int .i64 (T.us.length : Nat), .int .i64 0]) ∧ Below wx.heap.size wx w') := fun wx hb => mark_any wx T (h.on hb).ses.tx
  have HD : Hid (∀ wx, Below w.heap.size w wx → Calls Tryd.prog 22 #[.pointer (some ⟨c1, 0, none⟩), .pointer (some ⟨c2, 0, none⟩), .pointer (some ⟨c3, 0, none⟩), .pointer (some ⟨c4, 0, none⟩), .pointer (some ⟨c5, 0, none⟩)] wx fun e w' => ∃ (z : Nat) (T' : Tx), e = .returned (.int .i64 (z : Int)) ∧ Gon w0 wx w' D T T' n S ∧ (∃ m, Ext T T' m) ∧ A z T' w') := hDo
  clear h hS hcn hDo
  obtain ⟨m, hm⟩ : ∃ m, T.us.length = m := ⟨_, rfl⟩
  rw [hm] at HM
  have HMm : Hid (T.us.length = m) := hm
  obtain ⟨tt, htt⟩ : ∃ tt, T.t = tt := ⟨_, rfl⟩
  have HTt : Hid (T.t = tt) := htt
  rw [htt] at HM ⊢
  clear hm htt
  obtain ⟨wz, hwz⟩ : ∃ wz, (w.alloc (.cells #[.pointer (some ⟨tt, 0, none⟩)] 26)).alloc (.cells #[.int .i64 0] 38) = wz := ⟨_, rfl⟩
  have HZ : Hid (Below w.heap.size w wz ∧ wz.heap[w.heap.size]? = some (.cells #[.pointer (some ⟨tt, 0, none⟩)] 26 (0, 0)) ∧ wz.heap[w.heap.size + 1]? = some (.cells #[.int .i64 0] 38 (0, 0)) ∧ wz.heap.size = w.heap.size + 2) := by
    rw [← hwz]
    refine ⟨(below_new _).alloc (by simp) _, (Below.heap_alloc _ _ _ (by simp)).trans (heap_alloc_new _ _), ?_, by simp⟩
    have := heap_alloc_new (w.alloc (.cells #[.pointer (some ⟨tt, 0, none⟩)] 26)) (.cells #[.int .i64 0] 38)
    rw [World.size_alloc] at this
    exact this
  have z1 : wz.cell? ⟨w.heap.size, 0, none⟩ = some (.pointer (some ⟨tt, 0, none⟩)) := by rw [cell_of_row _ _ _ _ _ _ HZ.out.2.1]; rfl
  go_enter_defers Tryd.func21, Tryd.ntmps21
  go_upto_region 3 with (go_at_call 45; refine (HM.out _ HZ.out.1).mono ?_; rintro e w1 ⟨rfl, hb⟩; have H1 : Hid (Below wz.heap.size wz w1) := hb; clear hb HM)
  obtain ⟨M1, hM1⟩ : ∃ M1, w1.heap.size = M1 := ⟨_, rfl⟩
  obtain ⟨w2, hw2⟩ : ∃ w2, w1.alloc (.cells #[.int .i64 (m : Int)] 3) = w2 := ⟨_, rfl⟩
  have H2 : Hid (Ob w2 w.heap.size tt m M1 0 ∧ Below w.heap.size w w2 ∧ w2.heap.size = M1 + 1) := by
    have hs := HZ.out.2.2.2
    have hs1 := H1.out.size
    have hb1 : Below w.heap.size w w1 := HZ.out.1.trans (H1.out.mono HZ.out.1.size)
    have hb2 : Below w1.heap.size w1 w2 := by rw [← hw2]; exact below_new _
    refine ⟨⟨(hb2.block _ (by omega)).trans ((H1.out.block _ (by omega)).trans HZ.out.2.1), (hb2.block _ (by omega)).trans ((H1.out.block _ (by omega)).trans HZ.out.2.2.1), ?_, by omega⟩, hb1.trans (hb2.mono hb1.size), by rw [← hw2]; simp [hM1]⟩
    rw [← hw2, ← hM1]
    exact heap_alloc_new _ _
  rw [hw2, hM1]
  clear hw2 hwz z1
  obtain ⟨z1, z2, z3, z4⟩ := H2.out.1.cells
  have HD2 : Hid (Calls Tryd.prog 22 #[.pointer (some ⟨c1, 0, none⟩), .pointer (some ⟨c2, 0, none⟩), .pointer (some ⟨c3, 0, none⟩), .pointer (some ⟨c4, 0, none⟩), .pointer (some ⟨c5, 0, none⟩)] w2 fun e w' => ∃ (z : Nat) (T' : Tx), e = .returned (.int .i64 (z : Int)) ∧ (Gon w0 w2 w' D T T' n S ∧ (∃ m, Ext T T' m) ∧ A z T' w') ∧ Ob w' w.heap.size tt m M1 0) := by
    refine (HD.out w2 H2.out.2.1).mono ?_
    rintro e w' ⟨z, T', rfl, h1, h2, h3⟩
    have hno : ∀ k, w.heap.size ≤ k → ¬ (T.has k ∨ S k) := fun k hk e => e.elim (fun e => by have := HS.out.1.ses.tx.lt (.inl e); omega) (fun e => by have := HS.out.2.1 k e; omega)
    have hne := H2.out.1.ne
    exact ⟨z, T', rfl, ⟨h1, h2, h3⟩, H2.out.1.fr h1.mv.fr (hno _ (by omega)) (hno _ (by omega)) (hno _ (by omega))⟩
  go_wp2_with (go_at_call 22; refine HD2.out.mono ?_; rintro e w3 ⟨z, T1, rfl, hx, hob⟩; have H3 : Hid ((Gon w0 w2 w3 D T T1 n S ∧ (∃ m, Ext T T1 m) ∧ A z T1 w3) ∧ Ob w3 w.heap.size tt m M1 0) := ⟨hx, hob⟩; obtain ⟨y1, y2, y3, y4⟩ := hob.cells; clear hx hob HD2)
  have hob := H3.out.2.set (z : Int)
  obtain ⟨k1, k2, k3, k4⟩ := hob.cells
  have hs2 := H2.out.2.2
  have hne := H2.out.1.ne
  have oE : Out w0 w3 D T1 (w.heap.size + 1) := (Out.of HS.out.1 (w1 := w2) (by omega) (by omega)).mv H3.out.1.1.mv
  refine leaves_cons (f := 46) (args := #[.pointer (some ⟨w.heap.size + 1, 0, none⟩), .pointer (some ⟨w.heap.size, 0, none⟩), .pointer (some ⟨M1, 0, none⟩)]) (by simp) (by simp [go_sem]) ?_
  have HG : Hid (Gon w0 w w3 D T T1 n S) := (Gon.on HS.out.1 H2.out.2.1 (S := S)).trans H3.out.1.1 (fun _ e => .inl e)
  by_cases hz : z = 0
  · subst hz
    have k2' : (w3.setCell ⟨w.heap.size + 1, 0, none⟩ (.int .i64 0)).cell? ⟨w.heap.size + 1, 0, none⟩ = some (.int .i64 0) := k2
    refine (wh1_ok _ _ _ _ _ k2).mono ?_
    rintro e u' w9 ⟨rfl, rfl, rfl⟩
    have HE : Hid (∃ E w1, WhE w0 w (w3.setCell ⟨w.heap.size + 1, 0, none⟩ (.int .i64 0)) D T T1 n S A E w1) := ⟨_, _, HG.out, H3.out.1.2.1, H3.out.1.2.2, Fr.set, by omega, oE⟩
    simp [Leaves, settle, results, Tryd.results21, go_sem, k2']
    refine ⟨0, rfl, T1, .inl ⟨rfl, HE.out⟩⟩
  · have hsp : Spc w0 (w3.setCell ⟨w.heap.size + 1, 0, none⟩ (.int .i64 (z : Int))) D T1 n := HG.out.spc.frG (Fr.set (g := w.heap.size + 1)) (fun k hk => by have hk : k = w.heap.size + 1 := hk; subst hk; exact .inr oE)
    have hbk := back_any w0 _ D T T1 n hsp H3.out.1.2.1 HS.out.2.2 HS.out.1.ok
    rw [HG.out.mv.t, HTt.out, HMm.out] at hbk
    refine (wh1_bad _ _ _ _ tt m z _ _ hz k2 k1 k4 hbk).mono ?_
    rintro e u' w9 ⟨rfl, rfl, T', h1, h2, h3, h4⟩
    have hno : ∀ k, k = w.heap.size ∨ k = w.heap.size + 1 ∨ k = M1 → ¬ T1.has k := fun k hk hh => by
      rcases H3.out.1.1.mv.has k hh with e | e
      · have := HS.out.1.ses.tx.lt (.inl e); omega
      · omega
    have hob9 := hob.fr h1.fr (hno _ (.inl rfl)) (hno _ (.inr (.inl rfl))) (hno _ (.inr (.inr rfl)))
    obtain ⟨j1, j2, j3, j4⟩ := hob9.cells
    have HE : Hid ((∃ T1 w1, A z T1 w1) ∧ Bck w0 w w9 D T T' n S) := by
      refine ⟨⟨T1, w3, H3.out.1.2.2⟩, (HG.out.mv.trans (SMv.fr_ (Fr.set (g := w.heap.size + 1) (k := 0) (v := .int .i64 (z : Int)))) (fun k hk => .inr (by have hk : k = w.heap.size + 1 := hk; omega))).trans (SMv.of h1 (S := fun _ => False)) (fun _ e => e.elim), h2, h3, h4⟩
    simp [Leaves, settle, results, Tryd.results21, go_sem, j2]
    exact ⟨z, rfl, T', .inr ⟨hz, HE.out⟩⟩
set_option maxRecDepth 100000 in
set_option maxHeartbeats 8000000 in
theorem whole_cut (w0 w : World) (D : Dk) (T : Tx) (n : Nat) (h : Spc w0 w D T n) (S : Nat → Prop) (hS : ∀ k, S k → k < w.heap.size) (c1 c2 c3 c4 : Nat) (A : Nat → Tx → World → Prop)
    (hDo : ∀ wx, Below w.heap.size w wx → Calls Tryd.prog 40 #[.pointer (some ⟨c1, 0, none⟩), .pointer (some ⟨c2, 0, none⟩), .pointer (some ⟨c3, 0, none⟩), .pointer (some ⟨c4, 0, none⟩)] wx fun e w' => ∃ (z : Nat) (T' : Tx), e = .returned (.int .i64 (z : Int)) ∧ Gon w0 wx w' D T T' n S ∧ (∃ m, Ext T T' m) ∧ A z T' w') :
    Calls Tryd.prog 21 #[.pointer (some ⟨T.t, 0, none⟩), .func (.func 40) #[] #[.pointer (some ⟨c1, 0, none⟩), .pointer (some ⟨c2, 0, none⟩), .pointer (some ⟨c3, 0, none⟩), .pointer (some ⟨c4, 0, none⟩)]] w fun e w' => ∃ (z : Nat) (T' : Tx), e = .returned (.int .i64 (z : Int)) ∧ ((z = 0 ∧ ∃ E w1, WhE w0 w w' D T T' n S A E w1) ∨ (z ≠ 0 ∧ (∃ T1 w1, A z T1 w1) ∧ Bck w0 w w' D T T' n S)) := by
  have hcn : (lst T.c n).length ≤ 96 := by have := h.ses.tx.cnt; rw [h.nb] at this; exact this
  have HS : Hid (Spc w0 w D T n ∧ (∀ k, S k → k < w.heap.size) ∧ (lst T.c n).length ≤ 96) := ⟨h, hS, hcn⟩
  have HM : Hid (∀ wx, Below w.heap.size w wx → Calls Tryd.prog 45 #[.pointer (some ⟨T.t, 0, none⟩)] wx fun e w' => e = .returned (.tuple #[.int .i64 (T.us.length : Nat), .int .i64 0]) ∧ Below wx.heap.size wx w') := fun wx hb => mark_any wx T (h.on hb).ses.tx
  have HD : Hid (∀ wx, Below w.heap.size w wx → Calls Tryd.prog 40 #[.pointer (some ⟨c1, 0, none⟩), .pointer (some ⟨c2, 0, none⟩), .pointer (some ⟨c3, 0, none⟩), .pointer (some ⟨c4, 0, none⟩)] wx fun e w' => ∃ (z : Nat) (T' : Tx), e = .returned (.int .i64 (z : Int)) ∧ Gon w0 wx w' D T T' n S ∧ (∃ m, Ext T T' m) ∧ A z T' w') := hDo
  clear h hS hcn hDo
  obtain ⟨m, hm⟩ : ∃ m, T.us.length = m := ⟨_, rfl⟩
  rw [hm] at HM
  have HMm : Hid (T.us.length = m) := hm
  obtain ⟨tt, htt⟩ : ∃ tt, T.t = tt := ⟨_, rfl⟩
  have HTt : Hid (T.t = tt) := htt
  rw [htt] at HM ⊢
  clear hm htt
  obtain ⟨wz, hwz⟩ : ∃ wz, (w.alloc (.cells #[.pointer (some ⟨tt, 0, none⟩)] 26)).alloc (.cells #[.int .i64 0] 38) = wz := ⟨_, rfl⟩
  have HZ : Hid (Below w.heap.size w wz ∧ wz.heap[w.heap.size]? = some (.cells #[.pointer (some ⟨tt, 0, none⟩)] 26 (0, 0)) ∧ wz.heap[w.heap.size + 1]? = some (.cells #[.int .i64 0] 38 (0, 0)) ∧ wz.heap.size = w.heap.size + 2) := by
    rw [← hwz]
    refine ⟨(below_new _).alloc (by simp) _, (Below.heap_alloc _ _ _ (by simp)).trans (heap_alloc_new _ _), ?_, by simp⟩
    have := heap_alloc_new (w.alloc (.cells #[.pointer (some ⟨tt, 0, none⟩)] 26)) (.cells #[.int .i64 0] 38)
    rw [World.size_alloc] at this
    exact this
  have z1 : wz.cell? ⟨w.heap.size, 0, none⟩ = some (.pointer (some ⟨tt, 0, none⟩)) := by rw [cell_of_row _ _ _ _ _ _ HZ.out.2.1]; rfl
  go_enter_defers Tryd.func21, Tryd.ntmps21
  go_upto_region 3 with (go_at_call 45; refine (HM.out _ HZ.out.1).mono ?_; rintro e w1 ⟨rfl, hb⟩; have H1 : Hid (Below wz.heap.size wz w1) := hb; clear hb HM)
  obtain ⟨M1, hM1⟩ : ∃ M1, w1.heap.size = M1 := ⟨_, rfl⟩
  obtain ⟨w2, hw2⟩ : ∃ w2, w1.alloc (.cells #[.int .i64 (m : Int)] 3) = w2 := ⟨_, rfl⟩
  have H2 : Hid (Ob w2 w.heap.size tt m M1 0 ∧ Below w.heap.size w w2 ∧ w2.heap.size = M1 + 1) := by
    have hs := HZ.out.2.2.2
    have hs1 := H1.out.size
    have hb1 : Below w.heap.size w w1 := HZ.out.1.trans (H1.out.mono HZ.out.1.size)
    have hb2 : Below w1.heap.size w1 w2 := by rw [← hw2]; exact below_new _
    refine ⟨⟨(hb2.block _ (by omega)).trans ((H1.out.block _ (by omega)).trans HZ.out.2.1), (hb2.block _ (by omega)).trans ((H1.out.block _ (by omega)).trans HZ.out.2.2.1), ?_, by omega⟩, hb1.trans (hb2.mono hb1.size), by rw [← hw2]; simp [hM1]⟩
    rw [← hw2, ← hM1]
    exact heap_alloc_new _ _
  rw [hw2, hM1]
  clear hw2 hwz z1
  obtain ⟨z1, z2, z3, z4⟩ := H2.out.1.cells
  have HD2 : Hid (Calls Tryd.prog 40 #[.pointer (some ⟨c1, 0, none⟩), .pointer (some ⟨c2, 0, none⟩), .pointer (some ⟨c3, 0, none⟩), .pointer (some ⟨c4, 0, none⟩)] w2 fun e w' => ∃ (z : Nat) (T' : Tx), e = .returned (.int .i64 (z : Int)) ∧ (Gon w0 w2 w' D T T' n S ∧ (∃ m, Ext T T' m) ∧ A z T' w') ∧ Ob w' w.heap.size tt m M1 0) := by
    refine (HD.out w2 H2.out.2.1).mono ?_
    rintro e w' ⟨z, T', rfl, h1, h2, h3⟩
    have hno : ∀ k, w.heap.size ≤ k → ¬ (T.has k ∨ S k) := fun k hk e => e.elim (fun e => by have := HS.out.1.ses.tx.lt (.inl e); omega) (fun e => by have := HS.out.2.1 k e; omega)
    have hne := H2.out.1.ne
    exact ⟨z, T', rfl, ⟨h1, h2, h3⟩, H2.out.1.fr h1.mv.fr (hno _ (by omega)) (hno _ (by omega)) (hno _ (by omega))⟩
  go_wp2_with (go_at_call 40; refine HD2.out.mono ?_; rintro e w3 ⟨z, T1, rfl, hx, hob⟩; have H3 : Hid ((Gon w0 w2 w3 D T T1 n S ∧ (∃ m, Ext T T1 m) ∧ A z T1 w3) ∧ Ob w3 w.heap.size tt m M1 0) := ⟨hx, hob⟩; obtain ⟨y1, y2, y3, y4⟩ := hob.cells; clear hx hob HD2)
  have hob := H3.out.2.set (z : Int)
  obtain ⟨k1, k2, k3, k4⟩ := hob.cells
  have hs2 := H2.out.2.2
  have hne := H2.out.1.ne
  have oE : Out w0 w3 D T1 (w.heap.size + 1) := (Out.of HS.out.1 (w1 := w2) (by omega) (by omega)).mv H3.out.1.1.mv
  refine leaves_cons (f := 46) (args := #[.pointer (some ⟨w.heap.size + 1, 0, none⟩), .pointer (some ⟨w.heap.size, 0, none⟩), .pointer (some ⟨M1, 0, none⟩)]) (by simp) (by simp [go_sem]) ?_
  have HG : Hid (Gon w0 w w3 D T T1 n S) := (Gon.on HS.out.1 H2.out.2.1 (S := S)).trans H3.out.1.1 (fun _ e => .inl e)
  by_cases hz : z = 0
  · subst hz
    have k2' : (w3.setCell ⟨w.heap.size + 1, 0, none⟩ (.int .i64 0)).cell? ⟨w.heap.size + 1, 0, none⟩ = some (.int .i64 0) := k2
    refine (wh1_ok _ _ _ _ _ k2).mono ?_
    rintro e u' w9 ⟨rfl, rfl, rfl⟩
    have HE : Hid (∃ E w1, WhE w0 w (w3.setCell ⟨w.heap.size + 1, 0, none⟩ (.int .i64 0)) D T T1 n S A E w1) := ⟨_, _, HG.out, H3.out.1.2.1, H3.out.1.2.2, Fr.set, by omega, oE⟩
    simp [Leaves, settle, results, Tryd.results21, go_sem, k2']
    refine ⟨0, rfl, T1, .inl ⟨rfl, HE.out⟩⟩
  · have hsp : Spc w0 (w3.setCell ⟨w.heap.size + 1, 0, none⟩ (.int .i64 (z : Int))) D T1 n := HG.out.spc.frG (Fr.set (g := w.heap.size + 1)) (fun k hk => by have hk : k = w.heap.size + 1 := hk; subst hk; exact .inr oE)
    have hbk := back_any w0 _ D T T1 n hsp H3.out.1.2.1 HS.out.2.2 HS.out.1.ok
    rw [HG.out.mv.t, HTt.out, HMm.out] at hbk
    refine (wh1_bad _ _ _ _ tt m z _ _ hz k2 k1 k4 hbk).mono ?_
    rintro e u' w9 ⟨rfl, rfl, T', h1, h2, h3, h4⟩
    have hno : ∀ k, k = w.heap.size ∨ k = w.heap.size + 1 ∨ k = M1 → ¬ T1.has k := fun k hk hh => by
      rcases H3.out.1.1.mv.has k hh with e | e
      · have := HS.out.1.ses.tx.lt (.inl e); omega
      · omega
    have hob9 := hob.fr h1.fr (hno _ (.inl rfl)) (hno _ (.inr (.inl rfl))) (hno _ (.inr (.inr rfl)))
    obtain ⟨j1, j2, j3, j4⟩ := hob9.cells
    have HE : Hid ((∃ T1 w1, A z T1 w1) ∧ Bck w0 w w9 D T T' n S) := by
      refine ⟨⟨T1, w3, H3.out.1.2.2⟩, (HG.out.mv.trans (SMv.fr_ (Fr.set (g := w.heap.size + 1) (k := 0) (v := .int .i64 (z : Int)))) (fun k hk => .inr (by have hk : k = w.heap.size + 1 := hk; omega))).trans (SMv.of h1 (S := fun _ => False)) (fun _ e => e.elim), h2, h3, h4⟩
    simp [Leaves, settle, results, Tryd.results21, go_sem, j2]
    exact ⟨z, rfl, T', .inr ⟨hz, HE.out⟩⟩
end Go.Proofs.YtgmccpimpbnnpaaDoor

namespace Go.Proofs.YtgmccpimpbnnpaaDoor
open Go.RowKit Rec
def smB (x y : Nat → Int) : Bool := (List.range 15).all fun i => decide (x i = y i)
theorem smB_iff {x y : Nat → Int} : smB x y = true ↔ Sm x y := by
  unfold smB; rw [List.all_eq_true]; exact ⟨fun h i hi => of_decide_eq_true (h i (List.mem_range.2 hi)), fun h i hi => decide_eq_true (h i (List.mem_range.1 hi))⟩
theorem info_int : (Tryd.prog.info? 3).map (fun i => (i.zero, i.size, i.bytes)) = some (some (.int .i64 0), 1, 8) := by kernel_rfl
theorem fieldsIno : (Tryd.prog.fieldsOf 35).toList.map (fun f => (f.name, f.type, f.offset)) = [("Kind", 3, 0), ("Links", 3, 1), ("Size", 3, 2), ("Direct", 33, 3), ("One", 3, 13), ("Two", 3, 14)] := by kernel_rfl
theorem list6m {l : List Field} {a b c d e f : String × TypeId × Nat} (h : l.map (fun f => (f.name, f.type, f.offset)) = [a, b, c, d, e, f]) : ∃ f0 f1 f2 f3 f4 f5, l = [f0, f1, f2, f3, f4, f5] ∧ (f0.name = a.1 ∧ f0.type = a.2.1 ∧ f0.offset = a.2.2) ∧ (f1.name = b.1 ∧ f1.type = b.2.1 ∧ f1.offset = b.2.2) ∧ (f2.name = c.1 ∧ f2.type = c.2.1 ∧ f2.offset = c.2.2) ∧ (f3.name = d.1 ∧ f3.type = d.2.1 ∧ f3.offset = d.2.2) ∧ (f4.name = e.1 ∧ f4.type = e.2.1 ∧ f4.offset = e.2.2) ∧ (f5.name = f.1 ∧ f5.type = f.2.1 ∧ f5.offset = f.2.2) := by
  match l, h with
  | [f0, f1, f2, f3, f4, f5], h =>
    simp only [List.map_cons, List.map_nil, List.cons.injEq, and_true] at h
    obtain ⟨rfl, rfl, rfl, rfl, rfl, rfl⟩ := h
    exact ⟨f0, f1, f2, f3, f4, f5, rfl, ⟨rfl, rfl, rfl⟩, ⟨rfl, rfl, rfl⟩, ⟨rfl, rfl, rfl⟩, ⟨rfl, rfl, rfl⟩, ⟨rfl, rfl, rfl⟩, ⟨rfl, rfl, rfl⟩⟩
  | [], h => cases h
  | [_], h => cases h
  | [_, _], h => cases h
  | [_, _, _], h => cases h
  | [_, _, _, _], h => cases h
  | [_, _, _, _, _], h => cases h
  | _ :: _ :: _ :: _ :: _ :: _ :: _ :: _, h => simp at h
def inC (x : Nat → Int) : Array Value := #[.int .i64 (x 0), .int .i64 (x 1), .int .i64 (x 2), .int .i64 (x 3), .int .i64 (x 4), .int .i64 (x 5), .int .i64 (x 6), .int .i64 (x 7), .int .i64 (x 8), .int .i64 (x 9), .int .i64 (x 10), .int .i64 (x 11), .int .i64 (x 12), .int .i64 (x 13), .int .i64 (x 14)]
theorem inC_at (x : Nat → Int) (i : Nat) (hi : i < 15) : (inC x)[i]? = some (.int .i64 (x i)) := by
  match i, hi with
  | 0, _ | 1, _ | 2, _ | 3, _ | 4, _ | 5, _ | 6, _ | 7, _ | 8, _ | 9, _ | 10, _ | 11, _ | 12, _ | 13, _ | 14, _ => rfl
theorem eq_int (w : World) (e : Nat) (a b : Int) : (Op.equalIn (e + 1) 3 (.int .i64 a) (.int .i64 b)).run Tryd.prog w = .ok (decide (a = b)) w := by
  rw [show decide (a = b) = (a == b) from by by_cases h : a = b <;> simp [h]]
  simp [Op.equalIn, run_underlying Tryd.underlying3]
theorem cells10 : Tryd.prog.cellsOf 3 = 1 := by kernel_rfl
theorem part_int (w : World) (xs : Array Value) (i : Nat) (a : Int) (h : xs[i]? = some (.int .i64 a)) : (part 3 xs i).run Tryd.prog w = .ok (.int .i64 a) w := by
  obtain ⟨i0, hi0, hz0, hz1, hz2⟩ := info_parts info_int
  obtain ⟨l⟩ := xs
  have h' : l[i]? = some (.int .i64 a) := by simpa using h
  simp [part, typeInfo, sizeOf, hi0, hz1, h']
theorem items_int (w : World) (e : Nat) (xs ys : Array Value) (f g : Nat → Int) : ∀ is : List Nat, (∀ i ∈ is, xs[i]? = some (.int .i64 (f i))) → (∀ i ∈ is, ys[i]? = some (.int .i64 (g i))) → (Op.eqItems (e + 1) 3 1 xs ys is).run Tryd.prog w = .ok (is.all fun i => decide (f i = g i)) w
  | [], _, _ => by simp [Op.eqItems]
  | i :: is, hx, hy => by
    have ih := items_int w e xs ys f g is (fun j hj => hx j (List.mem_cons_of_mem _ hj)) (fun j hj => hy j (List.mem_cons_of_mem _ hj))
    have p1 := part_int w xs (i * 1) (f i) (by rw [Nat.mul_one]; exact hx i List.mem_cons_self)
    have p2 := part_int w ys (i * 1) (g i) (by rw [Nat.mul_one]; exact hy i List.mem_cons_self)
    simp only [Op.eqItems, Sem.run_bind, p1, p2, eq_int, Result.andThen_ok, List.all_cons]
    cases decide (f i = g i)
    · simp
    · simpa using ih
def inDc (x : Nat → Int) : Array Value := #[.int .i64 (x 3), .int .i64 (x 4), .int .i64 (x 5), .int .i64 (x 6), .int .i64 (x 7), .int .i64 (x 8), .int .i64 (x 9), .int .i64 (x 10), .int .i64 (x 11), .int .i64 (x 12)]
theorem inDc_at (x : Nat → Int) (i : Nat) (hi : i < 10) : (inDc x)[i]? = some (.int .i64 (x (3 + i))) := by
  match i, hi with
  | 0, _ | 1, _ | 2, _ | 3, _ | 4, _ | 5, _ | 6, _ | 7, _ | 8, _ | 9, _ => rfl
theorem part_dir (w : World) (x : Nat → Int) : (part 33 (inC x) 3).run Tryd.prog w = .ok (.agg (inDc x)) w := by kernel_rfl
set_option maxRecDepth 100000 in
theorem eqIn_ino (w : World) (d : Nat) (x y : Nat → Int) : (Op.equalIn (d + 3) 35 (inV x) (inV y)).run Tryd.prog w = .ok (smB x y) w := by
  obtain ⟨i0, hi0, hz0, hz1, hz2⟩ := info_parts info_int
  have ht : Tryd.prog.underlying 35 = some (.struct (Tryd.prog.fieldsOf 35)) := by kernel_rfl
  have hp : Tryd.prog.stoodInHeld 35 = false := by kernel_rfl
  show (Op.equalIn (d + 2 + 1) 35 (.agg (inC x)) (.agg (inC y))).run Tryd.prog w = _
  rw [run_equalIn_struct w (d + 2) _ _ _ ht hp]
  obtain ⟨f0, f1, f2, f3, f4, f5, hl, ⟨a0, b0, c0⟩, ⟨a1, b1, c1⟩, ⟨a2, b2, c2⟩, ⟨a3, b3, c3⟩, ⟨a4, b4, c4⟩, ⟨a5, b5, c5⟩⟩ := list6m fieldsIno
  rw [hl]
  have hP : ∀ (z : Nat → Int) (i : Nat), i < 15 → (part 3 (inC z) i).run Tryd.prog w = .ok (.int .i64 (z i)) w := fun z i hi => part_int w _ i _ (inC_at z i hi)
  have hA : (Op.equalIn (d + 2) 33 (.agg (inDc x)) (.agg (inDc y))).run Tryd.prog w = .ok ((List.range 10).all fun i => decide (x (3 + i) = y (3 + i))) w := by
    rw [run_equalIn_array w (d + 1) _ _ Tryd.underlying33 hi0, cells10]
    exact items_int w d _ _ (fun i => x (3 + i)) (fun i => y (3 + i)) _ (fun i hi => inDc_at x i (List.mem_range.1 hi)) (fun i hi => inDc_at y i (List.mem_range.1 hi))
  have hE : smB x y = (decide (x 0 = y 0) && (decide (x 1 = y 1) && (decide (x 2 = y 2) && (((List.range 10).all fun i => decide (x (3 + i) = y (3 + i))) && (decide (x 13 = y 13) && decide (x 14 = y 14)))))) := by
    simp [smB, List.range_succ, Bool.and_assoc]
  rw [hE]
  simp only [Op.eqFields, a0, b0, c0, a1, b1, c1, a2, b2, c2, a3, b3, c3, a4, b4, c4, a5, b5, c5, Sem.run_bind, Sem.run_ite, hP _ 0 (by omega), hP _ 1 (by omega), hP _ 2 (by omega), hP _ 13 (by omega), hP _ 14 (by omega), part_dir, hA, eq_int, Result.andThen_ok]
  generalize decide (x 0 = y 0) = q0
  generalize decide (x 1 = y 1) = q1
  generalize decide (x 2 = y 2) = q2
  generalize ((List.range 10).all fun i => decide (x (3 + i) = y (3 + i))) = q3
  generalize decide (x 13 = y 13) = q4
  generalize decide (x 14 = y 14) = q5
  cases q0 <;> cases q1 <;> cases q2 <;> cases q3 <;> cases q4 <;> cases q5 <;> rfl
theorem eqlI (w : World) (x y : Nat → Int) : (binOp .eql 35 (inV x) (inV y)).run Tryd.prog w = .ok (.bool (smB x y)) w := by
  show (binOp .eql 35 (.agg (inC x)) (.agg (inC y))).run Tryd.prog w = _
  rw [run_eql_struct]
  have := eqIn_ino w 9997 x y
  rw [show (Op.equalIn 10000 35 (.agg (inC x)) (.agg (inC y))).run Tryd.prog w = _ from this]
  rfl
end Go.Proofs.YtgmccpimpbnnpaaDoor

namespace Go.Proofs.YtgmccpimpbnnpaaDoor
open Go.RowKit Rec
set_option maxRecDepth 100000 in
theorem set15 (w : World) (p : Nat) (u0 u1 u2 u3 u4 u5 u6 u7 u8 u9 u10 u11 u12 u13 u14 v0 v1 v2 v3 v4 v5 v6 v7 v8 v9 v10 v11 v12 v13 v14 : Value) (h : w.heap[p]? = some (.cells #[u0, u1, u2, u3, u4, u5, u6, u7, u8, u9, u10, u11, u12, u13, u14] 35 (0, 0))) : (((((((((((((((w.setCell ⟨p, 0, none⟩ v0).setCell ⟨p, 1, none⟩ v1).setCell ⟨p, 2, none⟩ v2).setCell ⟨p, 3, none⟩ v3).setCell ⟨p, 4, none⟩ v4).setCell ⟨p, 5, none⟩ v5).setCell ⟨p, 6, none⟩ v6).setCell ⟨p, 7, none⟩ v7).setCell ⟨p, 8, none⟩ v8).setCell ⟨p, 9, none⟩ v9).setCell ⟨p, 10, none⟩ v10).setCell ⟨p, 11, none⟩ v11).setCell ⟨p, 12, none⟩ v12).setCell ⟨p, 13, none⟩ v13).setCell ⟨p, 14, none⟩ v14).heap[p]? = some (.cells #[v0, v1, v2, v3, v4, v5, v6, v7, v8, v9, v10, v11, v12, v13, v14] 35 (0, 0)) := by
  have h0 : (w.setCell ⟨p, 0, none⟩ v0).heap[p]? = some (.cells #[v0, u1, u2, u3, u4, u5, u6, u7, u8, u9, u10, u11, u12, u13, u14] 35 (0, 0)) := by have := heap_setCell_same _ p 0 _ _ v0 h; simpa using this
  have h1 : ((w.setCell ⟨p, 0, none⟩ v0).setCell ⟨p, 1, none⟩ v1).heap[p]? = some (.cells #[v0, v1, u2, u3, u4, u5, u6, u7, u8, u9, u10, u11, u12, u13, u14] 35 (0, 0)) := by have := heap_setCell_same _ p 1 _ _ v1 h0; simpa using this
  have h2 : (((w.setCell ⟨p, 0, none⟩ v0).setCell ⟨p, 1, none⟩ v1).setCell ⟨p, 2, none⟩ v2).heap[p]? = some (.cells #[v0, v1, v2, u3, u4, u5, u6, u7, u8, u9, u10, u11, u12, u13, u14] 35 (0, 0)) := by have := heap_setCell_same _ p 2 _ _ v2 h1; simpa using this
  have h3 : ((((w.setCell ⟨p, 0, none⟩ v0).setCell ⟨p, 1, none⟩ v1).setCell ⟨p, 2, none⟩ v2).setCell ⟨p, 3, none⟩ v3).heap[p]? = some (.cells #[v0, v1, v2, v3, u4, u5, u6, u7, u8, u9, u10, u11, u12, u13, u14] 35 (0, 0)) := by have := heap_setCell_same _ p 3 _ _ v3 h2; simpa using this
  have h4 : (((((w.setCell ⟨p, 0, none⟩ v0).setCell ⟨p, 1, none⟩ v1).setCell ⟨p, 2, none⟩ v2).setCell ⟨p, 3, none⟩ v3).setCell ⟨p, 4, none⟩ v4).heap[p]? = some (.cells #[v0, v1, v2, v3, v4, u5, u6, u7, u8, u9, u10, u11, u12, u13, u14] 35 (0, 0)) := by have := heap_setCell_same _ p 4 _ _ v4 h3; simpa using this
  have h5 : ((((((w.setCell ⟨p, 0, none⟩ v0).setCell ⟨p, 1, none⟩ v1).setCell ⟨p, 2, none⟩ v2).setCell ⟨p, 3, none⟩ v3).setCell ⟨p, 4, none⟩ v4).setCell ⟨p, 5, none⟩ v5).heap[p]? = some (.cells #[v0, v1, v2, v3, v4, v5, u6, u7, u8, u9, u10, u11, u12, u13, u14] 35 (0, 0)) := by have := heap_setCell_same _ p 5 _ _ v5 h4; simpa using this
  have h6 : (((((((w.setCell ⟨p, 0, none⟩ v0).setCell ⟨p, 1, none⟩ v1).setCell ⟨p, 2, none⟩ v2).setCell ⟨p, 3, none⟩ v3).setCell ⟨p, 4, none⟩ v4).setCell ⟨p, 5, none⟩ v5).setCell ⟨p, 6, none⟩ v6).heap[p]? = some (.cells #[v0, v1, v2, v3, v4, v5, v6, u7, u8, u9, u10, u11, u12, u13, u14] 35 (0, 0)) := by have := heap_setCell_same _ p 6 _ _ v6 h5; simpa using this
  have h7 : ((((((((w.setCell ⟨p, 0, none⟩ v0).setCell ⟨p, 1, none⟩ v1).setCell ⟨p, 2, none⟩ v2).setCell ⟨p, 3, none⟩ v3).setCell ⟨p, 4, none⟩ v4).setCell ⟨p, 5, none⟩ v5).setCell ⟨p, 6, none⟩ v6).setCell ⟨p, 7, none⟩ v7).heap[p]? = some (.cells #[v0, v1, v2, v3, v4, v5, v6, v7, u8, u9, u10, u11, u12, u13, u14] 35 (0, 0)) := by have := heap_setCell_same _ p 7 _ _ v7 h6; simpa using this
  have h8 : (((((((((w.setCell ⟨p, 0, none⟩ v0).setCell ⟨p, 1, none⟩ v1).setCell ⟨p, 2, none⟩ v2).setCell ⟨p, 3, none⟩ v3).setCell ⟨p, 4, none⟩ v4).setCell ⟨p, 5, none⟩ v5).setCell ⟨p, 6, none⟩ v6).setCell ⟨p, 7, none⟩ v7).setCell ⟨p, 8, none⟩ v8).heap[p]? = some (.cells #[v0, v1, v2, v3, v4, v5, v6, v7, v8, u9, u10, u11, u12, u13, u14] 35 (0, 0)) := by have := heap_setCell_same _ p 8 _ _ v8 h7; simpa using this
  have h9 : ((((((((((w.setCell ⟨p, 0, none⟩ v0).setCell ⟨p, 1, none⟩ v1).setCell ⟨p, 2, none⟩ v2).setCell ⟨p, 3, none⟩ v3).setCell ⟨p, 4, none⟩ v4).setCell ⟨p, 5, none⟩ v5).setCell ⟨p, 6, none⟩ v6).setCell ⟨p, 7, none⟩ v7).setCell ⟨p, 8, none⟩ v8).setCell ⟨p, 9, none⟩ v9).heap[p]? = some (.cells #[v0, v1, v2, v3, v4, v5, v6, v7, v8, v9, u10, u11, u12, u13, u14] 35 (0, 0)) := by have := heap_setCell_same _ p 9 _ _ v9 h8; simpa using this
  have h10 : (((((((((((w.setCell ⟨p, 0, none⟩ v0).setCell ⟨p, 1, none⟩ v1).setCell ⟨p, 2, none⟩ v2).setCell ⟨p, 3, none⟩ v3).setCell ⟨p, 4, none⟩ v4).setCell ⟨p, 5, none⟩ v5).setCell ⟨p, 6, none⟩ v6).setCell ⟨p, 7, none⟩ v7).setCell ⟨p, 8, none⟩ v8).setCell ⟨p, 9, none⟩ v9).setCell ⟨p, 10, none⟩ v10).heap[p]? = some (.cells #[v0, v1, v2, v3, v4, v5, v6, v7, v8, v9, v10, u11, u12, u13, u14] 35 (0, 0)) := by have := heap_setCell_same _ p 10 _ _ v10 h9; simpa using this
  have h11 : ((((((((((((w.setCell ⟨p, 0, none⟩ v0).setCell ⟨p, 1, none⟩ v1).setCell ⟨p, 2, none⟩ v2).setCell ⟨p, 3, none⟩ v3).setCell ⟨p, 4, none⟩ v4).setCell ⟨p, 5, none⟩ v5).setCell ⟨p, 6, none⟩ v6).setCell ⟨p, 7, none⟩ v7).setCell ⟨p, 8, none⟩ v8).setCell ⟨p, 9, none⟩ v9).setCell ⟨p, 10, none⟩ v10).setCell ⟨p, 11, none⟩ v11).heap[p]? = some (.cells #[v0, v1, v2, v3, v4, v5, v6, v7, v8, v9, v10, v11, u12, u13, u14] 35 (0, 0)) := by have := heap_setCell_same _ p 11 _ _ v11 h10; simpa using this
  have h12 : (((((((((((((w.setCell ⟨p, 0, none⟩ v0).setCell ⟨p, 1, none⟩ v1).setCell ⟨p, 2, none⟩ v2).setCell ⟨p, 3, none⟩ v3).setCell ⟨p, 4, none⟩ v4).setCell ⟨p, 5, none⟩ v5).setCell ⟨p, 6, none⟩ v6).setCell ⟨p, 7, none⟩ v7).setCell ⟨p, 8, none⟩ v8).setCell ⟨p, 9, none⟩ v9).setCell ⟨p, 10, none⟩ v10).setCell ⟨p, 11, none⟩ v11).setCell ⟨p, 12, none⟩ v12).heap[p]? = some (.cells #[v0, v1, v2, v3, v4, v5, v6, v7, v8, v9, v10, v11, v12, u13, u14] 35 (0, 0)) := by have := heap_setCell_same _ p 12 _ _ v12 h11; simpa using this
  have h13 : ((((((((((((((w.setCell ⟨p, 0, none⟩ v0).setCell ⟨p, 1, none⟩ v1).setCell ⟨p, 2, none⟩ v2).setCell ⟨p, 3, none⟩ v3).setCell ⟨p, 4, none⟩ v4).setCell ⟨p, 5, none⟩ v5).setCell ⟨p, 6, none⟩ v6).setCell ⟨p, 7, none⟩ v7).setCell ⟨p, 8, none⟩ v8).setCell ⟨p, 9, none⟩ v9).setCell ⟨p, 10, none⟩ v10).setCell ⟨p, 11, none⟩ v11).setCell ⟨p, 12, none⟩ v12).setCell ⟨p, 13, none⟩ v13).heap[p]? = some (.cells #[v0, v1, v2, v3, v4, v5, v6, v7, v8, v9, v10, v11, v12, v13, u14] 35 (0, 0)) := by have := heap_setCell_same _ p 13 _ _ v13 h12; simpa using this
  have h14 : (((((((((((((((w.setCell ⟨p, 0, none⟩ v0).setCell ⟨p, 1, none⟩ v1).setCell ⟨p, 2, none⟩ v2).setCell ⟨p, 3, none⟩ v3).setCell ⟨p, 4, none⟩ v4).setCell ⟨p, 5, none⟩ v5).setCell ⟨p, 6, none⟩ v6).setCell ⟨p, 7, none⟩ v7).setCell ⟨p, 8, none⟩ v8).setCell ⟨p, 9, none⟩ v9).setCell ⟨p, 10, none⟩ v10).setCell ⟨p, 11, none⟩ v11).setCell ⟨p, 12, none⟩ v12).setCell ⟨p, 13, none⟩ v13).setCell ⟨p, 14, none⟩ v14).heap[p]? = some (.cells #[v0, v1, v2, v3, v4, v5, v6, v7, v8, v9, v10, v11, v12, v13, v14] 35 (0, 0)) := by have := heap_setCell_same _ p 14 _ _ v14 h13; simpa using this
  exact h14
set_option maxRecDepth 100000 in
set_option maxHeartbeats 1600000 in
theorem load15 (w : World) (p : Nat) (v0 v1 v2 v3 v4 v5 v6 v7 v8 v9 v10 v11 v12 v13 v14 : Int) (h : w.heap[p]? = some (.cells #[.int .i64 v0, .int .i64 v1, .int .i64 v2, .int .i64 v3, .int .i64 v4, .int .i64 v5, .int .i64 v6, .int .i64 v7, .int .i64 v8, .int .i64 v9, .int .i64 v10, .int .i64 v11, .int .i64 v12, .int .i64 v13, .int .i64 v14] 35 (0, 0))) : (loadVar 35 ⟨p, 0, none⟩).run Tryd.prog w = .ok (.agg #[.int .i64 v0, .int .i64 v1, .int .i64 v2, .int .i64 v3, .int .i64 v4, .int .i64 v5, .int .i64 v6, .int .i64 v7, .int .i64 v8, .int .i64 v9, .int .i64 v10, .int .i64 v11, .int .i64 v12, .int .i64 v13, .int .i64 v14]) w := by
  have c0 : w.cell? ⟨p, 0, none⟩ = some (.int .i64 v0) := cell_of_row _ _ 0 _ _ _ h
  have c1 : w.cell? ⟨p, 1, none⟩ = some (.int .i64 v1) := cell_of_row _ _ 1 _ _ _ h
  have c2 : w.cell? ⟨p, 2, none⟩ = some (.int .i64 v2) := cell_of_row _ _ 2 _ _ _ h
  have c3 : w.cell? ⟨p, 3, none⟩ = some (.int .i64 v3) := cell_of_row _ _ 3 _ _ _ h
  have c4 : w.cell? ⟨p, 4, none⟩ = some (.int .i64 v4) := cell_of_row _ _ 4 _ _ _ h
  have c5 : w.cell? ⟨p, 5, none⟩ = some (.int .i64 v5) := cell_of_row _ _ 5 _ _ _ h
  have c6 : w.cell? ⟨p, 6, none⟩ = some (.int .i64 v6) := cell_of_row _ _ 6 _ _ _ h
  have c7 : w.cell? ⟨p, 7, none⟩ = some (.int .i64 v7) := cell_of_row _ _ 7 _ _ _ h
  have c8 : w.cell? ⟨p, 8, none⟩ = some (.int .i64 v8) := cell_of_row _ _ 8 _ _ _ h
  have c9 : w.cell? ⟨p, 9, none⟩ = some (.int .i64 v9) := cell_of_row _ _ 9 _ _ _ h
  have c10 : w.cell? ⟨p, 10, none⟩ = some (.int .i64 v10) := cell_of_row _ _ 10 _ _ _ h
  have c11 : w.cell? ⟨p, 11, none⟩ = some (.int .i64 v11) := cell_of_row _ _ 11 _ _ _ h
  have c12 : w.cell? ⟨p, 12, none⟩ = some (.int .i64 v12) := cell_of_row _ _ 12 _ _ _ h
  have c13 : w.cell? ⟨p, 13, none⟩ = some (.int .i64 v13) := cell_of_row _ _ 13 _ _ _ h
  have c14 : w.cell? ⟨p, 14, none⟩ = some (.int .i64 v14) := cell_of_row _ _ 14 _ _ _ h
  simp [go_sem, c0, c1, c2, c3, c4, c5, c6, c7, c8, c9, c10, c11, c12, c13, c14]
end Go.Proofs.YtgmccpimpbnnpaaDoor

namespace Go.Proofs.YtgmccpimpbnnpaaDoor
open Go.RowKit Rec
theorem sizeI : (Tryd.prog.info? 3).map (·.size) = some 1 := by kernel_rfl
theorem copyI_run {w : World} {g off dLen dCap : Nat} {cur : Array Value} {t : TypeId} (ty : TypeId) (ad : Addr) (sLen sCap n : Nat) (cs : List Value) (hg : w.heap[g]? = some (.cells cur t (0, 0))) (hl : cs.length = n) (hn : n = Nat.min sLen dLen)
    (hsrc : ∀ j v, cs[j]? = some v → w.cell? (ad.add j) = some v) (hfit : off + n ≤ cur.size) (h1 : ∀ v ∈ cs, v.oneCell' = true) :
    ∃ w', (Builtin.copy_ #[22, 22] ty #[.slice (some ⟨g, off, none⟩) dLen dCap, .slice (some ad) sLen sCap]).run Tryd.prog w = .ok (.int .i64 (n : Int)) w' ∧ w'.heap[g]? = some (.cells (cur.toList.take off ++ cs ++ cur.toList.drop (off + n)).toArray t (0, 0)) ∧ Fr (fun k => k = g) w w' := by
  subst hl
  have hrun := run_copy_row (P := Tryd.prog) w 22 22 ty 3 g off dLen dCap ad sLen sCap cur t cs Tryd.underlying22 sizeI hg hn hsrc hfit h1
  exact ⟨_, hrun, setRow_heap w g _ _ _ _ hg, ⟨rfl, rfl, rfl, by simp [World.setRow], fun k _ hk => setRow_other w g k _ hk⟩⟩
theorem inD_one (x : Nat → Int) : ∀ v ∈ inD x, v.oneCell' = true := fun v hv => by
  simp only [inD, List.mem_cons, List.mem_nil_iff, or_false] at hv
  rcases hv with rfl | rfl | rfl | rfl | rfl | rfl | rfl | rfl | rfl | rfl <;> rfl
theorem below_put {B : Nat} {w wx : World} {g k : Nat} {v : Value} (h : Below B w wx) (hw : B ≤ w.heap.size) (hg : B ≤ g) : Below B w (wx.setCell ⟨g, k, none⟩ v) := h.trans (below_of grown_set hg (Nat.le_trans hw h.size))
end Go.Proofs.YtgmccpimpbnnpaaDoor
