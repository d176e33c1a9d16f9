import Derived.Test.YtflienghgobmoaaGreatDoorKSpH
import Derived.Test.YtflienghgobmoaaGreatDoorSpF
namespace Go.Proofs.YtflienghgobmoaaGreatDoor
open Go.RowKit Go.Maps Rec

set_option maxRecDepth 100000 in
theorem occ1_ok (w : World) (E Tb Mb : Nat) (u : FrameMode) (hc : w.cell? ⟨E, 0, none⟩ = some (.int .i64 0)) : CallsD Tryz.prog 107 #[.pointer (some ⟨E, 0, none⟩), .pointer (some ⟨Tb, 0, none⟩), .pointer (some ⟨Mb, 0, none⟩)] u w fun e u' w' => u' = u ∧ (e = .returned (.tuple #[]) ∧ w = w') := by
  refine callsD_of_wp (R := fun e w' => e = .returned (.tuple #[]) ∧ w = w') Tryz.func107 rfl ?_
  simp only [Tryz.ntmps107, List.size_toArray, List.length_cons, List.length_nil, Nat.reduceAdd, Nat.reduceSub, Array.replicate_succ, Array.replicate_zero, List.push_toArray, List.append_toArray, List.nil_append, List.cons_append]
  go_wp2
  go_end0
  exact ⟨rfl, rfl⟩
set_option maxRecDepth 100000 in
theorem occ1_bad (w : World) (E Tb Mb t m : Nat) (u : FrameMode) (P : World → Prop) (hc : w.cell? ⟨E, 0, none⟩ = some (.int .i64 60)) (ht : w.cell? ⟨Tb, 0, none⟩ = some (.pointer (some ⟨t, 0, none⟩))) (hm : w.cell? ⟨Mb, 0, none⟩ = some (.int .i64 (m : Int)))
    (hB : Calls Tryz.prog 64 #[.pointer (some ⟨t, 0, none⟩), .int .i64 (m : Int)] w fun e w' => e = .returned (.int .i64 0) ∧ P w') : CallsD Tryz.prog 107 #[.pointer (some ⟨E, 0, none⟩), .pointer (some ⟨Tb, 0, none⟩), .pointer (some ⟨Mb, 0, none⟩)] u w fun e u' w' => u' = u ∧ (e = .returned (.tuple #[]) ∧ P w') := by
  have HB : Hid (Calls Tryz.prog 64 #[.pointer (some ⟨t, 0, none⟩), .int .i64 (m : Int)] w fun e w' => e = .returned (.int .i64 0) ∧ P w') := hB
  clear hB
  refine callsD_of_wp (R := fun e w' => e = .returned (.tuple #[]) ∧ P w') Tryz.func107 rfl ?_
  simp only [Tryz.ntmps107, List.size_toArray, List.length_cons, List.length_nil, Nat.reduceAdd, Nat.reduceSub, Array.replicate_succ, Array.replicate_zero, List.push_toArray, List.append_toArray, List.nil_append, List.cons_append]
  go_wp2_with (go_at_call 64; refine HB.out.mono ?_; rintro e w' ⟨rfl, hp⟩)
  go_end0
  exact ⟨rfl, hp⟩
/-- behind a Take -/
structure TakE (w0 w w' : World) (D : Dk) (T T' : Tx) (n i : Nat) : Prop where
  mv : TMv w T w' T'
  spc : Spc w0 w' D T' n
  c : ∃ q q2 : Bk, T'.c = ups (ups T.c (98 + i / 4096) (some q)) i (some q2) ∧ q.x = bput (bmp D T (i / 4096)) (i % 4096) true ∧ q2.x = zn 512
  u : T'.us.length = T.us.length + 2
  uu : ∃ (q q2 : Bk) (u u2 : Un), T'.c = ups (ups T.c (98 + i / 4096) (some q)) i (some q2) ∧ q.x = bput (bmp D T (i / 4096)) (i % 4096) true ∧ q2.x = zn 512 ∧ T'.us = T.us ++ [u] ++ [u2] ∧ u.i = 98 + i / 4096 ∧ u.old = T.c (98 + i / 4096) ∧ u2.i = i ∧ u2.old = (ups T.c (98 + i / 4096) (some q)) i
/-- occupy's own variables -/
structure Oc (w : World) (p t n : Nat) (e : Int) : Prop where
  t : w.heap[p]? = some (.cells #[.pointer (some ⟨t, 0, none⟩)] 39 (0, 0))
  g : GeoAt w (p + 1) n
  e : w.heap[p + 1 + 1]? = some (.cells #[.int .i64 e] 28 (0, 0))
theorem Oc.fr {S : Nat → Prop} {w w' : World} {p t n : Nat} {e : Int} (h : Oc w p t n e) (x : Fr S w w') (h0 : ¬ S p) (h1 : ¬ S (p + 1)) (h2 : ¬ S (p + 1 + 1)) : Oc w' p t n e := ⟨x.heap h.t h0, x.heap h.g h1, x.heap h.e h2⟩
theorem Oc.on {w w' : World} {p t n : Nat} {e : Int} (h : Oc w p t n e) (x : Below w.heap.size w w') : Oc w' p t n e := h.fr (below_fr x (fun _ => False)) (fun e => e) (fun e => e) (fun e => e)
theorem Oc.set {w : World} {p t n : Nat} {e : Int} (h : Oc w p t n e) (y : Int) : Oc (w.setCell ⟨p + 1 + 1, 0, none⟩ (.int .i64 y)) p t n y :=
  ⟨(Fr.set (g := p + 1 + 1)).heap h.t (by show ¬ p = p + 1 + 1; omega), (Fr.set (g := p + 1 + 1)).heap h.g (by show ¬ p + 1 = p + 1 + 1; omega), heap_setCell_same _ _ 0 _ _ (.int .i64 y) h.e⟩
theorem Oc.cells {w : World} {p t n : Nat} {e : Int} (h : Oc w p t n e) : w.cell? ⟨p, 0, none⟩ = some (.pointer (some ⟨t, 0, none⟩)) ∧ w.cell? ⟨p + 1 + 1, 0, none⟩ = some (.int .i64 e) ∧ w.frozen? ⟨p + 1 + 1, 0, none⟩ = false :=
  ⟨by rw [cell_of_row _ _ _ _ _ _ h.t]; rfl, by rw [cell_of_row _ _ _ _ _ _ h.e]; rfl, frozen_of_row _ _ _ _ _ h.e⟩
theorem oc_put {w0 w w4 w5 : World} {D : Dk} {T T1 : Tx} {n a g M1 m : Nat} {e : Int} {x : List Int} (hS : Spc w0 w D T n) (h : Oc w4 w.heap.size T.t n e) (hm : w4.heap[M1]? = some (.cells #[.int .i64 (m : Int)] 3 (0, 0))) (hp : PutE w0 w4 w5 D T T1 n a x g) (h1 : w.heap.size + 3 ≤ M1) (h2 : M1 < g) :
    Oc w5 w.heap.size T.t n e ∧ w5.heap[M1]? = some (.cells #[.int .i64 (m : Int)] 3 (0, 0)) := by
  obtain ⟨w1, hf, hmv⟩ := hp.mv
  have hno : ∀ k, w.heap.size ≤ k → ¬ T.has k := fun k hk hh => by
    have := hS.ses.tx.lt (.inl hh)
    omega
  have hg : ∀ k, k < g → ¬ k = g := fun k hk => by omega
  exact ⟨(h.fr hf (hg _ (by omega)) (hg _ (by omega)) (hg _ (by omega))).fr hmv.fr (hno _ (by omega)) (hno _ (by omega)) (hno _ (by omega)), hmv.fr.heap (hf.heap hm (hg _ h2)) (hno _ (by omega))⟩
theorem tak_end {w0 w w4 w5 w6 wx w7 : World} {D : Dk} {T T1 T2 : Tx} {n i A J g e0 : Nat} (hS : Spc w0 w D T n) (hb4 : Below w.heap.size w w4) (h5 : PutE w0 w4 w5 D T T1 n A (bput (bmp D T (i / 4096)) J true) g) (hg : w.heap.size ≤ g) (h6 : Fr (fun k => k = e0) w5 w6) (he : w.heap.size ≤ e0) (hlt : e0 < w4.heap.size) (hb : Below w6.heap.size w6 wx) (h7 : WrE w0 wx w7 D T1 T2 n i (zn 512)) (hA : 98 + i / 4096 = A) (hJ : i % 4096 = J) (v : Value) : TakE w0 w (w7.setCell ⟨e0, 0, none⟩ v) D T T2 n i := by
  obtain ⟨v1, hf, hmv⟩ := h5.mv
  have s1 := hb4.size
  have s2 := hf.size
  have s3 := hmv.fr.size
  have s4 := h6.size
  have s5 := hb.size
  have hal : ∀ k, T2.all k → T.all k ∨ w4.heap.size ≤ k := fun k hk => by
    rcases h7.mv.al k hk with e | e
    · rcases hmv.al k e with e | e
      · exact .inl e
      · exact .inr (by omega)
    · exact .inr (by omega)
  refine ⟨⟨?_, fun k hk => (hal k hk).elim .inl (fun e => .inr (by omega)), fun k hk => ?_, h7.t.trans h5.t, h7.mv.d.trans hmv.d, h7.mv.nb.trans hmv.nb⟩, hS.box h7.spc hal he hlt v, ?_, ?_, ?_⟩
  · have f1 : Fr T.has w w4 := below_fr hb4 _
    have f2 := f1.trans hf (fun k hk => .inr (by have hk : k = g := hk; omega))
    have f3 := f2.trans hmv.fr (fun k hk => .inl hk)
    have f4 := f3.trans h6 (fun k hk => .inr (by have hk : k = e0 := hk; omega))
    have f5 := f4.trans (below_fr hb (fun _ => False)) (fun _ e => e.elim)
    have f6 := f5.trans h7.mv.fr (fun k hk => (hmv.has k hk).elim .inl (fun e => .inr (by omega)))
    exact f6.trans (Fr.set (g := e0)) (fun k hk => .inr (by have hk : k = e0 := hk; omega))
  · rcases h7.mv.has k hk with e | e
    · rcases hmv.has k e with e | e
      · exact .inl e
      · exact .inr (by omega)
    · exact .inr (by omega)
  · obtain ⟨q, hq1, hq2⟩ := h5.c
    obtain ⟨q2, hq3, hq4⟩ := h7.c
    rw [hq1] at hq3
    exact ⟨q, q2, by rw [hA]; exact hq3, by rw [hJ]; exact hq2, hq4⟩
  · obtain ⟨u, hu, _⟩ := h5.u
    obtain ⟨u2, hu2, _⟩ := h7.u
    rw [hu2, hu, List.length_append, List.length_append]
    rfl
  · obtain ⟨q, hq1, hq2⟩ := h5.c
    obtain ⟨q2, hq3, hq4⟩ := h7.c
    obtain ⟨u, hu, hui, huo⟩ := h5.u
    obtain ⟨u2, hu2, hui2, huo2⟩ := h7.u
    rw [hq1] at hq3 huo2
    exact ⟨q, q2, u, u2, by rw [hA]; exact hq3, by rw [hJ]; exact hq2, hq4, by rw [hu2, hu], by rw [hA]; exact hui, by rw [hA]; exact huo, hui2, by rw [hA]; exact huo2⟩
set_option maxRecDepth 100000 in
set_option maxHeartbeats 8000000 in
theorem occupy_ok (w0 w : World) (D : Dk) (T : Tx) (n : Nat) (h : Spc w0 w D T n) (i : Nat) (h0 : nD n ≤ i) (hi : i < n) (hr1 : (T.c (98 + i / 4096)).isSome = true ∨ (lst T.c n).length < 96) (hr2 : (T.c i).isSome = true ∨ (lst T.c n).length + (if (T.c (98 + i / 4096)).isSome then 0 else 1) < 96) (hu : T.us.length + 2 ≤ 1000000) (hrd : rdb D T (98 + i / 4096)) :
    Calls Tryz.prog 68 #[.pointer (some ⟨T.t, 0, none⟩), geoV n, .int .i64 (i : Int)] w fun e w' => e = .returned (.int .i64 0) ∧ ∃ T', TakE w0 w w' D T T' n i := by
  have hN := nM_bd h.lo h.hi
  have HS : Hid (Spc w0 w D T n) := h
  have HM : Hid (∀ wx, Below w.heap.size w wx → Calls Tryz.prog 62 #[.pointer (some ⟨T.t, 0, none⟩)] wx fun e w' => e = .returned (.tuple #[.int .i64 (T.us.length : Nat), .int .i64 0]) ∧ Below wx.heap.size wx w') := fun wx hb => mark_any wx T (h.on hb).ses.tx
  have HF : Hid (∀ wx, Below w.heap.size w wx → Calls Tryz.prog 72 #[.pointer (some ⟨T.t, 0, none⟩), geoV n, .int .i64 (i : Int)] wx fun e w' => ∃ g cap, e = .returned (.tuple #[plV i g cap, .int .i64 0]) ∧ wx.heap.size ≤ g ∧ OwnB w' g cap (bmp D T (i / 4096)) ∧ Below wx.heap.size wx w') := fun wx hb => find_ok w0 wx D T n (h.on hb) i hi hrd
  have HP : Hid (∀ wx g cap, Below w.heap.size w wx → OwnB wx g cap (bmp D T (i / 4096)) → w.heap.size ≤ g → Calls Tryz.prog 74 #[plV i g cap, .pointer (some ⟨T.t, 0, none⟩), .bool true] wx fun e w' => e = .returned (.int .i64 0) ∧ ∃ T', PutE w0 wx w' D T T' n (98 + i / 4096) (bput (bmp D T (i / 4096)) (i % 4096) true) g) := fun wx g cap hbx ho hg => put_bit w0 w wx D T n h hbx i g cap hi ho hg true hr1 (by omega)
  have HW : Hid (∀ wa w5 T1 g, PutE w0 wa w5 D T T1 n (98 + i / 4096) (bput (bmp D T (i / 4096)) (i % 4096) true) g → ∀ wx p c, Spc w0 wx D T1 n → Bytes wx (some p) (zn 512) → Calls Tryz.prog 34 #[.pointer (some ⟨T.t, 0, none⟩), .int .i64 (i : Int), .slice (some p) 512 c] wx fun e w' => e = .returned (.int .i64 0) ∧ ∃ T', WrE w0 wx w' D T1 T' n i (zn 512)) := fun wa w5 T1 g hp wx p c hb hbb => by
    obtain ⟨q, hc, hq⟩ := hp.c
    obtain ⟨u, hus, _, _⟩ := hp.u
    have := hb.write i (by omega) hi p c (zn 512) hbb (zn_length _) (by
      rw [hc, ups_other _ _ (by omega), lst_len_ups (by omega)]
      exact hr2) (by rw [hus, List.length_append]; simp only [List.length_cons, List.length_nil]; omega)
    rw [hp.t] at this
    exact this
  clear hrd
  clear h hr1 hr2
  obtain ⟨A, hA⟩ : ∃ A, 98 + i / 4096 = A := ⟨_, rfl⟩
  obtain ⟨J, hJ⟩ : ∃ J, i % 4096 = J := ⟨_, rfl⟩
  obtain ⟨m, hm⟩ : ∃ m, T.us.length = m := ⟨_, rfl⟩
  rw [hm] at HM
  have HMm : Hid (T.us.length = m ∧ 98 + i / 4096 = A ∧ i % 4096 = J) := ⟨hm, hA, hJ⟩
  unfold plV at HF HP
  rw [hA, hJ] at HF HP HW
  rw [hm] at hu
  clear hA hJ hm
  obtain ⟨wz, hwz⟩ : ∃ wz, ((w.alloc (.cells #[.pointer (some ⟨T.t, 0, none⟩)] 39)).alloc (.cells #[.int .i64 (n : Int), .int .i64 98, .int .i64 (gI n), .int .i64 (gD n), .int .i64 (gC n)] 36)).alloc (.cells #[.int .i64 0] 28) = wz := ⟨_, rfl⟩
  have HZ : Hid (Below w.heap.size w wz ∧ Oc wz w.heap.size T.t n 0 ∧ wz.heap.size = w.heap.size + 3) := by
    rw [← hwz]
    refine ⟨(((Below.refl _ _).alloc (Nat.le_refl _) _).alloc (by simp) _).alloc (by simp <;> omega) _, ⟨?_, ?_, ?_⟩, by simp⟩
    · exact (Below.heap_alloc _ _ _ (by simp <;> omega)).trans ((Below.heap_alloc _ _ _ (by simp)).trans (heap_alloc_new _ _))
    · have := heap_alloc_new (w.alloc (.cells #[.pointer (some ⟨T.t, 0, none⟩)] 39)) (.cells #[.int .i64 (n : Int), .int .i64 98, .int .i64 (gI n), .int .i64 (gD n), .int .i64 (gC n)] 36)
      rw [World.size_alloc] at this
      exact (Below.heap_alloc _ _ _ (by simp)).trans this
    · have := heap_alloc_new ((w.alloc (.cells #[.pointer (some ⟨T.t, 0, none⟩)] 39)).alloc (.cells #[.int .i64 (n : Int), .int .i64 98, .int .i64 (gI n), .int .i64 (gD n), .int .i64 (gC n)] 36)) (.cells #[.int .i64 0] 28)
      rw [World.size_alloc, World.size_alloc] at this
      exact this
  obtain ⟨z1, z2, z3⟩ := HZ.out.2.1.cells
  go_enter_defers Tryz.func68, Tryz.ntmps68
  unfold geoV
  unfold geoV at HF
  go_upto_region 3 with (go_at_call 62; refine (HM.out _ HZ.out.1).mono ?_; rintro e w1 ⟨rfl, hb⟩; have H1 : Hid (Below wz.heap.size wz w1) := hb; obtain ⟨y1, y2, y3⟩ := (HZ.out.2.1.on hb).cells; obtain ⟨x1, x2, x3⟩ := ((HZ.out.2.1.on hb).on ((Below.refl _ _).alloc (Nat.le_refl _) (.cells #[.int .i64 (m : Int)] 3))).cells; clear hb HM)
  obtain ⟨M1, hM1⟩ : ∃ M1, w1.heap.size = M1 := ⟨_, rfl⟩
  obtain ⟨w2, hw2⟩ : ∃ w2, (w1.alloc (.cells #[.int .i64 (m : Int)] 3)).setCell ⟨w.heap.size + 1 + 1, 0, none⟩ (.int .i64 0) = w2 := ⟨_, rfl⟩
  have H2 : Hid (Oc w2 w.heap.size T.t n 0 ∧ Below w.heap.size w w2 ∧ w2.heap[M1]? = some (.cells #[.int .i64 (m : Int)] 3 (0, 0)) ∧ w2.heap.size = M1 + 1 ∧ w.heap.size + 3 ≤ M1) := by
    have hs := HZ.out.2.2
    have hs1 := H1.out.size
    have hb1 : Below w.heap.size w w1 := HZ.out.1.trans (H1.out.mono HZ.out.1.size)
    rw [← hw2]
    refine ⟨((HZ.out.2.1.on H1.out).on ((Below.refl _ _).alloc (Nat.le_refl _) _)).set 0, (hb1.alloc hb1.size _).setCell (p := ⟨w.heap.size + 1 + 1, 0, none⟩) (by show w.heap.size ≤ w.heap.size + 1 + 1; omega) _, ?_, by simp [hM1], by omega⟩
    refine (Below.heap_setCell _ ⟨w.heap.size + 1 + 1, 0, none⟩ _ M1 (by show M1 ≠ w.heap.size + 1 + 1; omega)).trans ?_
    rw [← hM1]
    exact heap_alloc_new _ _
  rw [hw2, hM1]
  clear hw2 hwz y1 y2 y3 x1 x2 x3 z1 z2 z3
  obtain ⟨z1, z2, z3⟩ := H2.out.1.cells
  obtain ⟨f0, f1, f2, f3, f4⟩ := H2.out.1.g.cells
  go_upto_region 6 with (go_at_call 72; refine (HF.out _ H2.out.2.1).mono ?_; rintro e w3 ⟨g, cap, rfl, h1, h2, h3⟩; have H3 : Hid (w2.heap.size ≤ g ∧ OwnB w3 g cap (bmp D T (i / 4096)) ∧ Below w2.heap.size w2 w3) := ⟨h1, h2, h3⟩; obtain ⟨x1, x2, x3⟩ := ((H2.out.1.on h3).on ((Below.refl _ _).alloc (Nat.le_refl _) (.cells #[.int .i64 (A : Int), .slice (some ⟨g, 0, none⟩) 512 cap, .int .i64 (J : Int)] 122))).cells; clear h1 h2 h3 HF)
  obtain ⟨P1, hP1⟩ : ∃ P1, w3.heap.size = P1 := ⟨_, rfl⟩
  obtain ⟨w4, hw4⟩ : ∃ w4, (w3.alloc (.cells #[.int .i64 (A : Int), .slice (some ⟨g, 0, none⟩) 512 cap, .int .i64 (J : Int)] 122)).setCell ⟨w.heap.size + 1 + 1, 0, none⟩ (.int .i64 0) = w4 := ⟨_, rfl⟩
  have H4 : Hid (Oc w4 w.heap.size T.t n 0 ∧ Below w.heap.size w w4 ∧ w4.heap[M1]? = some (.cells #[.int .i64 (m : Int)] 3 (0, 0)) ∧ w4.heap[P1]? = some (.cells #[.int .i64 (A : Int), .slice (some ⟨g, 0, none⟩) 512 cap, .int .i64 (J : Int)] 122 (0, 0)) ∧ OwnB w4 g cap (bmp D T (i / 4096)) ∧ w4.heap.size = P1 + 1 ∧ M1 < g ∧ g < P1) := by
    have hs := H2.out.2.2.2
    have hs3 := H3.out.2.2.size
    have hgl := H3.out.2.1.lt
    have hg2 := H3.out.1
    have hb3 : Below w.heap.size w w3 := H2.out.2.1.trans (H3.out.2.2.mono H2.out.2.1.size)
    rw [← hw4]
    refine ⟨((H2.out.1.on H3.out.2.2).on ((Below.refl _ _).alloc (Nat.le_refl _) _)).set 0, (hb3.alloc hb3.size _).setCell (p := ⟨w.heap.size + 1 + 1, 0, none⟩) (by show w.heap.size ≤ w.heap.size + 1 + 1; omega) _, ?_, ?_, ?_, by simp [hP1], by omega, by omega⟩
    · refine (Below.heap_setCell _ ⟨w.heap.size + 1 + 1, 0, none⟩ _ M1 (by show M1 ≠ w.heap.size + 1 + 1; omega)).trans ((Below.heap_alloc _ _ _ (by omega)).trans ((H3.out.2.2.block M1 (by omega)).trans H2.out.2.2.1))
    · refine (Below.heap_setCell _ ⟨w.heap.size + 1 + 1, 0, none⟩ _ P1 (by show P1 ≠ w.heap.size + 1 + 1; omega)).trans ?_
      rw [← hP1]
      exact heap_alloc_new _ _
    · exact (H3.out.2.1.on ((Below.refl _ _).alloc (Nat.le_refl _) _)).fr (Fr.set (g := w.heap.size + 1 + 1)) (by show ¬ g = w.heap.size + 1 + 1; omega)
  rw [hw4, hP1]
  clear hw4 z1 z2 z3 x1 x2 x3 f0 f1 f2 f3 f4
  obtain ⟨z1, z2, z3⟩ := H4.out.1.cells
  have p0 : w4.cell? ⟨P1, 0, none⟩ = some (.int .i64 (A : Int)) := by rw [cell_of_row _ _ _ _ _ _ H4.out.2.2.2.1]; rfl
  have p1 : w4.cell? ⟨P1, 1, none⟩ = some (.slice (some ⟨g, 0, none⟩) 512 cap) := by rw [cell_of_row _ _ _ _ _ _ H4.out.2.2.2.1]; rfl
  have p2 : w4.cell? ⟨P1, 2, none⟩ = some (.int .i64 (J : Int)) := by rw [cell_of_row _ _ _ _ _ _ H4.out.2.2.2.1]; rfl
  have hgw : Hid (w.heap.size ≤ g) := by
    have h9 := H4.out.2.2.2.2.2.2.1
    have h8 := H2.out.2.2.2.2
    show w.heap.size ≤ g
    omega
  go_upto_region 9 with (go_at_call 74; refine (HP.out _ _ _ H4.out.2.1 H4.out.2.2.2.2.1 hgw.out).mono ?_; rintro e w5 ⟨rfl, T1, hx⟩; have H5 : Hid (PutE w0 w4 w5 D T T1 n A (bput (bmp D T (i / 4096)) J true) g) := hx; have HO5 : Hid (Oc w5 w.heap.size T.t n 0 ∧ w5.heap[M1]? = some (.cells #[.int .i64 (m : Int)] 3 (0, 0))) := oc_put HS.out H4.out.1 H4.out.2.2.1 hx (by have h8 := H2.out.2.2.2.2; omega) H4.out.2.2.2.2.2.2.1; obtain ⟨x1, x2, x3⟩ := HO5.out.1.cells; clear hx HP)
  clear z1 z2 z3 p0 p1 p2
  obtain ⟨w6, hw6⟩ : ∃ w6, w5.setCell ⟨w.heap.size + 1 + 1, 0, none⟩ (.int .i64 0) = w6 := ⟨_, rfl⟩
  have H6 : Hid (Oc w6 w.heap.size T.t n 0 ∧ w6.heap[M1]? = some (.cells #[.int .i64 (m : Int)] 3 (0, 0)) ∧ Fr (fun k => k = w.heap.size + 1 + 1) w5 w6 ∧ Spc w0 w6 D T1 n ∧ w4.heap.size ≤ w6.heap.size ∧ (∀ k, T1.all k → T.all k ∨ w4.heap.size ≤ k) ∧ (∀ k, T1.has k → T.has k ∨ w4.heap.size ≤ k)) := by
    have h8 := H2.out.2.2.2.2
    have h7 := H4.out.2.2.2.2.2
    obtain ⟨v1, hf, hmv⟩ := H5.out.mv
    have hs1 := hf.size
    have hs2 := hmv.fr.size
    have hal : ∀ k, T1.all k → T.all k ∨ w4.heap.size ≤ k := fun k hk => (hmv.al k hk).elim .inl (fun e => .inr (by omega))
    rw [← hw6]
    refine ⟨HO5.out.1.set 0, ?_, Fr.set, HS.out.box H5.out.spc hal (by omega) (by omega) _, ?_, hal, fun k hk => (hmv.has k hk).elim .inl (fun e => .inr (by omega))⟩
    · exact (Below.heap_setCell _ ⟨w.heap.size + 1 + 1, 0, none⟩ _ M1 (by show M1 ≠ w.heap.size + 1 + 1; omega)).trans HO5.out.2
    · rw [World.size_setCell]; omega
  rw [hw6]
  clear hw6 x1 x2 x3
  obtain ⟨o, E2, ho⟩ := make512
  have HO : Hid (∀ w : World, OwnB (w.alloc o) w.heap.size 512 (zn 512)) := ho
  obtain ⟨z1, z2, z3⟩ := H6.out.1.cells
  obtain ⟨x1, x2, x3⟩ := (H6.out.1.on ((Below.refl _ _).alloc (Nat.le_refl _) o)).cells
  have HW6 : Hid (∀ wx p c, Below w6.heap.size w6 wx → Bytes wx (some p) (zn 512) → Calls Tryz.prog 34 #[.pointer (some ⟨T.t, 0, none⟩), .int .i64 (i : Int), .slice (some p) 512 c] wx fun e w' => e = .returned (.int .i64 0) ∧ ∃ T', WrE w0 wx w' D T1 T' n i (zn 512) ∧ Oc w' w.heap.size T.t n 0 ∧ Below w6.heap.size w6 wx) := fun wx p c hb hbb => by
    refine (HW.out w4 w5 T1 g H5.out wx p c (H6.out.2.2.2.1.on hb) hbb).mono ?_
    rintro e w' ⟨rfl, T', hx⟩
    have h8 := H2.out.2.2.2.2
    have h7 := H4.out.2.2.2.2.2
    have hno : ∀ k, w.heap.size ≤ k → k < M1 → ¬ T1.has k := fun k hk hk2 hh => by
      rcases H6.out.2.2.2.2.2.2 k hh with e | e
      · have := HS.out.ses.tx.lt (.inl e); omega
      · omega
    exact ⟨rfl, T', hx, (H6.out.1.on hb).fr hx.mv.fr (hno _ (by omega) (by omega)) (hno _ (by omega) (by omega)) (hno _ (by omega) (by omega)), hb⟩
  clear ho
  rename_i Q' K hK
  refine Code.wp_mono (Q := Exit.then K (fun _ _ _ => False)) (fun e a w => ?_) ?_
  · cases e <;> simp [Exit.then]
  go_region_law (go_simp; first
    | (go_at_call 34; refine (HW6.out _ _ _ (by repeat (first | exact Below.refl _ _ | apply Below.drew | refine Below.alloc ?_ (by simp) _)) (by first | exact ((HO.out w6).on (by repeat (first | exact Below.refl _ _ | apply Below.drew))).bytes | exact ((HO.out w6.drew).on (by repeat (first | exact Below.refl _ _ | apply Below.drew))).bytes)).mono ?_; rintro e w7 ⟨rfl, T2, hx, hoc, hbx⟩; have H7 : Hid (∃ wx, WrE w0 wx w7 D T1 T2 n i (zn 512) ∧ Below w6.heap.size w6 wx ∧ Oc w7 w.heap.size T.t n 0) := ⟨_, hx, hbx, hoc⟩; obtain ⟨y1, y2, y3⟩ := hoc.cells; clear hx hbx hoc))
  all_goals
    refine hK _ _ ?_
    go_wp2
    refine leaves_cons (f := 107) (args := #[.pointer (some ⟨w.heap.size + 1 + 1, 0, none⟩), .pointer (some ⟨w.heap.size, 0, none⟩), .pointer (some ⟨M1, 0, none⟩)]) (by simp) (by simp [go_sem]) ?_
    have hc := H7.out
    obtain ⟨wx, h1, h2, h3⟩ := hc
    have HE : Hid (TakE w0 w (w7.setCell ⟨w.heap.size + 1 + 1, 0, none⟩ (.int .i64 0)) D T T2 n i) := tak_end HS.out H4.out.2.1 H5.out hgw.out H6.out.2.2.1 (by omega) (by have h8 := H2.out.2.2.2.2; have h7 := H4.out.2.2.2.2.2; omega) h2 h1 HMm.out.2.1 HMm.out.2.2 _
    obtain ⟨k1, k2, k3⟩ := (h3.set 0).cells
    clear h1 h2 h3
    refine (occ1_ok _ _ _ _ _ k2).mono ?_
    rintro e u' w9 ⟨rfl, rfl, rfl⟩
    simp [Leaves, settle, results, Tryz.results68, go_sem, k2]
    exact ⟨T2, HE.out⟩
theorem TakE.after {w0 w wa w' : World} {D : Dk} {T T' : Tx} {n i : Nat} (h : TakE w0 wa w' D T T' n i) (hb : Below w.heap.size w wa) : TakE w0 w w' D T T' n i := ⟨(TMv.on hb).trans h.mv, h.spc, h.c, h.u, h.uu⟩
set_option maxRecDepth 100000 in
set_option maxHeartbeats 4000000 in
theorem stake_ok (w0 w : World) (D : Dk) (T : Tx) (n : Nat) (h : Spc w0 w D T n) (i : Nat) (hi : IsLo (fd (nD n) n (bmp D T)) i) (hr1 : (T.c (98 + i / 4096)).isSome = true ∨ (lst T.c n).length < 96) (hr2 : (T.c i).isSome = true ∨ (lst T.c n).length + (if (T.c (98 + i / 4096)).isSome then 0 else 1) < 96) (hu : T.us.length + 2 ≤ 1000000) (K : Nat) (hK : Kpre D T n K) (hiK : i < 4096 * K) :
    Calls Tryz.prog 24 #[.pointer (some ⟨T.t, 0, none⟩), geoV n] w fun e w' => e = .returned (.tuple #[.int .i64 (i : Int), .int .i64 0]) ∧ ∃ T', TakE w0 w w' D T T' n i := by
  have hbd := fd_bd hi.1
  have HA : Hid (∀ o, Below w.heap.size w (w.alloc o)) := fun o => (Below.refl _ _).alloc (Nat.le_refl _) o
  have HL : Hid (∀ wx, Below w.heap.size w wx → Calls Tryz.prog 67 #[.pointer (some ⟨T.t, 0, none⟩), geoV n] wx fun e w' => e = .returned (.tuple #[.int .i64 (i : Int), .int .i64 0]) ∧ Below wx.heap.size wx w') := fun wx hb => low_yes w0 wx D T n (h.on hb) i hi K hK hiK
  have HO : Hid (∀ wx, Below w.heap.size w wx → Calls Tryz.prog 68 #[.pointer (some ⟨T.t, 0, none⟩), geoV n, .int .i64 (i : Int)] wx fun e w' => e = .returned (.int .i64 0) ∧ ∃ T', TakE w0 w w' D T T' n i) := fun wx hb => by
    refine (occupy_ok w0 wx D T n (h.on hb) i hbd.1 hbd.2 hr1 hr2 hu (hK.rd _ (by omega))).mono ?_
    rintro e w' ⟨rfl, T', hx⟩
    exact ⟨rfl, T', hx.after hb⟩
  clear h hi hr1 hr2 hu
  obtain ⟨wz, hwz⟩ : ∃ wz, w.alloc (.cells #[.int .i64 (n : Int), .int .i64 98, .int .i64 (gI n), .int .i64 (gD n), .int .i64 (gC n)] 36) = wz := ⟨_, rfl⟩
  have HZ : Hid (Below w.heap.size w wz ∧ GeoAt wz w.heap.size n) := by
    rw [← hwz]; exact ⟨HA.out _, heap_alloc_new _ _⟩
  obtain ⟨z0, z1, z2, z3, z4⟩ := HZ.out.2.cells
  clear HA
  go_enter Tryz.func24, Tryz.ntmps24
  unfold geoV
  unfold geoV at HL HO
  go_wp2_with (first
    | (go_at_call 67; refine (HL.out _ HZ.out.1).mono ?_; rintro e w1 ⟨rfl, h1⟩; have H1 : Hid (Below w.heap.size w w1) := HZ.out.1.trans (h1.mono HZ.out.1.size); obtain ⟨y0, y1, y2, y3, y4⟩ := (HZ.out.2.on h1).cells; clear h1 HL)
    | (go_at_call 68; refine (HO.out _ H1.out).mono ?_; rintro e w2 ⟨rfl, T', hx⟩; clear HO))
  go_ret2
  exact ⟨rfl, T', hx⟩
end Go.Proofs.YtflienghgobmoaaGreatDoor
