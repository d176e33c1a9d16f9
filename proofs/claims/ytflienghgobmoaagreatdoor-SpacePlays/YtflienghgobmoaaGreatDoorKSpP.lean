import Derived.Test.YtflienghgobmoaaGreatDoorSpI
namespace Go.Proofs.YtflienghgobmoaaGreatDoor
open Go.RowKit Go.Maps Rec

set_option maxRecDepth 100000 in
set_option maxHeartbeats 4000000 in
theorem put_big (w0 wq w : World) (D : Dk) (T : Tx) (n : Nat) (h : Spc w0 wq D T n) (hq : Below wq.heap.size wq w) (i g cap : Nat) (hi : i < n) (ho : OwnB w g cap (bmp D T (i / 4096))) (hg : wq.heap.size ≤ g) (on : Bool) (hr : T.c (98 + i / 4096) = none) (hu : (lst T.c n).length = 96) :
    Calls Tryz.prog 74 #[plV i g cap, .pointer (some ⟨T.t, 0, none⟩), .bool on] w fun e w' => e = .returned (.int .i64 60) ∧ Fr (fun k => k = g) w w' := by
  have hN := nM_bd h.lo h.hi
  have hk : i / 4096 < nM n := by unfold nM; omega
  have hl := h.bm.len (i / 4096) hk
  have HP : Hid (∀ wx, Below w.heap.size w wx → Calls Tryz.prog 110 #[.slice (some ⟨g, 0, none⟩) 512 cap, .int .i64 ((i % 4096 : Nat) : Int), .bool on] wx fun e w' => e = .returned (.int .i64 0) ∧ OwnB w' g cap (bput (bmp D T (i / 4096)) (i % 4096) on) ∧ Fr (fun k => k = g) wx w') := fun wx hb => put_own wx g 512 cap cap (i % 4096) _ on (ho.on hb) hl (by omega)
  have HW : Hid (∀ wx w', Below w.heap.size w wx → OwnB w' g cap (bput (bmp D T (i / 4096)) (i % 4096) on) → Fr (fun k => k = g) wx w' → Calls Tryz.prog 34 #[.pointer (some ⟨T.t, 0, none⟩), .int .i64 ((98 + i / 4096 : Nat) : Int), .slice (some ⟨g, 0, none⟩) 512 cap] w' fun e w9 => e = .returned (.int .i64 60) ∧ Fr (fun k => k = g) w w9) := fun wx w' hb h2 h3 => by
    have hb1 : Below wq.heap.size wq w' := (hq.trans (hb.mono hq.size)).trans (h3.below _ (fun k hk => by have hk : k = g := hk; omega) (Nat.le_trans hq.size hb.size))
    have hs := (h.on hb1).ses
    refine (twrite_big w' T D hs.tx hs.dk.disk hs.d hs.nb (98 + i / 4096) (by omega) (by rw [h.nb]; omega) (some ⟨g, 0, none⟩) cap hr (by rw [h.nb]; exact hu)).mono ?_
    rintro e w9 ⟨rfl, hb9⟩
    exact ⟨rfl, ((below_fr hb _).trans h3 (fun k hk => .inl hk)).trans (below_fr hb9 (fun _ => False)) (fun _ e => e.elim)⟩
  obtain ⟨x, hx⟩ : ∃ x, bput (bmp D T (i / 4096)) (i % 4096) on = x := ⟨_, rfl⟩
  obtain ⟨A, hA⟩ : ∃ A, 98 + i / 4096 = A := ⟨_, rfl⟩
  obtain ⟨J, hJ⟩ : ∃ J, i % 4096 = J := ⟨_, rfl⟩
  rw [hx] at HP HW
  unfold plV
  rw [hA] at HW
  rw [hJ] at HP
  rw [hA, hJ]
  have hgl : g < w.heap.size := ho.lt
  clear h ho hr hu hx hA hJ hq
  go_enter Tryz.func74, Tryz.ntmps74
  have HB0 : Hid (Below w.heap.size w (w.alloc (.cells #[.int .i64 (A : Int), .slice (some ⟨g, 0, none⟩) 512 cap, .int .i64 (J : Int)] 122))) := (Below.refl _ _).alloc (Nat.le_refl _) _
  obtain ⟨wa, hwa⟩ : ∃ wa, w.alloc (.cells #[.int .i64 (A : Int), .slice (some ⟨g, 0, none⟩) 512 cap, .int .i64 (J : Int)] 122) = wa := ⟨_, rfl⟩
  have hra : wa.heap[w.heap.size]? = some (.cells #[.int .i64 (A : Int), .slice (some ⟨g, 0, none⟩) 512 cap, .int .i64 (J : Int)] 122 (0, 0)) := by rw [← hwa]; exact heap_alloc_new _ _
  have q0 : wa.cell? ⟨w.heap.size, 0, none⟩ = some (.int .i64 (A : Int)) := by rw [cell_of_row _ _ _ _ _ _ hra]; rfl
  have q1 : wa.cell? ⟨w.heap.size, 1, none⟩ = some (.slice (some ⟨g, 0, none⟩) 512 cap) := by rw [cell_of_row _ _ _ _ _ _ hra]; rfl
  have q2 : wa.cell? ⟨w.heap.size, 2, none⟩ = some (.int .i64 (J : Int)) := by rw [cell_of_row _ _ _ _ _ _ hra]; rfl
  have HQ : Hid (Below w.heap.size w wa ∧ wa.heap[w.heap.size]? = some (.cells #[.int .i64 (A : Int), .slice (some ⟨g, 0, none⟩) 512 cap, .int .i64 (J : Int)] 122 (0, 0))) := ⟨by rw [← hwa]; exact HB0.out, hra⟩
  clear hra HB0
  go_wp2_with (first
    | (go_at_call 110; refine (HP.out _ HQ.out.1).mono ?_; rintro e w1 ⟨rfl, h2, h3⟩; have H1 : Hid (OwnB w1 g cap x ∧ Fr (fun k => k = g) wa w1) := ⟨h2, h3⟩; have hra1 := h3.heap HQ.out.2 (show ¬ w.heap.size = g from by omega); have s0 : w1.cell? ⟨w.heap.size, 0, none⟩ = some (.int .i64 (A : Int)) := (by rw [cell_of_row _ _ _ _ _ _ hra1]; rfl); have s1 : w1.cell? ⟨w.heap.size, 1, none⟩ = some (.slice (some ⟨g, 0, none⟩) 512 cap) := (by rw [cell_of_row _ _ _ _ _ _ hra1]; rfl); clear h2 h3 hra1 HP)
    | (go_at_call 34; refine (HW.out _ _ HQ.out.1 H1.out.1 H1.out.2).mono ?_; rintro e w2 ⟨rfl, hx⟩; have H2 : Hid (Fr (fun k => k = g) w w2) := hx; clear hx HW))
  go_ret
  exact ⟨rfl, H2.out⟩
/-- behind a refused call -/
structure BigE (w0 w w' : World) (D : Dk) (T T' : Tx) (n : Nat) : Prop where
  mv : TMv w T w' T'
  spc : Spc w0 w' D T' n
  c : T'.c = T.c
  us : T'.us = T.us
theorem BigE.of {w0 w w' : World} {D : Dk} {T T' : Tx} {n : Nat} (h : Spc w0 w D T n) (h1 : TxAt w' T') (h2 : TMv w T w' T') (h3 : T'.c = undo T.c []) (h4 : T'.us = T.us) : BigE w0 w w' D T T' n := by
  have hc : T'.c = T.c := h3
  exact ⟨h2, ⟨h.ses.mv h1 h2, h2.nb.trans h.nb, h.lo, h.hi, fun i hi => by
    have := h.ok i hi
    unfold tv at this ⊢
    rw [hc]
    exact this⟩, hc, h4⟩
set_option maxRecDepth 100000 in
set_option maxHeartbeats 8000000 in
theorem occupy_96 (w0 w : World) (D : Dk) (T : Tx) (n : Nat) (h : Spc w0 w D T n) (i : Nat) (_ : nD n ≤ i) (hi : i < n) (hnb : n ≤ 16384) (hr1 : T.c (98 + i / 4096) = none) (hr2 : (lst T.c n).length = 96) (hrd : rdb D T (98 + i / 4096)) :
    Calls Tryz.prog 68 #[.pointer (some ⟨T.t, 0, none⟩), geoV n, .int .i64 (i : Int)] w fun e w' => e = .returned (.int .i64 60) ∧ ∃ T', BigE w0 w w' D T T' n := by
  have hN := nM_bd h.lo h.hi
  have HS : Hid (Spc w0 w D T n) := h
  have HM : Hid (∀ wx, Below w.heap.size w wx → Calls Tryz.prog 62 #[.pointer (some ⟨T.t, 0, none⟩)] wx fun e w' => e = .returned (.tuple #[.int .i64 (T.us.length : Nat), .int .i64 0]) ∧ Below wx.heap.size wx w') := fun wx hb => mark_any wx T (h.on hb).ses.tx
  have HF : Hid (∀ wx, Below w.heap.size w wx → Calls Tryz.prog 72 #[.pointer (some ⟨T.t, 0, none⟩), geoV n, .int .i64 (i : Int)] wx fun e w' => ∃ g cap, e = .returned (.tuple #[plV i g cap, .int .i64 0]) ∧ wx.heap.size ≤ g ∧ OwnB w' g cap (bmp D T (i / 4096)) ∧ Below wx.heap.size wx w') := fun wx hb => find_ok w0 wx D T n (h.on hb) i hi hrd
  have HP : Hid (∀ wx g cap, Below w.heap.size w wx → OwnB wx g cap (bmp D T (i / 4096)) → w.heap.size ≤ g → Calls Tryz.prog 74 #[plV i g cap, .pointer (some ⟨T.t, 0, none⟩), .bool true] wx fun e w' => e = .returned (.int .i64 60) ∧ Fr (fun k => k = g) wx w') := fun wx g cap hbx ho hg => put_big w0 w wx D T n h hbx i g cap hi ho hg true hr1 hr2
  have HBk : Hid (∀ wx, Spc w0 wx D T n → Calls Tryz.prog 64 #[.pointer (some ⟨T.t, 0, none⟩), .int .i64 (T.us.length : Nat)] wx fun e w' => e = .returned (.int .i64 0) ∧ ∃ T', BigE w0 wx w' D T T' n) := fun wx hx => by
    have hcn := hx.ses.tx.cnt
    refine (tback_ok wx T hx.ses.tx (by rw [hx.nb]; exact hnb) T.us.length (Nat.le_refl _) (by rw [List.drop_length]; exact hcn)).mono ?_
    rintro e w' ⟨rfl, T', h1, h2, h3, h4⟩
    rw [List.drop_length] at h3
    rw [List.take_length] at h4
    exact ⟨rfl, T', BigE.of hx h1 h2 h3 h4⟩
  clear hrd
  clear h hr1 hr2
  obtain ⟨A, hA⟩ : ∃ A, 98 + i / 4096 = A := ⟨_, rfl⟩
  obtain ⟨J, hJ⟩ : ∃ J, i % 4096 = J := ⟨_, rfl⟩
  obtain ⟨m, hm⟩ : ∃ m, T.us.length = m := ⟨_, rfl⟩
  rw [hm] at HM HBk
  have HMm : Hid (T.us.length = m ∧ 98 + i / 4096 = A ∧ i % 4096 = J) := ⟨hm, hA, hJ⟩
  unfold plV at HF HP
  rw [hA, hJ] at HF HP
  clear hA hJ hm
  obtain ⟨wz, hwz⟩ : ∃ wz, ((w.alloc (.cells #[.pointer (some ⟨T.t, 0, none⟩)] 39)).alloc (.cells #[.int .i64 (n : Int), .int .i64 98, .int .i64 (gI n), .int .i64 (gD n), .int .i64 (gC n)] 36)).alloc (.cells #[.int .i64 0] 28) = wz := ⟨_, rfl⟩
  have HZ : Hid (Below w.heap.size w wz ∧ Oc wz w.heap.size T.t n 0 ∧ wz.heap.size = w.heap.size + 3) := by
    rw [← hwz]
    refine ⟨(((Below.refl _ _).alloc (Nat.le_refl _) _).alloc (by simp) _).alloc (by simp <;> omega) _, ⟨?_, ?_, ?_⟩, by simp⟩
    · exact (Below.heap_alloc _ _ _ (by simp <;> omega)).trans ((Below.heap_alloc _ _ _ (by simp)).trans (heap_alloc_new _ _))
    · have := heap_alloc_new (w.alloc (.cells #[.pointer (some ⟨T.t, 0, none⟩)] 39)) (.cells #[.int .i64 (n : Int), .int .i64 98, .int .i64 (gI n), .int .i64 (gD n), .int .i64 (gC n)] 36)
      rw [World.size_alloc] at this
      exact (Below.heap_alloc _ _ _ (by simp)).trans this
    · have := heap_alloc_new ((w.alloc (.cells #[.pointer (some ⟨T.t, 0, none⟩)] 39)).alloc (.cells #[.int .i64 (n : Int), .int .i64 98, .int .i64 (gI n), .int .i64 (gD n), .int .i64 (gC n)] 36)) (.cells #[.int .i64 0] 28)
      rw [World.size_alloc, World.size_alloc] at this
      exact this
  obtain ⟨z1, z2, z3⟩ := HZ.out.2.1.cells
  go_enter_defers Tryz.func68, Tryz.ntmps68
  unfold geoV
  unfold geoV at HF
  go_upto_region 3 with (go_at_call 62; refine (HM.out _ HZ.out.1).mono ?_; rintro e w1 ⟨rfl, hb⟩; have H1 : Hid (Below wz.heap.size wz w1) := hb; obtain ⟨y1, y2, y3⟩ := (HZ.out.2.1.on hb).cells; obtain ⟨x1, x2, x3⟩ := ((HZ.out.2.1.on hb).on ((Below.refl _ _).alloc (Nat.le_refl _) (.cells #[.int .i64 (m : Int)] 3))).cells; clear hb HM)
  obtain ⟨M1, hM1⟩ : ∃ M1, w1.heap.size = M1 := ⟨_, rfl⟩
  obtain ⟨w2, hw2⟩ : ∃ w2, (w1.alloc (.cells #[.int .i64 (m : Int)] 3)).setCell ⟨w.heap.size + 1 + 1, 0, none⟩ (.int .i64 0) = w2 := ⟨_, rfl⟩
  have H2 : Hid (Oc w2 w.heap.size T.t n 0 ∧ Below w.heap.size w w2 ∧ w2.heap[M1]? = some (.cells #[.int .i64 (m : Int)] 3 (0, 0)) ∧ w2.heap.size = M1 + 1 ∧ w.heap.size + 3 ≤ M1) := by
    have hs := HZ.out.2.2
    have hs1 := H1.out.size
    have hb1 : Below w.heap.size w w1 := HZ.out.1.trans (H1.out.mono HZ.out.1.size)
    rw [← hw2]
    refine ⟨((HZ.out.2.1.on H1.out).on ((Below.refl _ _).alloc (Nat.le_refl _) _)).set 0, (hb1.alloc hb1.size _).setCell (p := ⟨w.heap.size + 1 + 1, 0, none⟩) (by show w.heap.size ≤ w.heap.size + 1 + 1; omega) _, ?_, by simp [hM1], by omega⟩
    refine (Below.heap_setCell _ ⟨w.heap.size + 1 + 1, 0, none⟩ _ M1 (by show M1 ≠ w.heap.size + 1 + 1; omega)).trans ?_
    rw [← hM1]
    exact heap_alloc_new _ _
  rw [hw2, hM1]
  clear hw2 hwz y1 y2 y3 x1 x2 x3 z1 z2 z3
  obtain ⟨z1, z2, z3⟩ := H2.out.1.cells
  obtain ⟨f0, f1, f2, f3, f4⟩ := H2.out.1.g.cells
  go_upto_region 6 with (go_at_call 72; refine (HF.out _ H2.out.2.1).mono ?_; rintro e w3 ⟨g, cap, rfl, h1, h2, h3⟩; have H3 : Hid (w2.heap.size ≤ g ∧ OwnB w3 g cap (bmp D T (i / 4096)) ∧ Below w2.heap.size w2 w3) := ⟨h1, h2, h3⟩; obtain ⟨x1, x2, x3⟩ := ((H2.out.1.on h3).on ((Below.refl _ _).alloc (Nat.le_refl _) (.cells #[.int .i64 (A : Int), .slice (some ⟨g, 0, none⟩) 512 cap, .int .i64 (J : Int)] 122))).cells; clear h1 h2 h3 HF)
  obtain ⟨P1, hP1⟩ : ∃ P1, w3.heap.size = P1 := ⟨_, rfl⟩
  obtain ⟨w4, hw4⟩ : ∃ w4, (w3.alloc (.cells #[.int .i64 (A : Int), .slice (some ⟨g, 0, none⟩) 512 cap, .int .i64 (J : Int)] 122)).setCell ⟨w.heap.size + 1 + 1, 0, none⟩ (.int .i64 0) = w4 := ⟨_, rfl⟩
  have H4 : Hid (Oc w4 w.heap.size T.t n 0 ∧ Below w.heap.size w w4 ∧ w4.heap[M1]? = some (.cells #[.int .i64 (m : Int)] 3 (0, 0)) ∧ w4.heap[P1]? = some (.cells #[.int .i64 (A : Int), .slice (some ⟨g, 0, none⟩) 512 cap, .int .i64 (J : Int)] 122 (0, 0)) ∧ OwnB w4 g cap (bmp D T (i / 4096)) ∧ w4.heap.size = P1 + 1 ∧ M1 < g ∧ g < P1) := by
    have hs := H2.out.2.2.2
    have hs3 := H3.out.2.2.size
    have hgl := H3.out.2.1.lt
    have hg2 := H3.out.1
    have hb3 : Below w.heap.size w w3 := H2.out.2.1.trans (H3.out.2.2.mono H2.out.2.1.size)
    rw [← hw4]
    refine ⟨((H2.out.1.on H3.out.2.2).on ((Below.refl _ _).alloc (Nat.le_refl _) _)).set 0, (hb3.alloc hb3.size _).setCell (p := ⟨w.heap.size + 1 + 1, 0, none⟩) (by show w.heap.size ≤ w.heap.size + 1 + 1; omega) _, ?_, ?_, ?_, by simp [hP1], by omega, by omega⟩
    · refine (Below.heap_setCell _ ⟨w.heap.size + 1 + 1, 0, none⟩ _ M1 (by show M1 ≠ w.heap.size + 1 + 1; omega)).trans ((Below.heap_alloc _ _ _ (by omega)).trans ((H3.out.2.2.block M1 (by omega)).trans H2.out.2.2.1))
    · refine (Below.heap_setCell _ ⟨w.heap.size + 1 + 1, 0, none⟩ _ P1 (by show P1 ≠ w.heap.size + 1 + 1; omega)).trans ?_
      rw [← hP1]
      exact heap_alloc_new _ _
    · exact (H3.out.2.1.on ((Below.refl _ _).alloc (Nat.le_refl _) _)).fr (Fr.set (g := w.heap.size + 1 + 1)) (by show ¬ g = w.heap.size + 1 + 1; omega)
  rw [hw4, hP1]
  clear hw4 z1 z2 z3 x1 x2 x3 f0 f1 f2 f3 f4
  obtain ⟨z1, z2, z3⟩ := H4.out.1.cells
  have p0 : w4.cell? ⟨P1, 0, none⟩ = some (.int .i64 (A : Int)) := by rw [cell_of_row _ _ _ _ _ _ H4.out.2.2.2.1]; rfl
  have p1 : w4.cell? ⟨P1, 1, none⟩ = some (.slice (some ⟨g, 0, none⟩) 512 cap) := by rw [cell_of_row _ _ _ _ _ _ H4.out.2.2.2.1]; rfl
  have p2 : w4.cell? ⟨P1, 2, none⟩ = some (.int .i64 (J : Int)) := by rw [cell_of_row _ _ _ _ _ _ H4.out.2.2.2.1]; rfl
  have hgw : Hid (w.heap.size ≤ g) := by
    have h9 := H4.out.2.2.2.2.2.2.1
    have h8 := H2.out.2.2.2.2
    show w.heap.size ≤ g
    omega
  have HW4 : Hid (∀ w5, Fr (fun k => k = g) w4 w5 → Oc w5 w.heap.size T.t n 0 ∧ w5.heap[M1]? = some (.cells #[.int .i64 (m : Int)] 3 (0, 0)) ∧ Below w.heap.size w w5) := fun w5 hf => by
    have h8 := H2.out.2.2.2.2
    have h7 := H4.out.2.2.2.2.2
    have hg : ∀ k, k < g → ¬ k = g := fun k hk => by omega
    exact ⟨H4.out.1.fr hf (hg _ (by omega)) (hg _ (by omega)) (hg _ (by omega)), hf.heap H4.out.2.2.1 (hg _ (by omega)), H4.out.2.1.trans (hf.below _ (fun k hk => by have hk : k = g := hk; omega) H4.out.2.1.size)⟩
  go_wp2_with (go_at_call 74; refine (HP.out _ _ _ H4.out.2.1 H4.out.2.2.2.2.1 hgw.out).mono ?_; rintro e w5 ⟨rfl, hx⟩; have H5 : Hid (Oc w5 w.heap.size T.t n 0 ∧ w5.heap[M1]? = some (.cells #[.int .i64 (m : Int)] 3 (0, 0)) ∧ Below w.heap.size w w5) := HW4.out _ hx; obtain ⟨x1, x2, x3⟩ := H5.out.1.cells; obtain ⟨y1, y2, y3⟩ := (H5.out.1.set 60).cells; clear hx HP)
  refine leaves_cons (f := 107) (args := #[.pointer (some ⟨w.heap.size + 1 + 1, 0, none⟩), .pointer (some ⟨w.heap.size, 0, none⟩), .pointer (some ⟨M1, 0, none⟩)]) (by simp) (by simp [go_sem]) ?_
  obtain ⟨w6, hw6⟩ : ∃ w6, (w5.setCell ⟨w.heap.size + 1 + 1, 0, none⟩ (.int .i64 60)).setCell ⟨w.heap.size + 1 + 1, 0, none⟩ (.int .i64 60) = w6 := ⟨_, rfl⟩
  have H6 : Hid (Oc w6 w.heap.size T.t n 60 ∧ w6.heap[M1]? = some (.cells #[.int .i64 (m : Int)] 3 (0, 0)) ∧ Below w.heap.size w w6) := by
    have h8 := H2.out.2.2.2.2
    rw [← hw6]
    refine ⟨(H5.out.1.set 60).set 60, ?_, (H5.out.2.2.setCell (p := ⟨w.heap.size + 1 + 1, 0, none⟩) (by show w.heap.size ≤ w.heap.size + 1 + 1; omega) _).setCell (p := ⟨w.heap.size + 1 + 1, 0, none⟩) (by show w.heap.size ≤ w.heap.size + 1 + 1; omega) _⟩
    exact (Below.heap_setCell _ ⟨w.heap.size + 1 + 1, 0, none⟩ _ M1 (by show M1 ≠ w.heap.size + 1 + 1; omega)).trans ((Below.heap_setCell _ ⟨w.heap.size + 1 + 1, 0, none⟩ _ M1 (by show M1 ≠ w.heap.size + 1 + 1; omega)).trans H5.out.2.1)
  rw [hw6]
  clear hw6 x1 x2 x3 y1 y2 y3
  obtain ⟨k1, k2, k3⟩ := H6.out.1.cells
  refine (occ1_bad w6 _ _ _ T.t m _ _ k2 k1 (by rw [cell_of_row _ _ _ _ _ _ H6.out.2.1]; rfl) (HBk.out w6 (HS.out.on H6.out.2.2))).mono ?_
  rintro e u' w9 ⟨rfl, rfl, T', hx⟩
  have hno : ∀ k, w.heap.size ≤ k → ¬ T.has k := fun k hk hh => by
    have := HS.out.ses.tx.lt (.inl hh)
    omega
  obtain ⟨j1, j2, j3⟩ := (H6.out.1.fr hx.mv.fr (hno _ (by omega)) (hno _ (by omega)) (hno _ (by omega))).cells
  have HE : Hid (BigE w0 w w9 D T T' n) := ⟨(TMv.on H6.out.2.2).trans hx.mv, hx.spc, hx.c, hx.us⟩
  simp [Leaves, settle, results, Tryz.results68, go_sem, j2]
  exact ⟨T', HE.out⟩
theorem big_end {w0 w w4 w5 w6 w7 w9 : World} {D : Dk} {T T1 T' : Tx} {n A g e0 : Nat} {x : List Int} {v : Value} (hS : Spc w0 w D T n) (hb4 : Below w.heap.size w w4) (h5 : PutE w0 w4 w5 D T T1 n A x g) (hg : w.heap.size ≤ g) (h6 : Fr (fun k => k = e0) w5 w6) (he : w.heap.size ≤ e0) (h7 : Below w6.heap.size w6 w7) (h8 : Spc w0 (w7.setCell ⟨e0, 0, none⟩ v) D T1 n) (h1 : TxAt w9 T') (h2 : TMv (w7.setCell ⟨e0, 0, none⟩ v) T1 w9 T') (h3 : T'.c = T.c) (h4 : T'.us = T.us) : BigE w0 w w9 D T T' n := by
  obtain ⟨v1, hf, hmv⟩ := h5.mv
  have s1 := hb4.size
  have s2 := hf.size
  have s3 := hmv.fr.size
  have s4 := h6.size
  have s5 := h7.size
  have s6 : (w7.setCell ⟨e0, 0, none⟩ v).heap.size = w7.heap.size := World.size_setCell _ _ _
  refine ⟨⟨?_, fun k hk => ?_, fun k hk => ?_, h2.t.trans hmv.t, h2.d.trans hmv.d, h2.nb.trans hmv.nb⟩, ⟨h8.ses.mv h1 h2, (h2.nb.trans hmv.nb).trans hS.nb, hS.lo, hS.hi, fun i hi => ?_⟩, h3, h4⟩
  · have f1 : Fr T.has w w4 := below_fr hb4 _
    have f2 := f1.trans hf (fun k hk => .inr (by have hk : k = g := hk; omega))
    have f3 := f2.trans hmv.fr (fun k hk => .inl hk)
    have f4 := f3.trans h6 (fun k hk => .inr (by have hk : k = e0 := hk; omega))
    have f5 := f4.trans (below_fr h7 (fun _ => False)) (fun _ e => e.elim)
    have f6 := f5.trans (Fr.set (g := e0) (k := 0) (v := v)) (fun k hk => .inr (by have hk : k = e0 := hk; omega))
    exact f6.trans h2.fr (fun k hk => (hmv.has k hk).elim .inl (fun e => .inr (by omega)))
  · rcases h2.al k hk with e | e
    · rcases hmv.al k e with e | e
      · exact .inl e
      · exact .inr (by omega)
    · exact .inr (by omega)
  · rcases h2.has k hk with e | e
    · rcases hmv.has k e with e | e
      · exact .inl e
      · exact .inr (by omega)
    · exact .inr (by omega)
  · have := hS.ok i hi
    unfold tv at this ⊢
    rw [h3]
    exact this
set_option maxRecDepth 100000 in
set_option maxHeartbeats 8000000 in
theorem occupy_95 (w0 w : World) (D : Dk) (T : Tx) (n : Nat) (h : Spc w0 w D T n) (i : Nat) (h0 : nD n ≤ i) (hi : i < n) (hnb : n ≤ 16384) (hr1 : (T.c (98 + i / 4096)).isSome = true ∨ (lst T.c n).length < 96) (hr3 : T.c i = none) (hr2 : (lst T.c n).length + (if (T.c (98 + i / 4096)).isSome then 0 else 1) = 96) (hu : T.us.length + 2 ≤ 1000000) (hrd : rdb D T (98 + i / 4096)) :
    Calls Tryz.prog 68 #[.pointer (some ⟨T.t, 0, none⟩), geoV n, .int .i64 (i : Int)] w fun e w' => e = .returned (.int .i64 60) ∧ ∃ T', BigE w0 w w' D T T' n := by
  have hN := nM_bd h.lo h.hi
  have HS : Hid (Spc w0 w D T n) := h
  have HM : Hid (∀ wx, Below w.heap.size w wx → Calls Tryz.prog 62 #[.pointer (some ⟨T.t, 0, none⟩)] wx fun e w' => e = .returned (.tuple #[.int .i64 (T.us.length : Nat), .int .i64 0]) ∧ Below wx.heap.size wx w') := fun wx hb => mark_any wx T (h.on hb).ses.tx
  have HF : Hid (∀ wx, Below w.heap.size w wx → Calls Tryz.prog 72 #[.pointer (some ⟨T.t, 0, none⟩), geoV n, .int .i64 (i : Int)] wx fun e w' => ∃ g cap, e = .returned (.tuple #[plV i g cap, .int .i64 0]) ∧ wx.heap.size ≤ g ∧ OwnB w' g cap (bmp D T (i / 4096)) ∧ Below wx.heap.size wx w') := fun wx hb => find_ok w0 wx D T n (h.on hb) i hi hrd
  have HP : Hid (∀ wx g cap, Below w.heap.size w wx → OwnB wx g cap (bmp D T (i / 4096)) → w.heap.size ≤ g → Calls Tryz.prog 74 #[plV i g cap, .pointer (some ⟨T.t, 0, none⟩), .bool true] wx fun e w' => e = .returned (.int .i64 0) ∧ ∃ T', PutE w0 wx w' D T T' n (98 + i / 4096) (bput (bmp D T (i / 4096)) (i % 4096) true) g) := fun wx g cap hbx ho hg => put_bit w0 w wx D T n h hbx i g cap hi ho hg true hr1 (by omega)
  have HW : Hid (∀ wa w5 T1 g, PutE w0 wa w5 D T T1 n (98 + i / 4096) (bput (bmp D T (i / 4096)) (i % 4096) true) g → ∀ wx p c, Spc w0 wx D T1 n → Calls Tryz.prog 34 #[.pointer (some ⟨T.t, 0, none⟩), .int .i64 (i : Int), .slice (some p) 512 c] wx fun e w' => e = .returned (.int .i64 60) ∧ Below wx.heap.size wx w') := fun wa w5 T1 g hp wx p c hb => by
    obtain ⟨q, hc, hq⟩ := hp.c
    have hs := hb.ses
    have := twrite_big wx T1 D hs.tx hs.dk.disk hs.d hs.nb i (by omega) (by rw [hb.nb]; exact hi) (some p) c (by rw [hc, ups_other _ _ (by omega)]; exact hr3) (by rw [hb.nb, hc, lst_len_ups (by omega)]; exact hr2)
    rw [hp.t] at this
    exact this
  have HBk : Hid (∀ wa w5 T1 g, PutE w0 wa w5 D T T1 n (98 + i / 4096) (bput (bmp D T (i / 4096)) (i % 4096) true) g → ∀ wx, Spc w0 wx D T1 n → Calls Tryz.prog 64 #[.pointer (some ⟨T.t, 0, none⟩), .int .i64 (T.us.length : Nat)] wx fun e w' => e = .returned (.int .i64 0) ∧ ∃ T', TxAt w' T' ∧ TMv wx T1 w' T' ∧ T'.c = T.c ∧ T'.us = T.us) := fun wa w5 T1 g hp wx hx => by
    obtain ⟨q, hc, hq⟩ := hp.c
    obtain ⟨u, hus, hui, huo⟩ := hp.u
    have hd : T1.us.drop T.us.length = [u] := by rw [hus, List.drop_left]
    have ht : T1.us.take T.us.length = T.us := by rw [hus, List.take_left]
    have hundo : undo T1.c [u] = T.c := by
      show ups T1.c u.i u.old = T.c
      rw [hc, hui, huo, ups_back]
    have := tback_ok wx T1 hx.ses.tx (by rw [hx.nb]; exact hnb) T.us.length (by rw [hus, List.length_append]; omega) (by rw [hd, hundo, hx.nb]; split at hr2 <;> omega)
    rw [hd, ht, hundo, hp.t] at this
    exact this
  clear hrd
  clear h hr1 hr2 hr3
  obtain ⟨A, hA⟩ : ∃ A, 98 + i / 4096 = A := ⟨_, rfl⟩
  obtain ⟨J, hJ⟩ : ∃ J, i % 4096 = J := ⟨_, rfl⟩
  obtain ⟨m, hm⟩ : ∃ m, T.us.length = m := ⟨_, rfl⟩
  rw [hm] at HM HBk
  have HMm : Hid (T.us.length = m ∧ 98 + i / 4096 = A ∧ i % 4096 = J) := ⟨hm, hA, hJ⟩
  unfold plV at HF HP
  rw [hA, hJ] at HF HP HW HBk
  rw [hm] at hu
  clear hA hJ hm
  obtain ⟨wz, hwz⟩ : ∃ wz, ((w.alloc (.cells #[.pointer (some ⟨T.t, 0, none⟩)] 39)).alloc (.cells #[.int .i64 (n : Int), .int .i64 98, .int .i64 (gI n), .int .i64 (gD n), .int .i64 (gC n)] 36)).alloc (.cells #[.int .i64 0] 28) = wz := ⟨_, rfl⟩
  have HZ : Hid (Below w.heap.size w wz ∧ Oc wz w.heap.size T.t n 0 ∧ wz.heap.size = w.heap.size + 3) := by
    rw [← hwz]
    refine ⟨(((Below.refl _ _).alloc (Nat.le_refl _) _).alloc (by simp) _).alloc (by simp <;> omega) _, ⟨?_, ?_, ?_⟩, by simp⟩
    · exact (Below.heap_alloc _ _ _ (by simp <;> omega)).trans ((Below.heap_alloc _ _ _ (by simp)).trans (heap_alloc_new _ _))
    · have := heap_alloc_new (w.alloc (.cells #[.pointer (some ⟨T.t, 0, none⟩)] 39)) (.cells #[.int .i64 (n : Int), .int .i64 98, .int .i64 (gI n), .int .i64 (gD n), .int .i64 (gC n)] 36)
      rw [World.size_alloc] at this
      exact (Below.heap_alloc _ _ _ (by simp)).trans this
    · have := heap_alloc_new ((w.alloc (.cells #[.pointer (some ⟨T.t, 0, none⟩)] 39)).alloc (.cells #[.int .i64 (n : Int), .int .i64 98, .int .i64 (gI n), .int .i64 (gD n), .int .i64 (gC n)] 36)) (.cells #[.int .i64 0] 28)
      rw [World.size_alloc, World.size_alloc] at this
      exact this
  obtain ⟨z1, z2, z3⟩ := HZ.out.2.1.cells
  go_enter_defers Tryz.func68, Tryz.ntmps68
  unfold geoV
  unfold geoV at HF
  go_upto_region 3 with (go_at_call 62; refine (HM.out _ HZ.out.1).mono ?_; rintro e w1 ⟨rfl, hb⟩; have H1 : Hid (Below wz.heap.size wz w1) := hb; obtain ⟨y1, y2, y3⟩ := (HZ.out.2.1.on hb).cells; obtain ⟨x1, x2, x3⟩ := ((HZ.out.2.1.on hb).on ((Below.refl _ _).alloc (Nat.le_refl _) (.cells #[.int .i64 (m : Int)] 3))).cells; clear hb HM)
  obtain ⟨M1, hM1⟩ : ∃ M1, w1.heap.size = M1 := ⟨_, rfl⟩
  obtain ⟨w2, hw2⟩ : ∃ w2, (w1.alloc (.cells #[.int .i64 (m : Int)] 3)).setCell ⟨w.heap.size + 1 + 1, 0, none⟩ (.int .i64 0) = w2 := ⟨_, rfl⟩
  have H2 : Hid (Oc w2 w.heap.size T.t n 0 ∧ Below w.heap.size w w2 ∧ w2.heap[M1]? = some (.cells #[.int .i64 (m : Int)] 3 (0, 0)) ∧ w2.heap.size = M1 + 1 ∧ w.heap.size + 3 ≤ M1) := by
    have hs := HZ.out.2.2
    have hs1 := H1.out.size
    have hb1 : Below w.heap.size w w1 := HZ.out.1.trans (H1.out.mono HZ.out.1.size)
    rw [← hw2]
    refine ⟨((HZ.out.2.1.on H1.out).on ((Below.refl _ _).alloc (Nat.le_refl _) _)).set 0, (hb1.alloc hb1.size _).setCell (p := ⟨w.heap.size + 1 + 1, 0, none⟩) (by show w.heap.size ≤ w.heap.size + 1 + 1; omega) _, ?_, by simp [hM1], by omega⟩
    refine (Below.heap_setCell _ ⟨w.heap.size + 1 + 1, 0, none⟩ _ M1 (by show M1 ≠ w.heap.size + 1 + 1; omega)).trans ?_
    rw [← hM1]
    exact heap_alloc_new _ _
  rw [hw2, hM1]
  clear hw2 hwz y1 y2 y3 x1 x2 x3 z1 z2 z3
  obtain ⟨z1, z2, z3⟩ := H2.out.1.cells
  obtain ⟨f0, f1, f2, f3, f4⟩ := H2.out.1.g.cells
  go_upto_region 6 with (go_at_call 72; refine (HF.out _ H2.out.2.1).mono ?_; rintro e w3 ⟨g, cap, rfl, h1, h2, h3⟩; have H3 : Hid (w2.heap.size ≤ g ∧ OwnB w3 g cap (bmp D T (i / 4096)) ∧ Below w2.heap.size w2 w3) := ⟨h1, h2, h3⟩; obtain ⟨x1, x2, x3⟩ := ((H2.out.1.on h3).on ((Below.refl _ _).alloc (Nat.le_refl _) (.cells #[.int .i64 (A : Int), .slice (some ⟨g, 0, none⟩) 512 cap, .int .i64 (J : Int)] 122))).cells; clear h1 h2 h3 HF)
  obtain ⟨P1, hP1⟩ : ∃ P1, w3.heap.size = P1 := ⟨_, rfl⟩
  obtain ⟨w4, hw4⟩ : ∃ w4, (w3.alloc (.cells #[.int .i64 (A : Int), .slice (some ⟨g, 0, none⟩) 512 cap, .int .i64 (J : Int)] 122)).setCell ⟨w.heap.size + 1 + 1, 0, none⟩ (.int .i64 0) = w4 := ⟨_, rfl⟩
  have H4 : Hid (Oc w4 w.heap.size T.t n 0 ∧ Below w.heap.size w w4 ∧ w4.heap[M1]? = some (.cells #[.int .i64 (m : Int)] 3 (0, 0)) ∧ w4.heap[P1]? = some (.cells #[.int .i64 (A : Int), .slice (some ⟨g, 0, none⟩) 512 cap, .int .i64 (J : Int)] 122 (0, 0)) ∧ OwnB w4 g cap (bmp D T (i / 4096)) ∧ w4.heap.size = P1 + 1 ∧ M1 < g ∧ g < P1) := by
    have hs := H2.out.2.2.2
    have hs3 := H3.out.2.2.size
    have hgl := H3.out.2.1.lt
    have hg2 := H3.out.1
    have hb3 : Below w.heap.size w w3 := H2.out.2.1.trans (H3.out.2.2.mono H2.out.2.1.size)
    rw [← hw4]
    refine ⟨((H2.out.1.on H3.out.2.2).on ((Below.refl _ _).alloc (Nat.le_refl _) _)).set 0, (hb3.alloc hb3.size _).setCell (p := ⟨w.heap.size + 1 + 1, 0, none⟩) (by show w.heap.size ≤ w.heap.size + 1 + 1; omega) _, ?_, ?_, ?_, by simp [hP1], by omega, by omega⟩
    · refine (Below.heap_setCell _ ⟨w.heap.size + 1 + 1, 0, none⟩ _ M1 (by show M1 ≠ w.heap.size + 1 + 1; omega)).trans ((Below.heap_alloc _ _ _ (by omega)).trans ((H3.out.2.2.block M1 (by omega)).trans H2.out.2.2.1))
    · refine (Below.heap_setCell _ ⟨w.heap.size + 1 + 1, 0, none⟩ _ P1 (by show P1 ≠ w.heap.size + 1 + 1; omega)).trans ?_
      rw [← hP1]
      exact heap_alloc_new _ _
    · exact (H3.out.2.1.on ((Below.refl _ _).alloc (Nat.le_refl _) _)).fr (Fr.set (g := w.heap.size + 1 + 1)) (by show ¬ g = w.heap.size + 1 + 1; omega)
  rw [hw4, hP1]
  clear hw4 z1 z2 z3 x1 x2 x3 f0 f1 f2 f3 f4
  obtain ⟨z1, z2, z3⟩ := H4.out.1.cells
  have p0 : w4.cell? ⟨P1, 0, none⟩ = some (.int .i64 (A : Int)) := by rw [cell_of_row _ _ _ _ _ _ H4.out.2.2.2.1]; rfl
  have p1 : w4.cell? ⟨P1, 1, none⟩ = some (.slice (some ⟨g, 0, none⟩) 512 cap) := by rw [cell_of_row _ _ _ _ _ _ H4.out.2.2.2.1]; rfl
  have p2 : w4.cell? ⟨P1, 2, none⟩ = some (.int .i64 (J : Int)) := by rw [cell_of_row _ _ _ _ _ _ H4.out.2.2.2.1]; rfl
  have hgw : Hid (w.heap.size ≤ g) := by
    have h9 := H4.out.2.2.2.2.2.2.1
    have h8 := H2.out.2.2.2.2
    show w.heap.size ≤ g
    omega
  go_upto_region 9 with (go_at_call 74; refine (HP.out _ _ _ H4.out.2.1 H4.out.2.2.2.2.1 hgw.out).mono ?_; rintro e w5 ⟨rfl, T1, hx⟩; have H5 : Hid (PutE w0 w4 w5 D T T1 n A (bput (bmp D T (i / 4096)) J true) g) := hx; have HO5 : Hid (Oc w5 w.heap.size T.t n 0 ∧ w5.heap[M1]? = some (.cells #[.int .i64 (m : Int)] 3 (0, 0))) := oc_put HS.out H4.out.1 H4.out.2.2.1 hx (by have h8 := H2.out.2.2.2.2; omega) H4.out.2.2.2.2.2.2.1; obtain ⟨x1, x2, x3⟩ := HO5.out.1.cells; clear hx HP)
  clear z1 z2 z3 p0 p1 p2
  obtain ⟨w6, hw6⟩ : ∃ w6, w5.setCell ⟨w.heap.size + 1 + 1, 0, none⟩ (.int .i64 0) = w6 := ⟨_, rfl⟩
  have H6 : Hid (Oc w6 w.heap.size T.t n 0 ∧ w6.heap[M1]? = some (.cells #[.int .i64 (m : Int)] 3 (0, 0)) ∧ Fr (fun k => k = w.heap.size + 1 + 1) w5 w6 ∧ Spc w0 w6 D T1 n ∧ w4.heap.size ≤ w6.heap.size ∧ (∀ k, T1.all k → T.all k ∨ w4.heap.size ≤ k) ∧ (∀ k, T1.has k → T.has k ∨ w4.heap.size ≤ k)) := by
    have h8 := H2.out.2.2.2.2
    have h7 := H4.out.2.2.2.2.2
    obtain ⟨v1, hf, hmv⟩ := H5.out.mv
    have hs1 := hf.size
    have hs2 := hmv.fr.size
    have hal : ∀ k, T1.all k → T.all k ∨ w4.heap.size ≤ k := fun k hk => (hmv.al k hk).elim .inl (fun e => .inr (by omega))
    rw [← hw6]
    refine ⟨HO5.out.1.set 0, ?_, Fr.set, HS.out.box H5.out.spc hal (by omega) (by omega) _, ?_, hal, fun k hk => (hmv.has k hk).elim .inl (fun e => .inr (by omega))⟩
    · exact (Below.heap_setCell _ ⟨w.heap.size + 1 + 1, 0, none⟩ _ M1 (by show M1 ≠ w.heap.size + 1 + 1; omega)).trans HO5.out.2
    · rw [World.size_setCell]; omega
  rw [hw6]
  clear hw6 x1 x2 x3
  obtain ⟨o, E2, ho⟩ := make512
  have HO : Hid (∀ w : World, OwnB (w.alloc o) w.heap.size 512 (zn 512)) := ho
  obtain ⟨z1, z2, z3⟩ := H6.out.1.cells
  obtain ⟨x1, x2, x3⟩ := (H6.out.1.on ((Below.refl _ _).alloc (Nat.le_refl _) o)).cells
  have HW6 : Hid (∀ wx p c, Below w6.heap.size w6 wx → Calls Tryz.prog 34 #[.pointer (some ⟨T.t, 0, none⟩), .int .i64 (i : Int), .slice (some p) 512 c] wx fun e w' => e = .returned (.int .i64 60) ∧ Below w6.heap.size w6 w') := fun wx p c hb => by
    refine (HW.out w4 w5 T1 g H5.out wx p c (H6.out.2.2.2.1.on hb)).mono ?_
    rintro e w' ⟨rfl, hx⟩
    exact ⟨rfl, hb.trans (hx.mono hb.size)⟩
  clear ho
  rename_i Q' K hK
  refine Code.wp_mono (Q := Exit.then K (fun _ _ _ => False)) (fun e a w => ?_) ?_
  · cases e <;> simp [Exit.then]
  go_region_law (go_simp; first
    | (go_at_call 34; refine (HW6.out _ _ _ (by repeat (first | exact Below.refl _ _ | apply Below.drew | refine Below.alloc ?_ (by simp) _))).mono ?_; rintro e w7 ⟨rfl, hbx⟩; have H7 : Hid (Below w6.heap.size w6 w7) := hbx; obtain ⟨y1, y2, y3⟩ := (H6.out.1.on hbx).cells; clear hbx))
  all_goals
    refine hK _ _ ?_
    go_wp2
    refine leaves_cons (f := 107) (args := #[.pointer (some ⟨w.heap.size + 1 + 1, 0, none⟩), .pointer (some ⟨w.heap.size, 0, none⟩), .pointer (some ⟨M1, 0, none⟩)]) (by simp) (by simp [go_sem]) ?_
    have h8 := H2.out.2.2.2.2
    have h7 := H4.out.2.2.2.2.2
    have hoc := (H6.out.1.on H7.out).set 60
    have hm7 : (w7.setCell ⟨w.heap.size + 1 + 1, 0, none⟩ (.int .i64 60)).heap[M1]? = some (.cells #[.int .i64 (m : Int)] 3 (0, 0)) := (Below.heap_setCell _ ⟨w.heap.size + 1 + 1, 0, none⟩ _ M1 (by show M1 ≠ w.heap.size + 1 + 1; omega)).trans ((H7.out.block _ (heap_lt H6.out.2.1)).trans H6.out.2.1)
    have hs8 : Spc w0 (w7.setCell ⟨w.heap.size + 1 + 1, 0, none⟩ (.int .i64 60)) D T1 n := HS.out.box (H6.out.2.2.2.1.on H7.out) H6.out.2.2.2.2.2.1 (by omega) (by omega) _
    obtain ⟨k1, k2, k3⟩ := hoc.cells
    refine (occ1_bad _ _ _ _ T.t m _ _ k2 k1 (by rw [cell_of_row _ _ _ _ _ _ hm7]; rfl) (HBk.out w4 w5 T1 g H5.out _ hs8)).mono ?_
    rintro e u' w9 ⟨rfl, rfl, T', h1, h2, h3, h4⟩
    have hno : ∀ k, w.heap.size ≤ k → k < M1 → ¬ T1.has k := fun k hk hk2 hh => by
      rcases H6.out.2.2.2.2.2.2 k hh with e | e
      · have := HS.out.ses.tx.lt (.inl e); omega
      · omega
    obtain ⟨j1, j2, j3⟩ := (hoc.fr h2.fr (hno _ (by omega) (by omega)) (hno _ (by omega) (by omega)) (hno _ (by omega) (by omega))).cells
    have HE : Hid (BigE w0 w w9 D T T' n) := big_end HS.out H4.out.2.1 H5.out hgw.out H6.out.2.2.1 (by omega) H7.out (v := .int .i64 60) hs8 h1 h2 h3 h4
    simp [Leaves, settle, results, Tryz.results68, go_sem, j2]
    exact ⟨T', HE.out⟩
end Go.Proofs.YtflienghgobmoaaGreatDoor

namespace Go.Proofs.YtflienghgobmoaaGreatDoor
open Go.RowKit Go.Maps Rec

theorem lo_of_ct {f : Nat → Bool} {n : Nat} (h : ct f n ≠ 0) : ∃ i, i < n ∧ IsLo f i := by
  induction n with
  | zero => exact absurd rfl h
  | succ n ih =>
    by_cases e : ct f n = 0
    · rw [ct, e] at h
      have hz := ct_zero.1 e
      refine ⟨n, by omega, ?_, hz⟩
      cases hf : f n
      · rw [hf] at h; exact absurd rfl h
      · rfl
    · obtain ⟨i, h1, h2⟩ := ih e
      exact ⟨i, by omega, h2⟩
set_option maxRecDepth 100000 in
set_option maxHeartbeats 4000000 in
/-- Take with no room in the log -/
theorem stake_60 (w0 w : World) (D : Dk) (T : Tx) (n : Nat) (h : Spc w0 w D T n) (i : Nat) (hi : IsLo (fd (nD n) n (bmp D T)) i) (hno : ¬ (((T.c (98 + i / 4096)).isSome = true ∨ (lst T.c n).length < 96) ∧ ((T.c i).isSome = true ∨ (lst T.c n).length + (if (T.c (98 + i / 4096)).isSome then 0 else 1) < 96))) (hu : T.us.length + 2 ≤ 1000000) (K : Nat) (hK : Kpre D T n K) (hiK : i < 4096 * K) :
    Calls Tryz.prog 24 #[.pointer (some ⟨T.t, 0, none⟩), geoV n] w fun e w' => e = .returned (.tuple #[.int .i64 0, .int .i64 60]) ∧ ∃ T', BigE w0 w w' D T T' n := by
  have hbd := fd_bd hi.1
  have hnb := h.hi
  have hcnt : (lst T.c n).length ≤ 96 := by have := h.ses.tx.cnt; rw [h.nb] at this; exact this
  have HA : Hid (∀ o, Below w.heap.size w (w.alloc o)) := fun o => (Below.refl _ _).alloc (Nat.le_refl _) o
  have HL : Hid (∀ wx, Below w.heap.size w wx → Calls Tryz.prog 67 #[.pointer (some ⟨T.t, 0, none⟩), geoV n] wx fun e w' => e = .returned (.tuple #[.int .i64 (i : Int), .int .i64 0]) ∧ Below wx.heap.size wx w') := fun wx hb => low_yes w0 wx D T n (h.on hb) i hi K hK hiK
  have HO : Hid (∀ wx, Below w.heap.size w wx → Calls Tryz.prog 68 #[.pointer (some ⟨T.t, 0, none⟩), geoV n, .int .i64 (i : Int)] wx fun e w' => e = .returned (.int .i64 60) ∧ ∃ T', BigE w0 w w' D T T' n) := fun wx hb => by
    have h9 : Calls Tryz.prog 68 #[.pointer (some ⟨T.t, 0, none⟩), geoV n, .int .i64 (i : Int)] wx fun e w' => e = .returned (.int .i64 60) ∧ ∃ T', BigE w0 wx w' D T T' n := by
      by_cases hr1 : (T.c (98 + i / 4096)).isSome = true ∨ (lst T.c n).length < 96
      · have hr : ¬ ((T.c i).isSome = true ∨ (lst T.c n).length + (if (T.c (98 + i / 4096)).isSome then 0 else 1) < 96) := fun e => hno ⟨hr1, e⟩
        have hr3 : T.c i = none := by
          cases e : T.c i
          · rfl
          · exact absurd (.inl (by rw [e]; rfl)) hr
        refine occupy_95 w0 wx D T n (h.on hb) i hbd.1 hbd.2 (by omega) hr1 hr3 ?_ hu (hK.rd _ (by omega))
        have h2 : 96 ≤ (lst T.c n).length + (if (T.c (98 + i / 4096)).isSome then 0 else 1) := Nat.le_of_not_lt (fun e => hr (.inr e))
        have h3 : (lst T.c n).length + (if (T.c (98 + i / 4096)).isSome then 0 else 1) ≤ 96 := by
          rcases hr1 with e | e
          · rw [if_pos e]; omega
          · split <;> omega
        exact Nat.le_antisymm h3 h2
      · refine occupy_96 w0 wx D T n (h.on hb) i hbd.1 hbd.2 (by omega) ?_ ?_ (hK.rd _ (by omega))
        · cases e : T.c (98 + i / 4096)
          · rfl
          · exact absurd (.inl (by rw [e]; rfl)) hr1
        · have := fun e => hr1 (.inr e)
          omega
    refine h9.mono ?_
    rintro e w' ⟨rfl, T', hx⟩
    exact ⟨rfl, T', (TMv.on hb).trans hx.mv, hx.spc, hx.c, hx.us⟩
  clear h hi hno hu hK hiK
  obtain ⟨wz, hwz⟩ : ∃ wz, w.alloc (.cells #[.int .i64 (n : Int), .int .i64 98, .int .i64 (gI n), .int .i64 (gD n), .int .i64 (gC n)] 36) = wz := ⟨_, rfl⟩
  have HZ : Hid (Below w.heap.size w wz ∧ GeoAt wz w.heap.size n) := by
    rw [← hwz]; exact ⟨HA.out _, heap_alloc_new _ _⟩
  obtain ⟨z0, z1, z2, z3, z4⟩ := HZ.out.2.cells
  clear HA
  go_enter Tryz.func24, Tryz.ntmps24
  unfold geoV
  unfold geoV at HL HO
  go_wp2_with (first
    | (go_at_call 67; refine (HL.out _ HZ.out.1).mono ?_; rintro e w1 ⟨rfl, h1⟩; have H1 : Hid (Below w.heap.size w w1) := HZ.out.1.trans (h1.mono HZ.out.1.size); obtain ⟨y0, y1, y2, y3, y4⟩ := (HZ.out.2.on h1).cells; clear h1 HL)
    | (go_at_call 68; refine (HO.out _ H1.out).mono ?_; rintro e w2 ⟨rfl, T', hx⟩; clear HO))
  go_ret2
  exact ⟨rfl, T', hx⟩
end Go.Proofs.YtflienghgobmoaaGreatDoor
