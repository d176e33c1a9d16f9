import Derived.Test.YtgmccpimpbnnpaaDoorKSpP
import Derived.Test.YtgmccpimpbnnpaaDoorKTxA
import Derived.Test.YtgmccpimpbnnpaaDoorKBzD
namespace Go.Proofs.YtgmccpimpbnnpaaDoor
open Go.RowKit Go.Maps Rec
structure TakX (w0 w w' : World) (D : Dk) (T T' : Tx) (n i : Nat) : Prop where
  tak : TakE w0 w w' D T T' n i
  ext : Ext T T' 2
theorem TakX.after {w0 w wa w' : World} {D : Dk} {T T' : Tx} {n i : Nat} (h : TakX w0 wa w' D T T' n i) (hb : Below w.heap.size w wa) : TakX w0 w w' D T T' n i := ⟨h.tak.after hb, h.ext⟩
theorem tak_endx {w0 w w4 w5 w6 wx w7 : World} {D : Dk} {T T1 T2 : Tx} {n i A J g e0 : Nat} (hS : Spc w0 w D T n) (hb4 : Below w.heap.size w w4) (h5 : PutE w0 w4 w5 D T T1 n A (bput (bmp D T (i / 4096)) J true) g) (hg : w.heap.size ≤ g) (h6 : Fr (fun k => k = e0) w5 w6) (he : w.heap.size ≤ e0) (hlt : e0 < w4.heap.size) (hb : Below w6.heap.size w6 wx) (h7 : WrE w0 wx w7 D T1 T2 n i (zn 512)) (hA : 98 + i / 4096 = A) (hJ : i % 4096 = J) (v : Value) : TakX w0 w (w7.setCell ⟨e0, 0, none⟩ v) D T T2 n i := by
  refine ⟨tak_end hS hb4 h5 hg h6 he hlt hb h7 hA hJ v, ?_⟩
  obtain ⟨q, hq1, _⟩ := h5.c
  obtain ⟨q2, hq3, _⟩ := h7.c
  obtain ⟨u, hu, hui, huo⟩ := h5.u
  obtain ⟨u2, hu2, hui2, huo2⟩ := h7.u
  refine ⟨[u, u2], by rw [hu2, hu, List.append_assoc]; rfl, rfl, ?_⟩
  show ups (ups T2.c u2.i u2.old) u.i u.old = T.c
  rw [hq3, hui2, huo2, ups_back, hq1, hui, huo, ups_back]
set_option maxRecDepth 100000 in
set_option maxHeartbeats 8000000 in
theorem occupy_okx (w0 w : World) (D : Dk) (T : Tx) (n : Nat) (h : Spc w0 w D T n) (i : Nat) (h0 : nD n ≤ i) (hi : i < n) (hr1 : (T.c (98 + i / 4096)).isSome = true ∨ (lst T.c n).length < 96) (hr2 : (T.c i).isSome = true ∨ (lst T.c n).length + (if (T.c (98 + i / 4096)).isSome then 0 else 1) < 96) (hu : T.us.length + 2 ≤ 1000000) :
    Calls Tryd.prog 63 #[.pointer (some ⟨T.t, 0, none⟩), geoV n, .int .i64 (i : Int)] w fun e w' => e = .returned (.int .i64 0) ∧ ∃ T', TakX w0 w w' D T T' n i := by
  have hN := nM_bd h.lo h.hi
  have HS : Hid (Spc w0 w D T n) := h
  have HM : Hid (∀ wx, Below w.heap.size w wx → Calls Tryd.prog 45 #[.pointer (some ⟨T.t, 0, none⟩)] wx fun e w' => e = .returned (.tuple #[.int .i64 (T.us.length : Nat), .int .i64 0]) ∧ Below wx.heap.size wx w') := fun wx hb => mark_any wx T (h.on hb).ses.tx
  have HF : Hid (∀ wx, Below w.heap.size w wx → Calls Tryd.prog 78 #[.pointer (some ⟨T.t, 0, none⟩), geoV n, .int .i64 (i : Int)] wx fun e w' => ∃ g cap, e = .returned (.tuple #[plV i g cap, .int .i64 0]) ∧ wx.heap.size ≤ g ∧ OwnB w' g cap (bmp D T (i / 4096)) ∧ Below wx.heap.size wx w') := fun wx hb => find_ok w0 wx D T n (h.on hb) i hi
  have HP : Hid (∀ wx g cap, Below w.heap.size w wx → OwnB wx g cap (bmp D T (i / 4096)) → w.heap.size ≤ g → Calls Tryd.prog 79 #[plV i g cap, .pointer (some ⟨T.t, 0, none⟩), .bool true] wx fun e w' => e = .returned (.int .i64 0) ∧ ∃ T', PutE w0 wx w' D T T' n (98 + i / 4096) (bput (bmp D T (i / 4096)) (i % 4096) true) g) := fun wx g cap hbx ho hg => put_bit w0 w wx D T n h hbx i g cap hi ho hg true hr1 (by omega)
  have HW : Hid (∀ wa w5 T1 g, PutE w0 wa w5 D T T1 n (98 + i / 4096) (bput (bmp D T (i / 4096)) (i % 4096) true) g → ∀ wx p c, Spc w0 wx D T1 n → Bytes wx (some p) (zn 512) → Calls Tryd.prog 65 #[.pointer (some ⟨T.t, 0, none⟩), .int .i64 (i : Int), .slice (some p) 512 c] wx fun e w' => e = .returned (.int .i64 0) ∧ ∃ T', WrE w0 wx w' D T1 T' n i (zn 512)) := fun wa w5 T1 g hp wx p c hb hbb => by
    obtain ⟨q, hc, hq⟩ := hp.c
    obtain ⟨u, hus, _, _⟩ := hp.u
    have := hb.write i (by omega) hi p c (zn 512) hbb (zn_length _) (by
      rw [hc, ups_other _ _ (by omega), lst_len_ups (by omega)]
      exact hr2) (by rw [hus, List.length_append]; simp only [List.length_cons, List.length_nil]; omega)
    rw [hp.t] at this
    exact this
  clear h hr1 hr2
  obtain ⟨A, hA⟩ : ∃ A, 98 + i / 4096 = A := ⟨_, rfl⟩
  obtain ⟨J, hJ⟩ : ∃ J, i % 4096 = J := ⟨_, rfl⟩
  obtain ⟨m, hm⟩ : ∃ m, T.us.length = m := ⟨_, rfl⟩
  rw [hm] at HM
  have HMm : Hid (T.us.length = m ∧ 98 + i / 4096 = A ∧ i % 4096 = J) := ⟨hm, hA, hJ⟩
  unfold plV at HF HP
  rw [hA, hJ] at HF HP HW
  rw [hm] at hu
  clear hA hJ hm
  obtain ⟨wz, hwz⟩ : ∃ wz, ((w.alloc (.cells #[.pointer (some ⟨T.t, 0, none⟩)] 26)).alloc (.cells #[.int .i64 (n : Int), .int .i64 98, .int .i64 (gI n), .int .i64 (gD n), .int .i64 (gC n)] 29)).alloc (.cells #[.int .i64 0] 38) = wz := ⟨_, rfl⟩
  have HZ : Hid (Below w.heap.size w wz ∧ Oc wz w.heap.size T.t n 0 ∧ wz.heap.size = w.heap.size + 3) := by
    rw [← hwz]
    refine ⟨(((Below.refl _ _).alloc (Nat.le_refl _) _).alloc (by simp) _).alloc (by simp <;> omega) _, ⟨?_, ?_, ?_⟩, by simp⟩
    · exact (Below.heap_alloc _ _ _ (by simp <;> omega)).trans ((Below.heap_alloc _ _ _ (by simp)).trans (heap_alloc_new _ _))
    · have := heap_alloc_new (w.alloc (.cells #[.pointer (some ⟨T.t, 0, none⟩)] 26)) (.cells #[.int .i64 (n : Int), .int .i64 98, .int .i64 (gI n), .int .i64 (gD n), .int .i64 (gC n)] 29)
      rw [World.size_alloc] at this
      exact (Below.heap_alloc _ _ _ (by simp)).trans this
    · have := heap_alloc_new ((w.alloc (.cells #[.pointer (some ⟨T.t, 0, none⟩)] 26)).alloc (.cells #[.int .i64 (n : Int), .int .i64 98, .int .i64 (gI n), .int .i64 (gD n), .int .i64 (gC n)] 29)) (.cells #[.int .i64 0] 38)
      rw [World.size_alloc, World.size_alloc] at this
      exact this
  obtain ⟨z1, z2, z3⟩ := HZ.out.2.1.cells
  go_enter_defers Tryd.func63, Tryd.ntmps63
  unfold geoV
  unfold geoV at HF
  go_upto_region 3 with (go_at_call 45; refine (HM.out _ HZ.out.1).mono ?_; rintro e w1 ⟨rfl, hb⟩; have H1 : Hid (Below wz.heap.size wz w1) := hb; obtain ⟨y1, y2, y3⟩ := (HZ.out.2.1.on hb).cells; obtain ⟨x1, x2, x3⟩ := ((HZ.out.2.1.on hb).on ((Below.refl _ _).alloc (Nat.le_refl _) (.cells #[.int .i64 (m : Int)] 3))).cells; clear hb HM)
  obtain ⟨M1, hM1⟩ : ∃ M1, w1.heap.size = M1 := ⟨_, rfl⟩
  obtain ⟨w2, hw2⟩ : ∃ w2, (w1.alloc (.cells #[.int .i64 (m : Int)] 3)).setCell ⟨w.heap.size + 1 + 1, 0, none⟩ (.int .i64 0) = w2 := ⟨_, rfl⟩
  have H2 : Hid (Oc w2 w.heap.size T.t n 0 ∧ Below w.heap.size w w2 ∧ w2.heap[M1]? = some (.cells #[.int .i64 (m : Int)] 3 (0, 0)) ∧ w2.heap.size = M1 + 1 ∧ w.heap.size + 3 ≤ M1) := by
    have hs := HZ.out.2.2
    have hs1 := H1.out.size
    have hb1 : Below w.heap.size w w1 := HZ.out.1.trans (H1.out.mono HZ.out.1.size)
    rw [← hw2]
    refine ⟨((HZ.out.2.1.on H1.out).on ((Below.refl _ _).alloc (Nat.le_refl _) _)).set 0, (hb1.alloc hb1.size _).setCell (p := ⟨w.heap.size + 1 + 1, 0, none⟩) (by show w.heap.size ≤ w.heap.size + 1 + 1; omega) _, ?_, by simp [hM1], by omega⟩
    refine (Below.heap_setCell _ ⟨w.heap.size + 1 + 1, 0, none⟩ _ M1 (by show M1 ≠ w.heap.size + 1 + 1; omega)).trans ?_
    rw [← hM1]
    exact heap_alloc_new _ _
  rw [hw2, hM1]
  clear hw2 hwz y1 y2 y3 x1 x2 x3 z1 z2 z3
  obtain ⟨z1, z2, z3⟩ := H2.out.1.cells
  obtain ⟨f0, f1, f2, f3, f4⟩ := H2.out.1.g.cells
  go_upto_region 6 with (go_at_call 78; refine (HF.out _ H2.out.2.1).mono ?_; rintro e w3 ⟨g, cap, rfl, h1, h2, h3⟩; have H3 : Hid (w2.heap.size ≤ g ∧ OwnB w3 g cap (bmp D T (i / 4096)) ∧ Below w2.heap.size w2 w3) := ⟨h1, h2, h3⟩; obtain ⟨x1, x2, x3⟩ := ((H2.out.1.on h3).on ((Below.refl _ _).alloc (Nat.le_refl _) (.cells #[.int .i64 (A : Int), .slice (some ⟨g, 0, none⟩) 512 cap, .int .i64 (J : Int)] 143))).cells; clear h1 h2 h3 HF)
  obtain ⟨P1, hP1⟩ : ∃ P1, w3.heap.size = P1 := ⟨_, rfl⟩
  obtain ⟨w4, hw4⟩ : ∃ w4, (w3.alloc (.cells #[.int .i64 (A : Int), .slice (some ⟨g, 0, none⟩) 512 cap, .int .i64 (J : Int)] 143)).setCell ⟨w.heap.size + 1 + 1, 0, none⟩ (.int .i64 0) = w4 := ⟨_, rfl⟩
  have H4 : Hid (Oc w4 w.heap.size T.t n 0 ∧ Below w.heap.size w w4 ∧ w4.heap[M1]? = some (.cells #[.int .i64 (m : Int)] 3 (0, 0)) ∧ w4.heap[P1]? = some (.cells #[.int .i64 (A : Int), .slice (some ⟨g, 0, none⟩) 512 cap, .int .i64 (J : Int)] 143 (0, 0)) ∧ OwnB w4 g cap (bmp D T (i / 4096)) ∧ w4.heap.size = P1 + 1 ∧ M1 < g ∧ g < P1) := by
    have hs := H2.out.2.2.2
    have hs3 := H3.out.2.2.size
    have hgl := H3.out.2.1.lt
    have hg2 := H3.out.1
    have hb3 : Below w.heap.size w w3 := H2.out.2.1.trans (H3.out.2.2.mono H2.out.2.1.size)
    rw [← hw4]
    refine ⟨((H2.out.1.on H3.out.2.2).on ((Below.refl _ _).alloc (Nat.le_refl _) _)).set 0, (hb3.alloc hb3.size _).setCell (p := ⟨w.heap.size + 1 + 1, 0, none⟩) (by show w.heap.size ≤ w.heap.size + 1 + 1; omega) _, ?_, ?_, ?_, by simp [hP1], by omega, by omega⟩
    · refine (Below.heap_setCell _ ⟨w.heap.size + 1 + 1, 0, none⟩ _ M1 (by show M1 ≠ w.heap.size + 1 + 1; omega)).trans ((Below.heap_alloc _ _ _ (by omega)).trans ((H3.out.2.2.block M1 (by omega)).trans H2.out.2.2.1))
    · refine (Below.heap_setCell _ ⟨w.heap.size + 1 + 1, 0, none⟩ _ P1 (by show P1 ≠ w.heap.size + 1 + 1; omega)).trans ?_
      rw [← hP1]
      exact heap_alloc_new _ _
    · exact (H3.out.2.1.on ((Below.refl _ _).alloc (Nat.le_refl _) _)).fr (Fr.set (g := w.heap.size + 1 + 1)) (by show ¬ g = w.heap.size + 1 + 1; omega)
  rw [hw4, hP1]
  clear hw4 z1 z2 z3 x1 x2 x3 f0 f1 f2 f3 f4
  obtain ⟨z1, z2, z3⟩ := H4.out.1.cells
  have p0 : w4.cell? ⟨P1, 0, none⟩ = some (.int .i64 (A : Int)) := by rw [cell_of_row _ _ _ _ _ _ H4.out.2.2.2.1]; rfl
  have p1 : w4.cell? ⟨P1, 1, none⟩ = some (.slice (some ⟨g, 0, none⟩) 512 cap) := by rw [cell_of_row _ _ _ _ _ _ H4.out.2.2.2.1]; rfl
  have p2 : w4.cell? ⟨P1, 2, none⟩ = some (.int .i64 (J : Int)) := by rw [cell_of_row _ _ _ _ _ _ H4.out.2.2.2.1]; rfl
  have hgw : Hid (w.heap.size ≤ g) := by
    have h9 := H4.out.2.2.2.2.2.2.1
    have h8 := H2.out.2.2.2.2
    show w.heap.size ≤ g
    omega
  go_upto_region 9 with (go_at_call 79; refine (HP.out _ _ _ H4.out.2.1 H4.out.2.2.2.2.1 hgw.out).mono ?_; rintro e w5 ⟨rfl, T1, hx⟩; have H5 : Hid (PutE w0 w4 w5 D T T1 n A (bput (bmp D T (i / 4096)) J true) g) := hx; have HO5 : Hid (Oc w5 w.heap.size T.t n 0 ∧ w5.heap[M1]? = some (.cells #[.int .i64 (m : Int)] 3 (0, 0))) := oc_put HS.out H4.out.1 H4.out.2.2.1 hx (by have h8 := H2.out.2.2.2.2; omega) H4.out.2.2.2.2.2.2.1; obtain ⟨x1, x2, x3⟩ := HO5.out.1.cells; clear hx HP)
  clear z1 z2 z3 p0 p1 p2
  obtain ⟨w6, hw6⟩ : ∃ w6, w5.setCell ⟨w.heap.size + 1 + 1, 0, none⟩ (.int .i64 0) = w6 := ⟨_, rfl⟩
  have H6 : Hid (Oc w6 w.heap.size T.t n 0 ∧ w6.heap[M1]? = some (.cells #[.int .i64 (m : Int)] 3 (0, 0)) ∧ Fr (fun k => k = w.heap.size + 1 + 1) w5 w6 ∧ Spc w0 w6 D T1 n ∧ w4.heap.size ≤ w6.heap.size ∧ (∀ k, T1.all k → T.all k ∨ w4.heap.size ≤ k) ∧ (∀ k, T1.has k → T.has k ∨ w4.heap.size ≤ k)) := by
    have h8 := H2.out.2.2.2.2
    have h7 := H4.out.2.2.2.2.2
    obtain ⟨v1, hf, hmv⟩ := H5.out.mv
    have hs1 := hf.size
    have hs2 := hmv.fr.size
    have hal : ∀ k, T1.all k → T.all k ∨ w4.heap.size ≤ k := fun k hk => (hmv.al k hk).elim .inl (fun e => .inr (by omega))
    rw [← hw6]
    refine ⟨HO5.out.1.set 0, ?_, Fr.set, HS.out.box H5.out.spc hal (by omega) (by omega) _, ?_, hal, fun k hk => (hmv.has k hk).elim .inl (fun e => .inr (by omega))⟩
    · exact (Below.heap_setCell _ ⟨w.heap.size + 1 + 1, 0, none⟩ _ M1 (by show M1 ≠ w.heap.size + 1 + 1; omega)).trans HO5.out.2
    · rw [World.size_setCell]; omega
  rw [hw6]
  clear hw6 x1 x2 x3
  obtain ⟨o, E2, ho⟩ := make512
  have HO : Hid (∀ w : World, OwnB (w.alloc o) w.heap.size 512 (zn 512)) := ho
  obtain ⟨z1, z2, z3⟩ := H6.out.1.cells
  obtain ⟨x1, x2, x3⟩ := (H6.out.1.on ((Below.refl _ _).alloc (Nat.le_refl _) o)).cells
  have HW6 : Hid (∀ wx p c, Below w6.heap.size w6 wx → Bytes wx (some p) (zn 512) → Calls Tryd.prog 65 #[.pointer (some ⟨T.t, 0, none⟩), .int .i64 (i : Int), .slice (some p) 512 c] wx fun e w' => e = .returned (.int .i64 0) ∧ ∃ T', WrE w0 wx w' D T1 T' n i (zn 512) ∧ Oc w' w.heap.size T.t n 0 ∧ Below w6.heap.size w6 wx) := fun wx p c hb hbb => by
    refine (HW.out w4 w5 T1 g H5.out wx p c (H6.out.2.2.2.1.on hb) hbb).mono ?_
    rintro e w' ⟨rfl, T', hx⟩
    have h8 := H2.out.2.2.2.2
    have h7 := H4.out.2.2.2.2.2
    have hno : ∀ k, w.heap.size ≤ k → k < M1 → ¬ T1.has k := fun k hk hk2 hh => by
      rcases H6.out.2.2.2.2.2.2 k hh with e | e
      · have := HS.out.ses.tx.lt (.inl e); omega
      · omega
    exact ⟨rfl, T', hx, (H6.out.1.on hb).fr hx.mv.fr (hno _ (by omega) (by omega)) (hno _ (by omega) (by omega)) (hno _ (by omega) (by omega)), hb⟩
  clear ho
  rename_i Q' K hK
  refine Code.wp_mono (Q := Exit.then K (fun _ _ _ => False)) (fun e a w => ?_) ?_
  · cases e <;> simp [Exit.then]
  go_region_law (go_simp; first
    | (go_at_call 65; refine (HW6.out _ _ _ (by repeat (first | exact Below.refl _ _ | apply Below.drew | refine Below.alloc ?_ (by simp) _)) (by first | exact ((HO.out w6).on (by repeat (first | exact Below.refl _ _ | apply Below.drew))).bytes | exact ((HO.out w6.drew).on (by repeat (first | exact Below.refl _ _ | apply Below.drew))).bytes)).mono ?_; rintro e w7 ⟨rfl, T2, hx, hoc, hbx⟩; have H7 : Hid (∃ wx, WrE w0 wx w7 D T1 T2 n i (zn 512) ∧ Below w6.heap.size w6 wx ∧ Oc w7 w.heap.size T.t n 0) := ⟨_, hx, hbx, hoc⟩; obtain ⟨y1, y2, y3⟩ := hoc.cells; clear hx hbx hoc))
  all_goals
    refine hK _ _ ?_
    go_wp2
    refine leaves_cons (f := 77) (args := #[.pointer (some ⟨w.heap.size + 1 + 1, 0, none⟩), .pointer (some ⟨w.heap.size, 0, none⟩), .pointer (some ⟨M1, 0, none⟩)]) (by simp) (by simp [go_sem]) ?_
    have hc := H7.out
    obtain ⟨wx, h1, h2, h3⟩ := hc
    have HE : Hid (TakX w0 w (w7.setCell ⟨w.heap.size + 1 + 1, 0, none⟩ (.int .i64 0)) D T T2 n i) := tak_endx HS.out H4.out.2.1 H5.out hgw.out H6.out.2.2.1 (by omega) (by have h8 := H2.out.2.2.2.2; have h7 := H4.out.2.2.2.2.2; omega) h2 h1 HMm.out.2.1 HMm.out.2.2 _
    obtain ⟨k1, k2, k3⟩ := (h3.set 0).cells
    clear h1 h2 h3
    refine (occ1_ok _ _ _ _ _ k2).mono ?_
    rintro e u' w9 ⟨rfl, rfl, rfl⟩
    simp [Leaves, settle, results, Tryd.results63, go_sem, k2]
    exact ⟨T2, HE.out⟩
set_option maxRecDepth 100000 in
set_option maxHeartbeats 4000000 in
theorem stake_okx (w0 w : World) (D : Dk) (T : Tx) (n : Nat) (h : Spc w0 w D T n) (i : Nat) (hi : IsLo (fd (nD n) n (bmp D T)) i) (hr1 : (T.c (98 + i / 4096)).isSome = true ∨ (lst T.c n).length < 96) (hr2 : (T.c i).isSome = true ∨ (lst T.c n).length + (if (T.c (98 + i / 4096)).isSome then 0 else 1) < 96) (hu : T.us.length + 2 ≤ 1000000) :
    Calls Tryd.prog 50 #[.pointer (some ⟨T.t, 0, none⟩), geoV n] w fun e w' => e = .returned (.tuple #[.int .i64 (i : Int), .int .i64 0]) ∧ ∃ T', TakX w0 w w' D T T' n i := by
  have hbd := fd_bd hi.1
  have HA : Hid (∀ o, Below w.heap.size w (w.alloc o)) := fun o => (Below.refl _ _).alloc (Nat.le_refl _) o
  have HL : Hid (∀ wx, Below w.heap.size w wx → Calls Tryd.prog 62 #[.pointer (some ⟨T.t, 0, none⟩), geoV n] wx fun e w' => e = .returned (.tuple #[.int .i64 (i : Int), .int .i64 0]) ∧ Below wx.heap.size wx w') := fun wx hb => low_yes w0 wx D T n (h.on hb) i hi
  have HO : Hid (∀ wx, Below w.heap.size w wx → Calls Tryd.prog 63 #[.pointer (some ⟨T.t, 0, none⟩), geoV n, .int .i64 (i : Int)] wx fun e w' => e = .returned (.int .i64 0) ∧ ∃ T', TakX w0 w w' D T T' n i) := fun wx hb => by
    refine (occupy_okx w0 wx D T n (h.on hb) i hbd.1 hbd.2 hr1 hr2 hu).mono ?_
    rintro e w' ⟨rfl, T', hx⟩
    exact ⟨rfl, T', hx.after hb⟩
  clear h hi hr1 hr2 hu
  obtain ⟨wz, hwz⟩ : ∃ wz, w.alloc (.cells #[.int .i64 (n : Int), .int .i64 98, .int .i64 (gI n), .int .i64 (gD n), .int .i64 (gC n)] 29) = wz := ⟨_, rfl⟩
  have HZ : Hid (Below w.heap.size w wz ∧ GeoAt wz w.heap.size n) := by
    rw [← hwz]; exact ⟨HA.out _, heap_alloc_new _ _⟩
  obtain ⟨z0, z1, z2, z3, z4⟩ := HZ.out.2.cells
  clear HA
  go_enter Tryd.func50, Tryd.ntmps50
  unfold geoV
  unfold geoV at HL HO
  go_wp2_with (first
    | (go_at_call 62; refine (HL.out _ HZ.out.1).mono ?_; rintro e w1 ⟨rfl, h1⟩; have H1 : Hid (Below w.heap.size w w1) := HZ.out.1.trans (h1.mono HZ.out.1.size); obtain ⟨y0, y1, y2, y3, y4⟩ := (HZ.out.2.on h1).cells; clear h1 HL)
    | (go_at_call 63; refine (HO.out _ H1.out).mono ?_; rintro e w2 ⟨rfl, T', hx⟩; clear HO))
  go_ret2
  exact ⟨rfl, T', hx⟩
end Go.Proofs.YtgmccpimpbnnpaaDoor

namespace Go.Proofs.YtgmccpimpbnnpaaDoor
open Rec
def par (p : Nat) : Nat := if p < 140 then 10 else if p < 268 then 11 else 140 + (p - 268) / 128
def pla (p : Nat) : Nat := if p < 12 then p else if p < 140 then p - 12 else if p < 268 then p - 140 else (p - 268) % 128
def wayP (k : Nat) : List Nat := if k < 10 then [k] else if k < 138 then [10, k + 2] else [11, 140 + (k - 138) / 128, k + 130]
def ixP (k : Nat) : Nat := if k < 10 then k else if k < 138 then k + 2 else k + 130
def upN {α : Type} (f : Nat → α) (i : Nat) (x : α) : Nat → α := fun j => if j = i then x else f j
theorem upN_same {α : Type} (f : Nat → α) (i : Nat) (x : α) : upN f i x i = x := by simp [upN]
theorem upN_other {α : Type} (f : Nat → α) {i j : Nat} (x : α) (h : j ≠ i) : upN f i x j = f j := by simp [upN, h]
theorem par_lt {p : Nat} (h0 : 12 ≤ p) (h1 : p < 16652) : par p < 268 ∧ 10 ≤ par p ∧ par p < p ∧ pla p < 128 := by
  unfold par pla
  repeat' split
  all_goals omega
theorem pla_par {p q : Nat} (hp : 12 ≤ p) (hq : 12 ≤ q) (hp1 : p < 16652) (hq1 : q < 16652) (h : par p = par q) (h2 : pla p = pla q) : p = q := by
  unfold par at h
  unfold pla at h2
  repeat' (split at h <;> split at h2)
  all_goals (try split at h) <;> (try split at h2) <;> (try split at h) <;> (try split at h2) <;> omega
structure Tre (V : Nat → Nat → Int) (x : Nat → Int) (ν : Nat → Nat) : Prop where
  own : ∀ p, p < 12 → x (3 + p) = (ν p : Int)
  hole : ∀ p, 12 ≤ p → p < 16652 → ν (par p) = 0 → ν p = 0
  tab : ∀ p, 12 ≤ p → p < 16652 → ν (par p) ≠ 0 → V (ν (par p)) (pla p) = (ν p : Int)
  out : ∀ p, 16652 ≤ p → ν p = 0
structure Own1 (F : Nat → Bool) (lo hi : Nat) (ν : Nat → Nat) : Prop where
  good : ∀ p, ν p ≠ 0 → lo ≤ ν p ∧ ν p < hi ∧ F (ν p) = false
  inj : ∀ p q, ν p ≠ 0 → ν p = ν q → p = q
theorem Own1.take {F : Nat → Bool} {lo hi : Nat} {ν : Nat → Nat} (h : Own1 F lo hi ν) {p i : Nat} (h0 : 0 < lo) (hF : F i = true) (h1 : lo ≤ i) (h2 : i < hi) : Own1 (upN F i false) lo hi (upN ν p i) := by
  have hne : ∀ q, ν q ≠ 0 → ν q ≠ i := fun q hq e => by
    have := (h.good q hq).2.2
    rw [e, hF] at this
    cases this
  refine ⟨fun q hq => ?_, fun q r hq e => ?_⟩
  · by_cases e : q = p
    · subst e; rw [upN_same] at hq ⊢; exact ⟨h1, h2, upN_same _ _ _⟩
    · rw [upN_other _ _ e] at hq ⊢
      obtain ⟨g1, g2, g3⟩ := h.good q hq
      exact ⟨g1, g2, by rw [upN_other _ _ (hne q hq)]; exact g3⟩
  · by_cases e1 : q = p
    · by_cases e2 : r = p
      · rw [e1, e2]
      · subst e1
        rw [upN_same, upN_other _ _ e2] at e
        exact absurd e.symm (hne r (by omega))
    · rw [upN_other _ _ e1] at hq e
      by_cases e2 : r = p
      · subst e2
        rw [upN_same] at e
        exact absurd e (hne q hq)
      · rw [upN_other _ _ e2] at e
        exact h.inj q r hq e
theorem Tre.take {V V' : Nat → Nat → Int} {F : Nat → Bool} {lo hi : Nat} {x x' : Nat → Int} {ν : Nat → Nat} (h : Tre V x ν) (ho : Own1 F lo hi ν) {p i : Nat} (h0 : 0 < lo) (hp : p < 16652) (hz : ν p = 0) (hpar : 12 ≤ p → ν (par p) ≠ 0) (hF : F i = true) (h1 : lo ≤ i)
    (hx : ∀ q, q < 12 → x' (3 + q) = if q = p then (i : Int) else x (3 + q))
    (hV0 : ∀ a, a < 128 → V' i a = 0) (hV1 : 12 ≤ p → ∀ a, a < 128 → V' (ν (par p)) a = if a = pla p then (i : Int) else V (ν (par p)) a)
    (hV2 : ∀ b, lo ≤ b → F b = false → (12 ≤ p → b ≠ ν (par p)) → V' b = V b) : Tre V' x' (upN ν p i) := by
  have hne : ∀ q, ν q ≠ 0 → ν q ≠ i := fun q hq e => by
    have := (ho.good q hq).2.2
    rw [e, hF] at this
    cases this
  refine ⟨fun q hq => ?_, fun q hq0 hq1 hq2 => ?_, fun q hq0 hq1 hq2 => ?_, fun q hq => ?_⟩
  · rw [hx q hq]
    by_cases e : q = p
    · subst e; rw [if_pos rfl, upN_same]
    · rw [if_neg e, upN_other _ _ e]; exact h.own q hq
  · have hpp : par q ≠ p := fun e => by rw [e, upN_same] at hq2; omega
    rw [upN_other _ _ hpp] at hq2
    by_cases e : q = p
    · subst e; exact absurd hq2 (hpar hq0)
    · rw [upN_other _ _ e]; exact h.hole q hq0 hq1 hq2
  · obtain ⟨g1, g2, g3, g4⟩ := par_lt hq0 hq1
    by_cases hpp : par q = p
    · have hqp : q ≠ p := by omega
      rw [hpp, upN_same, hV0 _ g4, upN_other _ _ hqp, h.hole q hq0 hq1 (by rw [hpp]; exact hz)]; rfl
    · rw [upN_other _ _ hpp] at hq2 ⊢
      by_cases e : q = p
      · subst e
        rw [upN_same, hV1 hq0 _ g4, if_pos rfl]
      · rw [upN_other _ _ e]
        by_cases e2 : 12 ≤ p ∧ par q = par p
        · rw [e2.2, hV1 e2.1 _ g4, if_neg (fun e3 => e (pla_par hq0 e2.1 hq1 hp e2.2 e3)), ← e2.2]
          exact h.tab q hq0 hq1 hq2
        · rw [hV2 _ (ho.good _ hq2).1 (ho.good _ hq2).2.2 (fun e3 e4 => e2 ⟨e3, ho.inj _ _ hq2 e4⟩)]
          exact h.tab q hq0 hq1 hq2
  · rw [upN_other _ _ (by omega)]; exact h.out q hq
theorem Tre.cong {V V' : Nat → Nat → Int} {x : Nat → Int} {ν : Nat → Nat} (h : Tre V x ν) (hV : ∀ p, ν p ≠ 0 → p < 268 → V' (ν p) = V (ν p)) : Tre V' x ν :=
  ⟨h.own, h.hole, fun q h0 h1 h2 => by rw [hV _ h2 (par_lt h0 h1).1]; exact h.tab q h0 h1 h2, h.out⟩
theorem Tre.none {V : Nat → Nat → Int} {x : Nat → Int} (h : ∀ p, p < 12 → x (3 + p) = 0) : Tre V x (fun _ => 0) := ⟨fun p hp => by rw [h p hp]; rfl, fun _ _ _ _ => rfl, fun _ _ _ h => absurd rfl h, fun _ _ => rfl⟩
theorem Own1.none {F : Nat → Bool} {lo hi : Nat} : Own1 F lo hi (fun _ => 0) := ⟨fun _ h => absurd rfl h, fun _ _ h => absurd rfl h⟩
inductive Tks (ν0 : Nat → Nat) (F0 : Nat → Bool) : List Nat → (Nat → Nat) → (Nat → Bool) → Prop
  | nil : Tks ν0 F0 [] ν0 F0
  | keep {L ν F p} : Tks ν0 F0 L ν F → ν p ≠ 0 → Tks ν0 F0 (L ++ [p]) ν F
  | take {L ν F p i} : Tks ν0 F0 L ν F → ν p = 0 → IsLo F i → Tks ν0 F0 (L ++ [p]) (upN ν p i) (upN F i false)
theorem Tks.used {ν0 ν : Nat → Nat} {F0 F : Nat → Bool} {L : List Nat} (h : Tks ν0 F0 L ν F) (b : Nat) (hb : F0 b = false) : F b = false := by
  induction h with
  | nil => exact hb
  | keep _ _ ih => exact ih
  | @take L ν F p i _ _ _ ih =>
    by_cases e : b = i
    · subst e; exact upN_same _ _ _
    · rw [upN_other _ _ e]; exact ih
theorem Tks.fresh {ν0 ν : Nat → Nat} {F0 F : Nat → Bool} {L : List Nat} (h : Tks ν0 F0 L ν F) (p : Nat) : ν p = ν0 p ∨ (ν0 p = 0 ∧ F0 (ν p) = true ∧ p ∈ L) := by
  induction h with
  | nil => exact .inl rfl
  | keep _ _ ih => exact ih.imp id (fun e => ⟨e.1, e.2.1, List.mem_append_left _ e.2.2⟩)
  | @take L ν F q i hk hz hlo ih =>
    by_cases e : p = q
    · subst e
      rw [upN_same]
      refine .inr ⟨?_, ?_, by simp⟩
      · rcases ih with ih | ih
        · rw [← ih]; exact hz
        · exact ih.1
      · cases hF : F0 i
        · have := hk.used i hF
          rw [hlo.1] at this
          cases this
        · rfl
    · rw [upN_other _ _ e]
      exact ih.imp id (fun e => ⟨e.1, e.2.1, List.mem_append_left _ e.2.2⟩)
theorem Tks.off {ν0 ν : Nat → Nat} {F0 F : Nat → Bool} {L : List Nat} (h : Tks ν0 F0 L ν F) (p : Nat) (hp : p ∉ L) : ν p = ν0 p := by
  rcases h.fresh p with e | e
  · exact e
  · exact absurd e.2.2 hp
theorem Tks.same {ν0 ν : Nat → Nat} {F0 F : Nat → Bool} {L : List Nat} (h : Tks ν0 F0 L ν F) (hp : ∀ p ∈ L, ν0 p ≠ 0) : ν = ν0 ∧ F = F0 := by
  induction h with
  | nil => exact ⟨rfl, rfl⟩
  | keep _ _ ih => exact ih (fun p hq => hp p (List.mem_append_left _ hq))
  | @take L ν F q i hk hz hlo ih =>
    obtain ⟨e1, e2⟩ := ih (fun p hq => hp p (List.mem_append_left _ hq))
    rw [e1] at hz
    exact absurd hz (hp q (by simp))
theorem Tks.count {ν0 ν : Nat → Nat} {F0 F : Nat → Bool} {L : List Nat} {n : Nat} (h : Tks ν0 F0 L ν F) (hn : ∀ b, F0 b = true → b < n) : ct F n ≤ ct F0 n ∧ ct F0 n ≤ ct F n + L.length := by
  induction h with
  | nil => exact ⟨Nat.le_refl _, Nat.le_add_right _ _⟩
  | keep _ _ ih => rw [List.length_append]; simp; omega
  | @take L ν F q i hk hz hlo ih =>
    have hi : i < n := by
      refine hn i ?_
      cases hF : F0 i
      · have := hk.used i hF
        rw [hlo.1] at this
        cases this
      · rfl
    have := ct_set (f := F) hi false
    have e : ct (upN F i false) n + 1 = ct F n := by
      unfold upN
      rw [hlo.1] at this
      simpa using this
    rw [List.length_append]
    simp
    omega
theorem wayP_len (k : Nat) : 0 < (wayP k).length ∧ (wayP k).length ≤ 3 := by unfold wayP; split <;> (try split) <;> simp
theorem wayP_0 {k p : Nat} (h : (wayP k)[0]? = some p) : p < 12 ∧ pla p = p := by
  have e : p < 12 := by
    unfold wayP at h
    split at h
    · cases h; omega
    · split at h
      · cases h; omega
      · cases h; omega
  exact ⟨e, by unfold pla; rw [if_pos e]⟩
theorem wayP_next {k j p q : Nat} (hk : k < 16522) (h : (wayP k)[j]? = some p) (h2 : (wayP k)[j + 1]? = some q) : par q = p ∧ 12 ≤ q ∧ q < 16652 := by
  unfold wayP at h h2
  split at h
  · rename_i h0
    rw [if_pos h0] at h2
    match j, h2 with
    | 0, h2 => cases h2
  · rename_i h0
    rw [if_neg h0] at h2
    split at h
    · rename_i h1
      rw [if_pos h1] at h2
      match j, h, h2 with
      | 0, h, h2 =>
        have h := Option.some.inj h
        have h2 := Option.some.inj h2
        unfold par
        split <;> (try split) <;> omega
    · rename_i h1
      rw [if_neg h1] at h2
      match j, h, h2 with
      | 0, h, h2 =>
        have h := Option.some.inj h
        have h2 := Option.some.inj h2
        unfold par
        split <;> (try split) <;> omega
      | 1, h, h2 =>
        have h := Option.some.inj h
        have h2 := Option.some.inj h2
        unfold par
        split <;> (try split) <;> omega
theorem wayP_last {k j p : Nat} (h : (wayP k)[j]? = some p) (hj : j + 1 = (wayP k).length) : p = ixP k := by
  unfold wayP at h hj
  unfold ixP
  split at h
  · rename_i h0
    rw [if_pos h0] at hj ⊢
    match j, h with
    | 0, h => cases h; rfl
  · rename_i h0
    rw [if_neg h0] at hj ⊢
    split at h
    · rename_i h1
      rw [if_pos h1] at hj ⊢
      match j, h with
      | 1, h => cases h; rfl
    · rename_i h1
      rw [if_neg h1] at hj ⊢
      match j, h with
      | 2, h => cases h; rfl
end Go.Proofs.YtgmccpimpbnnpaaDoor

namespace Go.Proofs.YtgmccpimpbnnpaaDoor
open Go.RowKit Go.Maps Rec
theorem lo_of_ct {f : Nat → Bool} {n : Nat} (h : ct f n ≠ 0) : ∃ i, i < n ∧ IsLo f i := by
  induction n with
  | zero => exact absurd rfl h
  | succ n ih =>
    by_cases e : ct f n = 0
    · rw [ct, e] at h
      have hz := ct_zero.1 e
      refine ⟨n, by omega, ?_, hz⟩
      cases hf : f n
      · rw [hf] at h; exact absurd rfl h
      · rfl
    · obtain ⟨i, h1, h2⟩ := ih e
      exact ⟨i, by omega, h2⟩
set_option maxRecDepth 100000 in
set_option maxHeartbeats 4000000 in
theorem stake_60 (w0 w : World) (D : Dk) (T : Tx) (n : Nat) (h : Spc w0 w D T n) (i : Nat) (hi : IsLo (fd (nD n) n (bmp D T)) i) (hno : ¬ (((T.c (98 + i / 4096)).isSome = true ∨ (lst T.c n).length < 96) ∧ ((T.c i).isSome = true ∨ (lst T.c n).length + (if (T.c (98 + i / 4096)).isSome then 0 else 1) < 96))) (hu : T.us.length + 2 ≤ 1000000) :
    Calls Tryd.prog 50 #[.pointer (some ⟨T.t, 0, none⟩), geoV n] w fun e w' => e = .returned (.tuple #[.int .i64 0, .int .i64 60]) ∧ ∃ T', BigE w0 w w' D T T' n := by
  have hbd := fd_bd hi.1
  have hnb := h.hi
  have hcnt : (lst T.c n).length ≤ 96 := by have := h.ses.tx.cnt; rw [h.nb] at this; exact this
  have HA : Hid (∀ o, Below w.heap.size w (w.alloc o)) := fun o => (Below.refl _ _).alloc (Nat.le_refl _) o
  have HL : Hid (∀ wx, Below w.heap.size w wx → Calls Tryd.prog 62 #[.pointer (some ⟨T.t, 0, none⟩), geoV n] wx fun e w' => e = .returned (.tuple #[.int .i64 (i : Int), .int .i64 0]) ∧ Below wx.heap.size wx w') := fun wx hb => low_yes w0 wx D T n (h.on hb) i hi
  have HO : Hid (∀ wx, Below w.heap.size w wx → Calls Tryd.prog 63 #[.pointer (some ⟨T.t, 0, none⟩), geoV n, .int .i64 (i : Int)] wx fun e w' => e = .returned (.int .i64 60) ∧ ∃ T', BigE w0 w w' D T T' n) := fun wx hb => by
    have h9 : Calls Tryd.prog 63 #[.pointer (some ⟨T.t, 0, none⟩), geoV n, .int .i64 (i : Int)] wx fun e w' => e = .returned (.int .i64 60) ∧ ∃ T', BigE w0 wx w' D T T' n := by
      by_cases hr1 : (T.c (98 + i / 4096)).isSome = true ∨ (lst T.c n).length < 96
      · have hr : ¬ ((T.c i).isSome = true ∨ (lst T.c n).length + (if (T.c (98 + i / 4096)).isSome then 0 else 1) < 96) := fun e => hno ⟨hr1, e⟩
        have hr3 : T.c i = none := by
          cases e : T.c i
          · rfl
          · exact absurd (.inl (by rw [e]; rfl)) hr
        refine occupy_95 w0 wx D T n (h.on hb) i hbd.1 hbd.2 (by omega) hr1 hr3 ?_ hu
        have h2 : 96 ≤ (lst T.c n).length + (if (T.c (98 + i / 4096)).isSome then 0 else 1) := Nat.le_of_not_lt (fun e => hr (.inr e))
        have h3 : (lst T.c n).length + (if (T.c (98 + i / 4096)).isSome then 0 else 1) ≤ 96 := by
          rcases hr1 with e | e
          · rw [if_pos e]; omega
          · split <;> omega
        exact Nat.le_antisymm h3 h2
      · refine occupy_96 w0 wx D T n (h.on hb) i hbd.1 hbd.2 (by omega) ?_ ?_
        · cases e : T.c (98 + i / 4096)
          · rfl
          · exact absurd (.inl (by rw [e]; rfl)) hr1
        · have := fun e => hr1 (.inr e)
          omega
    refine h9.mono ?_
    rintro e w' ⟨rfl, T', hx⟩
    exact ⟨rfl, T', (TMv.on hb).trans hx.mv, hx.spc, hx.c, hx.us⟩
  clear h hi hno hu
  obtain ⟨wz, hwz⟩ : ∃ wz, w.alloc (.cells #[.int .i64 (n : Int), .int .i64 98, .int .i64 (gI n), .int .i64 (gD n), .int .i64 (gC n)] 29) = wz := ⟨_, rfl⟩
  have HZ : Hid (Below w.heap.size w wz ∧ GeoAt wz w.heap.size n) := by
    rw [← hwz]; exact ⟨HA.out _, heap_alloc_new _ _⟩
  obtain ⟨z0, z1, z2, z3, z4⟩ := HZ.out.2.cells
  clear HA
  go_enter Tryd.func50, Tryd.ntmps50
  unfold geoV
  unfold geoV at HL HO
  go_wp2_with (first
    | (go_at_call 62; refine (HL.out _ HZ.out.1).mono ?_; rintro e w1 ⟨rfl, h1⟩; have H1 : Hid (Below w.heap.size w w1) := HZ.out.1.trans (h1.mono HZ.out.1.size); obtain ⟨y0, y1, y2, y3, y4⟩ := (HZ.out.2.on h1).cells; clear h1 HL)
    | (go_at_call 63; refine (HO.out _ H1.out).mono ?_; rintro e w2 ⟨rfl, T', hx⟩; clear HO))
  go_ret2
  exact ⟨rfl, T', hx⟩
theorem stake_any (w0 w : World) (D : Dk) (T : Tx) (n : Nat) (h : Spc w0 w D T n) (hu : T.us.length + 2 ≤ 1000000) :
    Calls Tryd.prog 50 #[.pointer (some ⟨T.t, 0, none⟩), geoV n] w fun e w' => ∃ (i z : Nat) (T' : Tx), e = .returned (.tuple #[.int .i64 (i : Int), .int .i64 (z : Int)]) ∧ ((z = 0 ∧ IsLo (fd (nD n) n (bmp D T)) i ∧ TakX w0 w w' D T T' n i) ∨ (i = 0 ∧ (z = 60 ∧ 96 < (lst T.c n).length + 3 ∨ z = 90 ∧ ct (fd (nD n) n (bmp D T)) n = 0) ∧ BigE w0 w w' D T T' n)) := by
  by_cases hct : ct (fd (nD n) n (bmp D T)) n = 0
  · refine (stake_no w0 w D T n h hct).mono ?_
    rintro e w' ⟨rfl, hb⟩
    exact ⟨0, 90, T, rfl, .inr ⟨rfl, .inr ⟨rfl, hct⟩, TMv.on hb, h.on hb, rfl, rfl⟩⟩
  · obtain ⟨i, hin, hlo⟩ := lo_of_ct hct
    by_cases hr : ((T.c (98 + i / 4096)).isSome = true ∨ (lst T.c n).length < 96) ∧ ((T.c i).isSome = true ∨ (lst T.c n).length + (if (T.c (98 + i / 4096)).isSome then 0 else 1) < 96)
    · refine (stake_okx w0 w D T n h i hlo hr.1 hr.2 hu).mono ?_
      rintro e w' ⟨rfl, T', hx⟩
      exact ⟨i, 0, T', rfl, .inl ⟨rfl, hlo, hx⟩⟩
    · have hlen : 96 < (lst T.c n).length + 3 := by
        by_cases e : 96 < (lst T.c n).length + 3
        · exact e
        · exact absurd ⟨.inr (by omega), .inr (by split <;> omega)⟩ hr
      refine (stake_60 w0 w D T n h i hlo hr hu).mono ?_
      rintro e w' ⟨rfl, T', hx⟩
      exact ⟨0, 60, T', rfl, .inr ⟨rfl, .inl ⟨rfl, hlen⟩, hx⟩⟩
end Go.Proofs.YtgmccpimpbnnpaaDoor
