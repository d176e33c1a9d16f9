import Derived.Test.YtleakaddlgpamaaDoorInO
import Derived.Laws.IdiomCopy
namespace Go.Proofs.YtleakaddlgpamaaDoor
open Go.RowKit Go.Maps Rec

/-- a play -/
def PlAt (w : World) (p n d r t rt : Nat) : Prop := w.heap[p]? = some (.cells #[.int .i64 (n : Int), .int .i64 98, .int .i64 (gI n), .int .i64 (gD n), .int .i64 (gC n), .pointer (some ⟨d, 0, none⟩), .pointer (some ⟨r, 0, none⟩), .pointer (some ⟨t, 0, none⟩), .pointer (some ⟨rt, 0, none⟩), .slice none 0 0] 51 (0, 0))
theorem PlAt.on {w w' : World} {p n d r t rt : Nat} (h : PlAt w p n d r t rt) (hb : Below w.heap.size w w') : PlAt w' p n d r t rt := (hb.block p (heap_lt h)).trans h
theorem PlAt.cells {w : World} {p n d r t rt : Nat} (h : PlAt w p n d r t rt) : w.cell? ⟨p, 0, none⟩ = some (.int .i64 (n : Int)) ∧ w.cell? ⟨p, 1, none⟩ = some (.int .i64 98) ∧ w.cell? ⟨p, 2, none⟩ = some (.int .i64 (gI n)) ∧ w.cell? ⟨p, 3, none⟩ = some (.int .i64 (gD n)) ∧ w.cell? ⟨p, 4, none⟩ = some (.int .i64 (gC n)) ∧ w.cell? ⟨p, 7, none⟩ = some (.pointer (some ⟨t, 0, none⟩)) := by
  have hc := fun j => cell_of_row _ _ j _ _ _ h
  exact ⟨hc 0, hc 1, hc 2, hc 3, hc 4, hc 7⟩
theorem ptr_neqT (w : World) (p : Addr) : (binOp .neq 47 (.pointer (some p)) (.pointer none)).run Tryd.prog w = .ok (.bool true) w := by
  have h : ∀ d : Nat, (Op.equalIn (d + 1) 47 (.pointer (some p)) (.pointer none)).run Tryd.prog w = .ok false w := fun d => by
    simp [Op.equalIn, run_underlying Tryd.underlying47]
  simp only [binOp]
  simp [Op.equal, Op.maxDepth, h 9999]
set_option maxRecDepth 100000 in
set_option maxHeartbeats 8000000 in
theorem start0 (w : World) (hT : TabAt w) (m : Nat) (hm : m < 300) :
    Calls Tryd.prog 13 #[.int .i64 (m : Int), .slice none 0 0] w fun e w' => ∃ p d r rt D T, e = .returned (.tuple #[.pointer (some ⟨p, 0, none⟩), .bool true]) ∧ Tb w w' D T (128 + m) (fun _ => z15) 0 ∧ PlAt w' p (128 + m) d r T.t rt ∧ (¬ T.all p) ∧ (¬ D.all p) ∧ w.heap.size ≤ p := by
  have hptr := ptr_nil
  have hptT := ptr_neqT
  obtain ⟨n, hn⟩ : ∃ n, 128 + m = n := ⟨_, rfl⟩
  rw [hn]
  have hn1 : 128 ≤ n ∧ n ≤ 427 := by omega
  have hI := nM_bd (n := n) (by omega) (by omega)
  have HMd : Hid (∀ wx, Calls Tryd.prog 11 #[.int .i64 (m : Int), .int .i64 4096] wx fun e w' => e = .returned (.int .i64 (m : Int)) ∧ wx = w') := fun wx => by
    have := imod_any wx (m : Int) 4096 (by omega) (by omega)
    rw [show (m : Int) % ((4096 : Nat) : Int) = (m : Int) by omega] at this
    exact this
  have hmn : (128 : Int) + (m : Int) = (n : Int) := by omega
  have HOf : Hid (∀ wx, Calls Tryd.prog 20 #[.int .i64 (n : Int)] wx fun e w' => e = .returned (.tuple #[.agg #[.int .i64 (n : Int), .int .i64 98, .int .i64 (gI n), .int .i64 (gD n), .int .i64 (gC n)], .int .i64 0]) ∧ Below wx.heap.size wx w') := fun wx => rof_ok wx n (isLen_yes (by omega))
  obtain ⟨K, hK⟩ : ∃ K, 512 * n = K := ⟨_, rfl⟩
  have hK' : (512 : Int) * (n : Int) = (K : Int) := by omega
  obtain ⟨o, E2, ho⟩ := makeN K (by omega)
  have HO : Hid (∀ w : World, OwnB (w.alloc o) w.heap.size K (zn K)) := ho
  have HOp : Hid (∀ wx g, OwnB wx g K (zn K) → Calls Tryd.prog 31 #[.slice (some ⟨g, 0, none⟩) K K] wx fun e w' => ∃ D, e = .returned (.tuple #[.pointer (some ⟨D.d, 0, none⟩), .int .i64 0]) ∧ Mine wx w' D ∧ Fresh D.abs n (zn K)) := fun wx g hg => by
    have := open_fresh wx ⟨g, 0, none⟩ K n (zn K) hg.bytes (by rw [zn_length]; omega) (by omega) (by omega)
    rw [hK] at this
    exact this
  have HR3 : Hid (∀ wx g, OwnB wx g K (zn K) → Calls Tryd.prog 32 #[.slice (some ⟨g, 0, none⟩) K K] wx fun e w' => ∃ r, e = .returned (.tuple #[.pointer (some ⟨r, 0, none⟩), .int .i64 0]) ∧ Below wx.heap.size wx w') := fun wx g hg => by
    have := r3of_any wx ⟨g, 0, none⟩ n K (zn K) hg.bytes (by rw [zn_length]; omega) (by omega) (by omega)
    rw [hK] at this
    exact this
  have HBeg : Hid (∀ wx d, Calls Tryd.prog 21 #[.pointer (some ⟨d, 0, none⟩)] wx fun e w' => ∃ T, e = .returned (.pointer (some ⟨T.t, 0, none⟩)) ∧ TMine wx w' T ∧ T.d = d ∧ T.nb = n ∧ T.c = (fun _ => none) ∧ T.us = []) := fun wx d => begin_any wx d n (by omega)
  have HR6 : Hid (∀ wx r, Calls Tryd.prog 33 #[.pointer (some ⟨r, 0, none⟩)] wx fun e w' => ∃ t, e = .returned (.pointer (some ⟨t, 0, none⟩)) ∧ Below wx.heap.size wx w') := fun wx r => r6begin_any wx r
  obtain ⟨I5, hI5⟩ : ∃ I5, 512 * (98 + nM n) = I5 := ⟨_, rfl⟩
  obtain ⟨D5, hD5⟩ : ∃ D5, 512 * nD n = D5 := ⟨_, rfl⟩
  have eI : (512 : Int) * gI (n : Int) = (I5 : Int) := by rw [gI_nat]; omega
  have eD : (512 : Int) * gD (n : Int) = (D5 : Int) := by rw [gD_nat]; omega
  have hID : I5 ≤ D5 ∧ D5 ≤ K ∧ I5 < K := by omega
  have HT : Hid (TabAt w) := hT
  have HKn : Hid (512 * n = K) := hK
  clear hT hK ho hI5 hD5 hI hn
  go_enter Tryd.func13, Tryd.ntmps13
  go_upto_region 4 with (first
    | (go_at_call 11; refine (HMd.out _).mono ?_; rintro e w' ⟨rfl, rfl⟩; clear HMd)
    | (go_at_call 20; refine (HOf.out _).mono ?_; rintro e w1 ⟨rfl, h1⟩; have H1 : Hid (Below w.heap.size w w1) := h1; clear h1 HOf))
  obtain ⟨P, hP⟩ : ∃ P, w1.heap.size = P := ⟨_, rfl⟩
  obtain ⟨w2, hw2⟩ : ∃ w2, w1.alloc (.cells #[.int .i64 (n : Int), .int .i64 98, .int .i64 (gI n), .int .i64 (gD n), .int .i64 (gC n)] 44) = w2 := ⟨_, rfl⟩
  have H2 : Hid (Below w.heap.size w w2 ∧ GeoAt w2 P n) := by
    rw [← hw2, ← hP]
    exact ⟨H1.out.alloc H1.out.size _, heap_alloc_new _ _⟩
  rw [hw2, hP]
  clear hw2
  obtain ⟨g0, g1, g2, g3, g4⟩ := H2.out.2.cells
  go_upto_region 5 with (fail)
  obtain ⟨G, hG⟩ : ∃ G, w2.heap.size = G := ⟨_, rfl⟩
  obtain ⟨w3, hw3⟩ : ∃ w3, w2.alloc o = w3 := ⟨_, rfl⟩
  have H3 : Hid (Below w.heap.size w w3 ∧ GeoAt w3 P n ∧ OwnB w3 G K (zn K)) := by
    have hb : Below w2.heap.size w2 w3 := by rw [← hw3]; exact (Below.refl _ _).alloc (Nat.le_refl _) _
    refine ⟨H2.out.1.trans (hb.mono H2.out.1.size), H2.out.2.on hb, ?_⟩
    rw [← hw3, ← hG]; exact HO.out _
  rw [hw3, hG]
  clear hw3 E2 HO
  obtain ⟨i0, i1, i2, i3, i4⟩ := H3.out.2.1.cells
  have EC : ∀ ad dl dc, (Builtin.copy_ #[25, 25] 3 #[.slice ad dl dc, .slice none 0 0]).run Tryd.prog w3 = .ok (.int .i64 0) w3 := fun ad dl dc => run_copy_none w3 _ _ _ 5 ad none dl dc 0 0 Tryd.underlying25 sizeU8 (by simp)
  go_upto_region 11 with (first
    | (go_at_call 31; refine (HOp.out _ G H3.out.2.2).mono ?_; rintro e w4 ⟨D, rfl, h1, h2⟩; have H4 : Hid (Mine w w4 D ∧ Fresh D.abs n (zn K) ∧ GeoAt w4 P n ∧ OwnB w4 G K (zn K)) := ⟨h1.far' H3.out.1, h2, H3.out.2.1.on h1.bel, H3.out.2.2.on h1.bel⟩; clear h1 h2 HOp)
    | (go_at_call 32; refine (HR3.out _ G H4.out.2.2.2).mono ?_; rintro e w5 ⟨r, rfl, h1⟩; have H5 : Hid (Mine w w5 D ∧ GeoAt w5 P n) := ⟨H4.out.1.on h1, H4.out.2.2.1.on h1⟩; clear h1 HR3)
    | (go_at_call 21; refine (HBeg.out _ _).mono ?_; rintro e w6 ⟨T, rfl, h1, h2, h3, h4, h5⟩; have H6 : Hid (Tb w w6 D T n (fun _ => z15) 0 ∧ GeoAt w6 P n) := (by have hs := ses_begin H5.out.1 h1 h2 (h3.trans (show D.nb = n from H4.out.2.1.size).symm); exact ⟨tb_start HT.out hs (by rw [H4.out.2.1.full, HKn.out]; rfl) H4.out.2.1.down h4 h5 h3 (by omega) (by omega), H5.out.2.on h1.bel⟩); clear h1 h2 h3 h4 h5 HBeg))
  obtain ⟨k0, k1, k2, k3, k4⟩ := H6.out.2.cells
  have HD : Hid (Below w6.heap.size w6 w6.drew) := (Below.refl _ _).drew
  go_region_held3 (fun w' => w'.cell? ⟨P, 0, none⟩ = some (.int .i64 (n : Int)) ∧ w'.cell? ⟨P, 1, none⟩ = some (.int .i64 98) ∧ w'.cell? ⟨P, 2, none⟩ = some (.int .i64 (gI n)) ∧ w'.cell? ⟨P, 3, none⟩ = some (.int .i64 (gD n)) ∧ w'.cell? ⟨P, 4, none⟩ = some (.int .i64 (gC n))) (go_keep)
    (first | (go_at_call 33; refine (HR6.out _ _).mono ?_; rintro e w7 ⟨rt, rfl, h1⟩; have H7 : Hid (Below w6.heap.size w6 w7) := HD.out.trans (h1.mono HD.out.size); obtain ⟨m0, m1, m2, m3, m4⟩ := (H6.out.2.on H7.out).cells; clear h1))
  all_goals
    go_wp2
    go_ret2
    have hb : Below w6.heap.size w6 (w7.alloc (.cells #[.int .i64 (n : Int), .int .i64 98, .int .i64 (gI n), .int .i64 (gD n), .int .i64 (gC n), .pointer (some ⟨D.d, 0, none⟩), .pointer (some ⟨r, 0, none⟩), .pointer (some ⟨T.t, 0, none⟩), .pointer (some ⟨rt, 0, none⟩), .slice none 0 0] 51)) := H7.out.alloc H7.out.size _
    refine ⟨w7.heap.size, D.d, r, rt, D, T, rfl, H6.out.1.on hb, heap_alloc_new _ _, fun e => ?_, fun e => ?_, ?_⟩
    · have := H6.out.1.spc.ses.tx.lt e
      have := H7.out.size
      omega
    · have := H6.out.1.spc.ses.dk.disk.allLt e
      have := H7.out.size
      omega
    · have := H6.out.1.spc.ses.bel.size
      have := H7.out.size
      omega
end Go.Proofs.YtleakaddlgpamaaDoor
