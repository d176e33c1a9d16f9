import Derived.Test.YtckldbhaaagncaaGreatDoorWRc
namespace Go.Proofs.YtckldbhaaagncaaGreatDoor
open Go.RowKit Rec

theorem LogAt.lists {w0 w : World} {D : Dk} {F : List Int} {nb k : Nat} {v1 v2 : Value} {L : List Rb} (h : LogAt w0 w F nb v1 v2 L) (hk : (logN F nb).length = k) (h0 : 0 < k) (hl : F.length = 512 * nb) (hnb : 98 ≤ nb) (hD : ∀ b, D.has b → b < w0.heap.size) (hN : D.nb = nb) :
    ∃ gn cn gd cd, v1 = .slice (some ⟨gn, 0, none⟩) k cn ∧ v2 = .slice (some ⟨gd, 0, none⟩) k cd ∧ Lists w D gn gd k (logN F nb) (logD F k) := by
  obtain ⟨gn, cn, gd, cd, e1, e2, h1, h2, hat⟩ := h.at_ hk h0
  have hkl := logN_len F nb
  rw [hk] at hkl
  refine ⟨gn, cn, gd, cd, e1, e2, fun i hi => ?_, fun i hi => ?_, hk, logD_length _ _⟩
  · obtain ⟨m, hm, m1, m2⟩ := logN_nat F nb i (by rw [hk]; exact hi)
    rw [hN]
    refine ⟨(hat i hi).1, ?_, ?_⟩ <;> omega
  · obtain ⟨_, g, c, n2, n3, n4⟩ := hat i hi
    refine ⟨g, c, n2, ?_, fun e => by have := hD g e; omega⟩
    rw [row_logD F k i hi]
    exact BlkAt.of n3 (bck_length F _ nb hl (by omega))
set_option maxRecDepth 100000 in
set_option maxHeartbeats 4000000 in
theorem recover_yes (w : World) (D : Dk) (h : Disk w D) (hT : TabAt w) (he : openE D = 0) (k : Nat) (hk : (logN D.full D.nb).length = k) (h0 : 0 < k) (hr : RoomN D.abs (k + 3)) :
    Calls Tryz.prog 31 #[.pointer (some ⟨D.d, 0, none⟩)] w fun e w' => ((D.abs.takeE (homeA (logH D.full D.nb)) = 0 ∧ e = .returned (.tuple #[.int .i64 k, .int .i64 0])) ∨ (D.abs.takeE (homeA (logH D.full D.nb)) = 30 ∧ e = .returned (.tuple #[.int .i64 0, .int .i64 30]))) ∧ ∃ E, DoneAt w D w' E (homeA (logH D.full D.nb)) := by
  obtain ⟨hd, hnb, heL⟩ := openE_facts he
  have hnb1 := h.nb1
  have hkl := logN_len D.full D.nb
  rw [hk] at hkl
  have hmf : ∀ (fn : Fn) (first cap : Array Value) (w : World), (Instr.makeFunc fn first cap).run Tryz.prog w = .ok (.func fn first cap) w := fun _ _ _ _ => rfl
  have HB : Hid (Below w.heap.size w (w.alloc (.cells #[.int .i64 0] 25))) := (Below.refl _ _).alloc (Nat.le_refl _) _
  have HP : Hid ((w.alloc (.cells #[.int .i64 0] 25)).heap[w.heap.size]? = some (.cells #[.int .i64 0] 25 (0, 0))) := heap_alloc_new w _
  have HD : Hid (Disk w D) := h
  have HDl : Hid (∀ b, D.has b → b < w.heap.size) := fun b hb => h.hasLt hb
  have HL : Hid (∀ wx, Below w.heap.size w wx → Calls Tryz.prog 45 #[.pointer (some ⟨D.d, 0, none⟩)] wx fun e w' => ∃ gn cn gd cd, e = .returned (.tuple #[.slice (some ⟨gn, 0, none⟩) k cn, .slice (some ⟨gd, 0, none⟩) k cd]) ∧ Lists w' D gn gd k (logN D.full D.nb) (logD D.full k) ∧ Below wx.heap.size wx w') := fun wx hb => by
    refine (log_yes wx D (h.on hb) (hT.on hb) he).mono ?_
    rintro e w' ⟨v1, v2, L, rfl, hA⟩
    obtain ⟨gn, cn, gd, cd, rfl, rfl, hL⟩ := hA.lists (D := D) hk h0 h.full_length hnb (fun b hb' => Nat.lt_of_lt_of_le (HDl.out b hb') hb.size) rfl
    exact ⟨gn, cn, gd, cd, rfl, hL, hA.bel⟩
  have HH : Hid (homes (logN D.full D.nb) (logD D.full k) = logH D.full D.nb) := by unfold logH; rw [hk]; rfl
  have HHl : Hid ((homeA (logH D.full D.nb)).length = k + 3) := by rw [homeA_length, logH_length, hk]; rfl
  have HR : Hid (RoomN D.abs (k + 3)) := hr
  clear h hT he hd heL hr hk
  obtain ⟨acts, hacts⟩ : ∃ acts, homeA (logH D.full D.nb) = acts := ⟨_, rfl⟩
  have HAc : Hid (homeA (homes (logN D.full D.nb) (logD D.full k)) = acts) := by rw [HH.out]; exact hacts
  rw [hacts] at HHl ⊢
  clear hacts HH
  obtain ⟨ns, hns⟩ : ∃ ns, logN D.full D.nb = ns := ⟨_, rfl⟩
  obtain ⟨ds, hds⟩ : ∃ ds, logD D.full k = ds := ⟨_, rfl⟩
  rw [hns, hds] at HL HAc
  clear hns hds
  go_enter_defers Tryz.func31, Tryz.ntmps31
  generalize hwa : w.alloc (.cells #[.int .i64 0] 25) = wa at HB HP
  have hz : ((k : Int) == 0) = false := by simp; omega
  go_upto_region 5 with (go_at_call 45; refine (HL.out _ HB.out).mono ?_; rintro e w1 ⟨gn, cn, gd, cd, rfl, hA, hb⟩; have H1 : Hid (Lists w1 D gn gd k ns ds ∧ Below wa.heap.size wa w1 ∧ Below w.heap.size w w1) := ⟨hA, hb, HB.out.trans (hb.mono HB.out.size)⟩; clear hA hb)
  have H3 : Hid (Stp w1.heap.size (w1.alloc (.cells #[.pointer (some ⟨D.d, 0, none⟩), .slice none 0 0] 88)) D w1.heap.size []) := stp_new w1 D (fun k hk => Nat.lt_of_lt_of_le (HDl.out k hk) H1.out.2.2.size)
  obtain ⟨w3, hw3⟩ : ∃ w3, w3 = w1.alloc (.cells #[.pointer (some ⟨D.d, 0, none⟩), .slice none 0 0] 88) := ⟨_, rfl⟩
  have H3b : Hid (Below w1.heap.size w1 w3) := by rw [hw3]; exact (rows1 w1 _ _).1
  rw [← hw3] at H3
  go_upto_region 6 with fail
  rw [← hw3]
  clear hw3 hwa
  obtain ⟨B, hB⟩ : ∃ B, w1.heap.size = B := ⟨_, rfl⟩
  have HBe : Hid (w1.heap.size = B) := hB
  rw [hB] at H3 H3b ⊢
  clear hB
  have HM : Hid (Calls Tryz.prog 40 #[.pointer (some ⟨B, 0, none⟩), .slice (some ⟨gn, 0, none⟩) k cn, .slice (some ⟨gd, 0, none⟩) k cd] w3 fun e w' => e = .returned (.tuple #[]) ∧ Stp B w' D B acts ∧ Below B w3 w') := by
    have := home_any B w3 D B [] H3.out gn cn gd cd k ns ds (fun wx hb => by
      have hbx : Below w1.heap.size w1 wx := by rw [HBe.out]; exact H3b.out.trans hb
      exact H1.out.1.on hbx) (by omega) (by simp; omega)
    rw [List.nil_append, HAc.out] at this
    exact this
  have HC : Hid (∀ w', Stp B w' D B acts → Below B w3 w' → Calls Tryz.prog 41 #[.pointer (some ⟨B, 0, none⟩)] w' fun e w'' => e = .returned (.int .i64 (D.abs.takeE acts)) ∧ ∃ E, DoneAt w' D w'' E acts) := fun w' hs hb => by
    obtain ⟨v, fs, h1, _⟩ := hs.at_
    have hbw : Below w.heap.size w w' := by
      have hb1 : Below w1.heap.size w1 w' := by rw [HBe.out]; exact H3b.out.trans hb
      exact H1.out.2.2.trans (hb1.mono H1.out.2.2.size)
    exact carry_any w' D (HD.out.on hbw) B v fs acts h1 (by rw [HHl.out]; exact HR.out) (by rw [HHl.out]; omega)
  go_upto_region 7 with (go_at_call 40; refine HM.out.mono ?_; rintro e w4 ⟨rfl, h1, b1⟩; have H4 : Hid (Stp B w4 D B acts ∧ Below B w3 w4) := ⟨h1, b1⟩; clear h1 b1)
  have H4b : Hid (Below w.heap.size w w4 ∧ w4.heap[w.heap.size]? = some (.cells #[.int .i64 0] 25 (0, 0))) := by
    have hb1 : Below w1.heap.size w1 w4 := by rw [HBe.out]; exact H3b.out.trans H4.out.2
    exact ⟨H1.out.2.2.trans (hb1.mono H1.out.2.2.size), (hb1.block _ (Nat.lt_of_lt_of_le (heap_lt HP.out) H1.out.2.1.size)).trans ((H1.out.2.1.block _ (heap_lt HP.out)).trans HP.out)⟩
  clear HM HL HP HBe H3b H3
  have HPn : Hid (¬ D.has w.heap.size) := fun e => absurd (HDl.out _ e) (Nat.lt_irrefl _)
  have HC2 : Hid (Calls Tryz.prog 41 #[.pointer (some ⟨B, 0, none⟩)] w4 fun e w'' => e = .returned (.int .i64 (D.abs.takeE acts)) ∧ ∃ E, DoneAt w4 D w'' E acts ∧ w''.heap[w.heap.size]? = some (.cells #[.int .i64 0] 25 (0, 0))) := by
    refine (HC.out w4 H4.out.1 H4.out.2).mono ?_
    rintro e w5 ⟨rfl, E, hd⟩
    exact ⟨rfl, E, hd, hd.mv.fr.heap H4b.out.2 HPn.out⟩
  clear HC
  rcases takeE_vals D.abs acts with hv | hv
  · have HV : Hid (D.abs.takeE acts = 0) := hv
    rw [hv] at HC2
    clear hv
    go_upto_region 8 with (go_at_call 41; refine HC2.out.mono ?_; rintro e w5 ⟨rfl, E, hd, hp⟩; have H5 : Hid (DoneAt w4 D w5 E acts ∧ w5.heap[w.heap.size]? = some (.cells #[.int .i64 0] 25 (0, 0))) := ⟨hd, hp⟩; have c0 : w5.cell? ⟨w.heap.size, 0, none⟩ = some (.int .i64 0) := (by rw [cell_of_row _ _ _ _ _ _ hp]; rfl); have f0 : w5.frozen? ⟨w.heap.size, 0, none⟩ = false := frozen_of_row _ _ _ _ _ hp; clear hd hp)
    have r6 := heap_setCell_same w5 w.heap.size 0 _ _ (.int .i64 0) H5.out.2
    have H6 : Hid (DoneAt w D (w5.setCell ⟨w.heap.size, 0, none⟩ (.int .i64 0)) E acts ∧ (w5.setCell ⟨w.heap.size, 0, none⟩ (.int .i64 0)).heap[w.heap.size]? = some (.cells #[.int .i64 0] 25 (0, 0))) := ⟨H5.out.1.set H4b.out.1 HD.out w.heap.size 0 (Nat.le_refl _) (heap_lt H4b.out.2) _, r6⟩
    clear r6 c0 f0
    generalize w5.setCell ⟨w.heap.size, 0, none⟩ (.int .i64 0) = w6 at H6 ⊢
    have c6 : w6.cell? ⟨w.heap.size, 0, none⟩ = some (.int .i64 0) := by rw [cell_of_row _ _ _ _ _ _ H6.out.2]; rfl
    have f6 : w6.frozen? ⟨w.heap.size, 0, none⟩ = false := frozen_of_row _ _ _ _ _ H6.out.2
    go_wp2
    refine leaves_cons (f := 43) (args := #[.pointer (some ⟨w.heap.size, 0, none⟩)]) (by simp) (by simp [go_sem]) ?_
    refine (catchR_idle ⟨w.heap.size, 0, none⟩ _).mono ?_
    rintro e u' w'' ⟨rfl, rfl, rfl⟩
    have hc : (w6.setCell ⟨w.heap.size, 0, none⟩ (.int .i64 0)).cell? ⟨w.heap.size, 0, none⟩ = some (.int .i64 0) := by rw [cell_of_row _ _ _ _ _ _ (heap_setCell_same _ _ _ _ _ _ H6.out.2)]; rfl
    have hfin : DoneAt w D (w6.setCell ⟨w.heap.size, 0, none⟩ (.int .i64 0)) E acts := by
      refine ⟨H6.out.1.disk.fr Fr.set (fun k hk e => ?_), ⟨H6.out.1.mv.fr.trans Fr.set (fun k hk => .inr (by rw [hk]; exact Nat.le_refl _)), H6.out.1.mv.has, H6.out.1.mv.d, H6.out.1.mv.nb⟩, H6.out.1.al, H6.out.1.abs⟩
      subst e
      rcases H5.out.1.al _ hk with e | e
      · exact absurd (HD.out.allLt e) (Nat.lt_irrefl _)
      · exact absurd (heap_lt H4b.out.2) (Nat.not_lt.2 e)
    simp [Leaves, settle, results, Tryz.results31, go_sem, hc, HV.out]
    exact ⟨E, hfin⟩
  · have HV : Hid (D.abs.takeE acts = 30) := hv
    rw [hv] at HC2
    clear hv
    go_upto_region 8 with (go_at_call 41; refine HC2.out.mono ?_; rintro e w5 ⟨rfl, E, hd, hp⟩; have H5 : Hid (DoneAt w4 D w5 E acts ∧ w5.heap[w.heap.size]? = some (.cells #[.int .i64 0] 25 (0, 0))) := ⟨hd, hp⟩; have c0 : w5.cell? ⟨w.heap.size, 0, none⟩ = some (.int .i64 0) := (by rw [cell_of_row _ _ _ _ _ _ hp]; rfl); have f0 : w5.frozen? ⟨w.heap.size, 0, none⟩ = false := frozen_of_row _ _ _ _ _ hp; clear hd hp)
    have r6 := heap_setCell_same w5 w.heap.size 0 _ _ (.int .i64 30) H5.out.2
    have H6 : Hid (DoneAt w D (w5.setCell ⟨w.heap.size, 0, none⟩ (.int .i64 30)) E acts ∧ (w5.setCell ⟨w.heap.size, 0, none⟩ (.int .i64 30)).heap[w.heap.size]? = some (.cells #[.int .i64 30] 25 (0, 0))) := ⟨H5.out.1.set H4b.out.1 HD.out w.heap.size 0 (Nat.le_refl _) (heap_lt H4b.out.2) _, r6⟩
    clear r6 c0 f0
    generalize w5.setCell ⟨w.heap.size, 0, none⟩ (.int .i64 30) = w6 at H6 ⊢
    have c6 : w6.cell? ⟨w.heap.size, 0, none⟩ = some (.int .i64 30) := by rw [cell_of_row _ _ _ _ _ _ H6.out.2]; rfl
    have f6 : w6.frozen? ⟨w.heap.size, 0, none⟩ = false := frozen_of_row _ _ _ _ _ H6.out.2
    go_wp2
    go_region
    all_goals go_wp2
    all_goals
      have H7 : Hid (DoneAt w D (w6.setCell ⟨w.heap.size, 0, none⟩ (.int .i64 30)).drew E acts) := by
        have hb : Below (w6.setCell ⟨w.heap.size, 0, none⟩ (.int .i64 30)).heap.size (w6.setCell ⟨w.heap.size, 0, none⟩ (.int .i64 30)) (w6.setCell ⟨w.heap.size, 0, none⟩ (.int .i64 30)).drew := (Below.refl _ _).drew
        have hfin : DoneAt w D (w6.setCell ⟨w.heap.size, 0, none⟩ (.int .i64 30)) E acts := by
          refine ⟨H6.out.1.disk.fr Fr.set (fun k hk e => ?_), ⟨H6.out.1.mv.fr.trans Fr.set (fun k hk => .inr (by rw [hk]; exact Nat.le_refl _)), H6.out.1.mv.has, H6.out.1.mv.d, H6.out.1.mv.nb⟩, H6.out.1.al, H6.out.1.abs⟩
          subst e
          rcases H5.out.1.al _ hk with e | e
          · exact absurd (HD.out.allLt e) (Nat.lt_irrefl _)
          · exact absurd (heap_lt H4b.out.2) (Nat.not_lt.2 e)
        exact ⟨hfin.disk.on hb, hfin.mv.trans (mv_on _ _ _ hb), hfin.al, hfin.abs⟩
      have r7 : (w6.setCell ⟨w.heap.size, 0, none⟩ (.int .i64 30)).drew.heap[w.heap.size]? = some (.cells #[.int .i64 30] 25 (0, 0)) := heap_setCell_same _ _ _ _ _ _ H6.out.2
      generalize (w6.setCell ⟨w.heap.size, 0, none⟩ (.int .i64 30)).drew = w7 at *
      refine leaves_cons (f := 43) (args := #[.pointer (some ⟨w.heap.size, 0, none⟩)]) (by simp) (by simp [go_sem]) ?_
      refine (catchR_idle ⟨w.heap.size, 0, none⟩ _).mono ?_
      rintro e u' w'' ⟨rfl, rfl, rfl⟩
      have hc : w''.cell? ⟨w.heap.size, 0, none⟩ = some (.int .i64 30) := by rw [cell_of_row _ _ _ _ _ _ r7]; rfl
      simp [Leaves, settle, results, Tryz.results31, go_sem, hc, HV.out]
      exact ⟨E, H7.out⟩
end Go.Proofs.YtckldbhaaagncaaGreatDoor
