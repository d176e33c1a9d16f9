import Derived.Test.YtpheajiepnjhdabDoorWFm
namespace Go.Proofs.YtpheajiepnjhdabDoor
open Go.RowKit Rec

theorem ptr_nil (w : World) (p : Addr) : (binOp .eql 29 (.pointer (some p)) (.pointer none)).run Tryd.prog w = .ok (.bool false) w := by
  have h : ∀ d : Nat, (Op.equalIn (d + 1) 29 (.pointer (some p)) (.pointer none)).run Tryd.prog w = .ok false w := fun d => by
    simp [Op.equalIn, run_underlying Tryd.underlying29]
  simp only [binOp]
  simp [Op.equal, Op.maxDepth, h 9999]
theorem nil_bytes (w : World) : Bytes w none [] := ⟨by simp, by intro i; simp [nth], .inl rfl⟩
theorem nth_repl0 (n i : Nat) : nth (List.replicate n 0) i = 0 := by
  by_cases h : i < n
  · simp [nth, List.getD, h]
  · rw [nth_out _ _ (by simp; omega)]
theorem zsA_block (nb b : Nat) (hb : b < nb) : bck (zsA (512 * nb)) b = zs := by
  refine ext_nth (by rw [bck_length _ _ nb (zsA_length _) hb, zs_length]) fun i hi => ?_
  rw [bck_length _ _ nb (zsA_length _) hb] at hi
  rw [nth_bck _ _ _ hi, zsA, nth_repl0, nth_zs]
theorem new_rest (w : World) (nb : Nat) (h0 : 98 ≤ nb) (h1 : nb ≤ 16384) : Calls Tryd.prog 18 #[.int .i64 nb] w fun e w' => ∃ D l, e = .returned (.tuple #[.pointer (some ⟨D.d, 0, none⟩), .int .i64 0]) ∧ Mine w w' D ∧ Rest D.abs nb l ∧ l = zsA (512 * nb) ∧ D.wr = 0 ∧ D.fl = 0 ∧ D.tap = [] ∧ D.keep = [] := by
  refine (new_yes w nb (by omega) h1).mono ?_
  rintro e w' ⟨d, nw, L, capL, rfl, a1, a2, a3, hd, hb⟩
  exact ⟨_, _, rfl, ⟨hd, newDk_all _ _ _ _ _ _ _ a1 a3 a2, hb⟩, ⟨rfl, rfl, rfl, rfl, rfl, zsA_length _, zsA_block nb 1 (by omega)⟩, rfl, rfl, rfl, rfl, rfl⟩
theorem commit_rest (w0 w : World) (D : Dk) (nb : Nat) (l : List Int) (hM : Mine w0 w D) (hR : Rest D.abs nb l) (hT : TabAt w) (b n c : Nat) (L : List Bk) (hL : BlocksAt w b L) (hn : L.length = n) (h0 : 0 < n) (ok : ComOk nb (nsB L) (dsB L)) (ha : ∀ q ∈ L, ¬ D.has q.g) (hr : RoomN D.abs (2 * n + 6)) :
    Calls Tryd.prog 10 #[.pointer (some ⟨D.d, 0, none⟩), .slice (some ⟨b, 0, none⟩) n c] w fun e w' => e = .returned (.int .i64 0) ∧ ∃ E, Mine w0 w' E ∧ E.d = D.d ∧ E.abs = D.abs.all (parts (nsB L) (dsB L)) ∧ Rest E.abs nb (done l nb (nsB L) (dsB L)) ∧ Mv w D w' E := by
  have hnb : D.nb = nb := hR.size
  refine (commit_ok w D hM.disk hT b n c L hL hn h0 (by rw [hnb]; exact ok) ha hr).mono ?_
  rintro e w' ⟨rfl, E, hE⟩
  obtain ⟨e1, e2, e3⟩ := hR.commit ok
  have hab := hE.abs
  rw [e2] at hab
  exact ⟨by rw [e1], E, hM.done hE, hE.mv.d, hab, by rw [hab]; exact e3, hE.mv⟩
theorem ok_fixed (A B : List Int) (hA : A.length = 512) (hB : B.length = 512) (g1 c1 g2 c2 : Nat) : ComOk 100 (nsB [⟨98, g1, c1, A⟩, ⟨99, g2, c2, B⟩]) (dsB [⟨98, g1, c1, A⟩, ⟨99, g2, c2, B⟩]) := by
  refine ⟨by omega, by omega, ?_, by simp [nsB], by simp [nsB], rfl, fun b hb => ?_⟩
  · show may [98, 99] ((100 : Nat) : Int) = true
    decide
  · simp only [dsB, List.map_cons, List.map_nil, List.mem_cons, List.not_mem_nil, or_false] at hb
    rcases hb with rfl | rfl
    · exact hA
    · exact hB
/-- what the fixed law reads -/
theorem fixed_math (A B l : List Int) (hA : A.length = 512) (hB : B.length = 512) (h0 : nth A 0 = 65) (hl : l.length = 512 * 100) (g1 c1 g2 c2 : Nat) (F : List Int) (hF : F = done l 100 (nsB [⟨98, g1, c1, A⟩, ⟨99, g2, c2, B⟩]) (dsB [⟨98, g1, c1, A⟩, ⟨99, g2, c2, B⟩])) :
    bck F 98 = A ∧ bck F 3 = B ∧ nth F 50176 = 65 ∧ nth F 512 = 0 ∧ F.length = 51200 := by
  have ok := ok_fixed A B hA hB g1 c1 g2 c2
  have h1 : bck F 98 = A := by rw [hF]; exact done_in hl ok (98, A) (.head _)
  have h2 : bck F 3 = B := by rw [hF]; exact done_log hl ok 1 (by simp [dsB])
  have h3 : bck F 1 = zs := by rw [hF]; exact done_one hl ok
  refine ⟨h1, h2, ?_, ?_, by rw [hF]; exact done_length hl ok⟩
  · have := nth_bck F 98 0 (by omega)
    rw [h1, h0] at this
    exact this.symm
  · have := nth_bck F 1 0 (by omega)
    rw [h3, nth_zs] at this
    exact this.symm
theorem blocks2 (w : World) (A B : List Int) (g1 c1 g2 c2 : Nat) (hA : BlkAt w g1 A) (hB : BlkAt w g2 B) : BlocksAt (w.alloc (.cells #[.int .i64 98, .slice (some ⟨g1, 0, none⟩) 512 c1, .int .i64 99, .slice (some ⟨g2, 0, none⟩) 512 c2] 55)) w.heap.size [⟨98, g1, c1, A⟩, ⟨99, g2, c2, B⟩] := by
  have hb : Below w.heap.size w (w.alloc (.cells #[.int .i64 98, .slice (some ⟨g1, 0, none⟩) 512 c1, .int .i64 99, .slice (some ⟨g2, 0, none⟩) 512 c2] 55)) := (Below.refl _ _).alloc (Nat.le_refl _) _
  have hc : ∀ j, (w.alloc (.cells #[.int .i64 98, .slice (some ⟨g1, 0, none⟩) 512 c1, .int .i64 99, .slice (some ⟨g2, 0, none⟩) 512 c2] 55)).cell? ⟨w.heap.size, j, none⟩ = _ := fun j => cell_of_row _ _ _ _ _ _ (heap_alloc_new _ _)
  refine ⟨fun i q hq => ?_⟩
  match i, hq with
  | 0, hq => simp at hq; subst hq; exact ⟨by rw [hc]; rfl, by rw [hc]; rfl, hA.on hb⟩
  | 1, hq => simp at hq; subst hq; exact ⟨by rw [hc]; rfl, by rw [hc]; rfl, hB.on hb⟩
  | i + 2, hq => simp at hq
set_option maxRecDepth 100000 in
set_option maxHeartbeats 4000000 in
theorem fixed_any (w : World) (hT : TabAt w) : Calls Tryd.prog 4 #[] w fun e w' => e = .returned (.bool true) ∧ Below w.heap.size w w' := by
  obtain ⟨A, eA⟩ : ∃ A, blkOf [] 65 512 = A := ⟨_, rfl⟩
  obtain ⟨B, eB⟩ : ∃ B, blkOf [] 66 512 = B := ⟨_, rfl⟩
  have HBA : Hid (∀ wx, Calls Tryd.prog 19 #[.slice none 0 0, .int .u8 65] wx fun e w' => ∃ g cap, e = .returned (.slice (some ⟨g, 0, none⟩) 512 cap) ∧ OwnB w' g cap A ∧ wx.heap.size ≤ g ∧ Below wx.heap.size wx w') := fun wx => by rw [← eA]; exact wblock_any wx none 0 0 [] 65 (nil_bytes wx) rfl (by omega)
  have HBB : Hid (∀ wx, Calls Tryd.prog 19 #[.slice none 0 0, .int .u8 66] wx fun e w' => ∃ g cap, e = .returned (.slice (some ⟨g, 0, none⟩) 512 cap) ∧ OwnB w' g cap B ∧ wx.heap.size ≤ g ∧ Below wx.heap.size wx w') := fun wx => by rw [← eB]; exact wblock_any wx none 0 0 [] 66 (nil_bytes wx) rfl (by omega)
  have HAl : Hid (A.length = 512 ∧ B.length = 512 ∧ nth A 0 = 65) := by
    refine ⟨by rw [← eA]; exact blkOf_length _ _ _, by rw [← eB]; exact blkOf_length _ _ _, ?_⟩
    rw [← eA, nth_blkOf _ _ _ _ (by omega), if_neg (by simp)]
  have HT : Hid (∀ wx, Below w.heap.size w wx → TabAt wx) := fun wx hb => hT.on hb
  have hptr := ptr_nil
  clear eA eB hT
  go_enter Tryd.func4, Tryd.ntmps4
  go_upto_region 6 with (first
    | (go_at_call 18; refine (new_rest _ 100 (by omega) (by omega)).mono ?_; rintro e w1 ⟨D, l, rfl, hM, hR, _, hwr, hfl, htp, hkp⟩; have H1 : Hid (Mine w w1 D ∧ Rest D.abs 100 l ∧ D.wr = 0 ∧ D.fl = 0 ∧ D.tap = [] ∧ D.keep = []) := ⟨hM, hR, hwr, hfl, htp, hkp⟩; clear hM hR hwr hfl htp hkp)
    | (go_at_call 19; refine (HBA.out _).mono ?_; rintro e w2 ⟨g1, c1, rfl, ho, hg, hb⟩; have H2 : Hid (OwnB w2 g1 c1 A ∧ w1.heap.size ≤ g1 ∧ Below w1.heap.size w1 w2) := ⟨ho, hg, hb⟩; clear ho hg hb HBA)
    | (go_at_call 19; refine (HBB.out _).mono ?_; rintro e w3 ⟨g2, c2, rfl, ho, hg, hb⟩; have H3 : Hid (OwnB w3 g2 c2 B ∧ w2.heap.size ≤ g2 ∧ Below w2.heap.size w2 w3) := ⟨ho, hg, hb⟩; clear ho hg hb HBB))
  obtain ⟨w4, hw4⟩ : ∃ w4, w4 = w3.alloc (.cells #[.int .i64 98, .slice (some ⟨g1, 0, none⟩) 512 c1, .int .i64 99, .slice (some ⟨g2, 0, none⟩) 512 c2] 55) := ⟨_, rfl⟩
  have H4 : Hid (BlocksAt w4 w3.heap.size [⟨98, g1, c1, A⟩, ⟨99, g2, c2, B⟩] ∧ OwnB w4 g1 c1 A ∧ OwnB w4 g2 c2 B ∧ Mine w w4 D ∧ ¬ D.has g1 ∧ ¬ D.has g2) := by
    have hb : Below w3.heap.size w3 w4 := by rw [hw4]; exact (Below.refl _ _).alloc (Nat.le_refl _) _
    have o1 := H2.out.1.on H3.out.2.2
    refine ⟨by rw [hw4]; exact blocks2 w3 A B g1 c1 g2 c2 (BlkAt.of o1 HAl.out.1) (BlkAt.of H3.out.1 HAl.out.2.1), o1.on hb, H3.out.1.on hb, ((H1.out.1.on H2.out.2.2).on H3.out.2.2).on hb, fun e => ?_, fun e => ?_⟩
    · have := H1.out.1.hasLt _ e; have := H2.out.2.1; omega
    · have := H1.out.1.hasLt _ e; have := H3.out.2.1; have := H2.out.2.2.size; omega
  have HC : Hid (Calls Tryd.prog 10 #[.pointer (some ⟨D.d, 0, none⟩), .slice (some ⟨w3.heap.size, 0, none⟩) 2 2] w4 fun e w' => e = .returned (.int .i64 0) ∧ ∃ E F, Mine w w' E ∧ E.d = D.d ∧ Rest E.abs 100 F ∧ (E.wr = 6 ∧ E.fl = 4) ∧ OwnB w' g1 c1 A ∧ OwnB w' g2 c2 B ∧ bck F 98 = A ∧ bck F 3 = B ∧ nth F 50176 = 65 ∧ nth F 512 = 0 ∧ F.length = 51200) := by
    refine (commit_rest w w4 D 100 l H4.out.2.2.2.1 H1.out.2.1 (HT.out _ H4.out.2.2.2.1.bel) w3.heap.size 2 2 _ H4.out.1 rfl (by omega) (ok_fixed A B HAl.out.1 HAl.out.2.1 g1 c1 g2 c2) (fun q hq => ?_) ?_).mono ?_
    · simp only [List.mem_cons, List.not_mem_nil, or_false] at hq
      rcases hq with rfl | rfl
      · exact H4.out.2.2.2.2.1
      · exact H4.out.2.2.2.2.2
    · have h1 : D.abs.wr = 0 := H1.out.2.2.1
      have h2 : D.abs.fl = 0 := H1.out.2.2.2.1
      have h3 : D.abs.T = [] := by show D.tap.map _ = []; rw [H1.out.2.2.2.2.1]; rfl
      have h4 : D.abs.keep = [] := H1.out.2.2.2.2.2
      exact ⟨by rw [H1.out.2.1.pen]; simp, by rw [h3]; simp, by rw [h1]; omega, by rw [h2]; omega, by rw [h4]; simp⟩
    · rintro e w' ⟨rfl, E, hM, hd, hab, hR, hf⟩
      obtain ⟨a1, a2⟩ := all_wr D.abs (nsB [⟨98, g1, c1, A⟩, ⟨99, g2, c2, B⟩]) (dsB [⟨98, g1, c1, A⟩, ⟨99, g2, c2, B⟩]) rfl
      have x1 : E.abs.wr = 6 := by rw [hab, a1]; show D.wr + _ = 6; rw [H1.out.2.2.1]; rfl
      have x2 : E.abs.fl = 4 := by rw [hab, a2]; show D.fl + _ = 4; rw [H1.out.2.2.2.1]
      exact ⟨rfl, E, _, hM, hd, hR, ⟨x1, x2⟩, H4.out.2.1.fr hf.fr H4.out.2.2.2.2.1, H4.out.2.2.1.fr hf.fr H4.out.2.2.2.2.2, fixed_math A B l HAl.out.1 HAl.out.2.1 HAl.out.2.2 H1.out.2.1.len g1 c1 g2 c2 _ rfl⟩
  go_upto_region 7 with (rw [← hw4]; go_at_call 10; refine HC.out.mono ?_; rintro e w5 ⟨rfl, E, F, hM, hd, hR, hs, o1, o2, f1, f2, f3, f4, f5⟩; have H5 : Hid (Mine w w5 E ∧ Rest E.abs 100 F ∧ (E.wr = 6 ∧ E.fl = 4) ∧ OwnB w5 g1 c1 A ∧ OwnB w5 g2 c2 B ∧ bck F 98 = A ∧ bck F 3 = B) := ⟨hM, hR, hs, o1, o2, f1, f2⟩; have HF : Hid (nth F 50176 = 65 ∧ nth F 512 = 0 ∧ F.length = 51200) := ⟨f3, f4, f5⟩; rw [← hd]; clear hM hR hs o1 o2 f1 f2 f3 f4 f5 hd)
  clear H4 H3 H2 H1 HC
  have HSt : Hid (∀ wx, Below w5.heap.size w5 wx → Calls Tryd.prog 16 #[.pointer (some ⟨E.d, 0, none⟩)] wx fun e w' => e = .returned (.tuple #[.int .i64 6, .int .i64 4]) ∧ Below wx.heap.size wx w') := fun wx hb => by
    refine (steps_any wx E (H5.out.1.on hb).disk).mono ?_
    rintro e w' ⟨rfl, hb'⟩
    exact ⟨by rw [H5.out.2.2.1.1, H5.out.2.2.1.2]; rfl, hb'⟩
  have HRd : Hid (∀ wx (i : Nat) X, Below w5.heap.size w5 wx → i < 100 → bck F i = X → Calls Tryd.prog 20 #[.pointer (some ⟨E.d, 0, none⟩), .int .i64 i] wx fun e w' => ∃ g cap, e = .returned (.tuple #[.slice (some ⟨g, 0, none⟩) 512 cap, .int .i64 0]) ∧ OwnB w' g cap X ∧ Below wx.heap.size wx w') := fun wx i X hb hi hX => by
    have hnb : E.nb = 100 := H5.out.2.1.size
    refine (read_yes wx E (H5.out.1.on hb).disk i (by rw [hnb]; exact hi) H5.out.2.1.down).mono ?_
    rintro e w' ⟨g, cap, rfl, hg, ho, hb'⟩
    rw [H5.out.2.1.fullD, hX] at ho
    exact ⟨g, cap, rfl, ho, hb'⟩
  have HTx : Hid (∀ wx, Below w5.heap.size w5 wx → TabAt wx) := fun wx hb => HT.out wx (H5.out.1.bel.trans (hb.mono H5.out.1.bel.size))
  have HRc : Hid (∀ wx, Below w5.heap.size w5 wx → Calls Tryd.prog 15 #[.pointer (some ⟨E.d, 0, none⟩)] wx fun e w' => e = .returned (.tuple #[.int .i64 0, .int .i64 0]) ∧ Below wx.heap.size wx w') := fun wx hb => by
    have hnb : E.nb = 100 := H5.out.2.1.size
    refine (recover_nil wx E (H5.out.1.on hb).disk (HTx.out _ hb) (H5.out.2.1.openE (by omega)) ?_).mono ?_
    · rw [H5.out.2.1.fullD, hnb]; exact (log_empty (by omega) H5.out.2.1.log).1
    · rintro e w' ⟨rfl, hb'⟩
      exact ⟨rfl, hb'⟩
  have HBe : Hid (∀ wx, Below w5.heap.size w5 wx → Calls Tryd.prog 13 #[.pointer (some ⟨E.d, 0, none⟩)] wx fun e w' => ∃ g cap, e = .returned (.tuple #[.slice (some ⟨g, 0, none⟩) 51200 cap, .int .i64 0]) ∧ OwnB w' g cap F ∧ Below wx.heap.size wx w') := fun wx hb => by
    have hnb : E.nb = 100 := H5.out.2.1.size
    refine (behind_yes wx E (H5.out.1.on hb).disk (HTx.out _ hb) (H5.out.2.1.openE (by omega))).mono ?_
    rintro e w' ⟨g, cap, rfl, ho, hg, hb'⟩
    rw [H5.out.2.1.fullD, hnb, H5.out.2.1.behind (by omega)] at ho
    exact ⟨g, cap, by rw [hnb], ho, hb'⟩
  have HB0 : Hid (Below w5.heap.size w5 w5) := Below.refl _ _
  go_upto_region 12 with (first
    | (go_at_call 16; refine (HSt.out _ HB0.out).mono ?_; rintro e w6 ⟨rfl, hb⟩; have H6 : Hid (Below w5.heap.size w5 w6) := hb; clear hb HSt)
    | (go_at_call 20; have hh := H6.out; clear hh; refine (HRd.out _ 98 A H6.out (by omega) H5.out.2.2.2.2.2.1).mono ?_; rintro e w7 ⟨g7, c7, rfl, ho, hb⟩; have H7 : Hid (OwnB w7 g7 c7 A ∧ Below w5.heap.size w5 w7) := ⟨ho, H6.out.trans (hb.mono H6.out.size)⟩; clear ho hb H6)
    | (go_at_call 20; have hh := H7.out; clear hh; refine (HRd.out _ 3 B H7.out.2 (by omega) H5.out.2.2.2.2.2.2).mono ?_; rintro e w8 ⟨g8, c8, rfl, ho, hb⟩; have H8 : Hid (OwnB w8 g7 c7 A ∧ OwnB w8 g8 c8 B ∧ Below w5.heap.size w5 w8) := ⟨H7.out.1.on hb, ho, H7.out.2.trans (hb.mono H7.out.2.size)⟩; clear ho hb HRd)
    | (go_at_call 15; refine (HRc.out _ H8.out.2.2).mono ?_; rintro e w9 ⟨rfl, hb⟩; have H9 : Hid (OwnB w9 g7 c7 A ∧ OwnB w9 g8 c8 B ∧ Below w5.heap.size w5 w9) := ⟨H8.out.1.on hb, H8.out.2.1.on hb, H8.out.2.2.trans (hb.mono H8.out.2.2.size)⟩; clear hb HRc)
    | (go_at_call 13; refine (HBe.out _ H9.out.2.2).mono ?_; rintro e w10 ⟨g10, c10, rfl, ho, hb⟩; have H10 : Hid (OwnB w10 g7 c7 A ∧ OwnB w10 g8 c8 B ∧ OwnB w10 g10 c10 F ∧ Below w5.heap.size w5 w10) := ⟨H9.out.1.on hb, H9.out.2.1.on hb, ho, H9.out.2.2.trans (hb.mono H9.out.2.2.size)⟩; clear ho hb HBe))
  have d1 : w10.cell? ⟨g10, 50176, none⟩ = some (.int .u8 65) := by rw [H10.out.2.2.1.cell 50176 (by rw [HF.out.2.2]; omega), HF.out.1]
  have d2 : w10.cell? ⟨g10, 512, none⟩ = some (.int .u8 0) := by rw [H10.out.2.2.1.cell 512 (by rw [HF.out.2.2]; omega), HF.out.2.1]
  have HS1 : Hid (Calls Tryd.prog 21 #[.slice (some ⟨g7, 0, none⟩) 512 c7, .slice (some ⟨g1, 0, none⟩) 512 c1] w10 fun e w' => e = .returned (.bool true) ∧ w10 = w') := sameBytes_yes w10 _ _ 512 c7 c1 A H10.out.1.bytes (H5.out.2.2.2.1.on H10.out.2.2.2).bytes HAl.out.1
  have HS2 : Hid (Calls Tryd.prog 21 #[.slice (some ⟨g8, 0, none⟩) 512 c8, .slice (some ⟨g2, 0, none⟩) 512 c2] w10 fun e w' => e = .returned (.bool true) ∧ w10 = w') := sameBytes_yes w10 _ _ 512 c8 c2 B H10.out.2.1.bytes (H5.out.2.2.2.2.1.on H10.out.2.2.2).bytes HAl.out.2.1
  have HE : Hid (Below w.heap.size w w10) := H5.out.1.bel.trans (H10.out.2.2.2.mono H5.out.1.bel.size)
  clear H10 H9 H8 H7 H5 HF HTx HT HAl HB0
  go_wp2_with (first
    | (go_at_call 21; refine HS1.out.mono ?_; rintro e w' ⟨rfl, rfl⟩; clear HS1)
    | (go_at_call 21; refine HS2.out.mono ?_; rintro e w' ⟨rfl, rfl⟩; clear HS2))
  go_ret
  exact ⟨rfl, HE.out⟩
end Go.Proofs.YtpheajiepnjhdabDoor
