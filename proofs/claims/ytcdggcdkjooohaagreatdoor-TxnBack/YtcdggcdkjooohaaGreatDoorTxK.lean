import Derived.Test.YtcdggcdkjooohaaGreatDoorKTxF
namespace Go.Proofs.YtcdggcdkjooohaaGreatDoor
open Go.RowKit Go.Maps Rec

theorem ptr_nilT (w : World) (p : Addr) : (binOp .eql 26 (.pointer (some p)) (.pointer none)).run Tryz.prog w = .ok (.bool false) w := by
  have h : ∀ d : Nat, (Op.equalIn (d + 1) 26 (.pointer (some p)) (.pointer none)).run Tryz.prog w = .ok false w := fun d => by
    simp [Op.equalIn, run_underlying Tryz.underlying26]
  simp only [binOp]
  simp [Op.equal, Op.maxDepth, h 9999]
/-- behind the commit that is known -/
structure KnE (w w' : World) (d t : Nat) : Prop where
  dk : ∃ E ls, Mine w w' E ∧ E.d = d ∧ Rest E.abs 120 ls ∧ bck ls 98 = one 65 ∧ E.wr = 4 ∧ E.fl = 4
  over : OverAt w' t
theorem begin_ses (w0 w : World) (D : Dk) (hM : Mine w0 w D) (d0 : Nat) (hd : D.d = d0) :
    Calls Tryz.prog 9 #[.pointer (some ⟨d0, 0, none⟩)] w fun e w' => ∃ T, e = .returned (.pointer (some ⟨T.t, 0, none⟩)) ∧ Ses w0 w' D T ∧ T.c = (fun _ => none) ∧ T.us = [] ∧ Below w.heap.size w w' := by
  refine (begin_any w d0 D.nb hM.disk.nb1).mono ?_
  rintro e w' ⟨T, rfl, h1, h2, h3, h4, h5⟩
  exact ⟨T, rfl, ses_begin hM h1 (h2.trans hd.symm) h3, h4, h5, h1.bel⟩
set_option maxRecDepth 100000 in
set_option maxHeartbeats 8000000 in
theorem known_any (w : World) (hT : TabAt w) : Calls Tryz.prog 8 #[] w fun e w' => e = .returned (.bool true) ∧ Below w.heap.size w w' := by
  have HTb : Hid (∀ wx, Below w.heap.size w wx → TabAt wx) := fun wx hb => hT.on hb
  have HF : Hid (Calls Tryz.prog 7 #[.int .i64 120] w fun e w' => ∃ D d0, e = .returned (.pointer (some ⟨d0, 0, none⟩)) ∧ D.d = d0 ∧ Mine w w' D ∧ Fresh D.abs 120 (fr6 120)) := by
    refine (fresh6 w 120 (by omega) (by omega)).mono ?_
    rintro e w' ⟨D, rfl, h1, h2⟩
    exact ⟨D, _, rfl, rfl, h1, h2⟩
  have hptr := ptr_nil
  have hptT := ptr_nilT
  clear hT
  go_enter Tryz.func8, Tryz.ntmps8
  go_upto_region 5 with (first
    | (go_at_call 7; refine HF.out.mono ?_; rintro e w1 ⟨D, d0, rfl, hd0, hm, hf⟩; have H1 : Hid (Mine w w1 D ∧ Fresh D.abs 120 (fr6 120) ∧ D.d = d0) := ⟨hm, hf, hd0⟩; clear hm hf hd0)
    | (go_at_call 9; refine (begin_ses w w1 D H1.out.1 d0 H1.out.2.2).mono ?_; rintro e w2 ⟨T, rfl, hs, hc, hu, hb⟩; have H2 : Hid (Ses w w2 D T ∧ T.c = (fun _ => none) ∧ T.us = []) := ⟨hs, hc, hu⟩; clear hs hc hu hb))
  obtain ⟨t0, ht0⟩ : ∃ t0, T.t = t0 := ⟨_, rfl⟩
  rw [ht0]
  have HWr : Hid (∀ wx, Below w2.heap.size w2 wx → ∀ g c, OwnB wx g c (one 65) → Calls Tryz.prog 36 #[.pointer (some ⟨t0, 0, none⟩), .int .i64 98, .slice (some ⟨g, 0, none⟩) 512 c] wx fun e w' => e = .returned (.int .i64 0) ∧ ∃ T' q, Ses w w' D T' ∧ q.x = one 65 ∧ T'.c = ups (fun _ => none) 98 (some q) ∧ T'.t = t0) := fun wx hb g c ho => by
    have hn : T.nb = 120 := by rw [← H2.out.1.nb]; exact H1.out.2.1.size
    have := ses_write w wx D T (H2.out.1.on hb) 98 (by omega) (by omega) ⟨g, 0, none⟩ c (one 65) ho.bytes (one_length _) (.inr (by rw [H2.out.2.1, lst_none]; simp)) (by rw [H2.out.2.2]; simp)
    rw [ht0] at this
    refine this.mono ?_
    rintro e w' ⟨rfl, T', q, u, s1, s2, s3, s4, s5, _⟩
    exact ⟨rfl, T', q, s1, s3, by rw [s5, H2.out.2.1], by rw [s2.t]; exact ht0⟩
  clear ht0
  go_upto_region 7 with (first
    | (go_at_call 17; refine (lblock_any _ 65 (by omega)).mono ?_; rintro e w3 ⟨rfl, ho, hb⟩; have H3 : Hid (OwnB w3 w2.heap.size 512 (one 65) ∧ Below w2.heap.size w2 w3) := ⟨ho, hb⟩; clear ho hb)
    | (go_at_call 36; refine (HWr.out _ H3.out.2 _ _ H3.out.1).mono ?_; rintro e w4 ⟨rfl, T1, q, hs, hq, hc, ht⟩; have H4 : Hid (Ses w w4 D T1 ∧ q.x = one 65 ∧ T1.c = ups (fun _ => none) 98 (some q) ∧ T1.t = t0) := ⟨hs, hq, hc, ht⟩; clear hs hq hc ht))
  have HRd : Hid (Calls Tryz.prog 16 #[.pointer (some ⟨t0, 0, none⟩), .int .i64 98] w4 fun e w' => ∃ g cap, e = .returned (.tuple #[.slice (some ⟨g, 0, none⟩) 512 cap, .int .i64 0]) ∧ OwnB w' g cap (one 65) ∧ Below w4.heap.size w4 w') := by
    obtain ⟨s1, s2, s3, s4⟩ := H4.out
    have hn : T1.nb = 120 := by rw [← s1.nb]; exact H1.out.2.1.size
    have := tread_any w4 T1 D s1.tx s1.dk.disk s1.d s1.nb H1.out.2.1.down 98 (by omega)
    rw [s4] at this
    refine this.mono ?_
    rintro e w' ⟨g, cap, rfl, _, ho, hb⟩
    rw [s3, ups_same] at ho
    rw [← s2]
    exact ⟨g, cap, rfl, ho, hb⟩
  go_upto_region 8 with (go_at_call 16; refine HRd.out.mono ?_; rintro e w5 ⟨g5, c5, rfl, ho, hb⟩; have H5 : Hid (OwnB w5 g5 c5 (one 65) ∧ Below w4.heap.size w4 w5) := ⟨ho, hb⟩; clear ho hb)
  have HCv : Hid (∀ wx, Below w5.heap.size w5 wx → (convert 40 9 (.slice (some ⟨g5, 0, none⟩) 512 c5)).run Tryz.prog wx = .ok (.string (strOfNums (one 65))) wx) := fun wx hb => str_opt (H5.out.1.bytes.on hb) (one_length _)
  have HD : Hid (Below w5.heap.size w5 w5.drew) := (Below.refl _ w5).drew
  have e0 := HCv.out _ HD.out
  have HCm : Hid (∀ wx, Below w5.heap.size w5 wx → Calls Tryz.prog 18 #[.pointer (some ⟨t0, 0, none⟩)] wx fun e w' => e = .returned (.int .i64 0) ∧ KnE w w' d0 t0) := fun wx hb => by
    obtain ⟨s1, s2, s3, s4⟩ := H4.out
    have sx := (s1.on H5.out.2).on hb
    have hn : T1.nb = 120 := by rw [← s1.nb]; exact H1.out.2.1.size
    have hl : lst T1.c T1.nb = [q] := by rw [s3, hn]; exact lst_one q 98 120 (by omega)
    have hF := H1.out.2.1
    have := ses_commit w wx D T1 sx (HTb.out _ sx.bel) (by rw [sx.nb, hn]; omega) (hF.room _ (by rw [hl]; simp))
    rw [s4] at this
    refine this.mono ?_
    rintro e w' ⟨r, E, rfl, hM, hd, ho, _, h2⟩
    obtain ⟨rfl, hE⟩ := h2 (by rw [hl]; simp)
    rw [hn] at hE hl ⊢
    have hR := hF.rest (by rw [bck_fr6 _ _ (by omega)]; rfl)
    obtain ⟨m1, ⟨ls, m2, m3⟩, m4, m5⟩ := commit_math hR (by have := sx.tx.ok; rw [hn] at this; exact this) (fun i q hq => (sx.tx.blk i q hq).len) (by omega) (by omega) (by rw [hl]; simp) (by rw [hl]; simp) hE
    refine ⟨by rw [m1], ⟨E, ls, hM, hd.trans H1.out.2.2, m2, ?_, ?_, ?_⟩, ho⟩
    · rw [m3 98 (by omega) (by omega), valC_some (q := q) (by rw [s3, ups_same]), s2]
    · have : E.abs.wr = 4 := by rw [m4, hF.wr, hl]; rfl
      exact this
    · have : E.abs.fl = 4 := by rw [m5, hF.fl]
      exact this
  clear HF HWr HRd
  go_cut [43] (fun s wx => s = .bool false ∧ KnE w wx d0 t0)
  case first =>
    refine wp_region_any (by as_aux_lemma => kernel_rfl) ?_
    try (change wpAny _ _ _ _ _ _ _ (World.drew _))
    refine wpAny_take (i := 0) (v := ?_) rfl (by as_aux_lemma => kernel_rfl) (by as_aux_lemma => kernel_rfl) (by as_aux_lemma => kernel_rfl) (fun _ _ _ h => h) (Or.inl ⟨by as_aux_lemma => kernel_rfl, ?_⟩) ?_
    rotate_left
    focus (intro w; go_simp; (try (with_reducible rfl)); done)
    go_simp
    refine wpAny_take (i := 1) (v := ?_) rfl (by as_aux_lemma => kernel_rfl) (by as_aux_lemma => kernel_rfl) (by as_aux_lemma => kernel_rfl) (fun _ _ _ h => h) (Or.inl ⟨by as_aux_lemma => kernel_rfl, ?_⟩) ?_
    rotate_left
    focus (intro w; go_simp; (try (with_reducible rfl)); done)
    go_simp
    refine wpAny_take (i := 2) (v := ?_) rfl (by as_aux_lemma => kernel_rfl) (by as_aux_lemma => kernel_rfl) (by as_aux_lemma => kernel_rfl) (fun _ _ _ h => h) (Or.inl ⟨by as_aux_lemma => kernel_rfl, ?_⟩) ?_
    rotate_left
    focus (intro w; go_simp; (try (with_reducible rfl)); done)
    go_simp
    refine wpAny_take (i := 3) (v := ?_) rfl (by as_aux_lemma => kernel_rfl) (by as_aux_lemma => kernel_rfl) (by as_aux_lemma => kernel_rfl) (fun _ _ _ h => h) (Or.inl ⟨by as_aux_lemma => kernel_rfl, ?_⟩) ?_
    rotate_left
    focus (intro w; go_simp; (try (with_reducible rfl)); done)
    go_simp
    refine wpAny_ready (rs := [4, 5]) (by as_aux_lemma => kernel_rfl) (by simp) ?_
    refine AllReady.cons rfl (fun K hK => ?_) ?_
    · go_simp
      try go_simp
      first
        | (refine hK _ _ ?_; clear hK K)
        | skip
      refine wpAny_ready (rs := [5]) (by as_aux_lemma => kernel_rfl) (by simp) ?_
      refine AllReady.cons rfl (fun K hK => ?_) ?_
      · (go_simp; go_at_call 17; refine (lblock_any _ 65 (by omega)).mono ?_; rintro e w6 ⟨rfl, ho, hb⟩; have H6 : Hid (Below w5.heap.size w5 w6) := HD.out.trans (hb.mono HD.out.size); have e1 := HCv.out _ H6.out; have e2 : (convert 40 9 (.slice (some ⟨w5.heap.size, 0, none⟩) 512 512)).run Tryz.prog w6 = .ok (.string (strOfNums (one 65))) w6 := str_opt ho.bytes (one_length _); clear ho hb)
        try go_simp
        first
          | (refine hK _ _ ?_; clear hK K)
          | skip
        refine wpAny_ready (rs := [6]) (by as_aux_lemma => kernel_rfl) (by simp) ?_
        refine AllReady.cons rfl (fun K hK => ?_) ?_
        · go_simp
          try go_simp
          first
            | (refine hK _ _ ?_; clear hK K)
            | skip
          refine wpAny_take (i := 7) (v := ?_) rfl (by as_aux_lemma => kernel_rfl) (by as_aux_lemma => kernel_rfl) (by as_aux_lemma => kernel_rfl) (fun _ _ _ h => h) (Or.inl ⟨by as_aux_lemma => kernel_rfl, ?_⟩) ?_
          rotate_left
          focus (intro w; go_simp; (try (with_reducible rfl)); done)
          go_simp
          refine wpAny_take (i := 8) (v := ?_) rfl (by as_aux_lemma => kernel_rfl) (by as_aux_lemma => kernel_rfl) (by as_aux_lemma => kernel_rfl) (fun _ _ _ h => h) (Or.inl ⟨by as_aux_lemma => kernel_rfl, ?_⟩) ?_
          rotate_left
          focus (intro w; go_simp; (try (with_reducible rfl)); done)
          go_simp
          refine wpAny_take (i := 9) (v := ?_) rfl (by as_aux_lemma => kernel_rfl) (by as_aux_lemma => kernel_rfl) (by as_aux_lemma => kernel_rfl) (fun _ _ _ h => h) (Or.inl ⟨by as_aux_lemma => kernel_rfl, ?_⟩) ?_
          rotate_left
          focus (intro w; go_simp; (try (with_reducible rfl)); done)
          go_simp
          refine wpAny_take (i := 10) (v := ?_) rfl (by as_aux_lemma => kernel_rfl) (by as_aux_lemma => kernel_rfl) (by as_aux_lemma => kernel_rfl) (fun _ _ _ h => h) (Or.inl ⟨by as_aux_lemma => kernel_rfl, ?_⟩) ?_
          rotate_left
          focus (intro w; go_simp; (try (with_reducible rfl)); done)
          go_simp
          refine wpAny_ready (rs := [11]) (by as_aux_lemma => kernel_rfl) (by simp) ?_
          refine AllReady.cons rfl (fun K hK => ?_) ?_
          · (go_simp; go_at_call 18; refine (HCm.out _ H6.out).mono ?_; rintro e w7 ⟨rfl, hx⟩; have H7 : Hid (KnE w w7 d0 t0) := hx; clear hx)
            try go_simp
            first
              | (refine hK _ _ ?_; clear hK K)
              | skip
            refine wpAny_take (i := 12) (v := ?_) rfl (by as_aux_lemma => kernel_rfl) (by as_aux_lemma => kernel_rfl) (by as_aux_lemma => kernel_rfl) (fun _ _ _ h => h) (Or.inl ⟨by as_aux_lemma => kernel_rfl, ?_⟩) ?_
            rotate_left
            focus (intro w; go_simp; (try (with_reducible rfl)); done)
            go_simp
            refine wpAny_take (i := 13) (v := ?_) rfl (by as_aux_lemma => kernel_rfl) (by as_aux_lemma => kernel_rfl) (by as_aux_lemma => kernel_rfl) (fun _ _ _ h => h) (Or.inl ⟨by as_aux_lemma => kernel_rfl, ?_⟩) ?_
            rotate_left
            focus (intro w; go_simp; (try (with_reducible rfl)); done)
            go_simp
            refine wpAny_take (i := 14) (v := ?_) rfl (by as_aux_lemma => kernel_rfl) (by as_aux_lemma => kernel_rfl) (by as_aux_lemma => kernel_rfl) (fun _ _ _ h => h) (Or.inl ⟨by as_aux_lemma => kernel_rfl, ?_⟩) ?_
            rotate_left
            focus (intro w; go_simp; (try (with_reducible rfl)); done)
            go_simp
            refine wpAny_take (i := 15) (v := ?_) rfl (by as_aux_lemma => kernel_rfl) (by as_aux_lemma => kernel_rfl) (by as_aux_lemma => kernel_rfl) (fun _ _ _ h => h) (Or.inl ⟨by as_aux_lemma => kernel_rfl, ?_⟩) ?_
            rotate_left
            focus (intro w; go_simp; (try (with_reducible rfl)); done)
            go_simp
            refine wpAny_ready (rs := [16]) (by as_aux_lemma => kernel_rfl) (by simp) ?_
            refine AllReady.cons rfl (fun K hK => ?_) ?_
            · (go_simp; go_at_call 24; refine (over_yes _ _ H7.out.over).mono ?_; rintro e w' ⟨rfl, rfl⟩)
              try go_simp
              first
                | (refine hK _ _ ?_; clear hK K)
                | skip
              refine wpAny_take (i := 17) (v := ?_) rfl (by as_aux_lemma => kernel_rfl) (by as_aux_lemma => kernel_rfl) (by as_aux_lemma => kernel_rfl) (fun _ _ _ h => h) (Or.inl ⟨by as_aux_lemma => kernel_rfl, ?_⟩) ?_
              rotate_left
              focus (intro w; go_simp; (try (with_reducible rfl)); done)
              go_simp
              refine wpAny_take (i := 18) (v := ?_) rfl (by as_aux_lemma => kernel_rfl) (by as_aux_lemma => kernel_rfl) (by as_aux_lemma => kernel_rfl) (fun _ _ _ h => h) (Or.inl ⟨by as_aux_lemma => kernel_rfl, ?_⟩) ?_
              rotate_left
              focus (intro w; go_simp; (try (with_reducible rfl)); done)
              go_simp
              refine wpAny_done (by kernel_rfl) ?_ _
              go_wp2
              go_meet
              case rel => exact ⟨by simp, H7.out⟩
            exact AllReady.nil
          exact AllReady.nil
        exact AllReady.nil
      exact AllReady.nil
    refine AllReady.cons rfl (fun K hK => ?_) ?_
    · (go_simp; go_at_call 17; refine (lblock_any _ 65 (by omega)).mono ?_; rintro e w6 ⟨rfl, ho, hb⟩; have H6 : Hid (Below w5.heap.size w5 w6) := HD.out.trans (hb.mono HD.out.size); have e1 := HCv.out _ H6.out; have e2 : (convert 40 9 (.slice (some ⟨w5.heap.size, 0, none⟩) 512 512)).run Tryz.prog w6 = .ok (.string (strOfNums (one 65))) w6 := str_opt ho.bytes (one_length _); clear ho hb)
      try go_simp
      first
        | (refine hK _ _ ?_; clear hK K)
        | skip
      refine wpAny_ready (rs := [4, 6]) (by as_aux_lemma => kernel_rfl) (by simp) ?_
      refine AllReady.cons rfl (fun K hK => ?_) ?_
      · go_simp
        try go_simp
        first
          | (refine hK _ _ ?_; clear hK K)
          | skip
        refine wpAny_ready (rs := [6]) (by as_aux_lemma => kernel_rfl) (by simp) ?_
        refine AllReady.cons rfl (fun K hK => ?_) ?_
        · go_simp
          try go_simp
          first
            | (refine hK _ _ ?_; clear hK K)
            | skip
          refine wpAny_take (i := 7) (v := ?_) rfl (by as_aux_lemma => kernel_rfl) (by as_aux_lemma => kernel_rfl) (by as_aux_lemma => kernel_rfl) (fun _ _ _ h => h) (Or.inl ⟨by as_aux_lemma => kernel_rfl, ?_⟩) ?_
          rotate_left
          focus (intro w; go_simp; (try (with_reducible rfl)); done)
          go_simp
          refine wpAny_take (i := 8) (v := ?_) rfl (by as_aux_lemma => kernel_rfl) (by as_aux_lemma => kernel_rfl) (by as_aux_lemma => kernel_rfl) (fun _ _ _ h => h) (Or.inl ⟨by as_aux_lemma => kernel_rfl, ?_⟩) ?_
          rotate_left
          focus (intro w; go_simp; (try (with_reducible rfl)); done)
          go_simp
          refine wpAny_take (i := 9) (v := ?_) rfl (by as_aux_lemma => kernel_rfl) (by as_aux_lemma => kernel_rfl) (by as_aux_lemma => kernel_rfl) (fun _ _ _ h => h) (Or.inl ⟨by as_aux_lemma => kernel_rfl, ?_⟩) ?_
          rotate_left
          focus (intro w; go_simp; (try (with_reducible rfl)); done)
          go_simp
          refine wpAny_take (i := 10) (v := ?_) rfl (by as_aux_lemma => kernel_rfl) (by as_aux_lemma => kernel_rfl) (by as_aux_lemma => kernel_rfl) (fun _ _ _ h => h) (Or.inl ⟨by as_aux_lemma => kernel_rfl, ?_⟩) ?_
          rotate_left
          focus (intro w; go_simp; (try (with_reducible rfl)); done)
          go_simp
          refine wpAny_ready (rs := [11]) (by as_aux_lemma => kernel_rfl) (by simp) ?_
          refine AllReady.cons rfl (fun K hK => ?_) ?_
          · (go_simp; go_at_call 18; refine (HCm.out _ H6.out).mono ?_; rintro e w7 ⟨rfl, hx⟩; have H7 : Hid (KnE w w7 d0 t0) := hx; clear hx)
            try go_simp
            first
              | (refine hK _ _ ?_; clear hK K)
              | skip
            refine wpAny_take (i := 12) (v := ?_) rfl (by as_aux_lemma => kernel_rfl) (by as_aux_lemma => kernel_rfl) (by as_aux_lemma => kernel_rfl) (fun _ _ _ h => h) (Or.inl ⟨by as_aux_lemma => kernel_rfl, ?_⟩) ?_
            rotate_left
            focus (intro w; go_simp; (try (with_reducible rfl)); done)
            go_simp
            refine wpAny_take (i := 13) (v := ?_) rfl (by as_aux_lemma => kernel_rfl) (by as_aux_lemma => kernel_rfl) (by as_aux_lemma => kernel_rfl) (fun _ _ _ h => h) (Or.inl ⟨by as_aux_lemma => kernel_rfl, ?_⟩) ?_
            rotate_left
            focus (intro w; go_simp; (try (with_reducible rfl)); done)
            go_simp
            refine wpAny_take (i := 14) (v := ?_) rfl (by as_aux_lemma => kernel_rfl) (by as_aux_lemma => kernel_rfl) (by as_aux_lemma => kernel_rfl) (fun _ _ _ h => h) (Or.inl ⟨by as_aux_lemma => kernel_rfl, ?_⟩) ?_
            rotate_left
            focus (intro w; go_simp; (try (with_reducible rfl)); done)
            go_simp
            refine wpAny_take (i := 15) (v := ?_) rfl (by as_aux_lemma => kernel_rfl) (by as_aux_lemma => kernel_rfl) (by as_aux_lemma => kernel_rfl) (fun _ _ _ h => h) (Or.inl ⟨by as_aux_lemma => kernel_rfl, ?_⟩) ?_
            rotate_left
            focus (intro w; go_simp; (try (with_reducible rfl)); done)
            go_simp
            refine wpAny_ready (rs := [16]) (by as_aux_lemma => kernel_rfl) (by simp) ?_
            refine AllReady.cons rfl (fun K hK => ?_) ?_
            · (go_simp; go_at_call 24; refine (over_yes _ _ H7.out.over).mono ?_; rintro e w' ⟨rfl, rfl⟩)
              try go_simp
              first
                | (refine hK _ _ ?_; clear hK K)
                | skip
              refine wpAny_take (i := 17) (v := ?_) rfl (by as_aux_lemma => kernel_rfl) (by as_aux_lemma => kernel_rfl) (by as_aux_lemma => kernel_rfl) (fun _ _ _ h => h) (Or.inl ⟨by as_aux_lemma => kernel_rfl, ?_⟩) ?_
              rotate_left
              focus (intro w; go_simp; (try (with_reducible rfl)); done)
              go_simp
              refine wpAny_take (i := 18) (v := ?_) rfl (by as_aux_lemma => kernel_rfl) (by as_aux_lemma => kernel_rfl) (by as_aux_lemma => kernel_rfl) (fun _ _ _ h => h) (Or.inl ⟨by as_aux_lemma => kernel_rfl, ?_⟩) ?_
              rotate_left
              focus (intro w; go_simp; (try (with_reducible rfl)); done)
              go_simp
              refine wpAny_done (by kernel_rfl) ?_ _
              go_wp2
              go_meet
              case rel => exact ⟨by simp, H7.out⟩
            exact AllReady.nil
          exact AllReady.nil
        exact AllReady.nil
      refine AllReady.cons rfl (fun K hK => ?_) ?_
      · go_simp
        try go_simp
        first
          | (refine hK _ _ ?_; clear hK K)
          | skip
        refine wpAny_ready (rs := [4]) (by as_aux_lemma => kernel_rfl) (by simp) ?_
        refine AllReady.cons rfl (fun K hK => ?_) ?_
        · go_simp
          try go_simp
          first
            | (refine hK _ _ ?_; clear hK K)
            | skip
          refine wpAny_take (i := 7) (v := ?_) rfl (by as_aux_lemma => kernel_rfl) (by as_aux_lemma => kernel_rfl) (by as_aux_lemma => kernel_rfl) (fun _ _ _ h => h) (Or.inl ⟨by as_aux_lemma => kernel_rfl, ?_⟩) ?_
          rotate_left
          focus (intro w; go_simp; (try (with_reducible rfl)); done)
          go_simp
          refine wpAny_take (i := 8) (v := ?_) rfl (by as_aux_lemma => kernel_rfl) (by as_aux_lemma => kernel_rfl) (by as_aux_lemma => kernel_rfl) (fun _ _ _ h => h) (Or.inl ⟨by as_aux_lemma => kernel_rfl, ?_⟩) ?_
          rotate_left
          focus (intro w; go_simp; (try (with_reducible rfl)); done)
          go_simp
          refine wpAny_take (i := 9) (v := ?_) rfl (by as_aux_lemma => kernel_rfl) (by as_aux_lemma => kernel_rfl) (by as_aux_lemma => kernel_rfl) (fun _ _ _ h => h) (Or.inl ⟨by as_aux_lemma => kernel_rfl, ?_⟩) ?_
          rotate_left
          focus (intro w; go_simp; (try (with_reducible rfl)); done)
          go_simp
          refine wpAny_take (i := 10) (v := ?_) rfl (by as_aux_lemma => kernel_rfl) (by as_aux_lemma => kernel_rfl) (by as_aux_lemma => kernel_rfl) (fun _ _ _ h => h) (Or.inl ⟨by as_aux_lemma => kernel_rfl, ?_⟩) ?_
          rotate_left
          focus (intro w; go_simp; (try (with_reducible rfl)); done)
          go_simp
          refine wpAny_ready (rs := [11]) (by as_aux_lemma => kernel_rfl) (by simp) ?_
          refine AllReady.cons rfl (fun K hK => ?_) ?_
          · (go_simp; go_at_call 18; refine (HCm.out _ H6.out).mono ?_; rintro e w7 ⟨rfl, hx⟩; have H7 : Hid (KnE w w7 d0 t0) := hx; clear hx)
            try go_simp
            first
              | (refine hK _ _ ?_; clear hK K)
              | skip
            refine wpAny_take (i := 12) (v := ?_) rfl (by as_aux_lemma => kernel_rfl) (by as_aux_lemma => kernel_rfl) (by as_aux_lemma => kernel_rfl) (fun _ _ _ h => h) (Or.inl ⟨by as_aux_lemma => kernel_rfl, ?_⟩) ?_
            rotate_left
            focus (intro w; go_simp; (try (with_reducible rfl)); done)
            go_simp
            refine wpAny_take (i := 13) (v := ?_) rfl (by as_aux_lemma => kernel_rfl) (by as_aux_lemma => kernel_rfl) (by as_aux_lemma => kernel_rfl) (fun _ _ _ h => h) (Or.inl ⟨by as_aux_lemma => kernel_rfl, ?_⟩) ?_
            rotate_left
            focus (intro w; go_simp; (try (with_reducible rfl)); done)
            go_simp
            refine wpAny_take (i := 14) (v := ?_) rfl (by as_aux_lemma => kernel_rfl) (by as_aux_lemma => kernel_rfl) (by as_aux_lemma => kernel_rfl) (fun _ _ _ h => h) (Or.inl ⟨by as_aux_lemma => kernel_rfl, ?_⟩) ?_
            rotate_left
            focus (intro w; go_simp; (try (with_reducible rfl)); done)
            go_simp
            refine wpAny_take (i := 15) (v := ?_) rfl (by as_aux_lemma => kernel_rfl) (by as_aux_lemma => kernel_rfl) (by as_aux_lemma => kernel_rfl) (fun _ _ _ h => h) (Or.inl ⟨by as_aux_lemma => kernel_rfl, ?_⟩) ?_
            rotate_left
            focus (intro w; go_simp; (try (with_reducible rfl)); done)
            go_simp
            refine wpAny_ready (rs := [16]) (by as_aux_lemma => kernel_rfl) (by simp) ?_
            refine AllReady.cons rfl (fun K hK => ?_) ?_
            · (go_simp; go_at_call 24; refine (over_yes _ _ H7.out.over).mono ?_; rintro e w' ⟨rfl, rfl⟩)
              try go_simp
              first
                | (refine hK _ _ ?_; clear hK K)
                | skip
              refine wpAny_take (i := 17) (v := ?_) rfl (by as_aux_lemma => kernel_rfl) (by as_aux_lemma => kernel_rfl) (by as_aux_lemma => kernel_rfl) (fun _ _ _ h => h) (Or.inl ⟨by as_aux_lemma => kernel_rfl, ?_⟩) ?_
              rotate_left
              focus (intro w; go_simp; (try (with_reducible rfl)); done)
              go_simp
              refine wpAny_take (i := 18) (v := ?_) rfl (by as_aux_lemma => kernel_rfl) (by as_aux_lemma => kernel_rfl) (by as_aux_lemma => kernel_rfl) (fun _ _ _ h => h) (Or.inl ⟨by as_aux_lemma => kernel_rfl, ?_⟩) ?_
              rotate_left
              focus (intro w; go_simp; (try (with_reducible rfl)); done)
              go_simp
              refine wpAny_done (by kernel_rfl) ?_ _
              go_wp2
              go_meet
              case rel => exact ⟨by simp, H7.out⟩
            exact AllReady.nil
          exact AllReady.nil
        exact AllReady.nil
      exact AllReady.nil
    exact AllReady.nil
  case rest =>
  obtain ⟨rfl, hk⟩ := hcut
  obtain ⟨E, ls, k1, k2, k3, k4, k5, k6⟩ := hk.dk
  have HE : Hid (Mine w wc E ∧ Rest E.abs 120 ls ∧ bck ls 98 = one 65) := ⟨k1, k3, k4⟩
  have HRd : Hid (Calls Tryz.prog 19 #[.pointer (some ⟨d0, 0, none⟩), .int .i64 98] wc fun e w' => ∃ g cap, e = .returned (.tuple #[.slice (some ⟨g, 0, none⟩) 512 cap, .int .i64 0]) ∧ wc.heap.size ≤ g ∧ OwnB w' g cap (one 65) ∧ Below wc.heap.size wc w') := by
    have hn : E.nb = 120 := k3.size
    have := read_yes wc E k1.disk 98 (by omega) k3.down
    rw [k3.fullD, k4, k2] at this
    exact this
  have HSt : Hid (∀ wx, Below wc.heap.size wc wx → Calls Tryz.prog 20 #[.pointer (some ⟨d0, 0, none⟩)] wx fun e w' => e = .returned (.tuple #[.int .i64 4, .int .i64 4]) ∧ Below wx.heap.size wx w') := fun wx hb => by
    have := steps_any wx E (k1.disk.on hb)
    rw [k5, k6, k2] at this
    exact this
  clear k1 k2 k3 k4 k5 k6 hk
  go_upto_region 12 with (first
    | (go_at_call 19; refine HRd.out.mono ?_; rintro e w8 ⟨g8, c8, rfl, _, ho, hb⟩; have H8 : Hid (OwnB w8 g8 c8 (one 65) ∧ Below wc.heap.size wc w8) := ⟨ho, hb⟩; clear ho hb)
    | (go_at_call 20; refine (HSt.out _ H8.out.2).mono ?_; rintro e w9 ⟨rfl, hb⟩; have H9a : Hid (Below w8.heap.size w8 w9) := hb; clear hb))
  have H9 : Hid (Below w.heap.size w w9) := HE.out.1.bel.trans ((H8.out.2.trans (H9a.out.mono H8.out.2.size)).mono HE.out.1.bel.size)
  have HCv : Hid (∀ wx, Below w9.heap.size w9 wx → (convert 40 9 (.slice (some ⟨g8, 0, none⟩) 512 c8)).run Tryz.prog wx = .ok (.string (strOfNums (one 65))) wx) := fun wx hb => str_opt ((H8.out.1.bytes.on H9a.out).on hb) (one_length _)
  have HD : Hid (Below w9.heap.size w9 w9.drew) := (Below.refl _ w9).drew
  have e0 := HCv.out _ HD.out
  refine wp_region_any (by as_aux_lemma => kernel_rfl) ?_
  try (change wpAny _ _ _ _ _ _ _ (World.drew _))
  refine wpAny_take (i := 0) (v := ?_) rfl (by as_aux_lemma => kernel_rfl) (by as_aux_lemma => kernel_rfl) (by as_aux_lemma => kernel_rfl) (fun _ _ _ h => h) (Or.inl ⟨by as_aux_lemma => kernel_rfl, ?_⟩) ?_
  rotate_left
  focus (intro w; go_simp; (try (with_reducible rfl)); done)
  go_simp
  refine wpAny_take (i := 1) (v := ?_) rfl (by as_aux_lemma => kernel_rfl) (by as_aux_lemma => kernel_rfl) (by as_aux_lemma => kernel_rfl) (fun _ _ _ h => h) (Or.inl ⟨by as_aux_lemma => kernel_rfl, ?_⟩) ?_
  rotate_left
  focus (intro w; go_simp; (try (with_reducible rfl)); done)
  go_simp
  refine wpAny_take (i := 2) (v := ?_) rfl (by as_aux_lemma => kernel_rfl) (by as_aux_lemma => kernel_rfl) (by as_aux_lemma => kernel_rfl) (fun _ _ _ h => h) (Or.inl ⟨by as_aux_lemma => kernel_rfl, ?_⟩) ?_
  rotate_left
  focus (intro w; go_simp; (try (with_reducible rfl)); done)
  go_simp
  refine wpAny_take (i := 3) (v := ?_) rfl (by as_aux_lemma => kernel_rfl) (by as_aux_lemma => kernel_rfl) (by as_aux_lemma => kernel_rfl) (fun _ _ _ h => h) (Or.inl ⟨by as_aux_lemma => kernel_rfl, ?_⟩) ?_
  rotate_left
  focus (intro w; go_simp; (try (with_reducible rfl)); done)
  go_simp
  refine wpAny_ready (rs := [4, 5]) (by as_aux_lemma => kernel_rfl) (by simp) ?_
  refine AllReady.cons rfl (fun K hK => ?_) ?_
  · go_simp
    try go_simp
    first
      | (refine hK _ _ ?_; clear hK K)
      | skip
    refine wpAny_ready (rs := [5]) (by as_aux_lemma => kernel_rfl) (by simp) ?_
    refine AllReady.cons rfl (fun K hK => ?_) ?_
    · (go_simp; go_at_call 17; refine (lblock_any _ 65 (by omega)).mono ?_; rintro e w10 ⟨rfl, ho, hb⟩; have H10 : Hid (Below w9.heap.size w9 w10) := HD.out.trans (hb.mono HD.out.size); have e1 := HCv.out _ H10.out; have e2 : (convert 40 9 (.slice (some ⟨w9.heap.size, 0, none⟩) 512 512)).run Tryz.prog w10 = .ok (.string (strOfNums (one 65))) w10 := str_opt ho.bytes (one_length _); clear ho hb)
      try go_simp
      first
        | (refine hK _ _ ?_; clear hK K)
        | skip
      refine wpAny_ready (rs := [6]) (by as_aux_lemma => kernel_rfl) (by simp) ?_
      refine AllReady.cons rfl (fun K hK => ?_) ?_
      · go_simp
        try go_simp
        first
          | (refine hK _ _ ?_; clear hK K)
          | skip
        refine wpAny_take (i := 7) (v := ?_) rfl (by as_aux_lemma => kernel_rfl) (by as_aux_lemma => kernel_rfl) (by as_aux_lemma => kernel_rfl) (fun _ _ _ h => h) (Or.inl ⟨by as_aux_lemma => kernel_rfl, ?_⟩) ?_
        rotate_left
        focus (intro w; go_simp; (try (with_reducible rfl)); done)
        go_simp
        refine wpAny_take (i := 8) (v := ?_) rfl (by as_aux_lemma => kernel_rfl) (by as_aux_lemma => kernel_rfl) (by as_aux_lemma => kernel_rfl) (fun _ _ _ h => h) (Or.inl ⟨by as_aux_lemma => kernel_rfl, ?_⟩) ?_
        rotate_left
        focus (intro w; go_simp; (try (with_reducible rfl)); done)
        go_simp
        refine wpAny_take (i := 9) (v := ?_) rfl (by as_aux_lemma => kernel_rfl) (by as_aux_lemma => kernel_rfl) (by as_aux_lemma => kernel_rfl) (fun _ _ _ h => h) (Or.inl ⟨by as_aux_lemma => kernel_rfl, ?_⟩) ?_
        rotate_left
        focus (intro w; go_simp; (try (with_reducible rfl)); done)
        go_simp
        refine wpAny_take (i := 10) (v := ?_) rfl (by as_aux_lemma => kernel_rfl) (by as_aux_lemma => kernel_rfl) (by as_aux_lemma => kernel_rfl) (fun _ _ _ h => h) (Or.inl ⟨by as_aux_lemma => kernel_rfl, ?_⟩) ?_
        rotate_left
        focus (intro w; go_simp; (try (with_reducible rfl)); done)
        go_simp
        refine wpAny_take (i := 11) (v := ?_) rfl (by as_aux_lemma => kernel_rfl) (by as_aux_lemma => kernel_rfl) (by as_aux_lemma => kernel_rfl) (fun _ _ _ h => h) (Or.inl ⟨by as_aux_lemma => kernel_rfl, ?_⟩) ?_
        rotate_left
        focus (intro w; go_simp; (try (with_reducible rfl)); done)
        go_simp
        refine wpAny_take (i := 12) (v := ?_) rfl (by as_aux_lemma => kernel_rfl) (by as_aux_lemma => kernel_rfl) (by as_aux_lemma => kernel_rfl) (fun _ _ _ h => h) (Or.inl ⟨by as_aux_lemma => kernel_rfl, ?_⟩) ?_
        rotate_left
        focus (intro w; go_simp; (try (with_reducible rfl)); done)
        go_simp
        refine wpAny_take (i := 13) (v := ?_) rfl (by as_aux_lemma => kernel_rfl) (by as_aux_lemma => kernel_rfl) (by as_aux_lemma => kernel_rfl) (fun _ _ _ h => h) (Or.inl ⟨by as_aux_lemma => kernel_rfl, ?_⟩) ?_
        rotate_left
        focus (intro w; go_simp; (try (with_reducible rfl)); done)
        go_simp
        refine wpAny_take (i := 14) (v := ?_) rfl (by as_aux_lemma => kernel_rfl) (by as_aux_lemma => kernel_rfl) (by as_aux_lemma => kernel_rfl) (fun _ _ _ h => h) (Or.inl ⟨by as_aux_lemma => kernel_rfl, ?_⟩) ?_
        rotate_left
        focus (intro w; go_simp; (try (with_reducible rfl)); done)
        go_simp
        refine wpAny_take (i := 15) (v := ?_) rfl (by as_aux_lemma => kernel_rfl) (by as_aux_lemma => kernel_rfl) (by as_aux_lemma => kernel_rfl) (fun _ _ _ h => h) (Or.inl ⟨by as_aux_lemma => kernel_rfl, ?_⟩) ?_
        rotate_left
        focus (intro w; go_simp; (try (with_reducible rfl)); done)
        go_simp
        refine wpAny_take (i := 16) (v := ?_) rfl (by as_aux_lemma => kernel_rfl) (by as_aux_lemma => kernel_rfl) (by as_aux_lemma => kernel_rfl) (fun _ _ _ h => h) (Or.inl ⟨by as_aux_lemma => kernel_rfl, ?_⟩) ?_
        rotate_left
        focus (intro w; go_simp; (try (with_reducible rfl)); done)
        go_simp
        refine wpAny_take (i := 17) (v := ?_) rfl (by as_aux_lemma => kernel_rfl) (by as_aux_lemma => kernel_rfl) (by as_aux_lemma => kernel_rfl) (fun _ _ _ h => h) (Or.inl ⟨by as_aux_lemma => kernel_rfl, ?_⟩) ?_
        rotate_left
        focus (intro w; go_simp; (try (with_reducible rfl)); done)
        go_simp
        refine wpAny_done (by kernel_rfl) ?_ _
        go_wp2
        go_ret
        exact ⟨by simp, H9.out.trans (H10.out.mono H9.out.size)⟩
      exact AllReady.nil
    exact AllReady.nil
  refine AllReady.cons rfl (fun K hK => ?_) ?_
  · (go_simp; go_at_call 17; refine (lblock_any _ 65 (by omega)).mono ?_; rintro e w10 ⟨rfl, ho, hb⟩; have H10 : Hid (Below w9.heap.size w9 w10) := HD.out.trans (hb.mono HD.out.size); have e1 := HCv.out _ H10.out; have e2 : (convert 40 9 (.slice (some ⟨w9.heap.size, 0, none⟩) 512 512)).run Tryz.prog w10 = .ok (.string (strOfNums (one 65))) w10 := str_opt ho.bytes (one_length _); clear ho hb)
    try go_simp
    first
      | (refine hK _ _ ?_; clear hK K)
      | skip
    refine wpAny_ready (rs := [4, 6]) (by as_aux_lemma => kernel_rfl) (by simp) ?_
    refine AllReady.cons rfl (fun K hK => ?_) ?_
    · go_simp
      try go_simp
      first
        | (refine hK _ _ ?_; clear hK K)
        | skip
      refine wpAny_ready (rs := [6]) (by as_aux_lemma => kernel_rfl) (by simp) ?_
      refine AllReady.cons rfl (fun K hK => ?_) ?_
      · go_simp
        try go_simp
        first
          | (refine hK _ _ ?_; clear hK K)
          | skip
        refine wpAny_take (i := 7) (v := ?_) rfl (by as_aux_lemma => kernel_rfl) (by as_aux_lemma => kernel_rfl) (by as_aux_lemma => kernel_rfl) (fun _ _ _ h => h) (Or.inl ⟨by as_aux_lemma => kernel_rfl, ?_⟩) ?_
        rotate_left
        focus (intro w; go_simp; (try (with_reducible rfl)); done)
        go_simp
        refine wpAny_take (i := 8) (v := ?_) rfl (by as_aux_lemma => kernel_rfl) (by as_aux_lemma => kernel_rfl) (by as_aux_lemma => kernel_rfl) (fun _ _ _ h => h) (Or.inl ⟨by as_aux_lemma => kernel_rfl, ?_⟩) ?_
        rotate_left
        focus (intro w; go_simp; (try (with_reducible rfl)); done)
        go_simp
        refine wpAny_take (i := 9) (v := ?_) rfl (by as_aux_lemma => kernel_rfl) (by as_aux_lemma => kernel_rfl) (by as_aux_lemma => kernel_rfl) (fun _ _ _ h => h) (Or.inl ⟨by as_aux_lemma => kernel_rfl, ?_⟩) ?_
        rotate_left
        focus (intro w; go_simp; (try (with_reducible rfl)); done)
        go_simp
        refine wpAny_take (i := 10) (v := ?_) rfl (by as_aux_lemma => kernel_rfl) (by as_aux_lemma => kernel_rfl) (by as_aux_lemma => kernel_rfl) (fun _ _ _ h => h) (Or.inl ⟨by as_aux_lemma => kernel_rfl, ?_⟩) ?_
        rotate_left
        focus (intro w; go_simp; (try (with_reducible rfl)); done)
        go_simp
        refine wpAny_take (i := 11) (v := ?_) rfl (by as_aux_lemma => kernel_rfl) (by as_aux_lemma => kernel_rfl) (by as_aux_lemma => kernel_rfl) (fun _ _ _ h => h) (Or.inl ⟨by as_aux_lemma => kernel_rfl, ?_⟩) ?_
        rotate_left
        focus (intro w; go_simp; (try (with_reducible rfl)); done)
        go_simp
        refine wpAny_take (i := 12) (v := ?_) rfl (by as_aux_lemma => kernel_rfl) (by as_aux_lemma => kernel_rfl) (by as_aux_lemma => kernel_rfl) (fun _ _ _ h => h) (Or.inl ⟨by as_aux_lemma => kernel_rfl, ?_⟩) ?_
        rotate_left
        focus (intro w; go_simp; (try (with_reducible rfl)); done)
        go_simp
        refine wpAny_take (i := 13) (v := ?_) rfl (by as_aux_lemma => kernel_rfl) (by as_aux_lemma => kernel_rfl) (by as_aux_lemma => kernel_rfl) (fun _ _ _ h => h) (Or.inl ⟨by as_aux_lemma => kernel_rfl, ?_⟩) ?_
        rotate_left
        focus (intro w; go_simp; (try (with_reducible rfl)); done)
        go_simp
        refine wpAny_take (i := 14) (v := ?_) rfl (by as_aux_lemma => kernel_rfl) (by as_aux_lemma => kernel_rfl) (by as_aux_lemma => kernel_rfl) (fun _ _ _ h => h) (Or.inl ⟨by as_aux_lemma => kernel_rfl, ?_⟩) ?_
        rotate_left
        focus (intro w; go_simp; (try (with_reducible rfl)); done)
        go_simp
        refine wpAny_take (i := 15) (v := ?_) rfl (by as_aux_lemma => kernel_rfl) (by as_aux_lemma => kernel_rfl) (by as_aux_lemma => kernel_rfl) (fun _ _ _ h => h) (Or.inl ⟨by as_aux_lemma => kernel_rfl, ?_⟩) ?_
        rotate_left
        focus (intro w; go_simp; (try (with_reducible rfl)); done)
        go_simp
        refine wpAny_take (i := 16) (v := ?_) rfl (by as_aux_lemma => kernel_rfl) (by as_aux_lemma => kernel_rfl) (by as_aux_lemma => kernel_rfl) (fun _ _ _ h => h) (Or.inl ⟨by as_aux_lemma => kernel_rfl, ?_⟩) ?_
        rotate_left
        focus (intro w; go_simp; (try (with_reducible rfl)); done)
        go_simp
        refine wpAny_take (i := 17) (v := ?_) rfl (by as_aux_lemma => kernel_rfl) (by as_aux_lemma => kernel_rfl) (by as_aux_lemma => kernel_rfl) (fun _ _ _ h => h) (Or.inl ⟨by as_aux_lemma => kernel_rfl, ?_⟩) ?_
        rotate_left
        focus (intro w; go_simp; (try (with_reducible rfl)); done)
        go_simp
        refine wpAny_done (by kernel_rfl) ?_ _
        go_wp2
        go_ret
        exact ⟨by simp, H9.out.trans (H10.out.mono H9.out.size)⟩
      exact AllReady.nil
    refine AllReady.cons rfl (fun K hK => ?_) ?_
    · go_simp
      try go_simp
      first
        | (refine hK _ _ ?_; clear hK K)
        | skip
      refine wpAny_ready (rs := [4]) (by as_aux_lemma => kernel_rfl) (by simp) ?_
      refine AllReady.cons rfl (fun K hK => ?_) ?_
      · go_simp
        try go_simp
        first
          | (refine hK _ _ ?_; clear hK K)
          | skip
        refine wpAny_take (i := 7) (v := ?_) rfl (by as_aux_lemma => kernel_rfl) (by as_aux_lemma => kernel_rfl) (by as_aux_lemma => kernel_rfl) (fun _ _ _ h => h) (Or.inl ⟨by as_aux_lemma => kernel_rfl, ?_⟩) ?_
        rotate_left
        focus (intro w; go_simp; (try (with_reducible rfl)); done)
        go_simp
        refine wpAny_take (i := 8) (v := ?_) rfl (by as_aux_lemma => kernel_rfl) (by as_aux_lemma => kernel_rfl) (by as_aux_lemma => kernel_rfl) (fun _ _ _ h => h) (Or.inl ⟨by as_aux_lemma => kernel_rfl, ?_⟩) ?_
        rotate_left
        focus (intro w; go_simp; (try (with_reducible rfl)); done)
        go_simp
        refine wpAny_take (i := 9) (v := ?_) rfl (by as_aux_lemma => kernel_rfl) (by as_aux_lemma => kernel_rfl) (by as_aux_lemma => kernel_rfl) (fun _ _ _ h => h) (Or.inl ⟨by as_aux_lemma => kernel_rfl, ?_⟩) ?_
        rotate_left
        focus (intro w; go_simp; (try (with_reducible rfl)); done)
        go_simp
        refine wpAny_take (i := 10) (v := ?_) rfl (by as_aux_lemma => kernel_rfl) (by as_aux_lemma => kernel_rfl) (by as_aux_lemma => kernel_rfl) (fun _ _ _ h => h) (Or.inl ⟨by as_aux_lemma => kernel_rfl, ?_⟩) ?_
        rotate_left
        focus (intro w; go_simp; (try (with_reducible rfl)); done)
        go_simp
        refine wpAny_take (i := 11) (v := ?_) rfl (by as_aux_lemma => kernel_rfl) (by as_aux_lemma => kernel_rfl) (by as_aux_lemma => kernel_rfl) (fun _ _ _ h => h) (Or.inl ⟨by as_aux_lemma => kernel_rfl, ?_⟩) ?_
        rotate_left
        focus (intro w; go_simp; (try (with_reducible rfl)); done)
        go_simp
        refine wpAny_take (i := 12) (v := ?_) rfl (by as_aux_lemma => kernel_rfl) (by as_aux_lemma => kernel_rfl) (by as_aux_lemma => kernel_rfl) (fun _ _ _ h => h) (Or.inl ⟨by as_aux_lemma => kernel_rfl, ?_⟩) ?_
        rotate_left
        focus (intro w; go_simp; (try (with_reducible rfl)); done)
        go_simp
        refine wpAny_take (i := 13) (v := ?_) rfl (by as_aux_lemma => kernel_rfl) (by as_aux_lemma => kernel_rfl) (by as_aux_lemma => kernel_rfl) (fun _ _ _ h => h) (Or.inl ⟨by as_aux_lemma => kernel_rfl, ?_⟩) ?_
        rotate_left
        focus (intro w; go_simp; (try (with_reducible rfl)); done)
        go_simp
        refine wpAny_take (i := 14) (v := ?_) rfl (by as_aux_lemma => kernel_rfl) (by as_aux_lemma => kernel_rfl) (by as_aux_lemma => kernel_rfl) (fun _ _ _ h => h) (Or.inl ⟨by as_aux_lemma => kernel_rfl, ?_⟩) ?_
        rotate_left
        focus (intro w; go_simp; (try (with_reducible rfl)); done)
        go_simp
        refine wpAny_take (i := 15) (v := ?_) rfl (by as_aux_lemma => kernel_rfl) (by as_aux_lemma => kernel_rfl) (by as_aux_lemma => kernel_rfl) (fun _ _ _ h => h) (Or.inl ⟨by as_aux_lemma => kernel_rfl, ?_⟩) ?_
        rotate_left
        focus (intro w; go_simp; (try (with_reducible rfl)); done)
        go_simp
        refine wpAny_take (i := 16) (v := ?_) rfl (by as_aux_lemma => kernel_rfl) (by as_aux_lemma => kernel_rfl) (by as_aux_lemma => kernel_rfl) (fun _ _ _ h => h) (Or.inl ⟨by as_aux_lemma => kernel_rfl, ?_⟩) ?_
        rotate_left
        focus (intro w; go_simp; (try (with_reducible rfl)); done)
        go_simp
        refine wpAny_take (i := 17) (v := ?_) rfl (by as_aux_lemma => kernel_rfl) (by as_aux_lemma => kernel_rfl) (by as_aux_lemma => kernel_rfl) (fun _ _ _ h => h) (Or.inl ⟨by as_aux_lemma => kernel_rfl, ?_⟩) ?_
        rotate_left
        focus (intro w; go_simp; (try (with_reducible rfl)); done)
        go_simp
        refine wpAny_done (by kernel_rfl) ?_ _
        go_wp2
        go_ret
        exact ⟨by simp, H9.out.trans (H10.out.mono H9.out.size)⟩
      exact AllReady.nil
    exact AllReady.nil
  exact AllReady.nil
end Go.Proofs.YtcdggcdkjooohaaGreatDoor
