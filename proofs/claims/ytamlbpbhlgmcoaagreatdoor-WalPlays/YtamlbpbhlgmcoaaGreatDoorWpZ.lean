import Derived.Test.YtamlbpbhlgmcoaaGreatDoorWpY
namespace Go.Proofs.YtamlbpbhlgmcoaaGreatDoor
open Go.RowKit Rec
set_option maxRecDepth 100000 in
set_option maxHeartbeats 16000000 in
theorem walPlays_any (w : World) (x : Int) (a : Option Addr) (m c : Nat) (L : List OpR) (hL : SrAt w a L) (hm : L.length = m) (_hmb : m ≤ 140737488351232) (hT : TabAt w) :
    Calls Tryz.prog 3 #[.int .i64 x, .slice a m c] w fun e w' => e = .returned (.bool true) ∧ Below w.heap.size w w' := by
  have HL : Hid (SrAt w a L ∧ L.length = m) := ⟨hL, hm⟩
  have HT : Hid (TabAt w) := hT
  clear hL hm hT
  obtain ⟨nb, hnb⟩ : ∃ nb : Nat, 90 + x % 50 = (nb : Int) := ⟨(90 + x % 50).toNat, by omega⟩
  have hnb0 : 1 ≤ nb := by omega
  have hnb1 : nb ≤ 16384 := by omega
  obtain ⟨xm, hxm⟩ : ∃ xm, x % 50 = xm := ⟨_, rfl⟩
  rw [hxm] at hnb
  have HM : Hid (∀ wx, Calls Tryz.prog 5 #[.int .i64 x, .int .i64 50] wx fun e w' => e = .returned (.int .i64 xm) ∧ wx = w') := fun wx => by
    have := wmod_any wx x 50 (by omega) (by omega); rw [show (x % ((50 : Nat) : Int)) = xm from hxm] at this; exact this
  have hx0 : 0 ≤ xm := by omega
  have hx1 : xm < 50 := by omega
  clear hxm
  have E1 := eql_ptr1
  go_enter Tryz.func3, Tryz.ntmps3
  go_upto_region 3 with (go_at_call 4; refine (fixed_any w HT.out).mono ?_; rintro e w1 ⟨rfl, hb⟩; have H1 : Hid (Below w.heap.size w w1) := hb; clear hb)
  go_upto_region 4 with (go_at_call 5; refine (HM.out _).mono ?_; rintro e w' ⟨rfl, rfl⟩)
  clear hnb hx0 hx1
  go_upto_region 5 with (go_at_call 6; refine (new_yes w1 nb hnb0 hnb1).mono ?_; rintro e w2 ⟨d2, nw, L2, capL, rfl, hd, hnw, hL2, hD, hb2⟩; have H2 : Hid ((w1.heap.size ≤ d2 ∧ w1.heap.size ≤ nw ∧ w1.heap.size ≤ L2) ∧ Disk w2 (newDk d2 L2 nw capL nb (zsA (512 * nb))) ∧ Below w1.heap.size w1 w2) := ⟨⟨hd, hnw, hL2⟩, hD, hb2⟩; clear hd hnw hL2 hD hb2)
  go_upto_region 6 with (go_at_call 7; refine (rnew_yes w2 nb hnb0 hnb1).mono ?_; rintro e w4 ⟨r2, g4, cap4, rfl, hr, hg, hR, hb⟩; have H4 : Hid ((w2.heap.size ≤ r2 ∧ w2.heap.size ≤ g4) ∧ RDisk w4 (newR r2 nb g4 cap4 (zsA (512 * nb))) ∧ Below w2.heap.size w2 w4) := ⟨⟨hr, hg⟩, hR, hb⟩; clear hr hg hR hb)
  have HN : Hid (NewW w w4 (newDk d2 L2 nw capL nb (zsA (512 * nb))) (newR r2 nb g4 cap4 (zsA (512 * nb))) 0) := new_ww H2.out.1 H2.out.2.1 H4.out.1 H4.out.2.1 H1.out H2.out.2.2 (Below.refl _ _) H4.out.2.2
  have HP0 : Hid (Pl w (w4.alloc (.cells #[.pointer (some ⟨d2, 0, none⟩), .pointer (some ⟨r2, 0, none⟩), .slice none 0 0, .slice none 0 0] 36)) w4.heap.size (newDk d2 L2 nw capL nb (zsA (512 * nb))) (newR r2 nb g4 cap4 (zsA (512 * nb))) 0 (.slice none 0 0) (.slice none 0 0) []) := Pl.start HN.out
  obtain ⟨P, hP⟩ : ∃ P, w4.heap.size = P := ⟨_, rfl⟩
  obtain ⟨w5, hw5⟩ : ∃ w5, w4.alloc (.cells #[.pointer (some ⟨d2, 0, none⟩), .pointer (some ⟨r2, 0, none⟩), .slice none 0 0, .slice none 0 0] 36) = w5 := ⟨_, rfl⟩
  rw [hw5, hP] at HP0
  go_upto_region 9 with fail
  try rw [hP]
  try rw [hw5]
  clear hP hw5
  go_wp2
  go_loopw [11, 12, 13] (fun s11 _ _ wr => ∃ i : Nat, i ≤ m ∧ i ≤ 40 ∧ s11 = .int .i64 i ∧ ∃ D R tv wv B, Pl w wr P D R (i * 200) tv wv B) (fun s11 _ _ _ => m - (intOf s11).toNat)
  case atStart => exact ⟨0, Nat.zero_le _, Nat.zero_le _, rfl, _, _, _, _, _, HP0.out⟩
  case round =>
    obtain ⟨i, hi, hi40, rfl, D, R, tv, wv, B, hPl⟩ := hrel
    have HPl : Hid (Pl w wr P D R (i * 200) tv wv B) := hPl
    clear hPl
    by_cases hlt : i < m ∧ i < 40
    · obtain ⟨hlm, hl40⟩ := hlt
      have hlmb : (i : Int) < (m : Int) := by omega
      have hl40b : (i : Int) < 40 := by omega
      have hil : i < L.length := by rw [HL.out.2]; exact hlm
      obtain ⟨q, hq⟩ : ∃ q, L[i]? = some q := ⟨_, List.getElem?_eq_getElem hil⟩
      obtain ⟨b, off, rfl, _⟩ := HL.out.1.at_.resolve_left (by intro e; rw [e] at hil; simp at hil)
      have HQ : Hid (OpIn w q) := HL.out.1.each q (List.mem_of_getElem? hq)
      obtain ⟨s0, s1, s2, s3, s4, s5, s6⟩ := HL.out.1.cells HPl.out.s.be hq
      obtain ⟨aa, ac, ha, _⟩ := HPl.out.s.t.r.at_
      have c1 : wr.cell? ⟨P, 1, none⟩ = some (.pointer (some ⟨R.r, 0, none⟩)) := cell_of_row _ _ 1 _ _ _ HPl.out.box
      have r1 : wr.cell? ⟨R.r, 1, none⟩ = some (.slice aa R.L.length ac) := by rw [← ha]; exact HPl.out.s.t.r.cell 1
      obtain ⟨r, hr⟩ : ∃ r, R.r = r := ⟨_, rfl⟩
      rw [hr] at c1 r1
      obtain ⟨n0, hn0⟩ : ∃ n0, R.L.length = n0 := ⟨_, rfl⟩
      rw [hn0] at r1
      obtain ⟨qk, la, ln, lc, ot, by_, oa, on_, oc, ca, ka, kn, kc, qL, qO, qK⟩ := q
      simp only at s0 s1 s2 s3 s4 s5 s6
      clear hil hq ha hr hn0
      obtain ⟨O, hO⟩ : ∃ O, wr.heap.size = O := ⟨_, rfl⟩
      obtain ⟨wo, hwo⟩ : ∃ wo, wr.alloc (.cells #[.int .i64 qk, .slice la ln lc, .int .i64 ot, .int .u8 by_, .slice oa on_ oc, .int .i64 ca, .slice ka kn kc] 46) = wo := ⟨_, rfl⟩
      have hAo : Below wr.heap.size wr wo := by rw [← hwo]; exact (Below.refl _ _).alloc (Nat.le_refl _) _
      have HPo : Hid (Pl w wo.drew P D R (i * 200) tv wv B) := HPl.out.on (hAo.trans ((Below.refl wo.heap.size wo).drew.mono hAo.size))
      have HOc : Hid (∀ t v, (#[.int .i64 qk, .slice la ln lc, .int .i64 ot, .int .u8 by_, .slice oa on_ oc, .int .i64 ca, .slice ka kn kc] : Array Value)[t]? = some v → wo.cell? ⟨O, t, none⟩ = some v ∧ wo.drew.cell? ⟨O, t, none⟩ = some v) := fun t v hv => by
        have z2 : wo.heap[O]? = some (.cells #[.int .i64 qk, .slice la ln lc, .int .i64 ot, .int .u8 by_, .slice oa on_ oc, .int .i64 ca, .slice ka kn kc] 46 (0, 0)) := by rw [← hwo, ← hO]; exact heap_alloc_new _ _
        have z3 := (below_fr (Below.refl wo.heap.size wo).drew (fun _ => False)).heap z2 (fun e => e)
        exact ⟨(cell_of_row _ _ t _ _ _ z2).trans hv, (cell_of_row _ _ t _ _ _ z3).trans hv⟩
      have HSt : Hid (Calls Tryz.prog 8 #[.pointer (some ⟨P, 0, none⟩), .agg #[.int .i64 qk, .slice la ln lc, .int .i64 ot, .int .u8 by_, .slice oa on_ oc, .int .i64 ca, .slice ka kn kc]] wo.drew (StP w P (i * 200 + 200))) := (by
        have := wstep_any w wo.drew P D R (i * 200) tv wv B HPo.out HT.out (by omega) ⟨qk, la, ln, lc, ot, by_, oa, on_, oc, ca, ka, kn, kc, qL, qO, qK⟩ HQ.out
        unfold OpR.cs at this
        exact this)
      go_upto_region 14 with fail
      try rw [hO]
      try rw [hwo]
      clear hO hwo hAo s0 s1 s2 s3 s4 s5 s6 c1 r1
      have o0 := (HOc.out 0 _ rfl).1
      have p0 := (HOc.out 0 _ rfl).2
      have p1 := (HOc.out 1 _ rfl).2
      have p2 := (HOc.out 2 _ rfl).2
      have p3 := (HOc.out 3 _ rfl).2
      have p4 := (HOc.out 4 _ rfl).2
      have p5 := (HOc.out 5 _ rfl).2
      have p6 := (HOc.out 6 _ rfl).2
      by_cases h7 : qk = 7
      · subst h7
        go_upto_region 16 with fail
        clear o0
        refine wp_region_any (by as_aux_lemma => kernel_rfl) ?_
        try (change wpAny _ _ _ _ _ _ _ (World.drew _))
        focus
         refine wpAny_take (i := 0) (v := ?_) rfl (by as_aux_lemma => kernel_rfl) (by as_aux_lemma => kernel_rfl) (by as_aux_lemma => kernel_rfl) (fun _ _ _ h => h) (Or.inl ⟨by as_aux_lemma => kernel_rfl, ?_⟩) ?_
         rotate_left
         focus (intro w; go_simp; (try (with_reducible rfl)); done)
         go_simp
         refine wpAny_ready (rs := [1]) (by as_aux_lemma => kernel_rfl) (by simp) ?_
         refine AllReady.cons rfl (fun K hK => ?_) ?_
         rotate_left
         focus
          exact AllReady.nil
         rotate_right
         focus
          go_simp
          try go_simp
          first
            | (refine hK _ _ ?_; clear hK K)
            | skip
          refine wpAny_ready (rs := [2]) (by as_aux_lemma => kernel_rfl) (by simp) ?_
          refine AllReady.cons rfl (fun K hK => ?_) ?_
          rotate_left
          focus
           exact AllReady.nil
          rotate_right
          focus
           (go_simp; go_at_call 8; refine HSt.out.mono ?_; rintro e w1 ⟨rfl, D', R', tv', wv', B', hE⟩; have HP1 : Hid (Pl w w1 P D' R' (i * 200 + 200) tv' wv' B') := hE; obtain ⟨⟨d', r', y'⟩, hdr⟩ : ∃ t : Nat × Nat × Bool, D'.d = t.1 ∧ R'.r = t.2.1 ∧ D'.down = t.2.2 ∧ R'.out = t.2.2 := ⟨(D'.d, R'.r, D'.down), rfl, rfl, rfl, hE.s.t.tie.dn.symm⟩; have HDR : Hid (D'.d = d' ∧ R'.r = r' ∧ D'.down = y' ∧ R'.out = y') := hdr; have c0' : w1.cell? ⟨P, 0, none⟩ = some (.pointer (some ⟨d', 0, none⟩)) := (by rw [← HDR.out.1]; exact cell_of_row _ _ 0 _ _ _ hE.box); have c1' : w1.cell? ⟨P, 1, none⟩ = some (.pointer (some ⟨r', 0, none⟩)) := (by rw [← HDR.out.2.1]; exact cell_of_row _ _ 1 _ _ _ hE.box); have r4' : w1.cell? ⟨r', 4, none⟩ = some (.bool y') := (by rw [← HDR.out.2.1, ← HDR.out.2.2.2]; exact hE.s.t.r.cell 4); have HDn : Hid (Calls Tryz.prog 9 #[.pointer (some ⟨d', 0, none⟩)] w1 fun e w' => e = .returned (.bool y') ∧ w1 = w') := (by have := down_any w1 D' hE.s.d; rw [HDR.out.1, HDR.out.2.2.1] at this; exact this); clear hE hdr)
           try go_simp
           first
             | (refine hK _ _ ?_; clear hK K)
             | skip
           refine wpAny_take (i := 3) (v := ?_) rfl (by as_aux_lemma => kernel_rfl) (by as_aux_lemma => kernel_rfl) (by as_aux_lemma => kernel_rfl) (fun _ _ _ h => h) (Or.inl ⟨by as_aux_lemma => kernel_rfl, ?_⟩) ?_
           rotate_left
           focus (intro w; go_simp; (try (with_reducible rfl)); done)
           go_simp
           refine wpAny_take (i := 4) (v := ?_) rfl (by as_aux_lemma => kernel_rfl) (by as_aux_lemma => kernel_rfl) (by as_aux_lemma => kernel_rfl) (fun _ _ _ h => h) (Or.inl ⟨by as_aux_lemma => kernel_rfl, ?_⟩) ?_
           rotate_left
           focus (intro w; go_simp; (try (with_reducible rfl)); done)
           go_simp
           refine wpAny_take (i := 5) (v := ?_) rfl (by as_aux_lemma => kernel_rfl) (by as_aux_lemma => kernel_rfl) (by as_aux_lemma => kernel_rfl) (fun _ _ _ h => h) (Or.inl ⟨by as_aux_lemma => kernel_rfl, ?_⟩) ?_
           rotate_left
           focus (intro w; go_simp; (try (with_reducible rfl)); done)
           go_simp
           refine wpAny_take (i := 6) (v := ?_) rfl (by as_aux_lemma => kernel_rfl) (by as_aux_lemma => kernel_rfl) (by as_aux_lemma => kernel_rfl) (fun _ _ _ h => h) (Or.inl ⟨by as_aux_lemma => kernel_rfl, ?_⟩) ?_
           rotate_left
           focus (intro w; go_simp; (try (with_reducible rfl)); done)
           go_simp
           refine wpAny_take (i := 7) (v := ?_) rfl (by as_aux_lemma => kernel_rfl) (by as_aux_lemma => kernel_rfl) (by as_aux_lemma => kernel_rfl) (fun _ _ _ h => h) (Or.inl ⟨by as_aux_lemma => kernel_rfl, ?_⟩) ?_
           rotate_left
           focus (intro w; go_simp; (try (with_reducible rfl)); done)
           go_simp
           refine wpAny_take (i := 10) (v := ?_) rfl (by as_aux_lemma => kernel_rfl) (by as_aux_lemma => kernel_rfl) (by as_aux_lemma => kernel_rfl) (fun _ _ _ h => h) (Or.inl ⟨by as_aux_lemma => kernel_rfl, ?_⟩) ?_
           rotate_left
           focus (intro w; go_simp; (try (with_reducible rfl)); done)
           go_simp
           refine wpAny_take (i := 11) (v := ?_) rfl (by as_aux_lemma => kernel_rfl) (by as_aux_lemma => kernel_rfl) (by as_aux_lemma => kernel_rfl) (fun _ _ _ h => h) (Or.inl ⟨by as_aux_lemma => kernel_rfl, ?_⟩) ?_
           rotate_left
           focus (intro w; go_simp; (try (with_reducible rfl)); done)
           go_simp
           refine wpAny_take (i := 12) (v := ?_) rfl (by as_aux_lemma => kernel_rfl) (by as_aux_lemma => kernel_rfl) (by as_aux_lemma => kernel_rfl) (fun _ _ _ h => h) (Or.inl ⟨by as_aux_lemma => kernel_rfl, ?_⟩) ?_
           rotate_left
           focus (intro w; go_simp; (try (with_reducible rfl)); done)
           go_simp
           refine wpAny_ready (rs := [8, 13]) (by as_aux_lemma => kernel_rfl) (by simp) ?_
           refine AllReady.cons rfl (fun K hK => ?_) ?_
           rotate_left
           focus
            refine AllReady.cons rfl (fun K hK => ?_) ?_
            rotate_left
            focus
             exact AllReady.nil
            rotate_right
            focus
             go_simp
             try go_simp
             first
               | (refine hK _ _ ?_; clear hK K)
               | skip
             refine wpAny_take (i := 14) (v := ?_) rfl (by as_aux_lemma => kernel_rfl) (by as_aux_lemma => kernel_rfl) (by as_aux_lemma => kernel_rfl) (fun _ _ _ h => h) (Or.inl ⟨by as_aux_lemma => kernel_rfl, ?_⟩) ?_
             rotate_left
             focus (intro w; go_simp; (try (with_reducible rfl)); done)
             go_simp
             refine wpAny_take (i := 15) (v := ?_) rfl (by as_aux_lemma => kernel_rfl) (by as_aux_lemma => kernel_rfl) (by as_aux_lemma => kernel_rfl) (fun _ _ _ h => h) (Or.inl ⟨by as_aux_lemma => kernel_rfl, ?_⟩) ?_
             rotate_left
             focus (intro w; go_simp; (try (with_reducible rfl)); done)
             go_simp
             refine wpAny_ready (rs := [8, 16]) (by as_aux_lemma => kernel_rfl) (by simp) ?_
             refine AllReady.cons rfl (fun K hK => ?_) ?_
             rotate_left
             focus
              refine AllReady.cons rfl (fun K hK => ?_) ?_
              rotate_left
              focus
               exact AllReady.nil
              rotate_right
              focus
               go_simp
               try go_simp
               first
                 | (refine hK _ _ ?_; clear hK K)
                 | skip
               refine wpAny_ready (rs := [8]) (by as_aux_lemma => kernel_rfl) (by simp) ?_
               refine AllReady.cons rfl (fun K hK => ?_) ?_
               rotate_left
               focus
                exact AllReady.nil
               rotate_right
               focus
                go_simp
                try go_simp
                first
                  | (refine hK _ _ ?_; clear hK K)
                  | skip
                refine wpAny_ready (rs := [9]) (by as_aux_lemma => kernel_rfl) (by simp) ?_
                refine AllReady.cons rfl (fun K hK => ?_) ?_
                rotate_left
                focus
                 exact AllReady.nil
                rotate_right
                focus
                 (go_simp; go_at_call 9; refine HDn.out.mono ?_; rintro e w' ⟨rfl, rfl⟩)
                 try go_simp
                 first
                   | (refine hK _ _ ?_; clear hK K)
                   | skip
                 refine wpAny_take (i := 17) (v := ?_) rfl (by as_aux_lemma => kernel_rfl) (by as_aux_lemma => kernel_rfl) (by as_aux_lemma => kernel_rfl) (fun _ _ _ h => h) (Or.inl ⟨by as_aux_lemma => kernel_rfl, ?_⟩) ?_
                 rotate_left
                 focus (intro w; go_simp; (try (with_reducible rfl)); done)
                 go_simp
                 refine wpAny_take (i := 18) (v := ?_) rfl (by as_aux_lemma => kernel_rfl) (by as_aux_lemma => kernel_rfl) (by as_aux_lemma => kernel_rfl) (fun _ _ _ h => h) (Or.inl ⟨by as_aux_lemma => kernel_rfl, ?_⟩) ?_
                 rotate_left
                 focus (intro w; go_simp; (try (with_reducible rfl)); done)
                 go_simp
                 refine wpAny_done (by kernel_rfl) ?_ _
             rotate_right
             focus
              go_simp
              try go_simp
              first
                | (refine hK _ _ ?_; clear hK K)
                | skip
              refine wpAny_ready (rs := [9, 16]) (by as_aux_lemma => kernel_rfl) (by simp) ?_
              refine AllReady.cons rfl (fun K hK => ?_) ?_
              rotate_left
              focus
               refine AllReady.cons rfl (fun K hK => ?_) ?_
               rotate_left
               focus
                exact AllReady.nil
               rotate_right
               focus
                go_simp
                try go_simp
                first
                  | (refine hK _ _ ?_; clear hK K)
                  | skip
                refine wpAny_ready (rs := [9]) (by as_aux_lemma => kernel_rfl) (by simp) ?_
                refine AllReady.cons rfl (fun K hK => ?_) ?_
                rotate_left
                focus
                 exact AllReady.nil
                rotate_right
                focus
                 (go_simp; go_at_call 9; refine HDn.out.mono ?_; rintro e w' ⟨rfl, rfl⟩)
                 try go_simp
                 first
                   | (refine hK _ _ ?_; clear hK K)
                   | skip
                 refine wpAny_take (i := 17) (v := ?_) rfl (by as_aux_lemma => kernel_rfl) (by as_aux_lemma => kernel_rfl) (by as_aux_lemma => kernel_rfl) (fun _ _ _ h => h) (Or.inl ⟨by as_aux_lemma => kernel_rfl, ?_⟩) ?_
                 rotate_left
                 focus (intro w; go_simp; (try (with_reducible rfl)); done)
                 go_simp
                 refine wpAny_take (i := 18) (v := ?_) rfl (by as_aux_lemma => kernel_rfl) (by as_aux_lemma => kernel_rfl) (by as_aux_lemma => kernel_rfl) (fun _ _ _ h => h) (Or.inl ⟨by as_aux_lemma => kernel_rfl, ?_⟩) ?_
                 rotate_left
                 focus (intro w; go_simp; (try (with_reducible rfl)); done)
                 go_simp
                 refine wpAny_done (by kernel_rfl) ?_ _
              rotate_right
              focus
               (go_simp; go_at_call 9; refine HDn.out.mono ?_; rintro e w' ⟨rfl, rfl⟩)
               try go_simp
               first
                 | (refine hK _ _ ?_; clear hK K)
                 | skip
               refine wpAny_ready (rs := [16]) (by as_aux_lemma => kernel_rfl) (by simp) ?_
               refine AllReady.cons rfl (fun K hK => ?_) ?_
               rotate_left
               focus
                exact AllReady.nil
               rotate_right
               focus
                go_simp
                try go_simp
                first
                  | (refine hK _ _ ?_; clear hK K)
                  | skip
                refine wpAny_take (i := 17) (v := ?_) rfl (by as_aux_lemma => kernel_rfl) (by as_aux_lemma => kernel_rfl) (by as_aux_lemma => kernel_rfl) (fun _ _ _ h => h) (Or.inl ⟨by as_aux_lemma => kernel_rfl, ?_⟩) ?_
                rotate_left
                focus (intro w; go_simp; (try (with_reducible rfl)); done)
                go_simp
                refine wpAny_take (i := 18) (v := ?_) rfl (by as_aux_lemma => kernel_rfl) (by as_aux_lemma => kernel_rfl) (by as_aux_lemma => kernel_rfl) (fun _ _ _ h => h) (Or.inl ⟨by as_aux_lemma => kernel_rfl, ?_⟩) ?_
                rotate_left
                focus (intro w; go_simp; (try (with_reducible rfl)); done)
                go_simp
                refine wpAny_done (by kernel_rfl) ?_ _
           rotate_right
           focus
            go_simp
            try go_simp
            first
              | (refine hK _ _ ?_; clear hK K)
              | skip
            refine wpAny_ready (rs := [9, 13]) (by as_aux_lemma => kernel_rfl) (by simp) ?_
            refine AllReady.cons rfl (fun K hK => ?_) ?_
            rotate_left
            focus
             refine AllReady.cons rfl (fun K hK => ?_) ?_
             rotate_left
             focus
              exact AllReady.nil
             rotate_right
             focus
              go_simp
              try go_simp
              first
                | (refine hK _ _ ?_; clear hK K)
                | skip
              refine wpAny_take (i := 14) (v := ?_) rfl (by as_aux_lemma => kernel_rfl) (by as_aux_lemma => kernel_rfl) (by as_aux_lemma => kernel_rfl) (fun _ _ _ h => h) (Or.inl ⟨by as_aux_lemma => kernel_rfl, ?_⟩) ?_
              rotate_left
              focus (intro w; go_simp; (try (with_reducible rfl)); done)
              go_simp
              refine wpAny_take (i := 15) (v := ?_) rfl (by as_aux_lemma => kernel_rfl) (by as_aux_lemma => kernel_rfl) (by as_aux_lemma => kernel_rfl) (fun _ _ _ h => h) (Or.inl ⟨by as_aux_lemma => kernel_rfl, ?_⟩) ?_
              rotate_left
              focus (intro w; go_simp; (try (with_reducible rfl)); done)
              go_simp
              refine wpAny_ready (rs := [9, 16]) (by as_aux_lemma => kernel_rfl) (by simp) ?_
              refine AllReady.cons rfl (fun K hK => ?_) ?_
              rotate_left
              focus
               refine AllReady.cons rfl (fun K hK => ?_) ?_
               rotate_left
               focus
                exact AllReady.nil
               rotate_right
               focus
                go_simp
                try go_simp
                first
                  | (refine hK _ _ ?_; clear hK K)
                  | skip
                refine wpAny_ready (rs := [9]) (by as_aux_lemma => kernel_rfl) (by simp) ?_
                refine AllReady.cons rfl (fun K hK => ?_) ?_
                rotate_left
                focus
                 exact AllReady.nil
                rotate_right
                focus
                 (go_simp; go_at_call 9; refine HDn.out.mono ?_; rintro e w' ⟨rfl, rfl⟩)
                 try go_simp
                 first
                   | (refine hK _ _ ?_; clear hK K)
                   | skip
                 refine wpAny_take (i := 17) (v := ?_) rfl (by as_aux_lemma => kernel_rfl) (by as_aux_lemma => kernel_rfl) (by as_aux_lemma => kernel_rfl) (fun _ _ _ h => h) (Or.inl ⟨by as_aux_lemma => kernel_rfl, ?_⟩) ?_
                 rotate_left
                 focus (intro w; go_simp; (try (with_reducible rfl)); done)
                 go_simp
                 refine wpAny_take (i := 18) (v := ?_) rfl (by as_aux_lemma => kernel_rfl) (by as_aux_lemma => kernel_rfl) (by as_aux_lemma => kernel_rfl) (fun _ _ _ h => h) (Or.inl ⟨by as_aux_lemma => kernel_rfl, ?_⟩) ?_
                 rotate_left
                 focus (intro w; go_simp; (try (with_reducible rfl)); done)
                 go_simp
                 refine wpAny_done (by kernel_rfl) ?_ _
              rotate_right
              focus
               (go_simp; go_at_call 9; refine HDn.out.mono ?_; rintro e w' ⟨rfl, rfl⟩)
               try go_simp
               first
                 | (refine hK _ _ ?_; clear hK K)
                 | skip
               refine wpAny_ready (rs := [16]) (by as_aux_lemma => kernel_rfl) (by simp) ?_
               refine AllReady.cons rfl (fun K hK => ?_) ?_
               rotate_left
               focus
                exact AllReady.nil
               rotate_right
               focus
                go_simp
                try go_simp
                first
                  | (refine hK _ _ ?_; clear hK K)
                  | skip
                refine wpAny_take (i := 17) (v := ?_) rfl (by as_aux_lemma => kernel_rfl) (by as_aux_lemma => kernel_rfl) (by as_aux_lemma => kernel_rfl) (fun _ _ _ h => h) (Or.inl ⟨by as_aux_lemma => kernel_rfl, ?_⟩) ?_
                rotate_left
                focus (intro w; go_simp; (try (with_reducible rfl)); done)
                go_simp
                refine wpAny_take (i := 18) (v := ?_) rfl (by as_aux_lemma => kernel_rfl) (by as_aux_lemma => kernel_rfl) (by as_aux_lemma => kernel_rfl) (fun _ _ _ h => h) (Or.inl ⟨by as_aux_lemma => kernel_rfl, ?_⟩) ?_
                rotate_left
                focus (intro w; go_simp; (try (with_reducible rfl)); done)
                go_simp
                refine wpAny_done (by kernel_rfl) ?_ _
            rotate_right
            focus
             (go_simp; go_at_call 9; refine HDn.out.mono ?_; rintro e w' ⟨rfl, rfl⟩)
             try go_simp
             first
               | (refine hK _ _ ?_; clear hK K)
               | skip
             refine wpAny_ready (rs := [13]) (by as_aux_lemma => kernel_rfl) (by simp) ?_
             refine AllReady.cons rfl (fun K hK => ?_) ?_
             rotate_left
             focus
              exact AllReady.nil
             rotate_right
             focus
              go_simp
              try go_simp
              first
                | (refine hK _ _ ?_; clear hK K)
                | skip
              refine wpAny_take (i := 14) (v := ?_) rfl (by as_aux_lemma => kernel_rfl) (by as_aux_lemma => kernel_rfl) (by as_aux_lemma => kernel_rfl) (fun _ _ _ h => h) (Or.inl ⟨by as_aux_lemma => kernel_rfl, ?_⟩) ?_
              rotate_left
              focus (intro w; go_simp; (try (with_reducible rfl)); done)
              go_simp
              refine wpAny_take (i := 15) (v := ?_) rfl (by as_aux_lemma => kernel_rfl) (by as_aux_lemma => kernel_rfl) (by as_aux_lemma => kernel_rfl) (fun _ _ _ h => h) (Or.inl ⟨by as_aux_lemma => kernel_rfl, ?_⟩) ?_
              rotate_left
              focus (intro w; go_simp; (try (with_reducible rfl)); done)
              go_simp
              refine wpAny_ready (rs := [16]) (by as_aux_lemma => kernel_rfl) (by simp) ?_
              refine AllReady.cons rfl (fun K hK => ?_) ?_
              rotate_left
              focus
               exact AllReady.nil
              rotate_right
              focus
               go_simp
               try go_simp
               first
                 | (refine hK _ _ ?_; clear hK K)
                 | skip
               refine wpAny_take (i := 17) (v := ?_) rfl (by as_aux_lemma => kernel_rfl) (by as_aux_lemma => kernel_rfl) (by as_aux_lemma => kernel_rfl) (fun _ _ _ h => h) (Or.inl ⟨by as_aux_lemma => kernel_rfl, ?_⟩) ?_
               rotate_left
               focus (intro w; go_simp; (try (with_reducible rfl)); done)
               go_simp
               refine wpAny_take (i := 18) (v := ?_) rfl (by as_aux_lemma => kernel_rfl) (by as_aux_lemma => kernel_rfl) (by as_aux_lemma => kernel_rfl) (fun _ _ _ h => h) (Or.inl ⟨by as_aux_lemma => kernel_rfl, ?_⟩) ?_
               rotate_left
               focus (intro w; go_simp; (try (with_reducible rfl)); done)
               go_simp
               refine wpAny_done (by kernel_rfl) ?_ _
        all_goals
          clear p0 p1 p2 p3 p4 p5 p6 r4'
          obtain ⟨wn, hwn⟩ : ∃ wn : Nat, D'.wr = wn := ⟨_, rfl⟩
          obtain ⟨fn, hfn⟩ : ∃ fn : Nat, D'.fl = fn := ⟨_, rfl⟩
          have hbw : wn ≤ 100000000 ∧ fn ≤ 100000000 := (by
            obtain ⟨_, _, h3, h4⟩ := HP1.out.s.lens
            have h5 : D'.abs.wr = D'.wr := rfl
            have h6 : D'.abs.fl = D'.fl := rfl
            omega)
          have HSp : Hid (Calls Tryz.prog 10 #[.pointer (some ⟨d', 0, none⟩)] w1 fun e w' => e = .returned (.tuple #[.int .i64 (wn : Int), .int .i64 (fn : Int)]) ∧ Below w1.heap.size w1 w') := (by have := steps_any w1 D' HP1.out.s.d; rw [HDR.out.1, hwn, hfn] at this; exact this)
          have HSx : Hid (∀ wx, Below w1.heap.size w1 wx → wx.cell? ⟨P, 0, none⟩ = some (.pointer (some ⟨d', 0, none⟩)) ∧ wx.cell? ⟨P, 1, none⟩ = some (.pointer (some ⟨r', 0, none⟩)) ∧ wx.cell? ⟨r', 5, none⟩ = some (.int .i64 (wn : Int)) ∧ wx.cell? ⟨r', 6, none⟩ = some (.int .i64 (fn : Int))) := fun wx hx => (by
            have h1 := HP1.out.on hx
            have t5 : D'.abs.wr = D'.wr := rfl
            have t6 : D'.abs.fl = D'.fl := rfl
            have z1 := h1.s.t.tie.wr
            have z2 := h1.s.t.tie.fl
            rw [t5, hwn] at z1
            rw [t6, hfn] at z2
            have x0 := cell_of_row _ _ 0 _ _ _ h1.box
            have x1 := cell_of_row _ _ 1 _ _ _ h1.box
            have x5 := h1.s.t.r.cell 5
            have x6 := h1.s.t.r.cell 6
            rw [HDR.out.2.1] at x5 x6
            refine ⟨by rw [← HDR.out.1]; exact x0, by rw [← HDR.out.2.1]; exact x1, by rw [z1]; exact x5, by rw [z2]; exact x6⟩)
          obtain ⟨TT, hT1, hT2⟩ := wtape HP1.out.s (by omega) (0)
          rw [HDR.out.1] at hT1
          rw [HDR.out.2.1] at hT2
          have HT1 : Hid (∀ wx, Below w1.heap.size w1 wx → Calls Tryz.prog 12 #[.pointer (some ⟨d', 0, none⟩), .int .i64 (0)] wx fun e w1 => ∃ a n c L, e = .returned (.slice a n c) ∧ L.length = n ∧ Acts w1 a L ∧ L.map ActR.abs = TT ∧ Below wx.heap.size wx w1) := hT1
          have HT2 : Hid (∀ wx, Below w1.heap.size w1 wx → Calls Tryz.prog 13 #[.pointer (some ⟨r', 0, none⟩), .int .i64 (0)] wx fun e w1 => ∃ a n c L, e = .returned (.slice a n c) ∧ L.length = n ∧ Acts w1 a L ∧ L.map ActR.abs = TT ∧ Below wx.heap.size wx w1) := hT2
          clear hT1 hT2 hwn hfn
          go_upto_region 19 with (go_at_call 10; refine HSp.out.mono ?_; rintro e w2 ⟨rfl, hb⟩; have H2 : Hid (Below w1.heap.size w1 w2) := hb; clear hb)
          clear c0' c1'
          have H2d : Hid (Below w1.heap.size w1 w2.drew) := H2.out.drew
          go_region_held3 (fun w' => w'.cell? ⟨P, 0, none⟩ = some (.pointer (some ⟨d', 0, none⟩)) ∧ w'.cell? ⟨P, 1, none⟩ = some (.pointer (some ⟨r', 0, none⟩)) ∧ w'.cell? ⟨r', 5, none⟩ = some (.int .i64 (wn : Int)) ∧ w'.cell? ⟨r', 6, none⟩ = some (.int .i64 (fn : Int))) (first | exact HSx.out _ H2d.out | exact HSx.out _ H3.out.2.2.2 | exact HSx.out _ H4b.out.2.2.2 | exact HSx.out _ H5.out) (first
            | (go_at_call 12; refine (HT1.out _ H2d.out).mono ?_; rintro e w3 ⟨a3, n3, c3, L3, rfl, h1, h2, h3, h4⟩; have H3 : Hid (L3.length = n3 ∧ Acts w3 a3 L3 ∧ L3.map ActR.abs = TT ∧ Below w1.heap.size w1 w3) := ⟨h1, h2, h3, H2d.out.trans (h4.mono H2d.out.size)⟩; clear h1 h2 h3 h4)
            | (go_at_call 13; refine (HT2.out _ H3.out.2.2.2).mono ?_; rintro e w4 ⟨a4, n4, c4, L4, rfl, h1, h2, h3, h4⟩; have H4b : Hid (L4.length = n4 ∧ Acts w4 a4 L4 ∧ L4.map ActR.abs = TT ∧ Below w1.heap.size w1 w4) := ⟨h1, h2, h3, H3.out.2.2.2.trans (h4.mono H3.out.2.2.2.size)⟩; have HA3 : Hid (Acts w4 a3 L3) := H3.out.2.1.on h4; have h34 : n4 = n3 := (by have e1 := congrArg List.length H3.out.2.2.1; have e2 := congrArg List.length h3; rw [List.length_map] at e1 e2; have := H3.out.1; omega); subst h34; clear h1 h2 h3 h4)
            | (go_at_call 11; refine (wsameActs_any w4 a3 a4 _ c3 c4 L3 L4 HA3.out H4b.out.2.1 (H3.out.2.2.1.trans H4b.out.2.2.1.symm) H3.out.1).mono ?_; rintro e w5 ⟨rfl, hb⟩; have H5 : Hid (Below w1.heap.size w1 w5) := H4b.out.2.2.2.trans (hb.mono H4b.out.2.2.2.size); clear hb))
          all_goals
            go_wp2
            exact ⟨⟨i + 1, hlm, hl40, rfl, D', R', tv', wv', B', (HP1.out.on H5.out).up (by omega)⟩, by simp [intOf]; omega⟩
      ·
        go_upto_region 16 with fail
        clear o0
        refine wp_region_any (by as_aux_lemma => kernel_rfl) ?_
        try (change wpAny _ _ _ _ _ _ _ (World.drew _))
        focus
         refine wpAny_take (i := 0) (v := ?_) rfl (by as_aux_lemma => kernel_rfl) (by as_aux_lemma => kernel_rfl) (by as_aux_lemma => kernel_rfl) (fun _ _ _ h => h) (Or.inl ⟨by as_aux_lemma => kernel_rfl, ?_⟩) ?_
         rotate_left
         focus (intro w; go_simp; (try (with_reducible rfl)); done)
         go_simp
         refine wpAny_ready (rs := [1]) (by as_aux_lemma => kernel_rfl) (by simp) ?_
         refine AllReady.cons rfl (fun K hK => ?_) ?_
         rotate_left
         focus
          exact AllReady.nil
         rotate_right
         focus
          go_simp
          try go_simp
          first
            | (refine hK _ _ ?_; clear hK K)
            | skip
          refine wpAny_ready (rs := [2]) (by as_aux_lemma => kernel_rfl) (by simp) ?_
          refine AllReady.cons rfl (fun K hK => ?_) ?_
          rotate_left
          focus
           exact AllReady.nil
          rotate_right
          focus
           (go_simp; go_at_call 8; refine HSt.out.mono ?_; rintro e w1 ⟨rfl, D', R', tv', wv', B', hE⟩; have HP1 : Hid (Pl w w1 P D' R' (i * 200 + 200) tv' wv' B') := hE; obtain ⟨⟨d', r', y'⟩, hdr⟩ : ∃ t : Nat × Nat × Bool, D'.d = t.1 ∧ R'.r = t.2.1 ∧ D'.down = t.2.2 ∧ R'.out = t.2.2 := ⟨(D'.d, R'.r, D'.down), rfl, rfl, rfl, hE.s.t.tie.dn.symm⟩; have HDR : Hid (D'.d = d' ∧ R'.r = r' ∧ D'.down = y' ∧ R'.out = y') := hdr; have c0' : w1.cell? ⟨P, 0, none⟩ = some (.pointer (some ⟨d', 0, none⟩)) := (by rw [← HDR.out.1]; exact cell_of_row _ _ 0 _ _ _ hE.box); have c1' : w1.cell? ⟨P, 1, none⟩ = some (.pointer (some ⟨r', 0, none⟩)) := (by rw [← HDR.out.2.1]; exact cell_of_row _ _ 1 _ _ _ hE.box); have r4' : w1.cell? ⟨r', 4, none⟩ = some (.bool y') := (by rw [← HDR.out.2.1, ← HDR.out.2.2.2]; exact hE.s.t.r.cell 4); have HDn : Hid (Calls Tryz.prog 9 #[.pointer (some ⟨d', 0, none⟩)] w1 fun e w' => e = .returned (.bool y') ∧ w1 = w') := (by have := down_any w1 D' hE.s.d; rw [HDR.out.1, HDR.out.2.2.1] at this; exact this); clear hE hdr)
           try go_simp
           first
             | (refine hK _ _ ?_; clear hK K)
             | skip
           refine wpAny_take (i := 3) (v := ?_) rfl (by as_aux_lemma => kernel_rfl) (by as_aux_lemma => kernel_rfl) (by as_aux_lemma => kernel_rfl) (fun _ _ _ h => h) (Or.inl ⟨by as_aux_lemma => kernel_rfl, ?_⟩) ?_
           rotate_left
           focus (intro w; go_simp; (try (with_reducible rfl)); done)
           go_simp
           refine wpAny_take (i := 4) (v := ?_) rfl (by as_aux_lemma => kernel_rfl) (by as_aux_lemma => kernel_rfl) (by as_aux_lemma => kernel_rfl) (fun _ _ _ h => h) (Or.inl ⟨by as_aux_lemma => kernel_rfl, ?_⟩) ?_
           rotate_left
           focus (intro w; go_simp; (try (with_reducible rfl)); done)
           go_simp
           refine wpAny_take (i := 5) (v := ?_) rfl (by as_aux_lemma => kernel_rfl) (by as_aux_lemma => kernel_rfl) (by as_aux_lemma => kernel_rfl) (fun _ _ _ h => h) (Or.inl ⟨by as_aux_lemma => kernel_rfl, ?_⟩) ?_
           rotate_left
           focus (intro w; go_simp; (try (with_reducible rfl)); done)
           go_simp
           refine wpAny_take (i := 6) (v := ?_) rfl (by as_aux_lemma => kernel_rfl) (by as_aux_lemma => kernel_rfl) (by as_aux_lemma => kernel_rfl) (fun _ _ _ h => h) (Or.inl ⟨by as_aux_lemma => kernel_rfl, ?_⟩) ?_
           rotate_left
           focus (intro w; go_simp; (try (with_reducible rfl)); done)
           go_simp
           refine wpAny_take (i := 7) (v := ?_) rfl (by as_aux_lemma => kernel_rfl) (by as_aux_lemma => kernel_rfl) (by as_aux_lemma => kernel_rfl) (fun _ _ _ h => h) (Or.inl ⟨by as_aux_lemma => kernel_rfl, ?_⟩) ?_
           rotate_left
           focus (intro w; go_simp; (try (with_reducible rfl)); done)
           go_simp
           refine wpAny_take (i := 10) (v := ?_) rfl (by as_aux_lemma => kernel_rfl) (by as_aux_lemma => kernel_rfl) (by as_aux_lemma => kernel_rfl) (fun _ _ _ h => h) (Or.inl ⟨by as_aux_lemma => kernel_rfl, ?_⟩) ?_
           rotate_left
           focus (intro w; go_simp; (try (with_reducible rfl)); done)
           go_simp
           refine wpAny_take (i := 11) (v := ?_) rfl (by as_aux_lemma => kernel_rfl) (by as_aux_lemma => kernel_rfl) (by as_aux_lemma => kernel_rfl) (fun _ _ _ h => h) (Or.inl ⟨by as_aux_lemma => kernel_rfl, ?_⟩) ?_
           rotate_left
           focus (intro w; go_simp; (try (with_reducible rfl)); done)
           go_simp
           refine wpAny_take (i := 12) (v := ?_) rfl (by as_aux_lemma => kernel_rfl) (by as_aux_lemma => kernel_rfl) (by as_aux_lemma => kernel_rfl) (fun _ _ _ h => h) (Or.inl ⟨by as_aux_lemma => kernel_rfl, ?_⟩) ?_
           rotate_left
           focus (intro w; go_simp; (try (with_reducible rfl)); done)
           go_simp
           refine wpAny_ready (rs := [8, 13]) (by as_aux_lemma => kernel_rfl) (by simp) ?_
           refine AllReady.cons rfl (fun K hK => ?_) ?_
           rotate_left
           focus
            refine AllReady.cons rfl (fun K hK => ?_) ?_
            rotate_left
            focus
             exact AllReady.nil
            rotate_right
            focus
             go_simp
             try go_simp
             first
               | (refine hK _ _ ?_; clear hK K)
               | skip
             refine wpAny_take (i := 14) (v := ?_) rfl (by as_aux_lemma => kernel_rfl) (by as_aux_lemma => kernel_rfl) (by as_aux_lemma => kernel_rfl) (fun _ _ _ h => h) (Or.inl ⟨by as_aux_lemma => kernel_rfl, ?_⟩) ?_
             rotate_left
             focus (intro w; go_simp; (try (with_reducible rfl)); done)
             go_simp
             refine wpAny_take (i := 15) (v := ?_) rfl (by as_aux_lemma => kernel_rfl) (by as_aux_lemma => kernel_rfl) (by as_aux_lemma => kernel_rfl) (fun _ _ _ h => h) (Or.inl ⟨by as_aux_lemma => kernel_rfl, ?_⟩) ?_
             rotate_left
             focus (intro w; go_simp; (try (with_reducible rfl)); done)
             go_simp
             refine wpAny_ready (rs := [8, 16]) (by as_aux_lemma => kernel_rfl) (by simp) ?_
             refine AllReady.cons rfl (fun K hK => ?_) ?_
             rotate_left
             focus
              refine AllReady.cons rfl (fun K hK => ?_) ?_
              rotate_left
              focus
               exact AllReady.nil
              rotate_right
              focus
               go_simp
               try go_simp
               first
                 | (refine hK _ _ ?_; clear hK K)
                 | skip
               refine wpAny_ready (rs := [8]) (by as_aux_lemma => kernel_rfl) (by simp) ?_
               refine AllReady.cons rfl (fun K hK => ?_) ?_
               rotate_left
               focus
                exact AllReady.nil
               rotate_right
               focus
                go_simp
                try go_simp
                first
                  | (refine hK _ _ ?_; clear hK K)
                  | skip
                refine wpAny_ready (rs := [9]) (by as_aux_lemma => kernel_rfl) (by simp) ?_
                refine AllReady.cons rfl (fun K hK => ?_) ?_
                rotate_left
                focus
                 exact AllReady.nil
                rotate_right
                focus
                 (go_simp; go_at_call 9; refine HDn.out.mono ?_; rintro e w' ⟨rfl, rfl⟩)
                 try go_simp
                 first
                   | (refine hK _ _ ?_; clear hK K)
                   | skip
                 refine wpAny_take (i := 17) (v := ?_) rfl (by as_aux_lemma => kernel_rfl) (by as_aux_lemma => kernel_rfl) (by as_aux_lemma => kernel_rfl) (fun _ _ _ h => h) (Or.inl ⟨by as_aux_lemma => kernel_rfl, ?_⟩) ?_
                 rotate_left
                 focus (intro w; go_simp; (try (with_reducible rfl)); done)
                 go_simp
                 refine wpAny_take (i := 18) (v := ?_) rfl (by as_aux_lemma => kernel_rfl) (by as_aux_lemma => kernel_rfl) (by as_aux_lemma => kernel_rfl) (fun _ _ _ h => h) (Or.inl ⟨by as_aux_lemma => kernel_rfl, ?_⟩) ?_
                 rotate_left
                 focus (intro w; go_simp; (try (with_reducible rfl)); done)
                 go_simp
                 refine wpAny_done (by kernel_rfl) ?_ _
             rotate_right
             focus
              go_simp
              try go_simp
              first
                | (refine hK _ _ ?_; clear hK K)
                | skip
              refine wpAny_ready (rs := [9, 16]) (by as_aux_lemma => kernel_rfl) (by simp) ?_
              refine AllReady.cons rfl (fun K hK => ?_) ?_
              rotate_left
              focus
               refine AllReady.cons rfl (fun K hK => ?_) ?_
               rotate_left
               focus
                exact AllReady.nil
               rotate_right
               focus
                go_simp
                try go_simp
                first
                  | (refine hK _ _ ?_; clear hK K)
                  | skip
                refine wpAny_ready (rs := [9]) (by as_aux_lemma => kernel_rfl) (by simp) ?_
                refine AllReady.cons rfl (fun K hK => ?_) ?_
                rotate_left
                focus
                 exact AllReady.nil
                rotate_right
                focus
                 (go_simp; go_at_call 9; refine HDn.out.mono ?_; rintro e w' ⟨rfl, rfl⟩)
                 try go_simp
                 first
                   | (refine hK _ _ ?_; clear hK K)
                   | skip
                 refine wpAny_take (i := 17) (v := ?_) rfl (by as_aux_lemma => kernel_rfl) (by as_aux_lemma => kernel_rfl) (by as_aux_lemma => kernel_rfl) (fun _ _ _ h => h) (Or.inl ⟨by as_aux_lemma => kernel_rfl, ?_⟩) ?_
                 rotate_left
                 focus (intro w; go_simp; (try (with_reducible rfl)); done)
                 go_simp
                 refine wpAny_take (i := 18) (v := ?_) rfl (by as_aux_lemma => kernel_rfl) (by as_aux_lemma => kernel_rfl) (by as_aux_lemma => kernel_rfl) (fun _ _ _ h => h) (Or.inl ⟨by as_aux_lemma => kernel_rfl, ?_⟩) ?_
                 rotate_left
                 focus (intro w; go_simp; (try (with_reducible rfl)); done)
                 go_simp
                 refine wpAny_done (by kernel_rfl) ?_ _
              rotate_right
              focus
               (go_simp; go_at_call 9; refine HDn.out.mono ?_; rintro e w' ⟨rfl, rfl⟩)
               try go_simp
               first
                 | (refine hK _ _ ?_; clear hK K)
                 | skip
               refine wpAny_ready (rs := [16]) (by as_aux_lemma => kernel_rfl) (by simp) ?_
               refine AllReady.cons rfl (fun K hK => ?_) ?_
               rotate_left
               focus
                exact AllReady.nil
               rotate_right
               focus
                go_simp
                try go_simp
                first
                  | (refine hK _ _ ?_; clear hK K)
                  | skip
                refine wpAny_take (i := 17) (v := ?_) rfl (by as_aux_lemma => kernel_rfl) (by as_aux_lemma => kernel_rfl) (by as_aux_lemma => kernel_rfl) (fun _ _ _ h => h) (Or.inl ⟨by as_aux_lemma => kernel_rfl, ?_⟩) ?_
                rotate_left
                focus (intro w; go_simp; (try (with_reducible rfl)); done)
                go_simp
                refine wpAny_take (i := 18) (v := ?_) rfl (by as_aux_lemma => kernel_rfl) (by as_aux_lemma => kernel_rfl) (by as_aux_lemma => kernel_rfl) (fun _ _ _ h => h) (Or.inl ⟨by as_aux_lemma => kernel_rfl, ?_⟩) ?_
                rotate_left
                focus (intro w; go_simp; (try (with_reducible rfl)); done)
                go_simp
                refine wpAny_done (by kernel_rfl) ?_ _
           rotate_right
           focus
            go_simp
            try go_simp
            first
              | (refine hK _ _ ?_; clear hK K)
              | skip
            refine wpAny_ready (rs := [9, 13]) (by as_aux_lemma => kernel_rfl) (by simp) ?_
            refine AllReady.cons rfl (fun K hK => ?_) ?_
            rotate_left
            focus
             refine AllReady.cons rfl (fun K hK => ?_) ?_
             rotate_left
             focus
              exact AllReady.nil
             rotate_right
             focus
              go_simp
              try go_simp
              first
                | (refine hK _ _ ?_; clear hK K)
                | skip
              refine wpAny_take (i := 14) (v := ?_) rfl (by as_aux_lemma => kernel_rfl) (by as_aux_lemma => kernel_rfl) (by as_aux_lemma => kernel_rfl) (fun _ _ _ h => h) (Or.inl ⟨by as_aux_lemma => kernel_rfl, ?_⟩) ?_
              rotate_left
              focus (intro w; go_simp; (try (with_reducible rfl)); done)
              go_simp
              refine wpAny_take (i := 15) (v := ?_) rfl (by as_aux_lemma => kernel_rfl) (by as_aux_lemma => kernel_rfl) (by as_aux_lemma => kernel_rfl) (fun _ _ _ h => h) (Or.inl ⟨by as_aux_lemma => kernel_rfl, ?_⟩) ?_
              rotate_left
              focus (intro w; go_simp; (try (with_reducible rfl)); done)
              go_simp
              refine wpAny_ready (rs := [9, 16]) (by as_aux_lemma => kernel_rfl) (by simp) ?_
              refine AllReady.cons rfl (fun K hK => ?_) ?_
              rotate_left
              focus
               refine AllReady.cons rfl (fun K hK => ?_) ?_
               rotate_left
               focus
                exact AllReady.nil
               rotate_right
               focus
                go_simp
                try go_simp
                first
                  | (refine hK _ _ ?_; clear hK K)
                  | skip
                refine wpAny_ready (rs := [9]) (by as_aux_lemma => kernel_rfl) (by simp) ?_
                refine AllReady.cons rfl (fun K hK => ?_) ?_
                rotate_left
                focus
                 exact AllReady.nil
                rotate_right
                focus
                 (go_simp; go_at_call 9; refine HDn.out.mono ?_; rintro e w' ⟨rfl, rfl⟩)
                 try go_simp
                 first
                   | (refine hK _ _ ?_; clear hK K)
                   | skip
                 refine wpAny_take (i := 17) (v := ?_) rfl (by as_aux_lemma => kernel_rfl) (by as_aux_lemma => kernel_rfl) (by as_aux_lemma => kernel_rfl) (fun _ _ _ h => h) (Or.inl ⟨by as_aux_lemma => kernel_rfl, ?_⟩) ?_
                 rotate_left
                 focus (intro w; go_simp; (try (with_reducible rfl)); done)
                 go_simp
                 refine wpAny_take (i := 18) (v := ?_) rfl (by as_aux_lemma => kernel_rfl) (by as_aux_lemma => kernel_rfl) (by as_aux_lemma => kernel_rfl) (fun _ _ _ h => h) (Or.inl ⟨by as_aux_lemma => kernel_rfl, ?_⟩) ?_
                 rotate_left
                 focus (intro w; go_simp; (try (with_reducible rfl)); done)
                 go_simp
                 refine wpAny_done (by kernel_rfl) ?_ _
              rotate_right
              focus
               (go_simp; go_at_call 9; refine HDn.out.mono ?_; rintro e w' ⟨rfl, rfl⟩)
               try go_simp
               first
                 | (refine hK _ _ ?_; clear hK K)
                 | skip
               refine wpAny_ready (rs := [16]) (by as_aux_lemma => kernel_rfl) (by simp) ?_
               refine AllReady.cons rfl (fun K hK => ?_) ?_
               rotate_left
               focus
                exact AllReady.nil
               rotate_right
               focus
                go_simp
                try go_simp
                first
                  | (refine hK _ _ ?_; clear hK K)
                  | skip
                refine wpAny_take (i := 17) (v := ?_) rfl (by as_aux_lemma => kernel_rfl) (by as_aux_lemma => kernel_rfl) (by as_aux_lemma => kernel_rfl) (fun _ _ _ h => h) (Or.inl ⟨by as_aux_lemma => kernel_rfl, ?_⟩) ?_
                rotate_left
                focus (intro w; go_simp; (try (with_reducible rfl)); done)
                go_simp
                refine wpAny_take (i := 18) (v := ?_) rfl (by as_aux_lemma => kernel_rfl) (by as_aux_lemma => kernel_rfl) (by as_aux_lemma => kernel_rfl) (fun _ _ _ h => h) (Or.inl ⟨by as_aux_lemma => kernel_rfl, ?_⟩) ?_
                rotate_left
                focus (intro w; go_simp; (try (with_reducible rfl)); done)
                go_simp
                refine wpAny_done (by kernel_rfl) ?_ _
            rotate_right
            focus
             (go_simp; go_at_call 9; refine HDn.out.mono ?_; rintro e w' ⟨rfl, rfl⟩)
             try go_simp
             first
               | (refine hK _ _ ?_; clear hK K)
               | skip
             refine wpAny_ready (rs := [13]) (by as_aux_lemma => kernel_rfl) (by simp) ?_
             refine AllReady.cons rfl (fun K hK => ?_) ?_
             rotate_left
             focus
              exact AllReady.nil
             rotate_right
             focus
              go_simp
              try go_simp
              first
                | (refine hK _ _ ?_; clear hK K)
                | skip
              refine wpAny_take (i := 14) (v := ?_) rfl (by as_aux_lemma => kernel_rfl) (by as_aux_lemma => kernel_rfl) (by as_aux_lemma => kernel_rfl) (fun _ _ _ h => h) (Or.inl ⟨by as_aux_lemma => kernel_rfl, ?_⟩) ?_
              rotate_left
              focus (intro w; go_simp; (try (with_reducible rfl)); done)
              go_simp
              refine wpAny_take (i := 15) (v := ?_) rfl (by as_aux_lemma => kernel_rfl) (by as_aux_lemma => kernel_rfl) (by as_aux_lemma => kernel_rfl) (fun _ _ _ h => h) (Or.inl ⟨by as_aux_lemma => kernel_rfl, ?_⟩) ?_
              rotate_left
              focus (intro w; go_simp; (try (with_reducible rfl)); done)
              go_simp
              refine wpAny_ready (rs := [16]) (by as_aux_lemma => kernel_rfl) (by simp) ?_
              refine AllReady.cons rfl (fun K hK => ?_) ?_
              rotate_left
              focus
               exact AllReady.nil
              rotate_right
              focus
               go_simp
               try go_simp
               first
                 | (refine hK _ _ ?_; clear hK K)
                 | skip
               refine wpAny_take (i := 17) (v := ?_) rfl (by as_aux_lemma => kernel_rfl) (by as_aux_lemma => kernel_rfl) (by as_aux_lemma => kernel_rfl) (fun _ _ _ h => h) (Or.inl ⟨by as_aux_lemma => kernel_rfl, ?_⟩) ?_
               rotate_left
               focus (intro w; go_simp; (try (with_reducible rfl)); done)
               go_simp
               refine wpAny_take (i := 18) (v := ?_) rfl (by as_aux_lemma => kernel_rfl) (by as_aux_lemma => kernel_rfl) (by as_aux_lemma => kernel_rfl) (fun _ _ _ h => h) (Or.inl ⟨by as_aux_lemma => kernel_rfl, ?_⟩) ?_
               rotate_left
               focus (intro w; go_simp; (try (with_reducible rfl)); done)
               go_simp
               refine wpAny_done (by kernel_rfl) ?_ _
        all_goals
          clear p0 p1 p2 p3 p4 p5 p6 r4'
          obtain ⟨wn, hwn⟩ : ∃ wn : Nat, D'.wr = wn := ⟨_, rfl⟩
          obtain ⟨fn, hfn⟩ : ∃ fn : Nat, D'.fl = fn := ⟨_, rfl⟩
          have hbw : wn ≤ 100000000 ∧ fn ≤ 100000000 := (by
            obtain ⟨_, _, h3, h4⟩ := HP1.out.s.lens
            have h5 : D'.abs.wr = D'.wr := rfl
            have h6 : D'.abs.fl = D'.fl := rfl
            omega)
          have HSp : Hid (Calls Tryz.prog 10 #[.pointer (some ⟨d', 0, none⟩)] w1 fun e w' => e = .returned (.tuple #[.int .i64 (wn : Int), .int .i64 (fn : Int)]) ∧ Below w1.heap.size w1 w') := (by have := steps_any w1 D' HP1.out.s.d; rw [HDR.out.1, hwn, hfn] at this; exact this)
          have HSx : Hid (∀ wx, Below w1.heap.size w1 wx → wx.cell? ⟨P, 0, none⟩ = some (.pointer (some ⟨d', 0, none⟩)) ∧ wx.cell? ⟨P, 1, none⟩ = some (.pointer (some ⟨r', 0, none⟩)) ∧ wx.cell? ⟨r', 5, none⟩ = some (.int .i64 (wn : Int)) ∧ wx.cell? ⟨r', 6, none⟩ = some (.int .i64 (fn : Int))) := fun wx hx => (by
            have h1 := HP1.out.on hx
            have t5 : D'.abs.wr = D'.wr := rfl
            have t6 : D'.abs.fl = D'.fl := rfl
            have z1 := h1.s.t.tie.wr
            have z2 := h1.s.t.tie.fl
            rw [t5, hwn] at z1
            rw [t6, hfn] at z2
            have x0 := cell_of_row _ _ 0 _ _ _ h1.box
            have x1 := cell_of_row _ _ 1 _ _ _ h1.box
            have x5 := h1.s.t.r.cell 5
            have x6 := h1.s.t.r.cell 6
            rw [HDR.out.2.1] at x5 x6
            refine ⟨by rw [← HDR.out.1]; exact x0, by rw [← HDR.out.2.1]; exact x1, by rw [z1]; exact x5, by rw [z2]; exact x6⟩)
          obtain ⟨TT, hT1, hT2⟩ := wtape HP1.out.s (by omega) ((n0 : Int))
          rw [HDR.out.1] at hT1
          rw [HDR.out.2.1] at hT2
          have HT1 : Hid (∀ wx, Below w1.heap.size w1 wx → Calls Tryz.prog 12 #[.pointer (some ⟨d', 0, none⟩), .int .i64 ((n0 : Int))] wx fun e w1 => ∃ a n c L, e = .returned (.slice a n c) ∧ L.length = n ∧ Acts w1 a L ∧ L.map ActR.abs = TT ∧ Below wx.heap.size wx w1) := hT1
          have HT2 : Hid (∀ wx, Below w1.heap.size w1 wx → Calls Tryz.prog 13 #[.pointer (some ⟨r', 0, none⟩), .int .i64 ((n0 : Int))] wx fun e w1 => ∃ a n c L, e = .returned (.slice a n c) ∧ L.length = n ∧ Acts w1 a L ∧ L.map ActR.abs = TT ∧ Below wx.heap.size wx w1) := hT2
          clear hT1 hT2 hwn hfn
          go_upto_region 19 with (go_at_call 10; refine HSp.out.mono ?_; rintro e w2 ⟨rfl, hb⟩; have H2 : Hid (Below w1.heap.size w1 w2) := hb; clear hb)
          clear c0' c1'
          have H2d : Hid (Below w1.heap.size w1 w2.drew) := H2.out.drew
          go_region_held3 (fun w' => w'.cell? ⟨P, 0, none⟩ = some (.pointer (some ⟨d', 0, none⟩)) ∧ w'.cell? ⟨P, 1, none⟩ = some (.pointer (some ⟨r', 0, none⟩)) ∧ w'.cell? ⟨r', 5, none⟩ = some (.int .i64 (wn : Int)) ∧ w'.cell? ⟨r', 6, none⟩ = some (.int .i64 (fn : Int))) (first | exact HSx.out _ H2d.out | exact HSx.out _ H3.out.2.2.2 | exact HSx.out _ H4b.out.2.2.2 | exact HSx.out _ H5.out) (first
            | (go_at_call 12; refine (HT1.out _ H2d.out).mono ?_; rintro e w3 ⟨a3, n3, c3, L3, rfl, h1, h2, h3, h4⟩; have H3 : Hid (L3.length = n3 ∧ Acts w3 a3 L3 ∧ L3.map ActR.abs = TT ∧ Below w1.heap.size w1 w3) := ⟨h1, h2, h3, H2d.out.trans (h4.mono H2d.out.size)⟩; clear h1 h2 h3 h4)
            | (go_at_call 13; refine (HT2.out _ H3.out.2.2.2).mono ?_; rintro e w4 ⟨a4, n4, c4, L4, rfl, h1, h2, h3, h4⟩; have H4b : Hid (L4.length = n4 ∧ Acts w4 a4 L4 ∧ L4.map ActR.abs = TT ∧ Below w1.heap.size w1 w4) := ⟨h1, h2, h3, H3.out.2.2.2.trans (h4.mono H3.out.2.2.2.size)⟩; have HA3 : Hid (Acts w4 a3 L3) := H3.out.2.1.on h4; have h34 : n4 = n3 := (by have e1 := congrArg List.length H3.out.2.2.1; have e2 := congrArg List.length h3; rw [List.length_map] at e1 e2; have := H3.out.1; omega); subst h34; clear h1 h2 h3 h4)
            | (go_at_call 11; refine (wsameActs_any w4 a3 a4 _ c3 c4 L3 L4 HA3.out H4b.out.2.1 (H3.out.2.2.1.trans H4b.out.2.2.1.symm) H3.out.1).mono ?_; rintro e w5 ⟨rfl, hb⟩; have H5 : Hid (Below w1.heap.size w1 w5) := H4b.out.2.2.2.trans (hb.mono H4b.out.2.2.2.size); clear hb))
          all_goals
            go_wp2
            exact ⟨⟨i + 1, hlm, hl40, rfl, D', R', tv', wv', B', (HP1.out.on H5.out).up (by omega)⟩, by simp [intOf]; omega⟩
    · obtain ⟨d, hd⟩ : ∃ d, D.d = d := ⟨_, rfl⟩
      obtain ⟨r, hr⟩ : ∃ r, R.r = r := ⟨_, rfl⟩
      obtain ⟨n1, hn1⟩ : ∃ n1, D.nb = n1 := ⟨_, rfl⟩
      have HDR : Hid (D.d = d ∧ R.r = r) := ⟨hd, hr⟩
      have HLl : Hid (D.las.length = 512 * n1) := by rw [← hn1]; exact HPl.out.s.d.lasl
      have HSx : Hid (∀ wx, Below wr.heap.size wr wx → wx.cell? ⟨P, 0, none⟩ = some (.pointer (some ⟨d, 0, none⟩)) ∧ wx.cell? ⟨P, 1, none⟩ = some (.pointer (some ⟨r, 0, none⟩))) := fun wx hx => by
        have h1 := HPl.out.on hx
        have x0 := cell_of_row _ _ 0 _ _ _ h1.box
        have x1 := cell_of_row _ _ 1 _ _ _ h1.box
        exact ⟨by rw [← HDR.out.1]; exact x0, by rw [← HDR.out.2]; exact x1⟩
      have HIm : Hid (∀ wx, Below wr.heap.size wr wx → Calls Tryz.prog 15 #[.pointer (some ⟨d, 0, none⟩)] wx fun e w' => ∃ g cap, e = .returned (.slice (some ⟨g, 0, none⟩) (512 * n1 : Nat) cap) ∧ wx.heap.size ≤ g ∧ OwnB w' g cap D.las ∧ Below wx.heap.size wx w') := fun wx hx => by
        have := image_any wx D (HPl.out.s.d.on hx); rw [hd, hn1] at this; exact this
      have HRm : Hid (∀ wx, Below wr.heap.size wr wx → Calls Tryz.prog 16 #[.pointer (some ⟨r, 0, none⟩)] wx fun e w' => ∃ g cap, e = .returned (.slice (some ⟨g, 0, none⟩) (512 * n1 : Nat) cap) ∧ wx.heap.size ≤ g ∧ OwnB w' g cap D.las ∧ Below wx.heap.size wx w') := fun wx hx => by
        have := (HPl.out.s.t.on hx).image; rw [hr] at this; rw [← hn1]; exact this
      have HWh : Hid (∀ wx, Below wr.heap.size wr wx → Calls Tryz.prog 17 #[.pointer (some ⟨P, 0, none⟩)] wx fun e w' => e = .returned (.bool true) ∧ Below wx.heap.size wx w') := fun wx hx => wwhole_any w wx P D R (i * 200) tv wv B (HPl.out.on hx) (by omega)
      clear hd hr hn1
      have HBd : Hid (Below wr.heap.size wr wr.drew) := (Below.refl _ _).drew
      have hcase : (¬ (i : Int) < (m : Int)) ∨ ((i : Int) < (m : Int) ∧ ¬ (i : Int) < 40) := by omega
      rcases hcase with hz | ⟨hz, hz2⟩
      all_goals
        go_upto_region 21 with fail
        go_region_held3 (fun w' => w'.cell? ⟨P, 0, none⟩ = some (.pointer (some ⟨d, 0, none⟩)) ∧ w'.cell? ⟨P, 1, none⟩ = some (.pointer (some ⟨r, 0, none⟩))) (first | exact HSx.out _ HBd.out | exact HSx.out _ H1x.out.2 | exact HSx.out _ H2x.out.2.2 | exact HSx.out _ H3x.out) (first
          | (go_at_call 15; refine (HIm.out _ HBd.out).mono ?_; rintro e v1 ⟨g1, k1, rfl, h1, h2, h3⟩; have H1x : Hid (OwnB v1 g1 k1 D.las ∧ Below wr.heap.size wr v1) := ⟨h2, HBd.out.trans (h3.mono HBd.out.size)⟩; clear h1 h2 h3)
          | (go_at_call 16; refine (HRm.out _ H1x.out.2).mono ?_; rintro e v2 ⟨g2, k2, rfl, h1, h2, h3⟩; have H2x : Hid (OwnB v2 g1 k1 D.las ∧ OwnB v2 g2 k2 D.las ∧ Below wr.heap.size wr v2) := ⟨H1x.out.1.on h3, h2, H1x.out.2.trans (h3.mono H1x.out.2.size)⟩; clear h1 h2 h3)
          | (go_at_call 14; refine (sameBytes_yes v2 _ _ (512 * n1) k1 k2 D.las H2x.out.1.bytes H2x.out.2.1.bytes HLl.out).mono ?_; rintro e w' ⟨rfl, rfl⟩)
          | (go_at_call 17; refine (HWh.out _ H2x.out.2.2).mono ?_; rintro e v3 ⟨rfl, h1⟩; have H3x : Hid (Below wr.heap.size wr v3) := H2x.out.2.2.trans (h1.mono H2x.out.2.2.size); clear h1))
        all_goals
          go_wp2
          go_ret
          exact ⟨rfl, HPl.out.s.be.trans (H3x.out.mono HPl.out.s.be.size)⟩
end Go.Proofs.YtamlbpbhlgmcoaaGreatDoor
