import Derived.Test.YtckldbhaaagncaaGreatDoorKTxWc
namespace Go.Proofs.YtckldbhaaagncaaGreatDoor
open Go.RowKit Go.Maps Rec

/-- handed puts: a block's number and a fill -/
structure PfsAt (w : World) (a : Option Addr) (P : List (Int × Int)) : Prop where
  len : P.length ≤ 1000000000000000
  at_ : P = [] ∨ ∃ b off, a = some ⟨b, off, none⟩ ∧ ∀ i q, P[i]? = some q → w.cell? ⟨b, off + i * 2, none⟩ = some (.int .i64 q.1) ∧ w.cell? ⟨b, off + i * 2 + 1, none⟩ = some (.int .i64 q.2)
theorem PfsAt.on {w w' : World} {a : Option Addr} {P : List (Int × Int)} (h : PfsAt w a P) (hb : Below w.heap.size w w') : PfsAt w' a P := by
  refine ⟨h.len, ?_⟩
  rcases h.at_ with e | ⟨b, off, e, hc⟩
  · exact .inl e
  · exact .inr ⟨b, off, e, fun i q hq => ⟨(hb.cell (block_lt_of_cell (hc i q hq).1)).trans (hc i q hq).1, (hb.cell (block_lt_of_cell (hc i q hq).2)).trans (hc i q hq).2⟩⟩
/-- the store behind some puts -/
def putL (s : List Int) (P : List (Int × Int)) : List Int := P.foldl (fun s q => s.set (q.1 % (s.length : Int)).toNat (q.2 % 1000)) s
theorem putL_length (P : List (Int × Int)) : ∀ s, (putL s P).length = s.length := by
  induction P with
  | nil => intro s; rfl
  | cons q P ih => intro s; show (putL _ P).length = _; rw [ih]; simp
theorem putL_snoc (s : List Int) (P : List (Int × Int)) (q : Int × Int) : putL s (P ++ [q]) = (putL s P).set (q.1 % (s.length : Int)).toNat (q.2 % 1000) := by
  rw [putL, List.foldl_append]
  show (putL s P).set (q.1 % ((putL s P).length : Int)).toNat (q.2 % 1000) = _
  rw [putL_length]
set_option maxRecDepth 100000 in
set_option maxHeartbeats 4000000 in
theorem stput_any (w : World) (a : Option Addr) (n c : Nat) (s : List Int) (hs : IntsAt w (.slice a n c) s) (hn : s.length = n) (h0 : 0 < n) (h1 : n ≤ 1000) (pa : Option Addr) (pn pc : Nat) (P : List (Int × Int)) (hP : PfsAt w pa P) (hp : P.length = pn) :
    Calls Tryz.prog 9 #[.slice a n c, .slice pa pn pc, .int .i64 90] w fun e w' => ∃ g cap, e = .returned (.slice (some ⟨g, 0, none⟩) n cap) ∧ w.heap.size ≤ g ∧ IntsAt w' (.slice (some ⟨g, 0, none⟩) n cap) (putL s (P.take 90)) ∧ Below w.heap.size w w' := by
  have HS : Hid (IntsAt w (.slice a n c) s ∧ s.length = n) := ⟨hs, hn⟩
  have HP : Hid (PfsAt w pa P ∧ P.length = pn) := ⟨hP, hp⟩
  obtain ⟨g0, rfl, _⟩ := hs.cellAt 0 (by rw [hn]; exact h0)
  clear hs hP hn hp
  obtain ⟨i0, hi, hz0, hz1, hz2⟩ := info_parts info3
  go_enter Tryz.func9, Tryz.ntmps9
  have HO : Hid ((w.alloc (.cells #[] 3)).ownsRow 0 3 1 (.slice (some ⟨w.heap.size, 0, none⟩) 0 0) 0 []) := ⟨rfl, .inr ⟨w.heap.size, 0, #[], rfl, Nat.zero_le _, heap_alloc_new _ _, Nat.le_refl _, Nat.zero_le _, rfl, rfl⟩⟩
  have HNw : Hid (∀ wx, Below w.heap.size w wx → ∀ (j : Nat) (y : Value), (s.map (Value.int .i64))[j]? = some y → wx.cell? ((⟨g0, 0, none⟩ : Addr).add j) = some y) := fun wx hb j y hy => by
    rw [List.getElem?_map] at hy
    cases e : s[j]? with
    | none => rw [e] at hy; cases hy
    | some z =>
      rw [e] at hy
      cases hy
      have hj : j < s.length := by
        rcases Nat.lt_or_ge j s.length with h | h
        · exact h
        · rw [List.getElem?_eq_none h] at e; cases e
      obtain ⟨g1, e1, hc⟩ := (HS.out.1.on hb).cellAt j hj
      cases e1
      rw [Addr.add_lit, Nat.zero_add]
      rw [hc]
      simp [nth, List.getD, e]
  go_upto_region 3 with (at_builtin; refine wp_own rfl (.tmp 9) (.tmp 10) 29 rfl 3 i0 _ 1 8 Tryz.underlying29 hi hz0 hz1 hz2 rfl (by decide) (.slice (some ⟨w.heap.size, 0, none⟩) 0 0) 0 _ rfl HO.out ⟨g0, 0, none⟩ n c (s.map (Value.int .i64)) rfl (by omega) (by rw [List.length_map, HS.out.2, Nat.mul_one]) (HNw.out _ ((Below.refl _ _).alloc (Nat.le_refl _) _)) (by intro u hu; simp at hu; obtain ⟨z, _, rfl⟩ := hu; rfl) (by unfold maxLen; omega) (by omega) ?_; intro g2 cap2 w2 ho hf hg; have H2 : Hid (w2.ownsRow 0 3 1 (.slice (some ⟨g2, 0, none⟩) n cap2) n ((putL s (P.take 0)).map (Value.int .i64)) ∧ w.heap.size ≤ g2 ∧ Below w.heap.size w w2) := ⟨by rw [Nat.zero_add] at ho; exact ho, by rcases hg with e | e <;> first | (cases e; exact Nat.le_refl _) | (simp at e; omega), ((Below.refl _ w).alloc (Nat.le_refl _) _).trans (hf.below _ (fun b hb => by cases hb; exact Nat.le_refl _) (by simp))⟩; clear ho hf hg)
  clear HO HNw
  go_loopw [8] (fun i wr => ∃ k : Nat, k ≤ pn ∧ k ≤ 90 ∧ i = .int .i64 k ∧ wr.ownsRow 0 3 1 (.slice (some ⟨g2, 0, none⟩) n cap2) n ((putL s (P.take k)).map (Value.int .i64)) ∧ Below w.heap.size w wr) (fun i _ => 90 - (intOf i).toNat)
  case atStart => exact ⟨0, Nat.zero_le _, by omega, rfl, H2.out.1, H2.out.2.2⟩
  case round =>
    obtain ⟨k, hk, hk9, rfl, hI, hgr⟩ := hrel
    have HI : Hid (wr.ownsRow 0 3 1 (.slice (some ⟨g2, 0, none⟩) n cap2) n ((putL s (P.take k)).map (Value.int .i64)) ∧ Below w.heap.size w wr) := ⟨hI, hgr⟩
    clear hI hgr
    have hEnd : P.take k = P.take 90 → IntsAt wr (.slice (some ⟨g2, 0, none⟩) n cap2) (putL s (P.take 90)) := fun e => by
      rw [← e]
      exact ints_of HI.out.1 (by rw [putL_length]; exact HS.out.2)
    by_cases hlt : k < pn
    · have hlti : (k : Int) < (pn : Int) := by omega
      by_cases h90 : k < 90
      · have h90i : (k : Int) < 90 := by omega
        obtain ⟨q, hq⟩ : ∃ q, P[k]? = some q := ⟨P[k]'(by rw [HP.out.2]; exact hlt), List.getElem?_eq_getElem _⟩
        obtain ⟨b, off, rfl, hc⟩ : ∃ b off, pa = some ⟨b, off, none⟩ ∧ wr.cell? ⟨b, off + k * 2, none⟩ = some (.int .i64 q.1) ∧ wr.cell? ⟨b, off + k * 2 + 1, none⟩ = some (.int .i64 q.2) := by
          rcases (HP.out.1.on HI.out.2).at_ with e | ⟨b, off, rfl, hc⟩
          · rw [e] at hq; cases hq
          · exact ⟨b, off, rfl, hc k q hq⟩
        obtain ⟨q1, q2⟩ := q
        obtain ⟨ix, hix⟩ : ∃ ix : Nat, q1 % (n : Int) = (ix : Int) := ⟨(q1 % (n : Int)).toNat, by have := Int.emod_nonneg q1 (b := (n : Int)) (by omega); omega⟩
        have hixn : ix < n := by have := Int.emod_lt_of_pos q1 (b := (n : Int)) (by omega); omega
        obtain ⟨y, hy⟩ : ∃ y : Int, q2 % 1000 = y := ⟨_, rfl⟩
        have HM1 : Hid (∀ wx, Calls Tryz.prog 4 #[.int .i64 q1, .int .i64 (n : Int)] wx fun e w' => e = .returned (.int .i64 (ix : Int)) ∧ wx = w') := fun wx => by
          have := ymod_any wx q1 n h0 (by omega)
          rw [hix] at this
          exact this
        have HM2 : Hid (∀ wx, Calls Tryz.prog 4 #[.int .i64 q2, .int .i64 1000] wx fun e w' => e = .returned (.int .i64 y) ∧ wx = w') := fun wx => by
          have := ymod_any wx q2 1000 (by omega) (by omega)
          rw [show ((1000 : Nat) : Int) = 1000 from rfl, hy] at this
          exact this
        have hc1 : wr.cell? ⟨b, off + k * 2, none⟩ = some (.int .i64 q1) := hc.1
        have hc2 : wr.cell? ⟨b, off + k * 2 + 1, none⟩ = some (.int .i64 q2) := hc.2
        have HQ : Hid ((wr.drew.setCell ⟨g2, ix, none⟩ (.int .i64 y)).ownsRow 0 3 1 (.slice (some ⟨g2, 0, none⟩) n cap2) n ((putL s (P.take (k + 1))).map (Value.int .i64)) ∧ Below w.heap.size w (wr.drew.setCell ⟨g2, ix, none⟩ (.int .i64 y))) := by
          refine ⟨?_, (HI.out.2.trans (((Below.refl _ wr).drew).mono HI.out.2.size)).grown grown_set (HI.out.2.trans (((Below.refl _ wr).drew).mono HI.out.2.size)).size (by intro k hk; cases hk; exact H2.out.2.1)⟩
          have e1 := owns_set (owns_on HI.out.1 ((Below.refl _ wr).drew)) ix (.int .i64 y)
          have e2 : P.take (k + 1) = P.take k ++ [(q1, q2)] := by rw [List.take_add_one, hq]; rfl
          rw [e2, putL_snoc, List.map_set, HS.out.2]
          show World.ownsRow _ _ _ _ _ _ (((putL s (P.take k)).map (Value.int .i64)).set (q1 % (n : Int)).toNat (.int .i64 (q2 % 1000)))
          rw [hix, hy]
          exact e1
        obtain ⟨a', c', e, _, _, hcs⟩ := owns_slice HI.out.1
        cases e
        have h3 := (hcs g2 0 rfl).2
        obtain ⟨u, hu⟩ : ∃ u, ((putL s (P.take k)).map (Value.int .i64))[ix]? = some u := ⟨_, List.getElem?_eq_getElem (by rw [List.length_map, putL_length, HS.out.2]; exact hixn)⟩
        have d := h3.1 ix u hu
        have f := h3.2 ix
        have hixi : (ix : Int) < (n : Int) := by omega
        clear h3 hcs hu hc hix hy hEnd hq
        go_upto_region 5 with (fail)
        refine wp_region_any (by as_aux_lemma => kernel_rfl) ?_
        try (change wpAny _ _ _ _ _ _ _ (World.drew _))
        refine wpAny_take (i := 0) (v := ?_) rfl (by as_aux_lemma => kernel_rfl) (by as_aux_lemma => kernel_rfl) (by as_aux_lemma => kernel_rfl) (fun _ _ _ h => h) (Or.inl ⟨by as_aux_lemma => kernel_rfl, ?_⟩) ?_
        rotate_left
        focus (intro w; go_simp; (try (with_reducible rfl)); done)
        go_simp
        refine wpAny_take (i := 1) (v := ?_) rfl (by as_aux_lemma => kernel_rfl) (by as_aux_lemma => kernel_rfl) (by as_aux_lemma => kernel_rfl) (fun _ _ _ h => h) (Or.inl ⟨by as_aux_lemma => kernel_rfl, ?_⟩) ?_
        rotate_left
        focus (intro w; go_simp; (try (with_reducible rfl)); done)
        go_simp
        refine wpAny_take (i := 2) (v := ?_) rfl (by as_aux_lemma => kernel_rfl) (by as_aux_lemma => kernel_rfl) (by as_aux_lemma => kernel_rfl) (fun _ _ _ h => h) (Or.inl ⟨by as_aux_lemma => kernel_rfl, ?_⟩) ?_
        rotate_left
        focus (intro w; go_simp; (try (with_reducible rfl)); done)
        go_simp
        refine wpAny_take (i := 3) (v := ?_) rfl (by as_aux_lemma => kernel_rfl) (by as_aux_lemma => kernel_rfl) (by as_aux_lemma => kernel_rfl) (fun _ _ _ h => h) (Or.inl ⟨by as_aux_lemma => kernel_rfl, ?_⟩) ?_
        rotate_left
        focus (intro w; go_simp; (try (with_reducible rfl)); done)
        go_simp
        refine wpAny_take (i := 4) (v := ?_) rfl (by as_aux_lemma => kernel_rfl) (by as_aux_lemma => kernel_rfl) (by as_aux_lemma => kernel_rfl) (fun _ _ _ h => h) (Or.inl ⟨by as_aux_lemma => kernel_rfl, ?_⟩) ?_
        rotate_left
        focus (intro w; go_simp; (try (with_reducible rfl)); done)
        go_simp
        refine wpAny_take (i := 6) (v := ?_) rfl (by as_aux_lemma => kernel_rfl) (by as_aux_lemma => kernel_rfl) (by as_aux_lemma => kernel_rfl) (fun _ _ _ h => h) (Or.inl ⟨by as_aux_lemma => kernel_rfl, ?_⟩) ?_
        rotate_left
        focus (intro w; go_simp; (try (with_reducible rfl)); done)
        go_simp
        refine wpAny_take (i := 7) (v := ?_) rfl (by as_aux_lemma => kernel_rfl) (by as_aux_lemma => kernel_rfl) (by as_aux_lemma => kernel_rfl) (fun _ _ _ h => h) (Or.inl ⟨by as_aux_lemma => kernel_rfl, ?_⟩) ?_
        rotate_left
        focus (intro w; go_simp; (try (with_reducible rfl)); done)
        go_simp
        refine wpAny_take (i := 9) (v := ?_) rfl (by as_aux_lemma => kernel_rfl) (by as_aux_lemma => kernel_rfl) (by as_aux_lemma => kernel_rfl) (fun _ _ _ h => h) (Or.inl ⟨by as_aux_lemma => kernel_rfl, ?_⟩) ?_
        rotate_left
        focus (intro w; go_simp; (try (with_reducible rfl)); done)
        go_simp
        refine wpAny_take (i := 10) (v := ?_) rfl (by as_aux_lemma => kernel_rfl) (by as_aux_lemma => kernel_rfl) (by as_aux_lemma => kernel_rfl) (fun _ _ _ h => h) (Or.inl ⟨by as_aux_lemma => kernel_rfl, ?_⟩) ?_
        rotate_left
        focus (intro w; go_simp; (try (with_reducible rfl)); done)
        go_simp
        refine wpAny_take (i := 11) (v := ?_) rfl (by as_aux_lemma => kernel_rfl) (by as_aux_lemma => kernel_rfl) (by as_aux_lemma => kernel_rfl) (fun _ _ _ h => h) (Or.inl ⟨by as_aux_lemma => kernel_rfl, ?_⟩) ?_
        rotate_left
        focus (intro w; go_simp; (try (with_reducible rfl)); done)
        go_simp
        refine wpAny_take (i := 12) (v := ?_) rfl (by as_aux_lemma => kernel_rfl) (by as_aux_lemma => kernel_rfl) (by as_aux_lemma => kernel_rfl) (fun _ _ _ h => h) (Or.inl ⟨by as_aux_lemma => kernel_rfl, ?_⟩) ?_
        rotate_left
        focus (intro w; go_simp; (try (with_reducible rfl)); done)
        go_simp
        refine wpAny_ready (rs := [5, 13]) (by as_aux_lemma => kernel_rfl) (by simp) ?_
        refine AllReady.cons rfl (fun K hK => ?_) ?_
        · go_simp
          try go_simp
          first
            | (refine hK _ _ ?_; clear hK K)
            | skip
          refine wpAny_ready (rs := [8, 13]) (by as_aux_lemma => kernel_rfl) (by simp) ?_
          refine AllReady.cons rfl (fun K hK => ?_) ?_
          · (go_simp; go_at_call 4; refine (HM1.out _).mono ?_; rintro e w' ⟨rfl, rfl⟩)
            try go_simp
            first
              | (refine hK _ _ ?_; clear hK K)
              | skip
            refine wpAny_ready (rs := [13]) (by as_aux_lemma => kernel_rfl) (by simp) ?_
            refine AllReady.cons rfl (fun K hK => ?_) ?_
            · go_simp
              try go_simp
              first
                | (refine hK _ _ ?_; clear hK K)
                | skip
              refine wpAny_ready (rs := [14]) (by as_aux_lemma => kernel_rfl) (by simp) ?_
              refine AllReady.cons rfl (fun K hK => ?_) ?_
              · (go_simp; go_at_call 4; refine (HM2.out _).mono ?_; rintro e w' ⟨rfl, rfl⟩)
                try go_simp
                first
                  | (refine hK _ _ ?_; clear hK K)
                  | skip
                refine wpAny_take (i := 15) (v := ?_) rfl (by as_aux_lemma => kernel_rfl) (by as_aux_lemma => kernel_rfl) (by as_aux_lemma => kernel_rfl) (fun _ _ _ h => h) (Or.inl ⟨by as_aux_lemma => kernel_rfl, ?_⟩) ?_
                rotate_left
                focus (intro w; go_simp; (try (with_reducible rfl)); done)
                go_simp
                refine wpAny_ready (rs := [16]) (by as_aux_lemma => kernel_rfl) (by simp) ?_
                refine AllReady.cons rfl (fun K hK => ?_) ?_
                · go_simp
                  try go_simp
                  first
                    | (refine hK _ _ ?_; clear hK K)
                    | skip
                  refine wpAny_done (by kernel_rfl) ?_ _
                  go_wp2
                  exact ⟨⟨k + 1, hlt, h90, rfl, HQ.out.1, HQ.out.2⟩, by simp [intOf]; omega⟩
                exact AllReady.nil
              exact AllReady.nil
            exact AllReady.nil
          refine AllReady.cons rfl (fun K hK => ?_) ?_
          · go_simp
            try go_simp
            first
              | (refine hK _ _ ?_; clear hK K)
              | skip
            refine wpAny_ready (rs := [8]) (by as_aux_lemma => kernel_rfl) (by simp) ?_
            refine AllReady.cons rfl (fun K hK => ?_) ?_
            · (go_simp; go_at_call 4; refine (HM1.out _).mono ?_; rintro e w' ⟨rfl, rfl⟩)
              try go_simp
              first
                | (refine hK _ _ ?_; clear hK K)
                | skip
              refine wpAny_ready (rs := [14]) (by as_aux_lemma => kernel_rfl) (by simp) ?_
              refine AllReady.cons rfl (fun K hK => ?_) ?_
              · (go_simp; go_at_call 4; refine (HM2.out _).mono ?_; rintro e w' ⟨rfl, rfl⟩)
                try go_simp
                first
                  | (refine hK _ _ ?_; clear hK K)
                  | skip
                refine wpAny_take (i := 15) (v := ?_) rfl (by as_aux_lemma => kernel_rfl) (by as_aux_lemma => kernel_rfl) (by as_aux_lemma => kernel_rfl) (fun _ _ _ h => h) (Or.inl ⟨by as_aux_lemma => kernel_rfl, ?_⟩) ?_
                rotate_left
                focus (intro w; go_simp; (try (with_reducible rfl)); done)
                go_simp
                refine wpAny_ready (rs := [16]) (by as_aux_lemma => kernel_rfl) (by simp) ?_
                refine AllReady.cons rfl (fun K hK => ?_) ?_
                · go_simp
                  try go_simp
                  first
                    | (refine hK _ _ ?_; clear hK K)
                    | skip
                  refine wpAny_done (by kernel_rfl) ?_ _
                  go_wp2
                  exact ⟨⟨k + 1, hlt, h90, rfl, HQ.out.1, HQ.out.2⟩, by simp [intOf]; omega⟩
                exact AllReady.nil
              exact AllReady.nil
            exact AllReady.nil
          exact AllReady.nil
        refine AllReady.cons rfl (fun K hK => ?_) ?_
        · go_simp
          try go_simp
          first
            | (refine hK _ _ ?_; clear hK K)
            | skip
          refine wpAny_ready (rs := [5]) (by as_aux_lemma => kernel_rfl) (by simp) ?_
          refine AllReady.cons rfl (fun K hK => ?_) ?_
          · go_simp
            try go_simp
            first
              | (refine hK _ _ ?_; clear hK K)
              | skip
            refine wpAny_ready (rs := [8]) (by as_aux_lemma => kernel_rfl) (by simp) ?_
            refine AllReady.cons rfl (fun K hK => ?_) ?_
            · (go_simp; go_at_call 4; refine (HM1.out _).mono ?_; rintro e w' ⟨rfl, rfl⟩)
              try go_simp
              first
                | (refine hK _ _ ?_; clear hK K)
                | skip
              refine wpAny_ready (rs := [14]) (by as_aux_lemma => kernel_rfl) (by simp) ?_
              refine AllReady.cons rfl (fun K hK => ?_) ?_
              · (go_simp; go_at_call 4; refine (HM2.out _).mono ?_; rintro e w' ⟨rfl, rfl⟩)
                try go_simp
                first
                  | (refine hK _ _ ?_; clear hK K)
                  | skip
                refine wpAny_take (i := 15) (v := ?_) rfl (by as_aux_lemma => kernel_rfl) (by as_aux_lemma => kernel_rfl) (by as_aux_lemma => kernel_rfl) (fun _ _ _ h => h) (Or.inl ⟨by as_aux_lemma => kernel_rfl, ?_⟩) ?_
                rotate_left
                focus (intro w; go_simp; (try (with_reducible rfl)); done)
                go_simp
                refine wpAny_ready (rs := [16]) (by as_aux_lemma => kernel_rfl) (by simp) ?_
                refine AllReady.cons rfl (fun K hK => ?_) ?_
                · go_simp
                  try go_simp
                  first
                    | (refine hK _ _ ?_; clear hK K)
                    | skip
                  refine wpAny_done (by kernel_rfl) ?_ _
                  go_wp2
                  exact ⟨⟨k + 1, hlt, h90, rfl, HQ.out.1, HQ.out.2⟩, by simp [intOf]; omega⟩
                exact AllReady.nil
              exact AllReady.nil
            exact AllReady.nil
          exact AllReady.nil
        exact AllReady.nil
      · have hk90 : k = 90 := by omega
        have hh90 : ¬ (k : Int) < 90 := by omega
        have HE : Hid (IntsAt wr (.slice (some ⟨g2, 0, none⟩) n cap2) (putL s (P.take 90))) := hEnd (by rw [hk90])
        clear hEnd hk90
        go_wp2
        go_ret
        exact ⟨g2, cap2, rfl, H2.out.2.1, HE.out, HI.out.2⟩
    · have hlti : ¬ (k : Int) < (pn : Int) := by omega
      have HE : Hid (IntsAt wr (.slice (some ⟨g2, 0, none⟩) n cap2) (putL s (P.take 90))) := hEnd (by have := HP.out.2; rw [List.take_of_length_le (by omega), List.take_of_length_le (by omega)])
      clear hEnd
      go_wp2
      go_ret
      exact ⟨g2, cap2, rfl, H2.out.2.1, HE.out, HI.out.2⟩
end Go.Proofs.YtckldbhaaagncaaGreatDoor

namespace Go.Proofs.YtckldbhaaagncaaGreatDoor
open Go.RowKit Go.Maps Rec

structure CrR where
  t : Int
  a : Option Addr
  c : Nat
  keep : List Bool
structure CrOk (w : World) (q : CrR) : Prop where
  bools : Bools w (.slice q.a q.keep.length q.c) q.keep
  nil : q.a = none → q.c = 0
  len : q.keep.length ≤ 140737488351232
  lo : -9223372036854775808 ≤ q.t
  hi : q.t ≤ 9223372036854775807
theorem CrOk.on {w w' : World} {q : CrR} (h : CrOk w q) (hb : Below w.heap.size w w') : CrOk w' q := ⟨h.bools.on hb, h.nil, h.len, h.lo, h.hi⟩
def CrR.cells (q : CrR) : List Value := [.int .i64 q.t, .slice q.a q.keep.length q.c]
structure CrsAt (w : World) (a : Option Addr) (C : List CrR) : Prop where
  len : C.length ≤ 1000000000000000
  at_ : C = [] ∨ ∃ b off, a = some ⟨b, off, none⟩ ∧ ∀ i q, C[i]? = some q → w.cell? ⟨b, off + i * 2, none⟩ = some (.int .i64 q.t) ∧ w.cell? ⟨b, off + i * 2 + 1, none⟩ = some (.slice q.a q.keep.length q.c) ∧ CrOk w q
theorem CrsAt.on {w w' : World} {a : Option Addr} {C : List CrR} (h : CrsAt w a C) (hb : Below w.heap.size w w') : CrsAt w' a C := by
  refine ⟨h.len, ?_⟩
  rcases h.at_ with e | ⟨b, off, e, hc⟩
  · exact .inl e
  · refine .inr ⟨b, off, e, fun i q hq => ?_⟩
    obtain ⟨h1, h2, h3⟩ := hc i q hq
    exact ⟨(hb.cell (block_lt_of_cell h1)).trans h1, (hb.cell (block_lt_of_cell h2)).trans h2, h3.on hb⟩

/-- the recovery that ends, and what it has counted -/
structure EndC (nb : Nat) (w0 w : World) (E : Dk) (W : List Int) : Prop where
  en : Ended nb w0 w E W
  wr : E.abs.wr ≤ 1000
  fl : E.abs.fl ≤ 1000
  tp : E.abs.T.length ≤ 1000
  kp : E.abs.keep = []
theorem EndC.mine {nb : Nat} {w0 w : World} {E : Dk} {W : List Int} (h : EndC nb w0 w E W) : Mine w0 w E := h.en.mine
theorem EndC.rest {nb : Nat} {w0 w : World} {E : Dk} {W : List Int} (h : EndC nb w0 w E W) : Rest E.abs nb E.las := h.en.rest
theorem EndC.on {nb : Nat} {w0 w w' : World} {E : Dk} {W : List Int} (h : EndC nb w0 w E W) (hb : Below w.heap.size w w') : EndC nb w0 w' E W := ⟨h.en.on hb, h.wr, h.fl, h.tp, h.kp⟩
theorem recover_endsC (nb : Nat) (hn0 : 98 ≤ nb) (w0 w : World) (Y : Dk) (W l : List Int) (hM : Mine w0 w Y) (hF : Fresh Y.abs nb l) (hW : Well nb W l) (hT : TabAt w) :
    Calls Tryz.prog 31 #[.pointer (some ⟨Y.d, 0, none⟩)] w fun e w' => ∃ k : Int, e = .returned (.tuple #[.int .i64 k, .int .i64 0]) ∧ ∃ E, EndC nb w0 w' E W ∧ E.d = Y.d ∧ Mv w Y w' E := by
  have hfl : Y.full = l := hF.full
  have hnb : Y.nb = nb := hF.size
  have hd : Y.down = false := hF.down
  have he : openE Y = 0 := well_openE hW hfl hd hnb
  by_cases h0 : logN l nb = []
  · have hz := log_nil hF.len (by omega) hW.ok h0
    refine (recover_nil w Y hM.disk hT he (by rw [hfl, hnb]; exact h0)).mono ?_
    rintro e w' ⟨rfl, hb⟩
    have hls : Y.las = l := hF.las
    refine ⟨0, rfl, Y, ⟨⟨hM.on hb, ⟨hF.size, rfl, hF.pen, hF.down, hF.at_, by rw [hls]; exact hF.len, by rw [hls]; exact hz⟩, ?_⟩, by rw [hF.wr]; omega, by rw [hF.fl]; omega, by rw [hF.tape]; simp, hF.keep⟩, rfl, mv_on _ _ _ hb⟩
    rw [hls]
    have := hW.like
    rw [behind_empty hF.len (by omega) hz] at this
    exact this
  · obtain ⟨k, hk0⟩ : ∃ k, (logN l nb).length = k := ⟨_, rfl⟩
    have hkp : 0 < k := by
      rcases Nat.eq_zero_or_pos k with e | e
      · exact absurd (List.length_eq_zero_iff.1 (hk0.trans e)) h0
      · exact e
    have hk96 := logN_len l nb
    obtain ⟨y1, y2, y3, y4, y5⟩ := hF.home
    have := recover_yes w Y hM.disk hT he k (by rw [hfl, hnb]; exact hk0) hkp (hF.room _ (by omega))
    rw [hfl, hnb] at this
    refine this.mono ?_
    rintro e w' ⟨hr, E, hE⟩
    have hE2 : E.abs = Y.abs.take (homeA (logH l nb)) := hE.abs
    have hall : Y.abs.take (homeA (logH l nb)) = Y.abs.all [logH l nb, [(1, zs)]] := by
      rw [homeA_grp]
      exact (take_grp [logH l nb, [(1, zs)]] Y.abs hF.pen hF.down (by rw [hF.at_]; exact .inl (Int.le_refl _))).1
    have hls : E.las = behind l nb := (show E.abs.las = behind l nb from by rw [hE2]; exact y2)
    have hc96 : (logH l nb).length ≤ 96 := by
      unfold logH homes
      simp
      omega
    refine ⟨k, ?_, E, ⟨⟨hM.done hE, ⟨?_, rfl, ?_, ?_, ?_, ?_, ?_⟩, ?_⟩, ?_, ?_, ?_, ?_⟩, hE.mv.d, hE.mv⟩
    · rcases hr with ⟨_, rfl⟩ | ⟨e1, _⟩
      · rfl
      · rw [y1] at e1; exact absurd e1 (by decide)
    · rw [hE2, hall]; exact hF.size
    · rw [hE2, hall]; rfl
    · rw [hE2, hall]; exact hF.down
    · rw [hE2, hall]
      show (if 0 < Y.abs.at_ then _ else Y.abs.at_) = 0
      rw [hF.at_]; rfl
    · rw [hls, behind_length]; exact hF.len
    · rw [hls]; exact behind_one l nb hF.len (by omega)
    · rw [hls]; exact hW.like
    · rw [hE2, hall]
      show Y.abs.wr + ([logH l nb, [(1, zs)]] : List (List (Nat × List Int))).flatten.length ≤ 1000
      rw [hF.wr]; simp; omega
    · rw [hE2, hall]
      show Y.abs.fl + 2 ≤ 1000
      rw [hF.fl]; omega
    · rw [hE2, hall]
      show (Y.abs.T ++ (grp [logH l nb, [(1, zs)]]).map actT).length ≤ 1000
      rw [hF.tape]; simp [grp]; omega
    · rw [hE2, hall]; exact hF.keep
set_option maxRecDepth 100000 in
set_option maxHeartbeats 8000000 in
theorem mended_any (nb : Nat) (h98 : 98 ≤ nb) (hnb : nb ≤ 1000) (w : World) (X : Dk) (W : List Int) (hX : Disk w X) (hW : Well nb W X.las) (hXn : X.nb = nb) (ca : Option Addr) (cn cc : Nat) (C : List CrR) (hC : CrsAt w ca C) (hcn : C.length = cn) (hT : TabAt w) :
    Calls Tryz.prog 19 #[.pointer (some ⟨X.d, 0, none⟩), .slice ca cn cc] w fun e w' => ∃ E, e = .returned (.tuple #[.pointer (some ⟨E.d, 0, none⟩), .bool true]) ∧ EndC nb w w' E W := by
  obtain ⟨N, hN⟩ : ∃ N, 512 * nb = N := ⟨_, rfl⟩
  have hN1 : N ≤ 512000 := by omega
  have HH : Hid (∀ wx, Below w.heap.size w wx → TabAt wx ∧ CrsAt wx ca C) := fun wx hb => ⟨hT.on hb, hC.on hb⟩
  have HCn : Hid (C.length = cn ∧ 512 * nb = N) := ⟨hcn, hN⟩
  have HImX : Hid (Calls Tryz.prog 30 #[.pointer (some ⟨X.d, 0, none⟩)] w fun e w' => ∃ g cap, e = .returned (.slice (some ⟨g, 0, none⟩) N cap) ∧ OwnB w' g cap X.las ∧ Below w.heap.size w w') := by
    have := image_any w X hX
    rw [hXn, hN] at this
    refine this.mono ?_
    rintro e w' ⟨g, cap, rfl, hg, ho, hb⟩
    exact ⟨g, cap, rfl, ho, hb⟩
  have HOp : Hid (∀ wx g cap l, Below w.heap.size w wx → OwnB wx g cap l → Well nb W l → Calls Tryz.prog 29 #[.slice (some ⟨g, 0, none⟩) N cap] wx fun e w' => ∃ Y, e = .returned (.tuple #[.pointer (some ⟨Y.d, 0, none⟩), .int .i64 0]) ∧ Mine w w' Y ∧ Fresh Y.abs nb l) := fun wx g cap l hb ho hw => by
    rw [← hN]
    refine (open_fresh wx ⟨g, 0, none⟩ cap nb l ho.bytes hw.len (by omega) (by omega)).mono ?_
    rintro e w' ⟨Y, rfl, hM, hF⟩
    exact ⟨Y, rfl, hM.far' hb, hF⟩
  have HW0 : Hid (Well nb W X.las) := hW
  have hptr := ptr_nil
  clear hT hC hcn hX hW hXn hN
  obtain ⟨x0, hx0⟩ : ∃ x0, X.d = x0 := ⟨_, rfl⟩
  rw [hx0] at HImX ⊢
  clear hx0
  go_enter Tryz.func19, Tryz.ntmps19
  go_upto_region 5 with (first
    | (go_at_call 30; refine HImX.out.mono ?_; rintro e w1 ⟨g1, c1, rfl, ho, hb⟩; have H1 : Hid (OwnB w1 g1 c1 X.las ∧ Below w.heap.size w w1) := ⟨ho, hb⟩; clear ho hb)
    | (go_at_call 29; refine (HOp.out w1 g1 c1 _ H1.out.2 H1.out.1 HW0.out).mono ?_; rintro e w2 ⟨Y, rfl, hM, hF⟩; have H2 : Hid (Mine w w2 Y ∧ Fresh Y.abs nb X.las ∧ Well nb W X.las) := ⟨hM, hF, HW0.out⟩; clear hM hF))
  clear HImX H1
  go_loopw [6, 8] (fun s6 s8 wr => ∃ (i : Nat) (Y : Dk) (l : List Int), i ≤ 20 ∧ i ≤ cn ∧ s8 = .int .i64 i ∧ s6 = .pointer (some ⟨Y.d, 0, none⟩) ∧ Mine w wr Y ∧ Fresh Y.abs nb l ∧ Well nb W l) (fun _ s _ => 20 - (intOf s).toNat)
  case atStart => exact ⟨0, Y, X.las, by omega, by omega, rfl, rfl, H2.out⟩
  case round =>
    clear H2
    obtain ⟨i, Y, l, hi, hic, rfl, rfl, hI⟩ := hrel
    have HI : Hid (Mine w wr Y ∧ Fresh Y.abs nb l ∧ Well nb W l) := hI
    clear hI
    by_cases hgo : i < cn ∧ i < 20
    · obtain ⟨hic2, hi20⟩ := hgo
      have hii : (i : Int) < (cn : Int) := by omega
      have hij : (i : Int) < 20 := by omega
      obtain ⟨r, hr⟩ : ∃ r, C[i]? = some r := ⟨C[i]'(by rw [HCn.out.1]; exact hic2), List.getElem?_eq_getElem _⟩
      obtain ⟨b, off, e, e1, e2, e3⟩ : ∃ b off, ca = some ⟨b, off, none⟩ ∧ wr.cell? ⟨b, off + i * 2, none⟩ = some (.int .i64 r.t) ∧ wr.cell? ⟨b, off + i * 2 + 1, none⟩ = some (.slice r.a r.keep.length r.c) ∧ CrOk wr r := by
        rcases (HH.out _ HI.out.1.bel).2.at_ with e | ⟨b, off, e, hc⟩
        · rw [e] at hr; simp at hr
        · exact ⟨b, off, e, hc i r hr⟩
      subst e
      have HAr : Hid (Calls Tryz.prog 15 #[.pointer (some ⟨Y.d, 0, none⟩), .agg #[.int .i64 r.t, .slice r.a r.keep.length r.c]] wr fun e w' => e = .returned (.int .i64 0) ∧ ∃ A, A.d = Y.d ∧ Mine w w' A ∧ A.abs = Y.abs.arm r.t r.keep) := by
        refine (arm_yes wr Y HI.out.1.disk r.t r.a r.c r.keep e3.bools e3.nil (by have := e3.len; omega) e3.hi HI.out.2.1.down).mono ?_
        rintro e w' ⟨rfl, A, x1, x2, x3, x4⟩
        exact ⟨rfl, A, x2.d, HI.out.1.step x1 x2 x3, x4⟩
      have HRc : Hid (∀ wx A, Mine w wx A → A.abs = Y.abs.arm r.t r.keep → Calls Tryz.prog 31 #[.pointer (some ⟨A.d, 0, none⟩)] wx fun e w' => ∃ k r : Int, e = .returned (.tuple #[.int .i64 k, .int .i64 r]) ∧ ∃ Z, Z.d = A.d ∧ Mine w w' Z ∧ Z.nb = nb ∧ Well nb W Z.las ∧ ((r = 0 ∧ Z.down = false) ∨ (r = 30 ∧ Z.down = true))) := fun wx A hM hab => by
        have hF := HI.out.2.1
        have ga : ∀ {β : Type} (f : AD → β), f A.abs = f (Y.abs.arm r.t r.keep) := fun f => congrArg f hab
        have q1 : A.las = l := (ga AD.las).trans hF.las
        have q2 : A.nb = nb := (ga AD.nb).trans hF.size
        refine (recover_armed nb h98 w wx A W hM (by rw [q1]; exact HI.out.2.2) q2 ((ga AD.P).trans hF.pen) ((ga AD.down).trans hF.down) (by rw [ga AD.wr]; show Y.abs.wr ≤ 1000000; rw [hF.wr]; omega) (by rw [ga AD.fl]; show Y.abs.fl ≤ 1000000; rw [hF.fl]; omega) (by rw [ga AD.T]; show Y.abs.T.length ≤ 1000000; rw [hF.tape]; simp) (by rw [ga AD.keep]; show r.keep.length ≤ _; have := e3.len; omega) (HH.out _ hM.bel).1).mono ?_
        rintro e w' ⟨k, r', rfl, Z, y1, y2, y3, y4, y5⟩
        exact ⟨k, r', rfl, Z, y2, y1, y3.nb.trans q2, y4, y5⟩
      clear hr e3
      generalize r.t = rt at *
      generalize r.a = ra at *
      generalize r.c = rc at *
      generalize r.keep.length = rl at *
      go_upto_region 10 with (first
        | (go_at_call 15; refine HAr.out.mono ?_; rintro e w13 ⟨rfl, A, hAd, x1, x2⟩; have H14 : Hid (Mine w w13 A ∧ A.abs = Y.abs.arm rt r.keep) := ⟨x1, x2⟩; rw [← hAd]; clear x1 x2 hAd HAr)
        | (go_at_call 31; refine (HRc.out _ _ H14.out.1 H14.out.2).mono ?_; rintro e w14 ⟨kk, rr, rfl, Z, hZd, y1, y2, y3, y4⟩; have H15 : Hid (Mine w w14 Z ∧ Z.nb = nb ∧ Well nb W Z.las) := ⟨y1, y2, y3⟩; have HY3 : Hid ((rr = 0 ∧ Z.down = false) ∨ (rr = 30 ∧ Z.down = true)) := y4; rw [← hZd]; clear y1 y2 y3 y4 hZd HRc))
      clear e1 e2 H14 HI
      have HDn : Hid (Calls Tryz.prog 17 #[.pointer (some ⟨Z.d, 0, none⟩)] w14 fun e w' => e = .returned (.bool Z.down) ∧ w14 = w') := down_any w14 Z H15.out.1.disk
      go_cut [62] (fun s wx => s = .bool false ∧ w14 = wx)
      case first => as_aux_lemma =>
        rcases HY3.out with ⟨z1, z2⟩ | ⟨z1, z2⟩
        · rw [z2] at HDn
          have v1 : (rr == 30) = false := by rw [z1]; rfl
          have v2 : (rr != 0) = false := by rw [z1]; rfl
          have v3 : (rr == 0) = true := by rw [z1]; rfl
          clear z1 z2
          go_wp2_with (go_at_call 17; refine HDn.out.mono ?_; rintro e w' ⟨rfl, rfl⟩)
          go_meet
          case rel => exact ⟨by first | rfl | simp, rfl⟩
        · rw [z2] at HDn
          have v1 : (rr == 30) = true := by rw [z1]; rfl
          have v2 : (rr != 0) = true := by rw [z1]; rfl
          have v3 : (rr == 0) = false := by rw [z1]; rfl
          have v4 : (rr != 30) = false := by rw [z1]; rfl
          clear z1 z2
          go_wp2_with (go_at_call 17; refine HDn.out.mono ?_; rintro e w' ⟨rfl, rfl⟩)
          go_meet
          case rel => exact ⟨by first | rfl | simp, rfl⟩
      case rest =>
      obtain ⟨rfl, rfl⟩ := hcut
      clear HDn HY3
      have HImZ : Hid (Calls Tryz.prog 30 #[.pointer (some ⟨Z.d, 0, none⟩)] w14 fun e w' => ∃ g cap, e = .returned (.slice (some ⟨g, 0, none⟩) N cap) ∧ OwnB w' g cap Z.las ∧ Below w.heap.size w w') := by
        have := image_any w14 Z H15.out.1.disk
        rw [H15.out.2.1, HCn.out.2] at this
        refine this.mono ?_
        rintro e w' ⟨g, cap, rfl, hg, ho, hb⟩
        exact ⟨g, cap, rfl, ho, H15.out.1.bel.trans (hb.mono H15.out.1.bel.size)⟩
      go_wp2_with (first
        | (go_at_call 30; refine HImZ.out.mono ?_; rintro e w16 ⟨g16, c16, rfl, ho, hb⟩; have H16 : Hid (OwnB w16 g16 c16 Z.las ∧ Below w.heap.size w w16) := ⟨ho, hb⟩; clear ho hb)
        | (go_at_call 29; refine (HOp.out w16 g16 c16 _ H16.out.2 H16.out.1 H15.out.2.2).mono ?_; rintro e w17 ⟨Y2, rfl, hM, hF⟩; have H17 : Hid (Mine w w17 Y2 ∧ Fresh Y2.abs nb Z.las ∧ Well nb W Z.las) := ⟨hM, hF, H15.out.2.2⟩; clear hM hF))
      exact ⟨⟨i + 1, Y2, Z.las, by omega, by omega, rfl, rfl, H17.out⟩, by simp [intOf]; omega⟩
    · have HRe : Hid (Calls Tryz.prog 31 #[.pointer (some ⟨Y.d, 0, none⟩)] wr fun e w' => ∃ (k : Int) (E : Dk), e = .returned (.tuple #[.int .i64 k, .int .i64 0]) ∧ E.d = Y.d ∧ EndC nb w w' E W) := by
        refine (recover_endsC nb h98 w wr Y W l HI.out.1 HI.out.2.1 HI.out.2.2 (HH.out _ HI.out.1.bel).1).mono ?_
        rintro e w' ⟨k, rfl, E, h1, h2, _⟩
        exact ⟨k, E, rfl, h2, h1⟩
      have hK : ((i : Int) < (cn : Int) ∧ ¬ (i : Int) < 20) ∨ ¬ (i : Int) < (cn : Int) := by omega
      clear hgo
      rcases hK with ⟨k1, k2⟩ | k1
      all_goals
        go_upto_region 16 with (go_at_call 31; refine HRe.out.mono ?_; rintro e w15 ⟨k5, E, rfl, hEd, hE⟩; have H15 : Hid (EndC nb w w15 E W) := hE; rw [← hEd]; clear hE hEd HRe)
        clear HI
        have hEn : E.nb = nb := H15.out.rest.size
        have HEl : Hid (E.las.length = N) := by rw [← HCn.out.2]; exact H15.out.rest.len
        have HIm0 : Hid (∀ wx, Below w15.heap.size w15 wx → Calls Tryz.prog 30 #[.pointer (some ⟨E.d, 0, none⟩)] wx fun e w' => ∃ g cap, e = .returned (.slice (some ⟨g, 0, none⟩) N cap) ∧ OwnB w' g cap E.las ∧ Below wx.heap.size wx w') := fun wx hb => by
          have := image_any wx E (H15.out.mine.disk.on hb)
          rw [hEn, HCn.out.2] at this
          refine this.mono ?_
          rintro e w' ⟨g, cap, rfl, hg, ho, hb⟩
          exact ⟨g, cap, rfl, ho, hb⟩
        clear hEn
        have hcv : ∀ wx g c, OwnB wx g c E.las → (convert 42 9 (.slice (some ⟨g, 0, none⟩) N c)).run Tryz.prog wx = .ok (.string (strOfNums E.las)) wx := fun wx g c ho => str_opt ho.bytes HEl.out
        have HRn : Hid (∀ wx, Below w15.heap.size w15 wx → Calls Tryz.prog 31 #[.pointer (some ⟨E.d, 0, none⟩)] wx fun e w' => e = .returned (.tuple #[.int .i64 0, .int .i64 0]) ∧ Below wx.heap.size wx w') := fun wx hb => by
          have hR := H15.out.rest
          have hx := H15.out.mine.on hb
          have hfl : E.full = E.las := hR.fullD
          have hn : E.nb = nb := hR.size
          have hlg := log_empty h98 hR.log
          exact recover_nil wx E hx.disk (HH.out _ hx.bel).1 (well_openE (hR.well h98) hfl hR.down hn) (by rw [hfl, hn]; exact hlg.1)
        go_upto_region 17 with (go_at_call 30; refine (HIm0.out w15 (Below.refl _ _)).mono ?_; rintro e w16 ⟨g16, c16, rfl, ho, hb⟩; have H16 : Hid (Below w15.heap.size w15 w16) := hb; have e16 := hcv _ _ _ ho; clear ho hb)
        clear e16
        go_upto_region 18 with (go_at_call 31; refine (HRn.out w16 H16.out).mono ?_; rintro e w17 ⟨rfl, hb⟩; have H17 : Hid (Below w15.heap.size w15 w17) := H16.out.trans (hb.mono H16.out.size); clear hb)
        have HE : Hid (EndC nb w w17 E W) := H15.out.on H17.out
        have HPe : Hid (∀ wx, Below w17.heap.size w17 wx → Calls Tryz.prog 18 #[.pointer (some ⟨E.d, 0, none⟩)] wx fun e w' => ∃ g c, e = .returned (.slice (some ⟨g, 0, none⟩) 0 c) ∧ Below wx.heap.size wx w') := fun wx hb => by
          have := pending_any wx E (HE.out.mine.disk.on hb)
          have h0 : E.pen.length = 0 := by
            have h1 : E.abs.P = [] := HE.out.rest.pen
            have h2 : E.abs.P.length = E.pen.length := by simp [Dk.abs]
            rw [h1] at h2
            exact h2.symm
          rw [h0] at this
          refine this.mono ?_
          rintro e w' ⟨g, c, rfl, _, _, hb⟩
          exact ⟨g, c, rfl, hb⟩
        have HIm : Hid (∀ wx, Below w17.heap.size w17 wx → Calls Tryz.prog 30 #[.pointer (some ⟨E.d, 0, none⟩)] wx fun e w' => ∃ g cap, e = .returned (.slice (some ⟨g, 0, none⟩) N cap) ∧ OwnB w' g cap E.las ∧ Below wx.heap.size wx w') := fun wx hb => HIm0.out wx (H17.out.trans (hb.mono H17.out.size))
        have HD : Hid (Below w17.heap.size w17 w17.drew) := (Below.refl _ w17).drew
        clear hcv
        refine wp_region_any (by as_aux_lemma => kernel_rfl) ?_
        try (change wpAny _ _ _ _ _ _ _ (World.drew _))
        refine wpAny_take (i := 0) (v := ?_) rfl (by as_aux_lemma => kernel_rfl) (by as_aux_lemma => kernel_rfl) (by as_aux_lemma => kernel_rfl) (fun _ _ _ h => h) (Or.inl ⟨by as_aux_lemma => kernel_rfl, ?_⟩) ?_
        rotate_left
        focus (intro w; go_simp; (try (with_reducible rfl)); done)
        go_simp
        refine wpAny_take (i := 1) (v := ?_) rfl (by as_aux_lemma => kernel_rfl) (by as_aux_lemma => kernel_rfl) (by as_aux_lemma => kernel_rfl) (fun _ _ _ h => h) (Or.inl ⟨by as_aux_lemma => kernel_rfl, ?_⟩) ?_
        rotate_left
        focus (intro w; go_simp; (try (with_reducible rfl)); done)
        go_simp
        refine wpAny_take (i := 2) (v := ?_) rfl (by as_aux_lemma => kernel_rfl) (by as_aux_lemma => kernel_rfl) (by as_aux_lemma => kernel_rfl) (fun _ _ _ h => h) (Or.inl ⟨by as_aux_lemma => kernel_rfl, ?_⟩) ?_
        rotate_left
        focus (intro w; go_simp; (try (with_reducible rfl)); done)
        go_simp
        refine wpAny_take (i := 3) (v := ?_) rfl (by as_aux_lemma => kernel_rfl) (by as_aux_lemma => kernel_rfl) (by as_aux_lemma => kernel_rfl) (fun _ _ _ h => h) (Or.inl ⟨by as_aux_lemma => kernel_rfl, ?_⟩) ?_
        rotate_left
        focus (intro w; go_simp; (try (with_reducible rfl)); done)
        go_simp
        refine wpAny_take (i := 4) (v := ?_) rfl (by as_aux_lemma => kernel_rfl) (by as_aux_lemma => kernel_rfl) (by as_aux_lemma => kernel_rfl) (fun _ _ _ h => h) (Or.inl ⟨by as_aux_lemma => kernel_rfl, ?_⟩) ?_
        rotate_left
        focus (intro w; go_simp; (try (with_reducible rfl)); done)
        go_simp
        refine wpAny_take (i := 5) (v := ?_) rfl (by as_aux_lemma => kernel_rfl) (by as_aux_lemma => kernel_rfl) (by as_aux_lemma => kernel_rfl) (fun _ _ _ h => h) (Or.inl ⟨by as_aux_lemma => kernel_rfl, ?_⟩) ?_
        rotate_left
        focus (intro w; go_simp; (try (with_reducible rfl)); done)
        go_simp
        refine wpAny_take (i := 6) (v := ?_) rfl (by as_aux_lemma => kernel_rfl) (by as_aux_lemma => kernel_rfl) (by as_aux_lemma => kernel_rfl) (fun _ _ _ h => h) (Or.inl ⟨by as_aux_lemma => kernel_rfl, ?_⟩) ?_
        rotate_left
        focus (intro w; go_simp; (try (with_reducible rfl)); done)
        go_simp
        refine wpAny_take (i := 7) (v := ?_) rfl (by as_aux_lemma => kernel_rfl) (by as_aux_lemma => kernel_rfl) (by as_aux_lemma => kernel_rfl) (fun _ _ _ h => h) (Or.inl ⟨by as_aux_lemma => kernel_rfl, ?_⟩) ?_
        rotate_left
        focus (intro w; go_simp; (try (with_reducible rfl)); done)
        go_simp
        refine wpAny_take (i := 8) (v := ?_) rfl (by as_aux_lemma => kernel_rfl) (by as_aux_lemma => kernel_rfl) (by as_aux_lemma => kernel_rfl) (fun _ _ _ h => h) (Or.inl ⟨by as_aux_lemma => kernel_rfl, ?_⟩) ?_
        rotate_left
        focus (intro w; go_simp; (try (with_reducible rfl)); done)
        go_simp
        refine wpAny_take (i := 9) (v := ?_) rfl (by as_aux_lemma => kernel_rfl) (by as_aux_lemma => kernel_rfl) (by as_aux_lemma => kernel_rfl) (fun _ _ _ h => h) (Or.inl ⟨by as_aux_lemma => kernel_rfl, ?_⟩) ?_
        rotate_left
        focus (intro w; go_simp; (try (with_reducible rfl)); done)
        go_simp
        refine wpAny_take (i := 10) (v := ?_) rfl (by as_aux_lemma => kernel_rfl) (by as_aux_lemma => kernel_rfl) (by as_aux_lemma => kernel_rfl) (fun _ _ _ h => h) (Or.inl ⟨by as_aux_lemma => kernel_rfl, ?_⟩) ?_
        rotate_left
        focus (intro w; go_simp; (try (with_reducible rfl)); done)
        go_simp
        refine wpAny_take (i := 11) (v := ?_) rfl (by as_aux_lemma => kernel_rfl) (by as_aux_lemma => kernel_rfl) (by as_aux_lemma => kernel_rfl) (fun _ _ _ h => h) (Or.inl ⟨by as_aux_lemma => kernel_rfl, ?_⟩) ?_
        rotate_left
        focus (intro w; go_simp; (try (with_reducible rfl)); done)
        go_simp
        refine wpAny_take (i := 12) (v := ?_) rfl (by as_aux_lemma => kernel_rfl) (by as_aux_lemma => kernel_rfl) (by as_aux_lemma => kernel_rfl) (fun _ _ _ h => h) (Or.inl ⟨by as_aux_lemma => kernel_rfl, ?_⟩) ?_
        rotate_left
        focus (intro w; go_simp; (try (with_reducible rfl)); done)
        go_simp
        refine wpAny_ready (rs := [13]) (by as_aux_lemma => kernel_rfl) (by simp) ?_
        refine AllReady.cons rfl (fun K hK => ?_) ?_
        · (go_simp; go_at_call 18; refine (HPe.out _ HD.out).mono ?_; rintro e wp ⟨gp, cp, rfl, hb⟩; have HWp : Hid (Below w17.heap.size w17 wp) := HD.out.trans (hb.mono HD.out.size); clear hb)
          try go_simp
          first
            | (refine hK _ _ ?_; clear hK K)
            | skip
          refine wpAny_take (i := 14) (v := ?_) rfl (by as_aux_lemma => kernel_rfl) (by as_aux_lemma => kernel_rfl) (by as_aux_lemma => kernel_rfl) (fun _ _ _ h => h) (Or.inl ⟨by as_aux_lemma => kernel_rfl, ?_⟩) ?_
          rotate_left
          focus (intro w; go_simp; (try (with_reducible rfl)); done)
          go_simp
          refine wpAny_take (i := 15) (v := ?_) rfl (by as_aux_lemma => kernel_rfl) (by as_aux_lemma => kernel_rfl) (by as_aux_lemma => kernel_rfl) (fun _ _ _ h => h) (Or.inl ⟨by as_aux_lemma => kernel_rfl, ?_⟩) ?_
          rotate_left
          focus (intro w; go_simp; (try (with_reducible rfl)); done)
          go_simp
          refine wpAny_take (i := 16) (v := ?_) rfl (by as_aux_lemma => kernel_rfl) (by as_aux_lemma => kernel_rfl) (by as_aux_lemma => kernel_rfl) (fun _ _ _ h => h) (Or.inl ⟨by as_aux_lemma => kernel_rfl, ?_⟩) ?_
          rotate_left
          focus (intro w; go_simp; (try (with_reducible rfl)); done)
          go_simp
          refine wpAny_take (i := 17) (v := ?_) rfl (by as_aux_lemma => kernel_rfl) (by as_aux_lemma => kernel_rfl) (by as_aux_lemma => kernel_rfl) (fun _ _ _ h => h) (Or.inl ⟨by as_aux_lemma => kernel_rfl, ?_⟩) ?_
          rotate_left
          focus (intro w; go_simp; (try (with_reducible rfl)); done)
          go_simp
          refine wpAny_take (i := 18) (v := ?_) rfl (by as_aux_lemma => kernel_rfl) (by as_aux_lemma => kernel_rfl) (by as_aux_lemma => kernel_rfl) (fun _ _ _ h => h) (Or.inl ⟨by as_aux_lemma => kernel_rfl, ?_⟩) ?_
          rotate_left
          focus (intro w; go_simp; (try (with_reducible rfl)); done)
          go_simp
          refine wpAny_take (i := 21) (v := ?_) rfl (by as_aux_lemma => kernel_rfl) (by as_aux_lemma => kernel_rfl) (by as_aux_lemma => kernel_rfl) (fun _ _ _ h => h) (Or.inl ⟨by as_aux_lemma => kernel_rfl, ?_⟩) ?_
          rotate_left
          focus (intro w; go_simp; (try (with_reducible rfl)); done)
          go_simp
          refine wpAny_ready (rs := [19]) (by as_aux_lemma => kernel_rfl) (by simp) ?_
          refine AllReady.cons rfl (fun K hK => ?_) ?_
          · (go_simp; go_at_call 30; refine (HIm.out _ HWp.out).mono ?_; rintro e wi ⟨gi, ci, rfl, ho, hb⟩; have HWi : Hid (Below w17.heap.size w17 wi) := HWp.out.trans (hb.mono HWp.out.size); have e2 : (convert 42 9 (.slice (some ⟨gi, 0, none⟩) N ci)).run Tryz.prog wi = .ok (.string (strOfNums E.las)) wi := str_opt ho.bytes HEl.out; clear ho hb)
            try go_simp
            first
              | (refine hK _ _ ?_; clear hK K)
              | skip
            refine wpAny_take (i := 24) (v := ?_) rfl (by as_aux_lemma => kernel_rfl) (by as_aux_lemma => kernel_rfl) (by as_aux_lemma => kernel_rfl) (fun _ _ _ h => h) (Or.inl ⟨by as_aux_lemma => kernel_rfl, ?_⟩) ?_
            rotate_left
            focus (intro w; go_simp; (try (with_reducible rfl)); done)
            go_simp
            refine wpAny_ready (rs := [20]) (by as_aux_lemma => kernel_rfl) (by simp) ?_
            refine AllReady.cons rfl (fun K hK => ?_) ?_
            · go_simp
              try go_simp
              first
                | (refine hK _ _ ?_; clear hK K)
                | skip
              refine wpAny_take (i := 22) (v := ?_) rfl (by as_aux_lemma => kernel_rfl) (by as_aux_lemma => kernel_rfl) (by as_aux_lemma => kernel_rfl) (fun _ _ _ h => h) (Or.inl ⟨by as_aux_lemma => kernel_rfl, ?_⟩) ?_
              rotate_left
              focus (intro w; go_simp; (try (with_reducible rfl)); done)
              go_simp
              refine wpAny_take (i := 23) (v := ?_) rfl (by as_aux_lemma => kernel_rfl) (by as_aux_lemma => kernel_rfl) (by as_aux_lemma => kernel_rfl) (fun _ _ _ h => h) (Or.inl ⟨by as_aux_lemma => kernel_rfl, ?_⟩) ?_
              rotate_left
              focus (intro w; go_simp; (try (with_reducible rfl)); done)
              go_simp
              refine wpAny_take (i := 25) (v := ?_) rfl (by as_aux_lemma => kernel_rfl) (by as_aux_lemma => kernel_rfl) (by as_aux_lemma => kernel_rfl) (fun _ _ _ h => h) (Or.inl ⟨by as_aux_lemma => kernel_rfl, ?_⟩) ?_
              rotate_left
              focus (intro w; go_simp; (try (with_reducible rfl)); done)
              go_simp
              refine wpAny_done (by kernel_rfl) ?_ _
              go_wp2
              go_ret2
              exact ⟨E, by first | rfl | simp, HE.out.on HWi.out⟩
            exact AllReady.nil
          exact AllReady.nil
        exact AllReady.nil
end Go.Proofs.YtckldbhaaagncaaGreatDoor
