import Derived.Test.YtkmadcjbeiigmaaPaZ
namespace Go.Proofs.Ytkmadcjbeiigmaa
open Go.RowKit Go.Shelf Pa
theorem parse_bad (w : World) (s : ByteArray) (n : Int) (hs : s.size ≤ 9223372036854775807) (hp : pE (tx s) = n) (hn : n ≠ 0) : Calls Try.prog 12 #[.string s] w fun e w' => e = .returned (.tuple #[.slice none 0 0, .int .i64 n]) ∧ Below w.heap.size w w' := (parse_any w s hs).mono (by
  rintro e w' ⟨⟨v, xs, h1, h2, h3⟩, hb⟩
  rw [pL, hp, if_neg hn] at h3
  refine ⟨?_, hb⟩
  rw [h1, h2.nil.2 (by simpa using h3), hp])
theorem clean_bad (w : World) (s : ByteArray) (n : Int) (hs : s.size ≤ 9223372036854775807) (hp : pE (tx s) = n) (hn : n ≠ 0) : Calls Try.prog 16 #[.string s] w fun e w' => e = .returned (.tuple #[.string ⟨#[]⟩, .int .i64 n]) ∧ Below w.heap.size w w' := (clean_any w s hs).mono (by
  rintro e w' ⟨⟨t, h1, h2⟩, hb⟩
  rw [cS, hp, if_neg hn] at h2
  refine ⟨?_, hb⟩
  rw [h1, eq_lit h2, cE, hp])
theorem jS_le {l : Tx} {ps : List Tx} (hp : pE l = 0) (hf : Fine ps) (h : lens ps ≤ lens (cps l)) : (jS ps).length ≤ l.length := by
  obtain ⟨_, h1, _, _⟩ := pE_fine hp
  rw [jS_len hf]
  have h2 := cps_lens h1
  have h3 : 1 ≤ l.length := by cases l with
    | nil => simp at h1
    | cons x l => simp
  omega
theorem stp_ne (row : List ByteArray) (p : Tx) (h : p = [46, 46]) (h0 : row = []) : stp (row.map tx) p = [] := by rw [stp, if_pos h, h0]; rfl
set_option maxRecDepth 100000 in
set_option maxHeartbeats 8000000 in
theorem cleans_any (w : World) (s : ByteArray) (hs : s.size ≤ 9223372036854775807) : Calls Try.prog 4 #[.string s] w fun e w' => e = .returned (.bool true) ∧ Below w.heap.size w w' := by
  by_cases hp : pE (tx s) = 0
  · have hF : Hid (pE (tx s) = 0 ∧ Fine (cps (tx s))) := ⟨hp, (pE_fine hp).1⟩
    obtain ⟨n, hn⟩ : ∃ n, (cps (tx s)).length = n := ⟨_, rfl⟩
    have hn32 : n ≤ 32 := by rw [← hn]; exact hF.out.2.2
    have CP0 : Hid (∀ wx, Calls Try.prog 12 #[.string s] wx fun e w' => ∃ a c xs, e = .returned (.tuple #[.slice a n c, .int .i64 0]) ∧ StrsAt w' a xs ∧ xs.map tx = cps (tx s) ∧ xs.length = n ∧ n ≤ c ∧ Sl w' wx.heap.size (.slice a n c) xs ∧ Below wx.heap.size wx w') := fun wx => parse_ok wx s n hs hp hn
    have CC0 : Hid (∀ wx, Calls Try.prog 16 #[.string s] wx fun e w' => (∃ t : ByteArray, e = .returned (.tuple #[.string t, .int .i64 0]) ∧ tx t = jS (cl (cps (tx s)))) ∧ Below wx.heap.size wx w') := fun wx => clean_ok wx s hs hp
    clear hp
    go_enter Try.func4, Try.ntmps4
    go_wp2_with (first
      | (go_at_call 8; refine (known_any _).mono ?_; rintro e w1 ⟨rfl, hb1⟩)
      | (go_at_call 12; refine (CP0.out _).mono ?_; rintro e w2 ⟨a2, c2, x2, rfl, s2, m2', l2, n2, v2, hb2⟩; have m2 : Hid (x2.map tx = cps (tx s) ∧ x2.length = n) := ⟨m2', l2⟩; clear m2' l2)
      | (go_at_call 16; refine (CC0.out _).mono ?_; rintro e w3 ⟨⟨t, rfl, ht'⟩, hb3⟩; have ht : Hid (tx t = jS (cl (cps (tx s)))) := ht'; clear ht')
      | (go_at_call 11; refine (num_any _ _).mono ?_; rintro e wn ⟨rfl, rfl⟩))
    have hat3 := s2.on hb3
    have HB3 : Hid (Below w.heap.size w w3) := below_t hb1 (below_t hb2 hb3)
    have HNC : Hid (n ≤ c2) := n2
    clear hb1 hb2 hb3 s2 CP0 CC0 v2 n2
    go_loopw [7, 52] (fun s7 s52 wr => ∃ (k : Nat) (row : List ByteArray), k ≤ n ∧ s52 = .int .i64 (k : Int) ∧ Ow wr w3.heap.size s7 row ∧ row.map tx = ((x2.map tx).take k).foldl stp [] ∧ row.length ≤ k ∧ Below w3.heap.size w3 wr) (fun _ s52 _ => n - (intOf s52).toNat)
    case atStart => exact ⟨0, [], Nat.zero_le _, rfl, Ow.nil _ _, rfl, Nat.le_refl _, Below.refl _ _⟩
    case round =>
      obtain ⟨k, row, hk, rfl, how, hrow, hrk, hbr⟩ := hrel
      by_cases hlt : k < n
      · have hlt' : (k : Int) < (n : Int) := by omega
        obtain ⟨b, off, x, rfl, hxk, hc⟩ := (hat3.on hbr).at (k := k) (by rw [m2.out.2]; exact hlt)
        have HR : Hid (row.map tx = ((x2.map tx).take k).foldl stp [] ∧ x2[k]? = some x) := ⟨hrow, hxk⟩
        clear hrow hxk
        by_cases hup : tx x = [46, 46]
        · have hu : (x.toList == [46, 46]) = true := by rw [toList_tx, hup]; decide
          have HU : Hid (∀ row' : List ByteArray, row'.map tx = (row.take (row.length - 1)).map tx → row'.map tx = ((x2.map tx).take (k + 1)).foldl stp []) := by
            intro row' h
            rw [h, foldl_take HR.out.2, ← HR.out.1, stp_up _ _ hup]
          clear hup
          rcases how.cases with ⟨rfl, rfl⟩ | ⟨g, cap, rfl, hg1, hg2, hg3⟩
          · go_wp2
            go_roundw
            case rel => exact ⟨k + 1, [], by omega, by go_num, Ow.nil _ _, HU.out _ rfl, by simp, hbr⟩
            case measure => simp [intOf]; omega
          · obtain ⟨m, hm⟩ : ∃ m, row.length = m := ⟨_, rfl⟩
            rw [hm] at hg2
            cases m with
            | zero =>
              rw [hm] at how ⊢
              have hro : row = [] := List.eq_nil_of_length_eq_zero hm
              go_wp2
              go_roundw
              case rel => exact ⟨k + 1, [], by omega, by go_num, (by subst hro; exact how), HU.out _ (by rw [hro]; rfl), by simp, hbr⟩
              case measure => simp [intOf]; omega
            | succ j =>
              have hcut := how.cut j (by omega)
              rw [hm]
              have c1 : wrap64 ((j : Int) + 1 - 1) = (j : Int) := by unfold wrap64; omega
              have c2 : (j : Int) ≤ (cap : Int) := by omega
              have c3 : (0 : Int) < (j : Int) + 1 := by omega
              go_wp2
              go_roundw
              case rel => exact ⟨k + 1, row.take j, by omega, by go_num, hcut, HU.out _ (by rw [hm]; rfl), by rw [List.length_take]; omega, hbr⟩
              case measure => simp [intOf]; omega
        · have hu : (x.toList == [46, 46]) = false := by rw [toList_tx]; simpa using hup
          have HU : Hid ((row ++ [x]).map tx = ((x2.map tx).take (k + 1)).foldl stp []) := by
            show _ = _
            rw [foldl_take HR.out.2, ← HR.out.1, stp_no _ _ hup]
          obtain ⟨g', cap', w', hrun, how', hbw⟩ := how.append x (by omega) hbr.size
          have HC : Hid (Ow w' w3.heap.size (.slice (some ⟨g', 0, none⟩) (row.length + 1) cap') (row ++ [x]) ∧ Below w3.heap.size w3 w' ∧ row.length ≤ k) := ⟨how', hbw w3 hbr, hrk⟩
          clear how' hbw hrk HR hup
          rcases how.cases with ⟨rfl, rfl⟩ | ⟨g, cap, rfl, hg1, hg2, hg3⟩
          · clear how hbr
            go_wp2_with (at_builtin; refine wp_hrun rfl _ _ 22 rfl hrun ?_; clear hrun)
            go_roundw
            case rel => exact ⟨k + 1, _, by omega, by go_num, HC.out.1, HU.out, by simp, HC.out.2.1⟩
            case measure => simp [intOf]; omega
          · clear how hbr hg1 hg2 hg3
            obtain ⟨m, hm⟩ : ∃ m, row.length = m := ⟨_, rfl⟩
            have HL : Hid (row.length = m) := hm
            rw [hm] at hrun HC ⊢
            clear hm
            go_wp2_with (at_builtin; refine wp_hrun rfl _ _ 22 rfl hrun ?_; clear hrun)
            go_roundw
            case rel => exact ⟨k + 1, _, by omega, by go_num, HC.out.1, HU.out, by have := HC.out.2.2; have := HL.out; simp; omega, HC.out.2.1⟩
            case measure => simp [intOf]; omega
      · have hlt' : ¬ (k : Int) < (n : Int) := by omega
        have ek : k = n := by omega
        subst ek
        rw [List.take_of_length_le (by rw [List.length_map, m2.out.2]; exact Nat.le_refl _), m2.out.1] at hrow
        have hF2 : Fine (cl (cps (tx s))) := cl_fine hF.out.2
        have hrow2 : row.map tx = cl (cps (tx s)) := hrow
        obtain ⟨a6, c6, rfl, hs6, hl6⟩ := how.strs
        obtain ⟨q, hq⟩ : ∃ q, row.length = q := ⟨_, rfl⟩
        have hlenq : (cl (cps (tx s))).length = q := by rw [← hrow2, List.length_map]; exact hq
        have htl : t.size ≤ s.size := by
          rw [size_tx, size_tx, ht.out]
          exact jS_le hF.out.1 hF2 (cl_lens _)
        have hts : (t.size : Int) ≤ (s.size : Int) := Int.ofNat_le.2 htl
        rw [hq]
        have CP1 : Hid (∀ wx, Calls Try.prog 12 #[.string t] wx fun e w' => ∃ d y, ∃ r : List ByteArray, e = .returned (.tuple #[.slice d q y, .int .i64 0]) ∧ StrsAt w' d r ∧ r.map tx = row.map tx ∧ Below wx.heap.size wx w') := fun wx => (parse_ok wx t q (Nat.le_trans htl hs) (by rw [ht.out]; exact jS_pE hF2) (by rw [ht.out, jS_cps hF2]; exact hlenq)).mono (by
          rintro e w' ⟨d, y, r, rfl, h1, h2, h3, h4, h5, h6⟩
          rw [ht.out, jS_cps hF2, ← hrow2] at h2
          exact ⟨d, y, r, rfl, h1, h2, h6⟩)
        have CC1 : Hid (∀ wx, Calls Try.prog 16 #[.string t] wx fun e w' => e = .returned (.tuple #[.string t, .int .i64 0]) ∧ Below wx.heap.size wx w') := fun wx => (clean_ok wx t (Nat.le_trans htl hs) (by rw [ht.out]; exact jS_pE hF2)).mono (by
          rintro e w' ⟨⟨u, rfl, hu⟩, hb⟩
          rw [ht.out, jS_cps hF2, cl_cl, ← ht.out] at hu
          rw [tx_inj hu]
          exact ⟨rfl, hb⟩)
        have CJ1 : Hid (∀ wx (hx : StrsAt wx a2 x2), Calls Try.prog 10 #[.slice a2 k c2] wx fun e w' => (∃ u : ByteArray, e = .returned (.tuple #[.string u, .int .i64 0]) ∧ Hid (tx u = jS (cps (tx s))) ∧ (u.size : Int) ≤ (s.size : Int)) ∧ Below wx.heap.size wx w') := fun wx hx => (join_ok wx a2 k c2 x2 hx m2.out.2 (by omega) HNC.out (by rw [m2.out.1]; exact (jE_iff _).2 hF.out.2)).mono (by
          rintro e w' ⟨⟨u, rfl, hu⟩, hb⟩
          rw [m2.out.1] at hu
          refine ⟨⟨u, rfl, hu, Int.ofNat_le.2 ?_⟩, hb⟩
          rw [size_tx, size_tx, hu]
          exact jS_le hF.out.1 hF.out.2 (Nat.le_refl _))
        have CP2 : Hid (∀ wx (u : ByteArray), tx u = jS (cps (tx s)) → (u.size : Int) ≤ (s.size : Int) → Calls Try.prog 12 #[.string u] wx fun e w' => ∃ d y, ∃ r : List ByteArray, e = .returned (.tuple #[.slice d k y, .int .i64 0]) ∧ StrsAt w' d r ∧ r.map tx = x2.map tx ∧ Below wx.heap.size wx w') := fun wx u hu hus => (parse_ok wx u k (Nat.le_trans (Int.ofNat_le.1 hus) hs) (by rw [hu]; exact jS_pE hF.out.2) (by rw [hu, jS_cps hF.out.2]; exact hn)).mono (by
          rintro e w' ⟨d, y, r, rfl, h1, h2, h3, h4, h5, h6⟩
          rw [hu, jS_cps hF.out.2, ← m2.out.1] at h2
          exact ⟨d, y, r, rfl, h1, h2, h6⟩)
        have CS : Hid (∀ (wx : World) (d e : Option Addr) (m y z : Nat) (q r : List ByteArray), StrsAt wx d q → StrsAt wx e r → q.map tx = r.map tx → r.length = m → m ≤ 1000 → Calls Try.prog 14 #[.slice d m y, .slice e m z] wx fun e w' => e = .returned (.bool true) ∧ Below wx.heap.size wx w') := fun wx d e m y z q r h1 h2 h3 h4 h5 => (same_any wx d e m y m z q r h1 h2 (by have := len_of h3; rw [List.length_map] at this; omega) h4 (by omega)).mono (by
          rintro e w' ⟨rfl, qq, rfl⟩
          exact ⟨by rw [sameT_yes h3], ⟨rfl, rfl, rfl, Nat.le_refl _, fun _ _ => rfl⟩⟩)
        have HQ : Hid (row.length = q ∧ q ≤ 1000 ∧ k ≤ 1000 ∧ Below w.heap.size w wr) := ⟨hq, by omega, by omega, below_t HB3.out hbr⟩
        have hat4 := hat3.on hbr
        have T1 : Hid True := trivial
        have T2 : Hid True := trivial
        clear how hrow hrow2 hlenq htl hq hrk hlt hlt' hk hF2 hbr hat3 hn hn32 hs
        go_wp2_with (first
          | (go_at_call 12; have hh := T1.out; clear T1 hh; refine (CP1.out _).mono ?_; rintro e v1 ⟨d1, y1, r1, rfl, q1, k1', z1⟩; have k1 : Hid (r1.map tx = row.map tx) := k1'; clear k1')
          | (go_at_call 16; refine (CC1.out _).mono ?_; rintro e v2 ⟨rfl, z2⟩)
          | (go_at_call 10; refine (CJ1.out _ (hat4.on (below_t z1 z2))).mono ?_; rintro e v3 ⟨⟨u, rfl, hu, hus⟩, z3⟩)
          | (go_at_call 12; refine (CP2.out _ u hu.out hus).mono ?_; rintro e v4 ⟨d4, y4, r4, rfl, q4, k4', z4⟩; have k4 : Hid (r4.map tx = x2.map tx) := k4'; clear k4')
          | (go_at_call 11; refine (num_any _ _).mono ?_; rintro e wn ⟨rfl, rfl⟩)
          | (go_at_call 14; have hh := T2.out; clear T2 hh; refine (CS.out _ _ _ _ _ _ r1 row (q1.on (below_t z2 (below_t z3 z4))) (hs6.on (below_t z1 (below_t z2 (below_t z3 z4)))) k1.out HQ.out.1 HQ.out.2.1).mono ?_; rintro e v5 ⟨rfl, z5⟩)
          | (go_at_call 14; refine (CS.out _ _ _ _ _ _ r4 x2 (q4.on z5) (hat4.on (below_t z1 (below_t z2 (below_t z3 (below_t z4 z5))))) k4.out m2.out.2 HQ.out.2.2.1).mono ?_; rintro e v6 ⟨rfl, z6⟩))
        go_ret
        exact ⟨rfl, below_t HQ.out.2.2.2 (below_t z1 (below_t z2 (below_t z3 (below_t z4 (below_t z5 z6)))))⟩
  · obtain ⟨n, hn⟩ : ∃ n, pE (tx s) = n := ⟨_, rfl⟩
    rw [hn] at hp
    have C1 := fun wx => parse_bad wx s n hs hn hp
    have C2 := fun wx => clean_bad wx s n hs hn hp
    have hn0 : (n == 0) = false := by simpa using hp
    clear hn hp
    go_enter Try.func4, Try.ntmps4
    go_wp2_with (first
      | (go_at_call 8; refine (known_any _).mono ?_; rintro e w1 ⟨rfl, hb1⟩)
      | (go_at_call 12; refine (C1 _).mono ?_; rintro e w2 ⟨rfl, hb2⟩)
      | (go_at_call 16; refine (C2 _).mono ?_; rintro e w3 ⟨rfl, hb3⟩)
      | (go_at_call 11; refine (num_any _ _).mono ?_; rintro e wn ⟨rfl, rfl⟩))
    go_ret
    exact ⟨rfl, below_t hb1 (below_t hb2 hb3)⟩
end Go.Proofs.Ytkmadcjbeiigmaa
