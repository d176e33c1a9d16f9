import Derived.Test.YtkmadcjbeiigmaaKPaY
namespace Go.Proofs.Ytkmadcjbeiigmaa
open Go.RowKit Go.Shelf Pa
theorem StrsAt.take {w : World} {a : Option Addr} {xs : List ByteArray} (h : StrsAt w a xs) (m : Nat) : StrsAt w a (xs.take m) := by
  rcases h with h | ⟨b, off, e, hc⟩
  · exact .inl (by rw [h]; simp)
  · refine .inr ⟨b, off, e, fun j x hj => hc j x ?_⟩
    rw [List.getElem?_take] at hj
    split at hj
    · exact hj
    · cases hj
theorem int_size (s : ByteArray) : (s.size : Int) = ((tx s).length : Int) := by rw [size_tx]
set_option maxRecDepth 100000 in
set_option maxHeartbeats 8000000 in
theorem back_any (w : World) (a : Option Addr) (n c : Nat) (xs : List ByteArray) (hxs : StrsAt w a xs) (hn : xs.length = n) (hnc : n ≤ c) (hcb : c ≤ 9223372036854775806) (hsz : ∀ x, x ∈ xs → x.size ≤ 9223372036854775807) :
    Calls Try.prog 3 #[.slice a n c] w fun e w' => e = .returned (.bool true) ∧ Below w.heap.size w w' := by
  have HN : Hid (xs.length = n ∧ n ≤ c ∧ c ≤ 9223372036854775806) := ⟨hn, hnc, hcb⟩
  have HI : Hid (∀ k, k < n → (k : Int) < (n : Int)) := fun k h => Int.ofNat_lt.2 h
  clear hn hnc hcb
  go_enter Try.func3, Try.ntmps3
  go_wp2_with (go_at_call 8; refine (known_any _).mono ?_; rintro e w1 ⟨rfl, hb1⟩)
  have hat := hxs.on hb1
  clear hxs
  go_loopw [3, 4, 5, 25] (fun s3 s4 s5 s25 wr => ∃ k : Nat, k ≤ n ∧ s25 = .int .i64 (k : Int) ∧ s3 = .int .i64 (wrap64 (lens ((xs.map tx).take k) : Int)) ∧ s4 = .bool (may ((xs.map tx).take k)) ∧ s5 = .bool (lng n ((xs.map tx).take k)) ∧ Below w1.heap.size w1 wr) (fun _ _ _ s25 _ => n - (intOf s25).toNat)
  case atStart => exact ⟨0, Nat.zero_le _, rfl, by simp [lens, wrap64], rfl, by simp only [lng, List.take_zero, List.any_nil, Bool.or_false]; congr 1; rw [decide_eq_decide]; omega, Below.refl _ _⟩
  case round =>
    obtain ⟨k, hk, rfl, rfl, rfl, rfl, hbr⟩ := hrel
    by_cases hlt : k < n
    · have hlt' := HI.out k hlt
      obtain ⟨b, off, x, rfl, hxk, hc⟩ := (hat.on hbr).at (k := k) (by rw [HN.out.1]; exact hlt)
      have hxs := hsz x (List.mem_of_getElem? hxk)
      have HX : Hid ((xs.map tx)[k]? = some (tx x) ∧ k + 1 ≤ n) := ⟨map_at hxk, hlt⟩
      clear hxk hlt hk
      obtain ⟨z, hz⟩ : ∃ z, wrap64 (lens ((xs.map tx).take k) : Int) = z := ⟨_, rfl⟩
      obtain ⟨b4, h4⟩ : ∃ b4, may ((xs.map tx).take k) = b4 := ⟨_, rfl⟩
      obtain ⟨b5, h5⟩ : ∃ b5, lng n ((xs.map tx).take k) = b5 := ⟨_, rfl⟩
      rw [hz, h4, h5]
      have HZ : Hid (wrap64 (lens ((xs.map tx).take k) : Int) = z ∧ may ((xs.map tx).take k) = b4 ∧ lng n ((xs.map tx).take k) = b5) := ⟨hz, h4, h5⟩
      have HW : Hid ( wrap64 ((k : Int) + 1) = (k : Int) + 1 ) := w64n (m := k + 1) (cap := c) (Nat.le_trans HX.out.2 HN.out.2.1) (Nat.le_trans HN.out.2.2 (by decide))
      have HF : Hid (∀ (s4 s5 : Bool) (sz : Int) (wx : World), sz = ((tx x).length : Int) → s4 = (b4 && mayP (tx x)) → s5 = (b5 || long (tx x)) → Below w1.heap.size w1 wx → ∃ k1 : Nat, k1 ≤ n ∧ Value.int .i64 (wrap64 ((k : Int) + 1)) = .int .i64 (k1 : Int) ∧ Value.int .i64 (wrap64 (wrap64 (z + 1) + sz)) = .int .i64 (wrap64 (lens ((xs.map tx).take k1) : Int)) ∧ Value.bool s4 = .bool (may ((xs.map tx).take k1)) ∧ Value.bool s5 = .bool (lng n ((xs.map tx).take k1)) ∧ Below w1.heap.size w1 wx) := by
        rintro s4 s5 sz wx rfl rfl rfl hbx
        refine ⟨k + 1, HX.out.2, by rw [HW.out]; rfl, ?_, ?_, ?_, hbx⟩
        · rw [← hz, wrap_sum, lens_take HX.out.1]
          congr 2
        · rw [may_take HX.out.1, h4]
        · rw [lng_take HX.out.1, h5]
      have HM : Hid (n - (intOf (.int .i64 (wrap64 ((k : Int) + 1)))).toNat < n - (intOf (.int .i64 (k : Int))).toNat) := by
        show _ < _
        have := HX.out.2
        rw [HW.out]
        simp [intOf]; omega
      clear hz h4 h5
      by_cases hup : tx x = [46, 46]
      · have hu : (x.toList == [46, 46]) = true := by rw [toList_tx, hup]; decide
        have HL : Hid (long (tx x) = false ∧ mayP (tx x) = true ∧ (tx x).length = 2) := by rw [hup]; exact ⟨by decide, by decide, rfl⟩
        have hx2 : x.size = 2 := by rw [size_tx, hup]; rfl
        clear hup hxs
        cases b5 with
        | true =>
          go_wp2
          go_roundw
          case rel => exact HF.out _ true 2 _ (by simp [HL.out.2.2]) (by simp [HL.out.2.1]) (by simp) hbr
          case measure => exact HM.out
        | false =>
          go_wp2
          go_roundw
          case rel => exact HF.out _ false 2 _ (by simp [HL.out.2.2]) (by simp [HL.out.2.1]) (by simp [HL.out.1]) hbr
          case measure => exact HM.out
      · have hu : (x.toList == [46, 46]) = false := by rw [toList_tx]; simpa using hup
        have hm : mayP (tx x) = name (tx x) := by
          unfold mayP
          rw [show (tx x == [46, 46]) = false by simpa using hup]; rfl
        cases hnm : name (tx x) with
        | true =>
          rw [hnm] at hm
          have CN : ∀ wx, Calls Try.prog 9 #[.string x] wx fun e w' => e = .returned (.bool true) ∧ Below wx.heap.size wx w' := fun wx => (name_any wx x hxs).mono (by rw [hnm]; exact fun _ _ h => h)
          have HL : Hid (mayP (tx x) = true) := hm
          clear hup hm hnm
          cases b5 with
          | true =>
            go_wp2_with (go_at_call 9; refine (CN _).mono ?_; rintro e w2 ⟨rfl, hb2⟩)
            go_roundw
            case rel => exact HF.out _ true _ _ (int_size x) (by simp [HL.out]) (by simp) (below_t hbr hb2)
            case measure => exact HM.out
          | false =>
            cases hlg : long (tx x) with
            | true =>
              have hlx : (27 : Int) < (x.size : Int) := by rw [int_size]; unfold long at hlg; have := of_decide_eq_true hlg; omega
              go_wp2_with (go_at_call 9; refine (CN _).mono ?_; rintro e w2 ⟨rfl, hb2⟩)
              go_roundw
              case rel => exact HF.out _ _ _ _ (int_size x) (by simp [HL.out]) (by simp [hlg] <;> omega) (below_t hbr hb2)
              case measure => exact HM.out
            | false =>
              have hlx : ¬ (27 : Int) < (x.size : Int) := by rw [int_size]; unfold long at hlg; have := of_decide_eq_false hlg; omega
              go_wp2_with (go_at_call 9; refine (CN _).mono ?_; rintro e w2 ⟨rfl, hb2⟩)
              go_roundw
              case rel => exact HF.out _ _ _ _ (int_size x) (by simp [HL.out]) (by simp [hlg] <;> omega) (below_t hbr hb2)
              case measure => exact HM.out
        | false =>
          rw [hnm] at hm
          have CN : ∀ wx, Calls Try.prog 9 #[.string x] wx fun e w' => e = .returned (.bool false) ∧ Below wx.heap.size wx w' := fun wx => (name_any wx x hxs).mono (by rw [hnm]; exact fun _ _ h => h)
          have HL : Hid (mayP (tx x) = false) := hm
          clear hup hm hnm
          cases b5 with
          | true =>
            go_wp2_with (go_at_call 9; refine (CN _).mono ?_; rintro e w2 ⟨rfl, hb2⟩)
            go_roundw
            case rel => exact HF.out false true _ _ (int_size x) (by simp [HL.out]) (by simp) (below_t hbr hb2)
            case measure => exact HM.out
          | false =>
            cases hlg : long (tx x) with
            | true =>
              have hlx : (27 : Int) < (x.size : Int) := by rw [int_size]; unfold long at hlg; have := of_decide_eq_true hlg; omega
              go_wp2_with (go_at_call 9; refine (CN _).mono ?_; rintro e w2 ⟨rfl, hb2⟩)
              go_roundw
              case rel => exact HF.out false _ _ _ (int_size x) (by simp [HL.out]) (by simp [hlg] <;> omega) (below_t hbr hb2)
              case measure => exact HM.out
            | false =>
              have hlx : ¬ (27 : Int) < (x.size : Int) := by rw [int_size]; unfold long at hlg; have := of_decide_eq_false hlg; omega
              go_wp2_with (go_at_call 9; refine (CN _).mono ?_; rintro e w2 ⟨rfl, hb2⟩)
              go_roundw
              case rel => exact HF.out false _ _ _ (int_size x) (by simp [HL.out]) (by simp [hlg] <;> omega) (below_t hbr hb2)
              case measure => exact HM.out
    · have hlt' : ¬ (k : Int) < (n : Int) := fun h => hlt (Int.ofNat_lt.1 h)
      have ek : k = n := by omega
      subst ek
      rw [List.take_of_length_le (by rw [List.length_map, HN.out.1]; exact Nat.le_refl _)]
      have hat2 := hat.on hbr
      have hjn := jE_split (xs.map tx) k (by rw [List.length_map]; exact HN.out.1)
      have hk6 : k ≤ 9223372036854775806 := by have := HN.out.2; omega
      have CJ := join_any wr a k c xs hat2 HN.out.1 hk6 HN.out.2.1
      obtain ⟨L, hL⟩ : ∃ L, lens (xs.map tx) = L := ⟨_, rfl⟩
      rw [hL]
      rcases hjn with ⟨j1, j2⟩ | ⟨j1, j2⟩ | ⟨j1, j2, j3⟩
      · have CJ' : Calls Try.prog 10 #[.slice a k c] wr fun e w' => e = .returned (.tuple #[.string ⟨#[]⟩, .int .i64 1]) ∧ Below wr.heap.size wr w' := CJ.mono (by
          rintro e w' ⟨⟨t, rfl, ht⟩, hb⟩
          rw [jS_bad (by rw [j1]; decide)] at ht
          rw [eq_lit ht, j1]
          exact ⟨rfl, hb⟩)
        rw [j2]
        generalize lng k (xs.map tx) = b5
        clear CJ j1 j2 hL
        go_wp2_with (first | (go_at_call 10; refine CJ'.mono ?_; rintro e w2 ⟨rfl, hb2⟩) | (go_at_call 11; refine (num_any _ _).mono ?_; rintro e wn ⟨rfl, rfl⟩))
        go_ret
        exact ⟨rfl, below_t hb1 (below_t hbr hb2)⟩
      · have CJ' : Calls Try.prog 10 #[.slice a k c] wr fun e w' => e = .returned (.tuple #[.string ⟨#[]⟩, .int .i64 130]) ∧ Below wr.heap.size wr w' := CJ.mono (by
          rintro e w' ⟨⟨t, rfl, ht⟩, hb⟩
          rw [jS_bad (by rw [j1]; decide)] at ht
          rw [eq_lit ht, j1]
          exact ⟨rfl, hb⟩)
        rw [j2]
        generalize may (xs.map tx) = b4
        clear CJ j1 j2 hL
        go_wp2_with (first | (go_at_call 10; refine CJ'.mono ?_; rintro e w2 ⟨rfl, hb2⟩) | (go_at_call 11; refine (num_any _ _).mono ?_; rintro e wn ⟨rfl, rfl⟩))
        go_ret
        exact ⟨rfl, below_t hb1 (below_t hbr hb2)⟩
      · have hF := (jE_iff _).1 j1
        rw [j2, j3]
        have hL9 : L ≤ 896 := by rw [← hL]; exact lens_le hF
        have hwL : wrap64 (L : Int) = (L : Int) := w64n (cap := 896) hL9 (by decide)
        rw [hwL]
        have CJ' : Calls Try.prog 10 #[.slice a k c] wr fun e w' => (∃ t : ByteArray, e = .returned (.tuple #[.string t, .int .i64 0]) ∧ tx t = jS (xs.map tx) ∧ t.size = max L 1) ∧ Below wr.heap.size wr w' := CJ.mono (by
          rintro e w' ⟨⟨t, rfl, ht⟩, hb⟩
          rw [j1]
          exact ⟨⟨t, rfl, ht, by rw [size_tx, ht, jS_len hF, hL]⟩, hb⟩)
        have hlen : (xs.map tx).length = k := by rw [List.length_map]; exact HN.out.1
        have CP : Hid (∀ (t : ByteArray) (wx : World), tx t = jS (xs.map tx) → t.size ≤ 896 → Calls Try.prog 12 #[.string t] wx fun e w' => ∃ d y, ∃ q : List ByteArray, e = .returned (.tuple #[.slice d k y, .int .i64 0]) ∧ StrsAt w' d q ∧ q.map tx = xs.map tx ∧ Below wx.heap.size wx w') := fun t wx ht hs => (parse_ok wx t k (by omega) (by rw [ht]; exact jS_pE hF) (by rw [ht, jS_cps hF]; exact hlen)).mono (by
          rintro e w' ⟨d, y, q, rfl, h1, h2, h3, h4, h5, h6⟩
          rw [ht, jS_cps hF] at h2
          exact ⟨d, y, q, rfl, h1, h2, h6⟩)
        have CT : Hid (∀ (t : ByteArray) (wx : World), tx t = jS (xs.map tx) → t.size ≤ 896 → Calls Try.prog 13 #[.string t] wx fun e w' => ∃ d y, ∃ q : List ByteArray, e = .returned (.tuple #[.slice d k y, .bool true, .int .i64 0]) ∧ StrsAt w' d q ∧ q.map tx = xs.map tx ∧ Below wx.heap.size wx w') := fun t wx ht hs => (text_ok wx t k (by omega) (by rw [ht]; exact jS_tE hF) (by rw [ht, jS_cps hF]; exact hlen)).mono (by
          rintro e w' ⟨d, y, q, rfl, h1, h2, h3, h4, h5, h6⟩
          rw [ht, jS_cps hF] at h2
          rw [ht, (sl1_iff _).2 (jS_head hF)]
          exact ⟨d, y, q, rfl, h1, h2, h6⟩)
        have CS : Hid (∀ (wx : World) (d e : Option Addr) (m y z : Nat) (q r : List ByteArray), StrsAt wx d q → StrsAt wx e r → q.map tx = r.map tx → r.length = m → m ≤ k → Calls Try.prog 14 #[.slice d m y, .slice e m z] wx fun e w' => e = .returned (.bool true) ∧ Below wx.heap.size wx w') := fun wx d e m y z q r h1 h2 h3 h4 h5 => (same_any wx d e m y m z q r h1 h2 (by have := len_of h3; rw [List.length_map] at this; omega) h4 (by omega)).mono (by
          rintro e w' ⟨rfl, qq, rfl⟩
          exact ⟨by rw [sameT_yes h3], ⟨rfl, rfl, rfl, Nat.le_refl _, fun _ _ => rfl⟩⟩)
        have hmx : max L 1 ≤ 896 := by omega
        by_cases hk0 : k = 0
        · have hx0 : xs = [] := List.eq_nil_of_length_eq_zero (HN.out.1.trans hk0)
          have hL0 : L = 0 := by rw [← hL, hx0]; rfl
          have CM : Hid (∀ (t : ByteArray) (wx : World), tx t = jS (xs.map tx) → t.size ≤ 896 → Calls Try.prog 15 #[.string t] wx fun e w' => e = .returned (.tuple #[.slice none 0 0, .string ⟨#[]⟩, .int .i64 0]) ∧ Below wx.heap.size wx w') := fun t wx ht hs => make_none wx t (by omega) (by rw [ht, mE_jS hF, hx0]; rfl) (by rw [ht, jS_cps hF, hx0]; rfl)
          subst hk0
          have HTB : Hid (∀ t : ByteArray, t.size = 1 → ((t.size : Int) == max (L : Int) 1) = true) := fun t h => by rw [h, hL0]; decide
          have T1 : Hid True := trivial
          have CJ2 : Calls Try.prog 10 #[.slice a 0 c] wr fun e w' => (∃ t : ByteArray, e = .returned (.tuple #[.string t, .int .i64 0]) ∧ Hid (tx t = jS (xs.map tx)) ∧ t.size = 1) ∧ Below wr.heap.size wr w' := by rw [hL0] at CJ'; exact CJ'
          have HZ : Hid (xs = []) := hx0
          clear CJ CJ' j1 j2 j3 hL hwL hL9 hlt hlt' hk hx0 hmx hlen hk6 hL0
          go_wp2_with (first
            | (go_at_call 10; refine CJ2.mono ?_; rintro e w2 ⟨⟨t, rfl, ht, hts⟩, hb2⟩; have hts9 : Hid (t.size ≤ 896) := (by rw [hts]; show 1 ≤ 896; decide); have htb : ((t.size : Int) == max (L : Int) 1) = true := HTB.out t hts; clear hts)
            | (go_at_call 11; refine (num_any _ _).mono ?_; rintro e wn ⟨rfl, rfl⟩)
            | (go_at_call 12; refine (CP.out t _ ht.out hts9.out).mono ?_; rintro e w3 ⟨d3, y3, q3, rfl, s3, m3', hb3⟩; have m3 : Hid (_ = _) := m3'; clear m3')
            | (go_at_call 13; refine (CT.out t _ ht.out hts9.out).mono ?_; rintro e w4 ⟨d4, y4, q4, rfl, s4, m4', hb4⟩; have m4 : Hid (_ = _) := m4'; clear m4')
            | (go_at_call 14; have hh := T1.out; clear T1 hh; refine (CS.out _ _ _ _ _ _ q3 xs (s3.on hb4) (hat2.on (below_t hb2 (below_t hb3 hb4))) m3.out HN.out.1 (Nat.le_refl _)).mono ?_; rintro e w5 ⟨rfl, hb5⟩)
            | (go_at_call 14; refine (CS.out _ _ _ _ _ _ q4 xs (s4.on hb5) (hat2.on (below_t hb2 (below_t hb3 (below_t hb4 hb5)))) m4.out HN.out.1 (Nat.le_refl _)).mono ?_; rintro e w6 ⟨rfl, hb6⟩)
            | (go_at_call 15; refine (CM.out t _ ht.out hts9.out).mono ?_; rintro e w7 ⟨rfl, hb7⟩))
          · go_ret
            exact ⟨rfl, below_t hb1 (below_t hbr (below_t hb2 (below_t hb3 (below_t hb4 (below_t hb5 (below_t hb6 hb7))))))⟩
          · exact absurd (beq_iff_eq.1 htb) (by assumption)
        · obtain ⟨m, rfl⟩ : ∃ m, k = m + 1 := ⟨k - 1, by omega⟩
          obtain ⟨b, off, x, rfl, hxm, hcx⟩ := hat2.at (k := m) (by rw [HN.out.1]; omega)
          have hx0 : xs.map tx ≠ [] := fun e => by rw [e] at hlen; simp at hlen
          have hL2 : 1 < L := by have := lens_pos hF hx0; rw [hL] at this; exact this
          have HTB : Hid (∀ t : ByteArray, t.size = L → ((t.size : Int) == max (L : Int) 1) = true) := fun t h => by rw [h, beq_iff_eq]; omega
          have CJ3 : Calls Try.prog 10 #[.slice (some ⟨b, off, none⟩) (m + 1) c] wr fun e w' => (∃ t : ByteArray, e = .returned (.tuple #[.string t, .int .i64 0]) ∧ Hid (tx t = jS (xs.map tx)) ∧ t.size = L) ∧ Below wr.heap.size wr w' := by rw [Nat.max_eq_left (by omega)] at CJ'; exact CJ'
          have HL9 : Hid (L ≤ 896) := hL9
          have HC : Hid (∀ wx, Below wr.heap.size wr wx → wx.cell? ⟨b, off + m, none⟩ = some (.string x)) := fun wx hb => (hb.cell (p := ⟨b, off + m, none⟩) (block_lt_of_cell hcx)).trans hcx
          have hgl : (xs.map tx).getLast? = some (tx x) := by
            rw [List.getLast?_eq_getElem?, hlen]
            exact map_at hxm
          have c5 : wrap64 (m : Int) = (m : Int) := w64n (m := m) (cap := 9223372036854775806) (by omega) (by decide)
          have HT : Hid ((xs.take m).length = m) := by
            show _ = _
            rw [List.length_take, HN.out.1]; omega
          have T1 : Hid True := trivial
          have T2 : Hid True := trivial
          by_cases hup : tx x = [46, 46]
          · have hu : (x.toList == [46, 46]) = true := by rw [toList_tx, hup]; decide
            have CM : Hid (∀ (t : ByteArray) (wx : World), tx t = jS (xs.map tx) → t.size ≤ 896 → Calls Try.prog 15 #[.string t] wx fun e w' => e = .returned (.tuple #[.slice none 0 0, .string ⟨#[]⟩, .int .i64 1]) ∧ Below wx.heap.size wx w') := fun t wx ht hs => make_bad wx t 1 (by omega) (by rw [ht, mE_jS hF, hgl, if_pos (by rw [hup])]) (by decide)
            clear CJ CJ' j1 j2 j3 hL hwL hL9 hlt hlt' hk hx0 hmx hlen hk6 hgl hup hxm hcx hk0 hL2
            go_wp2_with (first
              | (go_at_call 10; refine CJ3.mono ?_; rintro e w2 ⟨⟨t, rfl, ht, hts⟩, hb2⟩; have hts9 : Hid (t.size ≤ 896) := (by rw [hts]; exact HL9.out); have htb : ((t.size : Int) == max (L : Int) 1) = true := HTB.out t hts; clear hts)
              | (go_at_call 11; refine (num_any _ _).mono ?_; rintro e wn ⟨rfl, rfl⟩)
              | (go_at_call 12; refine (CP.out t _ ht.out hts9.out).mono ?_; rintro e w3 ⟨d3, y3, q3, rfl, s3, m3', hb3⟩; have m3 : Hid (_ = _) := m3'; clear m3')
              | (go_at_call 13; refine (CT.out t _ ht.out hts9.out).mono ?_; rintro e w4 ⟨d4, y4, q4, rfl, s4, m4', hb4⟩; have m4 : Hid (_ = _) := m4'; clear m4')
              | (go_at_call 14; have hh := T1.out; clear T1 hh; refine (CS.out _ _ _ _ _ _ q3 xs (s3.on hb4) (hat2.on (below_t hb2 (below_t hb3 hb4))) m3.out HN.out.1 (Nat.le_refl _)).mono ?_; rintro e w5 ⟨rfl, hb5⟩)
              | (go_at_call 14; have hh := T2.out; clear T2 hh; refine (CS.out _ _ _ _ _ _ q4 xs (s4.on hb5) (hat2.on (below_t hb2 (below_t hb3 (below_t hb4 hb5)))) m4.out HN.out.1 (Nat.le_refl _)).mono ?_; rintro e w6 ⟨rfl, hb6⟩)
              | (go_at_call 15; refine (CM.out t _ ht.out hts9.out).mono ?_; rintro e w7 ⟨rfl, hb7⟩; have hcl := HC.out _ (below_t hb2 (below_t hb3 (below_t hb4 (below_t hb5 (below_t hb6 hb7)))))))
            · go_ret
              exact ⟨rfl, below_t hb1 (below_t hbr (below_t hb2 (below_t hb3 (below_t hb4 (below_t hb5 (below_t hb6 hb7))))))⟩
            · exact absurd (beq_iff_eq.1 htb) (by assumption)
          · have hu : (x.toList == [46, 46]) = false := by rw [toList_tx]; simpa using hup
            have hdl : (xs.map tx).dropLast = (xs.take m).map tx := by rw [List.map_take, List.dropLast_eq_take, hlen]; rfl
            have CM : Hid (∀ (t : ByteArray) (wx : World), tx t = jS (xs.map tx) → t.size ≤ 896 → Calls Try.prog 15 #[.string t] wx fun e w' => ∃ d y, ∃ q : List ByteArray, e = .returned (.tuple #[.slice d m y, .string x, .int .i64 0]) ∧ StrsAt w' d q ∧ q.map tx = (xs.take m).map tx ∧ Below wx.heap.size wx w') := fun t wx ht hs => (make_ok wx t m (by omega) (by rw [ht, mE_jS hF, hgl, if_neg (by simpa using hup)]) (by rw [ht, jS_cps hF]; exact hlen)).mono (by
              rintro e w' ⟨d, y, nm, q, rfl, h1, h2, h3, h4, h5, h6⟩
              rw [ht, jS_cps hF] at h2 h4
              rw [hgl] at h4
              rw [hdl] at h2
              have : nm = x := tx_inj h4
              subst this
              exact ⟨d, y, q, rfl, h1, h2, h6⟩)
            have c6 : (m : Int) ≤ (c : Int) := by have := HN.out.2.1; omega
            clear CJ CJ' j1 j2 j3 hL hwL hL9 hlt hlt' hk hx0 hmx hlen hk6 hgl hup hxm hcx hk0 hdl hL2
            go_wp2_with (first
              | (go_at_call 10; refine CJ3.mono ?_; rintro e w2 ⟨⟨t, rfl, ht, hts⟩, hb2⟩; have hts9 : Hid (t.size ≤ 896) := (by rw [hts]; exact HL9.out); have htb : ((t.size : Int) == max (L : Int) 1) = true := HTB.out t hts; clear hts)
              | (go_at_call 11; refine (num_any _ _).mono ?_; rintro e wn ⟨rfl, rfl⟩)
              | (go_at_call 12; refine (CP.out t _ ht.out hts9.out).mono ?_; rintro e w3 ⟨d3, y3, q3, rfl, s3, m3', hb3⟩; have m3 : Hid (_ = _) := m3'; clear m3')
              | (go_at_call 13; refine (CT.out t _ ht.out hts9.out).mono ?_; rintro e w4 ⟨d4, y4, q4, rfl, s4, m4', hb4⟩; have m4 : Hid (_ = _) := m4'; clear m4')
              | (go_at_call 14; have hh := T1.out; clear T1 hh; refine (CS.out _ _ _ _ _ _ q3 xs (s3.on hb4) (hat2.on (below_t hb2 (below_t hb3 hb4))) m3.out HN.out.1 (Nat.le_refl _)).mono ?_; rintro e w5 ⟨rfl, hb5⟩)
              | (go_at_call 14; have hh := T2.out; clear T2 hh; refine (CS.out _ _ _ _ _ _ q4 xs (s4.on hb5) (hat2.on (below_t hb2 (below_t hb3 (below_t hb4 hb5)))) m4.out HN.out.1 (Nat.le_refl _)).mono ?_; rintro e w6 ⟨rfl, hb6⟩)
              | (go_at_call 15; refine (CM.out t _ ht.out hts9.out).mono ?_; rintro e w7 ⟨d7, y7, q7, rfl, s7, m7', hb7⟩; have m7 : Hid (_ = _) := m7'; clear m7'; have hcl := HC.out _ (below_t hb2 (below_t hb3 (below_t hb4 (below_t hb5 (below_t hb6 hb7))))))
              | (go_at_call 14; refine (CS.out _ _ _ _ _ _ q7 (xs.take m) s7 ((hat2.on (below_t hb2 (below_t hb3 (below_t hb4 (below_t hb5 (below_t hb6 hb7)))))).take m) m7.out HT.out (Nat.le_succ m)).mono ?_; rintro e w8 ⟨rfl, hb8⟩; have hcl8 := HC.out _ (below_t hb2 (below_t hb3 (below_t hb4 (below_t hb5 (below_t hb6 (below_t hb7 hb8))))))))
            · go_ret
              exact ⟨rfl, below_t hb1 (below_t hbr (below_t hb2 (below_t hb3 (below_t hb4 (below_t hb5 (below_t hb6 (below_t hb7 hb8)))))))⟩
            · exact absurd (beq_iff_eq.1 htb) (by assumption)
end Go.Proofs.Ytkmadcjbeiigmaa
