import Derived.Test.YtkmadcjbeiigmaaKR13m
namespace Go.Proofs.Ytkmadcjbeiigmaa
open Go.RowKit Go.Shelf Pa
theorem len_lens (ps : List Tx) : ps.length ≤ lens ps := by
  induction ps with
  | nil => exact Nat.le_refl _
  | cons p ps ih => rw [lens_cons, List.length_cons]; omega
theorem cps_le (l : Tx) : (cps l).length ≤ l.length + 1 := by
  have h1 := len_lens (cps l)
  have h2 : lens (cps l) ≤ lens (pcs l) := lens_sub List.filter_sublist
  have h3 := pcs_lens l
  omega
theorem pL_le (l : Tx) : (pL l).length ≤ l.length + 1 := by
  unfold pL
  split
  · exact cps_le l
  · simp
theorem tL_le (l : Tx) : (tL l).length ≤ l.length + 1 := by
  unfold tL
  split
  · exact cps_le l
  · simp
theorem mL_le (l : Tx) : (mL l).length ≤ l.length + 1 := by
  unfold mL
  split
  · have := cps_le l
    rw [List.length_dropLast]; omega
  · simp
theorem cell_on {w w' : World} {p : Addr} {v : Value} (h : w.cell? p = some v) (hb : Below w.heap.size w w') : w'.cell? p = some v := (hb.cell (p := p) (block_lt_of_cell h)).trans h
set_option maxRecDepth 100000 in
set_option maxHeartbeats 8000000 in
theorem exact_any (w : World) (s : ByteArray) (hs : s.size ≤ 100000000) (a : Option Addr) (n c : Nat) (l : List Tx) (ht : Told w a n l) (hn : n ≤ 100000000) (hl : ∀ p, p ∈ l → p.length ≤ 100000000) : Calls Try.prog 7 #[.string s, .slice a n c] w fun e w' => e = .returned (.bool true) ∧ Below w.heap.size w w' := by
  have hs2 : s.size ≤ 9223372036854775807 := by omega
  have hn7 : (n : Int) < ((n + 1 : Nat) : Int) := by omega
  obtain ⟨n1, hn1⟩ : ∃ n1, (pL (tx s)).length = n1 := ⟨_, rfl⟩
  obtain ⟨E1, hE1⟩ : ∃ E1, pE (tx s) = E1 := ⟨_, rfl⟩
  obtain ⟨n2, hn2⟩ : ∃ n2, (tL (tx s)).length = n2 := ⟨_, rfl⟩
  obtain ⟨B2, hB2⟩ : ∃ B2, tT (tx s) = B2 := ⟨_, rfl⟩
  obtain ⟨E2, hE2⟩ : ∃ E2, tE (tx s) = E2 := ⟨_, rfl⟩
  obtain ⟨n3, hn3⟩ : ∃ n3, (mL (tx s)).length = n3 := ⟨_, rfl⟩
  obtain ⟨N3, hN3⟩ : ∃ N3, st (mN (tx s)) = N3 := ⟨_, rfl⟩
  obtain ⟨E3, hE3⟩ : ∃ E3, mE (tx s) = E3 := ⟨_, rfl⟩
  obtain ⟨N4, hN4⟩ : ∃ N4, st (cS (tx s)) = N4 := ⟨_, rfl⟩
  obtain ⟨E4, hE4⟩ : ∃ E4, cE (tx s) = E4 := ⟨_, rfl⟩
  obtain ⟨B5, hB5⟩ : ∃ B5, name (tx s) = B5 := ⟨_, rfl⟩
  obtain ⟨N6, hN6⟩ : ∃ N6, st (jS l) = N6 := ⟨_, rfl⟩
  obtain ⟨E6, hE6⟩ : ∃ E6, jE l = E6 := ⟨_, rfl⟩
  obtain ⟨L1, hL1⟩ : ∃ L1, pL (tx s) = L1 := ⟨_, rfl⟩
  obtain ⟨L2, hL2⟩ : ∃ L2, tL (tx s) = L2 := ⟨_, rfl⟩
  obtain ⟨L3, hL3⟩ : ∃ L3, mL (tx s) = L3 := ⟨_, rfl⟩
  have b1 : Hid (n1 ≤ 9223372036854775806 ∧ n2 ≤ 9223372036854775806 ∧ n3 ≤ 9223372036854775806) := by
    have h0 := size_tx s
    have h1 := pL_le (tx s)
    have h2 := tL_le (tx s)
    have h3 := mL_le (tx s)
    exact ⟨by omega, by omega, by omega⟩
  have c1 : Hid (∀ wx, Calls Try.prog 12 #[.string s] wx fun e w' => ∃ a c, e = .returned (.tuple #[.slice a n1 c, .int .i64 E1]) ∧ Told w' a n1 L1 ∧ Below wx.heap.size wx w') := fun wx => by rw [← hL1]; exact parse_t wx s hs2 n1 E1 hn1 hE1
  have r1 : Hid (∀ wx, Calls Try.prog 19 #[.string s] wx fun e w' => ∃ a c, e = .returned (.tuple #[.slice a n1 c, .int .i64 E1]) ∧ Told w' a n1 L1 ∧ Below wx.heap.size wx w') := fun wx => by rw [← hL1]; exact rparse_t wx s hs n1 E1 hn1 hE1
  have c2 : Hid (∀ wx, Calls Try.prog 13 #[.string s] wx fun e w' => ∃ a c, e = .returned (.tuple #[.slice a n2 c, .bool B2, .int .i64 E2]) ∧ Told w' a n2 L2 ∧ Below wx.heap.size wx w') := fun wx => by rw [← hL2]; exact text_t wx s hs2 n2 B2 E2 hn2 hB2 hE2
  have r2 : Hid (∀ wx, Calls Try.prog 20 #[.string s] wx fun e w' => ∃ a c, e = .returned (.tuple #[.slice a n2 c, .bool B2, .int .i64 E2]) ∧ Told w' a n2 L2 ∧ Below wx.heap.size wx w') := fun wx => by rw [← hL2]; exact rtext_t wx s hs n2 B2 E2 hn2 hB2 hE2
  have c3 : Hid (∀ wx, Calls Try.prog 15 #[.string s] wx fun e w' => ∃ a c, e = .returned (.tuple #[.slice a n3 c, .string N3, .int .i64 E3]) ∧ Told w' a n3 L3 ∧ Below wx.heap.size wx w') := fun wx => by rw [← hL3]; exact make_t wx s hs2 n3 N3 E3 hn3 hN3 hE3
  have r3 : Hid (∀ wx, Calls Try.prog 21 #[.string s] wx fun e w' => ∃ a c, e = .returned (.tuple #[.slice a n3 c, .string N3, .int .i64 E3]) ∧ Told w' a n3 L3 ∧ Below wx.heap.size wx w') := fun wx => by rw [← hL3]; exact rmake_t wx s hs n3 N3 E3 hn3 hN3 hE3
  have c4 : Hid (∀ wx, Calls Try.prog 16 #[.string s] wx fun e w' => e = .returned (.tuple #[.string N4, .int .i64 E4]) ∧ Below wx.heap.size wx w') := fun wx => clean_t wx s hs2 N4 E4 hN4 hE4
  have r4 : Hid (∀ wx, Calls Try.prog 22 #[.string s] wx fun e w' => e = .returned (.tuple #[.string N4, .int .i64 E4]) ∧ Below wx.heap.size wx w') := fun wx => rclean_t wx s hs N4 E4 hN4 hE4
  have c5 : Hid (∀ wx, Calls Try.prog 9 #[.string s] wx fun e w' => e = .returned (.bool B5) ∧ Below wx.heap.size wx w') := fun wx => by rw [← hB5]; exact name_any wx s hs2
  have r5 : Hid (∀ wx, Calls Try.prog 23 #[.string s] wx fun e w' => e = .returned (.bool B5) ∧ Below wx.heap.size wx w') := fun wx => by rw [← hB5]; exact rname_any wx s hs
  have HL : Hid (st (jS l) = N6 ∧ jE l = E6 ∧ ∀ p, p ∈ l → p.length ≤ 100000000) := ⟨hN6, hE6, hl⟩
  have T1 : Hid True := trivial
  have T2 : Hid True := trivial
  have T3 : Hid True := trivial
  have T4 : Hid True := trivial
  have T5 : Hid True := trivial
  clear hn1 hE1 hn2 hB2 hE2 hn3 hN3 hE3 hN4 hE4 hB5 hN6 hE6 hl hL1 hL2 hL3
  go_enter Try.func7, Try.ntmps7
  go_wp2_with (first
    | (go_at_call 8; refine (known_any _).mono ?_; rintro e w0 ⟨rfl, hb0⟩)
    | (go_at_call 12; refine (c1.out _).mono ?_; rintro e w1 ⟨a1, d1, rfl, t1, hb1⟩)
    | (go_at_call 19; refine (r1.out _).mono ?_; rintro e w2 ⟨a2, d2, rfl, t2, hb2⟩)
    | (go_at_call 13; refine (c2.out _).mono ?_; rintro e w3 ⟨a3, d3, rfl, t3, hb3⟩)
    | (go_at_call 20; refine (r2.out _).mono ?_; rintro e w4 ⟨a4, d4, rfl, t4, hb4⟩)
    | (go_at_call 14; have hh := T1.out; clear T1 hh; refine (same_told _ _ _ n1 _ _ L1 (t1.on (below_t hb2 (below_t hb3 hb4))) (t2.on (below_t hb3 hb4)) b1.out.1).mono ?_; rintro e w5 ⟨rfl, hb5⟩)
    | (go_at_call 14; have hh := T2.out; clear T2 hh; refine (same_told _ _ _ n2 _ _ L2 (t3.on (below_t hb4 hb5)) (t4.on hb5) b1.out.2.1).mono ?_; rintro e w6 ⟨rfl, hb6⟩)
    | (go_at_call 15; refine (c3.out _).mono ?_; rintro e w7 ⟨a7, d7, rfl, t7, hb7⟩)
    | (go_at_call 21; refine (r3.out _).mono ?_; rintro e w8 ⟨a8, d8, rfl, t8, hb8⟩)
    | (go_at_call 16; refine (c4.out _).mono ?_; rintro e w9 ⟨rfl, hb9⟩)
    | (go_at_call 22; refine (r4.out _).mono ?_; rintro e w10 ⟨rfl, hb10⟩)
    | (go_at_call 14; have hh := T3.out; clear T3 hh; refine (same_told _ _ _ n3 _ _ L3 (t7.on (below_t hb8 (below_t hb9 hb10))) (t8.on (below_t hb9 hb10)) b1.out.2.2).mono ?_; rintro e w11 ⟨rfl, hb11⟩)
    | (go_at_call 9; refine (c5.out _).mono ?_; rintro e w12 ⟨rfl, hb12⟩)
    | (go_at_call 23; refine (r5.out _).mono ?_; rintro e w13 ⟨rfl, hb13⟩; have hB := below_t hb0 (below_t hb1 (below_t hb2 (below_t hb3 (below_t hb4 (below_t hb5 (below_t hb6 (below_t hb7 (below_t hb8 (below_t hb9 (below_t hb10 (below_t hb11 (below_t hb12 hb13)))))))))))); clear hb0 hb1 hb2 hb3 hb4 hb5 hb6 hb7 hb8 hb9 hb10 hb11 hb12 hb13 t1 t2 t3 t4 t7 t8)
    | (at_builtin; have hh := T4.out; obtain ⟨g14, cap14, xs14, w14, run14, ow14, hx14, hl14, hb14⟩ := app_parts w13 a n c l (ht.on hB) hn; refine wp_hrun rfl _ _ 22 rfl run14 ?_; clear run14 T4 hh)
    | (at_builtin; have hh := T5.out; obtain ⟨g15, cap15, w15, run15, ow15, hbw15⟩ := ow14.append2 ⟨#[109, 97, 114, 107]⟩ (by omega) hb14.size; rw [hl14] at run15 ow15; have hb15 := hbw15 _ hb14; clear hbw15; obtain ⟨td15, hc15, hd15, he15⟩ := ow15.marked hx14 hl14; have hf15 : (n : Int) ≤ (cap15 : Int) := Int.ofNat_le.2 (Nat.le_of_succ_le hd15); refine wp_hrun rfl _ _ 22 rfl run15 ?_; clear run15 T5 hh ow14 ow15)
    | (go_at_call 10; refine (join_t w15 _ n cap15 l td15 (by omega) (Nat.le_of_succ_le hd15) N6 E6 HL.out.1 HL.out.2.1).mono ?_; rintro e w16 ⟨rfl, hb16⟩)
    | (go_at_call 24; refine (rjoin_t w16 a n c l (ht.on (below_t hB (below_t hb15 hb16))) (by omega) HL.out.2.2 N6 E6 HL.out.1 HL.out.2.1).mono ?_; rintro e w17 ⟨rfl, hb17⟩)
    | (go_at_call 14; refine (same_told _ _ _ n _ _ l (td15.on (below_t hb16 hb17)) (ht.on (below_t hB (below_t hb15 (below_t hb16 hb17)))) (by omega)).mono ?_; rintro e w18 ⟨rfl, hb18⟩; have hc18 := cell_on hc15 (below_t hb16 (below_t hb17 hb18))))
  go_ret
  exact ⟨rfl, below_t hB (below_t hb15 (below_t hb16 (below_t hb17 hb18)))⟩
end Go.Proofs.Ytkmadcjbeiigmaa
