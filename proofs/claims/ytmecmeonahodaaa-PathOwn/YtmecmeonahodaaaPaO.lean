import Derived.Test.YtmecmeonahodaaaKPaN
namespace Go.Proofs.Ytmecmeonahodaaa
open Go.RowKit Go.Shelf Pa
theorem last_mem (l : Tx) : last l = [] ∨ last l ∈ pcs l := by
  unfold last
  cases h : (pcs l).getLast? with
  | none => exact .inl rfl
  | some p => exact .inr (List.mem_of_getLast? h)
theorem lens_mem {p : Tx} {ps : List Tx} (h : p ∈ ps) : p.length < lens ps := by
  induction ps with
  | nil => cases h
  | cons q qs ih =>
    rw [lens_cons]
    rcases List.mem_cons.1 h with rfl | h
    · omega
    · have := ih h; omega
theorem last_len (l : Tx) : (last l).length ≤ l.length := by
  rcases last_mem l with h | h
  · rw [h]; exact Nat.zero_le _
  · have h1 := lens_mem h
    have h2 := pcs_lens l
    omega
/-- texts in a row -/
def StrsAt (w : World) (a : Option Addr) (xs : List ByteArray) : Prop := xs = [] ∨ ∃ b off, a = some ⟨b, off, none⟩ ∧ ∀ j x, xs[j]? = some x → w.cell? ⟨b, off + j, none⟩ = some (.string x)
theorem Sl.cases {w : World} {base : Nat} {v : Value} {xs : List ByteArray} (h : Sl w base v xs) : (xs = [] ∧ v = .slice none 0 0) ∨ ∃ g cap, v = .slice (some ⟨g, 0, none⟩) xs.length cap ∧ base ≤ g ∧ xs.length ≤ cap ∧ cap ≤ maxLen ∧ 0 < xs.length ∧ ∀ j x, xs[j]? = some x → w.cell? ⟨g, j, none⟩ = some (.string x) := by
  by_cases hx : xs = []
  · exact .inl ⟨hx, h.nil.2 hx⟩
  · rcases h.row.2 with ⟨e, _⟩ | ⟨g, cap, cur, e1, e2, e3, e4, e5, e6, e7⟩
    · exact (hx (h.nil.1 e)).elim
    · refine .inr ⟨g, cap, e1, e2, e4, e5, List.length_pos_iff.2 hx, fun j x hj => ?_⟩
      have := h.row.cells (g := g) (by rw [e1]; rfl) j (.string x) (by rw [List.getElem?_map, hj]; rfl)
      cases j with
      | zero => simpa [Addr.add] using this
      | succ j => simpa [Addr.add] using this
theorem Sl.strs {w : World} {base : Nat} {v : Value} {xs : List ByteArray} (h : Sl w base v xs) : ∃ a c, v = .slice a xs.length c ∧ StrsAt w a xs ∧ xs.length ≤ c ∧ c ≤ maxLen := by
  rcases h.cases with ⟨h1, h2⟩ | ⟨g, cap, h1, h2, h3, h4, h5, h6⟩
  · subst h1; exact ⟨none, 0, h2, .inl rfl, Nat.le_refl _, Nat.zero_le _⟩
  · exact ⟨_, cap, h1, .inr ⟨g, 0, rfl, fun j x hj => by rw [Nat.zero_add]; exact h6 j x hj⟩, h3, h4⟩
theorem Sl.last {w : World} {base : Nat} {v : Value} {xs : List ByteArray} (h : Sl w base v xs) : (xs = [] ∧ v = .slice none 0 0) ∨ ∃ (n g cap : Nat) (ys : List ByteArray) (nm : ByteArray), v = .slice (some ⟨g, 0, none⟩) (n + 1) cap ∧ xs = ys ++ [nm] ∧ ys.length = n ∧ n + 1 ≤ cap ∧ cap ≤ 9223372036854775807 ∧ w.cell? ⟨g, n, none⟩ = some (.string nm) := by
  rcases h.cases with h1 | ⟨g, cap, h1, h2, h3, h4, h5, h6⟩
  · exact .inl h1
  · have hne : xs ≠ [] := List.length_pos_iff.1 h5
    have e := List.dropLast_concat_getLast hne
    have hl : xs.dropLast.length + 1 = xs.length := by rw [List.length_dropLast]; omega
    refine .inr ⟨xs.dropLast.length, g, cap, xs.dropLast, xs.getLast hne, by rw [hl]; exact h1, e.symm, rfl, by omega, h4, h6 _ _ ?_⟩
    rw [List.getLast_eq_getElem]
    rw [List.getElem?_eq_getElem (by omega)]
    congr 1
    congr 1
    omega
/-- Make's answer -/
def MakeR (w : World) (l : Tx) (e : Ending) (w' : World) : Prop :=
  ((e = .returned (.tuple #[.slice none 0 0, .string ⟨#[]⟩, .int .i64 (mE l)]) ∧ mL l = [] ∧ mN l = []) ∨
   (∃ g cap xs nm, e = .returned (.tuple #[.slice (some ⟨g, 0, none⟩) xs.length xs.length, .string nm, .int .i64 0]) ∧ mE l = 0 ∧ Sl w' w.heap.size (.slice (some ⟨g, 0, none⟩) (xs.length + 1) cap) (xs ++ [nm]) ∧ xs.map tx = mL l ∧ tx nm = mN l ∧ (xs ++ [nm]).map tx = cps l)) ∧ Below w.heap.size w w'
theorem mE_go {l : Tx} (h : goes (last l) = true) : mE l = 1 := by unfold mE; rw [if_pos h]
theorem mE_not {l : Tx} (h : goes (last l) = false) : mE l = pE l := by unfold mE; rw [if_neg (by rw [h]; simp)]
theorem MakeR.bad {w w' : World} {l : Tx} {n : Int} (h : mE l = n) (hn : n ≠ 0) (hb : Below w.heap.size w w') : MakeR w l (.returned (.tuple #[.slice none 0 0, .string ⟨#[]⟩, .int .i64 n])) w' :=
  ⟨.inl ⟨by rw [h], by rw [mL, h, if_neg hn], by rw [mN, h, if_neg hn]⟩, hb⟩
theorem MakeR.no {w w' : World} {l : Tx} (h : mE l = 0) (hc : cps l = []) (hb : Below w.heap.size w w') : MakeR w l (.returned (.tuple #[.slice none 0 0, .string ⟨#[]⟩, .int .i64 0])) w' :=
  ⟨.inl ⟨by rw [h], by rw [mL, h, if_pos rfl, hc]; rfl, by rw [mN, h, if_pos rfl, hc]; rfl⟩, hb⟩
theorem MakeR.yes {w w' : World} {l : Tx} (h : mE l = 0) {g cap : Nat} {ys : List ByteArray} {nm : ByteArray} (hv : Sl w' w.heap.size (.slice (some ⟨g, 0, Option.none⟩) (ys ++ [nm]).length cap) (ys ++ [nm])) (hx : (ys ++ [nm]).map tx = cps l) (hb : Below w.heap.size w w') : MakeR w l (.returned (.tuple #[.slice (some ⟨g, 0, Option.none⟩) ys.length ys.length, .string nm, .int .i64 0])) w' := by
  refine ⟨.inr ⟨g, cap, ys, nm, rfl, h, by simpa using hv, ?_, ?_, hx⟩, hb⟩
  · rw [mL, h, if_pos rfl, ← hx]; simp
  · rw [mN, h, if_pos rfl, ← hx]; simp
set_option maxHeartbeats 4000000 in
theorem make_any (w : World) (s : ByteArray) (hs : s.size ≤ 9223372036854775807) : Calls Try.prog 7 #[.string s] w fun e w' => MakeR w (tx s) e w' := by
  have CLa : ∀ w, Calls Try.prog 19 #[.string s] w fun e w' => ∃ t : ByteArray, e = .returned (.string t) ∧ tx t = last (tx s) ∧ t.size ≤ 9223372036854775807 ∧ Below w.heap.size w w' := fun w => (last_any w s hs).mono (by
    rintro e w' ⟨⟨t, h1, h2⟩, hb⟩
    refine ⟨t, h1, h2, ?_, hb⟩
    rw [size_tx, h2]
    have := last_len (tx s)
    rw [size_tx] at hs; omega)
  cases h1 : goes (last (tx s)) with
  | true =>
    have e1 : Hid (mE (tx s) = 1) := mE_go h1
    go_enter Try.func7, Try.ntmps7
    go_wp2_with (first | (go_at_call 19; refine (CLa _).mono ?_; rintro e w' ⟨t, rfl, ht, hts, hb⟩) | (go_at_call 18; refine (goes_any _ _ hts).mono ?_; rintro e w' ⟨rfl, hb2⟩; rw [ht, h1]))
    go_ret3
    exact MakeR.bad e1.out (by decide) (hb.trans (hb2.mono hb.size))
  | false =>
    have e0 : Hid (mE (tx s) = pE (tx s)) := mE_not h1
    by_cases hp : pE (tx s) = 0
    · have CP : ∀ w, Calls Try.prog 5 #[.string s] w fun e w' => (∃ v xs, e = .returned (.tuple #[v, .int .i64 0]) ∧ Sl w' w.heap.size v xs ∧ xs.map tx = cps (tx s)) ∧ Below w.heap.size w w' := fun w => (parse_any w s hs).mono (by
        rintro e w' ⟨⟨v, xs, h1, h2, h3⟩, hb⟩
        rw [pL, if_pos hp] at h3
        rw [hp] at h1
        exact ⟨⟨v, xs, h1, h2, h3⟩, hb⟩)
      have HP : Hid (mE (tx s) = 0) := e0.out.trans hp
      clear hp
      go_enter Try.func7, Try.ntmps7
      go_wp2_with (first | (go_at_call 19; refine (CLa _).mono ?_; rintro e w' ⟨t, rfl, ht, hts, hb⟩) | (go_at_call 18; refine (goes_any _ _ hts).mono ?_; rintro e w' ⟨rfl, hb2⟩; rw [ht, h1]) | (go_at_call 5; refine (CP _).mono ?_; rintro e w' ⟨⟨v, xs, rfl, hv, hx⟩, hb3⟩; rcases hv.last with ⟨rfl, rfl⟩ | ⟨n, g, cap, ys, nm, rfl, rfl, k1, k2, k3, k4⟩))
      · go_ret3
        exact MakeR.no HP.out hx.symm ((hb.trans (hb2.mono hb.size)).trans (hb3.mono (Nat.le_trans hb.size hb2.size)))
      · have c5 : wrap64 ((n : Int) + 1 - 1) = (n : Int) := by unfold wrap64; omega
        have c6 : (n : Int) ≤ (cap : Int) := by omega
        have c7 : (n : Int) < ((n + 1 : Nat) : Int) := by omega
        have HV : Hid (MakeR w (tx s) (.returned (.tuple #[.slice (some ⟨g, 0, none⟩) n n, .string nm, .int .i64 0])) w'.drew) := by
          have hd : Below w'.heap.size w' w'.drew := (Below.refl _ w').drew
          have hz2 := Nat.le_trans hb.size hb2.size
          rw [← k1]
          refine MakeR.yes HP.out (cap := cap) ((Sl.on (by rw [List.length_append, k1]; exact hv) hd).base hz2) hx (((hb.trans (hb2.mono hb.size)).trans (hb3.mono hz2)).trans (hd.mono (Nat.le_trans hz2 hb3.size)))
        clear hv hx k1
        go_region
        go_wp2
        go_ret3
        exact HV.out
    · have hpn : ((pE (tx s)) == 0) = false := by simpa using hp
      have CP : ∀ w, Calls Try.prog 5 #[.string s] w fun e w' => e = .returned (.tuple #[.slice none 0 0, .int .i64 (pE (tx s))]) ∧ Below w.heap.size w w' := fun w => (parse_any w s hs).mono (by
        rintro e w' ⟨⟨v, xs, h1, h2, h3⟩, hb⟩
        rw [pL, if_neg hp] at h3
        refine ⟨?_, hb⟩
        rw [h1, h2.nil.2 (by simpa using h3)])
      obtain ⟨n, hn⟩ : ∃ n, pE (tx s) = n := ⟨_, rfl⟩
      rw [hn] at CP hp
      have HP : Hid (mE (tx s) = n ∧ n ≠ 0) := ⟨e0.out.trans hn, hp⟩
      clear hn hpn e0
      go_enter Try.func7, Try.ntmps7
      go_wp2_with (first | (go_at_call 19; refine (CLa _).mono ?_; rintro e w' ⟨t, rfl, ht, hts, hb⟩) | (go_at_call 18; refine (goes_any _ _ hts).mono ?_; rintro e w' ⟨rfl, hb2⟩; rw [ht, h1]) | (go_at_call 5; refine (CP _).mono ?_; rintro e w' ⟨rfl, hb3⟩))
      go_ret3
      exact MakeR.bad HP.out.1 HP.out.2 ((hb.trans (hb2.mono hb.size)).trans (hb3.mono (Nat.le_trans hb.size hb2.size)))
end Go.Proofs.Ytmecmeonahodaaa
