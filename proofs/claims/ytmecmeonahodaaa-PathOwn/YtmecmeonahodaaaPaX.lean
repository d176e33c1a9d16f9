import Derived.Test.YtmecmeonahodaaaPaW
namespace Go.Proofs.Ytmecmeonahodaaa
open Go.RowKit Go.Shelf Pa
theorem num_any (w : World) (e : Int) : Calls Try.prog 12 #[.int .i64 e] w fun r w' => r = .returned (.int .i64 e) ∧ w = w' := by
  go_enter Try.func12, Try.ntmps12
  go_wp2
  go_ret
  exact ⟨rfl, rfl⟩
theorem strs_lit (w : World) (xs : List ByteArray) (t : Nat) : StrsAt (w.alloc (.cells (xs.map Value.string).toArray t)) (some ⟨w.heap.size, 0, none⟩) xs := by
  refine .inr ⟨_, 0, rfl, fun j x hj => ?_⟩
  unfold World.cell?
  rw [World.alloc_heap_new]
  simp [hj]
/-- Parse of what it takes: n components -/
theorem parse_ok (w : World) (s : ByteArray) (n : Nat) (hs : s.size ≤ 9223372036854775807) (hp : pE (tx s) = 0) (hn : (cps (tx s)).length = n) : Calls Try.prog 5 #[.string s] w fun e w' => ∃ a c xs, e = .returned (.tuple #[.slice a n c, .int .i64 0]) ∧ StrsAt w' a xs ∧ xs.map tx = cps (tx s) ∧ xs.length = n ∧ n ≤ c ∧ Sl w' w.heap.size (.slice a n c) xs ∧ Below w.heap.size w w' := by
  refine (parse_any w s hs).mono ?_
  rintro e w' ⟨⟨v, xs, rfl, hv, hx⟩, hb⟩
  rw [pL, if_pos hp] at hx
  rw [hp]
  obtain ⟨a, c, rfl, h1, h2, h3⟩ := hv.strs
  have hl : xs.length = n := by rw [← hn, ← hx, List.length_map]
  rw [hl] at h2 hv ⊢
  exact ⟨a, c, xs, rfl, h1, hx, hl, h2, hv, hb⟩
theorem text_ok (w : World) (s : ByteArray) (n : Nat) (hs : s.size ≤ 9223372036854775807) (hp : tE (tx s) = 0) (hn : (cps (tx s)).length = n) : Calls Try.prog 6 #[.string s] w fun e w' => ∃ a c xs, e = .returned (.tuple #[.slice a n c, .bool (sl1 (tx s)), .int .i64 0]) ∧ StrsAt w' a xs ∧ xs.map tx = cps (tx s) ∧ xs.length = n ∧ n ≤ c ∧ Sl w' w.heap.size (.slice a n c) xs ∧ Below w.heap.size w w' := by
  refine (text_any w s hs).mono ?_
  rintro e w' ⟨⟨v, xs, rfl, hv, hx⟩, hb⟩
  rw [tL, if_pos hp] at hx
  rw [tT, hp, if_pos rfl]
  obtain ⟨a, c, rfl, h1, h2, h3⟩ := hv.strs
  have hl : xs.length = n := by rw [← hn, ← hx, List.length_map]
  rw [hl] at h2 hv ⊢
  exact ⟨a, c, xs, rfl, h1, hx, hl, h2, hv, hb⟩
theorem Sl.pre {w : World} {base g n cap : Nat} {xs : List ByteArray} {nm : ByteArray} (h : Sl w base (.slice (some ⟨g, 0, none⟩) n cap) (xs ++ [nm])) : StrsAt w (some ⟨g, 0, none⟩) xs := by
  rcases h.cases with ⟨e, _⟩ | ⟨g', cap', e, h1, h2, h3, h4, h5⟩
  · simp at e
  · cases e
    refine .inr ⟨g, 0, rfl, fun j x hj => ?_⟩
    rw [Nat.zero_add]
    refine h5 j x ?_
    rw [List.getElem?_append_left (List.getElem?_eq_some_iff.1 hj).1]; exact hj
/-- Make of what it takes -/
theorem make_ok (w : World) (s : ByteArray) (n : Nat) (hs : s.size ≤ 9223372036854775807) (hp : mE (tx s) = 0) (hn : (cps (tx s)).length = n + 1) : Calls Try.prog 7 #[.string s] w fun e w' => ∃ a c nm xs, e = .returned (.tuple #[.slice a n c, .string nm, .int .i64 0]) ∧ StrsAt w' a xs ∧ xs.map tx = (cps (tx s)).dropLast ∧ xs.length = n ∧ tx nm = (cps (tx s)).getLast?.getD [] ∧ n ≤ c ∧ Below w.heap.size w w' := by
  refine (make_any w s hs).mono ?_
  rintro e w' ⟨⟨rfl, h1, h2⟩ | ⟨g, cap, xs, nm, rfl, h1, h2, h3, h4, _⟩, hb⟩
  · rw [mL, if_pos hp] at h1
    have h3 := congrArg List.length h1
    rw [List.length_dropLast, hn] at h3
    rw [mN, if_pos hp] at h2
    have : n = 0 := by simpa using h3
    subst this
    rw [hp]
    exact ⟨none, 0, ⟨#[]⟩, [], rfl, .inl rfl, h1.symm, rfl, h2.symm, Nat.le_refl _, hb⟩
  · rw [mL, if_pos hp] at h3
    rw [mN, if_pos hp] at h4
    have hl : xs.length = n := by
      have := congrArg List.length h3
      rw [List.length_map, List.length_dropLast, hn] at this
      simpa using this
    have h5 := h2.pre
    rw [hl]
    exact ⟨_, _, nm, xs, rfl, h5, h3, hl, h4, Nat.le_refl _, hb⟩
theorem make_none (w : World) (s : ByteArray) (hs : s.size ≤ 9223372036854775807) (hp : mE (tx s) = 0) (hn : cps (tx s) = []) : Calls Try.prog 7 #[.string s] w fun e w' => e = .returned (.tuple #[.slice none 0 0, .string ⟨#[]⟩, .int .i64 0]) ∧ Below w.heap.size w w' := by
  refine (make_any w s hs).mono ?_
  rintro e w' ⟨⟨rfl, h1, h2⟩ | ⟨g, cap, xs, nm, rfl, h1, h2, h3, h4, h5⟩, hb⟩
  · rw [hp]; exact ⟨rfl, hb⟩
  · rw [hn] at h5; simp at h5
theorem make_bad (w : World) (s : ByteArray) (n : Int) (hs : s.size ≤ 9223372036854775807) (hp : mE (tx s) = n) (hn : n ≠ 0) : Calls Try.prog 7 #[.string s] w fun e w' => e = .returned (.tuple #[.slice none 0 0, .string ⟨#[]⟩, .int .i64 n]) ∧ Below w.heap.size w w' := by
  refine (make_any w s hs).mono ?_
  rintro e w' ⟨⟨rfl, h1, h2⟩ | ⟨g, cap, xs, nm, rfl, h1, h2, h3, h4, h5⟩, hb⟩
  · rw [hp]; exact ⟨rfl, hb⟩
  · rw [hp] at h1; exact absurd h1 hn
theorem eq_lit {t : ByteArray} {l : Tx} (h : tx t = l) : t = st l := tx_inj (by rw [h, tx_st])
theorem join_ok (w : World) (a : Option Addr) (n c : Nat) (xs : List ByteArray) (hxs : StrsAt w a xs) (hn : xs.length = n) (hb : n ≤ 9223372036854775806) (hnc : n ≤ c) (hp : jE (xs.map tx) = 0) : Calls Try.prog 10 #[.slice a n c] w fun e w' => (∃ t : ByteArray, e = .returned (.tuple #[.string t, .int .i64 0]) ∧ tx t = jS (xs.map tx)) ∧ Below w.heap.size w w' := by
  refine (join_any w a n c xs hxs hn hb hnc).mono ?_
  rintro e w' ⟨⟨t, rfl, ht⟩, hb⟩
  rw [hp]
  exact ⟨⟨t, rfl, ht⟩, hb⟩
theorem clean_ok (w : World) (s : ByteArray) (hs : s.size ≤ 9223372036854775807) (hp : pE (tx s) = 0) : Calls Try.prog 11 #[.string s] w fun e w' => (∃ t : ByteArray, e = .returned (.tuple #[.string t, .int .i64 0]) ∧ tx t = jS (cl (cps (tx s)))) ∧ Below w.heap.size w w' := by
  refine (clean_any w s hs).mono ?_
  rintro e w' ⟨⟨t, rfl, ht⟩, hb⟩
  rw [cE, hp]
  rw [cS, if_pos hp] at ht
  exact ⟨⟨t, rfl, ht⟩, hb⟩
def K1 : ByteArray := ⟨#[47, 47, 97, 47, 46, 47, 98, 47, 47, 47, 46, 46]⟩
def K2 : ByteArray := ⟨#[97, 47, 46, 46, 47, 98]⟩
def K3 : ByteArray := ⟨#[47, 97, 47, 98, 47, 47]⟩
def K5 : ByteArray := ⟨#[47, 97, 47, 46, 46, 47, 46, 46, 47, 98, 47, 46, 47, 99, 47]⟩
theorem k1 : pE (tx K1) = 0 ∧ cps (tx K1) = [[97], [98], [46, 46]] := by decide
theorem k2 : tE (tx K2) = 0 ∧ cps (tx K2) = [[97], [46, 46], [98]] ∧ sl1 (tx K2) = false := by decide
theorem k3 : mE (tx K3) = 0 ∧ cps (tx K3) = [[97], [98]] := by decide
theorem k4 : jE [[97], [46, 46]] = 0 ∧ jS [[97], [46, 46]] = [47, 97, 47, 46, 46] := by decide
theorem k5 : pE (tx K5) = 0 ∧ jS (cl (cps (tx K5))) = [47, 98, 47, 99] := by decide
theorem k6 : name [46, 46, 46] = true ∧ name [46, 46] = false := by decide
end Go.Proofs.Ytmecmeonahodaaa
