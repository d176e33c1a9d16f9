import Derived.Test.YtkmadcjbeiigmaaKR13k
import Derived.Test.YtkmadcjbeiigmaaPaZ
namespace Go.Proofs.Ytkmadcjbeiigmaa
open Go.RowKit Go.Shelf Pa
/-- texts told in a row of n -/
def Told (w' : World) (a : Option Addr) (n : Nat) (l : List Tx) : Prop := ∃ xs, StrsAt w' a xs ∧ xs.map tx = l ∧ xs.length = n
theorem Told.on {w w' : World} {a : Option Addr} {n : Nat} {l : List Tx} (h : Told w a n l) (hb : Below w.heap.size w w') : Told w' a n l := by
  obtain ⟨xs, h1, h2, h3⟩ := h
  exact ⟨xs, h1.on hb, h2, h3⟩
theorem Told.mk {w : World} {a : Option Addr} {n : Nat} {l : List Tx} {xs : List ByteArray} (h : StrsAt w a xs) (hx : xs.map tx = l) (hn : l.length = n) : xs.length = n ∧ Told w a n l := by
  have : xs.length = n := by rw [← hn, ← hx, List.length_map]
  exact ⟨this, xs, h, hx, this⟩
theorem same_told (w : World) (a b : Option Addr) (n c d : Nat) (l : List Tx) (h1 : Told w a n l) (h2 : Told w b n l) (hb : n ≤ 9223372036854775806) : Calls Try.prog 14 #[.slice a n c, .slice b n d] w fun e w' => e = .returned (.bool true) ∧ Below w.heap.size w w' := by
  obtain ⟨xs, h1, h3, h4⟩ := h1
  obtain ⟨ys, h2, h5, h6⟩ := h2
  refine (same_any w a b n c n d xs ys h1 h2 h4 h6 hb).mono ?_
  rintro e w' ⟨rfl, q, rfl⟩
  rw [h3, h5, sameT_yes rfl]
  exact ⟨rfl, below_drewN (Below.refl _ w) q⟩
theorem parse_t (w : World) (s : ByteArray) (hs : s.size ≤ 9223372036854775807) (n : Nat) (E : Int) (hn : (pL (tx s)).length = n) (hE : pE (tx s) = E) : Calls Try.prog 12 #[.string s] w fun e w' => ∃ a c, e = .returned (.tuple #[.slice a n c, .int .i64 E]) ∧ Told w' a n (pL (tx s)) ∧ Below w.heap.size w w' :=
  (parse_any w s hs).mono (by
    rintro e w' ⟨⟨v, xs, rfl, hv, hx⟩, hb⟩
    obtain ⟨a, c, rfl, h1, h2, h3⟩ := hv.strs
    obtain ⟨h4, h5⟩ := Told.mk h1 hx hn
    rw [h4, hE]
    exact ⟨a, c, rfl, h5, hb⟩)
theorem rparse_t (w : World) (s : ByteArray) (hs : s.size ≤ 100000000) (n : Nat) (E : Int) (hn : (pL (tx s)).length = n) (hE : pE (tx s) = E) : Calls Try.prog 19 #[.string s] w fun e w' => ∃ a c, e = .returned (.tuple #[.slice a n c, .int .i64 E]) ∧ Told w' a n (pL (tx s)) ∧ Below w.heap.size w w' :=
  (rparse_any w s hs).mono (by
    rintro e w' ⟨⟨v, xs, rfl, hv, hx⟩, hb⟩
    obtain ⟨a, c, rfl, h1, h2⟩ := hv.strs
    obtain ⟨h4, h5⟩ := Told.mk h1 hx hn
    rw [h4, hE]
    exact ⟨a, c, rfl, h5, hb⟩)
theorem text_t (w : World) (s : ByteArray) (hs : s.size ≤ 9223372036854775807) (n : Nat) (B : Bool) (E : Int) (hn : (tL (tx s)).length = n) (hB : tT (tx s) = B) (hE : tE (tx s) = E) : Calls Try.prog 13 #[.string s] w fun e w' => ∃ a c, e = .returned (.tuple #[.slice a n c, .bool B, .int .i64 E]) ∧ Told w' a n (tL (tx s)) ∧ Below w.heap.size w w' :=
  (text_any w s hs).mono (by
    rintro e w' ⟨⟨v, xs, rfl, hv, hx⟩, hb⟩
    obtain ⟨a, c, rfl, h1, h2, h3⟩ := hv.strs
    obtain ⟨h4, h5⟩ := Told.mk h1 hx hn
    rw [h4, hE, hB]
    exact ⟨a, c, rfl, h5, hb⟩)
theorem rtext_t (w : World) (s : ByteArray) (hs : s.size ≤ 100000000) (n : Nat) (B : Bool) (E : Int) (hn : (tL (tx s)).length = n) (hB : tT (tx s) = B) (hE : tE (tx s) = E) : Calls Try.prog 20 #[.string s] w fun e w' => ∃ a c, e = .returned (.tuple #[.slice a n c, .bool B, .int .i64 E]) ∧ Told w' a n (tL (tx s)) ∧ Below w.heap.size w w' :=
  (rtext_any w s hs).mono (by
    rintro e w' ⟨⟨v, xs, rfl, hv, hx⟩, hb⟩
    obtain ⟨a, c, rfl, h1, h2⟩ := hv.strs
    obtain ⟨h4, h5⟩ := Told.mk h1 hx hn
    rw [h4, hE, hB]
    exact ⟨a, c, rfl, h5, hb⟩)
theorem make_t (w : World) (s : ByteArray) (hs : s.size ≤ 9223372036854775807) (n : Nat) (N : ByteArray) (E : Int) (hn : (mL (tx s)).length = n) (hN : st (mN (tx s)) = N) (hE : mE (tx s) = E) : Calls Try.prog 15 #[.string s] w fun e w' => ∃ a c, e = .returned (.tuple #[.slice a n c, .string N, .int .i64 E]) ∧ Told w' a n (mL (tx s)) ∧ Below w.heap.size w w' :=
  (make_any w s hs).mono (by
    rintro e w' ⟨⟨rfl, h1, h2⟩ | ⟨g, cap, xs, nm, rfl, h1, h2, h3, h4, _⟩, hb⟩
    · obtain ⟨h4, h5⟩ := Told.mk (w := w') (a := none) (xs := []) (.inl rfl) h1.symm hn
      subst h4
      rw [h2] at hN
      rw [hE, ← hN]
      exact ⟨none, 0, rfl, h5, hb⟩
    · obtain ⟨h5, h6⟩ := Told.mk h2.pre h3 hn
      rw [← hE, h1, ← hN, ← eq_lit h4, h5]
      exact ⟨_, _, rfl, h6, hb⟩)
theorem rmake_t (w : World) (s : ByteArray) (hs : s.size ≤ 100000000) (n : Nat) (N : ByteArray) (E : Int) (hn : (mL (tx s)).length = n) (hN : st (mN (tx s)) = N) (hE : mE (tx s) = E) : Calls Try.prog 21 #[.string s] w fun e w' => ∃ a c, e = .returned (.tuple #[.slice a n c, .string N, .int .i64 E]) ∧ Told w' a n (mL (tx s)) ∧ Below w.heap.size w w' :=
  (rmake_any w s hs).mono (by
    rintro e w' ⟨⟨a, m, c, xs, rfl, h1, h2, h3⟩, hb⟩
    obtain ⟨h5, h6⟩ := Told.mk h1 h2 hn
    rw [← hE, ← hN, ← h3, h5]
    exact ⟨_, _, rfl, h6, hb⟩)
theorem clean_t (w : World) (s : ByteArray) (hs : s.size ≤ 9223372036854775807) (N : ByteArray) (E : Int) (hN : st (cS (tx s)) = N) (hE : cE (tx s) = E) : Calls Try.prog 16 #[.string s] w fun e w' => e = .returned (.tuple #[.string N, .int .i64 E]) ∧ Below w.heap.size w w' :=
  (clean_any w s hs).mono (by
    rintro e w' ⟨⟨t, rfl, ht⟩, hb⟩
    rw [← hE, ← hN, ← eq_lit ht]
    exact ⟨rfl, hb⟩)
theorem rclean_t (w : World) (s : ByteArray) (hs : s.size ≤ 100000000) (N : ByteArray) (E : Int) (hN : st (cS (tx s)) = N) (hE : cE (tx s) = E) : Calls Try.prog 22 #[.string s] w fun e w' => e = .returned (.tuple #[.string N, .int .i64 E]) ∧ Below w.heap.size w w' :=
  (rclean_any w s hs).mono (by
    rintro e w' ⟨⟨t, rfl, ht⟩, hb⟩
    rw [← hE, ← hN, ← eq_lit ht]
    exact ⟨rfl, hb⟩)
theorem join_t (w : World) (a : Option Addr) (n c : Nat) (l : List Tx) (h : Told w a n l) (hb : n ≤ 9223372036854775806) (hnc : n ≤ c) (N : ByteArray) (E : Int) (hN : st (jS l) = N) (hE : jE l = E) : Calls Try.prog 10 #[.slice a n c] w fun e w' => e = .returned (.tuple #[.string N, .int .i64 E]) ∧ Below w.heap.size w w' := by
  obtain ⟨xs, h1, h2, h3⟩ := h
  refine (join_any w a n c xs h1 h3 hb hnc).mono ?_
  rintro e w' ⟨⟨t, rfl, ht⟩, hb⟩
  rw [h2] at ht ⊢
  rw [← hE, ← hN, ← eq_lit ht]
  exact ⟨rfl, hb⟩
theorem rjoin_t (w : World) (a : Option Addr) (n c : Nat) (l : List Tx) (h : Told w a n l) (hb : n ≤ 1000000000) (hl : ∀ p, p ∈ l → p.length ≤ 100000000) (N : ByteArray) (E : Int) (hN : st (jS l) = N) (hE : jE l = E) : Calls Try.prog 24 #[.slice a n c] w fun e w' => e = .returned (.tuple #[.string N, .int .i64 E]) ∧ Below w.heap.size w w' := by
  obtain ⟨xs, h1, h2, h3⟩ := h
  refine (rjoin_any w a n c xs h1 h3 hb (fun x hx => by rw [size_tx]; exact hl _ (by rw [← h2]; exact List.mem_map_of_mem hx))).mono ?_
  rintro e w' ⟨⟨t, rfl, ht⟩, hb⟩
  rw [h2] at ht ⊢
  rw [← hE, ← hN, ← eq_lit ht]
  exact ⟨rfl, hb⟩
end Go.Proofs.Ytkmadcjbeiigmaa

namespace Go.Proofs.Ytkmadcjbeiigmaa
open Go.RowKit Go.Shelf Pa
theorem app_none (w : World) (g cap m c : Nat) (hm : m ≤ cap) : (Builtin.append_ #[22, 22] 22 #[.slice (some ⟨g, 0, none⟩) m cap, .slice none 0 c]).run Try.prog w = .ok (.slice (some ⟨g, 0, none⟩) m cap) w := by
  obtain ⟨i0, hi, hz0, hz1, hz2⟩ := info_parts infoS
  simp [Builtin.append_, run_underlying Try.underlying22, sizeOf, typeInfo, hi, Builtin.lenOf, Builtin.firstCells, hm, storeCells]
theorem app_parts (w : World) (a : Option Addr) (n c : Nat) (l : List Tx) (h : Told w a n l) (hn : n ≤ 100000000) : ∃ g cap xs w', (Builtin.append_ #[22, 22] 22 #[.slice (some ⟨w.heap.size, 0, none⟩) 0 0, .slice a n c]).run Try.prog (w.alloc (.cells #[] 9)) = .ok (.slice (some ⟨g, 0, none⟩) n cap) w' ∧ Ow w' w.heap.size (.slice (some ⟨g, 0, none⟩) n cap) xs ∧ xs.map tx = l ∧ xs.length = n ∧ Below w.heap.size w w' := by
  obtain ⟨xs, h1, h2, h3⟩ := h
  obtain ⟨i0, hi, hz0, hz1, hz2⟩ := info_parts infoS
  have hrow : (w.alloc (.cells #[] 9)).ownsRow w.heap.size 9 1 (.slice (some ⟨w.heap.size, 0, none⟩) 0 0) 0 [] := World.ownsRow_lit w #[] 0 (Nat.le_refl _) (by simp [maxLen]) rfl
  have hb : Below w.heap.size w (w.alloc (.cells #[] 9)) := below_a w _
  cases a with
  | none =>
    have hx : xs = [] := by
      rcases h1 with h | ⟨b, off, e, _⟩
      · exact h
      · cases e
    subst hx
    simp at h3; subst h3
    exact ⟨w.heap.size, 0, [], _, app_none _ _ _ _ _ (Nat.le_refl _), hrow, h2, rfl, hb⟩
  | some ad =>
    have hcell : ∀ j u, (xs.map Value.string)[j]? = some u → (w.alloc (.cells #[] 9)).cell? (ad.add j) = some u := by
      intro j u hu
      rw [List.getElem?_map] at hu
      cases hx : xs[j]? with
      | none => rw [hx] at hu; cases hu
      | some x =>
        rw [hx] at hu
        cases hu
        rcases (h1.on hb) with h | ⟨b, off, e, hc⟩
        · rw [h] at hx; simp at hx
        · cases e
          have := hc j x hx
          cases j with
          | zero => simpa [Addr.add] using this
          | succ j => simpa [Addr.add] using this
    obtain ⟨v', w', hr, r1, r2, r3⟩ := run_append_own (P := Try.prog) _ w.heap.size 22 22 9 i0 (.string ⟨#[]⟩) 1 16 Try.underlying22 hi hz0 hz1 hz2 rfl (by decide) _ 0 _ hrow ad n c (xs.map Value.string) (by rw [List.length_map, h3]; omega) hcell (by simp [Value.oneCell']) (by simp [maxLen]; omega) (by omega) (by simp)
    rw [Nat.zero_add, List.nil_append] at r1
    have hw : Below w.heap.size w w' := hb.grown r2 (by simp) (fun k e => by cases e; exact Nat.le_refl _)
    rcases r1.2 with ⟨e, _⟩ | ⟨g, cap, cur, rfl, _⟩
    · exact absurd (r3.1 e).1 (by simp)
    · refine ⟨g, cap, xs, w', hr, ?_, h2, h3, hw⟩
      unfold Ow
      rw [h3]; exact r1
/-- what lies behind -/
theorem Ow.marked {w : World} {base g cap n : Nat} {xs : List ByteArray} {x : ByteArray} {l : List Tx} (h : Ow w base (.slice (some ⟨g, 0, none⟩) (n + 1) cap) (xs ++ [x])) (hx : xs.map tx = l) (hn : xs.length = n) : Told w (some ⟨g, 0, none⟩) n l ∧ w.cell? ⟨g, n, none⟩ = some (.string x) ∧ n + 1 ≤ cap ∧ cap ≤ 9223372036854775807 := by
  obtain ⟨g', cap', ys, nm, e, e2, h1, h2, h3, h4, h5⟩ := h.last (n := n) (by simp [hn])
  cases e
  have := List.append_inj e2 (by rw [hn, h1])
  obtain ⟨rfl, e3⟩ := this
  cases e3
  exact ⟨⟨xs, h5, hx, hn⟩, h4, h2, h3⟩
end Go.Proofs.Ytkmadcjbeiigmaa
