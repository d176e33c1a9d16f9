import Derived.Test.YtmecmeonahodaaaPaX
namespace Go.Proofs.Ytmecmeonahodaaa
open Go.RowKit Go.Shelf Pa
theorem len_of {xs : List ByteArray} {l : List Tx} (h : xs.map tx = l) : xs.length = l.length := by rw [← h, List.length_map]
theorem c1 (w : World) : Calls Try.prog 5 #[.string ⟨#[47, 47, 97, 47, 46, 47, 98, 47, 47, 47, 46, 46]⟩] w fun e w' => ∃ a c xs, e = .returned (.tuple #[.slice a 3 c, .int .i64 0]) ∧ StrsAt w' a xs ∧ xs.map tx = [[97], [98], [46, 46]] ∧ Below w.heap.size w w' :=
  (parse_ok w K1 3 (by decide) k1.1 (by rw [k1.2]; rfl)).mono (by rintro e w' ⟨a, c, xs, rfl, h1, h2, h3, h4, h5, h6⟩; exact ⟨a, c, xs, rfl, h1, h2.trans k1.2, h6⟩)
theorem c2 (w : World) : Calls Try.prog 6 #[.string ⟨#[97, 47, 46, 46, 47, 98]⟩] w fun e w' => ∃ a c xs, e = .returned (.tuple #[.slice a 3 c, .bool false, .int .i64 0]) ∧ StrsAt w' a xs ∧ xs.map tx = [[97], [46, 46], [98]] ∧ Below w.heap.size w w' :=
  (text_ok w K2 3 (by decide) k2.1 (by rw [k2.2.1]; rfl)).mono (by rintro e w' ⟨a, c, xs, rfl, h1, h2, h3, h4, h5, h6⟩; exact ⟨a, c, xs, by rw [k2.2.2], h1, h2.trans k2.2.1, h6⟩)
theorem c3 (w : World) : Calls Try.prog 7 #[.string ⟨#[47, 97, 47, 98, 47, 47]⟩] w fun e w' => ∃ a c xs, e = .returned (.tuple #[.slice a 1 c, .string ⟨#[98]⟩, .int .i64 0]) ∧ StrsAt w' a xs ∧ xs.map tx = [[97]] ∧ Below w.heap.size w w' :=
  (make_ok w K3 1 (by decide) k3.1 (by rw [k3.2]; rfl)).mono (by
    rintro e w' ⟨a, c, nm, xs, rfl, h1, h2, h3, h4, h5, h6⟩
    rw [k3.2] at h2 h4
    refine ⟨a, c, xs, ?_, h1, h2, h6⟩
    rw [eq_lit h4]; rfl)
theorem c4 (w : World) (a : Option Addr) (xs : List ByteArray) (h : StrsAt w a xs) (hx : xs.map tx = [[97], [46, 46]]) : Calls Try.prog 10 #[.slice a 2 2] w fun e w' => e = .returned (.tuple #[.string ⟨#[47, 97, 47, 46, 46]⟩, .int .i64 0]) ∧ Below w.heap.size w w' :=
  (join_ok w a 2 2 xs h (len_of hx) (by decide) (by decide) (by rw [hx]; exact k4.1)).mono (by
    rintro e w' ⟨⟨t, rfl, ht⟩, hb⟩
    rw [hx, k4.2] at ht
    exact ⟨by rw [eq_lit ht], hb⟩)
theorem c5 (w : World) : Calls Try.prog 11 #[.string ⟨#[47, 97, 47, 46, 46, 47, 46, 46, 47, 98, 47, 46, 47, 99, 47]⟩] w fun e w' => e = .returned (.tuple #[.string ⟨#[47, 98, 47, 99]⟩, .int .i64 0]) ∧ Below w.heap.size w w' :=
  (clean_ok w K5 (by decide) k5.1).mono (by
    rintro e w' ⟨⟨t, rfl, ht⟩, hb⟩
    rw [k5.2] at ht
    exact ⟨by rw [eq_lit ht], hb⟩)
theorem c6 (w : World) (a b : Option Addr) (n c d : Nat) (xs ys : List ByteArray) (hx : StrsAt w a xs) (hy : StrsAt w b ys) (l : List Tx) (h1 : xs.map tx = l) (h2 : ys.map tx = l) (hn : l.length = n) (hb : n ≤ 1000) : Calls Try.prog 8 #[.slice a n c, .slice b n d] w fun e w' => e = .returned (.bool true) ∧ Below w.heap.size w w' :=
  (same_any w a b n c n d xs ys hx hy ((len_of h1).trans hn) ((len_of h2).trans hn) (by omega)).mono (by
    rintro e w' ⟨rfl, q, rfl⟩
    exact ⟨by rw [sameT_yes (h1.trans h2.symm)], ⟨rfl, rfl, rfl, Nat.le_refl _, fun _ _ => rfl⟩⟩)
theorem c7 (w : World) (s : ByteArray) (b : Bool) (hs : s.size ≤ 1000) (h : name (tx s) = b) : Calls Try.prog 13 #[.string s] w fun e w' => e = .returned (.bool b) ∧ Below w.heap.size w w' := (name_any w s (by omega)).mono (by rw [h]; exact fun _ _ h => h)
theorem below_t {A B C : World} (h : Below A.heap.size A B) (g : Below B.heap.size B C) : Below A.heap.size A C := h.trans (g.mono h.size)
theorem below_a (A : World) (o : Obj) : Below A.heap.size A (A.alloc o) := (Below.refl _ A).alloc (Nat.le_refl _) _
def y1 : List ByteArray := [⟨#[97]⟩, ⟨#[98]⟩, ⟨#[46, 46]⟩]
def y2 : List ByteArray := [⟨#[97]⟩, ⟨#[46, 46]⟩, ⟨#[98]⟩]
def y3 : List ByteArray := [⟨#[97]⟩]
def y4 : List ByteArray := [⟨#[97]⟩, ⟨#[46, 46]⟩]
set_option maxRecDepth 100000 in
set_option maxHeartbeats 8000000 in
theorem known_any (w : World) : Calls Try.prog 4 #[] w fun e w' => e = .returned (.bool true) ∧ Below w.heap.size w w' := by
  have T1 : Hid True := trivial
  have T2 : Hid True := trivial
  have T3 : Hid True := trivial
  have T4 : Hid True := trivial
  go_enter Try.func4, Try.ntmps4
  go_wp2_with (first
    | (go_at_call 5; refine (c1 _).mono ?_; rintro e w1 ⟨a1, d1, x1, rfl, s1, m1, b1⟩)
    | (go_at_call 6; refine (c2 _).mono ?_; rintro e w2 ⟨a2, d2, x2, rfl, s2, m2, b2⟩)
    | (go_at_call 7; refine (c3 _).mono ?_; rintro e w3 ⟨a3, d3, x3, rfl, s3, m3, b3⟩)
    | (go_at_call 10; refine (c4 _ _ y4 (strs_lit w3 y4 9) rfl).mono ?_; rintro e w4 ⟨rfl, b4'⟩; have b4 := below_t (below_a w3 _) b4')
    | (go_at_call 11; refine (c5 _).mono ?_; rintro e w5 ⟨rfl, b5⟩)
    | (go_at_call 8; have hh := T1.out; clear T1 hh; refine (c6 _ _ _ 3 _ _ x1 y1 (s1.on (below_t b2 (below_t b3 (below_t b4 (below_t b5 (below_a w5 _)))))) (strs_lit w5 y1 9) _ m1 rfl rfl (by decide)).mono ?_; rintro e w6 ⟨rfl, b6'⟩; have b6 := below_t (below_a w5 _) b6')
    | (go_at_call 8; have hh := T2.out; clear T2 hh; refine (c6 _ _ _ 3 _ _ x2 y2 (s2.on (below_t b3 (below_t b4 (below_t b5 (below_t b6 (below_a w6 _)))))) (strs_lit w6 y2 9) _ m2 rfl rfl (by decide)).mono ?_; rintro e w7 ⟨rfl, b7'⟩; have b7 := below_t (below_a w6 _) b7')
    | (go_at_call 8; have hh := T3.out; clear T3 hh; refine (c6 _ _ _ 1 _ _ x3 y3 (s3.on (below_t b4 (below_t b5 (below_t b6 (below_t b7 (below_a w7 _)))))) (strs_lit w7 y3 9) _ m3 rfl rfl (by decide)).mono ?_; rintro e w8 ⟨rfl, b8'⟩; have b8 := below_t (below_a w7 _) b8')
    | (go_at_call 12; refine (num_any _ _).mono ?_; rintro e wn ⟨rfl, rfl⟩)
    | (go_at_call 13; have hh := T4.out; clear T4 hh; refine (c7 _ ⟨#[46, 46, 46]⟩ true (by decide) k6.1).mono ?_; rintro e w9 ⟨rfl, b9⟩)
    | (go_at_call 13; refine (c7 _ ⟨#[46, 46]⟩ false (by decide) k6.2).mono ?_; rintro e w10 ⟨rfl, b10⟩))
  go_ret
  exact ⟨rfl, below_t b1 (below_t b2 (below_t b3 (below_t b4 (below_t b5 (below_t b6 (below_t b7 (below_t b8 (below_t b9 b10))))))))⟩
end Go.Proofs.Ytmecmeonahodaaa

namespace Go.Proofs.Ytmecmeonahodaaa
open Go.RowKit Go.Shelf Pa
def mayP (p : Tx) : Bool := p == [46, 46] || name p
def may (ps : List Tx) : Bool := ps.all mayP
def lng (n : Nat) (ps : List Tx) : Bool := decide (32 < n) || ps.any long
theorem may_take {ps : List Tx} {k : Nat} {p : Tx} (h : ps[k]? = some p) : may (ps.take (k + 1)) = (may (ps.take k) && mayP p) := by
  unfold may; rw [List.take_add_one, h, List.all_append]; simp
theorem lng_take {n : Nat} {ps : List Tx} {k : Nat} {p : Tx} (h : ps[k]? = some p) : lng n (ps.take (k + 1)) = (lng n (ps.take k) || long p) := by
  unfold lng; rw [List.take_add_one, h, List.any_append]; simp [Bool.or_assoc]
theorem lens_take {ps : List Tx} {k : Nat} {p : Tx} (h : ps[k]? = some p) : lens (ps.take (k + 1)) = lens (ps.take k) + (p.length + 1) := by
  rw [List.take_add_one, h, lens_app]; simp [lens]
theorem wrap_sum (a b : Int) : wrap64 (wrap64 (wrap64 a + 1) + b) = wrap64 (a + (b + 1)) := by unfold wrap64; omega
theorem mayP_noPart {p : Tx} (h : noPart p = true) : mayP p = false := by
  unfold mayP name
  have h2 : (p == [46, 46]) = false := by
    cases e : (p == [46, 46]) with
    | false => rfl
    | true =>
      have : p = [46, 46] := by simpa using e
      subst this
      exact absurd h (by decide)
  rw [h2, h]; rfl
theorem may_bad {ps : List Tx} (h : ps.any noPart = true) : may ps = false := by
  rw [List.any_eq_true] at h
  obtain ⟨p, hp, hn⟩ := h
  unfold may
  rw [List.all_eq_false]
  exact ⟨p, hp, by rw [mayP_noPart hn]; simp⟩
theorem jE_split (ps : List Tx) (n : Nat) (hn : ps.length = n) : (jE ps = 1 ∧ may ps = false) ∨ (jE ps = 130 ∧ lng n ps = true) ∨ (jE ps = 0 ∧ may ps = true ∧ lng n ps = false) := by
  cases h1 : ps.any noPart with
  | true => exact .inl ⟨jE_one h1, may_bad h1⟩
  | false =>
    cases h2 : (decide (32 < ps.length) || ps.any long) with
    | true => exact .inr (.inl ⟨jE_130 h1 h2, by unfold lng; rw [← hn]; exact h2⟩)
    | false =>
      refine .inr (.inr ⟨jE_zero h1 h2, ?_, by unfold lng; rw [← hn]; exact h2⟩)
      unfold may
      rw [List.all_eq_true]
      intro p hp
      have a1 : noPart p = false := by
        have := List.any_eq_false.1 h1 p hp
        simpa using this
      have a2 : long p = false := by
        rw [Bool.or_eq_false_iff] at h2
        have := List.any_eq_false.1 h2.2 p hp
        simpa using this
      unfold mayP name goes
      rw [a1, a2]
      have a3 : (p == [46]) = false := by
        have := ((noPart_iff p).1 a1).2.1
        simpa using this
      rw [a3]
      cases (p == [46, 46]) <;> rfl
theorem jS_bad {ps : List Tx} (h : jE ps ≠ 0) : jS ps = [] := by rw [jS, if_neg h]
theorem last_jS {ps : List Tx} (h : Fine ps) : last (jS ps) = ps.getLast?.getD [] := by rw [last, jS_pcs h]
theorem mE_jS {ps : List Tx} (h : Fine ps) : mE (jS ps) = if ps.getLast? = some [46, 46] then 1 else 0 := by
  unfold mE
  rw [last_jS h, jS_pE h]
  cases e : ps.getLast? with
  | none => rfl
  | some p =>
    have hp := (h.1 p (List.mem_of_getLast? e)).1
    have a3 : (p == [46]) = false := by simpa using hp.2.1
    simp only [Option.getD_some, goes, a3, Bool.false_or]
    by_cases hq : p = [46, 46]
    · subst hq; rfl
    · have : (p == [46, 46]) = false := by simpa using hq
      rw [this, if_neg (by simp), if_neg (by simpa using hq)]
theorem lens_pos {ps : List Tx} (h : Fine ps) (h0 : ps ≠ []) : 1 < lens ps := by
  cases ps with
  | nil => exact absurd rfl h0
  | cons p ps =>
    have := (h.1 p (by simp)).1.1
    have := List.length_pos_iff.2 this
    rw [lens_cons]; omega
end Go.Proofs.Ytmecmeonahodaaa
