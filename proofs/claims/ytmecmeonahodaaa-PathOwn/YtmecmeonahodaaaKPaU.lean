import Derived.Test.YtmecmeonahodaaaPaQ
namespace Go.Proofs.Ytmecmeonahodaaa
open Go.RowKit Go.Shelf Pa
theorem any_tx (p : Tx → Bool) (xs : List ByteArray) : xs.any (fun s => p (tx s)) = (xs.map tx).any p := by rw [List.any_map]; rfl
theorem tx_cons (c : UInt8) (t : ByteArray) : tx ((⟨#[c]⟩ : ByteArray) ++ t) = c :: tx t := by
  simp [tx]
/-- Join's answer -/
def JoinR (w : World) (ps : List Tx) (e : Ending) (w' : World) : Prop := (∃ t : ByteArray, e = .returned (.tuple #[.string t, .int .i64 (jE ps)]) ∧ tx t = jS ps) ∧ Below w.heap.size w w'
theorem JoinR.bad {w w' : World} {ps : List Tx} {n : Int} (h : jE ps = n) (hn : n ≠ 0) (hb : Below w.heap.size w w') : JoinR w ps (.returned (.tuple #[.string ⟨#[]⟩, .int .i64 n])) w' :=
  ⟨⟨_, by rw [h], by rw [jS, h, if_neg hn]; rfl⟩, hb⟩
theorem JoinR.good {w w' : World} {ps : List Tx} (h : jE ps = 0) {t : ByteArray} (ht : tx t = 47 :: Lib.join ps [47]) (hb : Below w.heap.size w w') : JoinR w ps (.returned (.tuple #[.string t, .int .i64 0])) w' :=
  ⟨⟨_, by rw [h], by rw [jS, h, if_pos rfl]; exact ht⟩, hb⟩
theorem join_len {ps : List Tx} (h : Fine ps) : (Lib.join ps [47]).length ≤ 140737488355328 := by
  have h1 := jS_len h
  have h2 := lens_le h
  rw [jS, if_pos ((jE_iff ps).2 h), List.length_cons] at h1
  omega
theorem jE_one {ps : List Tx} (h : ps.any noPart = true) : jE ps = 1 := by unfold jE; rw [if_pos h]
theorem jE_130 {ps : List Tx} (h : ps.any noPart = false) (h2 : (decide (32 < ps.length) || ps.any long) = true) : jE ps = 130 := by unfold jE; rw [if_neg (by rw [h]; simp), if_pos h2]
theorem jE_zero {ps : List Tx} (h : ps.any noPart = false) (h2 : (decide (32 < ps.length) || ps.any long) = false) : jE ps = 0 := by unfold jE; rw [if_neg (by rw [h]; simp), if_neg (by rw [h2]; simp)]
theorem sjoin_any (w : World) (a : Option Addr) (n c : Nat) (xs : List ByteArray) (hxs : StrsAt w a xs) (hn : xs.length = n) (hnc : n ≤ c) (hf : Fine (xs.map tx)) : Calls Try.prog 23 #[.slice a n c, .string ⟨#[47]⟩] w fun e w' => (∃ t : ByteArray, e = .returned (.string t) ∧ tx t = Lib.join (xs.map tx) [47]) ∧ Below w.heap.size w w' := by
  have h32 : xs.length ≤ 32 := by have := hf.2; rwa [List.length_map] at this
  rcases hxs with h | ⟨b, off, rfl, hc⟩
  · subst h
    simp at hn; subst hn
    exact (strings_Join_none a c _ w).mono (by rintro e w' ⟨rfl, rfl⟩; exact ⟨⟨_, rfl, rfl⟩, Below.refl _ _⟩)
  · subst hn
    by_cases h0 : xs = []
    · subst h0
      exact (strings_Join_none _ c _ w).mono (by rintro e w' ⟨rfl, rfl⟩; exact ⟨⟨_, rfl, rfl⟩, Below.refl _ _⟩)
    · have hlt : b < w.heap.size := block_lt_of_cell (hc 0 _ (List.getElem?_eq_getElem (List.length_pos_iff.2 h0)))
      refine (strings_Join b off c xs ⟨#[47]⟩ w hc hlt (by omega) hnc (join_len hf)).mono ?_
      rintro e w' ⟨rfl, hb⟩
      exact ⟨⟨_, rfl, tx_st _⟩, hb⟩
set_option maxHeartbeats 4000000 in
theorem join_any (w : World) (a : Option Addr) (n c : Nat) (xs : List ByteArray) (hxs : StrsAt w a xs) (hn : xs.length = n) (hb : n ≤ 9223372036854775806) (hnc : n ≤ c) : Calls Try.prog 10 #[.slice a n c] w fun e w' => JoinR w (xs.map tx) e w' := by
  have C1 := has_noP w a n c xs hxs hn hb
  have C2 := has_lg w a n c xs hxs hn hb
  rw [any_tx] at C1 C2
  cases h1 : (xs.map tx).any noPart with
  | true =>
    have e1 : Hid (jE (xs.map tx) = 1) := jE_one h1
    rw [h1] at C1
    clear h1
    go_enter Try.func10, Try.ntmps10
    go_wp2_with (go_at_call 20; refine C1.mono ?_; clear C1; rintro e w' ⟨rfl, rfl⟩)
    go_ret2
    exact JoinR.bad e1.out (by decide) (Below.refl _ _)
  | false =>
    rw [h1] at C1
    by_cases h32 : 32 < n
    · have h32' : (32 : Int) < (n : Int) := by omega
      have e1 : Hid (jE (xs.map tx) = 130) := jE_130 h1 (by rw [List.length_map, hn]; simp [h32])
      clear h1
      go_enter Try.func10, Try.ntmps10
      go_wp2_with (go_at_call 20; refine C1.mono ?_; clear C1; rintro e w' ⟨rfl, rfl⟩)
      go_ret2
      exact JoinR.bad e1.out (by decide) (Below.refl _ _)
    · have h32' : ¬ (32 : Int) < (n : Int) := by omega
      cases h2 : (xs.map tx).any long with
      | true =>
        have e1 : Hid (jE (xs.map tx) = 130) := jE_130 h1 (by rw [h2]; simp)
        rw [h2] at C2
        clear h1 h2
        go_enter Try.func10, Try.ntmps10
        go_wp2_with (first | (go_at_call 20; refine C1.mono ?_; clear C1; rintro e w' ⟨rfl, rfl⟩) | (go_at_call 20; refine C2.mono ?_; rintro e w' ⟨rfl, rfl⟩))
        go_ret2
        exact JoinR.bad e1.out (by decide) (Below.refl _ _)
      | false =>
        have e1 : Hid (jE (xs.map tx) = 0) := jE_zero h1 (by rw [h2, List.length_map, hn]; simp; omega)
        rw [h2] at C2
        have C3 := sjoin_any w a n c xs hxs hn hnc ((jE_iff _).1 e1.out)
        have hsz : ∀ t : ByteArray, tx t = Lib.join (xs.map tx) [47] → ¬ 9223372036854775807 < 1 + t.size := fun t ht => by
          have := join_len ((jE_iff _).1 e1.out)
          rw [size_tx, ht]; omega
        clear h1 h2
        go_enter Try.func10, Try.ntmps10
        go_wp2_with (first | (go_at_call 20; refine C1.mono ?_; clear C1; rintro e w' ⟨rfl, rfl⟩) | (go_at_call 20; refine C2.mono ?_; rintro e w' ⟨rfl, rfl⟩) | (go_at_call 23; refine C3.mono ?_; rintro e w' ⟨⟨t, rfl, ht⟩, hb2⟩; have hts : ¬ 9223372036854775807 < 1 + t.size := hsz t ht))
        go_ret2
        exact JoinR.good e1.out (by rw [← ht]; exact tx_cons 47 t) hb2
end Go.Proofs.Ytmecmeonahodaaa

namespace Go.Proofs.Ytmecmeonahodaaa
open Go.RowKit Go.Shelf Pa
/-- the same texts -/
def sameT (a b : List Tx) : Bool := decide (a = b)
theorem sameT_yes {a b : List Tx} (h : a = b) : sameT a b = true := by simp [sameT, h]
theorem StrsAt.drewN {w : World} {a : Option Addr} {xs : List ByteArray} (h : StrsAt w a xs) (m : Nat) : StrsAt (w.drewN m) a xs := h
theorem take_eq_succ {a b : List Tx} {k : Nat} {x y : Tx} (h : a.take k = b.take k) (hx : a[k]? = some x) (hy : b[k]? = some y) (e : x = y) : a.take (k + 1) = b.take (k + 1) := by
  rw [List.take_add_one, List.take_add_one, h, hx, hy, e]
theorem ne_of_at {a b : List Tx} {k : Nat} {x y : Tx} (hx : a[k]? = some x) (hy : b[k]? = some y) (e : x ≠ y) : sameT a b = false := by
  simp only [sameT, decide_eq_false_iff_not]
  rintro rfl
  rw [hx] at hy
  exact e (by simpa using hy)
theorem ne_of_len {a b : List Tx} (h : a.length ≠ b.length) : sameT a b = false := by
  simp only [sameT, decide_eq_false_iff_not]
  rintro rfl
  exact h rfl
theorem map_at {xs : List ByteArray} {k : Nat} {x : ByteArray} (h : xs[k]? = some x) : (xs.map tx)[k]? = some (tx x) := by rw [List.getElem?_map, h]; rfl
set_option maxHeartbeats 4000000 in
theorem same_any (w : World) (a b : Option Addr) (n c m d : Nat) (xs ys : List ByteArray) (hxs : StrsAt w a xs) (hys : StrsAt w b ys) (hn : xs.length = n) (hm : ys.length = m) (hb : n ≤ 9223372036854775806) : Calls Try.prog 8 #[.slice a n c, .slice b m d] w fun e w' => e = .returned (.bool (sameT (xs.map tx) (ys.map tx))) ∧ ∃ q, w' = w.drewN q := by
  by_cases hnm : n = m
  · subst hnm
    go_enter Try.func8, Try.ntmps8
    go_wp2
    go_loopw [13] (fun s13 wr => ∃ k q : Nat, k ≤ n ∧ s13 = .int .i64 (k : Int) ∧ (xs.map tx).take k = (ys.map tx).take k ∧ wr = w.drewN q) (fun s13 _ => n - (intOf s13).toNat)
    case atStart => exact ⟨0, 0, Nat.zero_le _, rfl, rfl, rfl⟩
    case round =>
      obtain ⟨k, q, hk, rfl, hno, rfl⟩ := hrel
      have HN : Hid ((xs.map tx).take k = (ys.map tx).take k) := hno
      clear hno
      by_cases hlt : k < n
      · have hlt' : (k : Int) < (n : Int) := by omega
        obtain ⟨b1, o1, x, rfl, hx, hc⟩ := hxs.at (k := k) (by omega)
        obtain ⟨b2, o2, y, rfl, hy, hd⟩ := hys.at (k := k) (by omega)
        have HX : Hid (xs[k]? = some x ∧ ys[k]? = some y) := ⟨hx, hy⟩
        have hc' : (w.drewN q).cell? ⟨b1, o1 + k, none⟩ = some (.string x) := hc
        have hd' : (w.drewN q).cell? ⟨b2, o2 + k, none⟩ = some (.string y) := hd
        clear hx hy
        by_cases he : tx x = tx y
        · have he' : (x.toList == y.toList) = true := by rw [toList_tx, toList_tx, he]; simp
          go_wp2
          go_region
          go_wp2
          go_roundw
          case rel => exact ⟨k + 1, q + 1, by omega, by go_num, take_eq_succ HN.out (map_at HX.out.1) (map_at HX.out.2) he, rfl⟩
          case measure => simp [intOf]; omega
        · have he' : (x.toList == y.toList) = false := by rw [toList_tx, toList_tx]; simpa using he
          go_wp2
          go_region
          go_wp2
          go_ret
          exact ⟨by rw [ne_of_at (map_at HX.out.1) (map_at HX.out.2) he]; rfl, q + 1, rfl⟩
      · have hlt' : ¬ (k : Int) < (n : Int) := by omega
        go_wp2
        go_ret
        refine ⟨?_, q, rfl⟩
        have := HN.out
        rw [List.take_of_length_le (by rw [List.length_map]; omega), List.take_of_length_le (by rw [List.length_map]; omega)] at this
        rw [sameT_yes this]; rfl
  · have hnm' : ((n : Int) == (m : Int)) = false := by simp; omega
    rw [ne_of_len (by rw [List.length_map, List.length_map]; omega)]
    go_enter Try.func8, Try.ntmps8
    go_wp2
    go_ret
    exact ⟨rfl, 0, rfl⟩
end Go.Proofs.Ytmecmeonahodaaa
