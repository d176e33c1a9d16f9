import Derived.Test.YtkmadcjbeiigmaaKR13c
namespace Go.Proofs.Ytkmadcjbeiigmaa
open Go.RowKit Go.Shelf Pa
theorem Ow.last {w : World} {base : Nat} {v : Value} {xs : List ByteArray} {n : Nat} (h : Ow w base v xs) (hn : xs.length = n + 1) : ∃ (g cap : Nat) (ys : List ByteArray) (nm : ByteArray), v = .slice (some ⟨g, 0, none⟩) (n + 1) cap ∧ xs = ys ++ [nm] ∧ ys.length = n ∧ n + 1 ≤ cap ∧ cap ≤ 9223372036854775807 ∧ w.cell? ⟨g, n, none⟩ = some (.string nm) ∧ StrsAt w (some ⟨g, 0, none⟩) ys := by
  rcases h.cases with ⟨rfl, _⟩ | ⟨g, cap, rfl, h2, h3, h4⟩
  · cases hn
  · have hne : xs ≠ [] := by intro e; rw [e] at hn; cases hn
    have e := List.dropLast_concat_getLast hne
    have hl : xs.dropLast.length = n := by rw [List.length_dropLast]; omega
    obtain ⟨a, c, ev, hs, _⟩ := h.strs
    cases ev
    have hat : ∀ j x, xs[j]? = some x → w.cell? ⟨g, j, none⟩ = some (.string x) := by
      rcases hs with rfl | ⟨b, off, eb, hc⟩
      · cases hn
      · cases eb
        intro j x hj
        have := hc j x hj
        rwa [Nat.zero_add] at this
    refine ⟨g, cap, xs.dropLast, xs.getLast hne, by rw [hn], e.symm, hl, by omega, h4, hat _ _ ?_, .inr ⟨g, 0, rfl, fun j x hj => ?_⟩⟩
    · rw [List.getLast_eq_getElem, List.getElem?_eq_getElem (by omega)]
      congr 1
      congr 1
      omega
    · rw [Nat.zero_add]
      refine hat j x ?_
      rw [← e, List.getElem?_append_left (List.getElem?_eq_some_iff.1 hj).1]
      exact hj
/-- pieces, by the last -/
theorem rpieces_last (w : World) (s : ByteArray) (hs : s.size ≤ 100000000) (m : Nat) (hn : (pcs (tx s)).length = m + 1) : Calls Try.prog 38 #[.string s] w fun e w' => ∃ g c, e = .returned (.slice (some ⟨g, 0, none⟩) (m + 1) c) ∧ w'.cell? ⟨g, m, none⟩ = some (.string (st (last (tx s)))) ∧ m + 1 ≤ 200000000 ∧ Below w.heap.size w w' :=
  (rpieces_any w s hs).mono (by
    rintro e w' ⟨⟨v, xs, rfl, hv, hx, hl⟩, hb⟩
    have h3 : xs.length = m + 1 := by rw [← hn, ← hx, List.length_map]
    obtain ⟨g, c, ys, nm, rfl, rfl, h4, h5, h6, h7, h8⟩ := hv.last h3
    refine ⟨g, c, rfl, ?_, by omega, hb⟩
    rw [h7, eq_lit (t := nm) (l := last (tx s)) (by unfold last; rw [← hx]; simp)])
theorem rpieces_none (w : World) (s : ByteArray) (hs : s.size ≤ 100000000) (hn : pcs (tx s) = []) : Calls Try.prog 38 #[.string s] w fun e w' => (∃ a c, e = .returned (.slice a 0 c)) ∧ Below w.heap.size w w' :=
  (rpieces_at w s hs 0 (by rw [hn]; rfl)).mono (by
    rintro e w' ⟨a, c, xs, rfl, _, _, _, hb⟩
    exact ⟨⟨a, c, rfl⟩, hb⟩)
theorem rparse_bad (w : World) (s : ByteArray) (hs : s.size ≤ 100000000) (n : Int) (hp : pE (tx s) = n) (hn : n ≠ 0) : Calls Try.prog 19 #[.string s] w fun e w' => (∃ a c, e = .returned (.tuple #[.slice a 0 c, .int .i64 n])) ∧ Below w.heap.size w w' :=
  (rparse_any w s hs).mono (by
    rintro e w' ⟨⟨v, xs, rfl, h2, h3⟩, hb⟩
    rw [pL, hp, if_neg hn] at h3
    obtain ⟨a, c, rfl, _, _⟩ := h2.strs
    have : xs = [] := by simpa using h3
    subst this
    rw [hp]
    exact ⟨⟨a, c, rfl⟩, hb⟩)
theorem rparse_ok (w : World) (s : ByteArray) (hs : s.size ≤ 100000000) (n : Nat) (hp : pE (tx s) = 0) (hn : (cps (tx s)).length = n) : Calls Try.prog 19 #[.string s] w fun e w' => ∃ a c xs, e = .returned (.tuple #[.slice a n c, .int .i64 0]) ∧ StrsAt w' a xs ∧ xs.map tx = cps (tx s) ∧ xs.length = n ∧ Below w.heap.size w w' :=
  (rparse_any w s hs).mono (by
    rintro e w' ⟨⟨v, xs, rfl, h2, h3⟩, hb⟩
    rw [pL, if_pos hp] at h3
    obtain ⟨a, c, rfl, h4, _⟩ := h2.strs
    have h5 : xs.length = n := by rw [← hn, ← h3, List.length_map]
    rw [hp, h5]
    exact ⟨a, c, xs, rfl, h4, h3, h5, hb⟩)
theorem rparse_last (w : World) (s : ByteArray) (hs : s.size ≤ 100000000) (n : Nat) (hp : pE (tx s) = 0) (hn : (cps (tx s)).length = n + 1) : Calls Try.prog 19 #[.string s] w fun e w' => ∃ g c ys, e = .returned (.tuple #[.slice (some ⟨g, 0, none⟩) (n + 1) c, .int .i64 0]) ∧ w'.cell? ⟨g, n, none⟩ = some (.string (st ((cps (tx s)).getLast?.getD []))) ∧ StrsAt w' (some ⟨g, 0, none⟩) ys ∧ ys.map tx = (cps (tx s)).dropLast ∧ ys.length = n ∧ n + 1 ≤ c ∧ c ≤ 9223372036854775807 ∧ Below w.heap.size w w' :=
  (rparse_any w s hs).mono (by
    rintro e w' ⟨⟨v, xs, rfl, h2, h3⟩, hb⟩
    rw [pL, if_pos hp] at h3
    have h5 : xs.length = n + 1 := by rw [← hn, ← h3, List.length_map]
    obtain ⟨g, c, ys, nm, rfl, rfl, h4, h5, h6, h7, h8⟩ := h2.last h5
    rw [hp]
    refine ⟨g, c, ys, rfl, ?_, h8, by rw [← h3]; simp, h4, h5, h6, hb⟩
    rw [h7, eq_lit (t := nm) (l := (cps (tx s)).getLast?.getD []) (by rw [← h3]; simp)])
/-- the reference's Make -/
def RMk (w : World) (l : Tx) (e : Ending) (w' : World) : Prop := (∃ a n c xs, e = .returned (.tuple #[.slice a n c, .string (st (mN l)), .int .i64 (mE l)]) ∧ StrsAt w' a xs ∧ xs.map tx = mL l ∧ xs.length = n) ∧ Below w.heap.size w w'
theorem st_nil : st [] = ⟨#[]⟩ := rfl
theorem RMk.bad {w w' : World} {l : Tx} {n : Int} (h : mE l = n) (hn : n ≠ 0) (hb : Below w.heap.size w w') : RMk w l (.returned (.tuple #[.slice none 0 0, .string ⟨#[]⟩, .int .i64 n])) w' :=
  ⟨⟨none, 0, 0, [], by rw [h, mN, h, if_neg hn, st_nil], .inl rfl, by rw [mL, h, if_neg hn]; rfl, rfl⟩, hb⟩
theorem RMk.no {w w' : World} {l : Tx} (h : mE l = 0) (hc : cps l = []) (hb : Below w.heap.size w w') : RMk w l (.returned (.tuple #[.slice none 0 0, .string ⟨#[]⟩, .int .i64 0])) w' :=
  ⟨⟨none, 0, 0, [], by rw [h, mN, h, if_pos rfl, hc]; rfl, .inl rfl, by rw [mL, h, if_pos rfl, hc]; rfl, rfl⟩, hb⟩
theorem RMk.yes {w w' : World} {l : Tx} {a : Option Addr} {n c : Nat} {xs : List ByteArray} (h : mE l = 0) (hs : StrsAt w' a xs) (hx : xs.map tx = (cps l).dropLast) (hl : xs.length = n) (hb : Below w.heap.size w w') : RMk w l (.returned (.tuple #[.slice a n c, .string (st ((cps l).getLast?.getD [])), .int .i64 0])) w' :=
  ⟨⟨a, n, c, xs, by rw [h, mN, h, if_pos rfl], hs, by rw [mL, h, if_pos rfl]; exact hx, hl⟩, hb⟩
theorem cps_none {l : Tx} (h : pcs l = []) : cps l = [] := by unfold cps; rw [h]; rfl
end Go.Proofs.Ytkmadcjbeiigmaa

namespace Go.Proofs.Ytkmadcjbeiigmaa
open Go.RowKit Go.Shelf Pa
theorem goes_no {p : Tx} (h1 : (p == [46]) = false) (h2 : (p == [46, 46]) = false) : goes p = false := by unfold goes; rw [h1, h2]; rfl
set_option maxRecDepth 100000 in
set_option maxHeartbeats 8000000 in
theorem rmake_any (w : World) (s : ByteArray) (hs : s.size ≤ 100000000) : Calls Try.prog 21 #[.string s] w fun e w' => RMk w (tx s) e w' := by
  cases hp : pcs (tx s) with
  | nil =>
    have CP : Hid (∀ wx, Calls Try.prog 38 #[.string s] wx fun e w' => (∃ a c, e = .returned (.slice a 0 c)) ∧ Below wx.heap.size wx w') := fun wx => rpieces_none wx s hs hp
    have HM : Hid (mE (tx s) = pE (tx s)) := mE_not (l := tx s) (by unfold last; rw [hp]; rfl)
    have hc0 := cps_none hp
    by_cases h0 : pE (tx s) = 0
    · have CC : Hid (∀ wx, Calls Try.prog 19 #[.string s] wx fun e w' => ∃ a c xs, e = .returned (.tuple #[.slice a 0 c, .int .i64 0]) ∧ StrsAt w' a xs ∧ xs.map tx = cps (tx s) ∧ xs.length = 0 ∧ Below wx.heap.size wx w') := fun wx => rparse_ok wx s hs 0 h0 (by rw [hc0]; rfl)
      have HE : Hid (mE (tx s) = 0 ∧ cps (tx s) = []) := ⟨HM.out.trans h0, hc0⟩
      clear h0 hc0 hp HM
      go_enter Try.func21, Try.ntmps21
      go_wp2_with (first | (go_at_call 38; refine (CP.out _).mono ?_; rintro e w1 ⟨⟨a1, c1, rfl⟩, hb1⟩) | (go_at_call 19; refine (CC.out _).mono ?_; rintro e w2 ⟨a2, c2, xs, rfl, _, _, _, hb2⟩))
      go_ret3
      exact RMk.no HE.out.1 HE.out.2 (below_t hb1 hb2)
    · obtain ⟨n, hn⟩ : ∃ n, pE (tx s) = n := ⟨_, rfl⟩
      have hn0 : ¬ n = 0 := by rw [← hn]; exact h0
      have CC : Hid (∀ wx, Calls Try.prog 19 #[.string s] wx fun e w' => (∃ a c, e = .returned (.tuple #[.slice a 0 c, .int .i64 n])) ∧ Below wx.heap.size wx w') := fun wx => rparse_bad wx s hs n hn hn0
      have HE : Hid (mE (tx s) = n) := HM.out.trans hn
      clear h0 hc0 hp HM hn
      go_enter Try.func21, Try.ntmps21
      go_wp2_with (first | (go_at_call 38; refine (CP.out _).mono ?_; rintro e w1 ⟨⟨a1, c1, rfl⟩, hb1⟩) | (go_at_call 19; refine (CC.out _).mono ?_; rintro e w2 ⟨⟨a2, c2, rfl⟩, hb2⟩))
      go_ret3
      exact RMk.bad HE.out hn0 (below_t hb1 hb2)
  | cons p ps =>
    obtain ⟨m, hm⟩ : ∃ m, (pcs (tx s)).length = m + 1 := ⟨ps.length, by rw [hp]; rfl⟩
    obtain ⟨q, hq⟩ : ∃ q, last (tx s) = q := ⟨_, rfl⟩
    have CP : Hid (∀ wx, Calls Try.prog 38 #[.string s] wx fun e w' => ∃ g c, e = .returned (.slice (some ⟨g, 0, none⟩) (m + 1) c) ∧ w'.cell? ⟨g, m, none⟩ = some (.string (st q)) ∧ m + 1 ≤ 200000000 ∧ Below wx.heap.size wx w') := fun wx => by rw [← hq]; exact rpieces_last wx s hs m hm
    have c5 : m + 1 ≤ 200000000 → wrap64 ((m : Int) + 1 - 1) = (m : Int) := by intro h; unfold wrap64; omega
    have c7 : (m : Int) < ((m + 1 : Nat) : Int) := by omega
    have c8 : (0 : Int) < ((m + 1 : Nat) : Int) := by omega
    clear hp hm
    cases h1 : (q == [46]) with
    | true =>
      have HE : Hid (mE (tx s) = 1) := mE_go (l := tx s) (by rw [hq]; unfold goes; rw [h1]; rfl)
      clear hq
      go_enter Try.func21, Try.ntmps21
      go_wp2_with (first | (go_at_call 38; refine (CP.out _).mono ?_; rintro e w1 ⟨g1, cp1, rfl, k1, k2, hb1⟩; have c5' := c5 k2; clear c5))
      go_ret3
      exact RMk.bad HE.out (by decide) hb1
    | false =>
      cases h2 : (q == [46, 46]) with
      | true =>
        have HE : Hid (mE (tx s) = 1) := mE_go (l := tx s) (by rw [hq]; unfold goes; rw [h1, h2]; rfl)
        clear hq
        go_enter Try.func21, Try.ntmps21
        go_wp2_with (first | (go_at_call 38; refine (CP.out _).mono ?_; rintro e w1 ⟨g1, cp1, rfl, k1, k2, hb1⟩; have c5' := c5 k2; clear c5))
        go_ret3
        exact RMk.bad HE.out (by decide) hb1
      | false =>
        have HM : Hid (mE (tx s) = pE (tx s)) := mE_not (l := tx s) (by rw [hq]; exact goes_no h1 h2)
        clear hq
        by_cases h0 : pE (tx s) = 0
        · have HE : Hid (mE (tx s) = 0) := HM.out.trans h0
          cases hl : (cps (tx s)).length with
          | zero =>
            have CC : Hid (∀ wx, Calls Try.prog 19 #[.string s] wx fun e w' => ∃ a c xs, e = .returned (.tuple #[.slice a 0 c, .int .i64 0]) ∧ StrsAt w' a xs ∧ xs.map tx = cps (tx s) ∧ xs.length = 0 ∧ Below wx.heap.size wx w') := fun wx => rparse_ok wx s hs 0 h0 hl
            have HF : Hid (cps (tx s) = []) := List.eq_nil_of_length_eq_zero hl
            clear h0 hl HM
            go_enter Try.func21, Try.ntmps21
            go_wp2_with (first | (go_at_call 38; refine (CP.out _).mono ?_; rintro e w1 ⟨g1, cp1, rfl, k1, k2, hb1⟩; have c5' := c5 k2; clear c5) | (go_at_call 19; refine (CC.out _).mono ?_; rintro e w2 ⟨a2, c2, xs, rfl, _, _, _, hb2⟩))
            go_ret3
            exact RMk.no HE.out HF.out (below_t hb1 hb2)
          | succ n =>
            obtain ⟨nm, hnm⟩ : ∃ nm, (cps (tx s)).getLast?.getD [] = nm := ⟨_, rfl⟩
            have CC : Hid (∀ wx, Calls Try.prog 19 #[.string s] wx fun e w' => ∃ g c ys, e = .returned (.tuple #[.slice (some ⟨g, 0, none⟩) (n + 1) c, .int .i64 0]) ∧ w'.cell? ⟨g, n, none⟩ = some (.string (st nm)) ∧ StrsAt w' (some ⟨g, 0, none⟩) ys ∧ ys.map tx = (cps (tx s)).dropLast ∧ ys.length = n ∧ n + 1 ≤ c ∧ c ≤ 9223372036854775807 ∧ Below wx.heap.size wx w') := fun wx => by rw [← hnm]; exact rparse_last wx s hs n h0 hl
            have HF : Hid ((cps (tx s)).getLast?.getD [] = nm) := hnm
            clear h0 hl HM hnm
            go_enter Try.func21, Try.ntmps21
            go_wp2_with (first | (go_at_call 38; refine (CP.out _).mono ?_; rintro e w1 ⟨g1, cp1, rfl, k1, k2, hb1⟩; have c5' := c5 k2; clear c5) | (go_at_call 19; refine (CC.out _).mono ?_; rintro e w2 ⟨g, cap, ys, rfl, k4, hst, hx, hlen, k5, k6, hb2⟩))
            have d5 : wrap64 ((n : Int) + 1 - 1) = (n : Int) := by unfold wrap64; omega
            have d6 : (n : Int) ≤ (cap : Int) := by omega
            have d7 : (n : Int) < ((n + 1 : Nat) : Int) := by omega
            have HV : Hid (RMk w (tx s) (.returned (.tuple #[.slice (some ⟨g, 0, none⟩) n cap, .string (st nm), .int .i64 0])) w2.drew) := by
              have hd : Below w2.heap.size w2 w2.drew := (Below.refl _ w2).drew
              rw [← HF.out]
              exact RMk.yes HE.out (hst.on hd) hx hlen (below_t (below_t hb1 hb2) hd)
            clear hst hx hlen k1 hb1 hb2 c5' c7 c8
            go_region
            go_wp2
            go_ret3
            exact HV.out
        · obtain ⟨n, hn⟩ : ∃ n, pE (tx s) = n := ⟨_, rfl⟩
          have hn0 : ¬ n = 0 := by rw [← hn]; exact h0
          have CC : Hid (∀ wx, Calls Try.prog 19 #[.string s] wx fun e w' => (∃ a c, e = .returned (.tuple #[.slice a 0 c, .int .i64 n])) ∧ Below wx.heap.size wx w') := fun wx => rparse_bad wx s hs n hn hn0
          have HE : Hid (mE (tx s) = n) := HM.out.trans hn
          clear h0 HM hn
          go_enter Try.func21, Try.ntmps21
          go_wp2_with (first | (go_at_call 38; refine (CP.out _).mono ?_; rintro e w1 ⟨g1, cp1, rfl, k1, k2, hb1⟩; have c5' := c5 k2; clear c5) | (go_at_call 19; refine (CC.out _).mono ?_; rintro e w2 ⟨⟨a2, c2, rfl⟩, hb2⟩))
          go_ret3
          exact RMk.bad HE.out hn0 (below_t hb1 hb2)
end Go.Proofs.Ytkmadcjbeiigmaa

namespace Go.Proofs.Ytkmadcjbeiigmaa
open Go.RowKit Go.Shelf Pa
theorem noPart_ref (p : Tx) : noPart p = (p == [46] || hasZ p || !decide (pcs p = [p])) := by
  have h : decide (pcs p = [p]) = (!(p == []) && !hasC p 47) := by
    by_cases hp : pcs p = [p]
    · have ⟨h1, h2⟩ := pcs_whole.1 hp
      rw [decide_eq_true hp, (hasC_not p 47).2 h2, show (p == []) = false by simpa using h1]; rfl
    · rw [decide_eq_false hp]
      by_cases h0 : p = []
      · rw [h0]; rfl
      · have : hasC p 47 = true := by
          rw [hasC_iff]
          exact Classical.byContradiction fun h => hp (pcs_whole.2 ⟨h0, h⟩)
        rw [this, Bool.not_true, Bool.and_false]
  rw [h]
  unfold noPart
  cases (p == [46]) <;> cases (p == []) <;> cases hasC p 47 <;> cases hasZ p <;> rfl
theorem any_tk {f : Tx → Bool} {xs : List ByteArray} {k : Nat} {x : ByteArray} (hx : xs[k]? = some x) : ((xs.map tx).take (k + 1)).any f = (((xs.map tx).take k).any f || f (tx x)) := by
  rw [List.take_add_one, map_at hx, List.any_append]
  simp
theorem fl_app (ps : List Tx) (p : Tx) : fl (ps ++ [p]) = fl ps ++ 47 :: p := by simp [fl]
theorem fl_take {xs : List ByteArray} {k : Nat} {x : ByteArray} (hx : xs[k]? = some x) : fl ((xs.map tx).take (k + 1)) = fl ((xs.map tx).take k) ++ 47 :: tx x := by
  rw [List.take_add_one, map_at hx]
  exact fl_app _ _
theorem fl_lens (ps : List Tx) : (fl ps).length = lens ps := by
  induction ps with
  | nil => rfl
  | cons p ps ih => rw [fl_cons, lens_cons, List.length_cons, List.length_append, ih]; omega
theorem fl_small {ps : List Tx} (h : Fine ps) (k : Nat) : (fl (ps.take k)).length ≤ 1000 := by
  rw [fl_lens]
  have h1 := lens_sub (List.take_sublist k ps)
  have h2 := lens_le h
  omega
theorem fl_nil_iff (ps : List Tx) : fl ps = [] ↔ ps = [] := by
  cases ps with
  | nil => simp [fl]
  | cons p ps => simp [fl]
theorem tx_app (s t : ByteArray) : tx (s ++ t) = tx s ++ tx t := by simp [tx]
theorem JoinR.fin {w w' : World} {ps : List Tx} {t : ByteArray} (h : jE ps = 0) (ht : tx t = fl ps) (h0 : fl ps ≠ []) (hb : Below w.heap.size w w') : JoinR w ps (.returned (.tuple #[.string t, .int .i64 0])) w' :=
  JoinR.good h (by rw [ht, join_fl _ (fun e => h0 ((fl_nil_iff _).2 e))]) hb
theorem JoinR.root {w w' : World} {ps : List Tx} (h : jE ps = 0) (h0 : fl ps = []) (hb : Below w.heap.size w w') : JoinR w ps (.returned (.tuple #[.string ⟨#[47]⟩, .int .i64 0])) w' :=
  JoinR.good h (by rw [(fl_nil_iff _).1 h0]; rfl) hb
/-- how far Join's first walk has come -/
structure Jn (ps : List Tx) (k : Nat) (lg : Bool) : Prop where
  lg : lg = (decide (32 < ps.length) || (ps.take k).any long)
  no : (ps.take k).any noPart = false
theorem Jn.go {xs : List ByteArray} {k : Nat} {lg : Bool} {x : ByteArray} (h : Jn (xs.map tx) k lg) (hx : xs[k]? = some x) (hp : noPart (tx x) = false) : Jn (xs.map tx) (k + 1) (lg || long (tx x)) := by
  refine ⟨?_, ?_⟩
  · rw [h.lg, any_tk hx, Bool.or_assoc]
  · rw [any_tk hx, h.no, hp]; rfl
theorem jE_at {xs : List ByteArray} {k : Nat} {x : ByteArray} (hx : xs[k]? = some x) (hp : noPart (tx x) = true) : jE (xs.map tx) = 1 :=
  jE_one (List.any_eq_true.2 ⟨tx x, List.mem_of_getElem? (map_at hx), hp⟩)
theorem Jn.fin {ps : List Tx} {k : Nat} {lg : Bool} (h : Jn ps k lg) (hk : ps.length ≤ k) : jE ps = if lg then 130 else 0 := by
  have h1 := h.lg
  have h2 := h.no
  rw [List.take_of_length_le hk] at h1 h2
  cases lg with
  | true => rw [jE_130 h2 h1.symm]; rfl
  | false => rw [jE_zero h2 h1.symm]; rfl
end Go.Proofs.Ytkmadcjbeiigmaa
