import Derived.Test.YtkmadcjbeiigmaaR13b
namespace Go.Proofs.Ytkmadcjbeiigmaa
open Go.RowKit Go.Shelf Pa
/-- components' answer -/
def CsR (w : World) (l : Tx) (e : Ending) (w' : World) : Prop :=
  ((e = .returned (.tuple #[.slice none 0 0, .bool false]) ∧ (cps l).any long = true) ∨
   (∃ v xs, e = .returned (.tuple #[v, .bool (decide ((cps l).length ≤ 32))]) ∧ Ow w' w.heap.size v xs ∧ xs.map tx = cps l ∧ xs.length ≤ 200000000 ∧ (cps l).any long = false)) ∧ Below w.heap.size w w'
theorem filt_take {xs : List ByteArray} {k : Nat} {x : ByteArray} (hx : xs[k]? = some x) : ((xs.map tx).take (k + 1)).filter (· ≠ [46]) = ((xs.map tx).take k).filter (· ≠ [46]) ++ (if tx x = [46] then [] else [tx x]) := by
  rw [List.take_add_one, map_at hx, List.filter_append]
  congr 1
  by_cases h : tx x = [46]
  · simp [h]
  · simp [h]
theorem any_of_mem {l : Tx} {p : Tx} (hp : p ∈ pcs l) (h : p ≠ [46]) (hl : long p = true) : (cps l).any long = true := by
  rw [List.any_eq_true]
  refine ⟨p, ?_, hl⟩
  unfold cps
  rw [List.mem_filter]
  exact ⟨hp, by simpa using h⟩
theorem meas0 {n i : Nat} (h : i < n) : n - (intOf (.int .i64 ((i : Int) + 1))).toNat < n - (intOf (.int .i64 (i : Int))).toNat := by
  simp [intOf]; omega
set_option maxRecDepth 100000 in
set_option maxHeartbeats 8000000 in
theorem rcomps_any (w : World) (s : ByteArray) (hs : s.size ≤ 100000000) : Calls Try.prog 37 #[.string s] w fun e w' => CsR w (tx s) e w' := by
  have CP : Hid (∀ wx, Calls Try.prog 38 #[.string s] wx fun e w' => ∃ a m c xs, e = .returned (.slice a m c) ∧ StrsAt w' a xs ∧ xs.map tx = pcs (tx s) ∧ xs.length = m ∧ m ≤ 200000000 ∧ Below wx.heap.size wx w') := fun wx => (rpieces_any wx s hs).mono (by
    rintro e w' ⟨⟨v, xs, rfl, hv, hx, hl⟩, hb⟩
    obtain ⟨a, c, rfl, h1, h2⟩ := Ow.strs hv
    exact ⟨a, xs.length, c, xs, rfl, h1, hx, rfl, hl, hb⟩)
  go_enter Try.func37, Try.ntmps37
  go_wp2_with (go_at_call 38; refine (CP.out _).mono ?_; rintro e w1 ⟨a, n, c, xs, rfl, hat, hx, hn, hn2, hb1⟩)
  have HX : Hid (xs.map tx = pcs (tx s) ∧ xs.length = n ∧ Below w.heap.size w w1) := ⟨hx, hn, hb1⟩
  clear hx hn hb1 CP
  go_loopw [4, 10] (fun s4 s10 wr => ∃ (k : Nat) (row : List ByteArray), k ≤ n ∧ s10 = .int .i64 (k : Int) ∧ Ow wr w1.heap.size s4 row ∧ row.map tx = ((xs.map tx).take k).filter (· ≠ [46]) ∧ (row.map tx).any long = false ∧ row.length ≤ k ∧ Below w1.heap.size w1 wr) (fun _ s10 _ => n - (intOf s10).toNat)
  case atStart => exact ⟨0, [], Nat.zero_le _, rfl, Ow.nil _ _, rfl, rfl, Nat.le_refl _, Below.refl _ _⟩
  case round =>
    obtain ⟨k, row, hk, rfl, how, hrow, hnl, hrk, hbr⟩ := hrel
    by_cases hlt : k < n
    · have hlt' : (k : Int) < (n : Int) := ilt hlt
      obtain ⟨b, off, x, rfl, hxk, hc⟩ := (hat.on hbr).at (k := k) (by rw [HX.out.2.1]; exact hlt)
      have hmem : tx x ∈ pcs (tx s) := by rw [← HX.out.1]; exact List.mem_of_getElem? (map_at hxk)
      have hft := filt_take hxk
      have HM : Hid (n - (intOf (.int .i64 ((k : Int) + 1))).toNat < n - (intOf (.int .i64 (k : Int))).toNat) := meas0 hlt
      by_cases hd : tx x = [46]
      · have hd' : (x.toList == [46]) = true := by rw [toList_tx, hd]; decide
        have HC : Hid (row.map tx = ((xs.map tx).take (k + 1)).filter (· ≠ [46]) ∧ (row.map tx).any long = false ∧ row.length ≤ k + 1 ∧ k + 1 ≤ n) := ⟨by rw [hft, if_pos hd, List.append_nil]; exact hrow, hnl, Nat.le_succ_of_le hrk, hlt⟩
        clear hrow hnl hft hd hmem hxk hrk hlt hk
        go_wp2
        go_roundw
        case rel => exact ⟨k + 1, row, HC.out.2.2.2, rfl, how, HC.out.1, HC.out.2.1, HC.out.2.2.1, hbr⟩
        case measure => exact HM.out
      · have hd' : (x.toList == [46]) = false := by rw [toList_tx]; simpa using hd
        cases hlg : long (tx x) with
        | true =>
          have hl' : (27 : Int) < (x.size : Int) := by rw [int_size]; unfold long at hlg; have := of_decide_eq_true hlg; omega
          have HA : Hid ((cps (tx s)).any long = true ∧ Below w.heap.size w wr) := ⟨any_of_mem hmem hd hlg, below_t HX.out.2.2 hbr⟩
          clear hrow hnl hft hd hmem hxk hrk hlt hk hlg
          go_wp2
          go_ret2
          exact ⟨.inl ⟨rfl, HA.out.1⟩, HA.out.2⟩
        | false =>
          have hl' : ¬ (27 : Int) < (x.size : Int) := by rw [int_size]; unfold long at hlg; have := of_decide_eq_false hlg; omega
          obtain ⟨g', cap', w', hrun, how', hbw⟩ := how.append2 x (by omega) hbr.size
          have HC : Hid (Ow w' w1.heap.size (.slice (some ⟨g', 0, none⟩) (row.length + 1) cap') (row ++ [x]) ∧ (row ++ [x]).map tx = ((xs.map tx).take (k + 1)).filter (· ≠ [46]) ∧ ((row ++ [x]).map tx).any long = false ∧ (row ++ [x]).length ≤ k + 1 ∧ k + 1 ≤ n ∧ Below w1.heap.size w1 w') := by
            refine ⟨how', ?_, ?_, by simp; exact hrk, hlt, hbw w1 hbr⟩
            · rw [hft, if_neg hd, List.map_append, hrow]; rfl
            · rw [List.map_append, List.any_append, hnl]; simp [hlg]
          clear how' hbw hrow hnl hft hd hmem hxk hrk hlt hk hlg
          rcases how.cases with ⟨rfl, rfl⟩ | ⟨g, cap, rfl, hg1, hg2, hg3⟩
          · clear how hbr
            go_wp2_with (at_builtin; refine wp_hrun rfl _ _ 22 rfl hrun ?_; clear hrun)
            go_roundw
            case rel => exact ⟨k + 1, _, HC.out.2.2.2.2.1, rfl, HC.out.1, HC.out.2.1, HC.out.2.2.1, HC.out.2.2.2.1, HC.out.2.2.2.2.2⟩
            case measure => exact HM.out
          · clear how hbr hg1 hg2 hg3
            obtain ⟨m, hm⟩ : ∃ m, row.length = m := ⟨_, rfl⟩
            rw [hm] at hrun HC ⊢
            clear hm
            go_wp2_with (at_builtin; refine wp_hrun rfl _ _ 22 rfl hrun ?_; clear hrun)
            go_roundw
            case rel => exact ⟨k + 1, _, HC.out.2.2.2.2.1, rfl, HC.out.1, HC.out.2.1, HC.out.2.2.1, HC.out.2.2.2.1, HC.out.2.2.2.2.2⟩
            case measure => exact HM.out
    · have hlt' : ¬ (k : Int) < (n : Int) := inlt hlt
      have ek : k = n := by omega
      subst ek
      rw [List.take_of_length_le (by rw [List.length_map, HX.out.2.1]; exact Nat.le_refl _), HX.out.1] at hrow
      have hr2 : row.map tx = cps (tx s) := hrow
      obtain ⟨a4, c4, rfl, h4, h5⟩ := how.strs
      obtain ⟨m, hm⟩ : ∃ m, row.length = m := ⟨_, rfl⟩
      have hml : (cps (tx s)).length = m := by rw [← hr2, List.length_map]; exact hm
      have HE : Hid (Ow wr w.heap.size (.slice a4 m c4) row ∧ row.map tx = cps (tx s) ∧ row.length ≤ 200000000 ∧ (cps (tx s)).any long = false ∧ (cps (tx s)).length = m ∧ Below w.heap.size w wr) := by
        refine ⟨?_, hr2, by omega, by rw [← hr2]; exact hnl, hml, below_t HX.out.2.2 hbr⟩
        rw [← hm]
        have hle := HX.out.2.2.size
        rcases how.2 with e | ⟨g, cap, cur, e1, e2, rr⟩
        · exact ⟨how.1, .inl e⟩
        · exact ⟨how.1, .inr ⟨g, cap, cur, e1, Nat.le_trans hle e2, rr⟩⟩
      rw [hm]
      clear how hrow hr2 hnl h4 h5 hm hml hrk hbr hlt hk hat
      go_wp2
      go_ret2
      refine ⟨.inr ⟨_, row, ?_, HE.out.1, HE.out.2.1, HE.out.2.2.1, HE.out.2.2.2.1⟩, HE.out.2.2.2.2.2⟩
      rw [HE.out.2.2.2.2.1]
      have : decide ((m : Int) ≤ 32) = decide (m ≤ 32) := by rw [decide_eq_decide]; omega
      rw [← this]; rfl
end Go.Proofs.Ytkmadcjbeiigmaa

namespace Go.Proofs.Ytkmadcjbeiigmaa
open Go.RowKit Go.Shelf Pa
/-- the reference's Parse -/
def RPs (w : World) (l : Tx) (e : Ending) (w' : World) : Prop := (∃ v xs, e = .returned (.tuple #[v, .int .i64 (pE l)]) ∧ Ow w' w.heap.size v xs ∧ xs.map tx = pL l) ∧ Below w.heap.size w w'
theorem RPs.bad {w w' : World} {l : Tx} {n : Int} (h : pE l = n) (hn : n ≠ 0) (hb : Below w.heap.size w w') : RPs w l (.returned (.tuple #[.slice none 0 0, .int .i64 n])) w' := by
  refine ⟨⟨_, [], by rw [h], Ow.nil _ _, ?_⟩, hb⟩
  rw [pL, h, if_neg hn]; rfl
theorem RPs.good {w w' : World} {l : Tx} (h : pE l = 0) {v : Value} {xs : List ByteArray} (hv : Ow w' w.heap.size v xs) (hx : xs.map tx = cps l) (hb : Below w.heap.size w w') : RPs w l (.returned (.tuple #[v, .int .i64 0])) w' := by
  refine ⟨⟨_, xs, by rw [h], hv, ?_⟩, hb⟩
  rw [pL, h, if_pos rfl]; exact hx
theorem tL_any {l : Tx} (h : (cps l).any long = true) : tooLong l = true := by unfold tooLong; rw [h]; simp
theorem tL_many {l : Tx} (h : ¬ (cps l).length ≤ 32) : tooLong l = true := by
  unfold tooLong
  have : 32 < (cps l).length := by omega
  simp [this]
theorem tL_long {l : Tx} (h : 1024 < l.length) : tooLong l = true := by unfold tooLong; simp [h]
theorem tL_no {l : Tx} (h1 : (cps l).any long = false) (h2 : (cps l).length ≤ 32) (h3 : ¬ 1024 < l.length) : tooLong l = false := by
  unfold tooLong; rw [h1]; simp; omega
/-- components, by what they are -/
theorem rcomps_bad (w : World) (s : ByteArray) (hs : s.size ≤ 100000000) (h : (cps (tx s)).any long = true ∨ ¬ (cps (tx s)).length ≤ 32) : Calls Try.prog 37 #[.string s] w fun e w' => (∃ v, e = .returned (.tuple #[v, .bool false])) ∧ Below w.heap.size w w' :=
  (rcomps_any w s hs).mono (by
    rintro e w' ⟨⟨rfl, h1⟩ | ⟨v, xs, rfl, h1, h2, h3, h4⟩, hb⟩
    · exact ⟨⟨_, rfl⟩, hb⟩
    · rcases h with h | h
      · rw [h] at h4; cases h4
      · exact ⟨⟨v, by rw [decide_eq_false h]⟩, hb⟩)
theorem rcomps_ok (w : World) (s : ByteArray) (hs : s.size ≤ 100000000) (h1 : (cps (tx s)).any long = false) (h2 : (cps (tx s)).length ≤ 32) : Calls Try.prog 37 #[.string s] w fun e w' => (∃ v xs, e = .returned (.tuple #[v, .bool true]) ∧ Ow w' w.heap.size v xs ∧ xs.map tx = cps (tx s)) ∧ Below w.heap.size w w' :=
  (rcomps_any w s hs).mono (by
    rintro e w' ⟨⟨rfl, h3⟩ | ⟨v, xs, rfl, h3, h4, h5, h6⟩, hb⟩
    · rw [h3] at h1; cases h1
    · exact ⟨⟨v, xs, by rw [decide_eq_true h2], h3, h4⟩, hb⟩)
theorem sl1_at {s : ByteArray} (h : 0 < s.size) : sl1 (tx s) = decide (s[0] = 47) := by
  have := tx_at h
  unfold sl1
  rw [List.head?_eq_getElem?, this]
  by_cases e : s[0] = 47
  · simp [e]
  · simp [e]
set_option maxRecDepth 100000 in
set_option maxHeartbeats 4000000 in
theorem rparse_any (w : World) (s : ByteArray) (hs : s.size ≤ 100000000) : Calls Try.prog 19 #[.string s] w fun e w' => RPs w (tx s) e w' := by
  have CZ : Hid (∀ wx, Calls Try.prog 36 #[.string s] wx fun e w' => e = .returned (.bool (hasZ (tx s))) ∧ wx = w') := fun wx => rzero_any wx s (by omega)
  by_cases h1 : tx s = []
  · have e1 : Hid (pE (tx s) = 1) := pE_one (l := tx s) (by rw [h1]; rfl)
    have h1' : s.toList = [] := by rw [toList_tx]; exact h1
    go_enter Try.func19, Try.ntmps19
    go_wp2
    go_ret2
    exact RPs.bad e1.out (by decide) (Below.refl _ _)
  · have h1' : s.toList.isEmpty = false := by rw [toList_tx]; simpa using h1
    have h0 : 0 < s.size := by rw [size_tx]; exact List.length_pos_iff.2 h1
    have h0' : (0 : Int) < (s.size : Int) := by omega
    have hsl := sl1_at h0
    by_cases h47 : s[0] = 47
    · have hb47 : ((s[0].toNat : Int) != 47) = false := by rw [h47]; rfl
      have hi47 : (s[0].toNat : Int) = 47 := by rw [h47]; rfl
      have HS : Hid (sl1 (tx s) = true) := by rw [hsl]; exact decide_eq_true h47
      clear hsl h47
      cases h2 : hasZ (tx s) with
      | true =>
        have e1 : Hid (pE (tx s) = 1) := pE_one (l := tx s) (by rw [HS.out, h2]; rfl)
        go_enter Try.func19, Try.ntmps19
        go_wp2_with (go_at_call 36; refine (CZ.out _).mono ?_; rintro e w' ⟨rfl, rfl⟩; rw [h2])
        go_ret2
        exact RPs.bad e1.out (by decide) (Below.refl _ _)
      | false =>
        have HZ : Hid ((!sl1 (tx s) || hasZ (tx s)) = false) := by rw [HS.out, h2]; rfl
        by_cases hc : (cps (tx s)).any long = true ∨ ¬ (cps (tx s)).length ≤ 32
        · have e1 : Hid (pE (tx s) = 130) := pE_130 HZ.out (hc.elim tL_any tL_many)
          have CC : Hid (∀ wx, Calls Try.prog 37 #[.string s] wx fun e w' => (∃ v, e = .returned (.tuple #[v, .bool false])) ∧ Below wx.heap.size wx w') := fun wx => rcomps_bad wx s hs hc
          clear hc
          go_enter Try.func19, Try.ntmps19
          go_wp2_with (first | (go_at_call 36; refine (CZ.out _).mono ?_; rintro e w' ⟨rfl, rfl⟩; rw [h2]) | (go_at_call 37; refine (CC.out _).mono ?_; rintro e w' ⟨⟨v, rfl⟩, hb⟩))
          go_ret2
          exact RPs.bad e1.out (by decide) hb
        · have hc1 : (cps (tx s)).any long = false := by
            cases h : (cps (tx s)).any long with
            | true => exact absurd (.inl h) hc
            | false => rfl
          have hc2 : (cps (tx s)).length ≤ 32 := Classical.byContradiction fun h => hc (.inr h)
          have CC : Hid (∀ wx, Calls Try.prog 37 #[.string s] wx fun e w' => (∃ v xs, e = .returned (.tuple #[v, .bool true]) ∧ Ow w' wx.heap.size v xs ∧ xs.map tx = cps (tx s)) ∧ Below wx.heap.size wx w') := fun wx => rcomps_ok wx s hs hc1 hc2
          by_cases hl : 1024 < s.size
          · have hl' : (1024 : Int) < (s.size : Int) := by omega
            have e1 : Hid (pE (tx s) = 130) := pE_130 HZ.out (tL_long (by rw [← size_tx]; exact hl))
            clear hc hc1 hc2 hl
            go_enter Try.func19, Try.ntmps19
            go_wp2_with (first | (go_at_call 36; refine (CZ.out _).mono ?_; rintro e w' ⟨rfl, rfl⟩; rw [h2]) | (go_at_call 37; refine (CC.out _).mono ?_; rintro e w' ⟨⟨v, xs, rfl, _, _⟩, hb⟩))
            go_ret2
            exact RPs.bad e1.out (by decide) hb
          · have hl' : ¬ (1024 : Int) < (s.size : Int) := by omega
            have e1 : Hid (pE (tx s) = 0) := pE_zero HZ.out (tL_no hc1 hc2 (by rw [← size_tx]; exact hl))
            clear hc hc1 hc2 hl
            go_enter Try.func19, Try.ntmps19
            go_wp2_with (first | (go_at_call 36; refine (CZ.out _).mono ?_; rintro e w' ⟨rfl, rfl⟩; rw [h2]) | (go_at_call 37; refine (CC.out _).mono ?_; rintro e w' ⟨⟨v, xs, rfl, hv, hx⟩, hb⟩))
            go_ret2
            exact RPs.good e1.out hv hx hb
    · have hi47 : ¬ (s[0].toNat : Int) = 47 := fun h => h47 (u8_eq (n := 47) (by decide) h)
      have hb47 : ((s[0].toNat : Int) != 47) = true := by simpa using hi47
      have e1 : Hid (pE (tx s) = 1) := pE_one (l := tx s) (by rw [hsl, decide_eq_false h47]; rfl)
      clear hsl h47
      go_enter Try.func19, Try.ntmps19
      go_wp2
      go_ret2
      exact RPs.bad e1.out (by decide) (Below.refl _ _)
end Go.Proofs.Ytkmadcjbeiigmaa

namespace Go.Proofs.Ytkmadcjbeiigmaa
open Go.RowKit Go.Shelf Pa
/-- the reference's Text -/
def RTs (w : World) (l : Tx) (e : Ending) (w' : World) : Prop := (∃ v xs, e = .returned (.tuple #[v, .bool (tT l), .int .i64 (tE l)]) ∧ Ow w' w.heap.size v xs ∧ xs.map tx = tL l) ∧ Below w.heap.size w w'
theorem RTs.bad {w w' : World} {l : Tx} {n : Int} (h : tE l = n) (hn : n ≠ 0) (hb : Below w.heap.size w w') : RTs w l (.returned (.tuple #[.slice none 0 0, .bool false, .int .i64 n])) w' := by
  refine ⟨⟨_, [], by rw [tT, h, if_neg hn], Ow.nil _ _, ?_⟩, hb⟩
  rw [tL, h, if_neg hn]; rfl
theorem RTs.good {w w' : World} {l : Tx} (h : tE l = 0) {v : Value} {xs : List ByteArray} {b : Bool} (hv : Ow w' w.heap.size v xs) (hx : xs.map tx = cps l) (hs : b = sl1 l) (hb : Below w.heap.size w w') : RTs w l (.returned (.tuple #[v, .bool b, .int .i64 0])) w' := by
  refine ⟨⟨_, xs, by rw [tT, h, if_pos rfl, hs], hv, ?_⟩, hb⟩
  rw [tL, h, if_pos rfl]; exact hx
set_option maxRecDepth 100000 in
set_option maxHeartbeats 4000000 in
theorem rtext_any (w : World) (s : ByteArray) (hs : s.size ≤ 100000000) : Calls Try.prog 20 #[.string s] w fun e w' => RTs w (tx s) e w' := by
  have CZ : Hid (∀ wx, Calls Try.prog 36 #[.string s] wx fun e w' => e = .returned (.bool (hasZ (tx s))) ∧ wx = w') := fun wx => rzero_any wx s (by omega)
  by_cases h1 : tx s = []
  · have e1 : Hid (tE (tx s) = 1) := tE_one (l := tx s) (by rw [h1]; rfl)
    have h1' : s.toList = [] := by rw [toList_tx]; exact h1
    go_enter Try.func20, Try.ntmps20
    go_wp2
    go_ret3
    exact RTs.bad e1.out (by decide) (Below.refl _ _)
  · have h1' : s.toList.isEmpty = false := by rw [toList_tx]; simpa using h1
    have h0 : 0 < s.size := by rw [size_tx]; exact List.length_pos_iff.2 h1
    have h0' : (0 : Int) < (s.size : Int) := by omega
    have hsl := sl1_at h0
    have HS : Hid (((s[0].toNat : Int) == 47) = sl1 (tx s)) := by
      rw [hsl]
      by_cases h47 : s[0] = 47
      · rw [h47]; rfl
      · rw [decide_eq_false h47, beq_eq_false_iff_ne]
        exact fun h => h47 (u8_eq (n := 47) (by decide) h)
    clear hsl
    cases h2 : hasZ (tx s) with
    | true =>
      have e1 : Hid (tE (tx s) = 1) := tE_one (l := tx s) (by rw [h2]; simp)
      go_enter Try.func20, Try.ntmps20
      go_wp2_with (go_at_call 36; refine (CZ.out _).mono ?_; rintro e w' ⟨rfl, rfl⟩; rw [h2])
      go_ret3
      exact RTs.bad e1.out (by decide) (Below.refl _ _)
    | false =>
      have HZ' : (tx s == [] || hasZ (tx s)) = false := by rw [h2]; simpa using h1
      have HZ : Hid ((tx s == [] || hasZ (tx s)) = false) := HZ'
      by_cases hc : (cps (tx s)).any long = true ∨ ¬ (cps (tx s)).length ≤ 32
      · have e1 : Hid (tE (tx s) = 130) := tE_130 HZ.out (hc.elim tL_any tL_many)
        have CC : Hid (∀ wx, Calls Try.prog 37 #[.string s] wx fun e w' => (∃ v, e = .returned (.tuple #[v, .bool false])) ∧ Below wx.heap.size wx w') := fun wx => rcomps_bad wx s hs hc
        clear hc
        go_enter Try.func20, Try.ntmps20
        go_wp2_with (first | (go_at_call 36; refine (CZ.out _).mono ?_; rintro e w' ⟨rfl, rfl⟩; rw [h2]) | (go_at_call 37; refine (CC.out _).mono ?_; rintro e w' ⟨⟨v, rfl⟩, hb⟩))
        go_ret3
        exact RTs.bad e1.out (by decide) hb
      · have hc1 : (cps (tx s)).any long = false := by
          cases h : (cps (tx s)).any long with
          | true => exact absurd (.inl h) hc
          | false => rfl
        have hc2 : (cps (tx s)).length ≤ 32 := Classical.byContradiction fun h => hc (.inr h)
        have CC : Hid (∀ wx, Calls Try.prog 37 #[.string s] wx fun e w' => (∃ v xs, e = .returned (.tuple #[v, .bool true]) ∧ Ow w' wx.heap.size v xs ∧ xs.map tx = cps (tx s)) ∧ Below wx.heap.size wx w') := fun wx => rcomps_ok wx s hs hc1 hc2
        by_cases hl : 1024 < s.size
        · have hl' : (1024 : Int) < (s.size : Int) := by omega
          have e1 : Hid (tE (tx s) = 130) := tE_130 HZ.out (tL_long (by rw [← size_tx]; exact hl))
          clear hc hc1 hc2 hl
          go_enter Try.func20, Try.ntmps20
          go_wp2_with (first | (go_at_call 36; refine (CZ.out _).mono ?_; rintro e w' ⟨rfl, rfl⟩; rw [h2]) | (go_at_call 37; refine (CC.out _).mono ?_; rintro e w' ⟨⟨v, xs, rfl, _, _⟩, hb⟩))
          go_ret3
          exact RTs.bad e1.out (by decide) hb
        · have hl' : ¬ (1024 : Int) < (s.size : Int) := by omega
          have e1 : Hid (tE (tx s) = 0) := tE_zero HZ.out (tL_no hc1 hc2 (by rw [← size_tx]; exact hl))
          clear hc hc1 hc2 hl
          go_enter Try.func20, Try.ntmps20
          go_wp2_with (first | (go_at_call 36; refine (CZ.out _).mono ?_; rintro e w' ⟨rfl, rfl⟩; rw [h2]) | (go_at_call 37; refine (CC.out _).mono ?_; rintro e w' ⟨⟨v, xs, rfl, hv, hx⟩, hb⟩))
          have HV : Hid (Ow w'.drew w.heap.size v xs ∧ xs.map tx = cps (tx s) ∧ Below w.heap.size w w'.drew) := ⟨hv.on ((Below.refl _ w').drew), hx, hb.drew⟩
          clear hv hx hb
          go_region
          go_wp2
          go_ret3
          exact RTs.good e1.out HV.out.1 HV.out.2.1 HS.out HV.out.2.2
end Go.Proofs.Ytkmadcjbeiigmaa

namespace Go.Proofs.Ytkmadcjbeiigmaa
open Go.RowKit Go.Shelf Pa
/-- pieces, as texts in a row -/
theorem rpieces_at (w : World) (s : ByteArray) (hs : s.size ≤ 100000000) (n : Nat) (hn : (pcs (tx s)).length = n) : Calls Try.prog 38 #[.string s] w fun e w' => ∃ a c xs, e = .returned (.slice a n c) ∧ StrsAt w' a xs ∧ xs.map tx = pcs (tx s) ∧ xs.length = n ∧ Below w.heap.size w w' :=
  (rpieces_any w s hs).mono (by
    rintro e w' ⟨⟨v, xs, rfl, hv, hx, hl⟩, hb⟩
    obtain ⟨a, c, rfl, h1, h2⟩ := Ow.strs hv
    have h3 : xs.length = n := by rw [← hn, ← hx, List.length_map]
    rw [h3]
    exact ⟨a, c, xs, rfl, h1, hx, h3, hb⟩)
theorem pcs_whole {p : Tx} : (pcs p = [p]) ↔ (p ≠ [] ∧ (47 : UInt8) ∉ p) := by
  constructor
  · intro h
    have := pcs_mem (l := p) (p := p) (by rw [h]; simp)
    exact ⟨this.1, this.2.1⟩
  · rintro ⟨h1, h2⟩; exact pcs_one h2 h1
theorem one_of {p : Tx} {n : Nat} (h : (pcs p).length = n) (h1 : n = 1) : ∃ q, pcs p = [q] := by
  rw [h1] at h; exact List.length_eq_one_iff.1 h
/-- name, as the reference says it -/
theorem name_ref (p : Tx) : name p = (!(p == [46]) && !(p == [46, 46]) && !(decide (27 < p.length)) && !hasZ p && decide (pcs p = [p])) := by
  have h : decide (pcs p = [p]) = (!(p == []) && !hasC p 47) := by
    by_cases hp : pcs p = [p]
    · have ⟨h1, h2⟩ := pcs_whole.1 hp
      rw [decide_eq_true hp, (hasC_not p 47).2 h2, show (p == []) = false by simpa using h1]; rfl
    · rw [decide_eq_false hp]
      by_cases h0 : p = []
      · rw [h0]; rfl
      · have : hasC p 47 = true := by
          rw [hasC_iff]
          exact Classical.byContradiction fun h => hp (pcs_whole.2 ⟨h0, h⟩)
        rw [this, Bool.not_true, Bool.and_false]
  rw [h]
  unfold name noPart goes long
  cases (p == [46]) <;> cases (p == [46, 46]) <;> cases (p == []) <;> cases hasC p 47 <;> cases hasZ p <;> cases (decide (27 < p.length)) <;> rfl
theorem at_zero {s : ByteArray} {xs : List ByteArray} {q : Tx} (hx : xs.map tx = pcs (tx s)) (hq : pcs (tx s) = [q]) : ∃ x, xs = [x] ∧ tx x = q := by
  rw [hq] at hx
  obtain ⟨x, rfl⟩ := List.length_eq_one_iff.1 (by rw [← List.length_map (f := tx), hx]; rfl)
  exact ⟨x, rfl, by simpa using hx⟩
/-- pieces, where there is one -/
theorem rpieces_1 (w : World) (s : ByteArray) (hs : s.size ≤ 100000000) (q : Tx) (hq : pcs (tx s) = [q]) : Calls Try.prog 38 #[.string s] w fun e w' => ∃ b off c, e = .returned (.slice (some ⟨b, off, none⟩) 1 c) ∧ w'.cell? ⟨b, off, none⟩ = some (.string (st q)) ∧ Below w.heap.size w w' :=
  (rpieces_at w s hs 1 (by rw [hq]; rfl)).mono (by
    rintro e w' ⟨a, c, xs, rfl, h1, hx, hl, hb⟩
    obtain ⟨x, rfl, rfl⟩ := at_zero hx hq
    obtain ⟨b, off, y, rfl, hy, hc⟩ := h1.at (k := 0) (by simp)
    simp at hy; subst hy
    refine ⟨b, off, c, rfl, ?_, hb⟩
    rw [← eq_lit (t := x) rfl]; simpa using hc)
end Go.Proofs.Ytkmadcjbeiigmaa

namespace Go.Proofs.Ytkmadcjbeiigmaa
open Go.RowKit Go.Shelf Pa
set_option maxRecDepth 100000 in
set_option maxHeartbeats 4000000 in
theorem rname_any (w : World) (s : ByteArray) (hs : s.size ≤ 100000000) : Calls Try.prog 23 #[.string s] w fun e w' => e = .returned (.bool (name (tx s))) ∧ Below w.heap.size w w' := by
  have CZ : Hid (∀ wx, Calls Try.prog 36 #[.string s] wx fun e w' => e = .returned (.bool (hasZ (tx s))) ∧ wx = w') := fun wx => rzero_any wx s (by omega)
  have HN : Hid (name (tx s) = _) := name_ref (tx s)
  cases h1 : (tx s == [46]) with
  | true =>
    have h1' : (s.toList == [46]) = true := by rw [toList_tx]; exact h1
    have E : Hid (name (tx s) = false) := by rw [HN.out, h1]; rfl
    go_enter Try.func23, Try.ntmps23
    go_wp2
    go_ret
    exact ⟨by rw [E.out]; rfl, Below.refl _ _⟩
  | false =>
    have h1' : (s.toList == [46]) = false := by rw [toList_tx]; exact h1
    cases h2 : (tx s == [46, 46]) with
    | true =>
      have h2' : (s.toList == [46, 46]) = true := by rw [toList_tx]; exact h2
      have E : Hid (name (tx s) = false) := by rw [HN.out, h1, h2]; rfl
      go_enter Try.func23, Try.ntmps23
      go_wp2
      go_ret
      exact ⟨by rw [E.out]; rfl, Below.refl _ _⟩
    | false =>
      have h2' : (s.toList == [46, 46]) = false := by rw [toList_tx]; exact h2
      cases h3 : decide (27 < (tx s).length) with
      | true =>
        have h3' : ¬ (s.size : Int) ≤ 27 := by rw [int_size]; have := of_decide_eq_true h3; omega
        have E : Hid (name (tx s) = false) := by rw [HN.out, h1, h2, h3]; rfl
        go_enter Try.func23, Try.ntmps23
        go_wp2
        go_ret
        exact ⟨by rw [E.out]; rfl, Below.refl _ _⟩
      | false =>
        have h3' : (s.size : Int) ≤ 27 := by rw [int_size]; have := of_decide_eq_false h3; omega
        cases h4 : hasZ (tx s) with
        | true =>
          have E : Hid (name (tx s) = false) := by rw [HN.out, h1, h2, h3, h4]; rfl
          go_enter Try.func23, Try.ntmps23
          go_wp2_with (go_at_call 36; refine (CZ.out _).mono ?_; rintro e w' ⟨rfl, rfl⟩; rw [h4])
          go_ret
          exact ⟨by rw [E.out]; rfl, Below.refl _ _⟩
        | false =>
          have E : Hid (name (tx s) = decide (pcs (tx s) = [tx s])) := by rw [HN.out, h1, h2, h3, h4]; rfl
          by_cases h5 : (pcs (tx s)).length = 1
          · obtain ⟨q, hq⟩ := List.length_eq_one_iff.1 h5
            have CP : Hid (∀ wx, Calls Try.prog 38 #[.string s] wx fun e w' => ∃ b off c, e = .returned (.slice (some ⟨b, off, none⟩) 1 c) ∧ w'.cell? ⟨b, off, none⟩ = some (.string (st q)) ∧ Below wx.heap.size wx w') := fun wx => rpieces_1 wx s hs q hq
            have E2' : name (tx s) = (q == tx s) := by
              rw [E.out, hq]
              by_cases e : q = tx s
              · simp [e]
              · simp [e]
            have E2 : Hid (name (tx s) = (q == tx s)) := E2'
            clear E2'
            clear hq h5 E
            go_enter Try.func23, Try.ntmps23
            go_wp2_with (first | (go_at_call 36; refine (CZ.out _).mono ?_; rintro e w' ⟨rfl, rfl⟩; rw [h4]) | (go_at_call 38; refine (CP.out _).mono ?_; rintro e w' ⟨b, off, c, rfl, hc, hb⟩))
            rename_i w1 _ _ _ _ hb1
            go_ret
            exact ⟨by rw [E2.out, ← toList_tx]; rfl, below_t hb1 hb⟩
          · obtain ⟨n, hn⟩ : ∃ n, (pcs (tx s)).length = n := ⟨_, rfl⟩
            have hn1 : ¬ (n : Int) = 1 := by rw [hn] at h5; omega
            have hn2 : ((n : Int) == 1) = false := by simpa using hn1
            have CP : Hid (∀ wx, Calls Try.prog 38 #[.string s] wx fun e w' => ∃ a c xs, e = .returned (.slice a n c) ∧ StrsAt w' a xs ∧ xs.map tx = pcs (tx s) ∧ xs.length = n ∧ Below wx.heap.size wx w') := fun wx => rpieces_at wx s hs n hn
            have E2 : Hid (name (tx s) = false) := by
              have : decide (pcs (tx s) = [tx s]) = false := decide_eq_false fun h => h5 (by rw [h]; rfl)
              have h := E.out
              rw [this] at h; exact h
            clear hn h5 E
            go_enter Try.func23, Try.ntmps23
            go_wp2_with (first | (go_at_call 36; refine (CZ.out _).mono ?_; rintro e w' ⟨rfl, rfl⟩; rw [h4]) | (go_at_call 38; refine (CP.out _).mono ?_; rintro e w' ⟨a, c, xs, rfl, _, _, _, hb⟩))
            go_ret
            exact ⟨by rw [E2.out]; rfl, hb⟩
end Go.Proofs.Ytkmadcjbeiigmaa
