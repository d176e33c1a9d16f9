import Derived.Test.YtaaeahpmnfifiaaDoorR14d
namespace Go.Proofs.YtaaeahpmnfifiaaDoor
open Go.RowKit Rec Sc
theorem allE_at (L : List Int) {k n : Nat} (h : k < n) : (allE L n)[k]? = some (aE L k) := by simp [allE, h]
theorem allE_split (L : List Int) (k m : Nat) : allE L (k + m) = allE L k ++ (List.range m).map (fun j => aE L (k + j)) := by
  unfold allE
  rw [List.range_add, List.map_append, List.map_map]; rfl
theorem all_taken {L : List Int} {k : Nat} (h : ∀ j, j < k → inc L j ≠ 0) : (allE L k).filter tk = allE L k := by
  rw [List.filter_eq_self]
  intro q hq
  obtain ⟨j, hj, rfl⟩ := List.mem_map.1 hq
  have := h j (List.mem_range.1 hj)
  simp [tk, fr, aE, this]
theorem taken_split {L : List Int} {k : Nat} (hk : k ≤ 16) (h : ∀ j, j < k → inc L j ≠ 0) : taken L = allE L k ++ ((List.range (16 - k)).map (fun j => aE L (k + j))).filter tk := by
  have e : allE L 16 = allE L k ++ (List.range (16 - k)).map (fun j => aE L (k + j)) := by
    have := allE_split L k (16 - k)
    rwa [show k + (16 - k) = 16 by omega] at this
  rw [taken, e, List.filter_append, all_taken h]
theorem taken_yes {L : List Int} {k : Nat} (hk : k < 16) (h : ∀ j, j < k + 1 → inc L j ≠ 0) : (taken L)[k]? = some (aE L k) := by
  rw [taken_split (k := k + 1) (by omega) h, List.getElem?_append_left (by rw [allE_len]; omega), allE_at L (by omega)]
theorem taken_no {L : List Int} {k : Nat} (hk : k < 16) (h : ∀ j, j < k → inc L j ≠ 0) (h0 : inc L k = 0) : (taken L)[k]? = none ∨ ∃ q, (taken L)[k]? = some q ∧ q.1 ≠ (k : Int) := by
  cases e : (taken L)[k]? with
  | none => exact .inl rfl
  | some q =>
    refine .inr ⟨q, rfl, ?_⟩
    rw [taken_split (k := k) (by omega) h, List.getElem?_append_right (by rw [allE_len]; omega)] at e
    have hm := List.mem_of_getElem? e
    obtain ⟨h1, h2⟩ := List.mem_filter.1 hm
    obtain ⟨j, hj, rfl⟩ := List.mem_map.1 h1
    intro e2
    have : k + j = k := by
      have : ((k + j : Nat) : Int) = (k : Int) := e2
      omega
    simp [tk, fr, aE, this, h0] at h2
theorem fi_at {L : List Int} {k : Nat} (hk : k < 16) (h : ∀ j, j < k → inc L j ≠ 0) (h0 : inc L k = 0) : fi (allE L 16) = (k : Int) := by
  refine (fr_at (allE_at L hk) (fun j q hj hq => ?_) ?_).1
  · rw [allE_at L (by omega)] at hq
    cases hq
    exact decide_eq_false (h j hj)
  · exact decide_eq_true h0
theorem fi_none {L : List Int} (h : ∀ j, j < 16 → inc L j ≠ 0) : fi (allE L 16) = -1 := by
  refine (fr_no (fun j q hj hq => ?_)).1
  rw [allE_len] at hj
  rw [allE_at L hj] at hq
  cases hq
  exact decide_eq_false (h j hj)
theorem rlow_size (w : World) (a : Option Addr) (n c : Nat) (h : n ≠ 512) : Calls Tryd.prog 18 #[.slice a n c] w fun e w' => e = .returned (.tuple #[.int .i64 0, .int .i64 32]) ∧ w = w' := by
  go_enter Tryd.func18, Tryd.ntmps18
  go_wp2_with (first
    | (go_at_call 17; refine (rread_size _ _ _ _ h).mono ?_; rintro e w' ⟨rfl, rfl⟩))
  go_ret2
  exact ⟨rfl, rfl⟩
set_option maxRecDepth 100000 in
set_option maxHeartbeats 4000000 in
theorem rlow_any (w : World) (g o c : Nat) (L : List Int) (hn : L.length = 512) (hO : Bytes w (some ⟨g, o, none⟩) L) (hc : 512 ≤ c) :
    Calls Tryd.prog 18 #[.slice (some ⟨g, o, none⟩) 512 c] w fun e w' => Below w.heap.size w w' ∧ (((∀ k, k < 16 → rt L k = true) ∧ e = .returned (.tuple #[.int .i64 (fi (allE L 16)), .int .i64 0])) ∨ ((∃ k, k < 16 ∧ rt L k = false) ∧ e = .returned (.tuple #[.int .i64 0, .int .i64 140]))) := by
  have HR : Hid (Calls Tryd.prog 17 #[.slice (some ⟨g, o, none⟩) 512 c] w fun e w' => Below w.heap.size w w' ∧ (((∃ k, k < 16 ∧ rt L k = false) ∧ e = .returned (.tuple #[.slice none 0 0, .int .i64 140])) ∨ ((∀ k, k < 16 → rt L k = true) ∧ ∃ a m, e = .returned (.tuple #[.slice a (taken L).length m, .int .i64 0]) ∧ EntAt w' a (taken L)))) := by
    refine (rread_any w g o c L hn hO hc).mono ?_
    rintro e w' ⟨hb, ⟨hr, v, h1, h2⟩ | ⟨hr, h1⟩⟩
    · obtain ⟨a, m, rfl, he⟩ := h2.form
      exact ⟨hb, .inr ⟨hr, a, m, h1, he⟩⟩
    · exact ⟨hb, .inl ⟨hr, h1⟩⟩
  have htl : (taken L).length ≤ 16 := tkn_len L 16
  clear hO hn hc
  go_enter Tryd.func18, Tryd.ntmps18
  go_wp2_with (first
    | (go_at_call 17; refine HR.out.mono ?_; rintro e w2 ⟨hb2, hor⟩; have HB2 : Hid (Below w.heap.size w w2) := hb2; clear hb2; rcases hor with ⟨hr, rfl⟩ | ⟨hr, a, m, rfl, he⟩))
  · go_ret2
    exact ⟨HB2.out, .inr ⟨hr, rfl⟩⟩
  · have HRt : Hid (∀ k, k < 16 → rt L k = true) := hr
    have HE : Hid (EntAt w2 a (taken L)) := he
    clear hr he
    go_loopw [6] (fun i wr => ∃ k : Nat, k ≤ 16 ∧ i = .int .i64 (k : Int) ∧ (∀ j, j < k → inc L j ≠ 0) ∧ wr = w2) (fun i _ => 16 - (intOf i).toNat)
    case atStart => exact ⟨0, Nat.zero_le _, rfl, fun j h => absurd h (by omega), rfl⟩
    case round =>
      obtain ⟨k, hk, rfl, hno, rfl⟩ := hrel
      have HN : Hid (∀ j, j < k → inc L j ≠ 0) := hno
      clear hno
      by_cases hlt : k < 16
      · have hlt' : (k : Int) < 16 := by omega
        by_cases h0 : inc L k = 0
        · have HF : Hid (fi (allE L 16) = (k : Int)) := fi_at hlt HN.out h0
          have HD : Hid (Below w.heap.size w wr ∧ (∀ k, k < 16 → rt L k = true)) := ⟨HB2.out, HRt.out⟩
          rcases taken_no hlt HN.out h0 with hnone | ⟨q, hq, hne⟩
          · have hge : (taken L).length ≤ k := List.getElem?_eq_none_iff.1 hnone
            have hge' : ((taken L).length : Int) ≤ (k : Int) := by omega
            clear hnone h0
            go_wp2
            go_ret2
            exact ⟨HD.out.1, .inl ⟨HD.out.2, by rw [HF.out]; rfl⟩⟩
          · have hkl : k < (taken L).length := (List.getElem?_eq_some_iff.1 hq).1
            have hkl' : ¬ ((taken L).length : Int) ≤ (k : Int) := by omega
            obtain ⟨b1, q', rfl, hq', c0, c1, c2⟩ := HE.out.at hkl
            rw [hq] at hq'
            cases hq'
            clear hq h0
            go_wp2
            go_ret2
            exact ⟨HD.out.1, .inl ⟨HD.out.2, by rw [HF.out]; rfl⟩⟩
        · have HN1 : Hid (∀ j, j < k + 1 → inc L j ≠ 0) := fun j hj => by
            by_cases e : j = k
            · subst e; exact h0
            · exact HN.out j (by omega)
          have hq := taken_yes hlt HN1.out
          have hkl : k < (taken L).length := (List.getElem?_eq_some_iff.1 hq).1
          have hkl' : ¬ ((taken L).length : Int) ≤ (k : Int) := by omega
          obtain ⟨b1, q', rfl, hq', c0, c1, c2⟩ := HE.out.at hkl
          rw [hq] at hq'
          cases hq'
          have c0' : wr.cell? ⟨b1, k * 3, none⟩ = some (.int .i64 (k : Int)) := c0
          clear hq c0 c1 c2
          go_wp2
          refine ⟨⟨k + 1, by omega, by go_num, HN1.out, trivial⟩, by simp [intOf]; omega⟩
      · obtain rfl : k = 16 := by omega
        have HF : Hid (fi (allE L 16) = -1) := fi_none HN.out
        go_wp2
        go_ret2
        exact ⟨HB2.out, .inl ⟨HRt.out, by rw [HF.out]; rfl⟩⟩
end Go.Proofs.YtaaeahpmnfifiaaDoor
