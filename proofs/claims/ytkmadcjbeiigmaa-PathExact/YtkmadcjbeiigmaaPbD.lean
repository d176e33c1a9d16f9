import Derived.Test.YtkmadcjbeiigmaaPbM
namespace Go.Proofs.Ytkmadcjbeiigmaa
open Go.RowKit Go.Shelf Pa
theorem tx_at {u : ByteArray} {i : Nat} (h : i < u.size) : (tx u)[i]? = some u[i] := by
  have h' : i < u.data.toList.length := by rw [← Lib.size_eq]; exact h
  unfold tx
  rw [List.getElem?_eq_getElem h']
  rfl
theorem tx_pre (u : ByteArray) (k : Nat) : tx (u.extract 0 k) = (tx u).take k := by
  simp [tx]
theorem tx_suf (u : ByteArray) (k : Nat) (hk : k ≤ u.size) : tx (u.extract k u.size) = (tx u).drop k := by
  have h1 : ((tx u).take k).length = k := by rw [List.length_take, ← size_tx]; omega
  have := ext_suf (s := u) (a := (tx u).take k) (b := (tx u).drop k) (by rw [List.take_append_drop]; rfl)
  rw [h1] at this
  rw [this, tx_st]
theorem pre_size (u : ByteArray) (k : Nat) (hk : k ≤ u.size) : (u.extract 0 k).size = k := by rw [size_tx, tx_pre, List.length_take, ← size_tx]; omega
theorem split_last {u : ByteArray} (h : 0 < u.size) : tx u = tx (u.extract 0 (u.size - 1)) ++ [u[u.size - 1]'(by omega)] := by
  rw [tx_pre]
  have h1 := tx_at (u := u) (i := u.size - 1) (by omega)
  have hl := size_tx u
  obtain ⟨h2, h3⟩ := List.getElem?_eq_some_iff.1 h1
  rw [← h3, List.take_append_getElem h2, List.take_of_length_le (by omega)]
theorem u8_eq {x : UInt8} {n : Nat} (hn : n < 256) (h : (x.toNat : Int) = (n : Int)) : x = UInt8.ofNat n := by
  apply UInt8.toNat_inj.1
  rw [UInt8.toNat_ofNat']
  have : x.toNat = n := by exact Int.ofNat_inj.1 h
  rw [this]; omega
/-- what dotted tells of a text that ends in no slash -/
theorem sm_end {l v : Tx} {y x : UInt8} (h : l = v ++ [y] ++ [x]) (hh : l.head? = some 47) (hx : x ≠ 47) : sm l = (x == 46 && y == 47) := by
  obtain ⟨e, h1, h2, h3⟩ := last_end (v ++ [y]) x hx
  have hvy : (47 : UInt8) ∈ v ++ [y] := by
    cases v with
    | nil => rw [h] at hh; simp at hh; simp [hh]
    | cons c v => rw [h] at hh; simp at hh; simp [hh]
  rcases h3 with h3 | ⟨d, h3⟩
  · rw [← h3] at h2; exact absurd hvy h2
  · unfold sm
    rw [h, h1]
    cases e with
    | nil =>
      have hy : y = 47 := by
        have := congrArg List.getLast? h3
        simpa using this
      rw [hy, Bool.eq_iff_iff]
      simp
    | cons c e =>
      have hy : y ≠ 47 := by
        have := congrArg List.getLast? h3
        rw [List.getLast?_append] at this
        simp at this
        intro hy
        rw [hy] at this
        have hm : (47 : UInt8) ∈ c :: e := by
          rw [List.getLast?_cons] at this
          have := List.mem_of_getLast? (l := c :: e) (a := 47) (by rw [List.getLast?_cons]; simpa using this.symm)
          exact this
        exact h2 hm
      simp [hy]
set_option maxHeartbeats 4000000 in
theorem dotted_any (w : World) (t : ByteArray) (hs : t.size ≤ 9223372036854775807) (hh : (tx t).head? = some 47) : Calls Try.prog 17 #[.string t] w fun e w' => e = .returned (.bool (sm (tx t))) ∧ w = w' := by
  go_enter Try.func17, Try.ntmps17
  go_wp2
  go_loopw [0] (fun s0 wr => ∃ u : ByteArray, s0 = .string u ∧ (tx u = [] ∨ (tx u).head? = some 47) ∧ last (tx u) = last (tx t) ∧ u.size ≤ t.size ∧ wr = w) (fun s0 _ => szV s0)
  case atStart => exact ⟨t, rfl, .inr hh, rfl, Nat.le_refl _, rfl⟩
  case round =>
    obtain ⟨u, rfl, hu, hl, hz, rfl⟩ := hrel
    by_cases h0 : u.size = 0
    · have h0' : ¬ (0 : Int) < (u.size : Int) := by omega
      have HE : Hid (sm (tx t) = false) := by
        show _ = _
        have : tx u = [] := List.eq_nil_of_length_eq_zero (by rw [← size_tx]; exact h0)
        unfold sm
        rw [← hl, this]; rfl
      clear hu hl hz
      go_wp2
      go_ret
      exact ⟨by rw [HE.out]; rfl, rfl⟩
    · have h0' : (0 : Int) < (u.size : Int) := by omega
      have hp : 0 < u.size := by omega
      have hsp := split_last hp
      have c1 : wrap64 ((u.size : Int) - 1) = (u.size : Int) - 1 := by unfold wrap64; omega
      have HS : Hid (tx u = tx (u.extract 0 (u.size - 1)) ++ [u[u.size - 1]'(by omega)] ∧ (tx u = [] ∨ (tx u).head? = some 47) ∧ last (tx u) = last (tx t) ∧ u.size ≤ t.size) := ⟨hsp, hu, hl, hz⟩
      clear hsp hu hl hz
      by_cases h2 : u.size = 1
      · have h2' : ¬ (2 : Int) ≤ (u.size : Int) := by omega
        have ht1 : tx u = [47] := by
          obtain ⟨k1, k2, k3, k4⟩ := HS.out
          have hl1 : (tx u).length = 1 := by rw [← size_tx]; exact h2
          obtain ⟨c, hc⟩ := List.length_eq_one_iff.1 hl1
          rcases k2 with k2 | k2
          · rw [k2] at hc; cases hc
          · rw [hc] at k2 ⊢; simp at k2; rw [k2]
        have h47 : (u[0].toNat : Int) = 47 := by
          have := tx_at (u := u) (i := 0) hp
          rw [ht1] at this
          simp at this
          rw [← this]; rfl
        have HL0 : Hid (last (tx ByteArray.empty) = last (tx t)) := by
          show _ = _
          rw [← HS.out.2.2.1, ht1]; rfl
        clear ht1
        go_wp2
        go_roundw
        case rel => exact ⟨_, rfl, .inl rfl, HL0.out, Nat.zero_le _, trivial⟩
        case measure =>
          show ByteArray.empty.size < u.size
          rw [h2]; decide
      · have h2' : (2 : Int) ≤ (u.size : Int) := by omega
        have c4 : wrap64 ((u.size : Int) - 2) = (u.size : Int) - 2 := by have := HS.out.2.2.2; unfold wrap64; omega
        have hn2 : u.size - 2 < u.size := by omega
        have HE : Hid (∀ x y : UInt8, u[u.size - 1]'(by omega) = x → u[u.size - 2]'(by omega) = y → x ≠ 47 → sm (tx t) = (x == 46 && y == 47)) := by
          intro x y hx hy hx47
          obtain ⟨k1, k2, k3, k4⟩ := HS.out
          have k5 := split_last (u := u.extract 0 (u.size - 1)) (by rw [pre_size u _ (by omega)]; omega)
          have hsz : (u.extract 0 (u.size - 1)).size = u.size - 1 := pre_size u _ (by omega)
          have hy2 : (tx (u.extract 0 (u.size - 1)))[u.size - 2]? = some y := by
            rw [tx_pre, List.getElem?_take_of_lt (by omega), tx_at hn2, hy]
          have hhd : (tx u).head? = some 47 := by
            rcases k2 with k2 | k2
            · exact absurd (by rw [size_tx, k2]; rfl) h0
            · exact k2
          have hd : tx (u.extract 0 (u.size - 1)) = (tx (u.extract 0 (u.size - 1))).take (u.size - 2) ++ [y] := by
            obtain ⟨h5, h6⟩ := List.getElem?_eq_some_iff.1 hy2
            rw [← h6, List.take_append_getElem h5, List.take_of_length_le (by rw [← size_tx, hsz]; omega)]
          have := sm_end (l := tx u) (v := (tx (u.extract 0 (u.size - 1))).take (u.size - 2)) (y := y) (x := x) (by rw [← hd, ← hx]; exact k1) hhd hx47
          rw [← this]
          unfold sm
          rw [k3]
        go_wp2
        · have hx : (u[u.size - 1].toNat : Int) = 47 := by rename_i h; simpa using h
          have e47 := u8_eq (n := 47) (by decide) hx
          obtain ⟨k1, k2, k3, k4⟩ := HS.out
          rw [e47] at k1
          go_roundw
          case rel =>
            refine ⟨_, rfl, ?_, ?_, ?_, trivial⟩
            · rcases k2 with k2 | k2
              · rw [k2] at k1; simp at k1
              · generalize tx (u.extract 0 (u.size - 1)) = v at k1
                cases v with
                | nil => exact .inl rfl
                | cons c v => rw [k1] at k2; exact .inr k2
            · rw [← k3, k1]; exact (last_slash _).symm
            · rw [pre_size u _ (by omega)]; omega
          case measure =>
            show (u.extract 0 (u.size - 1)).size < u.size
            rw [pre_size u _ (by omega)]; omega
        · have hx : (u[u.size - 1].toNat : Int) = 46 := by assumption
          have e46 := u8_eq (n := 46) (by decide) hx
          go_ret
          refine ⟨?_, rfl⟩
          rw [HE.out _ _ rfl rfl (by rw [e46]; decide), e46]
          have : ((u[u.size - 2].toNat : Int) == 47) = (u[u.size - 2] == 47) := by
            rw [Bool.eq_iff_iff, beq_iff_eq, beq_iff_eq]
            exact ⟨fun h => u8_eq (n := 47) (by decide) h, fun h => by rw [h]; rfl⟩
          rw [← this]; rfl
        · have hx : ¬ (u[u.size - 1].toNat : Int) = 46 := by assumption
          have hx47 : ((u[u.size - 1].toNat : Int) == 47) = false := by assumption
          go_ret
          refine ⟨?_, rfl⟩
          have n47 : u[u.size - 1] ≠ 47 := fun h => by rw [h] at hx47; exact absurd hx47 (by decide)
          have n46 : (u[u.size - 1] == 46) = false := by
            rw [beq_eq_false_iff_ne]
            exact fun h => hx (by rw [h]; rfl)
          rw [HE.out _ _ rfl rfl n47, n46]; rfl
end Go.Proofs.Ytkmadcjbeiigmaa
