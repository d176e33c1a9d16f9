import Derived.Test.YtkmadcjbeiigmaaPbD
namespace Go.Proofs.Ytkmadcjbeiigmaa
open Go.RowKit Go.Shelf Pa
theorem Ow.append2 {w : World} {base : Nat} {v : Value} {xs : List ByteArray} (h : Ow w base v xs) (x : ByteArray) (hl : xs.length ≤ 1000000000) (hb : base ≤ w.heap.size) :
    ∃ g cap w', (Builtin.append_ #[22, 22] 22 #[v, .slice (some ⟨w.heap.size, 0, none⟩) 1 1]).run Try.prog (w.alloc (.cells #[.string x] 9)) = .ok (.slice (some ⟨g, 0, none⟩) (xs.length + 1) cap) w' ∧ Ow w' base (.slice (some ⟨g, 0, none⟩) (xs.length + 1) cap) (xs ++ [x]) ∧ ∀ w0, Below base w0 w → Below base w0 w' := by
  obtain ⟨i0, hi, hz0, hz1, hz2⟩ := info_parts infoS
  have hrow := World.ownsRow.alloc h (.cells #[.string x] 9)
  obtain ⟨v', w', hr, r1, r2, _⟩ := run_append_own (P := Try.prog) _ base 22 22 9 i0 (.string ⟨#[]⟩) 1 16 Try.underlying22 hi hz0 hz1 hz2 rfl (by decide) v xs.length _ hrow ⟨w.heap.size, 0, none⟩ 1 1 [.string x] rfl
        (fun j u hu => by
          cases j with
          | zero => simp at hu; subst hu; exact cell_new w _ _
          | succ j => simp at hu) (by simp [Value.oneCell']) (by simp [maxLen]; omega) (by omega) (by simp; omega)
  obtain ⟨g', cap', rfl⟩ := ownsRow_succ r1
  refine ⟨g', cap', w', hr, ?_, fun w0 h0 => (h0.alloc hb _).grown r2 (by simp; omega) (fun r e => (World.ownsRow.lt h r e).1)⟩
  have : (xs ++ [x]).length = xs.length + 1 := by simp
  unfold Ow
  rw [this]
  simpa using r1
theorem take_no {l : Tx} {k : Nat} {c x : UInt8} (h : c ∉ l.take k) (hx : l[k]? = some x) (hn : x ≠ c) : c ∉ l.take (k + 1) := by
  rw [List.take_add_one, hx]
  simp only [Option.toList_some, List.mem_append, List.mem_singleton, not_or]
  exact ⟨h, fun e => hn e.symm⟩
set_option maxHeartbeats 4000000 in
theorem rzero_any (w : World) (s : ByteArray) (hs : s.size ≤ 9223372036854775806) : Calls Try.prog 36 #[.string s] w fun e w' => e = .returned (.bool (hasZ (tx s))) ∧ w = w' := by
  go_enter Try.func36, Try.ntmps36
  go_wp2
  go_loopw [3] (fun s3 wr => ∃ k : Nat, k ≤ s.size ∧ s3 = .int .i64 (k : Int) ∧ (0 : UInt8) ∉ (tx s).take k ∧ wr = w) (fun s3 _ => s.size - (intOf s3).toNat)
  case atStart => exact ⟨0, Nat.zero_le _, rfl, by simp, rfl⟩
  case round =>
    obtain ⟨k, hk, rfl, hno, rfl⟩ := hrel
    have HN : Hid ((0 : UInt8) ∉ (tx s).take k) := hno
    clear hno
    by_cases hlt : k < s.size
    · have hlt' : (k : Int) < (s.size : Int) := by omega
      have hat := tx_at hlt
      by_cases h0 : s[k] = 0
      · have hb0 : ((s[k].toNat : Int) == 0) = true := by rw [h0]; rfl
        have HE : Hid (hasZ (tx s) = true) := (hasC_iff _ _).2 (by rw [h0] at hat; exact List.mem_of_getElem? hat)
        clear hat h0
        go_wp2
        go_ret
        exact ⟨by rw [HE.out]; rfl, rfl⟩
      · have hb0 : ((s[k].toNat : Int) == 0) = false := by
          rw [beq_eq_false_iff_ne]
          exact fun h => h0 (u8_eq (n := 0) (by decide) h)
        have HE : Hid ((0 : UInt8) ∉ (tx s).take (k + 1)) := take_no HN.out hat h0
        clear hat h0
        go_wp2
        go_roundw
        case rel => exact ⟨k + 1, by omega, by go_num, HE.out, trivial⟩
        case measure => simp [intOf]; omega
    · have hlt' : ¬ (k : Int) < (s.size : Int) := by omega
      have HE : Hid (hasZ (tx s) = false) := (hasC_not _ _).2 (by
        have := HN.out
        rw [List.take_of_length_le (by rw [← size_tx]; omega)] at this
        exact this)
      go_wp2
      go_ret
      exact ⟨by rw [HE.out]; rfl, rfl⟩
/-- a piece of s -/
theorem mid_tx (u : ByteArray) (a b : Nat) (_ : b ≤ u.size) (_ : a ≤ b) : tx (u.extract a b) = ((tx u).drop a).take (b - a) := by
  unfold tx
  simp
/-- how far pieces has come -/
structure Pc (T : Tx) (n i fr : Nat) (row : List ByteArray) : Prop where
  fi : fr ≤ i
  no : (47 : UInt8) ∉ (T.drop fr).take (i - fr)
  ps : row.map tx ++ pcs (T.drop fr) = pcs T
  en : i = n + 1 → fr = n + 1
  le : row.length ≤ i
theorem Pc.go {T : Tx} {n i fr : Nat} {row : List ByteArray} {x : UInt8} (h : Pc T n i fr row) (hi : i < n) (hx : T[i]? = some x) (h47 : x ≠ 47) : Pc T n (i + 1) fr row := by
  refine ⟨by have := h.fi; omega, ?_, h.ps, fun e => by omega, by have := h.le; omega⟩
  have e : i + 1 - fr = (i - fr) + 1 := by have := h.fi; omega
  rw [e]
  refine take_no h.no ?_ h47
  rw [List.getElem?_drop]
  rw [show fr + (i - fr) = i by have := h.fi; omega]
  exact hx
theorem Pc.piece {T : Tx} {n i fr : Nat} {row : List ByteArray} (h : Pc T n i fr row) (hT : T.length = n) (hi : i ≤ n) (hs : i < n → T[i]? = some 47) : T.drop fr = (T.drop fr).take (i - fr) ++ (if i < n then 47 :: T.drop (i + 1) else []) := by
  by_cases hl : i < n
  · rw [if_pos hl]
    have h1 : (T.drop fr)[i - fr]? = some 47 := by
      rw [List.getElem?_drop, show fr + (i - fr) = i by have := h.fi; omega]; exact hs hl
    have h2 := (cut_at h1).1
    rw [List.drop_drop, show fr + (i - fr + 1) = i + 1 by have := h.fi; omega] at h2
    exact h2
  · rw [if_neg hl, List.append_nil, List.take_of_length_le]
    rw [List.length_drop]; have := h.fi; omega
/-- a piece ends -/
theorem Pc.cut {T : Tx} {n i fr : Nat} {row : List ByteArray} (h : Pc T n i fr row) (hT : T.length = n) (hi : i ≤ n) (hs : i < n → T[i]? = some 47) (row2 : List ByteArray) (hr : row2.map tx = row.map tx ++ (if fr < i then [(T.drop fr).take (i - fr)] else [])) (hl2 : row2.length ≤ row.length + 1) : Pc T n (i + 1) (i + 1) row2 := by
  refine ⟨Nat.le_refl _, by simp, ?_, fun e => e, by have := h.le; omega⟩
  have hp := h.piece hT hi hs
  rw [hr, ← h.ps, List.append_assoc]
  congr 1
  have hpc : pcs ((T.drop fr).take (i - fr)) = if fr < i then [(T.drop fr).take (i - fr)] else [] := by
    by_cases hf : fr < i
    · rw [if_pos hf]
      refine pcs_one h.no ?_
      intro e
      have := congrArg List.length e
      rw [List.length_take, List.length_drop] at this
      simp at this
      omega
    · rw [if_neg hf, show i - fr = 0 by omega, List.take_zero]; rfl
  rw [← hpc]
  by_cases hl : i < n
  · rw [if_pos hl] at hp
    conv => rhs; rw [hp, pcs_app]
  · rw [if_neg hl, List.append_nil] at hp
    rw [List.drop_of_length_le (show T.length ≤ i + 1 by omega), pcs_nil, List.append_nil, ← hp]
end Go.Proofs.Ytkmadcjbeiigmaa
