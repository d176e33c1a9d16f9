import Derived.Test.YtkmadcjbeiigmaaPbC
namespace Go.Proofs.Ytkmadcjbeiigmaa
open Go.RowKit Go.Shelf Pa
/-- what is put behind a slash changes nothing -/
def mr (d : Bool) : Tx := if d then [46, 47] else [47]
theorem pcs_mr (d : Bool) (b : Tx) : pcs (mr d ++ b) = (if d then [[46]] else []) ++ pcs b := by
  cases d with
  | false => exact pcs_slash b
  | true =>
    have := pcs_app [46] b
    rw [pcs_one (a := [46]) (by decide) (by decide)] at this
    exact this
theorem ins_pcs (d : Bool) (a b : Tx) : pcs (a ++ 47 :: (mr d ++ b)) = pcs a ++ ((if d then [[46]] else []) ++ pcs b) := by rw [pcs_app, pcs_mr]
theorem ins_cps (d : Bool) (a b : Tx) : cps (a ++ 47 :: (mr d ++ b)) = cps (a ++ 47 :: b) := by
  unfold cps
  rw [ins_pcs, pcs_app]
  cases d <;> simp
theorem getLast_app (a b : List Tx) : (a ++ b).getLast? = (b.getLast?).or a.getLast? := by
  rw [List.getLast?_append]
theorem ins_last (d : Bool) (a b : Tx) : last (a ++ 47 :: (mr d ++ b)) = [46] ∨ last (a ++ 47 :: (mr d ++ b)) = last (a ++ 47 :: b) := by
  unfold last
  rw [ins_pcs, pcs_app, List.getLast?_append, List.getLast?_append, List.getLast?_append]
  cases d with
  | false => right; simp
  | true =>
    cases h : (pcs b).getLast? with
    | none => left; simp
    | some p => right; simp
theorem mr_len (d : Bool) : (mr d).length = if d then 2 else 1 := by cases d <;> rfl
theorem ins_ok {d : Bool} {a b : Tx} (h : pE (a ++ 47 :: b) = 0) (hl : (a ++ 47 :: b).length + (mr d).length ≤ 1024) : pE (a ++ 47 :: (mr d ++ b)) = 0 := by
  obtain ⟨h1, h2, h3, h4⟩ := pE_fine h
  have hz : (0 : UInt8) ∉ a ++ 47 :: b := (hasC_not _ _).1 h3
  unfold pE
  rw [(sl1_iff _).2 (by cases a with
    | nil => rfl
    | cons x a => exact h2)]
  have e2 : hasZ (a ++ 47 :: (mr d ++ b)) = false := by
    refine (hasC_not _ _).2 ?_
    simp only [List.mem_append, List.mem_cons, not_or] at hz ⊢
    refine ⟨hz.1, hz.2.1, ?_, hz.2.2⟩
    cases d <;> decide
  have e3 : tooLong (a ++ 47 :: (mr d ++ b)) = false := by
    unfold tooLong at h4 ⊢
    rw [Bool.or_eq_false_iff] at h4 ⊢
    refine ⟨?_, by rw [ins_cps]; exact h4.2⟩
    rw [decide_eq_false_iff_not]
    simp only [List.length_append, List.length_cons] at hl ⊢
    omega
  rw [e2, e3]; rfl
/-- the places of slashes -/
def sls (l : Tx) (k : Nat) : List Nat := (List.range k).filter (fun i => l[i]? == some 47)
theorem sls_succ (l : Tx) (k : Nat) : sls l (k + 1) = sls l k ++ (if l[k]? == some 47 then [k] else []) := by
  unfold sls
  rw [List.range_succ, List.filter_append]
  congr 1
  cases h : (l[k]? == some 47) <;> simp [h]
theorem sls_mem {l : Tx} {k p : Nat} (h : p ∈ sls l k) : p < k ∧ l[p]? = some 47 := by
  unfold sls at h
  rw [List.mem_filter, List.mem_range] at h
  exact ⟨h.1, by simpa using h.2⟩
theorem sls_len (l : Tx) (k : Nat) : (sls l k).length ≤ k := by
  have := List.length_filter_le (fun i => l[i]? == some 47) (List.range k)
  rw [List.length_range] at this
  exact this
theorem sls_pos {l : Tx} (h : l.head? = some 47) : 0 < (sls l l.length).length := by
  cases l with
  | nil => simp at h
  | cons x l =>
    simp at h; subst h
    apply List.length_pos_of_mem (a := 0)
    unfold sls
    rw [List.mem_filter, List.mem_range]
    exact ⟨by simp, by simp⟩
theorem cut_at {l : Tx} {p : Nat} (h : l[p]? = some 47) : l = l.take p ++ 47 :: l.drop (p + 1) ∧ (l.take p).length = p := by
  obtain ⟨hp, e⟩ := List.getElem?_eq_some_iff.1 h
  refine ⟨?_, by rw [List.length_take]; omega⟩
  rw [← e, ← List.drop_eq_getElem_cons hp, List.take_append_drop]
/-- the text without the slashes at its end -/
def sm (l : Tx) : Bool := decide (last l = [46])
theorem last_slash (l : Tx) : last (l ++ [47]) = last l := by
  unfold last; rw [pcs_app, pcs_nil, List.append_nil]
/-- a text that ends in no slash has its last piece at its end -/
theorem pcs_tail {d e : Tx} (h : (47 : UInt8) ∉ e) (h0 : e ≠ []) : last (d ++ 47 :: e) = e := by
  unfold last
  rw [pcs_app, pcs_one h h0]; simp
theorem last_end (l : Tx) (x : UInt8) (hx : x ≠ 47) : ∃ e, last (l ++ [x]) = e ++ [x] ∧ (47 : UInt8) ∉ e ∧ (l = e ∨ ∃ d, l = d ++ 47 :: e) := by
  -- split at the last slash of l
  have key : ∀ l : Tx, (47 : UInt8) ∉ l ∨ ∃ d e, l = d ++ 47 :: e ∧ (47 : UInt8) ∉ e := by
    intro l
    induction l with
    | nil => exact .inl (by simp)
    | cons c l ih =>
      rcases ih with h | ⟨d, e, h1, h2⟩
      · by_cases hc : c = 47
        · exact .inr ⟨[], l, by rw [hc]; rfl, h⟩
        · exact .inl (by simp [h]; exact fun e => hc e.symm)
      · exact .inr ⟨c :: d, e, by rw [h1]; rfl, h2⟩
  rcases key l with h | ⟨d, e, rfl, h2⟩
  · refine ⟨l, ?_, h, .inl rfl⟩
    unfold last
    rw [pcs_one (by simp [h]; exact fun e => hx e.symm) (by simp)]; rfl
  · refine ⟨e, ?_, h2, .inr ⟨d, rfl⟩⟩
    rw [List.append_assoc, List.cons_append]
    exact pcs_tail (by simp [h2]; exact fun e => hx e.symm) (by simp)
end Go.Proofs.Ytkmadcjbeiigmaa
