import Derived.Test.YtccocjipgbeaeabChosen
namespace Go.Proofs.Ytccocjipgbeaeab
open Go.RowKit Adk

/-- nothing armed, so many steps -/
structure LaI (a : AD) (m k : Nat) : Prop where
  nb : a.nb = m
  len : a.las.length = 512 * m
  P : a.P.length ≤ k
  T : a.T.length ≤ k
  wr : a.wr ≤ k
  fl : a.fl ≤ k
  at_ : a.at_ = 0
  keep : a.keep = []
  down : a.down = false
theorem LaI.room {a : AD} {m k : Nat} (h : LaI a m k) (hk : k ≤ 200) : Room a :=
  ⟨by have := h.P; omega, by have := h.T; omega, by have := h.wr; omega, by have := h.fl; omega, by rw [h.keep]; simp⟩
theorem LaI.step {a : AD} {m k : Nat} (h : LaI a m k) : a.stepE = 0 := by unfold AD.stepE; rw [if_neg (by rw [h.at_]; decide)]
theorem do_w {a : AD} (b x : Int) (h : a.at_ = 0) : a.do b x false = { a with P := a.P ++ [((b % (a.nb : Int)).toNat, one x)], T := a.T ++ [(1, (((b % (a.nb : Int)).toNat : Nat) : Int), one x)], wr := a.wr + 1 } := by
  show AD.write _ _ _ = _
  unfold AD.write
  rw [if_neg (by rw [h]; decide)]
  show AD.tick _ = _
  unfold AD.tick
  exact if_neg (by show ¬ (0 : Int) < a.at_; rw [h]; decide)
theorem do_f {a : AD} (b x : Int) (h : a.at_ = 0) : a.do b x true = { a with fl := a.fl + 1, T := a.T ++ [(2, 0, [])], las := a.full, P := [] } := by
  show AD.flush _ = _
  unfold AD.flush
  rw [if_neg (by rw [h]; decide)]
  have e : AD.tick { a with fl := a.fl + 1 } = { a with fl := a.fl + 1 } := by
    unfold AD.tick
    exact if_neg (by show ¬ (0 : Int) < a.at_; rw [h]; decide)
  simp only [e]
  rfl
theorem full_w {a : AD} (b x : Int) (h : a.at_ = 0) : (a.do b x false).full = wr a.full (b % (a.nb : Int)).toNat (one x) := by
  rw [do_w b x h]
  unfold AD.full
  show lay _ _ _ a.las (a.P ++ [_]).length = _
  rw [List.length_append, List.length_singleton, lay, if_pos rfl]
  have e1 : ∀ k, k < a.P.length → (AD.f { a with P := a.P ++ [((b % (a.nb : Int)).toNat, one x)], T := a.T ++ [(1, (((b % (a.nb : Int)).toNat : Nat) : Int), one x)], wr := a.wr + 1 } k = a.f k) ∧ (AD.X { a with P := a.P ++ [((b % (a.nb : Int)).toNat, one x)], T := a.T ++ [(1, (((b % (a.nb : Int)).toNat : Nat) : Int), one x)], wr := a.wr + 1 } k = a.X k) := fun k hk => by
    simp [AD.f, AD.X, List.getD, List.getElem?_append, hk]
  rw [lay_congr (kp' := fun _ => true) (f' := a.f) (x' := a.X) a.las a.P.length (fun k hk => ⟨rfl, (e1 k hk).1, (e1 k hk).2⟩)]
  congr 1
  · simp [AD.f, List.getD]
  · simp [AD.X, List.getD]
theorem LaI.next_w {a : AD} {m k : Nat} (h : LaI a m k) (b x : Int) : LaI (a.do b x false) m (k + 1) ∧ (a.do b x false).las = a.las ∧ (a.do b x false).full = Adk.wr a.full (b % (m : Int)).toNat (one x) := by
  refine ⟨?_, ?_, ?_⟩
  · rw [do_w b x h.at_]
    exact ⟨h.nb, h.len, by show (a.P ++ _).length ≤ _; have := h.P; simp; omega, by show (a.T ++ _).length ≤ _; have := h.T; simp; omega, by show a.wr + 1 ≤ _; have := h.wr; omega, by show a.fl ≤ _; have := h.fl; omega, h.at_, h.keep, h.down⟩
  · rw [do_w b x h.at_]
  · rw [full_w b x h.at_, h.nb]
theorem LaI.next_f {a : AD} {m k : Nat} (h : LaI a m k) (b x : Int) : LaI (a.do b x true) m (k + 1) ∧ (a.do b x true).las = a.full ∧ (a.do b x true).full = a.full := by
  refine ⟨?_, ?_, ?_⟩
  · rw [do_f b x h.at_]
    exact ⟨h.nb, by show a.full.length = _; unfold AD.full; rw [lay_length]; exact h.len, by show 0 ≤ _; omega, by show (a.T ++ _).length ≤ _; have := h.T; simp; omega, by show a.wr ≤ _; have := h.wr; omega, by show a.fl + 1 ≤ _; have := h.fl; omega, h.at_, h.keep, h.down⟩
  · rw [do_f b x h.at_]
  · rw [do_f b x h.at_]; rfl
theorem lay_none (f : Nat → Nat) (x : Nat → List Int) (l : List Int) (kp : Nat → Bool) (n : Nat) (h : ∀ k, k < n → kp k = false) : lay kp f x l n = l := by
  induction n with
  | zero => rfl
  | succ n ih => rw [lay, if_neg (by rw [h n (by omega)]; decide), ih (fun k hk => h k (by omega))]
theorem cut_all {a : AD} (all : Bool) : (a.cut (kpOf (List.replicate a.P.length all))).las = if all then a.full else a.las := by
  show lay _ a.f a.X a.las a.P.length = _
  cases all with
  | true =>
    rw [if_pos rfl]
    exact lay_congr _ _ (fun k hk => ⟨by simp [kpOf, List.getD, hk], rfl, rfl⟩)
  | false =>
    rw [if_neg (by decide)]
    exact lay_none _ _ _ _ _ (fun k hk => by simp [kpOf, List.getD, hk])
theorem bools_of {w : World} {v : Value} {l : List Bool} (h : w.ownsRow 0 4 1 v l.length (l.map Value.bool)) : Bools w v l := by
  obtain ⟨a, c, rfl, _, hg, hc⟩ := owns_slice h
  refine ⟨a, c, rfl, ?_⟩
  rcases hg with h0 | ⟨g, rfl⟩
  · exact .inl (List.eq_nil_of_length_eq_zero h0)
  · refine .inr ⟨g, 0, rfl, fun i x hx => ?_⟩
    rw [Nat.zero_add]
    exact (hc g 0 rfl).2.1 i _ (by rw [List.getElem?_map, hx]; rfl)
end Go.Proofs.Ytccocjipgbeaeab
