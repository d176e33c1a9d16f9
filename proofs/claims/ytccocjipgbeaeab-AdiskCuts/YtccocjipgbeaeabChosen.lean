import Derived.Test.YtccocjipgbeaeabFresh
namespace Go.Proofs.Ytccocjipgbeaeab
open Go.RowKit Adk

structure PutR where
  b : Int
  x : Int
  fl : Bool
structure PutAt (w : World) (b off : Nat) (q : PutR) : Prop where
  f0 : w.cell? ⟨b, off, none⟩ = some (.int .i64 q.b)
  f1 : w.cell? ⟨b, off + 1, none⟩ = some (.int .u8 q.x)
  f2 : w.cell? ⟨b, off + 2, none⟩ = some (.bool q.fl)
structure Puts (w : World) (a0 : Option Addr) (L : List PutR) : Prop where
  at_ : L = [] ∨ ∃ b off, a0 = some ⟨b, off, none⟩ ∧ ∀ i q, L[i]? = some q → PutAt w b (off + i * 3) q
  each : ∀ q ∈ L, 0 ≤ q.x ∧ q.x < 256
  len : L.length ≤ 9223372036854775807
theorem Puts.on {w w' : World} {a0 : Option Addr} {L : List PutR} (h : Puts w a0 L) (x : Below w.heap.size w w') : Puts w' a0 L := by
  refine ⟨?_, h.each, h.len⟩
  rcases h.at_ with e | ⟨b, off, e, hc⟩
  · exact .inl e
  · have f := below_fr x (fun _ => False)
    exact .inr ⟨b, off, e, fun i q hq => ⟨f.cell (hc i q hq).f0 (fun e => e), f.cell (hc i q hq).f1 (fun e => e), f.cell (hc i q hq).f2 (fun e => e)⟩⟩
theorem Bools.on {w w' : World} {v : Value} {l : List Bool} (h : Bools w v l) (x : Below w.heap.size w w') : Bools w' v l := by
  obtain ⟨a, c, rfl, hl⟩ := h
  refine ⟨a, c, rfl, ?_⟩
  rcases hl with rfl | ⟨b, off, rfl, hc⟩
  · exact .inl rfl
  · exact .inr ⟨b, off, rfl, fun i y hy => (below_fr x (fun _ => False)).cell (hc i y hy) (fun e => e)⟩
/-- behind k writes, nothing armed -/
structure ChI (a : AD) (m : Nat) (L : List PutR) (k : Nat) : Prop where
  nb : a.nb = m
  las : a.las = frs m
  P : a.P = (L.take k).map (fun q => ((q.b % (m : Int)).toNat, one q.x))
  T : a.T.length = k
  wr : a.wr = k
  fl : a.fl = 0
  at_ : a.at_ = 0
  keep : a.keep = []
  down : a.down = false
theorem ChI.next {a : AD} {m k : Nat} {L : List PutR} {q : PutR} (h : ChI a m L k) (hq : L[k]? = some q) : ChI (a.do q.b q.x false) m L (k + 1) ∧ a.stepE = 0 := by
  have h1 : ¬ a.at_ = 1 := by rw [h.at_]; decide
  have h0 : ¬ (0 : Int) < a.at_ := by rw [h.at_]; decide
  have e : a.do q.b q.x false = { a with P := a.P ++ [((q.b % (m : Int)).toNat, one q.x)], T := a.T ++ [(1, (((q.b % (m : Int)).toNat : Nat) : Int), one q.x)], wr := a.wr + 1 } := by
    show AD.write _ _ _ = _
    unfold AD.write
    rw [if_neg h1, h.nb]
    show AD.tick _ = _
    unfold AD.tick
    exact if_neg h0
  refine ⟨?_, by unfold AD.stepE; rw [if_neg h1]⟩
  rw [e]
  refine ⟨h.nb, h.las, ?_, ?_, ?_, h.fl, h.at_, h.keep, h.down⟩
  · show a.P ++ _ = _
    rw [h.P, List.take_add_one, hq, List.map_append]; rfl
  · show (a.T ++ _).length = _
    rw [List.length_append, h.T]; rfl
  · show a.wr + 1 = _
    rw [h.wr]
theorem ChI.room {a : AD} {m k : Nat} {L : List PutR} (h : ChI a m L k) (hk : k ≤ 200) : Room a := by
  refine ⟨?_, by rw [h.T]; omega, by rw [h.wr]; omega, by rw [h.fl]; omega, by rw [h.keep]; simp⟩
  rw [h.P, List.length_map, List.length_take]; omega
/-- what is to last -/
def wantL (m : Nat) (L : List PutR) (keep : List Bool) : Nat → List Int
  | 0 => (List.range m).map (fun i : Nat => (i : Int))
  | k + 1 => if kpOf keep k then (wantL m L keep k).set (((L.getD k ⟨0, 0, false⟩).b % (m : Int)).toNat) (L.getD k ⟨0, 0, false⟩).x else wantL m L keep k
theorem wantL_length (m : Nat) (L : List PutR) (keep : List Bool) (k : Nat) : (wantL m L keep k).length = m := by
  induction k with
  | zero => simp [wantL]
  | succ k ih => rw [wantL]; split; rw [List.length_set, ih]; exact ih
theorem blk_wr (l : List Int) (n b j : Nat) (x : List Int) (hl : l.length = 512 * n) (hj : j < n) (hx : x.length = 512) : blk (wr l b x) j = if j = b then x else blk l j := by
  have e1 : (wr l b x).length = 512 * n := by rw [wr_length, hl]
  have e2 := blk_length e1 hj
  by_cases h : j = b
  · rw [if_pos h]
    refine ext_nth (by rw [e2, hx]) fun i hi => ?_
    rw [e2] at hi
    rw [nth_blk e1 hj i hi, nth_wr _ _ _ _ (by rw [hl]; omega), if_pos (by omega), show (512 * j + i) % 512 = i by omega]
  · rw [if_neg h]
    refine ext_nth (by rw [e2, blk_length hl hj]) fun i hi => ?_
    rw [e2] at hi
    rw [nth_blk e1 hj i hi, nth_blk hl hj i hi, nth_wr _ _ _ _ (by rw [hl]; omega), if_neg (by omega)]
theorem chosen_math (m : Nat) (L : List PutR) (keep : List Bool) (hm : 0 < m) (f : Nat → Nat) (X : Nat → List Int) (k : Nat) (hk : ∀ i, i < k → f i = ((L.getD i ⟨0, 0, false⟩).b % (m : Int)).toNat ∧ X i = one (L.getD i ⟨0, 0, false⟩).x) (j : Nat) (hj : j < m) :
    blk (lay (kpOf keep) f X (frs m) k) j = one (nth (wantL m L keep k) j) := by
  induction k with
  | zero =>
    rw [lay, blk_frs m j hj]
    simp [wantL, nth, List.getD, hj]
  | succ k ih =>
    have ih := ih (fun i hi => hk i (by omega))
    obtain ⟨h1, h2⟩ := hk k (by omega)
    rw [lay, wantL]
    by_cases hkp : kpOf keep k = true
    · rw [if_pos hkp, if_pos hkp, blk_wr _ m _ _ _ (by rw [lay_length, frs_length]) hj (by rw [h2, one_length]), h1, h2, nth_set _ _ _ _ (by
        rw [wantL_length]
        have := Int.emod_lt_of_pos (L.getD k ⟨0, 0, false⟩).b (b := (m : Int)) (by omega)
        have := Int.emod_nonneg (L.getD k ⟨0, 0, false⟩).b (b := (m : Int)) (by omega)
        omega)]
      split
      · rfl
      · exact ih
    · rw [if_neg hkp, if_neg hkp]; exact ih
theorem wantL_wf (m : Nat) (L : List PutR) (keep : List Bool) (hm : m ≤ 9) (hL : ∀ q ∈ L, 0 ≤ q.x ∧ q.x < 256) (k : Nat) : ∀ i, 0 ≤ nth (wantL m L keep k) i ∧ nth (wantL m L keep k) i < 256 := by
  induction k with
  | zero =>
    intro i
    by_cases h : i < m
    · have : nth (wantL m L keep 0) i = (i : Int) := by simp [wantL, nth, List.getD, h]
      rw [this]; omega
    · rw [nth_out _ _ (by rw [wantL_length]; omega)]; omega
  | succ k ih =>
    intro i
    rw [wantL]
    split
    · by_cases h2 : (((L.getD k ⟨0, 0, false⟩).b % (m : Int)).toNat) < (wantL m L keep k).length
      · rw [nth_set _ _ _ _ h2]
        split
        · by_cases h3 : k < L.length
          · have e : L.getD k ⟨0, 0, false⟩ = L[k] := by simp [List.getD, h3]
            rw [e]; exact hL _ (List.getElem_mem h3)
          · have e : L.getD k ⟨0, 0, false⟩ = ⟨0, 0, false⟩ := by simp [List.getD, Nat.le_of_not_lt h3]
            rw [e]; exact ⟨Int.le_refl _, by decide⟩
        · exact ih i
      · rw [List.set_eq_of_length_le (by omega)]; exact ih i
    · exact ih i
end Go.Proofs.Ytccocjipgbeaeab
