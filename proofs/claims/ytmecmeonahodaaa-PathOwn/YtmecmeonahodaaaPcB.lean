import Derived.Test.YtmecmeonahodaaaPcA
namespace Go.Proofs.Ytmecmeonahodaaa
open Go.RowKit Go.Shelf Pa
theorem st_tx (s : ByteArray) : st (tx s) = s := tx_inj (by rw [tx_st])
/-- the lists that are answered -/
def PT (k : Nat) (s : ByteArray) : List ByteArray := (if k = 0 then pL (tx s) else if k = 1 then tL (tx s) else mL (tx s)).map st
theorem PT_of {xs : List ByteArray} {l : List Tx} (h : xs.map tx = l) : xs = l.map st := by
  rw [← h, List.map_map]
  conv => lhs; rw [← List.map_id xs]
  exact List.map_congr_left fun a _ => (st_tx a).symm
theorem PT_len (k : Nat) (s : ByteArray) : (PT k s).length ≤ 32 := by
  have t : ∀ l : Tx, tooLong l = false → (cps l).length ≤ 32 := fun l h => (tL_ok h).2.2
  have p0 : (pL (tx s)).length ≤ 32 := by
    unfold pL
    split
    · rename_i h
      refine t _ ?_
      unfold pE at h
      cases c : tooLong (tx s)
      · rfl
      · rw [c] at h; split at h <;> simp at h
    · simp
  unfold PT
  rw [List.length_map]
  split
  · exact p0
  · split
    · unfold tL
      split
      · rename_i h
        refine t _ ?_
        unfold tE at h
        cases c : tooLong (tx s)
        · rfl
        · rw [c] at h; split at h <;> simp at h
      · simp
    · unfold mL
      split
      · rename_i h
        have h2 : pE (tx s) = 0 := by
          unfold mE at h
          split at h
          · simp at h
          · exact h
        rw [pL, if_pos h2] at p0
        rw [List.length_dropLast]; omega
      · simp
theorem parseP (w : World) (s : ByteArray) (hs : s.size ≤ 9223372036854775807) : Calls Try.prog 5 #[.string s] w fun e w' => ∃ v x, e = .returned (.tuple #[v, x]) ∧ Lp w' v (PT 0 s) ∧ (∀ b, v.ownBlock = some b → w.heap.size ≤ b) ∧ v.oneCell' = true ∧ Below w.heap.size w w' := by
  refine (parse_any w s hs).mono ?_
  rintro e w' ⟨⟨v, xs, rfl, hv, hx⟩, hb⟩
  have e1 : xs = PT 0 s := PT_of hx
  subst e1
  refine ⟨v, _, rfl, Lp.ow hv.row, fun b hb => ?_, ?_, hb⟩
  · rcases hv.row.2 with ⟨e, _⟩ | ⟨g, cap, cur, e, h1, _⟩
    · rw [e] at hb; cases hb
    · rw [e] at hb; cases hb; exact h1
  · rcases hv.row.2 with ⟨e, _⟩ | ⟨g, cap, cur, e, h1, _⟩ <;> rw [e] <;> rfl
theorem textP (w : World) (s : ByteArray) (hs : s.size ≤ 9223372036854775807) : Calls Try.prog 6 #[.string s] w fun e w' => ∃ v x y, e = .returned (.tuple #[v, x, y]) ∧ Lp w' v (PT 1 s) ∧ (∀ b, v.ownBlock = some b → w.heap.size ≤ b) ∧ v.oneCell' = true ∧ Below w.heap.size w w' := by
  refine (text_any w s hs).mono ?_
  rintro e w' ⟨⟨v, xs, rfl, hv, hx⟩, hb⟩
  have e1 : xs = PT 1 s := PT_of hx
  subst e1
  refine ⟨v, _, _, rfl, Lp.ow hv.row, fun b hb => ?_, ?_, hb⟩
  · rcases hv.row.2 with ⟨e, _⟩ | ⟨g, cap, cur, e, h1, _⟩
    · rw [e] at hb; cases hb
    · rw [e] at hb; cases hb; exact h1
  · rcases hv.row.2 with ⟨e, _⟩ | ⟨g, cap, cur, e, h1, _⟩ <;> rw [e] <;> rfl
theorem makeP (w : World) (s : ByteArray) (hs : s.size ≤ 9223372036854775807) : Calls Try.prog 7 #[.string s] w fun e w' => ∃ v x y, e = .returned (.tuple #[v, x, y]) ∧ Lp w' v (PT 2 s) ∧ (∀ b, v.ownBlock = some b → w.heap.size ≤ b) ∧ v.oneCell' = true ∧ Below w.heap.size w w' := by
  refine (make_any w s hs).mono ?_
  rintro e w' ⟨⟨rfl, h1, h2⟩ | ⟨g, cap, xs, nm, rfl, h1, h2, h3, h4, _⟩, hb⟩
  · have e1 : PT 2 s = [] := by simp [PT, h1]
    rw [e1]
    refine ⟨_, _, _, rfl, .inl ⟨rfl, rfl⟩, fun b e => ?_, rfl, hb⟩
    cases e
  · have e1 : xs = PT 2 s := PT_of h3
    subst e1
    have h5 : Ow w' w.heap.size (.slice (some ⟨g, 0, none⟩) ((PT 2 s).length + 1) cap) (PT 2 s ++ [nm]) := h2.row
    refine ⟨_, _, _, rfl, Lp.head h5, fun b hb => ?_, rfl, hb⟩
    cases hb
    rcases h2.row.2 with ⟨e, _⟩ | ⟨g', cap', cur, e, h6, _⟩
    · cases e
    · injection e with e
      injection e with e
      injection e with e
      rw [e]; exact h6
theorem infoSS : (Try.prog.info? 24).map (fun i => (i.zero, i.size, i.bytes)) = some (some (.slice none 0 0), 1, 24) := by kernel_rfl
/-- append of lists to a row of lists -/
theorem wp_lstP {ops : Array Oper} {rest : List Oper} {o : Oper} {a : Act} {Q : Exit → Act → World → Prop} {w : World} (hgd : o.guard = none) (s x : Operand)
    (ho : o.op = .call { callee := .builtin .append, args := #[s, x], argTypes := #[23, 23] }) (v : Value) (n : Nat) (vs : List Value) (hs : a.eval s = v) (P m : Nat) (hx : a.eval x = .slice (some ⟨P, 0, none⟩) m m)
    (us : List Value) (hm : us.length = m) (hm0 : 0 < m) (hu : ∀ u ∈ us, u.oneCell' = true) (hP : w.heap[P]? = some (.cells us.toArray 24 (0, 0))) (hR : w.ownsRow 0 24 1 v n vs) (hn : n + m ≤ 1000)
    (h : ∀ b cap w', w'.ownsRow 0 24 1 (.slice (some ⟨b, 0, none⟩) (n + m) cap) (n + m) (vs ++ us) → Fr (fun k => v.ownBlock = some k) w w' → (v.ownBlock = some b ∨ w.heap.size ≤ b) → wpList Try.prog ops Q rest (a.put o.dst (.slice (some ⟨b, 0, none⟩) (n + m) cap)) w') :
    wpList Try.prog ops Q (o :: rest) a w := by
  obtain ⟨i0, hi, hz0, hz1, hz2⟩ := info_parts infoSS
  refine wp_own hgd s x 23 ho 24 i0 _ 1 24 Try.underlying23 hi hz0 hz1 hz2 rfl (by decide) v n _ hs hR ⟨P, 0, none⟩ m m us hx hm0 (by rw [hm, Nat.mul_one]) (fun j w hj => ?_) hu (by unfold maxLen; omega) (by omega) h
  rw [Addr.add_lit, Nat.zero_add, cell_of_row _ _ _ _ _ _ hP]
  rw [List.getElem?_toArray]
  exact hj
/-- a row of lists, each with a block of its own -/
structure LI (w : World) (lv : Value) (n : Nat) (V : Nat → Value) (T : Nat → List ByteArray) : Prop where
  row : w.ownsRow 0 24 1 lv n ((List.range n).map V)
  ls : ∀ i, i < n → Lp w (V i) (T i)
  ap : ∀ i j, i < n → j < n → i ≠ j → ∀ b, (V i).ownBlock = some b → (V j).ownBlock ≠ some b
  rw_ : ∀ i, i < n → ∀ b, (V i).ownBlock = some b → lv.ownBlock ≠ some b
theorem LI.zero (w : World) (V : Nat → Value) (T : Nat → List ByteArray) : LI w (.slice none 0 0) 0 V T := ⟨⟨rfl, .inl ⟨rfl, rfl⟩⟩, fun _ h => absurd h (Nat.not_lt_zero _), fun _ _ h => absurd h (Nat.not_lt_zero _), fun _ h => absurd h (Nat.not_lt_zero _)⟩
theorem LI.fr {S : Nat → Prop} {w w' : World} {lv : Value} {n : Nat} {V : Nat → Value} {T : Nat → List ByteArray} (h : LI w lv n V T) (x : Fr S w w') (h1 : ∀ b, lv.ownBlock = some b → ¬ S b) (h2 : ∀ i, i < n → ∀ b, (V i).ownBlock = some b → ¬ S b) : LI w' lv n V T :=
  ⟨owns_fr h.row x h1, fun i hi => (h.ls i hi).fr x (h2 i hi), h.ap, h.rw_⟩
theorem LI.on {w w' : World} {lv : Value} {n : Nat} {V : Nat → Value} {T : Nat → List ByteArray} (h : LI w lv n V T) (hb : Below w.heap.size w w') : LI w' lv n V T := h.fr (below_fr hb (fun _ => False)) (fun _ _ e => e) (fun _ _ _ _ e => e)
theorem LI.len {w : World} {lv : Value} {n : Nat} {V : Nat → Value} {T : Nat → List ByteArray} (h : LI w lv n V T) : ∃ a c, lv = .slice a n c := by
  rcases h.row.2 with ⟨e, e2⟩ | ⟨g, cap, cur, e, _⟩
  · subst e2; exact ⟨none, 0, e⟩
  · exact ⟨_, cap, e⟩
theorem LI.cell {w : World} {lv : Value} {n : Nat} {V : Nat → Value} {T : Nat → List ByteArray} (h : LI w lv n V T) {k : Nat} (hk : k < n) : ∃ g cap, lv = .slice (some ⟨g, 0, none⟩) n cap ∧ w.cell? ⟨g, k, none⟩ = some (V k) := by
  rcases h.row.2 with ⟨e, e2⟩ | ⟨g, cap, cur, e, h0, h1, h2, h3, h4, h5⟩
  · omega
  · refine ⟨g, cap, e, (cell_of_row _ _ _ _ _ _ h1).trans ?_⟩
    have : ((List.range n).map V)[k]? = some (V k) := by simp [hk]
    rw [← h5, Nat.mul_one, List.getElem?_take_of_lt hk, Array.getElem?_toList] at this
    exact this
/-- further lists -/
theorem LI.add {w w' : World} {lv : Value} {n m b cap : Nat} {V U : Nat → Value} {T TT : Nat → List ByteArray} (h : LI w lv n V T)
    (h1 : w'.ownsRow 0 24 1 (.slice (some ⟨b, 0, none⟩) (n + m) cap) (n + m) ((List.range n).map V ++ (List.range m).map U)) (h2 : Fr (fun k => lv.ownBlock = some k) w w') (h3 : lv.ownBlock = some b ∨ w.heap.size ≤ b)
    (hU : ∀ j, j < m → Lp w (U j) (TT j)) (hA : ∀ i j, i < m → j < m → i ≠ j → ∀ b, (U i).ownBlock = some b → (U j).ownBlock ≠ some b) (hV : ∀ i j, i < n → j < m → ∀ b, (V i).ownBlock = some b → (U j).ownBlock ≠ some b) (hl : ∀ j, j < m → ∀ b, (U j).ownBlock = some b → lv.ownBlock ≠ some b) :
    LI w' (.slice (some ⟨b, 0, none⟩) (n + m) cap) (n + m) (fun i => if i < n then V i else U (i - n)) (fun i => if i < n then T i else TT (i - n)) := by
  have hb : ∀ v xs, Lp w v xs → (∀ c, v.ownBlock = some c → lv.ownBlock ≠ some c) → ∀ c, v.ownBlock = some c → c ≠ b := by
    intro v xs hv hne c hc e
    subst e
    rcases h3 with e | e
    · exact hne _ hc e
    · exact absurd (hv.lt hc) (Nat.not_lt.2 e)
  refine ⟨?_, fun i hi => ?_, fun i j hi hj hij c hc => ?_, fun i hi c hc e => ?_⟩
  · have e : (List.range (n + m)).map (fun i => if i < n then V i else U (i - n)) = (List.range n).map V ++ (List.range m).map U := by
      apply List.ext_getElem?
      intro k
      by_cases hk : k < n
      · rw [List.getElem?_append_left (by simpa using hk)]
        simp [hk, Nat.lt_add_right m hk]
      · by_cases hk2 : k < n + m
        · rw [List.getElem?_append_right (by simp; omega)]
          have : k - n < m := by omega
          simp [hk, hk2, this]
        · rw [List.getElem?_eq_none (by simp; omega), List.getElem?_eq_none (by simp; omega)]
    rw [e]; exact h1
  · by_cases hin : i < n
    · rw [if_pos hin, if_pos hin]; exact (h.ls i hin).fr h2 (fun c hc e => h.rw_ i hin c hc e)
    · rw [if_neg hin, if_neg hin]; exact (hU _ (by omega)).fr h2 (fun c hc e => hl _ (by omega) c hc e)
  · by_cases hin : i < n
    · rw [if_pos hin] at hc
      by_cases hjn : j < n
      · rw [if_pos hjn]; exact h.ap i j hin hjn hij c hc
      · rw [if_neg hjn]; exact hV i _ hin (by omega) c hc
    · rw [if_neg hin] at hc
      by_cases hjn : j < n
      · rw [if_pos hjn]; exact fun e => hV j _ hjn (by omega) c e hc
      · rw [if_neg hjn]; exact hA _ _ (by omega) (by omega) (by omega) c hc
  · have e2 : b = c := by cases e; rfl
    by_cases hin : i < n
    · rw [if_pos hin] at hc; exact hb _ _ (h.ls i hin) (h.rw_ i hin) c hc e2.symm
    · rw [if_neg hin] at hc; exact hb _ _ (hU _ (by omega)) (hl _ (by omega)) c hc e2.symm
/-- one list is another -/
theorem LI.put {w w' : World} {lv : Value} {n k : Nat} {V : Nat → Value} {T : Nat → List ByteArray} {t : List ByteArray} (h : LI w lv n V T) (hk : k < n) (x : Fr (fun b => (V k).ownBlock = some b) w w') (ht : Lp w' (V k) t) : LI w' lv n V (fun i => if i = k then t else T i) :=
  ⟨owns_fr h.row x (fun b hb e => h.rw_ k hk b e hb), fun i hi => by
    by_cases e : i = k
    · rw [if_pos e]; subst e; exact ht
    · rw [if_neg e]; exact (h.ls i hi).fr x (fun b hb e2 => h.ap i k hi hk e b hb e2), h.ap, h.rw_⟩
end Go.Proofs.Ytmecmeonahodaaa
