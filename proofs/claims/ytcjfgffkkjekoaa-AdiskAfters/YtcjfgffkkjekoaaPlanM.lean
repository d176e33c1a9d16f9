import Derived.Test.YtcjfgffkkjekoaaKKnownM
namespace Go.Proofs.Ytcjfgffkkjekoaa
open Go.RowKit Rec

/-- where a plan's numbers stand -/
def atP (st : List Int) : Nat → Int
  | 0 => 97
  | j + 1 => atP st j + 1 + nth st j % 18446744073709551616 % 160
theorem atP_bd (st : List Int) : ∀ j : Nat, 97 + (j : Int) ≤ atP st j ∧ atP st j ≤ 97 + 160 * (j : Int)
  | 0 => by simp [atP]
  | j + 1 => by
    have := atP_bd st j
    rw [atP]
    omega
def nsP (st : List Int) (j : Nat) : List Int := (List.range j).map fun i => atP st (i + 1)
theorem nsP_length (st : List Int) (j : Nat) : (nsP st j).length = j := by simp [nsP]
theorem nsP_succ (st : List Int) (j : Nat) : nsP st (j + 1) = nsP st j ++ [atP st (j + 1)] := by
  unfold nsP; rw [List.range_succ, List.map_append]; rfl
theorem nth_nsP (st : List Int) (j i : Nat) (h : i < j) : nth (nsP st j) i = atP st (i + 1) := nth_map _ _ _ h
theorem may_nsP (st : List Int) (j : Nat) (h : j ≤ 96) : may (nsP st j) 16384 = true := may_true (fun i hi => by
  rw [nsP_length] at hi
  have b := atP_bd st (i + 1)
  have e : pre (nsP st j) i = atP st i := by
    unfold pre
    by_cases h0 : i = 0
    · subst h0; rfl
    · rw [if_neg h0, nth_nsP _ _ _ (by omega), Nat.sub_add_cancel (by omega)]
  rw [e, nth_nsP _ _ _ hi]
  have d : atP st (i + 1) = atP st i + 1 + nth st i % 18446744073709551616 % 160 := rfl
  omega)
/-- the bytes of its blocks -/
def byteP (sd : List Int) (i k : Nat) : Int := if sd.length = 0 then 0 else (nth sd ((k + i) % sd.length) + i) % 256
theorem byteP_bd (sd : List Int) (i k : Nat) : 0 ≤ byteP sd i k ∧ byteP sd i k < 256 := by
  unfold byteP; split <;> omega
def blkP (sd : List Int) (i : Nat) : List Int := (List.range 512).map (byteP sd i)
theorem blkP_length (sd : List Int) (i : Nat) : (blkP sd i).length = 512 := by unfold blkP; rw [List.length_map, List.length_range]
theorem blkP_ov (sd : List Int) (i : Nat) : ov (zn 512) 0 512 (byteP sd i) = blkP sd i := by
  refine ext_nth (by rw [ov_length, zn_length, blkP_length]) fun k hk => ?_
  rw [ov_length, zn_length] at hk
  rw [nth_ov _ _ _ _ _ (by rw [zn_length]; exact hk), if_pos (by omega), blkP, nth_map _ _ _ hk, Nat.sub_zero]
theorem blkP_nil (sd : List Int) (i : Nat) (h : sd.length = 0) : zn 512 = blkP sd i := by
  refine ext_nth (by rw [zn_length, blkP_length]) fun k hk => ?_
  rw [zn_length] at hk
  rw [blkP, nth_map _ _ _ hk, zn, nth_rep _ _ _ hk, byteP, if_pos h]
def dsP (sd : List Int) (j : Nat) : List (List Int) := (List.range j).map (blkP sd)
theorem dsP_length (sd : List Int) (j : Nat) : (dsP sd j).length = j := by simp [dsP]
theorem dsP_succ (sd : List Int) (j : Nat) : dsP sd (j + 1) = dsP sd j ++ [blkP sd j] := by
  unfold dsP; rw [List.range_succ, List.map_append]; rfl
theorem row_dsP (sd : List Int) (j i : Nat) (h : i < j) : row (dsP sd j) i = blkP sd i := by simp [row, dsP, List.getD, h]
def planN (st : List Int) : List Int := if st.length = 0 then [98] else nsP st (min st.length 96)
def planD (st sd : List Int) : List (List Int) := if st.length = 0 then [one 7] else dsP sd (min st.length 96)
theorem plan_len (st sd : List Int) : (planD st sd).length = (planN st).length ∧ 1 ≤ (planN st).length ∧ (planN st).length ≤ 96 := by
  unfold planN planD
  by_cases h : st.length = 0
  · rw [if_pos h, if_pos h]; simp
  · rw [if_neg h, if_neg h, dsP_length, nsP_length]; omega
theorem plan_may (st : List Int) : may (planN st) 16384 = true := by
  unfold planN
  split
  · exact may_one 98 16384 (by decide) (by decide)
  · exact may_nsP st _ (by omega)
theorem plan_rows (st sd : List Int) : ∀ i, i < (planD st sd).length → (row (planD st sd) i).length = 512 := by
  unfold planD
  by_cases h : st.length = 0
  · rw [if_pos h]
    intro i hi
    have : i = 0 := by simpa using hi
    subst this
    exact one_length 7
  · rw [if_neg h]
    intro i hi
    rw [dsP_length] at hi
    rw [row_dsP _ _ _ hi, blkP_length]
theorem plan_blk (st sd : List Int) : blk (planD st sd) (planN st).length = true := by
  unfold blk
  rw [decide_eq_true (plan_len st sd).1, decide_eq_true ((mem_row _).2 (plan_rows st sd))]; rfl

/-- a plan's memory -/
structure PlanAt (w : World) (sa : Option Addr) (sn : Nat) (ba : Option Addr) (bn : Nat) (st sd : List Int) : Prop where
  sl : st.length = sn
  ints : Ints w sa st
  wf : ∀ i, -9223372036854775808 ≤ nth st i ∧ nth st i ≤ 9223372036854775807
  bl : sd.length = bn
  bytes : Bytes w ba sd
theorem PlanAt.on {w w' : World} {sa ba : Option Addr} {sn bn : Nat} {st sd : List Int} (h : PlanAt w sa sn ba bn st sd) (hb : Below w.heap.size w w') : PlanAt w' sa sn ba bn st sd := ⟨h.sl, h.ints.on hb, h.wf, h.bl, h.bytes.on hb⟩

theorem info22 : (Try.prog.info? 22).map (fun i => (i.zero, i.size, i.bytes)) = some (some (.slice none 0 0), 1, 24) := by kernel_rfl
/-- append of numbers to nil or one's own -/
theorem wp_iown {ops : Array Oper} {rest : List Oper} {o : Oper} {a : Act} {Q : Exit → Act → World → Prop} {w : World} (hgd : o.guard = none) (s x : Operand)
    (ho : o.op = .call { callee := .builtin .append, args := #[s, x], argTypes := #[51, 51] }) (v : Value) (k : Nat) (l : List Int) (hs : a.eval s = v) (hown : w.ownsRow 0 3 1 v k (l.map (Value.int .i64)))
    (ad : Addr) (m c : Nat) (y : List Int) (hx : a.eval x = .slice (some ad) m c) (hm : 0 < m) (hl : y.length = m) (hb : ∀ j, j < y.length → w.cell? (ad.add j) = some (.int .i64 (nth y j))) (h47 : k + m ≤ 17592186044416)
    (h : ∀ g cap w', w'.ownsRow 0 3 1 (.slice (some ⟨g, 0, none⟩) (k + m) cap) (k + m) ((l ++ y).map (Value.int .i64)) → Fr (fun k => v.ownBlock = some k) w w' → (v.ownBlock = some g ∨ w.heap.size ≤ g) → wpList Try.prog ops Q rest (a.put o.dst (.slice (some ⟨g, 0, none⟩) (k + m) cap)) w') :
    wpList Try.prog ops Q (o :: rest) a w := by
  obtain ⟨i0, hi, hz0, hz1, hz2⟩ := info_parts info3
  refine wp_own hgd s x 51 ho 3 i0 _ 1 8 Try.underlying51 hi hz0 hz1 hz2 rfl (by decide) v k _ hs hown ad m c (y.map (Value.int .i64)) hx hm (by rw [List.length_map, hl, Nat.mul_one]) ?_ ?_ (by unfold maxLen; omega) (by omega) ?_
  · intro j u hj
    have hlt : j < y.length := by
      by_cases hlt : j < y.length
      · exact hlt
      · rw [List.getElem?_eq_none (by simp; omega)] at hj; cases hj
    have e : (y.map (Value.int .i64))[j]? = some (.int .i64 (nth y j)) := by simp [nth, List.getD, hlt]
    rw [e] at hj
    cases hj
    exact hb j hlt
  · intro u hu
    obtain ⟨c, _, rfl⟩ := List.mem_map.1 hu
    rfl
  intro g cap w' h1 h2 h3
  rw [← List.map_append] at h1
  exact h g cap w' h1 h2 h3
/-- append of slices to nil or one's own -/
theorem wp_sown {ops : Array Oper} {rest : List Oper} {o : Oper} {a : Act} {Q : Exit → Act → World → Prop} {w : World} (hgd : o.guard = none) (s x : Operand)
    (ho : o.op = .call { callee := .builtin .append, args := #[s, x], argTypes := #[30, 30] }) (v : Value) (k : Nat) (l : List Value) (hs : a.eval s = v) (hown : w.ownsRow 0 22 1 v k l)
    (ad : Addr) (m c : Nat) (y : List Value) (hx : a.eval x = .slice (some ad) m c) (hm : 0 < m) (hl : y.length = m) (hb : ∀ j u, y[j]? = some u → w.cell? (ad.add j) = some u) (h1c : ∀ u ∈ y, u.oneCell' = true) (h47 : k + m ≤ 5864062014805)
    (h : ∀ g cap w', w'.ownsRow 0 22 1 (.slice (some ⟨g, 0, none⟩) (k + m) cap) (k + m) (l ++ y) → Fr (fun k => v.ownBlock = some k) w w' → (v.ownBlock = some g ∨ w.heap.size ≤ g) → wpList Try.prog ops Q rest (a.put o.dst (.slice (some ⟨g, 0, none⟩) (k + m) cap)) w') :
    wpList Try.prog ops Q (o :: rest) a w := by
  obtain ⟨i0, hi, hz0, hz1, hz2⟩ := info_parts info22
  exact wp_own hgd s x 30 ho 22 i0 _ 1 24 Try.underlying30 hi hz0 hz1 hz2 rfl (by decide) v k _ hs hown ad m c y hx hm (by rw [hl, Nat.mul_one]) hb h1c (by unfold maxLen; omega) (by omega) h
/-- append under a guard -/
theorem wp_ownG {ops : Array Oper} {rest : List Oper} {o : Oper} {a : Act} {Q : Exit → Act → World → Prop} {w : World} (hgd : Region.wanted o (yielded ops a.tmps) = true) (s x : Operand) (t : TypeId)
    (ho : o.op = .call { callee := .builtin .append, args := #[s, x], argTypes := #[t, t] }) (e : TypeId) (i0 : TypeInfo) (z : Value) (size bytes : Nat) (ht : Try.prog.underlying t = some (.slice e)) (hi : Try.prog.info? e = some i0) (hz : i0.zero = some z)
    (hsize : i0.size = size) (hby : i0.bytes = bytes) (hzs : z.cells.size = size) (hsz : 0 < size) (v : Value) (k : Nat) (xs : List Value) (hs : a.eval s = v) (hown : w.ownsRow 0 e size v k xs)
    (ad : Addr) (m c : Nat) (news : List Value) (hx : a.eval x = .slice (some ad) m c) (hm : 0 < m) (hl : news.length = m * size) (hnews : ∀ j u, news[j]? = some u → w.cell? (ad.add j) = some u) (h1 : ∀ u ∈ news, u.oneCell' = true) (h63 : k + m ≤ maxLen) (h47 : (k + m) * bytes ≤ 140737488355328)
    (h : ∀ g cap w', w'.ownsRow 0 e size (.slice (some ⟨g, 0, none⟩) (k + m) cap) (k + m) (xs ++ news) → Fr (fun k => v.ownBlock = some k) w w' → (v.ownBlock = some g ∨ w.heap.size ≤ g) → wpList Try.prog ops Q rest (a.put o.dst (.slice (some ⟨g, 0, none⟩) (k + m) cap)) w') :
    wpList Try.prog ops Q (o :: rest) a w := by
  obtain ⟨g, cap, w', hr, h2, h3, hgb⟩ := run_own t o.type e i0 z size bytes ht hi hz hsize hby hzs hsz v k xs hown ad m c news hm hl hnews h1 h63 h47
  refine wpList_step fun K hK => ?_
  rw [if_pos hgd]
  unfold Oper.wp execOp
  simp only [ho, resolve, invoke, builtin, Sem.run_bind, Sem.run_pure, Result.andThen_ok, List.map_toArray, List.map_cons, List.map_nil, hs, hx, hr]
  exact hK _ _ (h g cap w' h2 h3 hgb)
/-- append of slices under a guard -/
theorem wp_sownG {ops : Array Oper} {rest : List Oper} {o : Oper} {a : Act} {Q : Exit → Act → World → Prop} {w : World} (hgd : Region.wanted o (yielded ops a.tmps) = true) (s x : Operand)
    (ho : o.op = .call { callee := .builtin .append, args := #[s, x], argTypes := #[30, 30] }) (v : Value) (k : Nat) (l : List Value) (hs : a.eval s = v) (hown : w.ownsRow 0 22 1 v k l)
    (ad : Addr) (m c : Nat) (y : List Value) (hx : a.eval x = .slice (some ad) m c) (hm : 0 < m) (hl : y.length = m) (hb : ∀ j u, y[j]? = some u → w.cell? (ad.add j) = some u) (h1c : ∀ u ∈ y, u.oneCell' = true) (h47 : k + m ≤ 5864062014805)
    (h : ∀ g cap w', w'.ownsRow 0 22 1 (.slice (some ⟨g, 0, none⟩) (k + m) cap) (k + m) (l ++ y) → Fr (fun k => v.ownBlock = some k) w w' → (v.ownBlock = some g ∨ w.heap.size ≤ g) → wpList Try.prog ops Q rest (a.put o.dst (.slice (some ⟨g, 0, none⟩) (k + m) cap)) w') :
    wpList Try.prog ops Q (o :: rest) a w := by
  obtain ⟨i0, hi, hz0, hz1, hz2⟩ := info_parts info22
  exact wp_ownG hgd s x 30 ho 22 i0 _ 1 24 Try.underlying30 hi hz0 hz1 hz2 rfl (by decide) v k _ hs hown ad m c y hx hm (by rw [hl, Nat.mul_one]) hb h1c (by unfold maxLen; omega) (by omega) h
/-- rows of different kinds are different rows -/
theorem own_type {w : World} {B e size n : Nat} {v : Value} {xs : List Value} (h : w.ownsRow B e size v n xs) {k : Nat} (hk : v.ownBlock = some k) : ∃ cur, w.heap[k]? = some (.cells cur e (0, 0)) := by
  rcases h.2 with ⟨rfl, _⟩ | ⟨g, cap, cur, rfl, _, hg, _⟩
  · cases hk
  · cases hk; exact ⟨cur, hg⟩
theorem own_apart {w : World} {B B' e e' size size' n n' : Nat} {v v' : Value} {xs xs' : List Value} (h : w.ownsRow B e size v n xs) (h' : w.ownsRow B' e' size' v' n' xs') (hne : e ≠ e') (k : Nat) (hk : v.ownBlock = some k) : ¬ v'.ownBlock = some k := by
  intro hk'
  obtain ⟨c1, h1⟩ := own_type h hk
  obtain ⟨c2, h2⟩ := own_type h' hk'
  rw [h1] at h2
  cases h2
  exact hne rfl
theorem own_apartB {w : World} {B e size n g cap : Nat} {v : Value} {xs : List Value} {l : List Int} (h : w.ownsRow B e size v n xs) (h' : OwnB w g cap l) (hne : e ≠ 5) : ¬ v.ownBlock = some g := by
  intro hk
  obtain ⟨c1, h1⟩ := own_type h hk
  obtain ⟨cur, h2, _, _⟩ := h'.row
  rw [h1] at h2
  cases h2
  exact hne rfl
/-- slices of bytes, and what they hold -/
structure SlAt (w : World) (vs : List Value) (ds : List (List Int)) : Prop where
  len : vs.length = ds.length
  at_ : ∀ i, i < ds.length → ∃ b off c, vs[i]? = some (.slice (some ⟨b, off, none⟩) (row ds i).length c) ∧ Bytes w (some ⟨b, off, none⟩) (row ds i)
theorem SlAt.on {w w' : World} {vs : List Value} {ds : List (List Int)} (h : SlAt w vs ds) (hb : Below w.heap.size w w') : SlAt w' vs ds :=
  ⟨h.len, fun i hi => by obtain ⟨b, off, c, h1, h2⟩ := h.at_ i hi; exact ⟨b, off, c, h1, h2.on hb⟩⟩
theorem SlAt.one' {w : World} {vs : List Value} {ds : List (List Int)} (h : SlAt w vs ds) : ∀ u ∈ vs, u.oneCell' = true := by
  intro u hu
  obtain ⟨i, hi, rfl⟩ := List.mem_iff_getElem.1 hu
  obtain ⟨b, off, c, h1, _⟩ := h.at_ i (by rw [← h.len]; exact hi)
  rw [List.getElem?_eq_getElem hi] at h1
  rw [Option.some.inj h1]; rfl
theorem row_append (ds es : List (List Int)) (i : Nat) : row (ds ++ es) i = if i < ds.length then row ds i else row es (i - ds.length) := by
  unfold row
  by_cases h : i < ds.length
  · rw [if_pos h]; simp [List.getD, List.getElem?_append, h]
  · rw [if_neg h]; simp [List.getD, List.getElem?_append, h]
theorem SlAt.append {w : World} {vs us : List Value} {ds es : List (List Int)} (h : SlAt w vs ds) (k : SlAt w us es) : SlAt w (vs ++ us) (ds ++ es) := by
  refine ⟨by rw [List.length_append, List.length_append, h.len, k.len], fun i hi => ?_⟩
  rw [List.length_append] at hi
  rw [row_append]
  by_cases hlt : i < ds.length
  · rw [if_pos hlt, List.getElem?_append_left (by rw [h.len]; exact hlt)]; exact h.at_ i hlt
  · rw [if_neg hlt, List.getElem?_append_right (by rw [h.len]; omega), h.len]; exact k.at_ _ (by omega)
theorem SlAt.single {w : World} {b off c n : Nat} {l : List Int} (h : Bytes w (some ⟨b, off, none⟩) l) (hn : l.length = n) : SlAt w [.slice (some ⟨b, off, none⟩) n c] [l] :=
  ⟨rfl, fun i hi => by
    have : i = 0 := by simpa using hi
    subst this
    subst hn
    exact ⟨b, off, c, rfl, h⟩⟩
theorem SlAt.data {w : World} {g n cap : Nat} {vs : List Value} {ds : List (List Int)} (h : SlAt w vs ds) (ho : w.ownsRow 0 22 1 (.slice (some ⟨g, 0, none⟩) n cap) n vs) (hl : ds.length ≤ 1000000000000000) : Data w (some ⟨g, 0, none⟩) ds := by
  refine ⟨hl, .inr ⟨g, 0, rfl, fun i hi => ?_⟩⟩
  obtain ⟨b, off, c, h1, h2⟩ := h.at_ i hi
  refine ⟨_, c, ?_, h2, fun e => (nomatch e)⟩
  have := ho.cells (g := g) rfl i _ h1
  rw [Addr.add_lit] at this
  exact this
/-- what a slice of slices holds -/
theorem vals_of {w : World} {b off n : Nat} {ds : List (List Int)} (h : Data w (some ⟨b, off, none⟩) ds) (hn : ds.length = n) (hb : ∀ i, i < n → (row ds i).length ≠ 0) : ∃ vs, SlAt w vs ds ∧ ∀ j u, vs[j]? = some u → w.cell? ((⟨b, off, none⟩ : Addr).add j) = some u := by
  refine ⟨(List.range n).map fun i => (w.cell? ⟨b, off + i, none⟩).getD undef, ⟨by simp [hn], fun i hi => ?_⟩, fun j u hj => ?_⟩
  · obtain ⟨a', c, h1, h2, _⟩ := h.cell hi
    rcases h2.at_ with e | ⟨b', o', rfl, _⟩
    · have := hb i (by omega)
      rw [e] at this
      exact absurd rfl this
    · exact ⟨b', o', c, by simp [hn ▸ hi, h1], h2⟩
  · have hlt : j < n := by
      by_cases hlt : j < n
      · exact hlt
      · rw [List.getElem?_eq_none (by simp; omega)] at hj; cases hj
    obtain ⟨a', c, h1, _, _⟩ := h.cell (i := j) (by omega)
    rw [Addr.add_lit]
    rw [List.getElem?_map, List.getElem?_range hlt] at hj
    simp only [Option.map_some, Option.some.injEq] at hj
    rw [← hj, h1]; rfl
end Go.Proofs.Ytcjfgffkkjekoaa
