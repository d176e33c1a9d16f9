import Derived.Test.YtcjfgffkkjekoaaPlanM
import Derived.BigRegion
import Derived.Test.YtcjfgffkkjekoaaKKnownM
namespace Go.Proofs.Ytcjfgffkkjekoaa
open Go.RowKit Rec

/-- what stands behind j rounds -/
structure MadeAt (w0 wr : World) (st sd : List Int) (j : Nat) (s5 s6 : Value) : Prop where
  nums : wr.ownsRow 0 3 1 s5 j ((nsP st j).map (Value.int .i64))
  rows : ∃ vs, wr.ownsRow 0 22 1 s6 j vs ∧ SlAt wr vs (dsP sd j) ∧ ∀ u ∈ vs, ∀ k, u.ownBlock = some k → w0.heap.size ≤ k ∧ ∃ cap l, OwnB wr k cap l
  far5 : ∀ k, s5.ownBlock = some k → w0.heap.size ≤ k
  far6 : ∀ k, s6.ownBlock = some k → w0.heap.size ≤ k
  bel : Below w0.heap.size w0 wr
theorem SlAt.fr {S : Nat → Prop} {w w' : World} {vs : List Value} {ds : List (List Int)} (h : SlAt w vs ds) (x : Fr S w w') (hS : ∀ u ∈ vs, ∀ k, u.ownBlock = some k → ¬ S k) : SlAt w' vs ds := by
  refine ⟨h.len, fun i hi => ?_⟩
  obtain ⟨b, off, c, h1, h2⟩ := h.at_ i hi
  refine ⟨b, off, c, h1, h2.len, h2.wf, ?_⟩
  rcases h2.at_ with e | ⟨b', off', e, hc⟩
  · exact .inl e
  · cases e
    refine .inr ⟨b, off, rfl, fun m hm => x.cell (hc m hm) (hS _ (List.mem_of_getElem? h1) b rfl)⟩
theorem MadeAt.start {w0 : World} {st sd : List Int} : MadeAt w0 w0 st sd 0 (.slice none 0 0) (.slice none 0 0) :=
  ⟨⟨rfl, .inl ⟨rfl, rfl⟩⟩, ⟨[], ⟨rfl, .inl ⟨rfl, rfl⟩⟩, ⟨rfl, fun i hi => absurd hi (by simp [dsP])⟩, fun u hu => by simp at hu⟩, (fun k h => by cases h), (fun k h => by cases h), Below.refl _ _⟩
/-- one number more, then a block of one's own, then it too -/
structure MidAt (w0 wr : World) (st sd : List Int) (j : Nat) (s5 s6 : Value) : Prop where
  nums : wr.ownsRow 0 3 1 s5 (j + 1) ((nsP st (j + 1)).map (Value.int .i64))
  rows : ∃ vs, wr.ownsRow 0 22 1 s6 j vs ∧ SlAt wr vs (dsP sd j) ∧ ∀ u ∈ vs, ∀ k, u.ownBlock = some k → w0.heap.size ≤ k ∧ ∃ cap l, OwnB wr k cap l
  far5 : ∀ k, s5.ownBlock = some k → w0.heap.size ≤ k
  far6 : ∀ k, s6.ownBlock = some k → w0.heap.size ≤ k
  bel : Below w0.heap.size w0 wr
theorem owns_on {w w' : World} {e size n : Nat} {v : Value} {xs : List Value} (h : w.ownsRow 0 e size v n xs) (hb : Below w.heap.size w w') : w'.ownsRow 0 e size v n xs := owns_fr h (below_fr hb (fun _ => False)) (fun _ _ e => e)
theorem MidAt.on {w0 wr w' : World} {st sd : List Int} {j : Nat} {s5 s6 : Value} (h : MidAt w0 wr st sd j s5 s6) (hb : Below wr.heap.size wr w') : MidAt w0 w' st sd j s5 s6 := by
  obtain ⟨vs, h1, h2, h3⟩ := h.rows
  exact ⟨owns_on h.nums hb, ⟨vs, owns_on h1 hb, h2.on hb, fun u hu k hk => by obtain ⟨a, c, l, b⟩ := h3 u hu k hk; exact ⟨a, c, l, b.on hb⟩⟩, h.far5, h.far6, h.bel.trans (hb.mono h.bel.size)⟩
theorem MadeAt.on {w0 wr w' : World} {st sd : List Int} {j : Nat} {s5 s6 : Value} (h : MadeAt w0 wr st sd j s5 s6) (hb : Below wr.heap.size wr w') : MadeAt w0 w' st sd j s5 s6 := by
  obtain ⟨vs, h1, h2, h3⟩ := h.rows
  exact ⟨owns_on h.nums hb, ⟨vs, owns_on h1 hb, h2.on hb, fun u hu k hk => by obtain ⟨a, c, l, b⟩ := h3 u hu k hk; exact ⟨a, c, l, b.on hb⟩⟩, h.far5, h.far6, h.bel.trans (hb.mono h.bel.size)⟩
theorem MadeAt.mid {w0 wr w' : World} {st sd : List Int} {j g cap : Nat} {s5 s6 : Value} (h : MadeAt w0 wr st sd j s5 s6) (ho : w'.ownsRow 0 3 1 (.slice (some ⟨g, 0, none⟩) (j + 1) cap) (j + 1) ((nsP st (j + 1)).map (Value.int .i64))) (hf : Fr (fun k => s5.ownBlock = some k) wr w') (hg : s5.ownBlock = some g ∨ wr.heap.size ≤ g) :
    MidAt w0 w' st sd j (.slice (some ⟨g, 0, none⟩) (j + 1) cap) s6 := by
  obtain ⟨vs, h1, h2, h3⟩ := h.rows
  refine ⟨ho, ⟨vs, owns_fr h1 hf (fun k hk => own_apart h1 h.nums (by decide) k hk), h2.fr hf (fun u hu k hk => ?_), fun u hu k hk => ?_⟩, fun k hk => ?_, h.far6, h.bel.trans (hf.below _ h.far5 h.bel.size)⟩
  · obtain ⟨_, cap, l, b⟩ := h3 u hu k hk
    exact own_apartB h.nums b (by decide)
  · obtain ⟨a, cap, l, b⟩ := h3 u hu k hk
    exact ⟨a, cap, l, b.fr hf (own_apartB h.nums b (by decide))⟩
  · cases hk
    rcases hg with e | e
    · exact h.far5 _ e
    · exact Nat.le_trans h.bel.size e
theorem MidAt.next {w0 wr w' : World} {st sd : List Int} {j g cap gb c : Nat} {s5 s6 : Value} {vs : List Value} (h : MidAt w0 wr st sd j s5 s6) (hr : wr.ownsRow 0 22 1 s6 j vs) (hs : SlAt wr vs (dsP sd j)) (hv : ∀ u ∈ vs, ∀ k, u.ownBlock = some k → w0.heap.size ≤ k ∧ ∃ cap l, OwnB wr k cap l)
    (hb : OwnB wr gb c (blkP sd j)) (hbg : w0.heap.size ≤ gb)
    (ho : w'.ownsRow 0 22 1 (.slice (some ⟨g, 0, none⟩) (j + 1) cap) (j + 1) (vs ++ [.slice (some ⟨gb, 0, none⟩) 512 c])) (hf : Fr (fun k => s6.ownBlock = some k) wr w') (hg : s6.ownBlock = some g ∨ wr.heap.size ≤ g) :
    MadeAt w0 w' st sd (j + 1) s5 (.slice (some ⟨g, 0, none⟩) (j + 1) cap) := by
  have hb' : OwnB w' gb c (blkP sd j) := hb.fr hf (own_apartB hr hb (by decide))
  have hv' : ∀ u ∈ vs ++ [.slice (some ⟨gb, 0, none⟩) 512 c], ∀ k, u.ownBlock = some k → w0.heap.size ≤ k ∧ ∃ cap l, OwnB w' k cap l := by
    intro u hu k hk
    rcases List.mem_append.1 hu with e | e
    · obtain ⟨a, cap, l, b⟩ := hv u e k hk
      exact ⟨a, cap, l, b.fr hf (own_apartB hr b (by decide))⟩
    · simp at e; subst e; cases hk; exact ⟨hbg, _, _, hb'⟩
  refine ⟨owns_fr h.nums hf (fun k hk => own_apart h.nums hr (by decide) k hk), ⟨_, ho, ?_, hv'⟩, h.far5, fun k hk => ?_, h.bel.trans (hf.below _ h.far6 h.bel.size)⟩
  · rw [dsP_succ]
    refine SlAt.append (hs.fr hf (fun u hu k hk => ?_)) (SlAt.single hb'.bytes (blkP_length sd j))
    obtain ⟨_, cap, l, b⟩ := hv u hu k hk
    exact own_apartB hr b (by decide)
  · cases hk
    rcases hg with e | e
    · exact h.far6 _ e
    · exact Nat.le_trans h.bel.size e
theorem own_form {w : World} {B e size n : Nat} {v : Value} {xs : List Value} (h : w.ownsRow B e size v n xs) : ∃ a c, v = .slice a n c := by
  rcases h.2 with ⟨rfl, rfl⟩ | ⟨g, cap, cur, rfl, _⟩
  · exact ⟨_, _, rfl⟩
  · exact ⟨_, _, rfl⟩
theorem own_some {w : World} {B e size n : Nat} {v : Value} {xs : List Value} (h : w.ownsRow B e size v n xs) (hn : 0 < n) : ∃ g c, v = .slice (some ⟨g, 0, none⟩) n c := by
  rcases h.2 with ⟨rfl, rfl⟩ | ⟨g, cap, cur, rfl, _⟩
  · omega
  · exact ⟨_, _, rfl⟩
theorem own_cap {w : World} {B e size n g c : Nat} {xs : List Value} (h : w.ownsRow B e size (.slice (some ⟨g, 0, none⟩) n c) n xs) : n ≤ c := by
  rcases h.2 with ⟨e, _⟩ | ⟨g, cap, cur, e, _, _, h2, _⟩
  · cases e
  · cases e; exact h2
end Go.Proofs.Ytcjfgffkkjekoaa

namespace Go.Proofs.Ytcjfgffkkjekoaa
open Go.RowKit Rec

end Go.Proofs.Ytcjfgffkkjekoaa

namespace Go.Proofs.Ytcjfgffkkjekoaa
open Go.RowKit Rec

theorem numsL_nil_of_err {h : List Int} {n : Int} (he : numsE h n ≠ 0) : numsL h n = [] := by
  unfold numsL
  rw [if_neg]
  rintro ⟨h1, h2, h3⟩
  apply he
  unfold numsE
  rw [if_pos h1, h2, h3]; rfl
theorem numsL_some {h : List Int} {n : Int} (hl : numsL h n ≠ []) : h.length = 512 ∧ zr h 0 512 = false ∧ isH h n = true ∧ numsL h n = nsOf h ∧ 1 ≤ (nsOf h).length ∧ (nsOf h).length ≤ 96 ∧ may (nsOf h) n = true := by
  by_cases hh : h.length = 512 ∧ zr h 0 512 = false ∧ isH h n = true
  · have hf := hh.2.2
    simp only [isH, form, Bool.and_eq_true, decide_eq_true_eq] at hf
    have hlen : (nsOf h).length = cnt h := by simp [nsOf]
    refine ⟨hh.1, hh.2.1, hh.2.2, ?_, by rw [hlen]; exact hf.1.1.2.1, by rw [hlen]; exact hf.1.1.2.2, hf.1.2⟩
    unfold numsL; rw [if_pos hh]
  · unfold numsL at hl; rw [if_neg hh] at hl; exact absurd rfl hl
/-- the numbers rise -/
theorem rises (ns : List Int) (n : Int) (hm : may ns n = true) : ∀ d i, i + d < ns.length → nth ns i ≤ nth ns (i + d)
  | 0, _, _ => Int.le_refl _
  | d + 1, i, h => by
    have a := rises ns n hm d i (by omega)
    have b := (of_decide_eq_true hm) (i + d + 1) h
    simp only [pre] at b
    rw [if_neg (by omega), Nat.add_sub_cancel] at b
    show nth ns i ≤ nth ns (i + d + 1)
    omega
theorem last_big (ns : List Int) (n : Int) (hm : may ns n = true) (h : may ns 16384 = false) : 16384 ≤ nth ns (ns.length - 1) := by
  have h2 := of_decide_eq_false h
  have ⟨i, hi⟩ : ∃ i, ¬ (i < ns.length → pre ns i < nth ns i ∧ nth ns i < 16384) := Classical.not_forall.1 h2
  have ⟨hi1, hi2⟩ : i < ns.length ∧ ¬ (pre ns i < nth ns i ∧ nth ns i < 16384) := by
    constructor
    · exact Classical.byContradiction fun e => hi (fun x => absurd x e)
    · exact fun e => hi (fun _ => e)
  have h3 := (of_decide_eq_true hm) i hi1
  have h4 := rises ns n hm (ns.length - 1 - i) i (by omega)
  rw [show i + (ns.length - 1 - i) = ns.length - 1 by omega] at h4
  omega
/-- what is good is what Make makes -/
theorem once_made {h : List Int} {n : Int} {ds : List (List Int)} (hw : ∀ i, 0 ≤ nth h i ∧ nth h i < 256) (hl : numsL h n ≠ []) (hg : good h n ds = true) (hm : may (nsOf h) 16384 = true) : makeE (nsOf h) ds = 0 ∧ made (nsOf h) ds = h := by
  obtain ⟨h1, h2, h3, h4, h5, h6, h7⟩ := numsL_some hl
  simp only [good, Bool.and_eq_true, decide_eq_true_eq] at hg
  rw [h4] at hg
  have ho := one_form h n h1 hw h3
  refine ⟨by unfold makeE; rw [if_pos ⟨⟨h5, h6⟩, hm⟩, hg.1.2]; rfl, ?_⟩
  unfold made
  have e : sumV (hd (nsOf h) 0) ds = num h 12 4 := by
    rw [hg.2]
    conv => rhs; rw [ho]
    exact (sumV_hd (nsOf h) (num h 12 4) ds).symm
  rw [e]; exact ho.symm

end Go.Proofs.Ytcjfgffkkjekoaa

namespace Go.Proofs.Ytcjfgffkkjekoaa
open Go.RowKit Rec

theorem may_mono (ns : List Int) (n m : Int) (h : may ns n = true) (hl : ∀ i, i < ns.length → nth ns i < m) : may ns m = true := may_true (fun i hi => ⟨((of_decide_eq_true h) i hi).1, hl i hi⟩)
theorem may_last (ns : List Int) (n m : Int) (h : may ns n = true) (h1 : 1 ≤ ns.length) : may ns m = decide (nth ns (ns.length - 1) < m) := by
  by_cases hm : nth ns (ns.length - 1) < m
  · rw [decide_eq_true hm]
    refine may_mono ns n m h (fun i hi => ?_)
    have := rises ns n h (ns.length - 1 - i) i (by omega)
    rw [show i + (ns.length - 1 - i) = ns.length - 1 by omega] at this
    omega
  · rw [decide_eq_false hm]
    exact may_false (ns.length - 1) (by omega) (fun e => hm e.2)
/-- two in each other's places -/
def swp {α : Type} (d : α) (l : List α) : List α := (l.set 0 (l.getD (l.length - 1) d)).set (l.length - 1) (l.getD 0 d)
theorem swp_length {α : Type} (d : α) (l : List α) : (swp d l).length = l.length := by simp [swp]
theorem swp_get {α : Type} (d : α) (l : List α) (i : Nat) (hi : i < l.length) : (swp d l).getD i d = if i = l.length - 1 then l.getD 0 d else if i = 0 then l.getD (l.length - 1) d else l.getD i d := by
  unfold swp
  simp only [List.getD_eq_getElem?_getD, List.getElem?_set, List.length_set]
  by_cases h1 : i = l.length - 1
  · subst h1; rw [if_pos rfl, if_pos rfl, if_pos (by omega)]; rfl
  · rw [if_neg (fun e => h1 e.symm), if_neg h1]
    by_cases h0 : i = 0
    · subst h0; simp [hi]
    · rw [if_neg (fun e => h0 e.symm), if_neg h0]
theorem blk_swp (ds : List (List Int)) (k : Nat) (h : blk ds k = true) : blk (swp [] ds) k = true := by
  simp only [blk, Bool.and_eq_true, decide_eq_true_eq] at h ⊢
  refine ⟨by rw [swp_length]; exact h.1, (mem_row _).2 fun i hi => ?_⟩
  rw [swp_length] at hi
  have hr := (mem_row ds).1 h.2
  show ((swp [] ds).getD i []).length = 512
  rw [swp_get _ _ _ hi]
  split
  · exact hr 0 (by omega)
  · split
    · exact hr _ (by omega)
    · exact hr i hi
theorem hd_inj (ns : List Int) (s t : Int) (hs : 0 ≤ s ∧ s < 4294967296) (ht : 0 ≤ t ∧ t < 4294967296) : hd ns s = hd ns t ↔ s = t := by
  constructor
  · intro e; rw [← num_sum ns s hs, e, num_sum ns t ht]
  · intro e; rw [e]
theorem made_inj (ns : List Int) (ds es : List (List Int)) : made ns ds = made ns es ↔ sumV (hd ns 0) ds = sumV (hd ns 0) es := hd_inj ns _ _ (sumV_bd _ _) (sumV_bd _ _)
theorem made_length (ns : List Int) (ds : List (List Int)) : (made ns ds).length = 512 := hd_length _ _
theorem made_bd (ns : List Int) (ds : List (List Int)) : ∀ i, 0 ≤ nth (made ns ds) i ∧ nth (made ns ds) i < 256 := hd_bd _ _
theorem str_ne {a b : List Int} (ha : ∀ i, 0 ≤ nth a i ∧ nth a i < 256) (hb : ∀ i, 0 ≤ nth b i ∧ nth b i < 256) (h : a ≠ b) : ¬ (strOfNums a).toList = (strOfNums b).toList := fun e => h (by
  have := bytes_of_list e
  rw [← sb_str ha, this, sb_str hb])
/-- the swap in memory -/
theorem SlAt.swp {w : World} {vs : List Value} {ds : List (List Int)} (h : SlAt w vs ds) (h0 : 0 < ds.length) : SlAt w (swp undef vs) (swp [] ds) := by
  refine ⟨by rw [swp_length, swp_length, h.len], fun i hi => ?_⟩
  rw [swp_length] at hi
  have e1 : row (Go.Proofs.Ytcjfgffkkjekoaa.swp [] ds) i = if i = ds.length - 1 then row ds 0 else if i = 0 then row ds (ds.length - 1) else row ds i := swp_get _ _ _ hi
  have hv : i < (Go.Proofs.Ytcjfgffkkjekoaa.swp undef vs).length := by rw [swp_length, h.len]; exact hi
  have e2 : (Go.Proofs.Ytcjfgffkkjekoaa.swp undef vs)[i]? = some ((Go.Proofs.Ytcjfgffkkjekoaa.swp undef vs).getD i undef) := by
    rw [List.getElem?_eq_getElem hv, List.getD_eq_getElem?_getD, List.getElem?_eq_getElem hv]; rfl
  rw [e1, e2, swp_get _ _ _ (by rw [h.len]; exact hi), h.len]
  have get : ∀ m, m < ds.length → ∃ b off c, vs.getD m undef = .slice (some ⟨b, off, none⟩) (row ds m).length c ∧ Bytes w (some ⟨b, off, none⟩) (row ds m) := fun m hm => by
    obtain ⟨b, off, c, h1, h2⟩ := h.at_ m hm
    exact ⟨b, off, c, by rw [List.getD_eq_getElem?_getD, h1]; rfl, h2⟩
  split
  · obtain ⟨b, off, c, h1, h2⟩ := get 0 h0
    exact ⟨b, off, c, by rw [h1], h2⟩
  · split
    · obtain ⟨b, off, c, h1, h2⟩ := get (ds.length - 1) (by omega)
      exact ⟨b, off, c, by rw [h1], h2⟩
    · obtain ⟨b, off, c, h1, h2⟩ := get i hi
      exact ⟨b, off, c, by rw [h1], h2⟩
/-- all but the first -/
theorem Data.tail {w : World} {b off : Nat} {ds : List (List Int)} (h : Data w (Option.some ⟨b, off, none⟩) ds) : Data w (Option.some ⟨b, off + 1, none⟩) (ds.drop 1) := by
  refine ⟨by have := h.len; rw [List.length_drop]; omega, .inr ⟨b, off + 1, rfl, fun i hi => ?_⟩⟩
  rw [List.length_drop] at hi
  have e : row (ds.drop 1) i = row ds (i + 1) := by simp [row, List.getD]
  rw [e]
  have := h.cell (i := i + 1) (by omega)
  rw [show off + 1 + i = off + (i + 1) by omega]
  exact this
/-- 'append([][]byte{}, x...)' -/
theorem wp_scopyG {ops : Array Oper} {rest : List Oper} {o : Oper} {a : Act} {Q : Exit → Act → World → Prop} {w7 : World} (hgd : Region.wanted o (yielded ops a.tmps) = true) (s x : Operand)
    (ho : o.op = .call { callee := .builtin .append, args := #[s, x], argTypes := #[30, 30] }) (hs : a.eval s = .slice (some ⟨w7.heap.size, 0, none⟩) 0 0)
    (ad : Addr) (m c : Nat) (y : List Value) (hx : a.eval x = .slice (some ad) m c) (hm : 0 < m) (hl : y.length = m) (hb : ∀ j u, y[j]? = some u → w7.cell? (ad.add j) = some u) (h1c : ∀ u ∈ y, u.oneCell' = true) (h47 : m ≤ 5864062014805)
    (h : ∀ g cap w', w'.ownsRow 0 22 1 (.slice (some ⟨g, 0, none⟩) m cap) m y → Below w7.heap.size w7 w' → w7.heap.size ≤ g → wpList Try.prog ops Q rest (a.put o.dst (.slice (some ⟨g, 0, none⟩) m cap)) w') :
    wpList Try.prog ops Q (o :: rest) a (w7.alloc (.cells #[] 22)) := by
  have hA : Below w7.heap.size w7 (w7.alloc (.cells #[] 22)) := (Below.refl _ _).alloc (Nat.le_refl _) _
  refine wp_sownG hgd s x ho _ 0 [] hs ⟨rfl, .inr ⟨_, _, _, rfl, Nat.zero_le _, heap_alloc_new _ _, Nat.le_refl _, by unfold maxLen; omega, rfl, rfl⟩⟩ ad m c y hx hm hl (fun j u hj => (hA.cell (block_lt_of_cell (hb j u hj))).trans (hb j u hj)) h1c (by omega) ?_
  intro g cap w' ho' hf hg
  rw [Nat.zero_add] at ho' ⊢
  refine h g cap w' ho' (hA.trans (hf.below _ (fun k hk => ?_) hA.size)) ?_
  · cases hk; exact Nat.le_refl _
  · rcases hg with e | e
    · cases e; exact Nat.le_refl _
    · exact Nat.le_trans hA.size e
theorem want_none {ops : Array Oper} {o : Oper} {a : Act} (h : o.guard = none) : Region.wanted o (yielded ops a.tmps) = true := by simp [Region.wanted, h]
/-- one slice more -/
theorem news1 (w : World) (v : Value) : ∀ j u, [v][j]? = some u → (w.alloc (.cells #[v] 22)).cell? ((⟨w.heap.size, 0, none⟩ : Addr).add j) = some u := fun m u hm => by
  have : m = 0 := by
    by_cases h : m = 0
    · exact h
    · rw [List.getElem?_eq_none (by simp; omega)] at hm; cases hm
  subst this
  cases hm
  rw [Addr.add_lit, cell_of_row _ _ _ _ _ _ (heap_alloc_new _ _)]; rfl
theorem setCell_again {w : World} {g k : Nat} {u v : Value} {e n cap : Nat} {xs : List Value} (h : w.ownsRow 0 e 1 (.slice (some ⟨g, 0, none⟩) n cap) n xs) (h0 : xs[0]? = some u) (hk : xs[k]? = some v) :
    (w.setCell ⟨g, 0, none⟩ v).cell? ⟨g, k, none⟩ = some v ∧ (w.setCell ⟨g, 0, none⟩ v).frozen? ⟨g, k, none⟩ = false := by
  have h' := owns_set h 0 v
  have hl : 0 < xs.length := (List.getElem?_eq_some_iff.1 h0).1
  have hc : (xs.set 0 v)[k]? = some v := by
    rw [List.getElem?_set]
    by_cases e : 0 = k
    · rw [if_pos e, if_pos (by omega)]
    · rw [if_neg e]; exact hk
  have := h'.cells (g := g) rfl k v hc
  rw [Addr.add_lit, Nat.zero_add] at this
  refine ⟨this, ?_⟩
  obtain ⟨cur, hg⟩ := own_type h' (k := g) rfl
  exact frozen_of_row _ _ _ _ _ hg
/-- 'append(x, b)' of a block -/
theorem wp_more {ops : Array Oper} {rest : List Oper} {o : Oper} {a : Act} {Q : Exit → Act → World → Prop} {w6 w9 : World} (hgd : Region.wanted o (yielded ops a.tmps) = true) (s x : Operand)
    (ho : o.op = .call { callee := .builtin .append, args := #[s, x], argTypes := #[30, 30] }) (g8 K cap8 g9 : Nat) (vs : List Value) (ds : List (List Int)) (l : List Int) (hs : a.eval s = .slice (some ⟨g8, 0, none⟩) K cap8) (hx : a.eval x = .slice (some ⟨w9.heap.size, 0, none⟩) 1 1)
    (hown : w9.ownsRow 0 22 1 (.slice (some ⟨g8, 0, none⟩) K cap8) K vs) (hB : OwnB w9 g9 512 l) (hl : l.length = 512) (hS : SlAt w6 vs ds) (hb : Below w6.heap.size w6 w9) (hg8 : w6.heap.size ≤ g8) (hdl : ds.length = K) (hK : K ≤ 1000)
    (h : ∀ g cap w', Data w' (some ⟨g, 0, none⟩) (ds ++ [l]) → Below w6.heap.size w6 w' → wpList Try.prog ops Q rest (a.put o.dst (.slice (some ⟨g, 0, none⟩) (K + 1) cap)) w') :
    wpList Try.prog ops Q (o :: rest) a (w9.alloc (.cells #[.slice (some ⟨g9, 0, none⟩) 512 512] 22)) := by
  have hA : Below w9.heap.size w9 (w9.alloc (.cells #[.slice (some ⟨g9, 0, none⟩) 512 512] 22)) := (Below.refl _ _).alloc (Nat.le_refl _) _
  have hown' := owns_on hown hA
  have hB' := hB.on hA
  refine wp_sownG hgd s x ho _ K vs hs hown' ⟨w9.heap.size, 0, none⟩ 1 1 [.slice (some ⟨g9, 0, none⟩) 512 512] hx (by omega) rfl (news1 w9 _) (fun u hu => ?_) (by omega) ?_
  · simp at hu; subst hu; rfl
  intro g cap w' ho' hf hg
  have b1 := hb.trans (hA.mono hb.size)
  have b2 := b1.trans (hf.below w6.heap.size (fun k hk => by cases hk; exact hg8) b1.size)
  have s1 : OwnB w' g9 512 l := hB'.fr hf (own_apartB hown' hB' (by decide))
  exact h g cap w' (((hS.on b2).append (SlAt.single s1.bytes hl)).data ho' (by rw [List.length_append, hdl]; simp; omega)) b2
/-- the two stores of an exchange -/
theorem swapped {w : World} {g k K cap : Nat} {u v : Value} {vs : List Value} (h : w.ownsRow 0 22 1 (.slice (some ⟨g, 0, none⟩) K cap) K vs) (h0 : vs[0]? = some u) (hk : vs[k]? = some v) (hkK : k = K - 1) (hl : vs.length = K) :
    (((w.setCell ⟨g, 0, none⟩ v).setCell ⟨g, k, none⟩ u).drew).ownsRow 0 22 1 (.slice (some ⟨g, 0, none⟩) K cap) K (Go.Proofs.Ytcjfgffkkjekoaa.swp undef vs) := by
  have h2 := owns_set (owns_set h 0 v) k u
  have e : (vs.set 0 v).set k u = Go.Proofs.Ytcjfgffkkjekoaa.swp undef vs := by
    unfold Go.Proofs.Ytcjfgffkkjekoaa.swp
    rw [List.getD_eq_getElem?_getD, List.getD_eq_getElem?_getD, hl, ← hkK, h0, hk]; rfl
  rw [e] at h2
  exact owns_on h2 ((Below.refl _ _).drew)
theorem swapped_below {w w6 : World} {g k : Nat} {u v : Value} (hb : Below w6.heap.size w6 w) (hg : w6.heap.size ≤ g) : Below w6.heap.size w6 ((w.setCell ⟨g, 0, none⟩ v).setCell ⟨g, k, none⟩ u).drew := by
  have b1 := hb.trans (Fr.below (Fr.set (w := w) (g := g) (k := 0) (v := v)) w6.heap.size (fun i hi => by rw [hi]; exact hg) hb.size)
  have b2 := b1.trans (Fr.below (Fr.set (w := w.setCell ⟨g, 0, none⟩ v) (g := g) (k := k) (v := u)) w6.heap.size (fun i hi => by rw [hi]; exact hg) b1.size)
  exact b2.drew
end Go.Proofs.Ytcjfgffkkjekoaa

namespace Go.Proofs.Ytcjfgffkkjekoaa
open Go.RowKit Rec

/-- numbers and blocks that may be -/
structure Fit (ns : List Int) (ds : List (List Int)) (K : Nat) : Prop where
  nl : ns.length = K
  dl : ds.length = K
  k1 : 1 ≤ K
  k96 : K ≤ 96
  may : may ns 16384 = true
  rows : ∀ i, i < K → (row ds i).length = 512
theorem Fit.blk {ns : List Int} {ds : List (List Int)} {K : Nat} (h : Fit ns ds K) : Go.Proofs.Ytcjfgffkkjekoaa.blk ds K = true := by
  unfold Go.Proofs.Ytcjfgffkkjekoaa.blk
  rw [decide_eq_true h.dl, decide_eq_true ((mem_row _).2 (fun i hi => h.rows i (by rw [← h.dl]; exact hi)))]; rfl
theorem plan_fit (st sd : List Int) : Fit (planN st) (planD st sd) (planN st).length := by
  have h := plan_len st sd
  exact ⟨rfl, h.1, h.2.1, h.2.2, plan_may st, fun i hi => plan_rows st sd i (by rw [h.1]; exact hi)⟩
theorem Fit.goodE {ns : List Int} {ds : List (List Int)} {K : Nat} (h : Fit ns ds K) (n : Int) (es : List (List Int)) : good (made ns ds) n es = (decide (nth ns (K - 1) < n) && Go.Proofs.Ytcjfgffkkjekoaa.blk es K && decide (made ns ds = made ns es)) := by
  rw [good_made ns ds es n (by rw [h.nl]; exact h.k1) (by rw [h.nl]; exact h.k96) h.may, may_last ns 16384 n h.may (by rw [h.nl]; exact h.k1), h.nl]
  rw [show decide (sumV (hd ns 0) ds = sumV (hd ns 0) es) = decide (made ns ds = made ns es) from decide_eq_decide.2 (made_inj ns ds es).symm]
theorem Fit.numsE {ns : List Int} {ds : List (List Int)} {K : Nat} (h : Fit ns ds K) (n : Int) : Go.Proofs.Ytcjfgffkkjekoaa.numsE (made ns ds) n = if nth ns (K - 1) < n then 0 else 41 := by
  unfold made
  rw [numsE_hd ns _ n (by rw [h.nl]; exact h.k1) (by rw [h.nl]; exact h.k96) (fun i hi => by have := pre_bd ns _ h.may i hi; omega), may_last ns 16384 n h.may (by rw [h.nl]; exact h.k1), h.nl]
  by_cases e : nth ns (K - 1) < n
  · rw [decide_eq_true e, if_pos rfl, if_pos e]
  · rw [decide_eq_false e, if_neg e]; rfl
theorem Fit.numsL {ns : List Int} {ds : List (List Int)} {K : Nat} (h : Fit ns ds K) (n : Int) : Go.Proofs.Ytcjfgffkkjekoaa.numsL (made ns ds) n = if nth ns (K - 1) < n then ns else [] := by
  unfold made
  rw [numsL_hd ns _ n (by rw [h.nl]; exact h.k1) (by rw [h.nl]; exact h.k96) (fun i hi => by have := pre_bd ns _ h.may i hi; omega), may_last ns 16384 n h.may (by rw [h.nl]; exact h.k1), h.nl]
  by_cases e : nth ns (K - 1) < n
  · rw [decide_eq_true e, if_pos rfl, if_pos e]
  · rw [decide_eq_false e, if_neg e]; rfl
end Go.Proofs.Ytcjfgffkkjekoaa
