import Derived.Test.YtpheajiepnjhdaaDoorSame
import Derived.Test.YtpheajiepnjhdaaDoorOnce
namespace Go.Proofs.YtpheajiepnjhdaaDoor
open Go.RowKit Rec

theorem may_mono (ns : List Int) (n m : Int) (h : may ns n = true) (hl : ∀ i, i < ns.length → nth ns i < m) : may ns m = true := may_true (fun i hi => ⟨((of_decide_eq_true h) i hi).1, hl i hi⟩)
theorem may_last (ns : List Int) (n m : Int) (h : may ns n = true) (h1 : 1 ≤ ns.length) : may ns m = decide (nth ns (ns.length - 1) < m) := by
  by_cases hm : nth ns (ns.length - 1) < m
  · rw [decide_eq_true hm]
    refine may_mono ns n m h (fun i hi => ?_)
    have := rises ns n h (ns.length - 1 - i) i (by omega)
    rw [show i + (ns.length - 1 - i) = ns.length - 1 by omega] at this
    omega
  · rw [decide_eq_false hm]
    exact may_false (ns.length - 1) (by omega) (fun e => hm e.2)
/-- two in each other's places -/
def swp {α : Type} (d : α) (l : List α) : List α := (l.set 0 (l.getD (l.length - 1) d)).set (l.length - 1) (l.getD 0 d)
theorem swp_length {α : Type} (d : α) (l : List α) : (swp d l).length = l.length := by simp [swp]
theorem swp_get {α : Type} (d : α) (l : List α) (i : Nat) (hi : i < l.length) : (swp d l).getD i d = if i = l.length - 1 then l.getD 0 d else if i = 0 then l.getD (l.length - 1) d else l.getD i d := by
  unfold swp
  simp only [List.getD_eq_getElem?_getD, List.getElem?_set, List.length_set]
  by_cases h1 : i = l.length - 1
  · subst h1; rw [if_pos rfl, if_pos rfl, if_pos (by omega)]; rfl
  · rw [if_neg (fun e => h1 e.symm), if_neg h1]
    by_cases h0 : i = 0
    · subst h0; simp [hi]
    · rw [if_neg (fun e => h0 e.symm), if_neg h0]
theorem blk_swp (ds : List (List Int)) (k : Nat) (h : blk ds k = true) : blk (swp [] ds) k = true := by
  simp only [blk, Bool.and_eq_true, decide_eq_true_eq] at h ⊢
  refine ⟨by rw [swp_length]; exact h.1, (mem_row _).2 fun i hi => ?_⟩
  rw [swp_length] at hi
  have hr := (mem_row ds).1 h.2
  show ((swp [] ds).getD i []).length = 512
  rw [swp_get _ _ _ hi]
  split
  · exact hr 0 (by omega)
  · split
    · exact hr _ (by omega)
    · exact hr i hi
theorem hd_inj (ns : List Int) (s t : Int) (hs : 0 ≤ s ∧ s < 4294967296) (ht : 0 ≤ t ∧ t < 4294967296) : hd ns s = hd ns t ↔ s = t := by
  constructor
  · intro e; rw [← num_sum ns s hs, e, num_sum ns t ht]
  · intro e; rw [e]
theorem made_inj (ns : List Int) (ds es : List (List Int)) : made ns ds = made ns es ↔ sumV (hd ns 0) ds = sumV (hd ns 0) es := hd_inj ns _ _ (sumV_bd _ _) (sumV_bd _ _)
theorem made_length (ns : List Int) (ds : List (List Int)) : (made ns ds).length = 512 := hd_length _ _
theorem made_bd (ns : List Int) (ds : List (List Int)) : ∀ i, 0 ≤ nth (made ns ds) i ∧ nth (made ns ds) i < 256 := hd_bd _ _
theorem str_ne {a b : List Int} (ha : ∀ i, 0 ≤ nth a i ∧ nth a i < 256) (hb : ∀ i, 0 ≤ nth b i ∧ nth b i < 256) (h : a ≠ b) : ¬ (strOfNums a).toList = (strOfNums b).toList := fun e => h (by
  have := bytes_of_list e
  rw [← sb_str ha, this, sb_str hb])
/-- the swap in memory -/
theorem SlAt.swp {w : World} {vs : List Value} {ds : List (List Int)} (h : SlAt w vs ds) (h0 : 0 < ds.length) : SlAt w (swp undef vs) (swp [] ds) := by
  refine ⟨by rw [swp_length, swp_length, h.len], fun i hi => ?_⟩
  rw [swp_length] at hi
  have e1 : row (Go.Proofs.YtpheajiepnjhdaaDoor.swp [] ds) i = if i = ds.length - 1 then row ds 0 else if i = 0 then row ds (ds.length - 1) else row ds i := swp_get _ _ _ hi
  have hv : i < (Go.Proofs.YtpheajiepnjhdaaDoor.swp undef vs).length := by rw [swp_length, h.len]; exact hi
  have e2 : (Go.Proofs.YtpheajiepnjhdaaDoor.swp undef vs)[i]? = some ((Go.Proofs.YtpheajiepnjhdaaDoor.swp undef vs).getD i undef) := by
    rw [List.getElem?_eq_getElem hv, List.getD_eq_getElem?_getD, List.getElem?_eq_getElem hv]; rfl
  rw [e1, e2, swp_get _ _ _ (by rw [h.len]; exact hi), h.len]
  have get : ∀ m, m < ds.length → ∃ b off c, vs.getD m undef = .slice (some ⟨b, off, none⟩) (row ds m).length c ∧ Bytes w (some ⟨b, off, none⟩) (row ds m) := fun m hm => by
    obtain ⟨b, off, c, h1, h2⟩ := h.at_ m hm
    exact ⟨b, off, c, by rw [List.getD_eq_getElem?_getD, h1]; rfl, h2⟩
  split
  · obtain ⟨b, off, c, h1, h2⟩ := get 0 h0
    exact ⟨b, off, c, by rw [h1], h2⟩
  · split
    · obtain ⟨b, off, c, h1, h2⟩ := get (ds.length - 1) (by omega)
      exact ⟨b, off, c, by rw [h1], h2⟩
    · obtain ⟨b, off, c, h1, h2⟩ := get i hi
      exact ⟨b, off, c, by rw [h1], h2⟩
/-- all but the first -/
theorem Data.tail {w : World} {b off : Nat} {ds : List (List Int)} (h : Data w (Option.some ⟨b, off, none⟩) ds) : Data w (Option.some ⟨b, off + 1, none⟩) (ds.drop 1) := by
  refine ⟨by have := h.len; rw [List.length_drop]; omega, .inr ⟨b, off + 1, rfl, fun i hi => ?_⟩⟩
  rw [List.length_drop] at hi
  have e : row (ds.drop 1) i = row ds (i + 1) := by simp [row, List.getD]
  rw [e]
  have := h.cell (i := i + 1) (by omega)
  rw [show off + 1 + i = off + (i + 1) by omega]
  exact this
/-- 'append([][]byte{}, x...)' -/
theorem wp_scopyG {ops : Array Oper} {rest : List Oper} {o : Oper} {a : Act} {Q : Exit → Act → World → Prop} {w7 : World} (hgd : Region.wanted o (yielded ops a.tmps) = true) (s x : Operand)
    (ho : o.op = .call { callee := .builtin .append, args := #[s, x], argTypes := #[27, 27] }) (hs : a.eval s = .slice (some ⟨w7.heap.size, 0, none⟩) 0 0)
    (ad : Addr) (m c : Nat) (y : List Value) (hx : a.eval x = .slice (some ad) m c) (hm : 0 < m) (hl : y.length = m) (hb : ∀ j u, y[j]? = some u → w7.cell? (ad.add j) = some u) (h1c : ∀ u ∈ y, u.oneCell' = true) (h47 : m ≤ 5864062014805)
    (h : ∀ g cap w', w'.ownsRow 0 23 1 (.slice (some ⟨g, 0, none⟩) m cap) m y → Below w7.heap.size w7 w' → w7.heap.size ≤ g → wpList Tryd.prog ops Q rest (a.put o.dst (.slice (some ⟨g, 0, none⟩) m cap)) w') :
    wpList Tryd.prog ops Q (o :: rest) a (w7.alloc (.cells #[] 23)) := by
  have hA : Below w7.heap.size w7 (w7.alloc (.cells #[] 23)) := (Below.refl _ _).alloc (Nat.le_refl _) _
  refine wp_sownG hgd s x ho _ 0 [] hs ⟨rfl, .inr ⟨_, _, _, rfl, Nat.zero_le _, heap_alloc_new _ _, Nat.le_refl _, by unfold maxLen; omega, rfl, rfl⟩⟩ ad m c y hx hm hl (fun j u hj => (hA.cell (block_lt_of_cell (hb j u hj))).trans (hb j u hj)) h1c (by omega) ?_
  intro g cap w' ho' hf hg
  rw [Nat.zero_add] at ho' ⊢
  refine h g cap w' ho' (hA.trans (hf.below _ (fun k hk => ?_) hA.size)) ?_
  · cases hk; exact Nat.le_refl _
  · rcases hg with e | e
    · cases e; exact Nat.le_refl _
    · exact Nat.le_trans hA.size e
theorem want_none {ops : Array Oper} {o : Oper} {a : Act} (h : o.guard = none) : Region.wanted o (yielded ops a.tmps) = true := by simp [Region.wanted, h]
/-- one slice more -/
theorem news1 (w : World) (v : Value) : ∀ j u, [v][j]? = some u → (w.alloc (.cells #[v] 23)).cell? ((⟨w.heap.size, 0, none⟩ : Addr).add j) = some u := fun m u hm => by
  have : m = 0 := by
    by_cases h : m = 0
    · exact h
    · rw [List.getElem?_eq_none (by simp; omega)] at hm; cases hm
  subst this
  cases hm
  rw [Addr.add_lit, cell_of_row _ _ _ _ _ _ (heap_alloc_new _ _)]; rfl
theorem setCell_again {w : World} {g k : Nat} {u v : Value} {e n cap : Nat} {xs : List Value} (h : w.ownsRow 0 e 1 (.slice (some ⟨g, 0, none⟩) n cap) n xs) (h0 : xs[0]? = some u) (hk : xs[k]? = some v) :
    (w.setCell ⟨g, 0, none⟩ v).cell? ⟨g, k, none⟩ = some v ∧ (w.setCell ⟨g, 0, none⟩ v).frozen? ⟨g, k, none⟩ = false := by
  have h' := owns_set h 0 v
  have hl : 0 < xs.length := (List.getElem?_eq_some_iff.1 h0).1
  have hc : (xs.set 0 v)[k]? = some v := by
    rw [List.getElem?_set]
    by_cases e : 0 = k
    · rw [if_pos e, if_pos (by omega)]
    · rw [if_neg e]; exact hk
  have := h'.cells (g := g) rfl k v hc
  rw [Addr.add_lit, Nat.zero_add] at this
  refine ⟨this, ?_⟩
  obtain ⟨cur, hg⟩ := own_type h' (k := g) rfl
  exact frozen_of_row _ _ _ _ _ hg
/-- 'append(x, b)' of a block -/
theorem wp_more {ops : Array Oper} {rest : List Oper} {o : Oper} {a : Act} {Q : Exit → Act → World → Prop} {w6 w9 : World} (hgd : Region.wanted o (yielded ops a.tmps) = true) (s x : Operand)
    (ho : o.op = .call { callee := .builtin .append, args := #[s, x], argTypes := #[27, 27] }) (g8 K cap8 g9 : Nat) (vs : List Value) (ds : List (List Int)) (l : List Int) (hs : a.eval s = .slice (some ⟨g8, 0, none⟩) K cap8) (hx : a.eval x = .slice (some ⟨w9.heap.size, 0, none⟩) 1 1)
    (hown : w9.ownsRow 0 23 1 (.slice (some ⟨g8, 0, none⟩) K cap8) K vs) (hB : OwnB w9 g9 512 l) (hl : l.length = 512) (hS : SlAt w6 vs ds) (hb : Below w6.heap.size w6 w9) (hg8 : w6.heap.size ≤ g8) (hdl : ds.length = K) (hK : K ≤ 1000)
    (h : ∀ g cap w', Data w' (some ⟨g, 0, none⟩) (ds ++ [l]) → Below w6.heap.size w6 w' → wpList Tryd.prog ops Q rest (a.put o.dst (.slice (some ⟨g, 0, none⟩) (K + 1) cap)) w') :
    wpList Tryd.prog ops Q (o :: rest) a (w9.alloc (.cells #[.slice (some ⟨g9, 0, none⟩) 512 512] 23)) := by
  have hA : Below w9.heap.size w9 (w9.alloc (.cells #[.slice (some ⟨g9, 0, none⟩) 512 512] 23)) := (Below.refl _ _).alloc (Nat.le_refl _) _
  have hown' := owns_on hown hA
  have hB' := hB.on hA
  refine wp_sownG hgd s x ho _ K vs hs hown' ⟨w9.heap.size, 0, none⟩ 1 1 [.slice (some ⟨g9, 0, none⟩) 512 512] hx (by omega) rfl (news1 w9 _) (fun u hu => ?_) (by omega) ?_
  · simp at hu; subst hu; rfl
  intro g cap w' ho' hf hg
  have b1 := hb.trans (hA.mono hb.size)
  have b2 := b1.trans (hf.below w6.heap.size (fun k hk => by cases hk; exact hg8) b1.size)
  have s1 : OwnB w' g9 512 l := hB'.fr hf (own_apartB hown' hB' (by decide))
  exact h g cap w' (((hS.on b2).append (SlAt.single s1.bytes hl)).data ho' (by rw [List.length_append, hdl]; simp; omega)) b2
/-- the two stores of an exchange -/
theorem swapped {w : World} {g k K cap : Nat} {u v : Value} {vs : List Value} (h : w.ownsRow 0 23 1 (.slice (some ⟨g, 0, none⟩) K cap) K vs) (h0 : vs[0]? = some u) (hk : vs[k]? = some v) (hkK : k = K - 1) (hl : vs.length = K) :
    (((w.setCell ⟨g, 0, none⟩ v).setCell ⟨g, k, none⟩ u).drew).ownsRow 0 23 1 (.slice (some ⟨g, 0, none⟩) K cap) K (Go.Proofs.YtpheajiepnjhdaaDoor.swp undef vs) := by
  have h2 := owns_set (owns_set h 0 v) k u
  have e : (vs.set 0 v).set k u = Go.Proofs.YtpheajiepnjhdaaDoor.swp undef vs := by
    unfold Go.Proofs.YtpheajiepnjhdaaDoor.swp
    rw [List.getD_eq_getElem?_getD, List.getD_eq_getElem?_getD, hl, ← hkK, h0, hk]; rfl
  rw [e] at h2
  exact owns_on h2 ((Below.refl _ _).drew)
theorem swapped_below {w w6 : World} {g k : Nat} {u v : Value} (hb : Below w6.heap.size w6 w) (hg : w6.heap.size ≤ g) : Below w6.heap.size w6 ((w.setCell ⟨g, 0, none⟩ v).setCell ⟨g, k, none⟩ u).drew := by
  have b1 := hb.trans (Fr.below (Fr.set (w := w) (g := g) (k := 0) (v := v)) w6.heap.size (fun i hi => by rw [hi]; exact hg) hb.size)
  have b2 := b1.trans (Fr.below (Fr.set (w := w.setCell ⟨g, 0, none⟩ v) (g := g) (k := k) (v := u)) w6.heap.size (fun i hi => by rw [hi]; exact hg) b1.size)
  exact b2.drew
end Go.Proofs.YtpheajiepnjhdaaDoor
