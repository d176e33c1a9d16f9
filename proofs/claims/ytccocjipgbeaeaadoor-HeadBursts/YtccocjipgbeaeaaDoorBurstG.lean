import Derived.Test.YtccocjipgbeaeaaDoorBurstF
namespace Go.Proofs.YtccocjipgbeaeaaDoor
open Go.RowKit Rec
open Crc (W)

/-- 'append([]byte{}, x...)' -/
theorem wp_bcopy {ops : Array Oper} {rest : List Oper} {o : Oper} {a : Act} {Q : Exit → Act → World → Prop} {w7 : World} (hgd : o.guard = none) (s x : Operand)
    (ho : o.op = .call { callee := .builtin .append, args := #[s, x], argTypes := #[22, 22] }) (hs : a.eval s = .slice (some ⟨w7.heap.size, 0, none⟩) 0 0)
    (ad : Addr) (m c : Nat) (y : List Int) (hx : a.eval x = .slice (some ad) m c) (hl : y.length = m) (hb : Bytes w7 (some ad) y) (h47 : m ≤ 140737488355328)
    (h : ∀ g cap w', OwnB w' g cap y → Below w7.heap.size w7 w' → w7.heap.size ≤ g → m ≤ cap → wpList Tryd.prog ops Q rest (a.put o.dst (.slice (some ⟨g, 0, none⟩) m cap)) w') :
    wpList Tryd.prog ops Q (o :: rest) a (w7.alloc (.cells #[] 5)) := by
  have hA : Below w7.heap.size w7 (w7.alloc (.cells #[] 5)) := (Below.refl _ _).alloc (Nat.le_refl _) _
  have hE : OwnB (w7.alloc (.cells #[] 5)) w7.heap.size 0 [] := own_empty (heap_alloc_new _ _)
  refine wp_app hgd s x ho w7.heap.size w7.heap.size 0 0 [] y rfl hs hE (Nat.le_refl _) hA.size (some ad) m c hx hl (hb.on hA) (fun h => by cases h) (by omega) ?_
  intro g cap w2 hg ho' hgr
  rw [List.nil_append] at ho'
  rw [Nat.zero_add]
  exact h g cap w2 ho' (hA.grown hgr hA.size (by intro k hk; cases hk; exact Nat.le_refl _)) hg (by have := ho'.room; omega)
/-- 'append([][]byte{v}, x...)' -/
theorem wp_rows {ops : Array Oper} {rest : List Oper} {o : Oper} {a : Act} {Q : Exit → Act → World → Prop} {w9 : World} (hgd : o.guard = none) (s x : Operand)
    (ho : o.op = .call { callee := .builtin .append, args := #[s, x], argTypes := #[23, 23] }) (K gh ch dg dcap : Nat) (vs : List Value) (ds : List (List Int)) (l : List Int) (hs : a.eval s = .slice (some ⟨w9.heap.size, 0, none⟩) 1 1) (hx : a.eval x = .slice (some ⟨dg, 0, none⟩) K dcap)
    (hB : OwnB w9 gh ch l) (hl : l.length = 512) (hS : SlAt w9 vs ds) (hvl : vs.length = K) (hc : ∀ j u, vs[j]? = some u → w9.cell? ((⟨dg, 0, none⟩ : Addr).add j) = some u) (hK1 : 0 < K) (hK : K ≤ 1000)
    (h : ∀ g cap w', w'.ownsRow 0 22 1 (.slice (some ⟨g, 0, none⟩) (1 + K) cap) (1 + K) (.slice (some ⟨gh, 0, none⟩) 512 ch :: vs) → SlAt w' (.slice (some ⟨gh, 0, none⟩) 512 ch :: vs) (l :: ds) → Below w9.heap.size w9 w' → w9.heap.size ≤ g → 1 + K ≤ cap → wpList Tryd.prog ops Q rest (a.put o.dst (.slice (some ⟨g, 0, none⟩) (1 + K) cap)) w') :
    wpList Tryd.prog ops Q (o :: rest) a (w9.alloc (.cells #[.slice (some ⟨gh, 0, none⟩) 512 ch] 22)) := by
  have hA : Below w9.heap.size w9 (w9.alloc (.cells #[.slice (some ⟨gh, 0, none⟩) 512 ch] 22)) := (Below.refl _ _).alloc (Nat.le_refl _) _
  refine wp_sown hgd s x ho _ 1 [.slice (some ⟨gh, 0, none⟩) 512 ch] hs ⟨rfl, .inr ⟨_, _, _, rfl, Nat.zero_le _, heap_alloc_new _ _, Nat.le_refl _, by unfold maxLen; omega, rfl, rfl⟩⟩ ⟨dg, 0, none⟩ K dcap vs hx hK1 hvl (fun j u hj => (hA.cell (block_lt_of_cell (hc j u hj))).trans (hc j u hj)) hS.one' (by omega) ?_
  intro g cap w' ho' hf hg
  have b := hA.trans (hf.below w9.heap.size (fun k hk => by cases hk; exact Nat.le_refl _) hA.size)
  refine h g cap w' ho' ?_ b ?_ (own_cap ho')
  · exact (SlAt.single (hB.on b).bytes hl).append (hS.on b)
  · rcases hg with e | e
    · cases e; exact Nat.le_refl _
    · exact Nat.le_trans hA.size e
theorem SlAt.set {w : World} {vs : List Value} {ds : List (List Int)} {I g c : Nat} {own : List Int} (h : SlAt w vs ds) (ho : OwnB w g c own) (hl : own.length = 512) (hI : I < ds.length) : SlAt w (vs.set I (.slice (some ⟨g, 0, none⟩) 512 c)) (ds.set I own) := by
  refine ⟨by rw [List.length_set, List.length_set, h.len], fun i hi => ?_⟩
  rw [List.length_set] at hi
  rw [row_set _ _ _ _ hI, List.getElem?_set]
  by_cases e : I = i
  · subst e
    rw [if_pos rfl, if_pos rfl, if_pos (by rw [h.len]; exact hI), hl]
    exact ⟨g, 0, c, rfl, ho.bytes⟩
  · rw [if_neg e, if_neg (fun c => e c.symm)]
    exact h.at_ i hi
theorem quiet_skip (T : Nat → Bool) (k : Nat) (h : T k = false) : quiet T (k + 1) = quiet T k := by
  unfold quiet
  refine decide_eq_decide.2 ⟨fun e j hj => e j (by omega), fun e j hj => ?_⟩
  by_cases c : j = k
  · subst c; exact h
  · exact e j (by omega)
theorem quiet_turn (T : Nat → Bool) (k : Nat) (h : T k = true) : quiet T (k + 1) = false := decide_eq_false (fun e => by rw [e k (by omega)] at h; cases h)
theorem quiet_none (T : Nat → Bool) : quiet T 0 = true := decide_eq_true (fun j hj => absurd hj (by omega))
theorem tmod_bd (x : Int) (K : Nat) : -(K : Int) ≤ x.tmod ((K : Int) + 1) ∧ x.tmod ((K : Int) + 1) ≤ K := by
  rcases Int.le_total 0 x with h | h
  · rw [Int.tmod_eq_emod_of_nonneg h]
    have := Int.emod_nonneg x (b := (K : Int) + 1) (by omega)
    have := Int.emod_lt_of_pos x (b := (K : Int) + 1) (by omega)
    omega
  · obtain ⟨p, rfl⟩ : ∃ p, x = -p := ⟨-x, by omega⟩
    rw [Int.neg_tmod, Int.tmod_eq_emod_of_nonneg (by omega)]
    have := Int.emod_nonneg p (b := (K : Int) + 1) (by omega)
    have := Int.emod_lt_of_pos p (b := (K : Int) + 1) (by omega)
    omega
end Go.Proofs.YtccocjipgbeaeaaDoor
