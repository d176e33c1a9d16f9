import Derived.Test.YtcdggcdkjooohaaDoorKWBd
import Derived.Test.YtcdggcdkjooohaaDoorKWCd
import Derived.Test.YtcdggcdkjooohaaDoorKAStep
namespace Go.Proofs.YtcdggcdkjooohaaDoor
open Go.RowKit Rec

theorem LogAt.on {w0 w w' : World} {F : List Int} {nb : Nat} {v1 v2 : Value} {L : List Rb} (h : LogAt w0 w F nb v1 v2 L) (hb : Below w.heap.size w w') : LogAt w0 w' F nb v1 v2 L :=
  ⟨h.nums.on hb, h.data.on hb, h.bel.trans (hb.mono h.bel.size)⟩
/-- a number and its block -/
theorem LogAt.at_ {w0 w : World} {F : List Int} {nb k : Nat} {v1 v2 : Value} {L : List Rb} (h : LogAt w0 w F nb v1 v2 L) (hk : (logN F nb).length = k) (h0 : 0 < k) :
    ∃ gn cn gd cd, v1 = .slice (some ⟨gn, 0, none⟩) k cn ∧ v2 = .slice (some ⟨gd, 0, none⟩) k cd ∧ w0.heap.size ≤ gn ∧ w0.heap.size ≤ gd ∧ ∀ i, i < k → w.cell? ⟨gn, i, none⟩ = some (.int .i64 (nth (logN F nb) i)) ∧ ∃ g c, w.cell? ⟨gd, i, none⟩ = some (.slice (some ⟨g, 0, none⟩) 512 c) ∧ OwnB w g c (bck F (2 + i)) ∧ w0.heap.size ≤ g := by
  have hd := h.data
  rw [hk] at hd
  obtain ⟨gd, cd, rfl⟩ := own_some hd.row h0
  rcases h.nums with ⟨e, _⟩ | ⟨gn, cn, e, ho, hg⟩
  · rw [e] at hk; simp at hk; omega
  · rw [hk] at e
    refine ⟨gn, cn, gd, cd, e, rfl, hg, hd.far gd rfl, fun i hi => ⟨ho.cell i (by rw [hk]; exact hi), ?_⟩⟩
    obtain ⟨q, hq⟩ : ∃ q, L[i]? = some q := ⟨L[i]'(by rw [hd.len]; exact hi), List.getElem?_eq_getElem _⟩
    obtain ⟨e1, e2, e3⟩ := hd.at_ i q hq
    rw [e1] at e2
    exact ⟨q.g, q.c, hd.cell i q hq, e2, e3⟩
theorem logH_take (F : List Int) (nb j : Nat) (hj : j < (logN F nb).length) (m : Nat) (hm : nth (logN F nb) j = (m : Int)) : (logH F nb).take (j + 1) = (logH F nb).take j ++ [(m, bck F (2 + j))] := by
  have hl : (logH F nb).length = (logN F nb).length := homes_length _ _ (logD_length _ _)
  rw [List.take_add_one, List.getElem?_eq_getElem (by rw [hl]; exact hj)]
  have e := homes_get (logN F nb) (logD F (logN F nb).length) j (by rw [← hl] at hj; exact hj)
  rw [row_logD F _ j hj, hm] at e
  have e2 : (logH F nb)[j]'(by rw [hl]; exact hj) = (m, bck F (2 + j)) := e
  rw [e2]; rfl
end Go.Proofs.YtcdggcdkjooohaaDoor

namespace Go.Proofs.YtcdggcdkjooohaaDoor
open Go.RowKit Rec

theorem openE_facts {D : Dk} (he : openE D = 0) : D.down = false ∧ 98 ≤ D.nb ∧ logE D.full D.nb = 0 := by
  have hd : D.down = false := by
    cases hd : D.down with
    | false => rfl
    | true => unfold openE at he; rw [hd] at he; simp at he
  have heL : logE D.full D.nb = 0 := by unfold openE at he; rw [hd] at he; simpa using he
  refine ⟨hd, ?_, heL⟩
  by_cases c : D.nb < 98
  · unfold logE at heL; rw [if_pos c] at heL; exact absurd heL (by decide)
  · omega
theorem logN_nat (F : List Int) (nb j : Nat) (hj : j < (logN F nb).length) : ∃ m : Nat, nth (logN F nb) j = (m : Int) ∧ 98 ≤ m ∧ m < nb := by
  have hne : logN F nb ≠ [] := fun e => by rw [e] at hj; simp at hj
  have := pre_bd _ _ (numsL_ok _ _ hne).1 j hj
  refine ⟨(nth (logN F nb) j).toNat, ?_, ?_, ?_⟩
  · have : 0 ≤ nth (logN F nb) j := by have h := this; unfold logN; omega
    omega
  · have h := this; unfold logN; omega
  · have h := this; unfold logN; omega
end Go.Proofs.YtcdggcdkjooohaaDoor

namespace Go.Proofs.YtcdggcdkjooohaaDoor
open Go.RowKit Rec

theorem alloc_size (w : World) (o : Obj) : (w.alloc o).heap.size = w.heap.size + 1 := Array.size_push _
theorem wp_make0 {ops : Array Oper} {rest : List Oper} {o : Oper} {a : Act} {Q : Exit → Act → World → Prop} {w : World} (hg : o.guard = none) (l c : Operand) (hop : o.op = Op.makeSlice 34 l c)
    (kl kc : IntKind) (C : Int) (n : Nat) (hl : a.eval l = .int kl 0) (hc : a.eval c = .int kc C) (hC : C = (n : Int)) (hn : n ≤ 4294967296)
    (hK : ∀ w', w'.ownsRow 0 3 1 (.slice (some ⟨w.heap.size, 0, none⟩) 0 n) 0 [] → Below w.heap.size w w' → wpList Tryd.prog ops Q rest (a.put o.dst (.slice (some ⟨w.heap.size, 0, none⟩) 0 n)) w') :
    wpList Tryd.prog ops Q (o :: rest) a w := by
  obtain ⟨i0, hi, hz0, hz1, hz2⟩ := info_parts info3
  refine wpList_make_own w hg l c 34 hop 0 3 i0 _ 1 Tryd.underlying34 hi hz0 hz1 kl kc C n hl hc hC (by rw [hz2]; omega) (by unfold maxLen; omega) (Nat.zero_le _) ?_
  intro w' h1 h2
  exact hK w' h1 ⟨h2.os, h2.tape, h2.output, h2.size, fun k hk => h2.block k hk (by simp)⟩
end Go.Proofs.YtcdggcdkjooohaaDoor
