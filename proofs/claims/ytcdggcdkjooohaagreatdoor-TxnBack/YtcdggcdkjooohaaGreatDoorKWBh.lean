import Derived.Test.YtcdggcdkjooohaaGreatDoorKWBd
import Derived.Test.YtcdggcdkjooohaaGreatDoorKWCd
import Derived.Test.YtcdggcdkjooohaaGreatDoorKAStep
namespace Go.Proofs.YtcdggcdkjooohaaGreatDoor
open Go.RowKit Rec

theorem LogAt.on {w0 w w' : World} {F : List Int} {nb : Nat} {v1 v2 : Value} {L : List Rb} (h : LogAt w0 w F nb v1 v2 L) (hb : Below w.heap.size w w') : LogAt w0 w' F nb v1 v2 L :=
  ⟨h.nums.on hb, h.data.on hb, h.bel.trans (hb.mono h.bel.size)⟩
/-- a number and its block -/
theorem LogAt.at_ {w0 w : World} {F : List Int} {nb k : Nat} {v1 v2 : Value} {L : List Rb} (h : LogAt w0 w F nb v1 v2 L) (hk : (logN F nb).length = k) (h0 : 0 < k) :
    ∃ gn cn gd cd, v1 = .slice (some ⟨gn, 0, none⟩) k cn ∧ v2 = .slice (some ⟨gd, 0, none⟩) k cd ∧ w0.heap.size ≤ gn ∧ w0.heap.size ≤ gd ∧ ∀ i, i < k → w.cell? ⟨gn, i, none⟩ = some (.int .i64 (nth (logN F nb) i)) ∧ ∃ g c, w.cell? ⟨gd, i, none⟩ = some (.slice (some ⟨g, 0, none⟩) 512 c) ∧ OwnB w g c (bck F (2 + i)) ∧ w0.heap.size ≤ g := by
  have hd := h.data
  rw [hk] at hd
  obtain ⟨gd, cd, rfl⟩ := own_some hd.row h0
  rcases h.nums with ⟨e, _⟩ | ⟨gn, cn, e, ho, hg⟩
  · rw [e] at hk; simp at hk; omega
  · rw [hk] at e
    refine ⟨gn, cn, gd, cd, e, rfl, hg, hd.far gd rfl, fun i hi => ⟨ho.cell i (by rw [hk]; exact hi), ?_⟩⟩
    obtain ⟨q, hq⟩ : ∃ q, L[i]? = some q := ⟨L[i]'(by rw [hd.len]; exact hi), List.getElem?_eq_getElem _⟩
    obtain ⟨e1, e2, e3⟩ := hd.at_ i q hq
    rw [e1] at e2
    exact ⟨q.g, q.c, hd.cell i q hq, e2, e3⟩
theorem logH_take (F : List Int) (nb j : Nat) (hj : j < (logN F nb).length) (m : Nat) (hm : nth (logN F nb) j = (m : Int)) : (logH F nb).take (j + 1) = (logH F nb).take j ++ [(m, bck F (2 + j))] := by
  have hl : (logH F nb).length = (logN F nb).length := homes_length _ _ (logD_length _ _)
  rw [List.take_add_one, List.getElem?_eq_getElem (by rw [hl]; exact hj)]
  have e := homes_get (logN F nb) (logD F (logN F nb).length) j (by rw [← hl] at hj; exact hj)
  rw [row_logD F _ j hj, hm] at e
  have e2 : (logH F nb)[j]'(by rw [hl]; exact hj) = (m, bck F (2 + j)) := e
  rw [e2]; rfl
end Go.Proofs.YtcdggcdkjooohaaGreatDoor

namespace Go.Proofs.YtcdggcdkjooohaaGreatDoor
open Go.RowKit Rec

theorem openE_facts {D : Dk} (he : openE D = 0) : D.down = false ∧ 98 ≤ D.nb ∧ logE D.full D.nb = 0 := by
  have hd : D.down = false := by
    cases hd : D.down with
    | false => rfl
    | true => unfold openE at he; rw [hd] at he; simp at he
  have heL : logE D.full D.nb = 0 := by unfold openE at he; rw [hd] at he; simpa using he
  refine ⟨hd, ?_, heL⟩
  by_cases c : D.nb < 98
  · unfold logE at heL; rw [if_pos c] at heL; exact absurd heL (by decide)
  · omega
theorem logN_nat (F : List Int) (nb j : Nat) (hj : j < (logN F nb).length) : ∃ m : Nat, nth (logN F nb) j = (m : Int) ∧ 98 ≤ m ∧ m < nb := by
  have hne : logN F nb ≠ [] := fun e => by rw [e] at hj; simp at hj
  have := pre_bd _ _ (numsL_ok _ _ hne).1 j hj
  refine ⟨(nth (logN F nb) j).toNat, ?_, ?_, ?_⟩
  · have : 0 ≤ nth (logN F nb) j := by have h := this; unfold logN; omega
    omega
  · have h := this; unfold logN; omega
  · have h := this; unfold logN; omega
end Go.Proofs.YtcdggcdkjooohaaGreatDoor

namespace Go.Proofs.YtcdggcdkjooohaaGreatDoor
open Go.RowKit Rec

theorem alloc_size (w : World) (o : Obj) : (w.alloc o).heap.size = w.heap.size + 1 := Array.size_push _
theorem wp_make0 {ops : Array Oper} {rest : List Oper} {o : Oper} {a : Act} {Q : Exit → Act → World → Prop} {w : World} (hg : o.guard = none) (l c : Operand) (hop : o.op = Op.makeSlice 36 l c)
    (kl kc : IntKind) (C : Int) (n : Nat) (hl : a.eval l = .int kl 0) (hc : a.eval c = .int kc C) (hC : C = (n : Int)) (hn : n ≤ 4294967296)
    (hK : ∀ w', w'.ownsRow 0 3 1 (.slice (some ⟨w.heap.size, 0, none⟩) 0 n) 0 [] → Below w.heap.size w w' → wpList Tryz.prog ops Q rest (a.put o.dst (.slice (some ⟨w.heap.size, 0, none⟩) 0 n)) w') :
    wpList Tryz.prog ops Q (o :: rest) a w := by
  obtain ⟨i0, hi, hz0, hz1, hz2⟩ := info_parts info3
  refine wpList_make_own w hg l c 36 hop 0 3 i0 _ 1 Tryz.underlying36 hi hz0 hz1 kl kc C n hl hc hC (by rw [hz2]; omega) (by unfold maxLen; omega) (Nat.zero_le _) ?_
  intro w' h1 h2
  exact hK w' h1 ⟨h2.os, h2.tape, h2.output, h2.size, fun k hk => h2.block k hk (by simp)⟩
set_option maxRecDepth 100000 in
set_option maxHeartbeats 1600000 in
theorem pending_any (w : World) (D : Dk) (h : Disk w D) : Calls Tryz.prog 42 #[.pointer (some ⟨D.d, 0, none⟩)] w fun e w' => ∃ g c, e = .returned (.slice (some ⟨g, 0, none⟩) D.pen.length c) ∧ w.heap.size ≤ g ∧ w'.ownsRow 0 3 1 (.slice (some ⟨g, 0, none⟩) D.pen.length c) D.pen.length (D.pen.map (fun p => Value.int .i64 p.b)) ∧ Below w.heap.size w w' := by
  obtain ⟨pa, pc, hv, hpc, hga, hcc⟩ := owns_slice h.pen
  have C1 : w.cell? ⟨D.d, 1, none⟩ = some (.slice pa D.pen.length pc) := by rw [← hv]; exact h.cell 1
  have hpl := h.pl
  have HD : Hid (Disk w D) := h
  have HV : Hid (D.pv = .slice pa D.pen.length pc ∧ (D.pen.length = 0 ∨ ∃ g, pa = some ⟨g, 0, none⟩)) := ⟨hv, hga⟩
  obtain ⟨i1, j1, j2, j3, j4⟩ := info_parts info3
  clear h hcc hv hga
  go_enter Tryz.func42, Tryz.ntmps42
  go_wp2_with (at_make; refine wp_make0 rfl _ _ rfl _ _ _ D.pen.length rfl rfl (by rfl) hpl ?_; intro w1 ho hb; have HO : Hid (w1.ownsRow 0 3 1 (.slice (some ⟨w.heap.size, 0, none⟩) 0 D.pen.length) 0 []) := ho; have HB : Hid (Below w.heap.size w w1) := hb; have C1' : w1.cell? ⟨D.d, 1, none⟩ = some (.slice pa D.pen.length pc) := (below_fr hb (fun _ => False)).cell C1 (fun e => e); clear ho hb)
  clear C1 C1'
  go_loopw [3, 5, 17, 18, 19, 20, 21, 22, 23, 24, 25, 26] (fun b _ i _ _ _ _ _ _ _ _ _ wr => ∃ k g c : Nat, k ≤ D.pen.length ∧ i = .int .i64 k ∧ b = .slice (some ⟨g, 0, none⟩) k c ∧ w.heap.size ≤ g ∧ wr.ownsRow 0 3 1 (.slice (some ⟨g, 0, none⟩) k c) k ((D.pen.take k).map (fun p => Value.int .i64 p.b)) ∧ Below w.heap.size w wr) (fun _ _ i _ _ _ _ _ _ _ _ _ _ => D.pen.length - (intOf i).toNat)
  case atStart => exact ⟨0, _, _, Nat.zero_le _, rfl, rfl, Nat.le_refl _, by simpa using HO.out, HB.out⟩
  case round =>
    obtain ⟨k, g, c, hk, rfl, rfl, hg, ho, hb⟩ := hrel
    have HO2 : Hid (wr.ownsRow 0 3 1 (.slice (some ⟨g, 0, none⟩) k c) k ((D.pen.take k).map (fun p => Value.int .i64 p.b))) := ho
    have HB2 : Hid (Below w.heap.size w wr) := hb
    clear ho hb HO HB
    by_cases hlt : k < D.pen.length
    · obtain ⟨p, hpk, hp, hfk, hxk, c1, c2⟩ := penX D k hlt
      have hd2 := HD.out.on HB2.out
      obtain ⟨pa', pc', hv', _, _, hcc⟩ := owns_slice hd2.pen
      rw [HV.out.1] at hv'
      cases hv'
      obtain ⟨gp, rfl⟩ := HV.out.2.resolve_left (by omega)
      have d1 := (hcc gp 0 rfl).2.1 _ _ c1
      have d2 := (hcc gp 0 rfl).2.1 _ _ c2
      have HP : Hid ((D.pen.take k).map (fun p => Value.int .i64 p.b) ++ [Value.int .i64 p.b] = (D.pen.take (k + 1)).map (fun p => Value.int .i64 p.b)) := by
        show _ = _
        rw [List.take_add_one, hpk, List.map_append]; rfl
      clear hcc c1 c2 hp hfk hxk hpk hd2
      have HA : Hid (Below wr.heap.size wr ((wr.alloc (.cells #[.int .i64 p.b, .slice (some ⟨p.g, 0, none⟩) 512 p.cap] 122)).alloc (.cells #[.int .i64 p.b] 3))) := ((Below.refl _ _).alloc (Nat.le_refl _) _).alloc (by simp) _
      have hrow := heap_alloc_new (wr.alloc (.cells #[.int .i64 p.b, .slice (some ⟨p.g, 0, none⟩) 512 p.cap] 122)) (.cells #[.int .i64 p.b] 3)
      rw [alloc_size] at hrow
      have HN : Hid (∀ j u, [Value.int .i64 p.b][j]? = some u → ((wr.alloc (.cells #[.int .i64 p.b, .slice (some ⟨p.g, 0, none⟩) 512 p.cap] 122)).alloc (.cells #[.int .i64 p.b] 3)).cell? ((⟨wr.heap.size + 1, 0, none⟩ : Addr).add j) = some u) := news_of hrow _ rfl
      have HW : Hid (((wr.alloc (.cells #[.int .i64 p.b, .slice (some ⟨p.g, 0, none⟩) 512 p.cap] 122)).alloc (.cells #[.int .i64 p.b] 3)).ownsRow 0 3 1 (.slice (some ⟨g, 0, none⟩) k c) k ((D.pen.take k).map (fun p => Value.int .i64 p.b))) := owns_fr HO2.out (below_fr HA.out (fun j => wr.heap.size ≤ j)) (fun j hj => by cases hj; exact Nat.not_le.2 (owns_block HO2.out rfl))
      clear hrow
      go_wp2_with (at_builtin; refine wp_own rfl (.tmp 21) (.tmp 24) 36 rfl 3 i1 _ 1 8 Tryz.underlying36 j1 j2 j3 j4 rfl (by decide) (.slice (some ⟨g, 0, none⟩) k c) k ((D.pen.take k).map (fun p => Value.int .i64 p.b)) rfl HW.out ⟨wr.heap.size + 1, 0, none⟩ 1 1 [Value.int .i64 p.b] rfl (by decide) rfl HN.out (by intro u hu; simp at hu; subst hu; rfl) (by unfold maxLen; omega) (by omega) ?_; intro g' c' w3 ho hf hgp; have HZ : Hid (w3.ownsRow 0 3 1 (.slice (some ⟨g', 0, none⟩) (k + 1) c') (k + 1) ((D.pen.take (k + 1)).map (fun p => Value.int .i64 p.b)) ∧ w.heap.size ≤ g' ∧ Below w.heap.size w w3) := ⟨by rw [← HP.out]; exact ho, hgp.elim (fun e => by cases e; exact hg) (fun e => Nat.le_trans HB2.out.size (Nat.le_trans HA.out.size e)), (HB2.out.trans (HA.out.mono HB2.out.size)).trans (hf.below w.heap.size (fun j hj => by cases hj; exact hg) (Nat.le_trans HB2.out.size HA.out.size))⟩; clear ho hf hgp)
      exact ⟨⟨_, _, _, hlt, rfl, rfl, HZ.out.2.1, HZ.out.1, HZ.out.2.2⟩, by simp [intOf]; omega⟩
    · obtain rfl : k = D.pen.length := by omega
      go_wp2
      go_ret
      exact ⟨_, _, rfl, hg, by simpa using HO2.out, HB2.out⟩
end Go.Proofs.YtcdggcdkjooohaaGreatDoor
