import Derived.Test.YtklffjagdhbjcaaDoorBurst
import Derived.Deep.QuietTactic
import Derived.BigQuiet
import Derived.Deep.CutRange
namespace Go.Proofs.YtklffjagdhbjcaaDoor
open Go.RowKit
open Crc (W)

/-- 'append([]byte{}, b...)' -/
theorem wp_copyM {ops : Array Oper} {rest : List Oper} {o : Oper} {a : Act} {Q : Exit → Act → World → Prop} (w1 : World) (hgd : o.guard = none) (s x : Operand)
    (ho : o.op = .call { callee := .builtin .append, args := #[s, x], argTypes := #[24, 24] }) (hs : a.eval s = .slice (some ⟨w1.heap.size, 0, none⟩) 0 0)
    (ad : Option Addr) (n c : Nat) (l : List Int) (hx : a.eval x = .slice ad n c) (hn : l.length = n) (hb : Bytes w1 ad l) (hz : ad = none → c = 0) (h47 : n ≤ 140737488351232)
    (h : ∀ g cap w', w1.heap.size ≤ g → OwnB w' g cap l → cap ≤ maxLen → Below w1.heap.size w1 w' → wpList Tryd.prog ops Q rest (a.put o.dst (.slice (some ⟨g, 0, none⟩) n cap)) w') :
    wpList Tryd.prog ops Q (o :: rest) a (w1.alloc (.cells #[] 5)) := by
  subst hn
  obtain ⟨i0, hi, hz0, hz1, hz2⟩ := info_parts info5
  have hown : (w1.alloc (.cells #[] 5)).ownsRow w1.heap.size 5 1 (.slice (some ⟨w1.heap.size, 0, none⟩) 0 0) 0 [] :=
    ⟨rfl, .inr ⟨w1.heap.size, 0, #[], rfl, Nat.le_refl _, heap_alloc_new _ _, Nat.le_refl _, by unfold maxLen; omega, rfl, rfl⟩⟩
  have hB0 : Below w1.heap.size w1 (w1.alloc (.cells #[] 5)) := (Below.refl _ _).alloc (Nat.le_refl _) _
  cases ad with
  | none =>
    have hl : l = [] := by
      rcases hb.at_ with e | ⟨_, _, e, _⟩
      · exact e
      · cases e
    subst hl
    have hc := hz rfl
    subst hc
    refine wpList_append_own_none hgd s x 24 ho w1.heap.size 5 i0 1 Tryd.underlying24 hi _ 0 [] hs hown hx ?_
    exact h _ _ _ (Nat.le_refl _) ⟨⟨#[], heap_alloc_new _ _, rfl, rfl⟩, by simp, by simp, hb.wf⟩ (by unfold maxLen; omega) hB0
  | some p =>
    refine wpList_append_own _ hgd s x 24 ho w1.heap.size 5 i0 (.int .u8 0) 1 1 Tryd.underlying24 hi hz0 hz1 hz2 rfl (by decide) _ 0 [] hs hown p l.length c (l.map (Value.int .u8)) hx (by simp) ?_ (cells_u8 l) ?_ (by omega) (by simp) ?_
    · intro j u hj
      rcases hb.at_ with e | ⟨b, off, e, hc⟩
      · subst e; simp at hj
      · cases e
        have hlt : j < l.length := by
          by_cases hlt : j < l.length
          · exact hlt
          · rw [List.getElem?_eq_none (by simp; omega)] at hj; cases hj
        have e2 : (l.map (Value.int .u8))[j]? = some (.int .u8 (nth l j)) := by
          have := nth_cell l j hlt
          simpa using this
        rw [e2] at hj
        cases hj
        rw [Addr.add_lit, ← hc j hlt]
        exact hB0.cell (p := ⟨b, off + j, none⟩) (block_lt_of_cell (hc j hlt))
    · unfold maxLen; omega
    · intro v' w' ho' hg' hnil
      have hb2 : Below w1.heap.size w1 w' := hB0.grown hg' (by simp) (by intro k hk; cases hk; exact Nat.le_refl _)
      obtain ⟨hxs, hh⟩ := ho'
      rcases hh with ⟨hv, h0⟩ | ⟨g, cap, cur, hv, hgB, hgr, hcap, hcm, hsz, htk⟩
      · have := (hnil.1 hv).1
        cases this
      · subst hv
        rw [Nat.zero_add] at *
        exact h _ _ _ hgB ⟨⟨cur, hgr, by simpa using hsz, by simpa using htk⟩, hb.len, by simpa using hcap, hb.wf⟩ hcm hb2

def marks : List Int := [209, 210, 211]
theorem owns_of {w : World} {B g cap : Nat} {l : List Int} (h : OwnB w g cap l) (hg : B ≤ g) (hm : cap ≤ maxLen) : w.ownsRow B 5 1 (.slice (some ⟨g, 0, none⟩) l.length cap) l.length (l.map (Value.int .u8)) := by
  obtain ⟨cur, h1, h2, h3⟩ := h.row
  exact ⟨by simp, .inr ⟨g, cap, cur, rfl, hg, h1, h.room, hm, by omega, by simpa using h3⟩⟩
theorem owned {w : World} {B : Nat} {v : Value} {n : Nat} {l : List Int} (h : w.ownsRow B 5 1 v n (l.map (Value.int .u8))) (hn : l.length = n) (h0 : 0 < n) (hl : n ≤ 1000000000000000) (hw : ∀ i, 0 ≤ nth l i ∧ nth l i < 256) :
    ∃ g cap, v = .slice (some ⟨g, 0, none⟩) n cap ∧ B ≤ g ∧ OwnB w g cap l := by
  rcases h.2 with ⟨_, e⟩ | ⟨g, cap, cur, hv, hg, hh, hc, hm, hsz, htk⟩
  · omega
  · exact ⟨g, cap, hv, hg, ⟨⟨cur, hh, by omega, by rw [hn]; simpa using htk⟩, by omega, by omega, hw⟩⟩
theorem wf_two {l m : List Int} (h : ∀ i, 0 ≤ nth l i ∧ nth l i < 256) (k : ∀ i, 0 ≤ nth m i ∧ nth m i < 256) : ∀ i, 0 ≤ nth (l ++ m) i ∧ nth (l ++ m) i < 256 := by
  intro i
  unfold nth at *
  by_cases hi : i < l.length
  · have : (l ++ m).getD i 0 = l.getD i 0 := by simp [List.getD, List.getElem?_append, hi]
    rw [this]; exact h i
  · have : (l ++ m).getD i 0 = m.getD (i - l.length) 0 := by simp [List.getD, List.getElem?_append, hi]
    rw [this]; exact k _
theorem wf_marks : ∀ i, 0 ≤ nth marks i ∧ nth marks i < 256 := nth_wf (by decide)
/-- 'append(c, 0xD1, 0xD2, 0xD3)' -/
theorem wp_marks {ops : Array Oper} {rest : List Oper} {o : Oper} {a : Act} {Q : Exit → Act → World → Prop} (w1 : World) (hgd : o.guard = none) (s x : Operand)
    (ho : o.op = .call { callee := .builtin .append, args := #[s, x], argTypes := #[24, 24] }) (B g n cap : Nat) (l : List Int) (hn : l.length = n) (hs : a.eval s = .slice (some ⟨g, 0, none⟩) n cap) (hx : a.eval x = .slice (some ⟨w1.heap.size, 0, none⟩) 3 3)
    (hown : OwnB w1 g cap l) (hm : cap ≤ maxLen) (hg : B ≤ g) (hB : B ≤ w1.heap.size) (h47 : n ≤ 140737488351232)
    (h : ∀ g' cap' w', B ≤ g' → OwnB w' g' cap' (l ++ marks) → Below B w1 w' → wpList Tryd.prog ops Q rest (a.put o.dst (.slice (some ⟨g', 0, none⟩) (n + 3) cap')) w') :
    wpList Tryd.prog ops Q (o :: rest) a (w1.alloc (.cells #[.int .u8 209, .int .u8 210, .int .u8 211] 5)) := by
  subst hn
  obtain ⟨i0, hi, hz0, hz1, hz2⟩ := info_parts info5
  have hB0 : Below w1.heap.size w1 (w1.alloc (.cells #[.int .u8 209, .int .u8 210, .int .u8 211] 5)) := (Below.refl _ _).alloc (Nat.le_refl _) _
  refine wpList_append_own _ hgd s x 24 ho B 5 i0 (.int .u8 0) 1 1 Tryd.underlying24 hi hz0 hz1 hz2 rfl (by decide) _ l.length _ hs (owns_of (hown.below hB0 hown.lt) hg hm) ⟨w1.heap.size, 0, none⟩ 3 3 (marks.map (Value.int .u8)) hx (by decide) ?_ (cells_u8 marks) ?_ ?_ (by simp; omega) ?_
  · intro j u hj
    rw [Addr.add_lit, Nat.zero_add, cell_of_row _ _ _ _ _ _ (heap_alloc_new _ _)]
    simpa [marks] using hj
  · unfold maxLen; omega
  · omega
  · intro v' w' ho' hg' _
    rw [← List.map_append] at ho'
    have hb2 : Below B w1 w' := (hB0.mono hB).grown hg' (by simp; omega) (by intro k hk; cases hk; exact hg)
    obtain ⟨g', cap', rfl, h1, h2⟩ := owned ho' (by simp [marks]) (by omega) (by omega) (wf_two hown.wf wf_marks)
    exact h g' cap' w' h1 h2 hb2

set_option maxRecDepth 100000 in
set_option maxHeartbeats 400000 in
theorem roomy_any (w : World) (a0 : Option Addr) (n c : Nat) (l : List Int) (hn : l.length = n) (hB : Bytes w a0 l) (hz : a0 = none → c = 0) (h47 : n ≤ 140737488351232) :
    Calls Tryd.prog 16 #[.slice a0 n c] w fun e w' => ∃ g cap, e = .returned (.slice (some ⟨g, 0, none⟩) n cap) ∧ OwnB w' g cap (l ++ marks) ∧ Below w.heap.size w w' := by
  have HB : Hid (Bytes w a0 l) := hB
  have HZ : Hid (a0 = none → c = 0) := hz
  have HN : Hid (l.length = n) := hn
  clear hB hz hn
  go_enter Tryd.func16, Tryd.ntmps16
  go_upto_region 2 with (at_builtin; refine wp_copyM w rfl (.tmp 4) (.tmp 5) rfl rfl a0 n c l rfl HN.out HB.out HZ.out h47 ?_; intro g cap w2 hg hown hm hb2)
  have HO : Hid (OwnB w2 g cap l) := hown
  have HM : Hid (cap ≤ maxLen) := hm
  have HB2 : Hid (Below w.heap.size w w2) := hb2
  have HG : Hid (w.heap.size ≤ g) := hg
  clear hown hm hb2 hg
  go_upto_region 3 with (at_builtin; refine wp_marks w2 rfl (.tmp 7) (.tmp 8) rfl w.heap.size g n cap l HN.out rfl rfl HO.out HM.out HG.out HB2.out.size h47 ?_; intro g2 cap2 w3 hg3 hown3 hb3)
  have hr : n + 3 ≤ cap2 := by have := hown3.room; rw [List.length_append, HN.out] at this; exact this
  have HO3 : Hid (OwnB w3 g2 cap2 (l ++ marks)) := hown3
  have HB3 : Hid (Below w.heap.size w w3) := HB2.out.trans hb3
  clear hown3 hb3 hg3
  go_wp2
  go_ret
  exact ⟨g2, cap2, rfl, HO3.out, HB3.out⟩
end Go.Proofs.YtklffjagdhbjcaaDoor
