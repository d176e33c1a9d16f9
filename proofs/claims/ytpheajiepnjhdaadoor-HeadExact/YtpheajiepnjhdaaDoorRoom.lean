import Derived.Test.YtpheajiepnjhdaaDoorLawI
import Derived.Test.YtpheajiepnjhdaaDoorBackM
namespace Go.Proofs.YtpheajiepnjhdaaDoor
open Go.RowKit Rec

/-- 'append([]byte{}, x...)', x of any length -/
theorem wp_bany {ops : Array Oper} {rest : List Oper} {o : Oper} {a : Act} {Q : Exit → Act → World → Prop} {w7 : World} (hgd : o.guard = none) (s x : Operand)
    (ho : o.op = .call { callee := .builtin .append, args := #[s, x], argTypes := #[23, 23] }) (hs : a.eval s = .slice (some ⟨w7.heap.size, 0, none⟩) 0 0)
    (ad : Option Addr) (m c : Nat) (y : List Int) (hx : a.eval x = .slice ad m c) (hl : y.length = m) (hb : Bytes w7 ad y) (hz : ad = none → c = 0) (h47 : m ≤ 140737488351232)
    (h : ∀ g cap w', OwnB w' g cap y → Below w7.heap.size w7 w' → w7.heap.size ≤ g → wpList Tryd.prog ops Q rest (a.put o.dst (.slice (some ⟨g, 0, none⟩) m cap)) w') :
    wpList Tryd.prog ops Q (o :: rest) a (w7.alloc (.cells #[] 5)) := by
  have hA : Below w7.heap.size w7 (w7.alloc (.cells #[] 5)) := (Below.refl _ _).alloc (Nat.le_refl _) _
  have hE : OwnB (w7.alloc (.cells #[] 5)) w7.heap.size 0 [] := own_empty (heap_alloc_new _ _)
  refine wp_app hgd s x ho w7.heap.size w7.heap.size 0 0 [] y rfl hs hE (Nat.le_refl _) hA.size ad m c hx hl (hb.on hA) hz (by omega) ?_
  intro g cap w2 hg ho' hgr
  rw [List.nil_append] at ho'
  rw [Nat.zero_add]
  exact h g cap w2 ho' (hA.grown hgr hA.size (by intro k hk; cases hk; exact Nat.le_refl _)) hg
/-- append of one new byte -/
theorem wp_mark {ops : Array Oper} {rest : List Oper} {o : Oper} {act : Act} {Q : Exit → Act → World → Prop} {w1 : World} (hgd : o.guard = none) (s x : Operand)
    (ho : o.op = .call { callee := .builtin .append, args := #[s, x], argTypes := #[23, 23] }) (B g n cap : Nat) (l : List Int) (hs : act.eval s = .slice (some ⟨g, 0, none⟩) n cap) (hx : act.eval x = .slice (some ⟨w1.heap.size, 0, none⟩) 1 1)
    (hown : OwnB w1 g cap l) (hn : l.length = n) (hBg : B ≤ g) (hB : B ≤ w1.heap.size) (hn5 : n ≤ 140737488351232)
    (h : ∀ g' cap' w', B ≤ g' → OwnB w' g' cap' (l ++ [107]) → Below B w1 w' → n + 1 ≤ cap' → wpList Tryd.prog ops Q rest (act.put o.dst (.slice (some ⟨g', 0, none⟩) (n + 1) cap')) w') :
    wpList Tryd.prog ops Q (o :: rest) act (w1.alloc (.cells #[.int .u8 107] 5)) := by
  have hA : Below w1.heap.size w1 (w1.alloc (.cells #[.int .u8 107] 5)) := (Below.refl _ _).alloc (Nat.le_refl _) _
  have hO : OwnB (w1.alloc (.cells #[.int .u8 107] 5)) w1.heap.size 1 [107] := bytesL w1 [107] (by simp) (fun i => by
    by_cases h : i < 1
    · have : i = 0 := by omega
      subst this; exact ⟨by decide, by decide⟩
    · rw [nth_out _ _ (by simp; omega)]; omega)
  refine wp_app hgd s x ho B g n cap l [107] hn hs (hown.on hA) hBg (Nat.le_trans hB hA.size) (some ⟨w1.heap.size, 0, none⟩) 1 1 hx rfl hO.bytes (fun e => by cases e) (by omega) ?_
  intro g' cap' w' hg ho' hgr
  have b1 : Below B w1 (w1.alloc (.cells #[.int .u8 107] 5)) := hA.mono hB
  exact h g' cap' w' hg ho' (b1.trans (below_of hgr hBg (Nat.le_trans hB hA.size))) (by have := ho'.room; rw [List.length_append, hn] at this; simpa using this)
/-- a room -/
structure RoomAt (B : Nat) (w : World) (p : Nat) (ds : List (List Int)) (j : Nat) (sD sF : Value) (vs fs : List Value) : Prop where
  row : w.heap[p]? = some (.cells #[sD, sF] 94 (0, 0))
  dat : w.ownsRow 0 23 1 sD j vs
  ful : w.ownsRow 0 23 1 sF j fs
  els : ∀ i, i < j → ∃ g c, vs[i]? = some (.slice (some ⟨g, 0, none⟩) (Go.Proofs.YtpheajiepnjhdaaDoor.row ds i).length c) ∧ fs[i]? = some (.slice (some ⟨g, 0, none⟩) ((Go.Proofs.YtpheajiepnjhdaaDoor.row ds i).length + 1) c) ∧ OwnB w g c (Go.Proofs.YtpheajiepnjhdaaDoor.row ds i ++ [107]) ∧ B ≤ g
  farD : ∀ k, sD.ownBlock = some k → B ≤ k
  farF : ∀ k, sF.ownBlock = some k → B ≤ k
  ne : ∀ k, sD.ownBlock = some k → ¬ sF.ownBlock = some k
theorem RoomAt.on {B : Nat} {w w' : World} {p : Nat} {ds : List (List Int)} {j : Nat} {sD sF : Value} {vs fs : List Value} (h : RoomAt B w p ds j sD sF vs fs) (hb : Below w.heap.size w w') : RoomAt B w' p ds j sD sF vs fs :=
  ⟨(hb.block _ (heap_lt h.row)).trans h.row, owns_on h.dat hb, owns_on h.ful hb, fun i hi => by obtain ⟨g, c, h1, h2, h3, h4⟩ := h.els i hi; exact ⟨g, c, h1, h2, h3.on hb, h4⟩, h.farD, h.farF, h.ne⟩
theorem RoomAt.cells {B : Nat} {w : World} {p : Nat} {ds : List (List Int)} {j : Nat} {sD sF : Value} {vs fs : List Value} (h : RoomAt B w p ds j sD sF vs fs) : w.cell? ⟨p, 0, none⟩ = some sD ∧ w.cell? ⟨p, 1, none⟩ = some sF ∧ (∀ i, w.frozen? ⟨p, i, none⟩ = false) :=
  ⟨by rw [cell_of_row _ _ _ _ _ _ h.row]; rfl, by rw [cell_of_row _ _ _ _ _ _ h.row]; rfl, fun i => frozen_of_row _ _ _ _ _ h.row⟩
theorem own_apartR {w : World} {B e size n p : Nat} {v : Value} {xs : List Value} {cs : Array Value} {t : Nat} {f : Nat × Nat} (h : w.ownsRow B e size v n xs) (h' : w.heap[p]? = some (.cells cs t f)) (hne : e ≠ t) : ¬ v.ownBlock = some p := by
  intro hk
  obtain ⟨c1, h1⟩ := own_type h hk
  rw [h1] at h'
  cases h'
  exact hne rfl
theorem ownB_apartR {w : World} {g cap p : Nat} {l : List Int} {cs : Array Value} {t : Nat} {f : Nat × Nat} (h : OwnB w g cap l) (h' : w.heap[p]? = some (.cells cs t f)) (hne : 5 ≠ t) : g ≠ p := by
  intro e
  subst e
  obtain ⟨cur, h2, _, _⟩ := h.row
  rw [h2] at h'
  cases h'
  exact hne rfl
/-- one more in Full -/
structure RoomMid (B : Nat) (w : World) (p : Nat) (ds : List (List Int)) (j : Nat) (sD sF : Value) (vs fs : List Value) (gc cc : Nat) : Prop where
  row : w.heap[p]? = some (.cells #[sD, sF] 94 (0, 0))
  dat : w.ownsRow 0 23 1 sD j vs
  ful : w.ownsRow 0 23 1 sF (j + 1) (fs ++ [.slice (some ⟨gc, 0, none⟩) ((Go.Proofs.YtpheajiepnjhdaaDoor.row ds j).length + 1) cc])
  els : ∀ i, i < j → ∃ g c, vs[i]? = some (.slice (some ⟨g, 0, none⟩) (Go.Proofs.YtpheajiepnjhdaaDoor.row ds i).length c) ∧ fs[i]? = some (.slice (some ⟨g, 0, none⟩) ((Go.Proofs.YtpheajiepnjhdaaDoor.row ds i).length + 1) c) ∧ OwnB w g c (Go.Proofs.YtpheajiepnjhdaaDoor.row ds i ++ [107]) ∧ B ≤ g
  one : OwnB w gc cc (Go.Proofs.YtpheajiepnjhdaaDoor.row ds j ++ [107])
  farD : ∀ k, sD.ownBlock = some k → B ≤ k
  farF : ∀ k, sF.ownBlock = some k → B ≤ k
  ne : ∀ k, sD.ownBlock = some k → ¬ sF.ownBlock = some k
theorem RoomAt.mid {B : Nat} {w w' : World} {p : Nat} {ds : List (List Int)} {j : Nat} {sD sF : Value} {vs fs : List Value} {gc cc g cap : Nat} (h : RoomAt B w p ds j sD sF vs fs) (hB : B ≤ w.heap.size) (hc : OwnB w gc cc (Go.Proofs.YtpheajiepnjhdaaDoor.row ds j ++ [107]))
    (ho : w'.ownsRow 0 23 1 (.slice (some ⟨g, 0, none⟩) (j + 1) cap) (j + 1) (fs ++ [.slice (some ⟨gc, 0, none⟩) ((Go.Proofs.YtpheajiepnjhdaaDoor.row ds j).length + 1) cc])) (hf : Fr (fun k => sF.ownBlock = some k) w w') (hg : sF.ownBlock = some g ∨ w.heap.size ≤ g) :
    RoomMid B (w'.setCell ⟨p, 1, none⟩ (.slice (some ⟨g, 0, none⟩) (j + 1) cap)) p ds j sD (.slice (some ⟨g, 0, none⟩) (j + 1) cap) vs fs gc cc := by
  have hrow : w'.heap[p]? = some (.cells #[sD, sF] 94 (0, 0)) := hf.heap h.row (own_apartR h.ful h.row (by decide))
  have hs : Fr (fun i => i = p) w' (w'.setCell ⟨p, 1, none⟩ (.slice (some ⟨g, 0, none⟩) (j + 1) cap)) := Fr.set
  have hd : w'.ownsRow 0 23 1 sD j vs := owns_fr h.dat hf (fun k hk => h.ne k hk)
  refine ⟨heap_setCell_same _ _ _ _ _ _ hrow, owns_fr hd hs (fun k hk e => own_apartR hd hrow (by decide) (by rw [← e]; exact hk)), owns_fr ho hs (fun k hk e => own_apartR ho hrow (by decide) (by rw [← e]; exact hk)), fun i hi => ?_, ?_, h.farD, fun k hk => ?_, fun k hk hk2 => ?_⟩
  · obtain ⟨g1, c1, h1, h2, h3, h4⟩ := h.els i hi
    have h3' := h3.fr hf (own_apartB h.ful h3 (by decide))
    exact ⟨g1, c1, h1, h2, h3'.fr hs (ownB_apartR h3' hrow (by decide)), h4⟩
  · have h3' := hc.fr hf (own_apartB h.ful hc (by decide))
    exact h3'.fr hs (ownB_apartR h3' hrow (by decide))
  · cases hk
    rcases hg with e | e
    · exact h.farF _ e
    · exact Nat.le_trans hB e
  · cases hk2
    rcases hg with e | e
    · exact h.ne _ hk e
    · exact absurd (owns_block h.dat hk) (Nat.not_lt.2 e)
theorem RoomMid.next {B : Nat} {w w' : World} {p : Nat} {ds : List (List Int)} {j : Nat} {sD sF : Value} {vs fs : List Value} {gc cc g cap : Nat} (h : RoomMid B w p ds j sD sF vs fs gc cc) (hB : B ≤ w.heap.size) (hgc : B ≤ gc)
    (ho : w'.ownsRow 0 23 1 (.slice (some ⟨g, 0, none⟩) (j + 1) cap) (j + 1) (vs ++ [.slice (some ⟨gc, 0, none⟩) (Go.Proofs.YtpheajiepnjhdaaDoor.row ds j).length cc])) (hf : Fr (fun k => sD.ownBlock = some k) w w') (hg : sD.ownBlock = some g ∨ w.heap.size ≤ g) :
    RoomAt B (w'.setCell ⟨p, 0, none⟩ (.slice (some ⟨g, 0, none⟩) (j + 1) cap)) p ds (j + 1) (.slice (some ⟨g, 0, none⟩) (j + 1) cap) sF (vs ++ [.slice (some ⟨gc, 0, none⟩) (Go.Proofs.YtpheajiepnjhdaaDoor.row ds j).length cc]) (fs ++ [.slice (some ⟨gc, 0, none⟩) ((Go.Proofs.YtpheajiepnjhdaaDoor.row ds j).length + 1) cc]) := by
  have hrow : w'.heap[p]? = some (.cells #[sD, sF] 94 (0, 0)) := hf.heap h.row (own_apartR h.dat h.row (by decide))
  have hs : Fr (fun i => i = p) w' (w'.setCell ⟨p, 0, none⟩ (.slice (some ⟨g, 0, none⟩) (j + 1) cap)) := Fr.set
  have hF : w'.ownsRow 0 23 1 sF (j + 1) (fs ++ [.slice (some ⟨gc, 0, none⟩) ((Go.Proofs.YtpheajiepnjhdaaDoor.row ds j).length + 1) cc]) := owns_fr h.ful hf (fun k hk hk2 => h.ne k hk2 hk)
  have hvl : vs.length = j := by have := h.dat.1; omega
  have hfl : fs.length = j := by have := h.ful.1; rw [List.length_append] at this; simp at this; omega
  have keep : ∀ {g1 c1 : Nat} {l : List Int}, OwnB w g1 c1 l → OwnB (w'.setCell ⟨p, 0, none⟩ (.slice (some ⟨g, 0, none⟩) (j + 1) cap)) g1 c1 l := fun h3 => by
    have h3' := h3.fr hf (own_apartB h.dat h3 (by decide))
    exact h3'.fr hs (ownB_apartR h3' hrow (by decide))
  refine ⟨heap_setCell_same _ _ _ _ _ _ hrow, owns_fr ho hs (fun k hk e => own_apartR ho hrow (by decide) (by rw [← e]; exact hk)), owns_fr hF hs (fun k hk e => own_apartR hF hrow (by decide) (by rw [← e]; exact hk)), fun i hi => ?_, fun k hk => ?_, h.farF, fun k hk hk2 => ?_⟩
  · by_cases e : i = j
    · subst e
      exact ⟨gc, cc, by rw [List.getElem?_append_right (by omega), hvl]; simp, by rw [List.getElem?_append_right (by omega), hfl]; simp, keep h.one, hgc⟩
    · obtain ⟨g1, c1, h1, h2, h3, h4⟩ := h.els i (by omega)
      exact ⟨g1, c1, by rw [List.getElem?_append_left (by omega)]; exact h1, by rw [List.getElem?_append_left (by omega)]; exact h2, keep h3, h4⟩
  · cases hk
    rcases hg with e | e
    · exact h.farD _ e
    · exact Nat.le_trans hB e
  · cases hk
    rcases hg with e | e
    · exact h.ne _ e hk2
    · exact absurd (owns_block h.ful hk2) (Nat.not_lt.2 e)
theorem RoomMid.on {B : Nat} {w w' : World} {p : Nat} {ds : List (List Int)} {j : Nat} {sD sF : Value} {vs fs : List Value} {gc cc : Nat} (h : RoomMid B w p ds j sD sF vs fs gc cc) (hb : Below w.heap.size w w') : RoomMid B w' p ds j sD sF vs fs gc cc :=
  ⟨(hb.block _ (heap_lt h.row)).trans h.row, owns_on h.dat hb, owns_on h.ful hb, fun i hi => by obtain ⟨g, c, h1, h2, h3, h4⟩ := h.els i hi; exact ⟨g, c, h1, h2, h3.on hb, h4⟩, h.one.on hb, h.farD, h.farF, h.ne⟩
/-- append of one slice, as a step of a region that draws -/
theorem step_s1 {ops : Array Oper} {o : Oper} {act : Act} {K : Act → World → Prop} {Q : Exit → Act → World → Prop} {E : Prop} {w1 : World} (hgd : o.guard = none) (s x : Operand)
    (ho : o.op = .call { callee := .builtin .append, args := #[s, x], argTypes := #[27, 27] }) (v : Value) (k : Nat) (l : List Value) (u : Value) (hu : u.oneCell' = true) (hs : act.eval s = v) (hx : act.eval x = .slice (some ⟨w1.heap.size, 0, none⟩) 1 1)
    (hown : w1.ownsRow 0 23 1 v k l) (h47 : k + 1 ≤ 5864062014805)
    (h : ∀ g cap w', w'.ownsRow 0 23 1 (.slice (some ⟨g, 0, none⟩) (k + 1) cap) (k + 1) (l ++ [u]) → Fr (fun k => v.ownBlock = some k) w1 w' → (v.ownBlock = some g ∨ w1.heap.size ≤ g) → K (act.put o.dst (.slice (some ⟨g, 0, none⟩) (k + 1) cap)) w') :
    if Region.wanted o (yielded ops act.tmps) = true then Oper.wp Tryd.prog o act (w1.alloc (.cells #[u] 23)) K Q else E := by
  have hA : Below w1.heap.size w1 (w1.alloc (.cells #[u] 23)) := (Below.refl _ _).alloc (Nat.le_refl _) _
  obtain ⟨i0, hi, hz0, hz1, hz2⟩ := info_parts info22
  refine step_own hgd s x 27 ho 23 i0 _ 1 24 Tryd.underlying27 hi hz0 hz1 hz2 rfl (by decide) v k l hs (owns_on hown hA) ⟨w1.heap.size, 0, none⟩ 1 1 [u] hx (by omega) rfl (news1 w1 u) (fun y hy => by simp at hy; subst hy; exact hu) (by unfold maxLen; omega) (by omega) ?_
  intro g cap w' h1 h2 h3
  refine h g cap w' h1 ((below_fr hA _).trans h2 (fun k hk => .inl hk)) (h3.elim .inl (fun e => .inr (Nat.le_trans hA.size e)))
/-- blocks of any length that can be copied -/
def Small (ds : List (List Int)) : Prop := ∀ i, i < ds.length → (row ds i).length ≤ 140737488351232
end Go.Proofs.YtpheajiepnjhdaaDoor
