import Derived.Test.YtipbflmonhlnjaaKPyM
import Derived.Test.YtipbflmonhlnjaaKRfF
namespace Go.Proofs.Ytipbflmonhlnjaa
open Go.RowKit Rec
theorem Dk.hasAll {D : Dk} {k : Nat} (h : D.has k) : D.all k := .inl h
/-- a step on both sides -/
theorem pr_step {w w1 wx w2 : World} {D D' : Dk} {R R' : RDk} {j j' : Nat} (h : Pr w D R j) (hD : Disk w1 D') (hM : Mv w D w1 D') (hA : Al w.heap.size D D') (hx : Below w1.heap.size w1 wx) (hR : RDisk w2 R') (f : Fr (fun k => k = R.r ∨ R.av.ownBlock = some k) wx w2) (hRA : ∀ k, R'.all k → R.all k ∨ wx.heap.size ≤ k) (hr : R'.r = R.r)
    (ht : Tie D'.abs R') (h1 : D'.tap.length ≤ j') (h2 : D'.wr ≤ j') (h3 : D'.fl ≤ j') (h4 : D'.keep.length ≤ 1048576 ∧ R'.keep.length ≤ 1048576) (h5 : R'.left ≤ 9223372036854775807) : PrM w D R w2 D' R' j' := by
  have hw1 := hM.fr.size
  have hRw : ∀ k, (k = R.r ∨ R.av.ownBlock = some k) → R.all k := fun k e => e.elim .inl (fun e => .inr (.inr (.inl e)))
  have hDw : ∀ k, D'.all k → ¬ (k = R.r ∨ R.av.ownBlock = some k) := fun k e e2 => by
    rcases hA k e with e3 | e3
    · exact h.ap k e3 (hRw k e2)
    · have := h.r.lt (hRw k e2); omega
  refine ⟨⟨(hD.on hx).fr f hDw, hR, fun k e e2 => ?_, ht, h1, h2, h3, h4, h5⟩, ?_, fun k e => ?_, hM.d, hr⟩
  · rcases hRA k e2 with e3 | e3
    · rcases hA k e with e4 | e4
      · exact h.ap k e4 e3
      · have := h.r.lt e3; omega
    · have := hD.ltAll e; have := hx.size; omega
  · exact ((hM.fr.mono (fun k e => .inl (Dk.hasAll e))).trans (below_fr hx (fun _ => False)) (fun _ e => e.elim)).trans f (fun k e => .inl (.inr (hRw k e)))
  · rcases e with e | e
    · exact (hA k e).imp .inl id
    · rcases hRA k e with e | e
      · exact .inl (.inr e)
      · exact .inr (by have := hx.size; omega)
theorem pr_same {w w2 : World} {D : Dk} {R : RDk} {j j' : Nat} (h : Pr w D R j) (hj : j ≤ j') (hb : Below w.heap.size w w2) : PrM w D R w2 D R j' := ⟨(h.on hb).up hj, below_fr hb _, fun _ e => .inl e, rfl, rfl⟩
theorem goes_all {R : RDk} {k : Nat} (h : R.goes.all k) : R.all k := by
  obtain ⟨_, _, g3, _, _, _, g7, g8, _, g10, g11⟩ := goes_same R
  unfold RDk.all at h ⊢
  rw [g3, g7, g8, g10, g11] at h
  exact h
theorem write_len (a : AD) (i : Nat) (x : List Int) : (a.write i x).T.length = a.T.length + 1 ∧ (a.write i x).wr = a.wr + 1 ∧ (a.write i x).fl = a.fl ∧ (a.write i x).keep = a.keep := by
  unfold AD.write AD.cut AD.settle AD.tick
  dsimp only
  split
  · simp
  · split <;> simp
theorem flush_len (a : AD) : (a.flush).T.length ≤ a.T.length + 1 ∧ (a.flush).wr = a.wr ∧ (a.flush).fl = a.fl + 1 ∧ (a.flush).keep = a.keep := by
  unfold AD.flush AD.cut AD.settle AD.tick
  dsimp only
  split
  · simp
  · split <;> simp
theorem roomD {w : World} {D : Dk} {R : RDk} {j : Nat} (h : Pr w D R j) (hj : j + 1 ≤ 100000000) : RoomD D.abs := by
  have h1 := h.tl; have h2 := h.wl; have h3 := h.fl; have h4 := h.kl.1
  refine ⟨?_, ?_, ?_, ?_, ?_⟩
  · rw [abs_len]
    have hp : D.pen.length ≤ D.tap.length := by
      rw [← abs_len, ← abs_tlen]
      cases ho : R.out with
      | true => rw [(h.tie.off ho).2]; exact Nat.zero_le _
      | false =>
        rw [(h.tie.on ho).2.1, h.tie.T, List.length_map]
        have : ∀ k, (pnd R.L k).length ≤ k := fun k => by
          induction k with
          | zero => exact Nat.le_refl _
          | succ k ih => rw [pnd]; split <;> simp <;> omega
        exact this _
    omega
  · rw [abs_tlen]; omega
  · show D.wr + 1 ≤ _; omega
  · show D.fl + 1 ≤ _; omega
  · show D.keep.length ≤ _; omega
theorem rlen {w : World} {D : Dk} {R : RDk} {j : Nat} (h : Pr w D R j) : R.L.length ≤ j := by
  have := h.tl; rw [← abs_tlen, h.tie.T, List.length_map] at this; exact this
/-- Write on both sides -/
theorem pwrite {w : World} {D : Dk} {R : RDk} {j : Nat} (h : Pr w D R j) (hj : j + 1 ≤ 100000000) (i : Int) (pl : Option Addr) (n cl : Nat) (l : List Int) (hbl : Bytes w pl l) (hpl : ∀ p, pl = some p → ¬ PrA D R p.block) (a : Option Addr) (c : Nat) (hb : Bytes w a l) (ha : l ≠ [] → ∀ p, a = some p → ¬ PrA D R p.block) (hl : l.length = n) (hn : n ≤ 1048576) :
    ∃ E : Int, Calls Try.prog 19 #[.pointer (some ⟨D.d, 0, none⟩), .int .i64 i, .slice pl n cl] w fun e w1 => e = .returned (.int .i64 E) ∧ Fr (PrA D R) w w1 ∧ ∀ wx, Below w1.heap.size w1 wx → Calls Try.prog 20 #[.pointer (some ⟨R.r, 0, none⟩), .int .i64 i, .slice a n c] wx fun e w2 => e = .returned (.int .i64 E) ∧ ∃ D' R', PrM w D R w2 D' R' (j + 1) := by
  have hnb : D.nb = R.nb := h.tie.nb
  have hdo : D.down = R.out := h.tie.dn
  by_cases hd : D.down = true
  · have ht : touchE D i = 30 := by unfold touchE; rw [if_pos hd]
    refine ⟨30, (write_no w D h.d i pl n cl (by rw [ht]; decide)).mono ?_⟩
    rintro e w1 ⟨rfl, rfl⟩
    refine ⟨by rw [ht], Fr.refl _ _, fun wx hx => ?_⟩
    refine (rwrite_out wx R (h.r.on hx) (by rw [← hdo]; exact hd) i a n c).mono ?_
    rintro e w2 ⟨rfl, rfl⟩
    exact ⟨rfl, D, R, pr_same h (by omega) hx⟩
  · have hd' : D.down = false := by cases e : D.down with | true => exact absurd e hd | false => rfl
    have hro : R.out = false := by rw [← hdo]; exact hd'
    by_cases hi : 0 ≤ i ∧ i < D.nb
    · have ht : touchE D i = 0 := by unfold touchE; rw [if_neg hd, if_pos hi]
      by_cases h5 : n = 512
      · obtain ⟨i', rfl⟩ : ∃ i' : Nat, i = (i' : Int) := ⟨i.toNat, by omega⟩
        obtain ⟨p, rfl⟩ : ∃ p, pl = some p := by
          cases pl with
          | some p => exact ⟨p, rfl⟩
          | none => have := hbl.nil; rw [this] at hl; simp at hl; omega
        subst h5
        have hRm := roomD h hj
        have hil : i' < D.nb := by omega
        refine ⟨D.abs.stepE, (write_yes w D h.d i' p cl l hil hd' hbl hl hRm (fun e => hpl p rfl (.inl (Dk.hasAll e)))).mono ?_⟩
        rintro e w1 ⟨rfl, D', hD, hM, hA, habs⟩
        have hFr : Fr (PrA D R) w w1 := hM.fr.mono (fun k e => .inl (Dk.hasAll e))
        refine ⟨rfl, hFr, fun wx hx => ?_⟩
        have hR1 : RDisk w1 R := h.r.fr hM.fr (fun k e e2 => h.ap k (Dk.hasAll e2) e)
        have hRx := hR1.on hx
        have hbx : Bytes wx a l := by
          cases a with
          | none => have := hb.nil; rw [this] at hl; simp at hl
          | some p' => exact (Bytes.fr hb hFr (ha (fun z => by rw [z] at hl; simp at hl) p' rfl)).on hx
        have hwl := h.wl
        have hwi : (D.wr : Int) = R.wr := h.tie.wr
        have hrl := rlen h
        refine (rwrite_ok wx R hRx hro (i' : Int) a 512 c l hbx hl (by omega) ⟨by omega, by omega⟩ rfl ⟨by omega, by omega⟩ (by omega) h.lf).mono ?_
        rintro e w2 ⟨rfl, b, bc, g, cap, hR2, f2, hb2, hg2⟩
        obtain ⟨t1, t2⟩ := h.tie.write (i := i') (x := l) (q := ⟨1, (i' : Int), some ⟨g, 0, none⟩, cap, l⟩) (R1 := { R with wr := R.wr + 1, av := .slice (some ⟨b, 0, none⟩) (R.L.length + 1) bc, L := R.L ++ [⟨1, (i' : Int), some ⟨g, 0, none⟩, cap, l⟩] }) hro ⟨rfl, rfl, rfl⟩ ⟨rfl, rfl, rfl, rfl, rfl, rfl, rfl, rfl⟩
        rw [← habs] at t1
        obtain ⟨l1, l2, l3, l4⟩ := write_len D.abs i' l
        rw [← habs] at l1 l2 l3 l4
        rw [abs_tlen, abs_tlen] at l1
        obtain ⟨g1, g2, g3, g4, g5, g6, g7, g8, g9, g10, g11⟩ := goes_same { R with wr := R.wr + 1, av := .slice (some ⟨b, 0, none⟩) (R.L.length + 1) bc, L := R.L ++ [⟨1, (i' : Int), some ⟨g, 0, none⟩, cap, l⟩] }
        have htl := h.tl
        have hfl := h.fl
        refine ⟨by rw [t2], D', _, pr_step h hD hM hA hx hR2 f2 (fun k e => ?_) g7 t1 (by omega) (by show D'.abs.wr ≤ _; rw [l2]; show D.wr + 1 ≤ _; omega) (by show D'.abs.fl ≤ _; rw [l3]; show D.fl ≤ _; omega) ⟨by show D'.abs.keep.length ≤ _; rw [l4]; exact h.kl.1, by rw [g4]; exact h.kl.2⟩ ?_⟩
        · rcases goes_all e with e | e | e | e | ⟨q, hq, p', e, e2⟩
          · exact .inl (.inl e)
          · exact .inl (.inr (.inl e))
          · cases e
            rcases hb2 with hb2 | hb2
            · exact .inl (.inr (.inr (.inl hb2)))
            · exact .inr hb2
          · exact .inl (.inr (.inr (.inr (.inl e))))
          · rcases List.mem_append.1 hq with hq | hq
            · exact .inl (.inr (.inr (.inr (.inr ⟨q, hq, p', e, e2⟩))))
            · rw [List.mem_singleton] at hq; subst hq; cases e; rw [← e2]; exact .inr hg2
        · have h6 := h.lf
          have h7 := h.r.lft
          unfold RDk.goes; split
          · exact h6
          · show R.left - 1 ≤ _; omega
      · refine ⟨32, (write_size w D h.d i pl n cl ht h5).mono ?_⟩
        rintro e w1 ⟨rfl, rfl⟩
        refine ⟨rfl, Fr.refl _ _, fun wx hx => ?_⟩
        have he : actE R.nb (wq i l) = 32 := by
          unfold actE wq; rw [if_pos rfl, if_pos (by rw [← hnb]; exact hi), if_neg (by rw [hl]; exact h5)]
        refine (rwrite_head wx R (h.r.on hx) hro i a n c l (hb.on hx) hl (by omega) (by rw [he]; decide)).mono ?_
        rintro e w2 ⟨rfl, hb2⟩
        exact ⟨by rw [he], D, R, pr_same h (by omega) (hx.trans (hb2.mono hx.size))⟩
    · have ht : touchE D i = 31 := by unfold touchE; rw [if_neg hd, if_neg hi]
      refine ⟨31, (write_no w D h.d i pl n cl (by rw [ht]; decide)).mono ?_⟩
      rintro e w1 ⟨rfl, rfl⟩
      refine ⟨by rw [ht], Fr.refl _ _, fun wx hx => ?_⟩
      have he : actE R.nb (wq i l) = 31 := by
        unfold actE wq; rw [if_pos rfl, if_neg (by rw [← hnb]; exact hi)]
      refine (rwrite_head wx R (h.r.on hx) hro i a n c l (hb.on hx) hl (by omega) (by rw [he]; decide)).mono ?_
      rintro e w2 ⟨rfl, hb2⟩
      exact ⟨by rw [he], D, R, pr_same h (by omega) (hx.trans (hb2.mono hx.size))⟩
end Go.Proofs.Ytipbflmonhlnjaa

namespace Go.Proofs.Ytipbflmonhlnjaa
open Go.RowKit Rec
set_option maxRecDepth 100000 in
set_option maxHeartbeats 4000000 in
theorem rcrash_anyE (w : World) (D : RDk) (h : RDisk w D) (ho : D.out = false) (ka : Option Addr) (kn kc : Nat) (keep : List Bool) (hk : Bools w (.slice ka kn kc) keep) (hkn : keep.length = kn) (h47 : kn ≤ 140737488351232) (hkr : keep ≠ [] → ∀ b off, ka = some ⟨b, off, none⟩ → b ≠ D.r) :
    Calls Try.prog 28 #[.pointer (some ⟨D.r, 0, none⟩), .slice ka kn kc] w fun e w' => e = .returned (.tuple #[]) ∧ RCr w D kn keep w' := by
  have c4 : w.cell? ⟨D.r, 4, none⟩ = some (.bool false) := by rw [h.cell 4, ← ho]; rfl
  have f4 := h.frozen 4
  obtain ⟨p1, p2⟩ := h.put (D' := { D with out := true }) 4 (.bool true) rfl rfl rfl ⟨rfl, rfl, rfl⟩ ⟨rfl, rfl⟩ ⟨rfl, rfl⟩ h.lft
  obtain ⟨w1, hw1⟩ : ∃ w1, w.setCell ⟨D.r, 4, none⟩ (.bool true) = w1 := ⟨_, rfl⟩
  rw [hw1] at p1 p2
  have hk1 : Bools w1 (.slice ka kn kc) keep := by
    obtain ⟨a, c, e, hh⟩ := hk
    cases e
    refine ⟨ka, kc, rfl, ?_⟩
    rcases hh with hh | ⟨b, off, e2, hc⟩
    · exact .inl hh
    · refine .inr ⟨b, off, e2, fun i x hi => p2.cell (hc i x hi) (fun e3 => hkr (fun z => by rw [z] at hi; simp at hi) b off e2 e3)⟩
  have CM : Hid (Calls Try.prog 59 #[.slice ka kn kc] w1 fun e w' => ∃ v c, e = .returned (.slice v kn c) ∧ w'.ownsRow 0 4 1 (.slice v kn c) kn (keep.map Value.bool) ∧ (∀ b, (Value.slice v kn c).ownBlock = some b → w1.heap.size ≤ b) ∧ Below w1.heap.size w1 w') := rmarks_any w1 ka kn kc keep hk1 hkn h47
  have H1 : Hid (RDisk w1 { D with out := true } ∧ Fr (fun k => k = D.r) w w1 ∧ keep.length = kn) := ⟨p1, p2, hkn⟩
  clear h hk hk1 hkn p1 p2 ho hkr
  go_enter Try.func28, Try.ntmps28
  go_wp2_with (go_at_call 59; refine CM.out.mono ?_; rintro e w2 ⟨v, vc, rfl, h1, h2, h3⟩
               have H2 : Hid (RDisk (w2.setCell ⟨D.r, 2, none⟩ (.slice v kn vc)) { D with out := true, kv := .slice v kn vc, keep := keep } ∧ Fr (fun k => k = D.r) w (w2.setCell ⟨D.r, 2, none⟩ (.slice v kn vc)) ∧ w2.heap[D.r]? = some (.cells ({ D with out := true } : RDk).cells 53 (0, 0)) ∧ ∀ b, (Value.slice v kn vc).ownBlock = some b → w.heap.size ≤ b) := (by
                 have hd := H1.out.1.on h3
                 have h1' := h1
                 rw [← H1.out.2.2] at h1'
                 obtain ⟨g1, g2⟩ := hd.putK (v := .slice v keep.length vc) (K := keep) h1'
                 rw [H1.out.2.2] at g1 g2
                 exact ⟨g1, (H1.out.2.1.trans (below_fr h3 (fun _ => False)) (fun _ e => e.elim)).trans g2 (fun k e => .inl e), hd.box, fun b e => Nat.le_trans H1.out.2.1.size (h2 b e)⟩)
               have d2 : w2.cell? ⟨D.r, 2, none⟩ = some D.kv := cell_of_row _ _ 2 _ _ _ H2.out.2.2.1
               have e2 : w2.frozen? ⟨D.r, 2, none⟩ = false := frozen_of_row _ _ 2 _ _ H2.out.2.2.1
               clear h1 h2 h3)
  go_end0
  exact ⟨rfl, v, vc, H2.out.1, H2.out.2.1, H2.out.2.2.2⟩
set_option maxRecDepth 100000 in
set_option maxHeartbeats 4000000 in
theorem rarm_anyE (w : World) (D : RDk) (h : RDisk w D) (ho : D.out = false) (t : Int) (ka : Option Addr) (kn kc : Nat) (keep : List Bool) (hk : Bools w (.slice ka kn kc) keep) (hkn : keep.length = kn) (h47 : kn ≤ 140737488351232) (hkr : keep ≠ [] → ∀ b off, ka = some ⟨b, off, none⟩ → b ≠ D.r) :
    Calls Try.prog 25 #[.pointer (some ⟨D.r, 0, none⟩), .agg #[.int .i64 t, .slice ka kn kc]] w fun e w' => e = .returned (.int .i64 0) ∧ RAr w D t kn keep w' := by
  obtain ⟨wA, hwA⟩ : ∃ wA, w.alloc (.cells #[.int .i64 t, .slice ka kn kc] 66) = wA := ⟨_, rfl⟩
  obtain ⟨P, hP⟩ : ∃ P, w.heap.size = P := ⟨_, rfl⟩
  have hal : Below w.heap.size w wA := by rw [← hwA]; exact (Below.refl _ _).alloc (Nat.le_refl _) _
  have hz : wA.heap[P]? = some (.cells #[.int .i64 t, .slice ka kn kc] 66 (0, 0)) := by rw [← hwA, ← hP]; exact heap_alloc_new _ _
  have hA := h.on hal
  have hPr : P ≠ D.r := by have := heap_lt h.box; omega
  have c4 : wA.cell? ⟨D.r, 4, none⟩ = some (.bool false) := by rw [hA.cell 4, ← ho]; rfl
  have c3 : wA.cell? ⟨D.r, 3, none⟩ = some (.int .i64 D.left) := hA.cell 3
  have f3 := hA.frozen 3
  obtain ⟨p1, p2⟩ := hA.put (D' := { D with left := 0 }) 3 (.int .i64 0) rfl rfl rfl ⟨rfl, rfl, rfl⟩ ⟨rfl, rfl⟩ ⟨rfl, rfl⟩ (Int.le_refl 0)
  obtain ⟨w1, hw1⟩ : ∃ w1, wA.setCell ⟨D.r, 3, none⟩ (.int .i64 0) = w1 := ⟨_, rfl⟩
  rw [hw1] at p1 p2
  have hz1 := p2.heap hz hPr
  have y0 : w1.cell? ⟨P, 0, none⟩ = some (.int .i64 t) := cell_of_row _ _ 0 _ _ _ hz1
  have q0 : Fr (fun k => k = D.r) w w1 := (below_fr hal (fun k => k = D.r)).trans p2 (fun k e => .inl e)
  by_cases ht : 0 < t
  · unfold RAr
    simp only [if_pos ht]
    have d3 : w1.cell? ⟨D.r, 3, none⟩ = some (.int .i64 0) := p1.cell 3
    have g3 := p1.frozen 3
    obtain ⟨k1, k2⟩ := p1.put (D' := { D with left := t }) 3 (.int .i64 t) rfl rfl rfl ⟨rfl, rfl, rfl⟩ ⟨rfl, rfl⟩ ⟨rfl, rfl⟩ (by show 0 ≤ t; omega)
    obtain ⟨w2, hw2⟩ : ∃ w2, w1.setCell ⟨D.r, 3, none⟩ (.int .i64 t) = w2 := ⟨_, rfl⟩
    rw [hw2] at k1 k2
    have hz2 := k2.heap hz1 hPr
    have y1 : w2.cell? ⟨P, 1, none⟩ = some (.slice ka kn kc) := cell_of_row _ _ 1 _ _ _ hz2
    have q1 : Fr (fun k => k = D.r) w w2 := q0.trans k2 (fun k e => .inl e)
    have hk2 : Bools w2 (.slice ka kn kc) keep := by
      obtain ⟨a, c, e, hh⟩ := hk
      cases e
      refine ⟨ka, kc, rfl, ?_⟩
      rcases hh with hh | ⟨b, off, e2, hc⟩
      · exact .inl hh
      · exact .inr ⟨b, off, e2, fun i x hi => q1.cell (hc i x hi) (fun e3 => hkr (fun z => by rw [z] at hi; simp at hi) b off e2 e3)⟩
    have CM : Hid (Calls Try.prog 59 #[.slice ka kn kc] w2 fun e w' => ∃ v c, e = .returned (.slice v kn c) ∧ w'.ownsRow 0 4 1 (.slice v kn c) kn (keep.map Value.bool) ∧ (∀ b, (Value.slice v kn c).ownBlock = some b → w2.heap.size ≤ b) ∧ Below w2.heap.size w2 w') := rmarks_any w2 ka kn kc keep hk2 hkn h47
    have H1 : Hid (RDisk w2 { D with left := t } ∧ Fr (fun k => k = D.r) w w2 ∧ keep.length = kn) := ⟨k1, q1, hkn⟩
    clear h hk hk2 hkn p1 p2 ho hkr k1 k2 q0 q1 hz hz1 hz2 hA hal
    go_enter Try.func25, Try.ntmps25
    go_wp2_with (go_at_call 59; refine CM.out.mono ?_; rintro e w3 ⟨v, vc, rfl, h1, h2, h3⟩
                 have H2 : Hid (RDisk (w3.setCell ⟨D.r, 2, none⟩ (.slice v kn vc)) { D with left := t, kv := .slice v kn vc, keep := keep } ∧ Fr (fun k => k = D.r) w (w3.setCell ⟨D.r, 2, none⟩ (.slice v kn vc)) ∧ w3.heap[D.r]? = some (.cells ({ D with left := t } : RDk).cells 53 (0, 0)) ∧ ∀ b, (Value.slice v kn vc).ownBlock = some b → w.heap.size ≤ b) := (by
                   have hd := H1.out.1.on h3
                   have h1' := h1
                   rw [← H1.out.2.2] at h1'
                   obtain ⟨g1, g2⟩ := hd.putK (v := .slice v keep.length vc) (K := keep) h1'
                   rw [H1.out.2.2] at g1 g2
                   exact ⟨g1, (H1.out.2.1.trans (below_fr h3 (fun _ => False)) (fun _ e => e.elim)).trans g2 (fun k e => .inl e), hd.box, fun b e => Nat.le_trans H1.out.2.1.size (h2 b e)⟩)
                 have d2 : w3.cell? ⟨D.r, 2, none⟩ = some D.kv := cell_of_row _ _ 2 _ _ _ H2.out.2.2.1
                 have e2 : w3.frozen? ⟨D.r, 2, none⟩ = false := frozen_of_row _ _ 2 _ _ H2.out.2.2.1
                 clear h1 h2 h3)
    go_ret
    exact ⟨rfl, v, vc, H2.out.1, H2.out.2.1, H2.out.2.2.2⟩
  · unfold RAr
    simp only [if_neg ht]
    have H1 : Hid (RDisk w1 { D with left := 0 } ∧ Fr (fun k => k = D.r) w w1) := ⟨p1, q0⟩
    clear h hk hkn p1 p2 ho hkr q0 hz hz1 hA hal
    go_enter Try.func25, Try.ntmps25
    go_wp2
    go_ret
    exact ⟨rfl, H1.out.1, H1.out.2, none, 0, fun b e => by cases e⟩
end Go.Proofs.Ytipbflmonhlnjaa
