import Derived.Test.YtgmccpimpbnnpaaDoorOwF
namespace Go.Proofs.YtgmccpimpbnnpaaDoor
open Go.RowKit Go.Maps Rec
def FPm (νν : Nat → Nat → Nat) (i a : Nat) : Nat → Int := if a < i then mkP a else FPf νν a
def FTm (νν : Nat → Nat → Nat) (i a : Nat) : Nat → Int := if a < i then mkT a else FTf νν a
def FPk (νν : Nat → Nat → Nat) (i k : Nat) : Nat → Nat → Int := upN (FPm νν i) i (fun j => if j < k * 2 then mkP i j else FPf νν i j)
def FTk (νν : Nat → Nat → Nat) (i k : Nat) : Nat → Nat → Int := upN (FTm νν i) i (fun j => if j < k then mkT i j else FTf νν i j)
theorem FPk_zero (νν : Nat → Nat → Nat) (i a j : Nat) : FPm νν i a j = FPk νν i 0 a j := by
  unfold FPk
  by_cases e : a = i
  · subst e; rw [upN_same, if_neg (by omega), FPm, if_neg (by omega)]
  · rw [upN_other _ _ e]
theorem FTk_zero (νν : Nat → Nat → Nat) (i a j : Nat) : FTm νν i a j = FTk νν i 0 a j := by
  unfold FTk
  by_cases e : a = i
  · subst e; rw [upN_same, if_neg (by omega), FTm, if_neg (by omega)]
  · rw [upN_other _ _ e]
theorem FPk_all (νν : Nat → Nat → Nat) (i a j : Nat) (hj : j < MPf νν a * 2) : FPk νν i (MPf νν i) a j = FPm νν (i + 1) a j := by
  unfold FPk
  by_cases e : a = i
  · subst e; rw [upN_same, if_pos hj, FPm, if_pos (by omega)]
  · rw [upN_other _ _ e, FPm, FPm]
    by_cases h : a < i
    · rw [if_pos h, if_pos (by omega)]
    · rw [if_neg h, if_neg (by omega)]
theorem FTk_all (νν : Nat → Nat → Nat) (i a j : Nat) (hj : j < MTf νν a * 1) : FTk νν i (MTf νν i) a j = FTm νν (i + 1) a j := by
  unfold FTk
  by_cases e : a = i
  · subst e; rw [upN_same, if_pos (by omega), FTm, if_pos (by omega)]
  · rw [upN_other _ _ e, FTm, FTm]
    by_cases h : a < i
    · rw [if_pos h, if_pos (by omega)]
    · rw [if_neg h, if_neg (by omega)]
theorem MM.markP {νν : Nat → Nat → Nat} {wB w : World} {pv tv wv av : Value} {V W : Nat → Value} {FT : Nat → Nat → Int} {fP fT : Nat → Int} {i k g c : Nat} (h : MM wB w pv V tv W wv av (MPf νν) (MTf νν) (FPk νν i k) FT fP fT) (hi : i < 3) (hk : k < MPf νν i) (hv : V i = .slice (some ⟨g, 0, none⟩) (MPf νν i) c) :
    ∃ cur : Array Value, w.heap[g]? = some (.cells cur 50 (0, 0)) ∧ k * 2 + 2 ≤ cur.size ∧ MM wB (w.setRow g (cur.toList.take (k * 2) ++ [Value.int .i64 (-1 - (i : Int)), Value.int .i64 (k : Int)] ++ cur.toList.drop (k * 2 + 2)).toArray) pv V tv W wv av (MPf νν) (MTf νν) (FPk νν i (k + 1)) FT fP fT := by
  have h0 := h.p.ls i hi
  rw [hv] at h0
  obtain ⟨cur, hg, hs, hr⟩ := own_set h0 (k * 2) [-1 - (i : Int), (k : Int)] (by show k * 2 + 2 ≤ _; omega)
  refine ⟨cur, hg, hs, ?_⟩
  have x := setRow_fr w g (cur.toList.take (k * 2) ++ [Value.int .i64 (-1 - (i : Int)), Value.int .i64 (k : Int)] ++ cur.toList.drop (k * 2 + 2)).toArray
  refine (h.setP hi (x.mono (fun b e => by rw [hv, e]; rfl)) (by rw [hv]; exact hr)).congr (fun a _ j _ => ?_) (fun _ _ _ _ => rfl)
  unfold FPk
  by_cases e : a = i
  · subst e
    rw [upN_same, upN_same, upN_same]
    show (if k * 2 ≤ j ∧ j < k * 2 + 2 then [-1 - (a : Int), (k : Int)].getD (j - k * 2) 0 else if j < k * 2 then mkP a j else FPf νν a j) = _
    by_cases h1 : j < k * 2
    · rw [if_neg (by omega), if_pos h1, if_pos (by omega)]
    · by_cases h2 : j < k * 2 + 2
      · rw [if_pos ⟨by omega, h2⟩, if_pos (by omega)]
        rcases (show j = k * 2 ∨ j = k * 2 + 1 by omega) with e | e
        · rw [e, Nat.sub_self, mkP, if_pos (by omega)]; rfl
        · rw [e, show k * 2 + 1 - k * 2 = 1 by omega, mkP, if_neg (by omega), show (k * 2 + 1) / 2 = k by omega]; rfl
      · rw [if_neg (by omega), if_neg h1, if_neg (by omega)]
  · rw [upN_other _ _ e, upN_other _ _ e, upN_other _ _ e]
theorem MM.markT {νν : Nat → Nat → Nat} {wB w : World} {pv tv wv av : Value} {V W : Nat → Value} {FP : Nat → Nat → Int} {fP fT : Nat → Int} {i k g c : Nat} (h : MM wB w pv V tv W wv av (MPf νν) (MTf νν) FP (FTk νν i k) fP fT) (hi : i < 3) (hk : k < MTf νν i) (hv : W i = .slice (some ⟨g, 0, none⟩) (MTf νν i) c) :
    MM wB (w.setCell ⟨g, k, none⟩ (.int .i64 (-100 - (i : Int)))) pv V tv W wv av (MPf νν) (MTf νν) FP (FTk νν i (k + 1)) fP fT := by
  have h0 := h.t.ls i hi
  rw [hv] at h0
  have hr := own_set1 h0 k (-100 - (i : Int)) (by omega)
  have x : Fr (fun b => b = g) w (w.setCell ⟨g, k, none⟩ (.int .i64 (-100 - (i : Int)))) := Fr.set
  refine (h.setT hi (x.mono (fun b e => by rw [hv, e]; rfl)) (by rw [hv]; exact hr)).congr (fun _ _ _ _ => rfl) (fun a _ j _ => ?_)
  unfold FTk
  by_cases e : a = i
  · subst e
    rw [upN_same, upN_same, upN_same]
    show (if j = k then -100 - (a : Int) else if j < k then mkT a j else FTf νν a j) = _
    by_cases h1 : j = k
    · rw [if_pos h1, if_pos (by omega)]; rfl
    · rw [if_neg h1]
      by_cases h2 : j < k
      · rw [if_pos h2, if_pos (by omega)]
      · rw [if_neg h2, if_neg (by omega)]
  · rw [upN_other _ _ e, upN_other _ _ e, upN_other _ _ e]
theorem szPo : (Tryd.prog.info? 50).map (·.size) = some (2 : Nat) := by kernel_rfl
theorem below_two (w : World) (a b : Obj) : Below w.heap.size w ((w.alloc a).alloc b) := (below_new a).trans ((below_new b).mono (below_new a).size)
theorem bd0 (w : World) : Below w.heap.size w w.drew := (Below.refl _ _).drew
theorem bd1 (w : World) (a : Obj) : Below w.heap.size w (w.alloc a).drew := (below_new a).trans (((Below.refl _ _).drew).mono (below_new a).size)
theorem bd2 (w : World) (a b : Obj) : Below w.heap.size w ((w.alloc a).alloc b).drew := (below_two w a b).trans (((Below.refl _ _).drew).mono (below_two w a b).size)
theorem lit_d1 (w : World) (cs : Array Value) (t : TypeId) : (w.alloc (.cells cs t)).drew.heap[w.heap.size]? = some (.cells cs t (0, 0)) := heap_alloc_new w _
theorem lit_d2 (w : World) (cs : Array Value) (t : TypeId) (b : Obj) : ((w.alloc (.cells cs t)).alloc b).drew.heap[w.heap.size]? = some (.cells cs t (0, 0)) := ((below_new b).block _ (by simp)).trans (heap_alloc_new w _)
theorem lit_d3 (w : World) (cs : Array Value) (t : TypeId) (b : Obj) : ((w.alloc b).alloc (.cells cs t)).drew.heap[(w.alloc b).heap.size]? = some (.cells cs t (0, 0)) := heap_alloc_new (w.alloc b) _
theorem lit_n2 (w : World) (cs : Array Value) (t : TypeId) (b : Obj) : ((w.alloc b).alloc (.cells cs t)).heap[w.heap.size + 1]? = some (.cells cs t (0, 0)) := by
  have := heap_alloc_new (w.alloc b) (.cells cs t)
  rw [World.size_alloc] at this
  exact this
theorem lit_d4 (w : World) (cs : Array Value) (t : TypeId) (b : Obj) : ((w.alloc b).alloc (.cells cs t)).drew.heap[w.heap.size + 1]? = some (.cells cs t (0, 0)) := lit_n2 w cs t b
theorem lit_keep {w w' : World} {L t : Nat} {cs : Array Value} {fr : Nat × Nat} {v : Value} {B e s n : Nat} {xs : List Value} (hL : w.heap[L]? = some (.cells cs t fr)) (x : Fr (fun b => v.ownBlock = some b) w w') (hv : w.ownsRow B e s v n xs) (hne : e ≠ t) : w'.heap[L]? = some (.cells cs t fr) := x.heap hL (fun e => own_not hv hL hne e)
theorem lit_old {w : World} {L : Nat} {o : Obj} (hL : w.heap[L]? = some o) (a : Obj) : (w.alloc a).heap[L]? = some o := ((below_new a).block L (Array.getElem?_eq_some_iff.1 hL).1).trans hL
def S2o (gp gt k : Nat) (vP vT : Value) (w : World) : Prop := w.cell? ⟨gp, k, none⟩ = some vP ∧ w.cell? ⟨gt, k, none⟩ = some vT
theorem MG.s2 {wB w4 w w' : World} {wv av lv qv vP vT : Value} {V W G H : Nat → Value} {MP MT : Nat → Nat} {fP fT : Nat → Int} {kp kt gp gt cp ct k : Nat} (h : MG wB w4 w (.slice (some ⟨gp, 0, none⟩) 3 cp) V (.slice (some ⟨gt, 0, none⟩) 3 ct) W wv av MP MT fP fT lv G qv H kp kt) (hb : Below w.heap.size w w') (hk : k < 3) (e1 : V k = vP) (e2 : W k = vT) : S2o gp gt k vP vT w' := by
  obtain ⟨_, _, e0, q0⟩ := (h.on hb).p.l.cell hk
  cases e0
  obtain ⟨_, _, e0, q1⟩ := (h.on hb).t.l.cell hk
  cases e0
  rw [e1] at q0
  rw [e2] at q1
  exact ⟨q0, q1⟩
theorem MG.stepP {νν : Nat → Nat → Nat} {wB w4 w0 w u1 : World} {pv tv wv av lv qv : Value} {V W G H : Nat → Value} {fP fT : Nat → Int} {k kt m c b1 cap1 : Nat} {a : Option Addr} (h : MG wB w4 w0 pv V tv W wv av (MPf νν) (MTf νν) fP fT lv G qv H k kt) (hb : Below w0.heap.size w0 w) (hk : k < 3) (hv : V k = .slice a m c) (hm : MPf νν k = m)
    (h1 : u1.ownsRow wB.heap.size 50 2 (.slice (some ⟨b1, 0, none⟩) (m + 1) cap1) (m + 1) (ivs (m * 2) (mkP k) ++ [.int .i64 (-1 - (k : Int)), .int .i64 (m : Int)])) (hst : u1.ownsRow wB.heap.size 50 2 (.slice a m c) m (ivs (m * 2) (mkP k))) (h2 : Fr (fun b => (Value.slice a m c).ownBlock = some b) w u1) (h3 : (Value.slice a m c).ownBlock = some b1 ∨ w.heap.size ≤ b1) :
    MG wB w4 u1 pv V tv W wv av (MPf νν) (MTf νν) fP fT lv G qv H k kt ∧ u1.ownsRow wB.heap.size 50 2 (.slice (some ⟨b1, 0, none⟩) (m + 1) cap1) (MPf νν k + 1) (ivs ((MPf νν k + 1) * 2) (mkP k)) ∧ (∀ b, (Value.slice (some ⟨b1, 0, none⟩) (m + 1) cap1).ownBlock = some b → (V k).ownBlock = some b ∨ (w4.heap.size ≤ b ∧ ∀ i, i < k → (G i).ownBlock ≠ some b)) := by
  have hx := h.on hb
  rw [mkP_two] at h1
  exact ⟨hx.midP hk (by rw [hv]; exact h2) (by rw [hv, hm]; exact hst), by rw [hm]; exact h1, hx.p.new (by rw [hv]; exact h3) rfl⟩
theorem MG.stepL {wB w4 w0 w u2 : World} {pv tv wv av lv qv u : Value} {V W G H : Nat → Value} {MP MT : Nat → Nat} {fP fT : Nat → Int} {k kt b2 cap2 : Nat} (h : MG wB w4 w0 pv V tv W wv av MP MT fP fT lv G qv H k kt ∧ w0.ownsRow wB.heap.size 50 2 u (MP k + 1) (ivs ((MP k + 1) * 2) (mkP k)) ∧ (∀ b, u.ownBlock = some b → (V k).ownBlock = some b ∨ (w4.heap.size ≤ b ∧ ∀ i, i < k → (G i).ownBlock ≠ some b))) (hb : Below w0.heap.size w0 w) (hk : k < 3)
    (h1 : u2.ownsRow wB.heap.size 45 1 (.slice (some ⟨b2, 0, none⟩) (k + 1) cap2) (k + 1) ((List.range k).map G ++ [u])) (h2 : Fr (fun b => lv.ownBlock = some b) w u2) (h3 : lv.ownBlock = some b2 ∨ w.heap.size ≤ b2) :
    MG wB w4 u2 pv V tv W wv av MP MT fP fT (.slice (some ⟨b2, 0, none⟩) (k + 1) cap2) (upN G k u) qv H (k + 1) kt :=
  (h.1.on hb).addP hk (owns_fr h.2.1 (below_fr hb (fun _ => False)) (fun _ _ e => e)) h.2.2 h1 h2 h3
theorem MG.stepT {νν : Nat → Nat → Nat} {wB w4 w0 w u1 : World} {pv tv wv av lv qv : Value} {V W G H : Nat → Value} {fP fT : Nat → Int} {k kp m c b1 cap1 : Nat} {a : Option Addr} (h : MG wB w4 w0 pv V tv W wv av (MPf νν) (MTf νν) fP fT lv G qv H kp k) (hb : Below w0.heap.size w0 w) (hk : k < 3) (hv : W k = .slice a m c) (hm : MTf νν k = m)
    (h1 : u1.ownsRow wB.heap.size 3 1 (.slice (some ⟨b1, 0, none⟩) (m + 1) cap1) (m + 1) (ivs (m * 1) (mkT k) ++ [.int .i64 (-100 - (k : Int))])) (hst : u1.ownsRow wB.heap.size 3 1 (.slice a m c) m (ivs (m * 1) (mkT k))) (h2 : Fr (fun b => (Value.slice a m c).ownBlock = some b) w u1) (h3 : (Value.slice a m c).ownBlock = some b1 ∨ w.heap.size ≤ b1) :
    MG wB w4 u1 pv V tv W wv av (MPf νν) (MTf νν) fP fT lv G qv H kp k ∧ u1.ownsRow wB.heap.size 3 1 (.slice (some ⟨b1, 0, none⟩) (m + 1) cap1) (MTf νν k + 1) (ivs ((MTf νν k + 1) * 1) (mkT k)) ∧ (∀ b, (Value.slice (some ⟨b1, 0, none⟩) (m + 1) cap1).ownBlock = some b → (W k).ownBlock = some b ∨ (w4.heap.size ≤ b ∧ ∀ i, i < k → (H i).ownBlock ≠ some b)) := by
  have hx := h.on hb
  rw [mkT_one] at h1
  exact ⟨hx.midT hk (by rw [hv]; exact h2) (by rw [hv, hm]; exact hst), by rw [hm]; exact h1, hx.t.new (by rw [hv]; exact h3) rfl⟩
theorem MG.stepQ {wB w4 w0 w u2 : World} {pv tv wv av lv qv u : Value} {V W G H : Nat → Value} {MP MT : Nat → Nat} {fP fT : Nat → Int} {k kp b2 cap2 : Nat} (h : MG wB w4 w0 pv V tv W wv av MP MT fP fT lv G qv H kp k ∧ w0.ownsRow wB.heap.size 3 1 u (MT k + 1) (ivs ((MT k + 1) * 1) (mkT k)) ∧ (∀ b, u.ownBlock = some b → (W k).ownBlock = some b ∨ (w4.heap.size ≤ b ∧ ∀ i, i < k → (H i).ownBlock ≠ some b))) (hb : Below w0.heap.size w0 w) (hk : k < 3)
    (h1 : u2.ownsRow wB.heap.size 22 1 (.slice (some ⟨b2, 0, none⟩) (k + 1) cap2) (k + 1) ((List.range k).map H ++ [u])) (h2 : Fr (fun b => qv.ownBlock = some b) w u2) (h3 : qv.ownBlock = some b2 ∨ w.heap.size ≤ b2) :
    MG wB w4 u2 pv V tv W wv av MP MT fP fT lv G (.slice (some ⟨b2, 0, none⟩) (k + 1) cap2) (upN H k u) kp (k + 1) :=
  (h.1.on hb).addT hk (owns_fr h.2.1 (below_fr hb (fun _ => False)) (fun _ _ e => e)) h.2.2 h1 h2 h3
theorem MG.ownP {νν : Nat → Nat → Nat} {wB w4 w0 w : World} {pv tv wv av lv qv : Value} {V W G H : Nat → Value} {fP fT : Nat → Int} {k kp kt m c : Nat} {a : Option Addr} (h : MG wB w4 w0 pv V tv W wv av (MPf νν) (MTf νν) fP fT lv G qv H kp kt) (hb : Below w0.heap.size w0 w) (hk : k < 3) (hv : V k = .slice a m c) (hm : MPf νν k = m) : w.ownsRow wB.heap.size 50 2 (.slice a m c) m (ivs (m * 2) (mkP k)) := by
  have := (h.on hb).p.l.ls k hk
  rw [hv, hm] at this; exact this
theorem MG.ownT {νν : Nat → Nat → Nat} {wB w4 w0 w : World} {pv tv wv av lv qv : Value} {V W G H : Nat → Value} {fP fT : Nat → Int} {k kp kt m c : Nat} {a : Option Addr} (h : MG wB w4 w0 pv V tv W wv av (MPf νν) (MTf νν) fP fT lv G qv H kp kt) (hb : Below w0.heap.size w0 w) (hk : k < 3) (hv : W k = .slice a m c) (hm : MTf νν k = m) : w.ownsRow wB.heap.size 3 1 (.slice a m c) m (ivs (m * 1) (mkT k)) := by
  have := (h.on hb).t.l.ls k hk
  rw [hv, hm] at this; exact this
theorem MG.sz {wB w4 w0 w : World} {pv tv wv av lv qv : Value} {V W G H : Nat → Value} {MP MT : Nat → Nat} {fP fT : Nat → Int} {kp kt : Nat} (h : MG wB w4 w0 pv V tv W wv av MP MT fP fT lv G qv H kp kt) (hb : Below w0.heap.size w0 w) : wB.heap.size ≤ w.heap.size := (h.on hb).bel.size
theorem own_mkP {w : World} {B m c g i k : Nat} (h : w.ownsRow B 50 2 (.slice (some ⟨g, 0, none⟩) m c) m (ivs (m * 2) (mkP i))) (hk : k < m) : w.cell? ⟨g, k * 2, none⟩ = some (.int .i64 (-1 - (i : Int))) ∧ w.cell? ⟨g, k * 2 + 1, none⟩ = some (.int .i64 (k : Int)) := by
  rcases own_cellB h with ⟨e, _⟩ | ⟨g', cap, e, _, _, _, _, _, hc⟩
  · cases e
  · cases e
    have h1 := hc (k * 2) (by omega)
    have h2 := hc (k * 2 + 1) (by omega)
    rw [mkP, if_pos (by omega)] at h1
    rw [mkP, if_neg (by omega), show (k * 2 + 1) / 2 = k by omega] at h2
    exact ⟨h1, h2⟩
theorem own_mkT {w : World} {B m c g i k : Nat} (h : w.ownsRow B 3 1 (.slice (some ⟨g, 0, none⟩) m c) m (ivs (m * 1) (mkT i))) (hk : k < m) : w.cell? ⟨g, k, none⟩ = some (.int .i64 (-100 - (i : Int))) := by
  rcases own_cellB h with ⟨e, _⟩ | ⟨g', cap, e, _, _, _, _, _, hc⟩
  · cases e
  · cases e
    exact hc k (by omega)
theorem own_ad {w : World} {B e sz m : Nat} {v : Value} {f : Nat → Int} (h : w.ownsRow B e sz v m (ivs (m * sz) f)) (hm : 0 < m) : ∃ g c, v = .slice (some ⟨g, 0, none⟩) m c := by
  rcases own_cellB h with ⟨_, e⟩ | ⟨g, cap, e, _⟩
  · omega
  · exact ⟨g, cap, e⟩
theorem MG.longP {νν : Nat → Nat → Nat} {wB w4 w0 w : World} {pv tv wv av lv qv : Value} {V W G H : Nat → Value} {fP fT : Nat → Int} {i kp kt m : Nat} {v : Value} (h : MG wB w4 w0 pv V tv W wv av (MPf νν) (MTf νν) fP fT lv G qv H kp kt) (hb : Below w0.heap.size w0 w) (hk : i < kp) (hv : G i = v) (hm : MPf νν i = m) : w.ownsRow wB.heap.size 50 2 v (m + 1) (ivs ((m + 1) * 2) (mkP i)) := by
  have := (h.on hb).p.g.ls i hk
  subst hv hm; exact this
theorem MG.longT {νν : Nat → Nat → Nat} {wB w4 w0 w : World} {pv tv wv av lv qv : Value} {V W G H : Nat → Value} {fP fT : Nat → Int} {i kp kt m : Nat} {v : Value} (h : MG wB w4 w0 pv V tv W wv av (MPf νν) (MTf νν) fP fT lv G qv H kp kt) (hb : Below w0.heap.size w0 w) (hk : i < kt) (hv : H i = v) (hm : MTf νν i = m) : w.ownsRow wB.heap.size 3 1 v (m + 1) (ivs ((m + 1) * 1) (mkT i)) := by
  have := (h.on hb).t.g.ls i hk
  subst hv hm; exact this
theorem neq_same (w : World) (a b : Int) : (binOp .neq 50 (.agg #[.int .i64 a, .int .i64 b]) (.agg #[.int .i64 a, .int .i64 b])).run Tryd.prog w = .ok (.bool false) w := by
  rw [neq42Q]; simp
end Go.Proofs.YtgmccpimpbnnpaaDoor
