import Derived.Test.YtgmccpimpbnnpaaDoorOwE
namespace Go.Proofs.YtgmccpimpbnnpaaDoor
open Go.RowKit Go.Maps Rec
def mkP (i j : Nat) : Int := if j % 2 = 0 then -1 - (i : Int) else ((j / 2 : Nat) : Int)
def mkT (i _j : Nat) : Int := -100 - (i : Int)
structure MM (wB w : World) (pv : Value) (V : Nat → Value) (tv : Value) (W : Nat → Value) (wv av : Value) (MP MT : Nat → Nat) (FP FT : Nat → Nat → Int) (fP fT : Nat → Int) : Prop where
  p : LL wB.heap.size 50 2 45 w pv 3 V MP FP
  t : LL wB.heap.size 3 1 22 w tv 3 W MT FT
  cw : Cyo wB.heap.size 50 2 w wv (MP 0) fP 3 V
  ca : Cyo wB.heap.size 3 1 w av (MT 0) fT 3 W
  bel : Below wB.heap.size wB w
theorem MM.on {wB w w' : World} {pv tv wv av : Value} {V W : Nat → Value} {MP MT : Nat → Nat} {FP FT : Nat → Nat → Int} {fP fT : Nat → Int} (h : MM wB w pv V tv W wv av MP MT FP FT fP fT) (hb : Below w.heap.size w w') : MM wB w' pv V tv W wv av MP MT FP FT fP fT := ⟨h.p.on hb, h.t.on hb, h.cw.on hb, h.ca.on hb, h.bel.trans (hb.mono h.bel.size)⟩
theorem MM.setP {wB w w' : World} {pv tv wv av : Value} {V W : Nat → Value} {MP MT : Nat → Nat} {FP FT : Nat → Nat → Int} {fP fT f : Nat → Int} {k : Nat} (h : MM wB w pv V tv W wv av MP MT FP FT fP fT) (hk : k < 3) (x : Fr (fun b => (V k).ownBlock = some b) w w') (hr : w'.ownsRow wB.heap.size 50 2 (V k) (MP k) (ivs (MP k * 2) f)) : MM wB w' pv V tv W wv av MP MT (upN FP k f) FT fP fT :=
  ⟨h.p.put (by decide) hk x hr, h.t.oth x (h.p.ls k hk) (by decide) (by decide), h.cw.put hk x, h.ca.oth x (h.p.ls k hk) (by decide), h.bel.trans (x.below _ (fun _ e => own_lo (h.p.ls k hk) e) h.bel.size)⟩
theorem MM.setT {wB w w' : World} {pv tv wv av : Value} {V W : Nat → Value} {MP MT : Nat → Nat} {FP FT : Nat → Nat → Int} {fP fT f : Nat → Int} {k : Nat} (h : MM wB w pv V tv W wv av MP MT FP FT fP fT) (hk : k < 3) (x : Fr (fun b => (W k).ownBlock = some b) w w') (hr : w'.ownsRow wB.heap.size 3 1 (W k) (MT k) (ivs (MT k * 1) f)) : MM wB w' pv V tv W wv av MP MT FP (upN FT k f) fP fT :=
  ⟨h.p.oth x (h.t.ls k hk) (by decide) (by decide), h.t.put (by decide) hk x hr, h.cw.oth x (h.t.ls k hk) (by decide), h.ca.put hk x, h.bel.trans (x.below _ (fun _ e => own_lo (h.t.ls k hk) e) h.bel.size)⟩
theorem MM.congr {wB w : World} {pv tv wv av : Value} {V W : Nat → Value} {MP MT : Nat → Nat} {FP FT FP' FT' : Nat → Nat → Int} {fP fT : Nat → Int} (h : MM wB w pv V tv W wv av MP MT FP FT fP fT) (e1 : ∀ i, i < 3 → ∀ j, j < MP i * 2 → FP i j = FP' i j) (e2 : ∀ i, i < 3 → ∀ j, j < MT i * 1 → FT i j = FT' i j) : MM wB w pv V tv W wv av MP MT FP' FT' fP fT := ⟨h.p.congr e1, h.t.congr e2, h.cw, h.ca, h.bel⟩
structure MG (wB w4 w : World) (pv : Value) (V : Nat → Value) (tv : Value) (W : Nat → Value) (wv av : Value) (MP MT : Nat → Nat) (fP fT : Nat → Int) (lv : Value) (G : Nat → Value) (qv : Value) (H : Nat → Value) (kp kt : Nat) : Prop where
  p : LG wB.heap.size 50 2 45 w4 w pv V MP mkP lv kp G
  t : LG wB.heap.size 3 1 22 w4 w tv W MT mkT qv kt H
  cw : Cyo wB.heap.size 50 2 w wv (MP 0) fP 3 V
  ca : Cyo wB.heap.size 3 1 w av (MT 0) fT 3 W
  cb : ∀ b, wv.ownBlock = some b → b < w4.heap.size
  cd : ∀ b, av.ownBlock = some b → b < w4.heap.size
  bel : Below wB.heap.size wB w
theorem MG.on {wB w4 w w' : World} {pv tv wv av lv qv : Value} {V W G H : Nat → Value} {MP MT : Nat → Nat} {fP fT : Nat → Int} {kp kt : Nat} (h : MG wB w4 w pv V tv W wv av MP MT fP fT lv G qv H kp kt) (hb : Below w.heap.size w w') : MG wB w4 w' pv V tv W wv av MP MT fP fT lv G qv H kp kt := ⟨h.p.on hb, h.t.on hb, h.cw.on hb, h.ca.on hb, h.cb, h.cd, h.bel.trans (hb.mono h.bel.size)⟩
theorem MG.midP {wB w4 w w' : World} {pv tv wv av lv qv : Value} {V W G H : Nat → Value} {MP MT : Nat → Nat} {fP fT : Nat → Int} {kp kt : Nat} (h : MG wB w4 w pv V tv W wv av MP MT fP fT lv G qv H kp kt) (hk : kp < 3) (x : Fr (fun b => (V kp).ownBlock = some b) w w') (hr : w'.ownsRow wB.heap.size 50 2 (V kp) (MP kp) (ivs (MP kp * 2) (mkP kp))) : MG wB w4 w' pv V tv W wv av MP MT fP fT lv G qv H kp kt :=
  ⟨h.p.mid (by decide) hk x hr, h.t.oth x (h.p.l.ls kp hk) (by decide) (by decide), h.cw.put hk x, h.ca.oth x (h.p.l.ls kp hk) (by decide), h.cb, h.cd, h.bel.trans (x.below _ (fun _ e => own_lo (h.p.l.ls kp hk) e) h.bel.size)⟩
theorem MG.midT {wB w4 w w' : World} {pv tv wv av lv qv : Value} {V W G H : Nat → Value} {MP MT : Nat → Nat} {fP fT : Nat → Int} {kp kt : Nat} (h : MG wB w4 w pv V tv W wv av MP MT fP fT lv G qv H kp kt) (hk : kt < 3) (x : Fr (fun b => (W kt).ownBlock = some b) w w') (hr : w'.ownsRow wB.heap.size 3 1 (W kt) (MT kt) (ivs (MT kt * 1) (mkT kt))) : MG wB w4 w' pv V tv W wv av MP MT fP fT lv G qv H kp kt :=
  ⟨h.p.oth x (h.t.l.ls kt hk) (by decide) (by decide), h.t.mid (by decide) hk x hr, h.cw.oth x (h.t.l.ls kt hk) (by decide), h.ca.put hk x, h.cb, h.cd, h.bel.trans (x.below _ (fun _ e => own_lo (h.t.l.ls kt hk) e) h.bel.size)⟩
theorem MG.addP {wB w4 w w' : World} {pv tv wv av lv qv u : Value} {V W G H : Nat → Value} {MP MT : Nat → Nat} {fP fT : Nat → Int} {kp kt b cap : Nat} (h : MG wB w4 w pv V tv W wv av MP MT fP fT lv G qv H kp kt) (hk : kp < 3) (hp : w.ownsRow wB.heap.size 50 2 u (MP kp + 1) (ivs ((MP kp + 1) * 2) (mkP kp))) (hu : ∀ b, u.ownBlock = some b → (V kp).ownBlock = some b ∨ (w4.heap.size ≤ b ∧ ∀ i, i < kp → (G i).ownBlock ≠ some b))
    (h1 : w'.ownsRow wB.heap.size 45 1 (.slice (some ⟨b, 0, none⟩) (kp + 1) cap) (kp + 1) ((List.range kp).map G ++ [u])) (h2 : Fr (fun k => lv.ownBlock = some k) w w') (h3 : lv.ownBlock = some b ∨ w.heap.size ≤ b) : MG wB w4 w' pv V tv W wv av MP MT fP fT (.slice (some ⟨b, 0, none⟩) (kp + 1) cap) (upN G kp u) qv H (kp + 1) kt :=
  ⟨h.p.add (by decide) hk hp hu h1 h2 h3, h.t.oth h2 h.p.g.row (by decide) (by decide), h.cw.oth h2 h.p.g.row (by decide), h.ca.oth h2 h.p.g.row (by decide), h.cb, h.cd, h.bel.trans (h2.below _ (fun _ e => own_lo h.p.g.row e) h.bel.size)⟩
theorem MG.addT {wB w4 w w' : World} {pv tv wv av lv qv u : Value} {V W G H : Nat → Value} {MP MT : Nat → Nat} {fP fT : Nat → Int} {kp kt b cap : Nat} (h : MG wB w4 w pv V tv W wv av MP MT fP fT lv G qv H kp kt) (hk : kt < 3) (hp : w.ownsRow wB.heap.size 3 1 u (MT kt + 1) (ivs ((MT kt + 1) * 1) (mkT kt))) (hu : ∀ b, u.ownBlock = some b → (W kt).ownBlock = some b ∨ (w4.heap.size ≤ b ∧ ∀ i, i < kt → (H i).ownBlock ≠ some b))
    (h1 : w'.ownsRow wB.heap.size 22 1 (.slice (some ⟨b, 0, none⟩) (kt + 1) cap) (kt + 1) ((List.range kt).map H ++ [u])) (h2 : Fr (fun k => qv.ownBlock = some k) w w') (h3 : qv.ownBlock = some b ∨ w.heap.size ≤ b) : MG wB w4 w' pv V tv W wv av MP MT fP fT lv G (.slice (some ⟨b, 0, none⟩) (kt + 1) cap) (upN H kt u) kp (kt + 1) :=
  ⟨h.p.oth h2 h.t.g.row (by decide) (by decide), h.t.add (by decide) hk hp hu h1 h2 h3, h.cw.oth h2 h.t.g.row (by decide), h.ca.oth h2 h.t.g.row (by decide), h.cb, h.cd, h.bel.trans (h2.below _ (fun _ e => own_lo h.t.g.row e) h.bel.size)⟩
theorem MG.start {wB w : World} {pv tv wv av : Value} {V W : Nat → Value} {MP MT : Nat → Nat} {fP fT : Nat → Int} (h : MM wB w pv V tv W wv av MP MT mkP mkT fP fT) : MG wB w w pv V tv W wv av MP MT fP fT (.slice none 0 0) (fun _ => .slice none 0 0) (.slice none 0 0) (fun _ => .slice none 0 0) 0 0 :=
  ⟨⟨LL.zero _ _ _ _, h.p, (fun _ e => by cases e), fun _ hi => absurd hi (by omega), fun i hi b e => owns_block (h.p.ls i hi) e, fun b e => owns_block h.p.row e, Nat.le_refl _⟩, ⟨LL.zero _ _ _ _, h.t, (fun _ e => by cases e), fun _ hi => absurd hi (by omega), fun i hi b e => owns_block (h.t.ls i hi) e, fun b e => owns_block h.t.row e, Nat.le_refl _⟩, h.cw, h.ca, fun b e => owns_block h.cw.row e, fun b e => owns_block h.ca.row e, h.bel⟩
theorem mkP_two (i N : Nat) : ivs (N * 2) (mkP i) ++ [.int .i64 (-1 - (i : Int)), .int .i64 (N : Int)] = ivs ((N + 1) * 2) (mkP i) := by
  rw [show (N + 1) * 2 = N * 2 + 2 by omega, ivs_two]
  unfold mkP
  rw [if_pos (by omega), if_neg (by omega), show (N * 2 + 1) / 2 = N by omega]
theorem mkT_one (i N : Nat) : ivs (N * 1) (mkT i) ++ [.int .i64 (-100 - (i : Int))] = ivs ((N + 1) * 1) (mkT i) := by
  rw [show (N + 1) * 1 = N * 1 + 1 by omega, ivs_one]; rfl
theorem own_prsF {w : World} {B n c : Nat} {a : Option Addr} {f : Nat → Int} (h : w.ownsRow B 50 2 (.slice a n c) n (ivs (n * 2) f)) : PrsAt w a n (fun i => f (i * 2)) (fun i => f (i * 2 + 1)) := by
  rcases own_cellB h with ⟨_, e2⟩ | ⟨g, cap, e, _, _, _, _, _, hc⟩
  · exact .inl e2
  · cases e
    exact .inr ⟨g, 0, rfl, fun i hi => ⟨by rw [Nat.zero_add, hc (i * 2) (by omega)], by rw [Nat.zero_add, hc (i * 2 + 1) (by omega)]⟩⟩
theorem own_numF {w : World} {B n c : Nat} {a : Option Addr} {f : Nat → Int} (h : w.ownsRow B 3 1 (.slice a n c) n (ivs (n * 1) f)) : NumAt w a n f := by
  rcases own_cellB h with ⟨_, e2⟩ | ⟨g, cap, e, _, _, _, _, _, hc⟩
  · exact .inl e2
  · cases e
    exact .inr ⟨g, 0, rfl, fun i hi => by rw [Nat.zero_add, hc i (by omega)]⟩
theorem same_prs {w : World} {B B' n c c' : Nat} {a a' : Option Addr} {f : Nat → Int} (h : w.ownsRow B 50 2 (.slice a n c) n (ivs (n * 2) f)) (h' : w.ownsRow B' 50 2 (.slice a' n c') n (ivs (n * 2) f)) (hn : n ≤ 100000) : Calls Tryd.prog 10 #[.slice a n c, .slice a' n c'] w fun e w' => e = .returned (.bool true) ∧ Below w.heap.size w w' := samePQ w a a' n c c' _ _ (own_prsF h) (own_prsF h') hn
theorem same_num {w : World} {B B' n c c' : Nat} {a a' : Option Addr} {f : Nat → Int} (h : w.ownsRow B 3 1 (.slice a n c) n (ivs (n * 1) f)) (h' : w.ownsRow B' 3 1 (.slice a' n c') n (ivs (n * 1) f)) (hn : n ≤ 100000) : Calls Tryd.prog 11 #[.slice a n c, .slice a' n c'] w fun e w' => e = .returned (.bool true) ∧ Below w.heap.size w w' := sameQ w a a' n c c' _ (own_numF h) (own_numF h') hn
def c45 (xx : Nat → Nat → Int) : Array Value := #[.int .i64 (xx 0 0), .int .i64 (xx 0 1), .int .i64 (xx 0 2), .int .i64 (xx 0 3), .int .i64 (xx 0 4), .int .i64 (xx 0 5), .int .i64 (xx 0 6), .int .i64 (xx 0 7), .int .i64 (xx 0 8), .int .i64 (xx 0 9), .int .i64 (xx 0 10), .int .i64 (xx 0 11), .int .i64 (xx 0 12), .int .i64 (xx 0 13), .int .i64 (xx 0 14), .int .i64 (xx 1 0), .int .i64 (xx 1 1), .int .i64 (xx 1 2), .int .i64 (xx 1 3), .int .i64 (xx 1 4), .int .i64 (xx 1 5), .int .i64 (xx 1 6), .int .i64 (xx 1 7), .int .i64 (xx 1 8), .int .i64 (xx 1 9), .int .i64 (xx 1 10), .int .i64 (xx 1 11), .int .i64 (xx 1 12), .int .i64 (xx 1 13), .int .i64 (xx 1 14), .int .i64 (xx 0 0), .int .i64 (xx 0 1), .int .i64 (xx 0 2), .int .i64 (xx 0 3), .int .i64 (xx 0 4), .int .i64 (xx 0 5), .int .i64 (xx 0 6), .int .i64 (xx 0 7), .int .i64 (xx 0 8), .int .i64 (xx 0 9), .int .i64 (xx 0 10), .int .i64 (xx 0 11), .int .i64 (xx 0 12), .int .i64 (xx 0 13), .int .i64 (xx 0 14)]
theorem c45_ivs (xx : Nat → Nat → Int) : c45 xx = (ivs 45 (fun t => xx (t / 15 % 2) (t % 15))).toArray := by simp [c45, ivs, List.range, List.range.loop]
theorem c45_at (xx : Nat → Nat → Int) {j c : Nat} (hj : j < 3) (hc : c < 15) : (c45 xx)[j * 15 + c]? = some (.int .i64 (xx (j % 2) c)) := by
  rw [c45_ivs, List.getElem?_toArray, ivs_at, if_pos (by omega), show (j * 15 + c) / 15 = j by omega, show (j * 15 + c) % 15 = c by omega]
theorem c45_cells {w : World} {L : Nat} {xx : Nat → Nat → Int} (h : w.heap[L]? = some (.cells (c45 xx) 35 (0, 0))) {j : Nat} (hj : j < 3) : w.cell? ⟨L, j * 15, none⟩ = some (.int .i64 (xx (j % 2) 0)) ∧ w.cell? ⟨L, j * 15 + 1, none⟩ = some (.int .i64 (xx (j % 2) 1)) ∧ w.cell? ⟨L, j * 15 + 2, none⟩ = some (.int .i64 (xx (j % 2) 2)) ∧ w.cell? ⟨L, j * 15 + 3, none⟩ = some (.int .i64 (xx (j % 2) 3)) ∧ w.cell? ⟨L, j * 15 + 4, none⟩ = some (.int .i64 (xx (j % 2) 4)) ∧ w.cell? ⟨L, j * 15 + 5, none⟩ = some (.int .i64 (xx (j % 2) 5)) ∧ w.cell? ⟨L, j * 15 + 6, none⟩ = some (.int .i64 (xx (j % 2) 6)) ∧ w.cell? ⟨L, j * 15 + 7, none⟩ = some (.int .i64 (xx (j % 2) 7)) ∧ w.cell? ⟨L, j * 15 + 8, none⟩ = some (.int .i64 (xx (j % 2) 8)) ∧ w.cell? ⟨L, j * 15 + 9, none⟩ = some (.int .i64 (xx (j % 2) 9)) ∧ w.cell? ⟨L, j * 15 + 10, none⟩ = some (.int .i64 (xx (j % 2) 10)) ∧ w.cell? ⟨L, j * 15 + 11, none⟩ = some (.int .i64 (xx (j % 2) 11)) ∧ w.cell? ⟨L, j * 15 + 12, none⟩ = some (.int .i64 (xx (j % 2) 12)) ∧ w.cell? ⟨L, j * 15 + 13, none⟩ = some (.int .i64 (xx (j % 2) 13)) ∧ w.cell? ⟨L, j * 15 + 14, none⟩ = some (.int .i64 (xx (j % 2) 14)) :=
  ⟨(cell_of_row _ _ _ _ _ _ h).trans (c45_at xx hj (c := 0) (by omega)), (cell_of_row _ _ _ _ _ _ h).trans (c45_at xx hj (c := 1) (by omega)), (cell_of_row _ _ _ _ _ _ h).trans (c45_at xx hj (c := 2) (by omega)), (cell_of_row _ _ _ _ _ _ h).trans (c45_at xx hj (c := 3) (by omega)), (cell_of_row _ _ _ _ _ _ h).trans (c45_at xx hj (c := 4) (by omega)), (cell_of_row _ _ _ _ _ _ h).trans (c45_at xx hj (c := 5) (by omega)), (cell_of_row _ _ _ _ _ _ h).trans (c45_at xx hj (c := 6) (by omega)), (cell_of_row _ _ _ _ _ _ h).trans (c45_at xx hj (c := 7) (by omega)), (cell_of_row _ _ _ _ _ _ h).trans (c45_at xx hj (c := 8) (by omega)), (cell_of_row _ _ _ _ _ _ h).trans (c45_at xx hj (c := 9) (by omega)), (cell_of_row _ _ _ _ _ _ h).trans (c45_at xx hj (c := 10) (by omega)), (cell_of_row _ _ _ _ _ _ h).trans (c45_at xx hj (c := 11) (by omega)), (cell_of_row _ _ _ _ _ _ h).trans (c45_at xx hj (c := 12) (by omega)), (cell_of_row _ _ _ _ _ _ h).trans (c45_at xx hj (c := 13) (by omega)), (cell_of_row _ _ _ _ _ _ h).trans (c45_at xx hj (c := 14) (by omega))⟩
theorem OwZ.c30 {w1 w : World} {D : Dk} {T : Tx} {n G X tt : Nat} {xx : Nat → Nat → Int} (h : OwZ w1 w D T n G X tt xx) : w.cell? ⟨X, 0, none⟩ = some (.int .i64 (xx 0 0)) ∧ w.cell? ⟨X, 1, none⟩ = some (.int .i64 (xx 0 1)) ∧ w.cell? ⟨X, 2, none⟩ = some (.int .i64 (xx 0 2)) ∧ w.cell? ⟨X, 3, none⟩ = some (.int .i64 (xx 0 3)) ∧ w.cell? ⟨X, 4, none⟩ = some (.int .i64 (xx 0 4)) ∧ w.cell? ⟨X, 5, none⟩ = some (.int .i64 (xx 0 5)) ∧ w.cell? ⟨X, 6, none⟩ = some (.int .i64 (xx 0 6)) ∧ w.cell? ⟨X, 7, none⟩ = some (.int .i64 (xx 0 7)) ∧ w.cell? ⟨X, 8, none⟩ = some (.int .i64 (xx 0 8)) ∧ w.cell? ⟨X, 9, none⟩ = some (.int .i64 (xx 0 9)) ∧ w.cell? ⟨X, 10, none⟩ = some (.int .i64 (xx 0 10)) ∧ w.cell? ⟨X, 11, none⟩ = some (.int .i64 (xx 0 11)) ∧ w.cell? ⟨X, 12, none⟩ = some (.int .i64 (xx 0 12)) ∧ w.cell? ⟨X, 13, none⟩ = some (.int .i64 (xx 0 13)) ∧ w.cell? ⟨X, 14, none⟩ = some (.int .i64 (xx 0 14)) ∧ w.cell? ⟨X, 15, none⟩ = some (.int .i64 (xx 1 0)) ∧ w.cell? ⟨X, 16, none⟩ = some (.int .i64 (xx 1 1)) ∧ w.cell? ⟨X, 17, none⟩ = some (.int .i64 (xx 1 2)) ∧ w.cell? ⟨X, 18, none⟩ = some (.int .i64 (xx 1 3)) ∧ w.cell? ⟨X, 19, none⟩ = some (.int .i64 (xx 1 4)) ∧ w.cell? ⟨X, 20, none⟩ = some (.int .i64 (xx 1 5)) ∧ w.cell? ⟨X, 21, none⟩ = some (.int .i64 (xx 1 6)) ∧ w.cell? ⟨X, 22, none⟩ = some (.int .i64 (xx 1 7)) ∧ w.cell? ⟨X, 23, none⟩ = some (.int .i64 (xx 1 8)) ∧ w.cell? ⟨X, 24, none⟩ = some (.int .i64 (xx 1 9)) ∧ w.cell? ⟨X, 25, none⟩ = some (.int .i64 (xx 1 10)) ∧ w.cell? ⟨X, 26, none⟩ = some (.int .i64 (xx 1 11)) ∧ w.cell? ⟨X, 27, none⟩ = some (.int .i64 (xx 1 12)) ∧ w.cell? ⟨X, 28, none⟩ = some (.int .i64 (xx 1 13)) ∧ w.cell? ⟨X, 29, none⟩ = some (.int .i64 (xx 1 14)) := by
  refine ⟨?_, ?_, ?_, ?_, ?_, ?_, ?_, ?_, ?_, ?_, ?_, ?_, ?_, ?_, ?_, ?_, ?_, ?_, ?_, ?_, ?_, ?_, ?_, ?_, ?_, ?_, ?_, ?_, ?_, ?_⟩ <;> (rw [cell_of_row _ _ _ _ _ _ h.x.row]; rfl)
def MPf (νν : Nat → Nat → Nat) (i : Nat) : Nat := (allB (νν (i % 2))).length
def FPf (νν : Nat → Nat → Nat) (i : Nat) : Nat → Int := pcF (allB (νν (i % 2)))
def MTf (νν : Nat → Nat → Nat) (i : Nat) : Nat := (allT (νν (i % 2))).length
def FTf (νν : Nat → Nat → Nat) (i : Nat) : Nat → Int := ncF (allT (νν (i % 2)))
theorem M_bd (νν : Nat → Nat → Nat) (i : Nat) : MPf νν i ≤ 100000 ∧ MTf νν i ≤ 100000 := by
  have := all_bd (νν (i % 2)) 12 (by omega)
  unfold MPf MTf allB allT
  omega
theorem own_atO {g n c b : Nat} (h : (Value.slice (some ⟨g, 0, none⟩) n c).ownBlock = some b) : g = b := by cases h; rfl
theorem own_sl {w : World} {B e sz n : Nat} {v : Value} {xs : List Value} (h : w.ownsRow B e sz v n xs) : ∃ a c, v = .slice a n c := by
  rcases h.2 with ⟨e, e2⟩ | ⟨g, cap, cur, e, _⟩
  · subst e2; exact ⟨none, 0, e⟩
  · exact ⟨_, cap, e⟩
theorem allO (w0 w : World) (D : Dk) (T : Tx) (n B : Nat) (h : Spc w0 w D T n) (hT : TabAt w0) (x : Nat → Int) (ν : Nat → Nat) (hw : Wd D T n x ν) (hB : B ≤ w.heap.size) (tt : Nat) (ht : T.t = tt) :
    Calls Tryd.prog 9 #[.pointer (some ⟨tt, 0, none⟩), geoV n, inV x] w fun e w' => ∃ a c a' c', e = .returned (.tuple #[.slice a (allB ν).length c, .slice a' (allT ν).length c', .int .i64 0]) ∧ w'.ownsRow B 50 2 (.slice a (allB ν).length c) (allB ν).length (ivs ((allB ν).length * 2) (pcF (allB ν))) ∧ w'.ownsRow B 3 1 (.slice a' (allT ν).length c') (allT ν).length (ivs ((allT ν).length * 1) (ncF (allT ν))) ∧ (∀ k, (Value.slice a (allB ν).length c).ownBlock = some k → w.heap.size ≤ k) ∧ (∀ k, (Value.slice a' (allT ν).length c').ownBlock = some k → w.heap.size ≤ k) ∧ Below w.heap.size w w' := by
  subst ht
  refine (all_any w0 w D T n h hT x ν hw).mono ?_
  rintro e w' ⟨vb, vt, rfl, h1, h2, h3, h4, hb⟩
  rw [prV_ivs] at h1
  rw [natV_ivs] at h2
  obtain ⟨a, c, rfl⟩ := own_sl h1
  obtain ⟨a', c', rfl⟩ := own_sl h2
  exact ⟨a, c, a', c', rfl, own_up h1 (fun b e => Nat.le_trans hB (h3 b e)), own_up h2 (fun b e => Nat.le_trans hB (h4 b e)), h3, h4, hb⟩
theorem own_not {w : World} {B e sz n L t : Nat} {v : Value} {xs : List Value} {cs : Array Value} {fr : Nat × Nat} (h : w.ownsRow B e sz v n xs) (hL : w.heap[L]? = some (.cells cs t fr)) (hne : e ≠ t) : v.ownBlock ≠ some L := by
  intro hb
  rcases h.2 with ⟨rfl, _⟩ | ⟨g, _, _, rfl, _, hg, _⟩
  · cases hb
  · cases hb
    rw [hg] at hL
    injection hL with e9
    injection e9 with _ e9
    exact hne e9
structure PT (νν : Nat → Nat → Nat) (wB w : World) (lv tv : Value) (j k : Nat) (V W : Nat → Value) : Prop where
  p : LL wB.heap.size 50 2 45 w lv j V (MPf νν) (FPf νν)
  t : LL wB.heap.size 3 1 22 w tv k W (MTf νν) (FTf νν)
  bel : Below wB.heap.size wB w
theorem PT.on {νν : Nat → Nat → Nat} {wB w w' : World} {lv tv : Value} {j k : Nat} {V W : Nat → Value} (h : PT νν wB w lv tv j k V W) (hb : Below w.heap.size w w') : PT νν wB w' lv tv j k V W := ⟨h.p.on hb, h.t.on hb, h.bel.trans (hb.mono h.bel.size)⟩
theorem PT.addP {νν : Nat → Nat → Nat} {wB w0 w w' : World} {lv tv u : Value} {j k b cap : Nat} {V W : Nat → Value} (h0 : PT νν wB w0 lv tv j k V W) (hs : Below w0.heap.size w0 w) (hu : w.ownsRow wB.heap.size 50 2 u (MPf νν j) (ivs (MPf νν j * 2) (FPf νν j))) (hn : ∀ b, u.ownBlock = some b → w0.heap.size ≤ b)
    (h1 : w'.ownsRow wB.heap.size 45 1 (.slice (some ⟨b, 0, none⟩) (j + 1) cap) (j + 1) ((List.range j).map V ++ [u])) (h2 : Fr (fun k => lv.ownBlock = some k) w w') : PT νν wB w' (.slice (some ⟨b, 0, none⟩) (j + 1) cap) tv (j + 1) k (upN V j u) W := by
  have h := h0.on hs
  exact ⟨h.p.one (by decide) hu (fun i hi b e e2 => by have := owns_block (h0.p.ls i hi) e; have := hn b e2; omega) h1 h2, h.t.oth h2 h.p.row (by decide) (by decide), h.bel.trans (h2.below _ (fun _ e => own_lo h.p.row e) h.bel.size)⟩
theorem PT.addT {νν : Nat → Nat → Nat} {wB w0 w w' : World} {lv tv u lv0 : Value} {j j0 k b cap : Nat} {V W V0 : Nat → Value} (h0 : PT νν wB w0 lv0 tv j0 k V0 W) (h : PT νν wB w lv tv j k V W) (hu : w.ownsRow wB.heap.size 3 1 u (MTf νν k) (ivs (MTf νν k * 1) (FTf νν k))) (hn : ∀ b, u.ownBlock = some b → w0.heap.size ≤ b)
    (h1 : w'.ownsRow wB.heap.size 22 1 (.slice (some ⟨b, 0, none⟩) (k + 1) cap) (k + 1) ((List.range k).map W ++ [u])) (h2 : Fr (fun k => tv.ownBlock = some k) w w') : PT νν wB w' lv (.slice (some ⟨b, 0, none⟩) (k + 1) cap) j (k + 1) V (upN W k u) :=
  ⟨h.p.oth h2 h.t.row (by decide) (by decide), h.t.one (by decide) hu (fun i hi b e e2 => by have := owns_block (h0.t.ls i hi) e; have := hn b e2; omega) h1 h2, h.bel.trans (h2.below _ (fun _ e => own_lo h.t.row e) h.bel.size)⟩
theorem infoLp : (Tryd.prog.info? 45).map (fun i => (i.zero, i.size, i.bytes)) = some (some (.slice none 0 0), 1, 24) := by kernel_rfl
theorem infoLi : (Tryd.prog.info? 22).map (fun i => (i.zero, i.size, i.bytes)) = some (some (.slice none 0 0), 1, 24) := by kernel_rfl
theorem infoIo : (Tryd.prog.info? 3).map (fun i => (i.zero, i.size, i.bytes)) = some (some (.int .i64 0), 1, 8) := by kernel_rfl
theorem infoPo : (Tryd.prog.info? 50).map (fun i => (i.zero, i.size, i.bytes)) = some (some (.agg #[.int .i64 0, .int .i64 0]), 2, 16) := by kernel_rfl
end Go.Proofs.YtgmccpimpbnnpaaDoor
