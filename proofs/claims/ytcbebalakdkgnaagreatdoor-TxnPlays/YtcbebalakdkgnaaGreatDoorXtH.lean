import Derived.Test.YtcbebalakdkgnaaGreatDoorKXtE
import Derived.Test.YtcbebalakdkgnaaGreatDoorKXsR
namespace Go.Proofs.YtcbebalakdkgnaaGreatDoor
open Go.RowKit Rec
variable {w0 w w1 wx w2 w' : World} {P j : Nat} {D : Dk} {R : RDk} {T : Tx} {U : RTx} {c2 c3 : Value}
/-- the empty book -/
def Kb0 (kb : Nat) : Kb := { kb := kb, bv := .slice none 0 0, bn := 0, bV := fun _ => .slice none 0 0, bX := fun _ => [], iv := .slice none 0 0, tv := .slice none 0 0, im := 0, iV := fun _ => .slice none 0 0, tV := fun _ => .slice none 0 0, iX := fun _ => [] }
theorem noLb {k : Nat} {V : Nat → Value} (h : hasL (.slice none 0 0) 0 V k) : False := by
  rcases h with e | ⟨i, hi, _⟩
  · cases e
  · omega
theorem Kb0_all {kb k : Nat} (h : (Kb0 kb).all k) : k = kb := by
  rcases h with e | e | e | e
  · exact e
  · exact (noLb e).elim
  · exact (noLb e).elim
  · exact (noLb e).elim
theorem Kb0_bk {w : World} {kb : Nat} (h : w.heap[kb]? = some (.cells (Kb0 kb).cells 41 (0, 0))) : KbI w (Kb0 kb) :=
  ⟨h, LV.zero _, LV.zero _, LV.zero _, fun _ e => (noLb e).elim, fun _ e => absurd e (Nat.not_lt_zero _), fun _ e => absurd e (Nat.not_lt_zero _), Nat.zero_le _, Nat.zero_le _⟩
def cp0 (D : Dk) (R : RDk) (P : Nat) : Nat → Nat → Prop
  | 0, k => D.all k
  | 1, k => R.all k
  | 5, k => k = P
  | _, _ => False
/-- the sides ahead of the book -/
structure XB0 (w0 w : World) (P : Nat) (D : Dk) (R : RDk) (j : Nat) (c2 c3 : Value) : Prop where
  ws : WS w0 w D R (200 * j)
  rs : Rs D.abs
  px : w.heap[P]? = some (.cells #[.pointer (some ⟨D.d, 0, none⟩), .pointer (some ⟨R.r, 0, none⟩), c2, c3] 35 (0, 0))
  sep : Sep (cp0 D R P)
  far : ∀ i k, cp0 D R P i k → w0.heap.size ≤ k
theorem XB0.lt (h : XB0 w0 w P D R j c2 c3) : ∀ i k, cp0 D R P i k → k < w.heap.size
  | 0, k, e => h.ws.lt (.inl e)
  | 1, k, e => h.ws.lt (.inr e)
  | 5, k, e => by have e : k = P := e; rw [e]; exact heap_lt h.px
  | 2, k, e => e.elim
  | 3, k, e => e.elim
  | 4, k, e => e.elim
  | _ + 6, k, e => e.elim
theorem XB0.on (h : XB0 w0 w P D R j c2 c3) (hb : Below w.heap.size w w') : XB0 w0 w' P D R j c2 c3 :=
  ⟨h.ws.on hb, h.rs, (hb.block _ (heap_lt h.px)).trans h.px, h.sep, h.far⟩
theorem XB0.set (h : XB0 w0 w P D R j c2 c3) (f : Fr (fun k => k = P) w w') {c2' c3' : Value} (hp : w'.heap[P]? = some (.cells #[.pointer (some ⟨D.d, 0, none⟩), .pointer (some ⟨R.r, 0, none⟩), c2', c3'] 35 (0, 0))) : XB0 w0 w' P D R j c2' c3' :=
  ⟨h.ws.fr f (fun k e e2 => by subst e2; exact e.elim (fun e => h.sep.ne (i := 0) (j := 5) (by omega) e rfl) (fun e => h.sep.ne (i := 1) (j := 5) (by omega) e rfl)) (fun k e => h.far 5 k e), h.rs, hp, h.sep, h.far⟩
theorem XB0.cell (h : XB0 w0 w P D R j c2 c3) (i : Nat) : w.cell? ⟨P, i, none⟩ = (#[.pointer (some ⟨D.d, 0, none⟩), .pointer (some ⟨R.r, 0, none⟩), c2, c3] : Array Value)[i]? := cell_of_row _ _ i _ _ _ h.px
/-- with new transactions and the empty book -/
theorem XB0.with_ (h : XB0 w0 w P D R j (.pointer (some ⟨T.t, 0, none⟩)) (.pointer (some ⟨U.u, 0, none⟩))) (hT : TxAt w T) (hd : T.d = D.d) (hn : T.nb = D.nb) (hc : T.c = fun _ => none) (hu : T.us = []) (hU : RTxAt w U) (hur : U.r = R.r) (hro : U.row = []) (hen : U.ends = false)
    (n1 n2 : Nat) (h12 : n1 ≤ n2) (hold : ∀ i k, cp0 D R P i k → k < n1) (hw0 : w0.heap.size ≤ n1) (hTn : ∀ k, T.all k → n1 ≤ k ∧ k < n2) (hUn : ∀ k, U.all k → n2 ≤ k) : XS w0 (w.alloc (.cells (Kb0 w.heap.size).cells 41)) P D R T U (Kb0 w.heap.size) j := by
  have ha : Below w.heap.size w (w.alloc (.cells (Kb0 w.heap.size).cells 41)) := (Below.refl _ _).alloc (Nat.le_refl _) _
  have hb : ∀ i k, cps D R T U (Kb0 w.heap.size) P i k → cp0 D R P i k ∨ (i = 2 ∧ T.all k) ∨ (i = 3 ∧ U.all k) ∨ (i = 4 ∧ k = w.heap.size) := fun i k e => by
    match i, e with
    | 0, e => exact .inl e
    | 1, e => exact .inl e
    | 2, e => exact .inr (.inl ⟨rfl, e⟩)
    | 3, e => exact .inr (.inr (.inl ⟨rfl, e⟩))
    | 4, e => exact .inr (.inr (.inr ⟨rfl, Kb0_all e⟩))
    | 5, e => exact .inl e
    | _ + 6, e => exact e.elim
  have hUl : ∀ k, U.all k → k < w.heap.size := fun k e => hU.lt e
  have hTl : ∀ k, T.all k → k < w.heap.size := fun k e => hT.lt e
  have hcl : ∀ i k, cp0 D R P i k → k < w.heap.size := fun i k e => h.lt i k e
  have hw := h.ws.be.size
  refine ⟨h.ws.on ha, h.rs, ⟨fun _ => ⟨hT.on ha, hd.symm, hn.symm, TU.new hc hu hro⟩, (fun e => by rw [hen] at e; cases e), fun k hk => Nat.lt_of_lt_of_le (hT.lt hk) ha.size⟩, hU.on ha, hur, by rw [hro]; exact Nat.zero_le _, Kb0_bk (heap_alloc_new _ _), Nat.zero_le _, Nat.zero_le _, (ha.block _ (heap_lt h.px)).trans h.px, h.sep.step (fun k => n1 ≤ k) (fun i k e => ?_) (fun i i' k hk e e' => ?_), fun i k e => ?_⟩
  · rcases hb i k e with e | ⟨_, e⟩ | ⟨_, e⟩ | ⟨_, e⟩
    · exact .inl e
    · exact .inr (hTn k e).1
    · exact .inr (Nat.le_trans h12 (hUn k e))
    · refine .inr ?_
      by_cases h0 : n1 ≤ k
      · exact h0
      · exfalso
        have := heap_lt (h.px)
        have := hold 5 P rfl
        have l1 := hUl U.u (.inl rfl)
        have l2 := hUn U.u (.inl rfl)
        omega
  · rcases hb i k e with e | ⟨e1, e⟩ | ⟨e1, e⟩ | ⟨e1, e⟩
    · have := hold i k e; omega
    · rcases hb i' k e' with e' | ⟨e2, e'⟩ | ⟨e2, e'⟩ | ⟨e2, e'⟩
      · have := hold i' k e'; omega
      · rw [e1, e2]
      · have := hTn k e; have := hUn k e'; omega
      · have := hTl k e; omega
    · rcases hb i' k e' with e' | ⟨e2, e'⟩ | ⟨e2, e'⟩ | ⟨e2, e'⟩
      · have := hold i' k e'; omega
      · have := hTn k e'; have := hUn k e; omega
      · rw [e1, e2]
      · have := hUl k e; omega
    · rcases hb i' k e' with e' | ⟨e2, e'⟩ | ⟨e2, e'⟩ | ⟨e2, e'⟩
      · have := hold i' k e'; omega
      · have := hTl k e'; omega
      · have := hUl k e'; omega
      · rw [e1, e2]
  · rcases hb i k e with e | ⟨_, e⟩ | ⟨_, e⟩ | ⟨_, e⟩
    · exact h.far i k e
    · exact Nat.le_trans hw0 (hTn k e).1
    · exact Nat.le_trans hw0 (Nat.le_trans h12 (hUn k e))
    · rw [e]; exact hw
/-- the sides, laid -/
theorem XB0.start {w4 : World} (n : NewW w w4 D R 0) (hrs : Rs D.abs) : XB0 w (w4.alloc (.cells #[.pointer (some ⟨D.d, 0, none⟩), .pointer (some ⟨R.r, 0, none⟩), .pointer none, .pointer none] 35)) w4.heap.size D R 0 (.pointer none) (.pointer none) := by
  have hA : Below w4.heap.size w4 (w4.alloc (.cells #[.pointer (some ⟨D.d, 0, none⟩), .pointer (some ⟨R.r, 0, none⟩), .pointer none, .pointer none] 35)) := (Below.refl _ _).alloc (Nat.le_refl _) _
  have lD : ∀ k, D.all k → k < w4.heap.size := fun k e => n.d.ltAll e
  have lR : ∀ k, R.all k → k < w4.heap.size := fun k e => n.t.r.lt e
  classical
  refine ⟨⟨n.d.on hA, n.t.on hA, n.ap, n.nd, n.be.trans (hA.mono n.be.size), n.kd⟩, hrs, heap_alloc_new _ _, ⟨fun k => if D.all k then 0 else if R.all k then 1 else 5, fun i k e => ?_⟩, fun i k e => ?_⟩
  · match i, e with
    | 0, e => exact if_pos e
    | 1, e => show (if D.all k then 0 else if R.all k then 1 else 5) = 1; have e' : R.all k := e; rw [if_neg (fun e2 => n.ap k e2 e), if_pos e']
    | 5, e =>
      have e : k = w4.heap.size := e
      show (if D.all k then 0 else if R.all k then 1 else 5) = 5
      rw [if_neg (fun e2 => by have := lD k e2; omega), if_neg (fun e2 => by have := lR k e2; omega)]
    | 2, e => exact e.elim
    | 3, e => exact e.elim
    | 4, e => exact e.elim
    | _ + 6, e => exact e.elim
  · match i, e with
    | 0, e => exact n.nd k (.inl e)
    | 1, e => exact n.nd k (.inr e)
    | 5, e => have e : k = w4.heap.size := e; rw [e]; exact n.be.size
    | 2, e => exact e.elim
    | 3, e => exact e.elim
    | 4, e => exact e.elim
    | _ + 6, e => exact e.elim
set_option maxRecDepth 100000 in
set_option maxHeartbeats 8000000 in
theorem begins0_any (h : XB0 w0 w P D R j c2 c3) (_n2 : c2.oneCell' = true) (_n3 : c3.oneCell' = true) : Calls Tryz.prog 7 #[.pointer (some ⟨P, 0, none⟩)] w fun e w' => e = .returned (.bool true) ∧ ∃ T U, XS w0 (w'.alloc (.cells (Kb0 w'.heap.size).cells 41)) P D R T U (Kb0 w'.heap.size) j := by
  have hnb : D.nb = R.nb := h.ws.t.tie.nb
  have hnb2 := h.ws.t.r.nb0
  have HX : Hid (XB0 w0 w P D R j c2 c3) := h
  have HN : Hid (D.nb ≤ 16384) := by show D.nb ≤ 16384; omega
  have d0 : w.cell? ⟨P, 0, none⟩ = some (.pointer (some ⟨D.d, 0, none⟩)) := h.cell 0
  clear h hnb hnb2
  go_enter Tryz.func7, Tryz.ntmps7
  go_upto_region 2 with (go_at_call 18; refine (begin_any w D.d D.nb HN.out).mono ?_; rintro e w1 ⟨T, rfl, h1, h2, h3, h4, h5⟩
                         have H1 : Hid (TMine w w1 T ∧ T.d = D.d ∧ T.nb = D.nb ∧ T.c = (fun _ => none) ∧ T.us = []) := ⟨h1, h2, h3, h4, h5⟩
                         have hx := HX.out.on h1.bel
                         have e2 : w1.cell? ⟨P, 2, none⟩ = some c2 := hx.cell 2
                         have f2 : w1.frozen? ⟨P, 2, none⟩ = false := frozen_of_row _ _ 2 _ _ hx.px
                         clear h1 h2 h3 h4 h5 hx d0)
  obtain ⟨w2, hw2⟩ : ∃ w2, w1.setCell ⟨P, 2, none⟩ (.pointer (some ⟨T.t, 0, none⟩)) = w2 := ⟨_, rfl⟩
  have H2 : Hid (XB0 w0 w2 P D R j (.pointer (some ⟨T.t, 0, none⟩)) c3 ∧ Fr (fun k => k = P) w1 w2) := by
    have hx := HX.out.on H1.out.1.bel
    have hs := heap_setCell_same w1 P 2 _ _ (.pointer (some ⟨T.t, 0, none⟩)) hx.px
    have f : Fr (fun k => k = P) w1 (w1.setCell ⟨P, 2, none⟩ (.pointer (some ⟨T.t, 0, none⟩))) := Fr.set
    rw [hw2] at hs f
    exact ⟨hx.set f hs, f⟩
  rw [hw2]
  have d1 : w2.cell? ⟨P, 1, none⟩ = some (.pointer (some ⟨R.r, 0, none⟩)) := H2.out.1.cell 1
  clear hw2 e2 f2
  go_upto_region 3 with (go_at_call 19; refine (rbegin6_any w2 R.r).mono ?_; rintro e w3 ⟨U, rfl, h1, h2, h3, h4, h5, h6, h7⟩
                         have H3 : Hid (RTxAt w3 U ∧ U.r = R.r ∧ U.row = [] ∧ U.ends = false ∧ U.rv = .slice none 0 0 ∧ w2.heap.size ≤ U.u ∧ Below w2.heap.size w2 w3) := ⟨h1, h2, h3, h4, h5, h6, h7⟩
                         have hx := H2.out.1.on h7
                         have e3 : w3.cell? ⟨P, 3, none⟩ = some c3 := hx.cell 3
                         have f3 : w3.frozen? ⟨P, 3, none⟩ = false := frozen_of_row _ _ 3 _ _ hx.px
                         clear h1 h2 h3 h4 h5 h6 h7 hx d1)
  obtain ⟨w4, hw4⟩ : ∃ w4, w3.setCell ⟨P, 3, none⟩ (.pointer (some ⟨U.u, 0, none⟩)) = w4 := ⟨_, rfl⟩
  have H4 : Hid (XB0 w0 w4 P D R j (.pointer (some ⟨T.t, 0, none⟩)) (.pointer (some ⟨U.u, 0, none⟩)) ∧ Fr (fun k => k = P) w3 w4) := by
    have hx := H2.out.1.on H3.out.2.2.2.2.2.2
    have hs := heap_setCell_same w3 P 3 _ _ (.pointer (some ⟨U.u, 0, none⟩)) hx.px
    have f : Fr (fun k => k = P) w3 (w3.setCell ⟨P, 3, none⟩ (.pointer (some ⟨U.u, 0, none⟩))) := Fr.set
    rw [hw4] at hs f
    exact ⟨hx.set f hs, f⟩
  rw [hw4]
  have d2 : w4.cell? ⟨P, 2, none⟩ = some (.pointer (some ⟨T.t, 0, none⟩)) := H4.out.1.cell 2
  clear hw4 e3 f3
  go_wp2
  go_ret
  obtain ⟨hm, hd, hn, hc, hu⟩ := H1.out
  obtain ⟨gU, gr, gro, gen, grv, gu, gb⟩ := H3.out
  have hP : P < w.heap.size := HX.out.lt 5 P rfl
  have s1 := hm.bel.size
  have s2 := H2.out.2.size
  have s3 := gb.size
  refine ⟨rfl, T, U, H4.out.1.with_ (n1 := w.heap.size) (n2 := w2.heap.size) ?_ hd hn hc hu ?_ gr gro gen (by omega) (fun i k e => HX.out.lt i k e) HX.out.ws.be.size (fun k e => ⟨hm.far k e, Nat.lt_of_lt_of_le (hm.at_.lt e) s2⟩) (fun k e => ?_)⟩
  · refine ((hm.at_.fr H2.out.2 (fun k e e2 => ?_)).on gb).fr H4.out.2 (fun k e e2 => ?_)
    · have := hm.far k e; omega
    · have := hm.far k e; omega
  · refine gU.fr H4.out.2 (fun k e e2 => ?_)
    rcases e with e | e
    · omega
    · rw [grv] at e; cases e
  · rcases e with e | e
    · omega
    · rw [grv] at e; cases e
end Go.Proofs.YtcbebalakdkgnaaGreatDoor
