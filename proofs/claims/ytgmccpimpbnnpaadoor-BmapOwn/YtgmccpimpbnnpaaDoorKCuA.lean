import Derived.Test.YtgmccpimpbnnpaaDoorBpS
import Derived.Deep.LoopGhost
namespace Go.Proofs.YtgmccpimpbnnpaaDoor
open Go.RowKit Go.Maps Rec
structure Cx (w : World) (P tt n k tb g len cap : Nat) (c : Bool) : Prop where
  t : w.heap[P]? = some (.cells #[.pointer (some ⟨tt, 0, none⟩)] 26 (0, 0))
  ge : GeoAt w (P + 1) n
  r : w.heap[P + 1 + 1]? = some (.cells #[.int .i64 (tb : Int), .slice (some ⟨g, 0, none⟩) len cap] 69 (0, 0))
  k : w.heap[P + 1 + 1 + 1]? = some (.cells #[.int .i64 (k : Int)] 3 (0, 0))
  c : w.heap[P + 1 + 1 + 1 + 1]? = some (.cells #[.bool c] 4 (0, 0))
theorem Cx.fr {S : Nat → Prop} {w w' : World} {P tt n k tb g len cap : Nat} {c : Bool} (h : Cx w P tt n k tb g len cap c) (f : Fr S w w') (hS : ∀ i, P ≤ i → i < P + 5 → ¬ S i) : Cx w' P tt n k tb g len cap c := ⟨f.heap h.t (hS _ (by omega) (by omega)), f.heap h.ge (hS _ (by omega) (by omega)), f.heap h.r (hS _ (by omega) (by omega)), f.heap h.k (hS _ (by omega) (by omega)), f.heap h.c (hS _ (by omega) (by omega))⟩
theorem Cx.on {w w' : World} {P tt n k tb g len cap : Nat} {c : Bool} (h : Cx w P tt n k tb g len cap c) (hb : Below w.heap.size w w') : Cx w' P tt n k tb g len cap c := h.fr (below_fr hb (fun _ => False)) (fun _ _ _ e => e)
theorem Cx.lt {w : World} {P tt n k tb g len cap : Nat} {c : Bool} (h : Cx w P tt n k tb g len cap c) : P + 1 + 1 + 1 + 1 < w.heap.size := heap_lt h.c
theorem Cx.setC {w : World} {P tt n k tb g len cap : Nat} {c : Bool} (h : Cx w P tt n k tb g len cap c) (d : Bool) : Cx (w.setCell ⟨P + 1 + 1 + 1 + 1, 0, none⟩ (.bool d)) P tt n k tb g len cap d :=
  have ne : ∀ i, P ≤ i → i < P + 4 → ¬ i = P + 1 + 1 + 1 + 1 := fun i h1 h2 => by omega
  ⟨(Fr.set (g := P + 1 + 1 + 1 + 1)).heap h.t (ne _ (by omega) (by omega)), (Fr.set (g := P + 1 + 1 + 1 + 1)).heap h.ge (ne _ (by omega) (by omega)), (Fr.set (g := P + 1 + 1 + 1 + 1)).heap h.r (ne _ (by omega) (by omega)), (Fr.set (g := P + 1 + 1 + 1 + 1)).heap h.k (ne _ (by omega) (by omega)), heap_setCell_same _ _ 0 _ _ (.bool d) h.c⟩
structure Cy (w0 w : World) (D : Dk) (T : Tx) (P g : Nat) : Prop where
  o : ∀ q, P ≤ q → q < P + 5 → Out w0 w D T q
  gg : Out w0 w D T g
  ne : ∀ q, P ≤ q → q < P + 5 → q ≠ g
theorem Cy.mv {S : Nat → Prop} {w0 w w' : World} {D : Dk} {T T' : Tx} {P g : Nat} (h : Cy w0 w D T P g) (m : SMv S w T w' T') : Cy w0 w' D T' P g := ⟨fun q h1 h2 => (h.o q h1 h2).mv m, h.gg.mv m, h.ne⟩
def CnE (w0 wx : World) (D : Dk) (Tx_ : Tx) (n : Nat) (gn : Bool) (J' : Tx → Prop) (Z : Prop) (e : Ending) (w' : World) : Prop :=
  ∃ (b : Bool) (z : Nat) (T' : Tx), e = .returned (.tuple #[.bool b, .int .i64 (z : Int)]) ∧ Gon w0 wx w' D Tx_ T' n (fun _ => False) ∧ (∃ m, Ext Tx_ T' m) ∧ ((z = 0 ∧ b = gn ∧ J' T') ∨ (z = 60 ∧ Z))
def CrE (w0 w : World) (D : Dk) (T : Tx) (n P tt k tb g len cap : Nat) (c : Bool) (ns : List Int) (J' : Tx → Prop) (Z : Prop) (z : Nat) (T' : Tx) (w' : World) : Prop :=
  Gon w0 w w' D T T' n (fun i => i = g ∨ i = P + 1 + 1 + 1 + 1) ∧ (∃ m, Ext T T' m) ∧ ((z = 0 ∧ J' T' ∧ OwnI w' g cap ns ∧ Cx w' P tt n k tb g len cap c) ∨ (z = 60 ∧ Z)) ∧ ∃ d, Cx w' P tt n k tb g len cap d
def cuL (gn : Bool) (ns : List Int) (a : Nat) : List Int := if gn = true then ns.set a 0 else ns
set_option maxRecDepth 100000 in
set_option maxHeartbeats 4000000 in
theorem cr1_any (w0 w : World) (D : Dk) (T : Tx) (n : Nat) (P tt k tb g len cap : Nat) (c : Bool) (hC : Cx w P tt n k tb g len cap c) (hY : Cy w0 w D T P g) (ns : List Int) (ho : OwnI w g cap ns) (hl : ns.length = len) (a f s N : Nat) (ha : a < len) (gn : Bool) (J' : Tx → Prop) (Z : Prop)
    (hcn : ∀ wx, Below w.heap.size w wx → Calls Tryd.prog 56 #[.pointer (some ⟨tt, 0, none⟩), geoV n, stV a f s, .int .i64 (N : Int), .int .i64 (k : Int)] wx (CnE w0 wx D T n gn J' Z)) (h : Spc w0 w D T n) :
    Calls Tryd.prog 55 #[stV a f s, .int .i64 (N : Int), .pointer (some ⟨P, 0, none⟩), .pointer (some ⟨P + 1, 0, none⟩), .pointer (some ⟨P + 1 + 1 + 1, 0, none⟩), .pointer (some ⟨P + 1 + 1, 0, none⟩), .pointer (some ⟨P + 1 + 1 + 1 + 1, 0, none⟩)] w fun e w' => ∃ (z : Nat) (T' : Tx), e = .returned (.int .i64 (z : Int)) ∧ CrE w0 w D T n P tt k tb g len cap (c || gn) (cuL gn ns a) J' Z z T' w' := by
  have ha' : (a : Int) < (len : Int) := by omega
  obtain ⟨wa, hwa⟩ : ∃ wa, w.alloc (.cells #[.int .i64 (a : Int), .int .i64 (f : Int), .int .i64 (s : Int)] 80) = wa := ⟨_, rfl⟩
  have HA : Hid (Below w.heap.size w wa ∧ StAt wa w.heap.size a f s) := by rw [← hwa]; exact ⟨below_new _, heap_alloc_new _ _⟩
  have hCa := hC.on HA.out.1
  obtain ⟨y0, y1, y2⟩ := HA.out.2.cells
  have t0 : wa.cell? ⟨P, 0, none⟩ = some (.pointer (some ⟨tt, 0, none⟩)) := by rw [cell_of_row _ _ _ _ _ _ hCa.t]; rfl
  obtain ⟨z0, z1, z2, z3, z4⟩ := hCa.ge.cells
  have k0 : wa.cell? ⟨P + 1 + 1 + 1, 0, none⟩ = some (.int .i64 (k : Int)) := by rw [cell_of_row _ _ _ _ _ _ hCa.k]; rfl
  have HK := hcn wa HA.out.1
  have HCn : Hid (Calls Tryd.prog 56 #[.pointer (some ⟨tt, 0, none⟩), .agg #[.int .i64 (n : Int), .int .i64 98, .int .i64 (gI n), .int .i64 (gD n), .int .i64 (gC n)], .agg #[.int .i64 (a : Int), .int .i64 (f : Int), .int .i64 (s : Int)], .int .i64 (N : Int), .int .i64 (k : Int)] wa (CnE w0 wa D T n gn J' Z)) := HK
  have HS : Hid (Cx wa P tt n k tb g len cap c ∧ Cy w0 wa D T P g ∧ OwnI wa g cap ns ∧ Spc w0 wa D T n ∧ a < ns.length) := ⟨hCa, hY.mv (SMv.on HA.out.1 (S := fun _ => False)), ho.on HA.out.1, h.on HA.out.1, by omega⟩
  have HSn : Hid (∀ q, w.heap.size ≤ q → ¬ T.has q) := fun q hq e => by have := h.ses.tx.lt (.inl e); omega
  have HSp : Hid (Spc w0 w D T n) := h
  clear HK hcn hC hY ho h hCa hl ha
  unfold stV
  go_enter Tryd.func55, Tryd.ntmps55
  go_upto_region 2 with (go_at_call 56; refine HCn.out.mono ?_; rintro e w1 ⟨b, z, T1, rfl, hg, hx, hor⟩; have H1 : Hid (Gon w0 wa w1 D T T1 n (fun _ => False) ∧ (∃ m, Ext T T1 m) ∧ ((z = 0 ∧ b = gn ∧ J' T1) ∨ (z = 60 ∧ Z))) := ⟨hg, hx, hor⟩; clear hg hx hor HCn)
  have hno : ∀ q, Out w0 wa D T q → ¬ (T.has q ∨ False) := fun q ho e => e.elim (fun e => ho.no e) (fun e => e)
  have HC1 : Hid (Cx w1 P tt n k tb g len cap c ∧ OwnI w1 g cap ns ∧ w1.heap[w.heap.size]? = some (.cells #[.int .i64 (a : Int), .int .i64 (f : Int), .int .i64 (s : Int)] 80 (0, 0)) ∧ Cy w0 w1 D T1 P g) := ⟨HS.out.1.fr H1.out.1.mv.fr (fun q e1 e2 => hno q (HS.out.2.1.o q e1 e2)), HS.out.2.2.1.fr H1.out.1.mv.fr (hno _ HS.out.2.1.gg), H1.out.1.mv.fr.heap HA.out.2 (fun e => e.elim (fun e => HSn.out _ (Nat.le_refl _) e) (fun e => e)), HS.out.2.1.mv H1.out.1.mv⟩
  have HG : Hid (Gon w0 w w1 D T T1 n (fun i => i = g ∨ i = P + 1 + 1 + 1 + 1)) := (Gon.on HSp.out HA.out.1 (S := fun i => i = g ∨ i = P + 1 + 1 + 1 + 1)).trans H1.out.1 (fun _ e => e.elim)
  clear hno y0 y1 y2 t0 z0 z1 z2 z3 z4 k0
  cases b
  · have HE : Hid ((z = 0 ∧ J' T1 ∧ OwnI w1 g cap (cuL gn ns a) ∧ Cx w1 P tt n k tb g len cap (c || gn)) ∨ (z = 60 ∧ Z)) := by
      rcases H1.out.2.2 with ⟨e, rfl, hj⟩ | e
      · exact .inl ⟨e, hj, HC1.out.2.1, by rw [Bool.or_false]; exact HC1.out.1⟩
      · exact .inr e
    go_wp2
    go_ret
    exact ⟨z, T1, rfl, HG.out, H1.out.2.1, HE.out, _, HC1.out.1⟩
  · obtain ⟨y0, y1, y2⟩ := (show StAt w1 w.heap.size a f s from HC1.out.2.2.1).cells
    have r1 : w1.cell? ⟨P + 1 + 1, 1, none⟩ = some (.slice (some ⟨g, 0, none⟩) len cap) := by rw [cell_of_row _ _ _ _ _ _ HC1.out.1.r]; rfl
    have c0 : w1.cell? ⟨g, a, none⟩ = some (.int .i64 (nth ns a)) := HC1.out.2.1.cell a HS.out.2.2.2.2
    have f0 : w1.frozen? ⟨g, a, none⟩ = false := HC1.out.2.1.frozen a
    obtain ⟨w2, hw2⟩ : ∃ w2, w1.setCell ⟨g, a, none⟩ (.int .i64 0) = w2 := ⟨_, rfl⟩
    have H2 : Hid (Fr (fun i => i = g) w1 w2 ∧ OwnI w2 g cap (ns.set a 0) ∧ Cx w2 P tt n k tb g len cap c) := by
      rw [← hw2]
      exact ⟨Fr.set, HC1.out.2.1.set a 0, HC1.out.1.fr (Fr.set (g := g)) (fun q e1 e2 => HC1.out.2.2.2.ne q e1 e2)⟩
    have q0 : w2.cell? ⟨P + 1 + 1 + 1 + 1, 0, none⟩ = some (.bool c) := by rw [cell_of_row _ _ _ _ _ _ H2.out.2.2.c]; rfl
    have q1 : w2.frozen? ⟨P + 1 + 1 + 1 + 1, 0, none⟩ = false := frozen_of_row _ _ _ _ _ H2.out.2.2.c
    have HE : Hid ((z = 0 ∧ J' T1 ∧ OwnI (w2.setCell ⟨P + 1 + 1 + 1 + 1, 0, none⟩ (.bool true)) g cap (cuL gn ns a) ∧ Cx (w2.setCell ⟨P + 1 + 1 + 1 + 1, 0, none⟩ (.bool true)) P tt n k tb g len cap (c || gn)) ∨ (z = 60 ∧ Z)) := by
      rcases H1.out.2.2 with ⟨e, rfl, hj⟩ | e
      · refine .inl ⟨e, hj, ?_, by rw [Bool.or_true]; exact H2.out.2.2.setC true⟩
        unfold cuL
        rw [if_pos rfl]
        exact H2.out.2.1.fr (Fr.set (g := P + 1 + 1 + 1 + 1)) (fun e => HC1.out.2.2.2.ne _ (by omega) (by omega) e.symm)
      · exact .inr e
    have HG2 : Hid (Gon w0 w (w2.setCell ⟨P + 1 + 1 + 1 + 1, 0, none⟩ (.bool true)) D T T1 n (fun i => i = g ∨ i = P + 1 + 1 + 1 + 1)) := by
      have hf : Fr (fun i => i = g ∨ i = P + 1 + 1 + 1 + 1) w1 (w2.setCell ⟨P + 1 + 1 + 1 + 1, 0, none⟩ (.bool true)) := (H2.out.1.mono (fun _ e => .inl e)).trans (Fr.set (g := P + 1 + 1 + 1 + 1)) (fun _ e => .inl (.inr e))
      exact ⟨HG.out.mv.trans (SMv.fr_ hf) (fun _ e => .inl e), HG.out.spc.frG hf (fun i hi => .inr (by rcases hi with e | e; rw [e]; exact HC1.out.2.2.2.gg; rw [e]; exact HC1.out.2.2.2.o _ (by omega) (by omega))), HG.out.dom⟩
    go_wp2
    go_ret
    exact ⟨z, T1, rfl, HG2.out, H1.out.2.1, HE.out, _, H2.out.2.2.setC true⟩
end Go.Proofs.YtgmccpimpbnnpaaDoor

namespace Go.Proofs.YtgmccpimpbnnpaaDoor
open Go.RowKit Go.Maps Rec
def actB (a fst siz : Nat → Nat) (k j : Nat) : Bool := decide (a j ≠ 0) && decide (k < fst j + siz j)
def rowC (len : Nat) (a : Nat → Nat) (ac gn : Nat → Bool) (j : Nat) : List Int := (List.range len).map fun i => if i < j ∧ ac i = true ∧ gn i = true then 0 else (a i : Int)
def chC (ac gn : Nat → Bool) : Nat → Bool
  | 0 => false
  | j + 1 => chC ac gn j || (ac j && gn j)
theorem rowC_length (len : Nat) (a : Nat → Nat) (ac gn : Nat → Bool) (j : Nat) : (rowC len a ac gn j).length = len := by simp [rowC]
theorem nth_rowC (len : Nat) (a : Nat → Nat) (ac gn : Nat → Bool) (j i : Nat) (h : i < len) : nth (rowC len a ac gn j) i = if i < j ∧ ac i = true ∧ gn i = true then 0 else (a i : Int) := by
  simp [nth, rowC, List.getD, h]
theorem rowC_skip (len : Nat) (a : Nat → Nat) (ac gn : Nat → Bool) (j : Nat) (h : ac j = false) : rowC len a ac gn (j + 1) = rowC len a ac gn j := by
  refine ext_nth (by rw [rowC_length, rowC_length]) (fun i hi => ?_)
  rw [rowC_length] at hi
  rw [nth_rowC _ _ _ _ _ _ hi, nth_rowC _ _ _ _ _ _ hi]
  by_cases e : i = j
  · subst e; rw [if_neg (by rw [h]; simp), if_neg (by omega)]
  · by_cases e2 : i < j ∧ ac i = true ∧ gn i = true
    · rw [if_pos e2, if_pos ⟨by omega, e2.2⟩]
    · rw [if_neg e2, if_neg (fun e3 => e2 ⟨by omega, e3.2⟩)]
theorem rowC_next (len : Nat) (a : Nat → Nat) (ac gn : Nat → Bool) (j : Nat) (hj : j < len) (h : ac j = true) : cuL (gn j) (rowC len a ac gn j) j = rowC len a ac gn (j + 1) := by
  refine ext_nth (by unfold cuL; split <;> simp [rowC_length]) (fun i hi => ?_)
  have hi' : i < len := by
    unfold cuL at hi
    split at hi <;> simpa [rowC_length] using hi
  rw [nth_rowC _ _ _ _ _ _ hi']
  unfold cuL
  by_cases hg : gn j = true
  · rw [if_pos hg, nth_set _ _ _ _ (by rw [rowC_length]; exact hj)]
    by_cases e : i = j
    · subst e; rw [if_pos rfl, if_pos ⟨by omega, h, hg⟩]
    · rw [if_neg e, nth_rowC _ _ _ _ _ _ hi']
      by_cases e2 : i < j ∧ ac i = true ∧ gn i = true
      · rw [if_pos e2, if_pos ⟨by omega, e2.2⟩]
      · rw [if_neg e2, if_neg (fun e3 => e2 ⟨by omega, e3.2⟩)]
  · rw [if_neg hg, nth_rowC _ _ _ _ _ _ hi']
    by_cases e : i = j
    · subst e; rw [if_neg (by omega), if_neg (fun e3 => hg e3.2.2)]
    · by_cases e2 : i < j ∧ ac i = true ∧ gn i = true
      · rw [if_pos e2, if_pos ⟨by omega, e2.2⟩]
      · rw [if_neg e2, if_neg (fun e3 => e2 ⟨by omega, e3.2⟩)]
structure EcI (w0 w wr : World) (D : Dk) (T Tr : Tx) (n P tt k tb g len cap P5 : Nat) (a : Nat → Nat) (ac gn : Nat → Bool) (J : Nat → Tx → Prop) (j : Nat) : Prop where
  gon : Gon w0 w wr D T Tr n (fun i => i = g ∨ i = P + 1 + 1 + 1 + 1)
  ext : ∃ m, Ext T Tr m
  geo : GeoAt wr P5 n
  o5 : Out w0 wr D Tr P5 ∧ P5 ≠ g ∧ P5 ≠ P + 1 + 1 + 1 + 1
  cx : Cx wr P tt n k tb g len cap (chC ac gn j)
  cy : Cy w0 wr D Tr P g
  row : OwnI wr g cap (rowC len a ac gn j)
  jj : J j Tr
theorem EcI.on {w0 w wr wx : World} {D : Dk} {T Tr : Tx} {n P tt k tb g len cap P5 j : Nat} {a : Nat → Nat} {ac gn : Nat → Bool} {J : Nat → Tx → Prop} (h : EcI w0 w wr D T Tr n P tt k tb g len cap P5 a ac gn J j) (hb : Below wr.heap.size wr wx) : EcI w0 w wx D T Tr n P tt k tb g len cap P5 a ac gn J j :=
  ⟨h.gon.trans (Gon.on h.gon.spc hb (S := fun _ => False)) (fun _ e => e.elim), h.ext, h.geo.on hb, ⟨h.o5.1.mv (SMv.on hb (S := fun _ => False)), h.o5.2⟩, h.cx.on hb, h.cy.mv (SMv.on hb (S := fun _ => False)), h.row.on hb, h.jj⟩
theorem EcI.skip {w0 w wr : World} {D : Dk} {T Tr : Tx} {n P tt k tb g len cap P5 j : Nat} {a : Nat → Nat} {ac gn : Nat → Bool} {J : Nat → Tx → Prop} (h : EcI w0 w wr D T Tr n P tt k tb g len cap P5 a ac gn J j) (ha : ac j = false) (hj : J (j + 1) Tr) : EcI w0 w wr D T Tr n P tt k tb g len cap P5 a ac gn J (j + 1) :=
  ⟨h.gon, h.ext, h.geo, h.o5, by rw [chC, ha, Bool.false_and, Bool.or_false]; exact h.cx, h.cy, by rw [rowC_skip _ _ _ _ _ ha]; exact h.row, hj⟩
theorem EcI.next {w0 w wr w3 : World} {D : Dk} {T Tr T3 : Tx} {n P tt k tb g len cap P5 j : Nat} {a : Nat → Nat} {ac gn : Nat → Bool} {J : Nat → Tx → Prop} {Z : Prop} (h : EcI w0 w wr D T Tr n P tt k tb g len cap P5 a ac gn J j) (ha : ac j = true) (hj : j < len) (b : CrE w0 wr D Tr n P tt k tb g len cap (chC ac gn j || gn j) (cuL (gn j) (rowC len a ac gn j) j) (J (j + 1)) Z 0 T3 w3) : EcI w0 w w3 D T T3 n P tt k tb g len cap P5 a ac gn J (j + 1) := by
  obtain ⟨b1, ⟨m2, b2⟩, b3, _⟩ := b
  rcases b3 with ⟨_, b3, b4, b5⟩ | e
  · obtain ⟨m, hm⟩ := h.ext
    refine ⟨h.gon.trans b1 (fun _ e => .inl e), ⟨m + m2, hm.trans b2⟩, b1.mv.fr.heap h.geo (fun e => ?_), ⟨h.o5.1.mv b1.mv, h.o5.2⟩, by rw [chC, ha, Bool.true_and]; exact b5, h.cy.mv b1.mv, by rw [← rowC_next _ _ _ _ _ hj ha]; exact b4, b3⟩
    rcases e with e | e | e
    · exact h.o5.1.no e
    · exact h.o5.2.1 e
    · exact h.o5.2.2 e
  · exact absurd e.1 (by omega)
def EcE (w0 w : World) (D : Dk) (T : Tx) (n P tt k tb g len cap : Nat) (a : Nat → Nat) (ac gn : Nat → Bool) (J : Nat → Tx → Prop) (Z : Prop) (z : Nat) (T' : Tx) (w' : World) : Prop :=
  Gon w0 w w' D T T' n (fun i => i = g ∨ i = P + 1 + 1 + 1 + 1) ∧ (∃ m, Ext T T' m) ∧ ((z = 0 ∧ J len T' ∧ OwnI w' g cap (rowC len a ac gn len) ∧ Cx w' P tt n k tb g len cap (chC ac gn len)) ∨ (z = 60 ∧ Z)) ∧ ∃ d, Cx w' P tt n k tb g len cap d
def CnH (w0 : World) (D : Dk) (n tt k len : Nat) (a fst siz : Nat → Nat) (gn : Nat → Bool) (J : Nat → Tx → Prop) (Z : Prop) : Prop :=
  ∀ j, j < len → actB a fst siz k j = true → ∀ (wx : World) (Tx_ : Tx), Spc w0 wx D Tx_ n → Tx_.t = tt → J j Tx_ → (nD n ≤ a j ∧ a j < n) ∧ Calls Tryd.prog 56 #[.pointer (some ⟨tt, 0, none⟩), geoV n, stV j (fst j) (siz j), .int .i64 (a j : Int), .int .i64 (k : Int)] wx (CnE w0 wx D Tx_ n (gn j) (J (j + 1)) Z)
set_option maxRecDepth 100000 in
set_option maxHeartbeats 8000000 in
theorem eachc_own (w0 w : World) (D : Dk) (T : Tx) (n : Nat) (h : Spc w0 w D T n) (P tt k tb g len cap : Nat) (htt : T.t = tt) (_hk : k ≤ 100000) (hlen : len ≤ 128) (a : Nat → Nat) (gn : Nat → Bool) (J : Nat → Tx → Prop) (Z : Prop) (hC : Cx w P tt n k tb g len cap false) (hY : Cy w0 w D T P g) (ho : OwnI w g cap (rowC len a (actB a oF oS k) gn 0)) (hJ : J 0 T) (hsk : ∀ j T', j < len → actB a oF oS k j = false → J j T' → J (j + 1) T') (hcn : CnH w0 D n tt k len a oF oS gn J Z) :
    Calls Tryd.prog 30 #[geoV n, .agg #[.int .i64 (tb : Int), .slice (some ⟨g, 0, none⟩) len cap], .func (.func 32) #[] #[], .int .i64 (k : Int), .func (.func 55) #[] #[.pointer (some ⟨P, 0, none⟩), .pointer (some ⟨P + 1, 0, none⟩), .pointer (some ⟨P + 1 + 1 + 1, 0, none⟩), .pointer (some ⟨P + 1 + 1, 0, none⟩), .pointer (some ⟨P + 1 + 1 + 1 + 1, 0, none⟩)]] w fun e w' => ∃ (z : Nat) (T' : Tx), e = .returned (.int .i64 (z : Int)) ∧ EcE w0 w D T n P tt k tb g len cap a (actB a oF oS k) gn J Z z T' w' := by
  obtain ⟨ac, hac⟩ : ∃ ac, actB a oF oS k = ac := ⟨_, rfl⟩
  obtain ⟨fst, hfst⟩ : ∃ fst : Nat → Nat, oF = fst := ⟨_, rfl⟩
  obtain ⟨siz, hsiz⟩ : ∃ siz : Nat → Nat, oS = siz := ⟨_, rfl⟩
  have hbd : ∀ j, j < len → fst j ≤ 100000 ∧ siz j ≤ 100000 := fun j hj => by rw [← hfst, ← hsiz]; unfold oF oS; split <;> (try split) <;> omega
  have HTo : Hid (∀ (wx : World) (j : Nat), j < len → Calls Tryd.prog 32 #[.int .i64 (j : Int)] wx fun e w' => e = .returned (.agg #[.int .i64 (j : Int), .int .i64 (fst j : Int), .int .i64 (siz j : Int)]) ∧ Below wx.heap.size wx w') := fun wx j hj => by
    rw [← hfst, ← hsiz]; exact own_any wx j
  rw [hfst, hsiz] at hac
  rw [hfst, hsiz] at hsk hcn ho ⊢
  rw [hac] at hsk ho ⊢
  have HAc : Hid (∀ j, ac j = (decide (a j ≠ 0) && decide (k < fst j + siz j))) := fun j => by rw [← hac]; rfl
  have HCn : Hid (∀ j, j < len → ac j = true → ∀ (wx : World) (Tx_ : Tx), Spc w0 wx D Tx_ n → Tx_.t = tt → J j Tx_ → (nD n ≤ a j ∧ a j < n) ∧ Calls Tryd.prog 56 #[.pointer (some ⟨tt, 0, none⟩), geoV n, stV j (fst j) (siz j), .int .i64 (a j : Int), .int .i64 (k : Int)] wx (CnE w0 wx D Tx_ n (gn j) (J (j + 1)) Z)) := by rw [← hac]; exact hcn
  have HSk : Hid (∀ j T', j < len → ac j = false → J j T' → J (j + 1) T') := hsk
  obtain ⟨wa, hwa⟩ : ∃ wa, (w.alloc (.cells #[.int .i64 (n : Int), .int .i64 98, .int .i64 (gI n), .int .i64 (gD n), .int .i64 (gC n)] 29)).alloc (.cells #[.int .i64 (tb : Int), .slice (some ⟨g, 0, none⟩) len cap] 69) = wa := ⟨_, rfl⟩
  have HA : Hid (Below w.heap.size w wa ∧ wa.heap[w.heap.size + 1]? = some (.cells #[.int .i64 (tb : Int), .slice (some ⟨g, 0, none⟩) len cap] 69 (0, 0)) ∧ EcI w0 w wa D T T n P tt k tb g len cap w.heap.size a ac gn J 0) := by
    have hb : Below w.heap.size w wa := by rw [← hwa]; exact (below_new _).alloc (by simp) _
    have hg : GeoAt wa w.heap.size n := by rw [← hwa]; exact (Below.heap_alloc _ _ _ (by simp)).trans (heap_alloc_new _ _)
    have hr : wa.heap[w.heap.size + 1]? = some (.cells #[.int .i64 (tb : Int), .slice (some ⟨g, 0, none⟩) len cap] 69 (0, 0)) := by
      have := heap_alloc_new (w.alloc (.cells #[.int .i64 (n : Int), .int .i64 98, .int .i64 (gI n), .int .i64 (gD n), .int .i64 (gC n)] 29)) (.cells #[.int .i64 (tb : Int), .slice (some ⟨g, 0, none⟩) len cap] 69)
      rw [World.size_alloc] at this
      rw [← hwa]; exact this
    have m : SMv (fun _ => False) w T wa T := SMv.on hb
    have h1 := hC.lt
    have h2 := hY.gg.lt
    exact ⟨hb, hr, Gon.on h hb, ⟨0, Ext.refl _⟩, hg, ⟨Out.of h (Nat.le_refl _) (heap_lt hg), by omega, by omega⟩, hC.on hb, hY.mv m, ho.on hb, hJ⟩
  have b1 : wa.cell? ⟨w.heap.size + 1, 1, none⟩ = some (.slice (some ⟨g, 0, none⟩) len cap) := by rw [cell_of_row _ _ _ _ _ _ HA.out.2.1]; rfl
  have HTt : Hid (T.t = tt) := htt
  clear h hC hY ho hJ hsk hcn hac hfst hsiz htt
  unfold geoV
  go_enter Tryd.func30, Tryd.ntmps30
  go_wp2
  go_loopw [18] (fun s18 wr => ∃ (j : Nat) (Tr : Tx), j ≤ len ∧ s18 = .int .i64 (j : Int) ∧ EcI w0 w wr D T Tr n P tt k tb g len cap w.heap.size a ac gn J j) (fun s18 _ => len - (intOf s18).toNat)
  case atStart => exact ⟨0, T, by omega, rfl, HA.out.2.2⟩
  case round =>
    clear b1
    obtain ⟨j, Tr, hj, rfl, hI⟩ := hrel
    have HI : Hid (EcI w0 w wr D T Tr n P tt k tb g len cap w.heap.size a ac gn J j) := hI
    by_cases hlt : j < len
    · have hlt' : (j : Int) < (len : Int) := by omega
      obtain ⟨N, hN⟩ : ∃ N, a j = N := ⟨_, rfl⟩
      have hc : wr.cell? ⟨g, j, none⟩ = some (.int .i64 (N : Int)) := by
        have := hI.row.cell j (by rw [rowC_length]; exact hlt)
        rw [nth_rowC _ _ _ _ _ _ hlt, if_neg (by omega), hN] at this
        exact this
      obtain ⟨f, hf⟩ : ∃ f, fst j = f := ⟨_, rfl⟩
      obtain ⟨s, hs⟩ : ∃ s, siz j = s := ⟨_, rfl⟩
      obtain ⟨Q, hQ⟩ : ∃ Q, f + s = Q := ⟨_, rfl⟩
      have hb2 := hbd j hlt
      have eQ : (f : Int) + (s : Int) = (Q : Int) := by omega
      have eQ2 : IntKind.i64.wrap (Q : Int) = (Q : Int) := by rw [IntKind.wrap_i64]; omega
      have hac := HAc.out j
      rw [hN, hf, hs, hQ] at hac
      have HT1 := HTo.out wr j hlt
      rw [hf, hs] at HT1
      have HTc : Hid (Calls Tryd.prog 32 #[.int .i64 (j : Int)] wr fun e w' => e = .returned (.agg #[.int .i64 (j : Int), .int .i64 (f : Int), .int .i64 (s : Int)]) ∧ Below wr.heap.size wr w') := HT1
      have HLt : Hid (j < len ∧ a j = N ∧ fst j = f ∧ siz j = s) := ⟨hlt, hN, hf, hs⟩
      clear HT1 hI hN hf hs hQ hb2
      go_upto_region 5 with (go_at_call 32; refine HTc.out.mono ?_; rintro e w1 ⟨rfl, hb⟩; have H1 : Hid (Below wr.heap.size wr w1) := hb; clear hb HTc)
      obtain ⟨wb, hwb⟩ : ∃ wb, w1.alloc (.cells #[.int .i64 (j : Int), .int .i64 (f : Int), .int .i64 (s : Int)] 80) = wb := ⟨_, rfl⟩
      have HB : Hid (Below wr.heap.size wr wb ∧ StAt wb w1.heap.size j f s) := by rw [← hwb]; exact ⟨H1.out.alloc H1.out.size _, heap_alloc_new _ _⟩
      rw [hwb]
      clear hwb hc
      obtain ⟨y0, y1, y2⟩ := HB.out.2.cells
      have hIb := HI.out.on HB.out.1
      have HIb : Hid (EcI w0 w wb D T Tr n P tt k tb g len cap w.heap.size a ac gn J j) := hIb
      obtain ⟨Z0, Z1, Z2, Z3, Z4⟩ := hIb.geo.cells
      clear hIb
      by_cases hN0 : N = 0
      · subst hN0
        have HNx : Hid (EcI w0 w wb D T Tr n P tt k tb g len cap w.heap.size a ac gn J (j + 1)) := by
          have e : ac j = false := by rw [hac]; simp
          exact HIb.out.skip e (HSk.out j Tr HLt.out.1 e HIb.out.jj)
        clear hac
        go_wp2
        go_roundw
        case rel => exact ⟨j + 1, Tr, by have := HLt.out.1; omega, by go_num, HNx.out⟩
        case measure => simp [intOf]; omega
      · have hN1 : ((N : Int) == 0) = false := by simp; omega
        by_cases hQk : Q ≤ k
        · have hQk' : (Q : Int) ≤ (k : Int) := by omega
          have HNx : Hid (EcI w0 w wb D T Tr n P tt k tb g len cap w.heap.size a ac gn J (j + 1)) := by
            have e : ac j = false := by rw [hac, decide_eq_false (p := k < Q) (by omega), Bool.and_false]
            exact HIb.out.skip e (HSk.out j Tr HLt.out.1 e HIb.out.jj)
          clear hac hN0 hQk
          go_wp2
          go_roundw
          case rel => exact ⟨j + 1, Tr, by have := HLt.out.1; omega, by go_num, HNx.out⟩
          case measure => simp [intOf]; omega
        · have hQk' : ¬ (Q : Int) ≤ (k : Int) := by omega
          have HAj : Hid (ac j = true) := (by rw [hac, decide_eq_true (p := N ≠ 0) hN0, decide_eq_true (p := k < Q) (by omega)]; rfl : ac j = true)
          clear hac hN0 hQk
          have hcn := HCn.out j HLt.out.1 HAj.out wb Tr HIb.out.gon.spc (HIb.out.gon.mv.t.trans HTt.out) HIb.out.jj
          have HIs : Hid (∀ wx, Calls Tryd.prog 49 #[.agg #[.int .i64 (n : Int), .int .i64 98, .int .i64 (gI n), .int .i64 (gD n), .int .i64 (gC n)], .int .i64 (N : Int)] wx fun e w' => e = .returned (.bool true) ∧ Below wx.heap.size wx w') := fun wx => by
            have h8 := hcn.1
            rw [HLt.out.2.1] at h8
            have := misData_any wx n (N : Int)
            rw [decide_eq_true ⟨by omega, by omega⟩] at this
            exact this
          clear hcn
          have HDo : Hid (∀ wx, Below wb.heap.size wb wx → Calls Tryd.prog 55 #[.agg #[.int .i64 (j : Int), .int .i64 (f : Int), .int .i64 (s : Int)], .int .i64 (N : Int), .pointer (some ⟨P, 0, none⟩), .pointer (some ⟨P + 1, 0, none⟩), .pointer (some ⟨P + 1 + 1 + 1, 0, none⟩), .pointer (some ⟨P + 1 + 1, 0, none⟩), .pointer (some ⟨P + 1 + 1 + 1 + 1, 0, none⟩)] wx fun e w' => ∃ (z : Nat) (T' : Tx), e = .returned (.int .i64 (z : Int)) ∧ CrE w0 wx D Tr n P tt k tb g len cap (chC ac gn j || gn j) (cuL (gn j) (rowC len a ac gn j) j) (J (j + 1)) Z z T' w') := fun wx hb => by
            have hIx := HIb.out.on hb
            refine cr1_any w0 wx D Tr n P tt k tb g len cap _ hIx.cx hIx.cy _ hIx.row (rowC_length _ _ _ _ _) j f s N HLt.out.1 (gn j) (J (j + 1)) Z (fun wy hby => ?_) hIx.gon.spc
            have := (HCn.out j HLt.out.1 HAj.out wy Tr (hIx.gon.spc.on hby) (HIb.out.gon.mv.t.trans HTt.out) HIb.out.jj).2
            rw [HLt.out.2.1, HLt.out.2.2.1, HLt.out.2.2.2] at this
            exact this
          go_upto_region 8 with (go_at_call 49; refine (HIs.out _).mono ?_; rintro e w2 ⟨rfl, hb⟩; have H2 : Hid (Below wb.heap.size wb w2) := hb; clear hb HIs)
          clear y0 y1 y2 Z0 Z1 Z2 Z3 Z4
          obtain ⟨y0, y1, y2⟩ := (HB.out.2.on H2.out).cells
          go_upto_region 9 with (go_at_call 55; refine (HDo.out _ H2.out).mono ?_; rintro e w3 ⟨z, T3, rfl, hcr⟩; have H3 : Hid (CrE w0 w2 D Tr n P tt k tb g len cap (chC ac gn j || gn j) (cuL (gn j) (rowC len a ac gn j) j) (J (j + 1)) Z z T3 w3) := hcr; clear hcr HDo)
          clear y0 y1 y2
          by_cases hz : z = 0
          · subst hz
            have HNx : Hid (EcI w0 w w3 D T T3 n P tt k tb g len cap w.heap.size a ac gn J (j + 1)) := (HIb.out.on H2.out).next HAj.out HLt.out.1 H3.out
            go_wp2
            go_roundw
            case rel => exact ⟨j + 1, T3, by have := HLt.out.1; omega, by go_num, HNx.out⟩
            case measure => simp [intOf]; omega
          · have hz60 : z = 60 ∧ Z := by
              rcases H3.out.2.2.1 with ⟨e, _⟩ | e
              · exact absurd e hz
              · exact e
            obtain ⟨hz60, hZ⟩ := hz60
            subst hz60
            have HEn : Hid (EcE w0 w D T n P tt k tb g len cap a ac gn J Z 60 T3 w3) := by
              obtain ⟨m, hm⟩ := HIb.out.ext
              obtain ⟨m2, hm2⟩ := H3.out.2.1
              exact ⟨(HIb.out.on H2.out).gon.trans H3.out.1 (fun _ e => .inl e), ⟨m + m2, hm.trans hm2⟩, .inr ⟨rfl, hZ⟩, H3.out.2.2.2⟩
            clear hz hZ
            go_wp2
            go_ret
            exact ⟨60, T3, rfl, HEn.out⟩
    · have hj2 : j = len := by omega
      subst hj2
      have hlt' : ¬ (j : Int) < (j : Int) := by omega
      clear hI
      go_wp2
      go_ret
      exact ⟨0, rfl, Tr, HI.out.gon, HI.out.ext, .inl ⟨rfl, HI.out.jj, HI.out.row, HI.out.cx⟩, _, HI.out.cx⟩
set_option maxRecDepth 100000 in
set_option maxHeartbeats 8000000 in
theorem eachc_below (w0 w : World) (D : Dk) (T : Tx) (n : Nat) (h : Spc w0 w D T n) (P tt k tb g len cap : Nat) (htt : T.t = tt) (a0 f0 s0 : Nat) (hs0 : s0 ≤ 16384) (hf0 : f0 ≤ 20000) (_hk : k ≤ 100000) (hlen : len ≤ 128) (a : Nat → Nat) (gn : Nat → Bool) (J : Nat → Tx → Prop) (Z : Prop) (hC : Cx w P tt n k tb g len cap false) (hY : Cy w0 w D T P g) (ho : OwnI w g cap (rowC len a (actB a (fun i => f0 + i * (s0 / 128)) (fun _ => s0 / 128) k) gn 0)) (hJ : J 0 T) (hsk : ∀ j T', j < len → actB a (fun i => f0 + i * (s0 / 128)) (fun _ => s0 / 128) k j = false → J j T' → J (j + 1) T') (hcn : CnH w0 D n tt k len a (fun i => f0 + i * (s0 / 128)) (fun _ => s0 / 128) gn J Z) :
    Calls Tryd.prog 30 #[geoV n, .agg #[.int .i64 (tb : Int), .slice (some ⟨g, 0, none⟩) len cap], .func (.func 31) #[stV a0 f0 s0] #[], .int .i64 (k : Int), .func (.func 55) #[] #[.pointer (some ⟨P, 0, none⟩), .pointer (some ⟨P + 1, 0, none⟩), .pointer (some ⟨P + 1 + 1 + 1, 0, none⟩), .pointer (some ⟨P + 1 + 1, 0, none⟩), .pointer (some ⟨P + 1 + 1 + 1 + 1, 0, none⟩)]] w fun e w' => ∃ (z : Nat) (T' : Tx), e = .returned (.int .i64 (z : Int)) ∧ EcE w0 w D T n P tt k tb g len cap a (actB a (fun i => f0 + i * (s0 / 128)) (fun _ => s0 / 128) k) gn J Z z T' w' := by
  obtain ⟨ac, hac⟩ : ∃ ac, actB a (fun i => f0 + i * (s0 / 128)) (fun _ => s0 / 128) k = ac := ⟨_, rfl⟩
  obtain ⟨fst, hfst⟩ : ∃ fst : Nat → Nat, (fun i => f0 + i * (s0 / 128)) = fst := ⟨_, rfl⟩
  obtain ⟨siz, hsiz⟩ : ∃ siz : Nat → Nat, (fun _ => s0 / 128) = siz := ⟨_, rfl⟩
  have hbd : ∀ j, j < len → fst j ≤ 100000 ∧ siz j ≤ 100000 := fun j hj => by rw [← hfst, ← hsiz]; (have h1 : s0 / 128 ≤ 128 := by omega); (have h2 : j * (s0 / 128) ≤ 128 * 128 := Nat.mul_le_mul (by omega) h1); exact ⟨by show f0 + j * (s0 / 128) ≤ 100000; omega, by show s0 / 128 ≤ 100000; omega⟩
  have HTo : Hid (∀ (wx : World) (j : Nat), j < len → Calls Tryd.prog 31 #[stV a0 f0 s0, .int .i64 (j : Int)] wx fun e w' => e = .returned (.agg #[.int .i64 (j : Int), .int .i64 (fst j : Int), .int .i64 (siz j : Int)]) ∧ Below wx.heap.size wx w') := fun wx j hj => by
    rw [← hfst, ← hsiz]; exact below_any wx a0 f0 s0 j hs0 (by omega) (by omega)
  rw [hfst, hsiz] at hac
  rw [hfst, hsiz] at hsk hcn ho ⊢
  rw [hac] at hsk ho ⊢
  have HAc : Hid (∀ j, ac j = (decide (a j ≠ 0) && decide (k < fst j + siz j))) := fun j => by rw [← hac]; rfl
  have HCn : Hid (∀ j, j < len → ac j = true → ∀ (wx : World) (Tx_ : Tx), Spc w0 wx D Tx_ n → Tx_.t = tt → J j Tx_ → (nD n ≤ a j ∧ a j < n) ∧ Calls Tryd.prog 56 #[.pointer (some ⟨tt, 0, none⟩), geoV n, stV j (fst j) (siz j), .int .i64 (a j : Int), .int .i64 (k : Int)] wx (CnE w0 wx D Tx_ n (gn j) (J (j + 1)) Z)) := by rw [← hac]; exact hcn
  have HSk : Hid (∀ j T', j < len → ac j = false → J j T' → J (j + 1) T') := hsk
  obtain ⟨wa, hwa⟩ : ∃ wa, (w.alloc (.cells #[.int .i64 (n : Int), .int .i64 98, .int .i64 (gI n), .int .i64 (gD n), .int .i64 (gC n)] 29)).alloc (.cells #[.int .i64 (tb : Int), .slice (some ⟨g, 0, none⟩) len cap] 69) = wa := ⟨_, rfl⟩
  have HA : Hid (Below w.heap.size w wa ∧ wa.heap[w.heap.size + 1]? = some (.cells #[.int .i64 (tb : Int), .slice (some ⟨g, 0, none⟩) len cap] 69 (0, 0)) ∧ EcI w0 w wa D T T n P tt k tb g len cap w.heap.size a ac gn J 0) := by
    have hb : Below w.heap.size w wa := by rw [← hwa]; exact (below_new _).alloc (by simp) _
    have hg : GeoAt wa w.heap.size n := by rw [← hwa]; exact (Below.heap_alloc _ _ _ (by simp)).trans (heap_alloc_new _ _)
    have hr : wa.heap[w.heap.size + 1]? = some (.cells #[.int .i64 (tb : Int), .slice (some ⟨g, 0, none⟩) len cap] 69 (0, 0)) := by
      have := heap_alloc_new (w.alloc (.cells #[.int .i64 (n : Int), .int .i64 98, .int .i64 (gI n), .int .i64 (gD n), .int .i64 (gC n)] 29)) (.cells #[.int .i64 (tb : Int), .slice (some ⟨g, 0, none⟩) len cap] 69)
      rw [World.size_alloc] at this
      rw [← hwa]; exact this
    have m : SMv (fun _ => False) w T wa T := SMv.on hb
    have h1 := hC.lt
    have h2 := hY.gg.lt
    exact ⟨hb, hr, Gon.on h hb, ⟨0, Ext.refl _⟩, hg, ⟨Out.of h (Nat.le_refl _) (heap_lt hg), by omega, by omega⟩, hC.on hb, hY.mv m, ho.on hb, hJ⟩
  have b1 : wa.cell? ⟨w.heap.size + 1, 1, none⟩ = some (.slice (some ⟨g, 0, none⟩) len cap) := by rw [cell_of_row _ _ _ _ _ _ HA.out.2.1]; rfl
  have HTt : Hid (T.t = tt) := htt
  clear h hC hY ho hJ hsk hcn hac hfst hsiz htt
  unfold geoV
  go_enter Tryd.func30, Tryd.ntmps30
  go_wp2
  go_loopw [18] (fun s18 wr => ∃ (j : Nat) (Tr : Tx), j ≤ len ∧ s18 = .int .i64 (j : Int) ∧ EcI w0 w wr D T Tr n P tt k tb g len cap w.heap.size a ac gn J j) (fun s18 _ => len - (intOf s18).toNat)
  case atStart => exact ⟨0, T, by omega, rfl, HA.out.2.2⟩
  case round =>
    clear b1
    obtain ⟨j, Tr, hj, rfl, hI⟩ := hrel
    have HI : Hid (EcI w0 w wr D T Tr n P tt k tb g len cap w.heap.size a ac gn J j) := hI
    by_cases hlt : j < len
    · have hlt' : (j : Int) < (len : Int) := by omega
      obtain ⟨N, hN⟩ : ∃ N, a j = N := ⟨_, rfl⟩
      have hc : wr.cell? ⟨g, j, none⟩ = some (.int .i64 (N : Int)) := by
        have := hI.row.cell j (by rw [rowC_length]; exact hlt)
        rw [nth_rowC _ _ _ _ _ _ hlt, if_neg (by omega), hN] at this
        exact this
      obtain ⟨f, hf⟩ : ∃ f, fst j = f := ⟨_, rfl⟩
      obtain ⟨s, hs⟩ : ∃ s, siz j = s := ⟨_, rfl⟩
      obtain ⟨Q, hQ⟩ : ∃ Q, f + s = Q := ⟨_, rfl⟩
      have hb2 := hbd j hlt
      have eQ : (f : Int) + (s : Int) = (Q : Int) := by omega
      have eQ2 : IntKind.i64.wrap (Q : Int) = (Q : Int) := by rw [IntKind.wrap_i64]; omega
      have hac := HAc.out j
      rw [hN, hf, hs, hQ] at hac
      have HT1 := HTo.out wr j hlt
      rw [hf, hs] at HT1
      have HTc : Hid (Calls Tryd.prog 31 #[stV a0 f0 s0, .int .i64 (j : Int)] wr fun e w' => e = .returned (.agg #[.int .i64 (j : Int), .int .i64 (f : Int), .int .i64 (s : Int)]) ∧ Below wr.heap.size wr w') := HT1
      have HLt : Hid (j < len ∧ a j = N ∧ fst j = f ∧ siz j = s) := ⟨hlt, hN, hf, hs⟩
      clear HT1 hI hN hf hs hQ hb2
      go_upto_region 5 with (go_at_call 31; refine HTc.out.mono ?_; rintro e w1 ⟨rfl, hb⟩; have H1 : Hid (Below wr.heap.size wr w1) := hb; clear hb HTc)
      obtain ⟨wb, hwb⟩ : ∃ wb, w1.alloc (.cells #[.int .i64 (j : Int), .int .i64 (f : Int), .int .i64 (s : Int)] 80) = wb := ⟨_, rfl⟩
      have HB : Hid (Below wr.heap.size wr wb ∧ StAt wb w1.heap.size j f s) := by rw [← hwb]; exact ⟨H1.out.alloc H1.out.size _, heap_alloc_new _ _⟩
      rw [hwb]
      clear hwb hc
      obtain ⟨y0, y1, y2⟩ := HB.out.2.cells
      have hIb := HI.out.on HB.out.1
      have HIb : Hid (EcI w0 w wb D T Tr n P tt k tb g len cap w.heap.size a ac gn J j) := hIb
      obtain ⟨Z0, Z1, Z2, Z3, Z4⟩ := hIb.geo.cells
      clear hIb
      by_cases hN0 : N = 0
      · subst hN0
        have HNx : Hid (EcI w0 w wb D T Tr n P tt k tb g len cap w.heap.size a ac gn J (j + 1)) := by
          have e : ac j = false := by rw [hac]; simp
          exact HIb.out.skip e (HSk.out j Tr HLt.out.1 e HIb.out.jj)
        clear hac
        go_wp2
        go_roundw
        case rel => exact ⟨j + 1, Tr, by have := HLt.out.1; omega, by go_num, HNx.out⟩
        case measure => simp [intOf]; omega
      · have hN1 : ((N : Int) == 0) = false := by simp; omega
        by_cases hQk : Q ≤ k
        · have hQk' : (Q : Int) ≤ (k : Int) := by omega
          have HNx : Hid (EcI w0 w wb D T Tr n P tt k tb g len cap w.heap.size a ac gn J (j + 1)) := by
            have e : ac j = false := by rw [hac, decide_eq_false (p := k < Q) (by omega), Bool.and_false]
            exact HIb.out.skip e (HSk.out j Tr HLt.out.1 e HIb.out.jj)
          clear hac hN0 hQk
          go_wp2
          go_roundw
          case rel => exact ⟨j + 1, Tr, by have := HLt.out.1; omega, by go_num, HNx.out⟩
          case measure => simp [intOf]; omega
        · have hQk' : ¬ (Q : Int) ≤ (k : Int) := by omega
          have HAj : Hid (ac j = true) := (by rw [hac, decide_eq_true (p := N ≠ 0) hN0, decide_eq_true (p := k < Q) (by omega)]; rfl : ac j = true)
          clear hac hN0 hQk
          have hcn := HCn.out j HLt.out.1 HAj.out wb Tr HIb.out.gon.spc (HIb.out.gon.mv.t.trans HTt.out) HIb.out.jj
          have HIs : Hid (∀ wx, Calls Tryd.prog 49 #[.agg #[.int .i64 (n : Int), .int .i64 98, .int .i64 (gI n), .int .i64 (gD n), .int .i64 (gC n)], .int .i64 (N : Int)] wx fun e w' => e = .returned (.bool true) ∧ Below wx.heap.size wx w') := fun wx => by
            have h8 := hcn.1
            rw [HLt.out.2.1] at h8
            have := misData_any wx n (N : Int)
            rw [decide_eq_true ⟨by omega, by omega⟩] at this
            exact this
          clear hcn
          have HDo : Hid (∀ wx, Below wb.heap.size wb wx → Calls Tryd.prog 55 #[.agg #[.int .i64 (j : Int), .int .i64 (f : Int), .int .i64 (s : Int)], .int .i64 (N : Int), .pointer (some ⟨P, 0, none⟩), .pointer (some ⟨P + 1, 0, none⟩), .pointer (some ⟨P + 1 + 1 + 1, 0, none⟩), .pointer (some ⟨P + 1 + 1, 0, none⟩), .pointer (some ⟨P + 1 + 1 + 1 + 1, 0, none⟩)] wx fun e w' => ∃ (z : Nat) (T' : Tx), e = .returned (.int .i64 (z : Int)) ∧ CrE w0 wx D Tr n P tt k tb g len cap (chC ac gn j || gn j) (cuL (gn j) (rowC len a ac gn j) j) (J (j + 1)) Z z T' w') := fun wx hb => by
            have hIx := HIb.out.on hb
            refine cr1_any w0 wx D Tr n P tt k tb g len cap _ hIx.cx hIx.cy _ hIx.row (rowC_length _ _ _ _ _) j f s N HLt.out.1 (gn j) (J (j + 1)) Z (fun wy hby => ?_) hIx.gon.spc
            have := (HCn.out j HLt.out.1 HAj.out wy Tr (hIx.gon.spc.on hby) (HIb.out.gon.mv.t.trans HTt.out) HIb.out.jj).2
            rw [HLt.out.2.1, HLt.out.2.2.1, HLt.out.2.2.2] at this
            exact this
          go_upto_region 8 with (go_at_call 49; refine (HIs.out _).mono ?_; rintro e w2 ⟨rfl, hb⟩; have H2 : Hid (Below wb.heap.size wb w2) := hb; clear hb HIs)
          clear y0 y1 y2 Z0 Z1 Z2 Z3 Z4
          obtain ⟨y0, y1, y2⟩ := (HB.out.2.on H2.out).cells
          go_upto_region 9 with (go_at_call 55; refine (HDo.out _ H2.out).mono ?_; rintro e w3 ⟨z, T3, rfl, hcr⟩; have H3 : Hid (CrE w0 w2 D Tr n P tt k tb g len cap (chC ac gn j || gn j) (cuL (gn j) (rowC len a ac gn j) j) (J (j + 1)) Z z T3 w3) := hcr; clear hcr HDo)
          clear y0 y1 y2
          by_cases hz : z = 0
          · subst hz
            have HNx : Hid (EcI w0 w w3 D T T3 n P tt k tb g len cap w.heap.size a ac gn J (j + 1)) := (HIb.out.on H2.out).next HAj.out HLt.out.1 H3.out
            go_wp2
            go_roundw
            case rel => exact ⟨j + 1, T3, by have := HLt.out.1; omega, by go_num, HNx.out⟩
            case measure => simp [intOf]; omega
          · have hz60 : z = 60 ∧ Z := by
              rcases H3.out.2.2.1 with ⟨e, _⟩ | e
              · exact absurd e hz
              · exact e
            obtain ⟨hz60, hZ⟩ := hz60
            subst hz60
            have HEn : Hid (EcE w0 w D T n P tt k tb g len cap a ac gn J Z 60 T3 w3) := by
              obtain ⟨m, hm⟩ := HIb.out.ext
              obtain ⟨m2, hm2⟩ := H3.out.2.1
              exact ⟨(HIb.out.on H2.out).gon.trans H3.out.1 (fun _ e => .inl e), ⟨m + m2, hm.trans hm2⟩, .inr ⟨rfl, hZ⟩, H3.out.2.2.2⟩
            clear hz hZ
            go_wp2
            go_ret
            exact ⟨60, T3, rfl, HEn.out⟩
    · have hj2 : j = len := by omega
      subst hj2
      have hlt' : ¬ (j : Int) < (j : Int) := by omega
      clear hI
      go_wp2
      go_ret
      exact ⟨0, rfl, Tr, HI.out.gon, HI.out.ext, .inl ⟨rfl, HI.out.jj, HI.out.row, HI.out.cx⟩, _, HI.out.cx⟩
end Go.Proofs.YtgmccpimpbnnpaaDoor
