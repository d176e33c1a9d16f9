import Derived.Test.YtipbflmonhlnjaaPoC
import Derived.Test.YtipbflmonhlnjaaPoD
import Derived.Test.YtipbflmonhlnjaaPoE
import Derived.Test.YtipbflmonhlnjaaPoF
import Derived.Test.YtipbflmonhlnjaaPoG
import Derived.Deep.RegionHeld3
namespace Go.Proofs.Ytipbflmonhlnjaa
open Go.RowKit Rec

set_option maxRecDepth 100000 in
set_option maxHeartbeats 4000000 in
theorem pasks (w : World) (D : Dk) (R : RDk) (j : Nat) (h : Pr w D R j) :
    Calls Try.prog 9 #[.agg #[.pointer (some ⟨D.d, 0, none⟩), .pointer (some ⟨R.r, 0, none⟩)]] w fun e w' => e = .returned (.bool true) ∧ Below w.heap.size w w' := by
  have HX : Hid (Pr w D R j) := h
  have e1 : (D.nb : Int) = (R.nb : Int) := by have e : D.nb = R.nb := h.tie.nb; rw [e]
  have e2 : D.down = R.out := h.tie.dn
  have e3 : (D.wr : Int) = R.wr := h.tie.wr
  have e4 : (D.fl : Int) = R.fl := h.tie.fl
  obtain ⟨d, hd⟩ : ∃ d, D.d = d := ⟨_, rfl⟩
  obtain ⟨r, hr⟩ : ∃ r, R.r = r := ⟨_, rfl⟩
  obtain ⟨nb, hnb⟩ : ∃ nb : Int, (R.nb : Int) = nb := ⟨_, rfl⟩
  obtain ⟨ou, hou⟩ : ∃ ou, R.out = ou := ⟨_, rfl⟩
  obtain ⟨W, hW⟩ : ∃ W, R.wr = W := ⟨_, rfl⟩
  obtain ⟨F, hF⟩ : ∃ F, R.fl = F := ⟨_, rfl⟩
  have HE : Hid (D.d = d ∧ R.r = r ∧ (D.nb : Int) = nb ∧ (R.nb : Int) = nb ∧ D.down = ou ∧ R.out = ou ∧ (D.wr : Int) = W ∧ R.wr = W ∧ (D.fl : Int) = F ∧ R.fl = F) := ⟨hd, hr, by rw [e1, hnb], hnb, by rw [e2, hou], hou, by rw [e3, hW], hW, by rw [e4, hF], hF⟩
  rw [hd, hr]
  clear h e1 e2 e3 e4 hd hr hnb hou hW hF
  obtain ⟨P0, hP0⟩ : ∃ P0, w.heap.size = P0 := ⟨_, rfl⟩
  obtain ⟨wa, hwa⟩ : ∃ wa, w.alloc (.cells #[.pointer (some ⟨d, 0, none⟩), .pointer (some ⟨r, 0, none⟩)] 32) = wa := ⟨_, rfl⟩
  have HA : Hid (Below w.heap.size w wa) := by rw [← hwa]; exact (Below.refl _ _).alloc (Nat.le_refl _) _
  have HZ : Hid (wa.heap[P0]? = some (.cells #[.pointer (some ⟨d, 0, none⟩), .pointer (some ⟨r, 0, none⟩)] 32 (0, 0))) := by rw [← hwa, ← hP0]; exact heap_alloc_new _ _
  go_enter Try.func9, Try.ntmps9
  go_upto_region 1 with fail
  try rw [hP0]
  try rw [hwa]
  clear hwa hP0
  have S0 : wa.cell? ⟨P0, 0, none⟩ = some (.pointer (some ⟨d, 0, none⟩)) := cell_of_row _ _ 0 _ _ _ HZ.out
  have S1 : wa.cell? ⟨P0, 1, none⟩ = some (.pointer (some ⟨r, 0, none⟩)) := cell_of_row _ _ 1 _ _ _ HZ.out
  have HSt : Hid (Calls Try.prog 29 #[.pointer (some ⟨d, 0, none⟩)] wa fun e w' => e = .returned (.tuple #[.int .i64 W, .int .i64 F]) ∧ Below wa.heap.size wa w') := by
    have := steps_any wa D (HX.out.d.on HA.out)
    rw [HE.out.1, HE.out.2.2.2.2.2.2.1, HE.out.2.2.2.2.2.2.2.2.1] at this
    exact this
  go_upto_region 2 with (go_at_call 29; refine HSt.out.mono ?_; rintro e w1 ⟨rfl, hb⟩; have H1 : Hid (Below wa.heap.size wa w1) := hb; clear hb S0 S1)
  have HB1 : Hid (Below w.heap.size w w1) := HA.out.trans (H1.out.mono HA.out.size)
  have hz := (below_fr H1.out (fun _ => False)).heap HZ.out (fun e => e)
  have S0 : w1.cell? ⟨P0, 0, none⟩ = some (.pointer (some ⟨d, 0, none⟩)) := cell_of_row _ _ 0 _ _ _ hz
  have S1 : w1.cell? ⟨P0, 1, none⟩ = some (.pointer (some ⟨r, 0, none⟩)) := cell_of_row _ _ 1 _ _ _ hz
  have hR := HX.out.r.on HB1.out
  have U4 : w1.cell? ⟨r, 4, none⟩ = some (.bool ou) := by rw [← HE.out.2.1, hR.cell 4, ← HE.out.2.2.2.2.2.1]; rfl
  have U5 : w1.cell? ⟨r, 5, none⟩ = some (.int .i64 W) := by rw [← HE.out.2.1, hR.cell 5, ← HE.out.2.2.2.2.2.2.2.1]; rfl
  have U6 : w1.cell? ⟨r, 6, none⟩ = some (.int .i64 F) := by rw [← HE.out.2.1, hR.cell 6, ← HE.out.2.2.2.2.2.2.2.2.2]; rfl
  clear hz hR
  have HBl : Hid (∀ q, Calls Try.prog 30 #[.pointer (some ⟨d, 0, none⟩)] (w1.drewN q) fun e w' => e = .returned (.int .i64 nb) ∧ w' = w1.drewN q) := fun q => by
    have := blocks_any (w1.drewN q) D ((HX.out.d.on HB1.out).on (below_drewN (Below.refl _ _) q))
    rw [HE.out.1, HE.out.2.2.1] at this
    exact this.mono (fun e w' h => ⟨h.1, h.2.symm⟩)
  have HDo : Hid (∀ q, Calls Try.prog 32 #[.pointer (some ⟨d, 0, none⟩)] (w1.drewN q) fun e w' => e = .returned (.bool ou) ∧ w' = w1.drewN q) := fun q => by
    have := down_any (w1.drewN q) D ((HX.out.d.on HB1.out).on (below_drewN (Below.refl _ _) q))
    rw [HE.out.1, HE.out.2.2.2.2.1] at this
    exact this.mono (fun e w' h => ⟨h.1, h.2.symm⟩)
  have HRb : Hid (∀ q, Calls Try.prog 31 #[.pointer (some ⟨r, 0, none⟩)] (w1.drewN q) fun e w' => e = .returned (.int .i64 nb) ∧ ∃ m, w' = (w1.drewN q).drewN m) := fun q => by
    have := rblocks_q w1 R (HX.out.r.on HB1.out) q
    rw [HE.out.2.1, HE.out.2.2.2.1] at this
    exact this
  go_quiet (first
    | (go_at_call 30; refine Calls.quiet_of_same (HBl.out _))
    | (go_at_call 31; refine Calls.quiet_of (HRb.out _))
    | (go_at_call 32; refine Calls.quiet_of_same (HDo.out _)))
  (try go_wp2)
  go_ret
  exact ⟨rfl, HB1.out.trans ((below_drewN (Below.refl _ _) _).mono HB1.out.size)⟩
theorem LkP.from {w wb w' : World} {K : Bk} {j : Nat} (hb : Below w.heap.size w wb) (h : LkP wb K j w') : LkP w K j w' := by
  obtain ⟨K', h1, h2, h3, h4, h5, h6, h7⟩ := h
  exact ⟨K', h1, h2, h3, h4, h5, (below_fr hb _).trans h6 (fun k e => .inl e), fun k e => (h7 k e).imp id (fun e => Nat.le_trans hb.size e)⟩
theorem plooks (w : World) (D : Dk) (R : RDk) (j : Nat) (h : Pr w D R j) (K : Bk) (hK : BkI w K) (hj : j ≤ 10000000) (hn : K.bn + 2 * j + 2 ≤ 1000000000000) (hm : K.im + 2 ≤ 1000000000000) (ha : K.am + 2 ≤ 1000000000000) (kd : Int) (tw : Bool) (N : Int) (ba : Option Addr) (bn bc : Nat) (ka : Option Addr) (kn kc : Nat) :
    Calls Try.prog 10 #[.agg #[.pointer (some ⟨D.d, 0, none⟩), .pointer (some ⟨R.r, 0, none⟩)], .agg #[.int .i64 kd, .bool tw, .int .i64 N, .slice ba bn bc, .slice ka kn kc], .pointer (some ⟨K.kb, 0, none⟩)] w fun e w' => e = .returned (.bool true) ∧ LkP w K j w' := by
  by_cases e1 : kd = 1
  · subst e1; exact looks_read w D R j h K hK hj hn hm ha tw N ba bn bc ka kn kc
  by_cases e6 : kd = 6
  · subst e6; exact looks_image w D R j h K hK hj hn hm ha tw N ba bn bc ka kn kc
  by_cases e8 : kd = 8
  · subst e8; exact looks_pending w D R j h K hK hj hn hm ha tw N ba bn bc ka kn kc
  by_cases e9 : kd = 9
  · subst e9; exact looks_tape w D R j h K hK hj hn hm ha tw N ba bn bc ka kn kc
  exact looks_other w D R j h K hK hj hn hm ha kd tw N ba bn bc ka kn kc (beq_eq_false_iff_ne.2 e1) (beq_eq_false_iff_ne.2 e6) (beq_eq_false_iff_ne.2 e8) (beq_eq_false_iff_ne.2 e9)
theorem OwnZ.bools {w : World} {g cap kn : Nat} {keep : List Bool} (h : OwnZ w g cap (keep ++ [true])) (hk : keep.length = kn) : Bools w (.slice (some ⟨g, 0, none⟩) kn cap) keep := by
  subst hk
  refine ⟨_, _, rfl, .inr ⟨g, 0, rfl, fun i x hx => ?_⟩⟩
  have hi := (List.getElem?_eq_some_iff.1 hx).1
  rw [Nat.zero_add, h.cell i (by rw [List.length_append]; omega), List.getD, List.getElem?_append_left hi, hx]; rfl
/-- what a call leaves of a pair and of the book -/
def PlP (w : World) (D : Dk) (R : RDk) (K : Bk) (j : Nat) (w' : World) : Prop := ∃ D' R' K', D'.d = D.d ∧ R'.r = R.r ∧ Pr w' D' R' (j + 1) ∧ BkI w' K' ∧ K'.kb = K.kb ∧ K'.bn ≤ K.bn + 2 * j + 2 ∧ K'.im ≤ K.im + 2 ∧ K'.am ≤ K.am + 2 ∧ (∀ k, PrA D' R' k → ¬ K'.all k) ∧ Fr (fun k => PrA D R k ∨ K.all k) w w' ∧ (∀ k, PrA D' R' k → PrA D R k ∨ w.heap.size ≤ k) ∧ ∀ k, K'.all k → K.all k ∨ w.heap.size ≤ k
theorem PlP.look {w w' : World} {D : Dk} {R : RDk} {K : Bk} {j : Nat} (h : Pr w D R j) (hap : ∀ k, PrA D R k → ¬ K.all k) (hL : LkP w K j w') : PlP w D R K j w' := by
  obtain ⟨K', h1, h2, h3, h4, h5, h6, h7⟩ := hL
  refine ⟨D, R, K', rfl, rfl, (h.fr h6 hap).up (by omega), h1, h2, h3, h4, h5, fun k e e2 => ?_, h6.mono (fun k e => .inr e), fun k e => .inl e, h7⟩
  rcases h7 k e2 with e3 | e3
  · exact hap k e e3
  · have := h.lt e; omega
theorem PlP.of {w w1 w3 w4 : World} {D D' : Dk} {R R' : RDk} {K : Bk} {j j' : Nat} (h : Pr w D R j) (hK : BkI w K) (hap : ∀ k, PrA D R k → ¬ K.all k) (hb : Below w.heap.size w w1) (hM : PrM w1 D R w3 D' R' j') (hj : j' ≤ j + 1) (hf : Fr (fun k => w.heap.size ≤ k ∧ k < w1.heap.size) w3 w4) : PlP w D R K j w4 := by
  have f3 : Fr (PrA D R) w w3 := (below_fr hb _).trans hM.fr (fun k e => .inl e)
  have hK3 := hK.fr f3 (fun k e e2 => hap k e2 e)
  have hlt : ∀ k, K.all k → k < w.heap.size := fun k e => hK.lt e
  refine ⟨D', R', K, hM.d, hM.r, (hM.pr.fr hf (fun k e e2 => ?_)).up hj, hK3.fr hf (fun k e e2 => by have := hlt k e; omega), rfl, by omega, by omega, by omega, fun k e e2 => ?_, ?_, fun k e => ?_, fun k e => .inl e⟩
  · rcases hM.al k e with e3 | e3
    · have := h.lt e3; omega
    · omega
  · rcases hM.al k e with e3 | e3
    · exact hap k e3 e2
    · have := hlt k e2; have := hb.size; omega
  · exact (f3.mono (fun k e => .inl e)).trans hf (fun k e => .inr e.1)
  · exact (hM.al k e).imp id (fun e => Nat.le_trans hb.size e)
theorem bools_blk {w : World} {D : Dk} {R : RDk} {ka : Option Addr} {kn kc : Nat} {keep : List Bool} (h : Bools w (.slice ka kn kc) keep) (hne : keep ≠ []) (hr : keep ≠ [] → ∀ b off, ka = some ⟨b, off, none⟩ → ¬ PrA D R b) {k : Nat} (e : (Value.slice ka kn kc).ownBlock = some k) : ¬ PrA D R k := by
  obtain ⟨a, c, e1, e2⟩ := h
  cases e1
  rcases e2 with e2 | ⟨b, off, e3, _⟩
  · exact absurd e2 hne
  · cases e3; cases e; exact hr hne _ _ rfl
end Go.Proofs.Ytipbflmonhlnjaa
