import Derived.Test.YtipbflmonhlnjaaKBkM
namespace Go.Proofs.Ytipbflmonhlnjaa
open Go.RowKit Rec

/-- r acts of a row are marks -/
def mk3 : Nat → Int → List Value → List Value
  | 0, _, C => C
  | r + 1, m, C => set3 (mk3 r m C) r m
def AcZ (n : Nat) (m : Int) (C : List Value) : Prop := ∀ j, j < n → C[j * 3]? = some (.int .i64 m) ∧ C[j * 3 + 1]? = some (.int .i64 0) ∧ C[j * 3 + 2]? = some (.slice none 0 0)
theorem set3_len (C : List Value) (k : Nat) (m : Int) : (set3 C k m).length = C.length := by simp [set3]
theorem mk3_len (r : Nat) (m : Int) (C : List Value) : (mk3 r m C).length = C.length := by
  induction r with
  | zero => rfl
  | succ r ih => rw [mk3, set3_len, ih]
theorem mk3_z {n : Nat} {m : Int} {C : List Value} (hl : C.length = n * 3) (r : Nat) (hr : r ≤ n) : AcZ r m (mk3 r m C) := by
  induction r with
  | zero => intro j hj; omega
  | succ r ih =>
    intro j hj
    have hL := mk3_len r m C
    rw [mk3]; unfold set3
    by_cases e : j = r
    · subst e
      refine ⟨?_, ?_, ?_⟩ <;> (simp only [List.getElem?_set, List.length_set]; simp; try omega)
    · obtain ⟨h1, h2, h3⟩ := ih (by omega) j (by omega)
      refine ⟨?_, ?_, ?_⟩
      · rw [List.getElem?_set_ne (by omega), List.getElem?_set_ne (by omega), List.getElem?_set_ne (by omega)]; exact h1
      · rw [List.getElem?_set_ne (by omega), List.getElem?_set_ne (by omega), List.getElem?_set_ne (by omega)]; exact h2
      · rw [List.getElem?_set_ne (by omega), List.getElem?_set_ne (by omega), List.getElem?_set_ne (by omega)]; exact h3
/-- marks of a row of acts -/
def mA (K : Bk) (j : Nat) : List Value := mk3 (K.aM j) (-1000 - (j : Int)) (K.aC j) ++ [.int .i64 (-1000 - (j : Int)), .int .i64 0, .slice none 0 0]
theorem mA_z (K : Bk) (j : Nat) (hl : (K.aC j).length = K.aM j * 3) : AcZ (K.aM j + 1) (-1000 - (j : Int)) (mA K j) := by
  intro i hi
  have hL := mk3_len (K.aM j) (-1000 - (j : Int)) (K.aC j)
  unfold mA
  by_cases e : i = K.aM j
  · subst e
    refine ⟨?_, ?_, ?_⟩
    · rw [List.getElem?_append_right (by omega), show K.aM j * 3 - (mk3 (K.aM j) (-1000 - (j : Int)) (K.aC j)).length = 0 by omega]; rfl
    · rw [List.getElem?_append_right (by omega), show K.aM j * 3 + 1 - (mk3 (K.aM j) (-1000 - (j : Int)) (K.aC j)).length = 1 by omega]; rfl
    · rw [List.getElem?_append_right (by omega), show K.aM j * 3 + 2 - (mk3 (K.aM j) (-1000 - (j : Int)) (K.aC j)).length = 2 by omega]; rfl
  · obtain ⟨h1, h2, h3⟩ := mk3_z (m := -1000 - (j : Int)) hl _ (Nat.le_refl _) i (by omega)
    refine ⟨?_, ?_, ?_⟩
    · rw [List.getElem?_append_left (by omega)]; exact h1
    · rw [List.getElem?_append_left (by omega)]; exact h2
    · rw [List.getElem?_append_left (by omega)]; exact h3
abbrev HA4 (w wr : World) (K : Bk) (i : Nat) (V : Nat → Value) : Prop := H4 51 86 3 w wr K.av K.am K.aV K.aM K.aC (mA K) i V
/-- within a round over a row of acts -/
structure AqS (w wr : World) (K : Bk) (k g am ac kb : Nat) (pa : Option Addr) (n pc : Nat) (C : List Value) (m : Int) : Prop where
  v : K.aV k = .slice pa n pc
  own : wr.ownsRow 0 86 3 (.slice pa n pc) n C
  xl : C.length = n * 3 ∧ K.aC k = C ∧ K.aM k = n
  nl : n ≤ 10000000
  icl : am ≤ ac
  box : wr.heap[kb]? = some (.cells K.cells 41 (0, 0))
  kc : wr.cell? ⟨kb, 3, none⟩ = some (.slice (some ⟨g, 0, none⟩) am ac)
  gc : wr.cell? ⟨g, k, none⟩ = some (.slice pa n pc)
  gf : wr.frozen? ⟨g, k, none⟩ = false
  me : (-1000 : Int) - (k : Int) = m
  pf : n = 0 ∨ ∃ p, pa = some ⟨p, 0, none⟩
  gt : ∃ cs, wr.heap[g]? = some (.cells cs 51 (0, 0))
structure AqL (wr wy : World) (pa : Option Addr) (n pc : Nat) (c : List Value) : Prop where
  own : wy.ownsRow 0 86 3 (.slice pa n pc) n c
  fr : Fr (fun b => (Value.slice pa n pc).ownBlock = some b) wr wy
theorem AqS.zero {w wr : World} {K : Bk} {k g im ic kb : Nat} {pa : Option Addr} {n pc : Nat} {x : List Value} {m : Int} (h : AqS w wr K k g im ic kb pa n pc x m) : AqL wr wr pa n pc (mk3 0 m x) := ⟨h.own, Fr.refl _ _⟩
theorem HA4.open {w0 w wr : World} {K : Bk} {V : Nat → Value} {k kb : Nat} (hK : BkI w0 K) (hL : LV 51 1 86 3 w K.av K.am (fun i => [K.aV i]) K.aV K.aM K.aC) (h : HA4 w wr K k V) (hb : w.heap[kb]? = some (.cells K.cells 41 (0, 0))) (hk : k < K.am) : ∃ g pa n pc x m ic, K.av = .slice (some ⟨g, 0, none⟩) K.am ic ∧ AqS w wr K k g K.am ic kb pa n pc x m := by
  obtain ⟨g, ic, e, h1, _, h2, h3⟩ := h.l.cell (fun _ => rfl) hk
  have hv := h.o k (Nat.le_refl _)
  have ho := h.l.ls k hk
  rw [hv] at ho
  simp only [Nat.lt_irrefl, if_false] at ho
  obtain ⟨pa, pc, e1, _, hpf, _⟩ := owns_slice ho
  have hg := h3 0 (by omega)
  rw [Nat.mul_one, Nat.add_zero] at hg
  have hg2 : wr.cell? ⟨g, k, none⟩ = some (V k) := hg
  rw [hv, e1] at hg2
  have hbx : wr.heap[kb]? = some (.cells K.cells 41 (0, 0)) := h.fr.heap hb (fun e2 => hL.box hb (by decide) (by decide) e2 rfl)
  rw [e1] at ho
  refine ⟨g, pa, K.aM k, pc, K.aC k, _, ic, e, ⟨e1, ho, ⟨ho.1, rfl, rfl⟩, hK.am k hk, h1, hbx, by rw [← e]; exact cell_of_row _ _ 3 _ _ _ hbx, hg2, h2 k, rfl, hpf, ?_⟩⟩
  have hr := h.l.row
  rw [e] at hr
  rcases hr.2 with ⟨e5, _⟩ | ⟨g', c', cur, e5, _, e6, _⟩
  · cases e5
  · cases e5; exact ⟨_, e6⟩
theorem AqL.next {wr wy : World} {p n pc r : Nat} {m : Int} {x : List Value} (h : AqL wr wy (some ⟨p, 0, none⟩) n pc (mk3 r m x)) : AqL wr (w3s wy p r m) (some ⟨p, 0, none⟩) n pc (mk3 (r + 1) m x) :=
  ⟨w3s_own h.own, h.fr.trans (w3s_fr _ _ _ _) (fun b e => .inl (by rw [show b = p from e]; rfl))⟩
theorem AqL.cell {wr wy : World} {p n pc r : Nat} {y : List Value} (h : AqL wr wy (some ⟨p, 0, none⟩) n pc y) (hr : r < n) : ∃ z0 z1 z2, wy.cell? ⟨p, r * 3, none⟩ = some z0 ∧ wy.cell? ⟨p, r * 3 + 1, none⟩ = some z1 ∧ wy.cell? ⟨p, r * 3 + 2, none⟩ = some z2 := by
  have hl : y.length = n * 3 := h.own.1
  have d : ∀ j, j < n * 3 → ∃ z, wy.cell? ⟨p, j, none⟩ = some z := fun j hj => by
    rw [h.own.cellAt j hj, List.getElem?_eq_getElem (by omega)]; exact ⟨_, rfl⟩
  obtain ⟨z0, h0⟩ := d (r * 3) (by omega)
  obtain ⟨z1, h1⟩ := d (r * 3 + 1) (by omega)
  obtain ⟨z2, h2⟩ := d (r * 3 + 2) (by omega)
  exact ⟨z0, z1, z2, h0, h1, h2⟩
theorem AqS.keep {w wr wy : World} {K : Bk} {k g im ic kb : Nat} {pa : Option Addr} {n pc : Nat} {x : List Value} {m : Int} {c : List Value} (h : AqS w wr K k g im ic kb pa n pc x m) (hL : AqL wr wy pa n pc c) : wy.cell? ⟨kb, 3, none⟩ = some (.slice (some ⟨g, 0, none⟩) im ic) ∧ wy.cell? ⟨g, k, none⟩ = some (.slice pa n pc) ∧ wy.frozen? ⟨g, k, none⟩ = false := by
  obtain ⟨cs, hg⟩ := h.gt
  have hgn : ¬ (Value.slice pa n pc).ownBlock = some g := fun e => own_apartX h.own hg (by decide) e
  have hbn : ¬ (Value.slice pa n pc).ownBlock = some kb := fun e => own_apartX h.own h.box (by decide) e
  have hg2 := hL.fr.heap hg hgn
  exact ⟨hL.fr.cell h.kc hbn, hL.fr.cell h.gc hgn, frozen_of_row _ _ k _ _ hg2⟩
/-- a round's end over a row of acts -/
theorem HA4.done {w wr wy wz w1 : World} {K : Bk} {V : Nat → Value} {k g ic kb b cap : Nat} {pa : Option Addr} {n pc : Nat} {x : List Value} {m : Int} (h : HA4 w wr K k V) (hk : k < K.am) (hq : AqS w wr K k g K.am ic kb pa n pc x m) (hiv : K.av = .slice (some ⟨g, 0, none⟩) K.am ic) (hL : AqL wr wy pa n pc (mk3 n m x)) (hz : Below wy.heap.size wy wz)
    (h1 : w1.ownsRow 0 86 3 (.slice (some ⟨b, 0, none⟩) (n + 1) cap) (n + 1) (mk3 n m x ++ [.int .i64 m, .int .i64 0, .slice none 0 0])) (h2 : Fr (fun e => (Value.slice pa n pc).ownBlock = some e) wz w1) (h3 : (Value.slice pa n pc).ownBlock = some b ∨ wz.heap.size ≤ b) :
    (w1.cell? ⟨g, k, none⟩ = some (.slice pa n pc) ∧ w1.frozen? ⟨g, k, none⟩ = false) ∧ HA4 w (w1.setCell ⟨g, k, none⟩ (.slice (some ⟨b, 0, none⟩) (n + 1) cap)) K (k + 1) (up V k (.slice (some ⟨b, 0, none⟩) (n + 1) cap)) := by
  obtain ⟨cs, hg⟩ := hq.gt
  have hgn : ¬ (Value.slice pa n pc).ownBlock = some g := fun e => own_apartX hq.own hg (by decide) e
  have fa : Fr (fun e => (Value.slice pa n pc).ownBlock = some e) wr w1 := (hL.fr.trans (below_fr hz (fun _ => False)) (fun _ e => e.elim)).trans h2 (fun _ e => .inl e)
  have hg1 := fa.heap hg hgn
  refine ⟨⟨fa.cell hq.gc hgn, frozen_of_row _ _ k _ _ hg1⟩, ?_⟩
  have hn : K.aM k = n := hq.xl.2.2
  have e : mA K k = mk3 n m x ++ [.int .i64 m, .int .i64 0, .slice none 0 0] := by
    unfold mA; rw [hn, hq.me, hq.xl.2.1]
  have hu : w1.ownsRow 0 86 3 (.slice (some ⟨b, 0, none⟩) (K.aM k + 1) cap) (K.aM k + 1) (mA K k) := by rw [hn, e]; exact h1
  have hh := H4.next (by decide) h hiv hk (by rw [hq.v]; exact fa) hu (by rw [hq.v]; exact h3.imp id (fun e => Nat.le_trans (Nat.le_trans hL.fr.size hz.size) e))
  rw [hn] at hh
  exact hh
def S3h (kb : Nat) (v : Value) (w : World) : Prop := w.cell? ⟨kb, 3, none⟩ = some v
structure Hi6 (w w4 : World) (K : Bk) (k g b bc2 : Nat) (pa : Option Addr) (n pc im ic kb : Nat) (V : Nat → Value) : Prop where
  c : w4.cell? ⟨g, k, none⟩ = some (.slice pa n pc)
  f : w4.frozen? ⟨g, k, none⟩ = false
  kc : w4.cell? ⟨kb, 3, none⟩ = some (.slice (some ⟨g, 0, none⟩) im ic)
  kd : S3h kb (.slice (some ⟨g, 0, none⟩) im ic) (w4.setCell ⟨g, k, none⟩ (.slice (some ⟨b, 0, none⟩) (n + 1) bc2))
  h : HA4 w (w4.setCell ⟨g, k, none⟩ (.slice (some ⟨b, 0, none⟩) (n + 1) bc2)) K (k + 1) (up V k (.slice (some ⟨b, 0, none⟩) (n + 1) bc2))
theorem hi6d {w wr wy wz w1 : World} {K : Bk} {V : Nat → Value} {k g im ic kb b cap : Nat} {pa : Option Addr} {n pc : Nat} {x : List Value} {m : Int} (h : HA4 w wr K k V) (hi : K.av = .slice (some ⟨g, 0, none⟩) K.am ic ∧ k < K.am) (hq : AqS w wr K k g im ic kb pa n pc x m) (him : K.am = im) (hL : AqL wr wy pa n pc (mk3 n m x)) (hz : Below wy.heap.size wy wz)
    (h1 : w1.ownsRow 0 86 3 (.slice (some ⟨b, 0, none⟩) (n + 1) cap) (n + 1) (mk3 n m x ++ [.int .i64 m, .int .i64 0, .slice none 0 0])) (h2 : Fr (fun e => (Value.slice pa n pc).ownBlock = some e) wz w1) (h3 : (Value.slice pa n pc).ownBlock = some b ∨ wz.heap.size ≤ b) : Hi6 w w1 K k g b cap pa n pc im ic kb V := by
  subst him
  obtain ⟨⟨a1, a2⟩, a3⟩ := h.done hi.2 hq hi.1 hL hz h1 h2 h3
  have hbn : ¬ (Value.slice pa n pc).ownBlock = some kb := fun e => own_apartX hq.own hq.box (by decide) e
  have hgk : kb ≠ g := fun e => by
    obtain ⟨cs, hg⟩ := hq.gt
    rw [← e, hq.box] at hg
    injection hg with hg
    injection hg with _ hg _
    exact absurd hg (by decide)
  refine ⟨a1, a2, ?_, ?_, a3⟩
  rotate_left
  · exact (Fr.set (g := g)).cell (h2.cell ((below_fr hz (fun _ => False)).cell (hL.fr.cell hq.kc hbn) (fun e => e)) hbn) hgk
  exact h2.cell ((below_fr hz (fun _ => False)).cell (hL.fr.cell hq.kc hbn) (fun e => e)) hbn
section
variable {o : Oper} {ρ : Operand → Value} {w : World}
theorem ex_index3 {x y : Operand} {g n c k : Nat} (ho : o.op = .indexAddr 39 x y) (hx : ρ x = .slice (some ⟨g, 0, none⟩) n c) (hy : ρ y = .int .i64 (k : Int)) (hk : k < n) : (execOp ρ o).run Try.prog w = .ok (.value (.pointer (some ⟨g, k, none⟩))) w := by
  have h1 : ¬ (k : Int) < 0 := by omega
  simp [execOp, ho, hx, hy, go_sem, hk]
theorem ex_loadA {x : Operand} {p : Addr} {a : Option Addr} {n c : Nat} (ho : o.op = .load 51 x) (hx : ρ x = .pointer (some p)) (hc : w.cell? p = some (.slice a n c)) : (execOp ρ o).run Try.prog w = .ok (.value (.slice a n c)) w := by
  simp [execOp, ho, hx, hc, go_sem]
theorem ex_build {x : Operand} {m : Int} (ho : o.op = .build 86 #[(0, x)]) (hx : ρ x = .int .i64 m) : (execOp ρ o).run Try.prog w = .ok (.value (.agg #[.int .i64 m, .int .i64 0, .slice none 0 0])) w := by
  simp [execOp, ho, hx, go_sem]
theorem ex_buildA {x : Operand} {m : Int} (ho : o.op = .buildSlice 51 1 #[(0, x)]) (hx : ρ x = .agg #[.int .i64 m, .int .i64 0, .slice none 0 0]) : (execOp ρ o).run Try.prog w = .ok (.value (.slice (some ⟨w.heap.size, 0, none⟩) 1 1)) (w.alloc (.cells #[.int .i64 m, .int .i64 0, .slice none 0 0] 86)) := by
  simp [execOp, ho, hx, go_sem]
theorem ex_storeA {x y : Operand} {p : Addr} {v0 : Value} {pa : Option Addr} {n c : Nat} (ho : o.op = .store 51 x y) (hx : ρ x = .pointer (some p)) (hy : ρ y = .slice pa n c) (hc : w.cell? p = some v0) (hf : w.frozen? p = false) : (execOp ρ o).run Try.prog w = .ok .skip (w.setCell p (.slice pa n c)) := by
  simp [execOp, ho, hx, hy, hc, hf, go_sem]
end
section
variable {o : Oper} {a : Act} {w : World} {K : Act → World → Prop} {Q : Exit → Act → World → Prop}
theorem sta_load {x : Operand} {p : Addr} {pa : Option Addr} {n c : Nat} (ho : o.op = .load 51 x) (hx : a.eval x = .pointer (some p)) (hc : w.cell? p = some (.slice pa n c)) (d : Nat) (hd : o.dst = some d) (h : K (a.put (some d) (.slice pa n c)) w) : o.wp Try.prog a w K Q := by
  unfold Oper.wp
  rw [ex_loadA ho hx hc]
  rw [← hd] at h
  exact h
theorem sta_build {x : Operand} {m : Int} (ho : o.op = .buildSlice 51 1 #[(0, x)]) (hx : a.eval x = .agg #[.int .i64 m, .int .i64 0, .slice none 0 0]) (d : Nat) (hd : o.dst = some d) (h : K (a.put (some d) (.slice (some ⟨w.heap.size, 0, none⟩) 1 1)) (w.alloc (.cells #[.int .i64 m, .int .i64 0, .slice none 0 0] 86))) : o.wp Try.prog a w K Q := by
  unfold Oper.wp
  rw [ex_buildA ho hx]
  rw [← hd] at h
  exact h
theorem sta_store {x y : Operand} {p : Addr} {v0 : Value} {pa : Option Addr} {n c : Nat} (ho : o.op = .store 51 x y) (hx : a.eval x = .pointer (some p)) (hy : a.eval y = .slice pa n c) (hc : w.cell? p = some v0) (hf : w.frozen? p = false) (hd : o.dst = none) (h : K a (w.setCell p (.slice pa n c))) : o.wp Try.prog a w K Q := by
  unfold Oper.wp
  rw [ex_storeA ho hx hy hc hf]
  simp only [Oper.upon, hd]
  exact h
end
/-- what the loop over the numbers leaves of the rest -/
theorem HI4.rest {w wr : World} {K : Bk} {i kb : Nat} {V : Nat → Value} (h : HI4 w wr K i V) (hI : LV 75 1 3 1 w K.iv K.im (fun i => [K.iV i]) K.iV (fun i => (K.iX i).length) (fun i => (K.iX i).map (Value.int .i64)) ∧ LV 51 1 86 3 w K.av K.am (fun i => [K.aV i]) K.aV K.aM K.aC ∧ w.heap[kb]? = some (.cells K.cells 41 (0, 0))) :
    LV 51 1 86 3 wr K.av K.am (fun i => [K.aV i]) K.aV K.aM K.aC ∧ wr.heap[kb]? = some (.cells K.cells 41 (0, 0)) :=
  ⟨hI.2.1.fr h.fr (fun k e e2 => hI.1.sep hI.2.1 (by decide) (by decide) (by decide) (by decide) k e2 e), h.fr.heap hI.2.2 (fun e2 => hI.1.box hI.2.2 (by decide) (by decide) e2 rfl)⟩
theorem LV.congr {ty rs el sz : Nat} {w : World} {lv : Value} {n : Nat} {R : Nat → List Value} {V : Nat → Value} {M M' : Nat → Nat} {C C' : Nat → List Value} (h : LV ty rs el sz w lv n R V M C) (hM : ∀ j, j < n → M j = M' j) (hC : ∀ j, j < n → C j = C' j) : LV ty rs el sz w lv n R V M' C' :=
  ⟨h.row, fun i hi => by rw [← hM i hi, ← hC i hi]; exact h.ls i hi, h.ap⟩
/-- all is marked and long -/
structure HF (w : World) (K : Bk) (kb : Nat) (lv : Value) (V3 V4 V6 : Nat → Value) : Prop where
  nl : NL w K lv K.bn V3
  i : LV 75 1 3 1 w K.iv K.im (fun j => [V4 j]) V4 (fun j => (K.iX j).length + 1) (mI K)
  a : LV 51 1 86 3 w K.av K.am (fun j => [V6 j]) V6 (fun j => K.aM j + 1) (mA K)
  box : w.heap[kb]? = some (.cells K.cells 41 (0, 0))
theorem HF.on {w w' : World} {K : Bk} {kb : Nat} {lv : Value} {V3 V4 V6 : Nat → Value} (h : HF w K kb lv V3 V4 V6) (hb : Below w.heap.size w w') : HF w' K kb lv V3 V4 V6 := ⟨h.nl.on hb, h.i.on hb, h.a.on hb, (below_fr hb (fun _ => False)).heap h.box (fun e => e)⟩
theorem HF.of {w2 w3 w4 w6 : World} {K : Bk} {kb : Nat} {lv : Value} {V3 V4 V6 : Nat → Value} (hK : BkI w2 K) (h3 : H3 w2 w3 K lv K.bn V3) (hkb : K.kb = kb) (h4 : HI4 w3 w4 K K.im V4) (h6 : HA4 w4 w6 K K.am V6) : HF w6 K kb lv V3 V4 V6 ∧ Fr K.all w2 w6 := by
  subst hkb
  have r3 := h3.rest hK
  have r4 := h4.rest (kb := K.kb) r3
  have n4 := h3.nl.fr h4.fr (fun k e e2 => r3.1.sep h3.nl (by decide) (by decide) (by decide) (by decide) k e2 e)
  have n6 := n4.fr h6.fr (fun k e e2 => r4.1.sep n4 (by decide) (by decide) (by decide) (by decide) k e2 e)
  have i6 := h4.l.fr h6.fr (fun k e e2 => r4.1.sep h4.l (by decide) (by decide) (by decide) (by decide) k e2 e)
  refine ⟨⟨n6, i6.congr (fun j hj => if_pos hj) (fun j hj => if_pos hj), h6.l.congr (fun j hj => if_pos hj) (fun j hj => if_pos hj), h6.fr.heap r4.2 (fun e2 => r4.1.box r4.2 (by decide) (by decide) e2 rfl)⟩, ?_⟩
  exact ((h3.fr.mono (fun k e => by obtain ⟨j, hj, e⟩ := e; exact .inr (.inl (.inr ⟨j, hj, e⟩)))).trans h4.fr (fun k e => .inl (.inr (.inr (.inl e))))).trans h6.fr (fun k e => .inl (.inr (.inr (.inr (.inr (.inl e))))))
/-- a marked row of bytes -/
theorem HF.bcells {w : World} {K : Bk} {kb k : Nat} {lv : Value} {V3 V4 V6 : Nat → Value} (h : HF w K kb lv V3 V4 V6) (hk : k < K.bn) : ∃ g cap p pc n m, lv = .slice (some ⟨g, 0, none⟩) K.bn cap ∧ (K.bX k).length = n ∧ K.bn ≤ cap ∧ n + 3 ≤ pc ∧ w.cell? ⟨g, k * 5, none⟩ = some (.slice (some ⟨p, 0, none⟩) (n + 3) pc) ∧ w.cell? ⟨g, k * 5 + 1, none⟩ = some (.int .i64 (n : Int)) ∧ w.cell? ⟨g, k * 5 + 2, none⟩ = some (.int .u8 m) ∧ w.cell? ⟨g, k * 5 + 3, none⟩ = some (.string (strOfNums (K.bX k))) ∧ w.cell? ⟨g, k * 5 + 4, none⟩ = some (.bool (decide (k % 2 = 0))) ∧ ∀ w', Below w.heap.size w w' → ∀ r, r < n + 3 → w'.cell? ⟨p, r, none⟩ = some (.int .u8 m) := by
  obtain ⟨g, cap, e, h2, h3, _, hc⟩ := h.nl.cell (fun _ => rfl) hk
  have ho := h.nl.ls k hk
  obtain ⟨pa, pc, e1, e2, hpf, _⟩ := owns_slice ho
  obtain ⟨p, rfl⟩ := hpf.resolve_left (by omega)
  refine ⟨g, cap, p, pc, _, mk8 k, e, rfl, h2, e2, ?_, hc 1 (by omega), hc 2 (by omega), hc 3 (by omega), hc 4 (by omega), fun w' hb r hr => ?_⟩
  · rw [← e1]; exact hc 0 (by omega)
  · rw [e1] at ho
    have ho' := owns_fr ho (below_fr hb (fun _ => False)) (fun _ _ e => e)
    rw [ho'.cellAt r (by omega)]
    unfold mkB
    rw [List.getElem?_map, List.getElem?_replicate, if_pos hr]; rfl
/-- a marked row of numbers -/
theorem HF.icells {w : World} {K : Bk} {kb k : Nat} {lv : Value} {V3 V4 V6 : Nat → Value} (h : HF w K kb lv V3 V4 V6) (hk : k < K.im) : ∃ g cap p pc n m, K.iv = .slice (some ⟨g, 0, none⟩) K.im cap ∧ (K.iX k).length = n ∧ (-1000 : Int) - (k : Int) = m ∧ K.im ≤ cap ∧ n + 1 ≤ pc ∧ w.cell? ⟨kb, 1, none⟩ = some (.slice (some ⟨g, 0, none⟩) K.im cap) ∧ w.cell? ⟨g, k, none⟩ = some (.slice (some ⟨p, 0, none⟩) (n + 1) pc) ∧ ∀ r, r < n + 1 → w.cell? ⟨p, r, none⟩ = some (.int .i64 m) := by
  obtain ⟨g, cap, e, h2, h3, _, hc⟩ := h.i.cell (fun _ => rfl) hk
  have ho := h.i.ls k hk
  obtain ⟨pa, pc, e1, e2, hpf, _⟩ := owns_slice ho
  obtain ⟨p, rfl⟩ := hpf.resolve_left (by omega)
  have hg := hc 0 (by omega)
  rw [Nat.mul_one, Nat.add_zero] at hg
  refine ⟨g, cap, p, pc, _, _, e, rfl, rfl, h2, e2, by rw [← e]; exact cell_of_row _ _ 1 _ _ _ h.box, by rw [← e1]; exact hg, fun r hr => ?_⟩
  rw [e1] at ho
  rw [ho.cellAt r (by omega)]
  unfold mI
  rw [List.getElem?_map, List.getElem?_replicate, if_pos hr]; rfl
/-- a marked row of acts -/
theorem HF.acells {w : World} {K : Bk} {kb k : Nat} {lv : Value} {V3 V4 V6 : Nat → Value} (hK : ∀ j, j < K.am → (K.aC j).length = K.aM j * 3) (h : HF w K kb lv V3 V4 V6) (hk : k < K.am) : ∃ g cap p pc n m, K.av = .slice (some ⟨g, 0, none⟩) K.am cap ∧ K.aM k = n ∧ (-1000 : Int) - (k : Int) = m ∧ K.am ≤ cap ∧ n + 1 ≤ pc ∧ w.cell? ⟨kb, 3, none⟩ = some (.slice (some ⟨g, 0, none⟩) K.am cap) ∧ w.cell? ⟨g, k, none⟩ = some (.slice (some ⟨p, 0, none⟩) (n + 1) pc) ∧ ∀ w', Below w.heap.size w w' → ∀ r, r < n + 1 → w'.cell? ⟨p, r * 3, none⟩ = some (.int .i64 m) ∧ w'.cell? ⟨p, r * 3 + 1, none⟩ = some (.int .i64 0) ∧ w'.cell? ⟨p, r * 3 + 2, none⟩ = some (.slice none 0 0) := by
  obtain ⟨g, cap, e, h2, h3, _, hc⟩ := h.a.cell (fun _ => rfl) hk
  have ho := h.a.ls k hk
  obtain ⟨pa, pc, e1, e2, hpf, _⟩ := owns_slice ho
  obtain ⟨p, rfl⟩ := hpf.resolve_left (by omega)
  have hg := hc 0 (by omega)
  rw [Nat.mul_one, Nat.add_zero] at hg
  refine ⟨g, cap, p, pc, _, _, e, rfl, rfl, h2, e2, by rw [← e]; exact cell_of_row _ _ 3 _ _ _ h.box, by rw [← e1]; exact hg, fun w' hb r hr => ?_⟩
  rw [e1] at ho
  have ho' := owns_fr ho (below_fr hb (fun _ => False)) (fun _ _ e => e)
  obtain ⟨z1, z2, z3⟩ := mA_z K k (hK k hk) r hr
  exact ⟨by rw [ho'.cellAt _ (by omega)]; exact z1, by rw [ho'.cellAt _ (by omega)]; exact z2, by rw [ho'.cellAt _ (by omega)]; exact z3⟩
end Go.Proofs.Ytipbflmonhlnjaa
