import Derived.Test.YtipbflmonhlnjaaKBkB
import Derived.Deep.RegionHeld3
namespace Go.Proofs.Ytipbflmonhlnjaa
open Go.RowKit Rec

theorem infoI64 : (Try.prog.info? 3).map (fun i => (i.zero, i.size, i.bytes)) = some (some (.int .i64 0), 1, 8) := by kernel_rfl
theorem infoSI : (Try.prog.info? 75).map (fun i => (i.zero, i.size, i.bytes)) = some (some (.slice none 0 0), 1, 24) := by kernel_rfl
theorem infoSA : (Try.prog.info? 51).map (fun i => (i.zero, i.size, i.bytes)) = some (some (.slice none 0 0), 1, 24) := by kernel_rfl
theorem mks_len (k : Nat) (m : Int) (xs : List Int) (h : k ≤ xs.length) : (mks k m xs).length = xs.length := by unfold mks; rw [List.length_append, List.length_replicate, List.length_drop]; omega
/-- what two appends leave: a list in each of two rows -/
structure TwA (ty el sz tB : Nat) (w w1 w3 w4 : World) (lv lv' : Value) (n kb j j' : Nat) (cs : Array Value) (V V' : Nat → Value) (M : Nat → Nat) (C C' : Nat → List Value) (v u : Value) (m : Nat) (c c' : List Value) (X Y : Value) : Prop where
  b1 : w1.heap[kb]? = some (.cells cs tB (0, 0))
  b3 : w3.heap[kb]? = some (.cells (cs.setIfInBounds j X) tB (0, 0))
  b4 : w4.heap[kb]? = some (.cells ((cs.setIfInBounds j X).setIfInBounds j' Y) tB (0, 0))
  i : LV ty 1 el sz w4 X (n + 1) (fun i => [up V n v i]) (up V n v) (up M n m) (up C n c)
  t : LV ty 1 el sz w4 Y (n + 1) (fun i => [up V' n u i]) (up V' n u) (up M n m) (up C' n c')
  it : ∀ k, hasL X (n + 1) (up V n v) k → ¬ hasL Y (n + 1) (up V' n u) k
  fr : Fr (fun k => k = kb ∨ lv.ownBlock = some k ∨ lv'.ownBlock = some k ∨ v.ownBlock = some k) w w4
  hi : ∀ k, hasL X (n + 1) (up V n v) k → hasL lv n V k ∨ v.ownBlock = some k ∨ w.heap.size ≤ k
  ht : ∀ k, hasL Y (n + 1) (up V' n u) k → hasL lv' n V' k ∨ w.heap.size ≤ k
theorem two_add {ty el sz tB : Nat} {w wy w1 w2 wb w3 : World} {lv lv' : Value} {n kb j j' b cap b' cap' m : Nat} {cs : Array Value} {V V' : Nat → Value} {M : Nat → Nat} {C C' : Nat → List Value} {v u : Value} {c c' : List Value} (hne : ty ≠ el) (hB1 : tB ≠ ty) (hB2 : tB ≠ el)
    (hi : LV ty 1 el sz w lv n (fun i => [V i]) V M C) (ht : LV ty 1 el sz w lv' n (fun i => [V' i]) V' M C') (it : ∀ k, hasL lv n V k → ¬ hasL lv' n V' k) (hbox : w.heap[kb]? = some (.cells cs tB (0, 0)))
    (f : Fr (fun k => v.ownBlock = some k) w wy) (hv : ∀ k, v.ownBlock = some k → ¬ hasL lv n V k ∧ ¬ hasL lv' n V' k ∧ k ≠ kb) (hu : ∀ k, u.ownBlock = some k → w.heap.size ≤ k ∧ v.ownBlock ≠ some k)
    (hV : wy.ownsRow 0 el sz v m c) (hU : wy.ownsRow 0 el sz u m c')
    (h1 : w1.ownsRow 0 ty 1 (.slice (some ⟨b, 0, none⟩) (n + 1) cap) (n + 1) ((List.range n).flatMap (fun i => [V i]) ++ [v])) (h2 : Fr (fun k => lv.ownBlock = some k) wy w1) (h3 : lv.ownBlock = some b ∨ wy.heap.size ≤ b)
    (hw2 : w2 = w1.setCell ⟨kb, j, none⟩ (.slice (some ⟨b, 0, none⟩) (n + 1) cap)) (hwb : Below w2.heap.size w2 wb)
    (h1' : w3.ownsRow 0 ty 1 (.slice (some ⟨b', 0, none⟩) (n + 1) cap') (n + 1) ((List.range n).flatMap (fun i => [V' i]) ++ [u])) (h2' : Fr (fun k => lv'.ownBlock = some k) wb w3) (h3' : lv'.ownBlock = some b' ∨ wb.heap.size ≤ b') :
    TwA ty el sz tB w w1 w3 (w3.setCell ⟨kb, j', none⟩ (.slice (some ⟨b', 0, none⟩) (n + 1) cap')) lv lv' n kb j j' cs V V' M C C' v u m c c' (.slice (some ⟨b, 0, none⟩) (n + 1) cap) (.slice (some ⟨b', 0, none⟩) (n + 1) cap') := by
  have yi := hi.fr f (fun k e e2 => (hv k e2).1 e)
  have yt := ht.fr f (fun k e e2 => (hv k e2).2.1 e)
  have yb : wy.heap[kb]? = some (.cells cs tB (0, 0)) := f.heap hbox (fun e => (hv kb e).2.2 rfl)
  have b1 : w1.heap[kb]? = some (.cells cs tB (0, 0)) := h2.heap yb (fun e => own_apartX yi.row yb (Ne.symm hB1) e)
  have i1 := yi.one hne hV (fun i hi' x e e2 => (hv x e2).1 (.inr ⟨i, hi', e⟩)) h1 h2
  have t1 := yt.fr h2 (fun k e e2 => it k (.inl e2) e)
  have U1 : w1.ownsRow 0 el sz u m c' := owns_fr hU h2 (fun x e1 e2 => own_two yi.row hU hne e2 e1)
  have s2 : Fr (fun k => k = kb) w1 w2 := by rw [hw2]; exact Fr.set
  have b2 : w2.heap[kb]? = some (.cells (cs.setIfInBounds j (.slice (some ⟨b, 0, none⟩) (n + 1) cap)) tB (0, 0)) := by rw [hw2]; exact heap_setCell_same _ _ _ _ _ _ b1
  have i2 := i1.fr s2 (fun k e => i1.box b1 hB2 hB1 e)
  have t2 := t1.fr s2 (fun k e => t1.box b1 hB2 hB1 e)
  have U2 := owns_fr U1 s2 (fun k e e2 => own_apartX U1 b1 (Ne.symm hB2) (by rw [e, show k = kb from e2]))
  have x2 : Fr (fun _ => False) w2 wb := below_fr hwb _
  have ib := i2.on hwb
  have tb := t2.on hwb
  have Ub := owns_fr U2 x2 (fun _ _ e => e)
  have bb := x2.heap b2 (fun e => e)
  have hsz : w.heap.size ≤ wy.heap.size := f.size
  have hib : ∀ k, hasL (.slice (some ⟨b, 0, none⟩) (n + 1) cap) (n + 1) (up V n v) k → hasL lv n V k ∨ v.ownBlock = some k ∨ w.heap.size ≤ k := fun k e => by
    rcases hasL_up (lv := lv) e with e | e | e
    · cases e
      exact h3.elim (fun e => .inl (.inl e)) (fun e => .inr (.inr (Nat.le_trans hsz e)))
    · exact .inr (.inl e)
    · exact .inl e
  have hwlt : w.heap.size ≤ wb.heap.size := Nat.le_trans hsz (Nat.le_trans h2.size (Nat.le_trans s2.size hwb.size))
  have htb : ∀ k, hasL (.slice (some ⟨b', 0, none⟩) (n + 1) cap') (n + 1) (up V' n u) k → hasL lv' n V' k ∨ w.heap.size ≤ k := fun k e => by
    rcases hasL_up (lv := lv') e with e | e | e
    · cases e
      exact h3'.elim (fun e => .inl (.inl e)) (fun e => .inr (Nat.le_trans hwlt e))
    · exact .inr (hu k e).1
    · exact .inl e
  have i3 := ib.fr h2' (fun k e e2 => by
    rcases hib k e with e3 | e3 | e3
    · exact it k e3 (.inl e2)
    · exact (hv k e3).2.1 (.inl e2)
    · exact absurd (ht.lt (.inl e2)) (by omega))
  have t3 := tb.one hne Ub (fun i hi' x e e2 => absurd (ht.lt (.inr ⟨i, hi', e⟩)) (by have := (hu x e2).1; omega)) h1' h2'
  have b3 := h2'.heap bb (fun e => own_apartX tb.row bb (Ne.symm hB1) e)
  have s4 : Fr (fun k => k = kb) w3 (w3.setCell ⟨kb, j', none⟩ (.slice (some ⟨b', 0, none⟩) (n + 1) cap')) := Fr.set
  have hblk : b < wb.heap.size ∧ b < w3.heap.size := by
    have e1 : b < wb.heap.size := owns_block ib.row rfl
    exact ⟨e1, Nat.lt_of_lt_of_le e1 h2'.size⟩
  refine ⟨b1, b3, heap_setCell_same _ _ _ _ _ _ b3, ?_, ?_, fun k e e2 => ?_, ?_, hib, htb⟩
  · rw [up1 (fun x _ => [x])]; exact i3.fr s4 (fun k e => i3.box b3 hB2 hB1 e)
  · rw [up1 (fun x _ => [x])]; exact t3.fr s4 (fun k e => t3.box b3 hB2 hB1 e)
  · rcases hasL_up (lv := lv') e2 with e2 | e2 | e2
    · cases e2
      rcases h3' with h3' | h3'
      · rcases hib _ e with e3 | e3 | e3
        · exact it _ e3 (.inl h3')
        · exact (hv _ e3).2.1 (.inl h3')
        · have e4 : w.heap.size ≤ b' := e3
          have e5 : b' < w.heap.size := ht.lt (.inl h3')
          omega
      · rcases hasL_up (lv := lv) e with e | e | e
        · cases e; omega
        · have e5 : b' < wy.heap.size := owns_block hV e
          have := h2.size; have := s2.size; have := hwb.size; omega
        · have e5 : b' < w.heap.size := hi.lt e
          omega
    · rcases hasL_up (lv := lv) e with e | e | e
      · cases e
        exact own_two i1.row U1 hne rfl e2
      · exact (hu k e2).2 e
      · have := hi.lt e; have := (hu k e2).1; omega
    · rcases hib k e with e3 | e3 | e3
      · exact it k e3 e2
      · exact (hv k e3).2.1 e2
      · exact absurd (ht.lt e2) (by omega)
  · refine ((((f.mono (fun k e => .inr (.inr (.inr e)))).trans h2 (fun k e => .inl (.inr (.inl e)))).trans s2 (fun k e => .inl (.inl e))).trans x2 (fun _ e => e.elim)).trans h2' (fun k e => .inl (.inr (.inr (.inl e)))) |>.trans s4 (fun k e => .inl (.inl e))
/-- the book with one row of numbers more -/
def Bk.addI (K : Bk) (iv tv V U : Value) (x : List Int) : Bk := { K with iv := iv, tv := tv, im := K.im + 1, iV := up K.iV K.im V, tV := up K.tV K.im U, iX := up K.iX K.im x }
theorem BkI.addI {w w1 w3 w4 : World} {K : Bk} {v u X Y : Value} {x : List Int} (h : BkI w K) (hv : ∀ k, v.ownBlock = some k → ¬ K.all k) (hx : x.length ≤ 10000000) (hn : K.im + 1 ≤ 1000000000000)
    (hT : TwA 75 3 1 41 w w1 w3 w4 K.iv K.tv K.im K.kb 1 2 K.cells K.iV K.tV (fun i => (K.iX i).length) (fun i => (K.iX i).map (Value.int .i64)) (fun i => (K.iX i).map (Value.int .i64)) v u x.length (x.map (Value.int .i64)) (x.map (Value.int .i64)) X Y) :
    BkI w4 (K.addI X Y v u x) ∧ Fr (fun k => K.all k ∨ v.ownBlock = some k) w w4 ∧ ∀ k, (K.addI X Y v u x).all k → K.all k ∨ v.ownBlock = some k ∨ w.heap.size ≤ k := by
  have hF : ∀ {ty rs el sz : Nat} {lv : Value} {n : Nat} {R : Nat → List Value} {V : Nat → Value} {M : Nat → Nat} {C : Nat → List Value}, LV ty rs el sz w lv n R V M C → (∀ k, hasL lv n V k → K.all k) → 75 ≠ ty → 75 ≠ el → 41 ≠ ty → 41 ≠ el → LV ty rs el sz w4 lv n R V M C := by
    intro ty rs el sz lv n R V M C hL hA n1 n2 n3 n4
    refine hL.fr hT.fr (fun k e e2 => ?_)
    rcases e2 with e2 | e2 | e2 | e2
    · exact hL.box h.box n4 n3 e e2
    · rcases e with e | ⟨i, hi, e⟩
      · exact own_two h.i.row hL.row n1 e2 e
      · exact own_two h.i.row (hL.ls i hi) n2 e2 e
    · rcases e with e | ⟨i, hi, e⟩
      · exact own_two h.t.row hL.row n1 e2 e
      · exact own_two h.t.row (hL.ls i hi) n2 e2 e
    · exact hv k e2 (hA k e)
  have hi := hT.i
  have ht := hT.t
  have e1 : (fun i => (up K.iX K.im x i).length) = up (fun i => (K.iX i).length) K.im x.length := up1 (fun (y : List Int) _ => y.length) _ _ _
  have e2 : (fun i => (up K.iX K.im x i).map (Value.int .i64)) = up (fun i => (K.iX i).map (Value.int .i64)) K.im (x.map (Value.int .i64)) := up1 (fun (y : List Int) _ => y.map (Value.int .i64)) _ _ _
  rw [← e1, ← e2] at hi ht
  refine ⟨⟨hT.b4, hF h.b (fun k e => .inr (.inl e)) (by decide) (by decide) (by decide) (by decide), hi, ht, hF h.a (fun k e => .inr (.inr (.inr (.inr (.inl e))))) (by decide) (by decide) (by decide) (by decide), hF h.w (fun k e => .inr (.inr (.inr (.inr (.inr e))))) (by decide) (by decide) (by decide) (by decide), hT.it, h.aw, h.ac, h.bx, ?_, h.am, h.bn, hn, h.an⟩, ?_, ?_⟩
  · intro i hi
    by_cases e : i = K.im
    · subst e; simp only [Bk.addI, up_eq1]; exact hx
    · simp only [Bk.addI, up_ne _ _ e]; exact h.ix i (by have : i < K.im + 1 := hi; omega)
  · exact hT.fr.mono (fun k e => by
      rcases e with e | e | e | e
      · exact .inl (.inl e)
      · exact .inl (.inr (.inr (.inl (.inl e))))
      · exact .inl (.inr (.inr (.inr (.inl (.inl e)))))
      · exact .inr e)
  · rintro k (e | e | e | e | e | e)
    · exact .inl (.inl e)
    · exact .inl (.inr (.inl e))
    · rcases hT.hi k e with e | e | e
      · exact .inl (.inr (.inr (.inl e)))
      · exact .inr (.inl e)
      · exact .inr (.inr e)
    · rcases hT.ht k e with e | e
      · exact .inl (.inr (.inr (.inr (.inl e))))
      · exact .inr (.inr e)
    · exact .inl (.inr (.inr (.inr (.inr (.inl e)))))
    · exact .inl (.inr (.inr (.inr (.inr (.inr e)))))
/-- the book with one row of acts more -/
def Bk.addA (K : Bk) (av wv V U : Value) (m : Nat) (c c' : List Value) : Bk := { K with av := av, wv := wv, am := K.am + 1, aV := up K.aV K.am V, wV := up K.wV K.am U, aM := up K.aM K.am m, aC := up K.aC K.am c, wC := up K.wC K.am c' }
theorem BkI.addA {w w1 w3 w4 : World} {K : Bk} {v u X Y : Value} {m : Nat} {c c' : List Value} (h : BkI w K) (hv : ∀ k, v.ownBlock = some k → ¬ K.all k) (hc : AcS m c c') (hm : m ≤ 10000000) (hn : K.am + 1 ≤ 1000000000000)
    (hT : TwA 51 86 3 41 w w1 w3 w4 K.av K.wv K.am K.kb 3 4 K.cells K.aV K.wV K.aM K.aC K.wC v u m c c' X Y) :
    BkI w4 (K.addA X Y v u m c c') ∧ Fr (fun k => K.all k ∨ v.ownBlock = some k) w w4 ∧ ∀ k, (K.addA X Y v u m c c').all k → K.all k ∨ v.ownBlock = some k ∨ w.heap.size ≤ k := by
  have hF : ∀ {ty rs el sz : Nat} {lv : Value} {n : Nat} {R : Nat → List Value} {V : Nat → Value} {M : Nat → Nat} {C : Nat → List Value}, LV ty rs el sz w lv n R V M C → (∀ k, hasL lv n V k → K.all k) → 51 ≠ ty → 51 ≠ el → 41 ≠ ty → 41 ≠ el → LV ty rs el sz w4 lv n R V M C := by
    intro ty rs el sz lv n R V M C hL hA n1 n2 n3 n4
    refine hL.fr hT.fr (fun k e e2 => ?_)
    rcases e2 with e2 | e2 | e2 | e2
    · exact hL.box h.box n4 n3 e e2
    · rcases e with e | ⟨i, hi, e⟩
      · exact own_two h.a.row hL.row n1 e2 e
      · exact own_two h.a.row (hL.ls i hi) n2 e2 e
    · rcases e with e | ⟨i, hi, e⟩
      · exact own_two h.w.row hL.row n1 e2 e
      · exact own_two h.w.row (hL.ls i hi) n2 e2 e
    · exact hv k e2 (hA k e)
  refine ⟨⟨hT.b4, hF h.b (fun k e => .inr (.inl e)) (by decide) (by decide) (by decide) (by decide), hF h.i (fun k e => .inr (.inr (.inl e))) (by decide) (by decide) (by decide) (by decide), hF h.t (fun k e => .inr (.inr (.inr (.inl e)))) (by decide) (by decide) (by decide) (by decide), hT.i, hT.t, h.it, hT.it, ?_, h.bx, h.ix, ?_, h.bn, h.im, hn⟩, ?_, ?_⟩
  · intro i hi
    by_cases e : i = K.am
    · subst e; simp only [Bk.addA, up_eq1]; exact hc
    · simp only [Bk.addA, up_ne _ _ e]; exact h.ac i (by have : i < K.am + 1 := hi; omega)
  · intro i hi
    by_cases e : i = K.am
    · subst e; simp only [Bk.addA, up_eq1]; exact hm
    · simp only [Bk.addA, up_ne _ _ e]; exact h.am i (by have : i < K.am + 1 := hi; omega)
  · exact hT.fr.mono (fun k e => by
      rcases e with e | e | e | e
      · exact .inl (.inl e)
      · exact .inl (.inr (.inr (.inr (.inr (.inl (.inl e))))))
      · exact .inl (.inr (.inr (.inr (.inr (.inr (.inl e))))))
      · exact .inr e)
  · rintro k (e | e | e | e | e | e)
    · exact .inl (.inl e)
    · exact .inl (.inr (.inl e))
    · exact .inl (.inr (.inr (.inl e)))
    · exact .inl (.inr (.inr (.inr (.inl e))))
    · rcases hT.hi k e with e | e | e
      · exact .inl (.inr (.inr (.inr (.inr (.inl e)))))
      · exact .inr (.inl e)
      · exact .inr (.inr e)
    · rcases hT.ht k e with e | e
      · exact .inl (.inr (.inr (.inr (.inr (.inr e)))))
      · exact .inr (.inr e)
theorem app_zeroI (w : World) (a : Option Addr) (c : Nat) : (Builtin.append_ #[75, 75] 75 #[.slice none 0 0, .slice a 0 c]).run Try.prog w = .ok (.slice none 0 0) w := by
  obtain ⟨i0, hi, hz0, hz1, hz2⟩ := info_parts infoI64
  cases a <;> simp [Builtin.append_, run_underlying Try.underlying75, sizeOf, typeInfo, hi, Builtin.lenOf, Builtin.firstCells, loadCells, loadCellsFrom]
theorem app_zeroA (w : World) (a : Option Addr) (c : Nat) : (Builtin.append_ #[51, 51] 51 #[.slice none 0 0, .slice a 0 c]).run Try.prog w = .ok (.slice none 0 0) w := by
  obtain ⟨i0, hi, hz0, hz1, hz2⟩ := info_parts infoAct
  cases a <;> simp [Builtin.append_, run_underlying Try.underlying51, sizeOf, typeInfo, hi, Builtin.lenOf, Builtin.firstCells, loadCells, loadCellsFrom]
/-- a copy of a row, by an append to nothing -/
theorem wp_cpyV {ops : Array Oper} {rest : List Oper} {o : Oper} {a : Act} {Q : Exit → Act → World → Prop} {w : World} (hgd : o.guard = none) (s x : Operand) (t : TypeId)
    (ho : o.op = .call { callee := .builtin .append, args := #[s, x], argTypes := #[t, t] }) (hty : o.type = t) (hz0 : ∀ (w : World) (a : Option Addr) (c : Nat), (Builtin.append_ #[t, t] t #[.slice none 0 0, .slice a 0 c]).run Try.prog w = .ok (.slice none 0 0) w)
    (e : TypeId) (i0 : TypeInfo) (z : Value) (size bytes : Nat) (ht : Try.prog.underlying t = some (.slice e)) (hi : Try.prog.info? e = some i0) (hz : i0.zero = some z) (hsize : i0.size = size) (hby : i0.bytes = bytes) (hzs : z.cells.size = size) (hsz : 0 < size)
    (hs : a.eval s = .slice none 0 0) (v : Value) (n : Nat) (xs : List Value) (hx : a.eval x = v) (hv : w.ownsRow 0 e size v n xs) (h1 : ∀ u ∈ xs, u.oneCell' = true) (h63 : n ≤ maxLen) (h47 : n * bytes ≤ 140737488355328)
    (h : ∀ u w', w'.ownsRow 0 e size u n xs → (∀ k, u.ownBlock = some k → w.heap.size ≤ k) → (∃ ua uc, u = .slice ua n uc ∧ n ≤ uc ∧ (n = 0 ∨ ∃ g, ua = some ⟨g, 0, none⟩)) → Below w.heap.size w w' → wpList Try.prog ops Q rest (a.put o.dst u) w') : wpList Try.prog ops Q (o :: rest) a w := by
  by_cases h0 : n = 0
  · subst h0
    have hxs : xs = [] := List.eq_nil_of_length_eq_zero (by rw [hv.1, Nat.zero_mul])
    obtain ⟨va, vc, rfl, _⟩ := owns_slice hv
    refine wpList_plain hgd fun K hK => ?_
    unfold Oper.wp execOp
    simp only [ho, hty, resolve, invoke, builtin, Sem.run_bind, Sem.run_pure, Result.andThen_ok, List.map_toArray, List.map_cons, List.map_nil, hs, hx, hz0 w va vc]
    exact hK _ _ (h _ w (by rw [hxs]; exact ⟨by simp, .inl ⟨rfl, rfl⟩⟩) (fun k e => by cases e) ⟨none, 0, rfl, Nat.le_refl _, .inl rfl⟩ (Below.refl _ _))
  · obtain ⟨va, cap, rfl, _, hg, _⟩ := owns_slice hv
    obtain ⟨g, rfl⟩ := hg.resolve_left h0
    refine wp_own hgd s x t ho e i0 z size bytes ht hi hz hsize hby hzs hsz (.slice none 0 0) 0 [] hs ⟨by simp, .inl ⟨rfl, rfl⟩⟩ ⟨g, 0, none⟩ n cap xs hx (by omega) hv.1 (hv.cells rfl) h1 (by omega) (by rw [Nat.zero_add]; exact h47) ?_
    intro g2 cap2 w2 r1 r2 r3
    rw [Nat.zero_add, List.nil_append] at r1
    rw [Nat.zero_add]
    have hc : n ≤ cap2 := by
      rcases r1.2 with ⟨e2, _⟩ | ⟨_, _, _, e2, _, _, h3, _⟩
      · cases e2
      · cases e2; exact h3
    exact h _ w2 r1 (fun k e2 => by cases e2; exact r3.elim (fun e => by cases e) id) ⟨_, _, rfl, hc, .inr ⟨_, rfl⟩⟩ (r2.below _ (fun k e => by cases e) (Nat.le_refl _))
end Go.Proofs.Ytipbflmonhlnjaa
