import Derived.Test.YtipbflmonhlnjaaPoN
namespace Go.Proofs.Ytipbflmonhlnjaa
open Go.RowKit Rec

/-- the empty book -/
def K0 (kb : Nat) : Bk := { kb := kb, bv := .slice none 0 0, bn := 0, bV := fun _ => .slice none 0 0, bX := fun _ => [], iv := .slice none 0 0, tv := .slice none 0 0, im := 0, iV := fun _ => .slice none 0 0, tV := fun _ => .slice none 0 0, iX := fun _ => [], av := .slice none 0 0, wv := .slice none 0 0, am := 0, aV := fun _ => .slice none 0 0, wV := fun _ => .slice none 0 0, aM := fun _ => 0, aC := fun _ => [], wC := fun _ => [] }
theorem noL {k : Nat} {V : Nat → Value} (h : hasL (.slice none 0 0) 0 V k) : False := by
  rcases h with e | ⟨i, hi, _⟩
  · cases e
  · omega
theorem K0_all {kb k : Nat} (h : (K0 kb).all k) : k = kb := by
  rcases h with e | e | e | e | e | e
  · exact e
  · exact (noL e).elim
  · exact (noL e).elim
  · exact (noL e).elim
  · exact (noL e).elim
  · exact (noL e).elim
theorem K0_bk {w : World} {kb : Nat} (h : w.heap[kb]? = some (.cells (K0 kb).cells 41 (0, 0))) : BkI w (K0 kb) :=
  ⟨h, LV.zero _, LV.zero _, LV.zero _, LV.zero _, LV.zero _, fun _ e => (noL e).elim, fun _ e => (noL e).elim, fun _ e => absurd e (Nat.not_lt_zero _), fun _ e => absurd e (Nat.not_lt_zero _), fun _ e => absurd e (Nat.not_lt_zero _), fun _ e => absurd e (Nat.not_lt_zero _), Nat.zero_le _, Nat.zero_le _, Nat.zero_le _⟩
theorem MS.init {w0 w2 wB w3 w4 w5 : World} {P : Nat} {o0 o1 : Option (Dk × RDk)} (b2 : Below w0.heap.size w0 w2) (h0 : PrO w2 o0 0) (n0 : ∀ k, prB o0 k → w0.heap.size ≤ k) (hP : w2.heap.size = P) (hB : Below w2.heap.size w2 wB) (harr : wB.heap[P]? = some (.cells #[.pointer (dpO o0), .pointer (rpO o0), .pointer none, .pointer none] 33 (0, 0)))
    (b3 : Below wB.heap.size wB w3) (h1 : PrO w3 o1 0) (n1 : ∀ k, prB o1 k → wB.heap.size ≤ k) (b4 : Below w3.heap.size w3 w4) (e5 : (w4.setCell ⟨P, 2, none⟩ (.pointer (dpO o1))).setCell ⟨P, 3, none⟩ (.pointer (rpO o1)) = w5) :
    MS w0 (w5.alloc (.cells (K0 w5.heap.size).cells 41)) P o0 o1 (K0 w5.heap.size) w5.heap.size 0 := by
  have lP : P < wB.heap.size := heap_lt harr
  have s0 := b2.size
  have s2 := hB.size
  have s3 := b3.size
  have s4 := b4.size
  have f5 : Fr (fun k => k = P) w4 w5 := by rw [← e5]; exact (Fr.set).trans Fr.set (fun _ e => .inl e)
  have s5 := f5.size
  have ha : Below w5.heap.size w5 (w5.alloc (.cells (K0 w5.heap.size).cells 41)) := (Below.refl _ _).alloc (Nat.le_refl _) _
  have l0 : ∀ k, prB o0 k → k < w2.heap.size := fun k e => h0.lt e
  have l1 : ∀ k, prB o1 k → k < w3.heap.size := fun k e => h1.lt e
  have b34 := b3.trans (b4.mono b3.size)
  have a4 := (below_fr b34 (fun _ => False)).heap harr (fun e => e)
  have a5 : w5.heap[P]? = some (.cells (cl2 o0 o1) 33 (0, 0)) := by
    rw [← e5]
    have r0 := heap_setCell_same _ _ 2 _ _ (.pointer (dpO o1)) a4
    have r1 := heap_setCell_same _ _ 3 _ _ (.pointer (rpO o1)) r0
    exact r1
  have b24 : Below w2.heap.size w2 w4 := hB.trans (b34.mono hB.size)
  refine ⟨(below_fr ha (fun _ => False)).heap a5 (fun e => e), ?_, ?_, K0_bk (heap_alloc_new _ _), rfl, fun k e e2 => ?_, fun k e e2 => ?_, fun k e e2 => ?_, ⟨fun e => ?_, fun e => ?_, fun e => ?_⟩, fun k e => ?_, ?_, Nat.zero_le _, Nat.zero_le _, Nat.zero_le _⟩
  · exact ((h0.fr (below_fr b24 (fun _ => False)) (fun _ _ e => e)).fr f5 (fun k e e2 => by have := l0 k e; omega)).fr (below_fr ha (fun _ => False)) (fun _ _ e => e)
  · exact ((h1.fr (below_fr b4 (fun _ => False)) (fun _ _ e => e)).fr f5 (fun k e e2 => by have := n1 k e; omega)).fr (below_fr ha (fun _ => False)) (fun _ _ e => e)
  · have := l0 k e; have := n1 k e2; omega
  · have := l0 k e; have := K0_all e2; omega
  · have := l1 k e; have := K0_all e2; omega
  · have := l0 P e; omega
  · have := n1 P e; omega
  · have := K0_all e; omega
  · rcases e with e | e | e | e
    · exact n0 k e
    · have := n1 k e; omega
    · have := K0_all e; omega
    · omega
  · have b04 := b2.trans (b24.mono b2.size)
    exact (b04.trans (f5.below _ (fun k e => by omega) b04.size)).trans (ha.mono (by omega))
/-- at the end: pairs are only asked -/
structure ME (w0 wr : World) (o0 o1 : Option (Dk × RDk)) (K : Bk) (kb J c : Nat) : Prop where
  p0 : PrO wr o0 J
  p1 : PrO wr o1 J
  k : BkI wr K
  kb : K.kb = kb
  ak0 : ∀ k, prB o0 k → ¬ K.all k
  ak1 : ∀ k, prB o1 k → ¬ K.all k
  new : ∀ k, K.all k → w0.heap.size ≤ k
  be : Below w0.heap.size w0 wr
  bn : K.bn ≤ J * (J + 1) + c * (2 * J + 2)
  im : K.im ≤ 2 * J + 2 * c
  am : K.am ≤ 2 * J + 2 * c
theorem MS.end {w0 wr : World} {P kb j : Nat} {o0 o1 : Option (Dk × RDk)} {K : Bk} (h : MS w0 wr P o0 o1 K kb j) : ME w0 wr o0 o1 K kb j 0 := ⟨h.p0, h.p1, h.k, h.kb, h.ak0, h.ak1, fun k e => h.new k (.inr (.inr (.inl e))), h.be, by have := h.bn; omega, by have := h.im; omega, by have := h.am; omega⟩
theorem ME.on {w0 wr w' : World} {kb J c : Nat} {o0 o1 : Option (Dk × RDk)} {K : Bk} (h : ME w0 wr o0 o1 K kb J c) (hb : Below wr.heap.size wr w') : ME w0 w' o0 o1 K kb J c :=
  ⟨h.p0.fr (below_fr hb (fun _ => False)) (fun _ _ e => e), h.p1.fr (below_fr hb (fun _ => False)) (fun _ _ e => e), h.k.on hb, h.kb, h.ak0, h.ak1, h.new, h.be.trans (hb.mono h.be.size), h.bn, h.im, h.am⟩
theorem ME.mono {w0 wr : World} {kb J c c' : Nat} {o0 o1 : Option (Dk × RDk)} {K : Bk} (h : ME w0 wr o0 o1 K kb J c) (hc : c ≤ c') : ME w0 wr o0 o1 K kb J c' :=
  ⟨h.p0, h.p1, h.k, h.kb, h.ak0, h.ak1, h.new, h.be, by have := h.bn; have := Nat.mul_le_mul_right (2 * J + 2) hc; omega, by have := h.im; omega, by have := h.am; omega⟩
theorem ME.look {w0 wr w' : World} {kb J c : Nat} {o0 o1 : Option (Dk × RDk)} {K : Bk} (h : ME w0 wr o0 o1 K kb J c) (hL : LkP wr K J w') : ∃ K', ME w0 w' o0 o1 K' kb J (c + 1) := by
  obtain ⟨K', h1, h2, h3, h4, h5, h6, h7⟩ := hL
  have hs := h.be.size
  refine ⟨K', h.p0.fr h6 h.ak0, h.p1.fr h6 h.ak1, h1, by rw [h2, h.kb], fun k e e2 => ?_, fun k e e2 => ?_, fun k e => ?_, h.be.trans (h6.below _ h.new hs), ?_, ?_, ?_⟩
  · rcases h7 k e2 with e3 | e3
    · exact h.ak0 k e e3
    · have := h.p0.lt e; omega
  · rcases h7 k e2 with e3 | e3
    · exact h.ak1 k e e3
    · have := h.p1.lt e; omega
  · rcases h7 k e with e | e
    · exact h.new k e
    · omega
  · have := h.bn; rw [Nat.succ_mul]; omega
  · have := h.im; omega
  · have := h.am; omega
theorem ME.looks {w0 wr : World} {kb J c : Nat} {o0 o1 : Option (Dk × RDk)} {K : Bk} (h : ME w0 wr o0 o1 K kb J c) (hJ : J ≤ 174763) (hc : c ≤ 5) {D : Dk} {R : RDk} (ho : o0 = some (D, R) ∨ o1 = some (D, R)) (kd : Int) :
    Calls Try.prog 10 #[.agg #[.pointer (some ⟨D.d, 0, none⟩), .pointer (some ⟨R.r, 0, none⟩)], .agg #[.int .i64 kd, .bool false, .int .i64 0, .slice none 0 0, .slice none 0 0], .pointer (some ⟨kb, 0, none⟩)] wr fun e w' => e = .returned (.bool true) ∧ ∃ K', ME w0 w' o0 o1 K' kb J (c + 1) := by
  have hP : Pr wr D R J := ho.elim (fun e => h.p0 (D, R) e) (fun e => h.p1 (D, R) e)
  have b1 := h.bn
  have b2 := h.im
  have b3 := h.am
  have m1 : J * (J + 1) ≤ 174763 * 174764 := Nat.mul_le_mul hJ (by omega)
  have m2 : c * (2 * J + 2) ≤ 5 * 349528 := Nat.mul_le_mul hc (by omega)
  have hc := plooks wr D R J hP K h.k (by omega) (by omega) (by omega) (by omega) kd false 0 none 0 0 none 0 0
  rw [h.kb] at hc
  exact hc.mono (fun e w' ⟨e1, e2⟩ => ⟨e1, h.look e2⟩)
theorem ME.asks {w0 wr : World} {kb J c : Nat} {o0 o1 : Option (Dk × RDk)} {K : Bk} (h : ME w0 wr o0 o1 K kb J c) {D : Dk} {R : RDk} (ho : o0 = some (D, R) ∨ o1 = some (D, R)) :
    Calls Try.prog 9 #[.agg #[.pointer (some ⟨D.d, 0, none⟩), .pointer (some ⟨R.r, 0, none⟩)]] wr fun e w' => e = .returned (.bool true) ∧ ME w0 w' o0 o1 K kb J c := by
  have hP : Pr wr D R J := ho.elim (fun e => h.p0 (D, R) e) (fun e => h.p1 (D, R) e)
  exact (pasks wr D R J hP).mono (fun e w' ⟨e1, e2⟩ => ⟨e1, h.on e2⟩)
theorem ME.holds {w0 wr : World} {kb J c : Nat} {o0 o1 : Option (Dk × RDk)} {K : Bk} (h : ME w0 wr o0 o1 K kb J c) : Calls Try.prog 11 #[.pointer (some ⟨kb, 0, none⟩)] wr fun e w' => e = .returned (.bool true) ∧ Below w0.heap.size w0 w' := by
  have hc := holds_any wr K h.k
  rw [h.kb] at hc
  exact hc.mono (fun e w' ⟨e1, e2⟩ => ⟨e1, h.be.trans (e2.below _ h.new h.be.size)⟩)
/-- a call of the script on a pair -/
theorem MS.plays0 {w0 wr : World} {P kb j : Nat} {D : Dk} {R : RDk} {o1 : Option (Dk × RDk)} {K : Bk} (h : MS w0 wr P (some (D, R)) o1 K kb j) (hj : j ≤ 174763) {o : OpR} (ho : OpOk w0 o) :
    Calls Try.prog 8 #[.agg #[.pointer (some ⟨D.d, 0, none⟩), .pointer (some ⟨R.r, 0, none⟩)], .agg #[.int .i64 o.kd, .bool o.tw, .int .i64 o.N, .slice o.ba o.bn o.bc, .slice o.ka o.kn o.kc], .pointer (some ⟨kb, 0, none⟩)] wr fun e w' => e = .returned (.bool true) ∧ ∃ D' R' K', MS w0 w' P (some (D', R')) o1 K' kb (j + 1) := by
  have b1 := h.bn
  have b2 := h.im
  have b3 := h.am
  have m1 : j * (j + 1) ≤ 174763 * 174764 := Nat.mul_le_mul hj (by omega)
  have hc := pplays wr D R j (h.p0 _ rfl) K h.k h.ak0 (by omega) (by omega) (by omega) (by omega) o (ho.on h.be) (fun hl p e e2 => by have := ho.blt hl e; have := h.new _ (.inl e2); omega) (fun hl b off e e2 => by have := ho.klt hl e; have := h.new _ (.inl e2); omega)
  rw [h.kb] at hc
  exact hc.mono (fun e w' ⟨e1, e2⟩ => ⟨e1, h.play0 e2⟩)
theorem MS.plays1 {w0 wr : World} {P kb j : Nat} {D : Dk} {R : RDk} {o0 : Option (Dk × RDk)} {K : Bk} (h : MS w0 wr P o0 (some (D, R)) K kb j) (hj : j ≤ 174763) {o : OpR} (ho : OpOk w0 o) :
    Calls Try.prog 8 #[.agg #[.pointer (some ⟨D.d, 0, none⟩), .pointer (some ⟨R.r, 0, none⟩)], .agg #[.int .i64 o.kd, .bool o.tw, .int .i64 o.N, .slice o.ba o.bn o.bc, .slice o.ka o.kn o.kc], .pointer (some ⟨kb, 0, none⟩)] wr fun e w' => e = .returned (.bool true) ∧ ∃ D' R' K', MS w0 w' P o0 (some (D', R')) K' kb (j + 1) := by
  have b1 := h.bn
  have b2 := h.im
  have b3 := h.am
  have m1 : j * (j + 1) ≤ 174763 * 174764 := Nat.mul_le_mul hj (by omega)
  have hc := pplays wr D R j (h.p1 _ rfl) K h.k h.ak1 (by omega) (by omega) (by omega) (by omega) o (ho.on h.be) (fun hl p e e2 => by have := ho.blt hl e; have := h.new _ (.inr (.inl e2)); omega) (fun hl b off e e2 => by have := ho.klt hl e; have := h.new _ (.inr (.inl e2)); omega)
  rw [h.kb] at hc
  exact hc.mono (fun e w' ⟨e1, e2⟩ => ⟨e1, h.play1 e2⟩)
/-- a new disk of what lasts -/
theorem img_open {w : World} {D : Dk} {R : RDk} {j : Nat} (h : Pr w D R j) : Calls Try.prog 7 #[.pointer (some ⟨R.r, 0, none⟩)] w fun e w1 => ∃ a n c, e = .returned (.slice a n c) ∧ Below w.heap.size w w1 ∧ Calls Try.prog 6 #[.slice a n c] w1 fun e w2 => ∃ o, e = .returned (.tuple #[.agg #[.pointer (dpO (some o)), .pointer (rpO (some o))], .bool true]) ∧ PrO w2 (some o) 0 ∧ (∀ k, prB (some o) k → w1.heap.size ≤ k) ∧ Below w1.heap.size w1 w2 := by
  have hl := h.d.lasl
  have h0 := h.d.nb0
  have h1 := h.d.nb1
  have hx : D.las = R.img := h.tie.img
  have hnb : D.nb = R.nb := h.tie.nb
  refine (rimage_any w R h.r (by have := h.kl.2; omega)).mono ?_
  rintro e w1 ⟨g, cap, rfl, hg, ho, hb1⟩
  rw [← hx] at ho
  refine ⟨_, _, _, rfl, hb1, ?_⟩
  rw [← hnb]
  refine (popened_yes w1 ⟨g, 0, none⟩ cap D.nb D.las ho.bytes hl h0 h1).mono ?_
  rintro e w2 ⟨D', R', rfl, hP, hk, hb2⟩
  exact ⟨(D', R'), rfl, (fun p e => by cases e; exact hP), hk, hb2⟩
/-- .. and a pair that lies there to be asked -/
structure MP (w0 wr : World) (o0 o1 : Option (Dk × RDk)) (K : Bk) (kb J c PO : Nat) (cs : Array Value) : Prop where
  e : ME w0 wr o0 o1 K kb J c
  row : wr.heap[PO]? = some (.cells cs 32 (0, 0))
  n : ¬ K.all PO
theorem MP.looks {w0 wr : World} {kb J c PO : Nat} {cs : Array Value} {o0 o1 : Option (Dk × RDk)} {K : Bk} (h : MP w0 wr o0 o1 K kb J c PO cs) (hJ : J ≤ 174763) (hc : c ≤ 5) {D : Dk} {R : RDk} (ho : o0 = some (D, R) ∨ o1 = some (D, R)) (kd : Int) :
    Calls Try.prog 10 #[.agg #[.pointer (some ⟨D.d, 0, none⟩), .pointer (some ⟨R.r, 0, none⟩)], .agg #[.int .i64 kd, .bool false, .int .i64 0, .slice none 0 0, .slice none 0 0], .pointer (some ⟨kb, 0, none⟩)] wr fun e w' => e = .returned (.bool true) ∧ ∃ K', MP w0 w' o0 o1 K' kb J (c + 1) PO cs := by
  have hP : Pr wr D R J := ho.elim (fun e => h.e.p0 (D, R) e) (fun e => h.e.p1 (D, R) e)
  have b1 := h.e.bn
  have b2 := h.e.im
  have b3 := h.e.am
  have m1 : J * (J + 1) ≤ 174763 * 174764 := Nat.mul_le_mul hJ (by omega)
  have m2 : c * (2 * J + 2) ≤ 5 * 349528 := Nat.mul_le_mul hc (by omega)
  have hc := plooks wr D R J hP K h.e.k (by omega) (by omega) (by omega) (by omega) kd false 0 none 0 0 none 0 0
  rw [h.e.kb] at hc
  refine hc.mono (fun e w' ⟨e1, e2⟩ => ⟨e1, ?_⟩)
  obtain ⟨K', h1, h2, h3, h4, h5, h6, h7⟩ := e2
  have lP : PO < wr.heap.size := heap_lt h.row
  have hs := h.e.be.size
  refine ⟨K', ⟨h.e.p0.fr h6 h.e.ak0, h.e.p1.fr h6 h.e.ak1, h1, by rw [h2, h.e.kb], fun k e e2 => ?_, fun k e e2 => ?_, fun k e => ?_, h.e.be.trans (h6.below _ h.e.new hs), ?_, ?_, ?_⟩, h6.heap h.row h.n, fun e => ?_⟩
  · rcases h7 k e2 with e3 | e3
    · exact h.e.ak0 k e e3
    · have := h.e.p0.lt e; omega
  · rcases h7 k e2 with e3 | e3
    · exact h.e.ak1 k e e3
    · have := h.e.p1.lt e; omega
  · rcases h7 k e with e | e
    · exact h.e.new k e
    · omega
  · rw [Nat.succ_mul]; omega
  · omega
  · omega
  · rcases h7 PO e with e3 | e3
    · exact h.n e3
    · omega
theorem MP.asks {w0 wr : World} {kb J c PO : Nat} {cs : Array Value} {o0 o1 : Option (Dk × RDk)} {K : Bk} (h : MP w0 wr o0 o1 K kb J c PO cs) {D : Dk} {R : RDk} (ho : o0 = some (D, R) ∨ o1 = some (D, R)) :
    Calls Try.prog 9 #[.agg #[.pointer (some ⟨D.d, 0, none⟩), .pointer (some ⟨R.r, 0, none⟩)]] wr fun e w' => e = .returned (.bool true) ∧ MP w0 w' o0 o1 K kb J c PO cs := by
  have hP : Pr wr D R J := ho.elim (fun e => h.e.p0 (D, R) e) (fun e => h.e.p1 (D, R) e)
  exact (pasks wr D R J hP).mono (fun e w' ⟨e1, e2⟩ => ⟨e1, h.e.on e2, (below_fr e2 (fun _ => False)).heap h.row (fun e => e), h.n⟩)
theorem MP.cells {w0 wr : World} {kb J c PO : Nat} {d r : Value} {o0 o1 : Option (Dk × RDk)} {K : Bk} (h : MP w0 wr o0 o1 K kb J c PO #[d, r]) : wr.cell? ⟨PO, 0, none⟩ = some d ∧ wr.cell? ⟨PO, 1, none⟩ = some r := ⟨cell_of_row _ _ 0 _ _ _ h.row, cell_of_row _ _ 1 _ _ _ h.row⟩
theorem idxP0 (w : World) (a b c d : Option Addr) : (Instr.index 33 (.agg #[.pointer a, .pointer b, .pointer c, .pointer d]) (.int .i64 0)).run Try.prog w = .ok (.agg #[.pointer a, .pointer b]) w := by kernel_rfl
theorem idxP1 (w : World) (a b c d : Option Addr) : (Instr.index 33 (.agg #[.pointer a, .pointer b, .pointer c, .pointer d]) (.int .i64 1)).run Try.prog w = .ok (.agg #[.pointer c, .pointer d]) w := by kernel_rfl
end Go.Proofs.Ytipbflmonhlnjaa
