import Derived.Test.YtipbflmonhlnjaaPoI
import Derived.Test.YtipbflmonhlnjaaPoJ
import Derived.Test.YtipbflmonhlnjaaPoK
import Derived.Test.YtipbflmonhlnjaaPoL
import Derived.Test.YtipbflmonhlnjaaPoM
import Derived.Test.YtipbflmonhlnjaaBkN
namespace Go.Proofs.Ytipbflmonhlnjaa
open Go.RowKit Rec

/-- one call of the script -/
structure OpR where
  kd : Int
  tw : Bool
  N : Int
  ba : Option Addr
  bn : Nat
  bc : Nat
  l : List Int
  ka : Option Addr
  kn : Nat
  kc : Nat
  keep : List Bool
def OpR.cells (o : OpR) : List Value := [.int .i64 o.kd, .bool o.tw, .int .i64 o.N, .slice o.ba o.bn o.bc, .slice o.ka o.kn o.kc]
structure OpOk (w : World) (o : OpR) : Prop where
  n : o.N ≤ 9223372036854775807
  b : Bytes w o.ba o.l
  bl : o.l.length = o.bn
  bn : o.bn ≤ 1048576
  b0 : o.ba = none → o.bc = 0
  k : Bools w (.slice o.ka o.kn o.kc) o.keep
  kl : o.keep.length = o.kn
  kn : o.kn ≤ 1048576
  k0 : o.ka = none → o.kc = 0
structure OpsAt (w : World) (a : Option Addr) (L : List OpR) : Prop where
  at_ : L = [] ∨ ∃ b off, a = some ⟨b, off, none⟩ ∧ ∀ i o, L[i]? = some o → ∀ j, j < 5 → w.cell? ⟨b, off + i * 5 + j, none⟩ = (o.cells)[j]?
  ok : ∀ o ∈ L, OpOk w o
theorem OpOk.on {w w' : World} {o : OpR} (h : OpOk w o) (hb : Below w.heap.size w w') : OpOk w' o := ⟨h.n, h.b.on hb, h.bl, h.bn, h.b0, h.k.fr (below_fr hb (fun _ => False)) (fun _ _ _ e => e), h.kl, h.kn, h.k0⟩
theorem OpOk.blt {w : World} {o : OpR} (h : OpOk w o) (hl : o.l ≠ []) {p : Addr} (e : o.ba = some p) : p.block < w.heap.size := by
  rcases h.b.at_ with e2 | ⟨b, off, e2, hc⟩
  · exact absurd e2 hl
  · rw [e2] at e; cases e
    cases hh : o.l with
    | nil => exact absurd hh hl
    | cons x xs => exact block_lt_of_cell (hc 0 (by rw [hh]; simp))
theorem OpOk.klt {w : World} {o : OpR} (h : OpOk w o) (hl : o.keep ≠ []) {b off : Nat} (e : o.ka = some ⟨b, off, none⟩) : b < w.heap.size := h.k.lt hl (by rw [e]; rfl)
theorem pplays (w : World) (D : Dk) (R : RDk) (j : Nat) (h : Pr w D R j) (K : Bk) (hK : BkI w K) (hap : ∀ k, PrA D R k → ¬ K.all k) (hj : j ≤ 10000000) (hn : K.bn + 2 * j + 2 ≤ 1000000000000) (hm : K.im + 2 ≤ 1000000000000) (ha : K.am + 2 ≤ 1000000000000) (o : OpR) (ho : OpOk w o) (h1 : o.l ≠ [] → ∀ p, o.ba = some p → ¬ PrA D R p.block) (h2 : o.keep ≠ [] → ∀ b off, o.ka = some ⟨b, off, none⟩ → ¬ PrA D R b) :
    Calls Try.prog 8 #[.agg #[.pointer (some ⟨D.d, 0, none⟩), .pointer (some ⟨R.r, 0, none⟩)], .agg #[.int .i64 o.kd, .bool o.tw, .int .i64 o.N, .slice o.ba o.bn o.bc, .slice o.ka o.kn o.kc], .pointer (some ⟨K.kb, 0, none⟩)] w fun e w' => e = .returned (.bool true) ∧ PlP w D R K j w' := by
  by_cases e2 : o.kd = 2
  · rw [e2]; exact plays_write w D R j h K hK hap hj hn hm ha o.tw o.N ho.n o.ba o.bn o.bc o.l ho.b ho.bl ho.bn ho.b0 h1 o.ka o.kn o.kc o.keep ho.k ho.kl ho.kn ho.k0 h2
  by_cases e3 : o.kd = 3
  · rw [e3]; exact plays_flush w D R j h K hK hap hj hn hm ha o.tw o.N ho.n o.ba o.bn o.bc o.l ho.b ho.bl ho.bn ho.b0 h1 o.ka o.kn o.kc o.keep ho.k ho.kl ho.kn ho.k0 h2
  by_cases e4 : o.kd = 4
  · rw [e4]; exact plays_arm w D R j h K hK hap hj hn hm ha o.tw o.N ho.n o.ba o.bn o.bc o.l ho.b ho.bl ho.bn ho.b0 h1 o.ka o.kn o.kc o.keep ho.k ho.kl ho.kn ho.k0 h2
  by_cases e5 : o.kd = 5
  · rw [e5]; exact plays_crash w D R j h K hK hap hj hn hm ha o.tw o.N ho.n o.ba o.bn o.bc o.l ho.b ho.bl ho.bn ho.b0 h1 o.ka o.kn o.kc o.keep ho.k ho.kl ho.kn ho.k0 h2
  by_cases e7 : o.kd = 7
  · rw [e7]; exact plays_ask w D R j h K hK hap hj hn hm ha o.tw o.N ho.n o.ba o.bn o.bc o.l ho.b ho.bl ho.bn ho.b0 h1 o.ka o.kn o.kc o.keep ho.k ho.kl ho.kn ho.k0 h2
  exact plays_other w D R j h K hK hap hj hn hm ha o.kd o.tw o.N ho.n o.ba o.bn o.bc o.l ho.b ho.bl ho.bn ho.b0 h1 o.ka o.kn o.kc o.keep ho.k ho.kl ho.kn ho.k0 h2 (beq_eq_false_iff_ne.2 e2) (beq_eq_false_iff_ne.2 e3) (beq_eq_false_iff_ne.2 e4) (beq_eq_false_iff_ne.2 e5) (beq_eq_false_iff_ne.2 e7)
/-- a pair, or none -/
def dpO (o : Option (Dk × RDk)) : Option Addr := o.map (fun p => ⟨p.1.d, 0, none⟩)
def rpO (o : Option (Dk × RDk)) : Option Addr := o.map (fun p => ⟨p.2.r, 0, none⟩)
def prB : Option (Dk × RDk) → Nat → Prop
  | none, _ => False
  | some p, k => PrA p.1 p.2 k
def PrO (w : World) (o : Option (Dk × RDk)) (j : Nat) : Prop := ∀ p, o = some p → Pr w p.1 p.2 j
theorem PrO.fr {S : Nat → Prop} {w w' : World} {o : Option (Dk × RDk)} {j : Nat} (h : PrO w o j) (x : Fr S w w') (hS : ∀ k, prB o k → ¬ S k) : PrO w' o j := fun p e => by
  subst e; exact (h p rfl).fr x hS
theorem PrO.lt {w : World} {o : Option (Dk × RDk)} {j k : Nat} (h : PrO w o j) (hk : prB o k) : k < w.heap.size := by
  cases o with
  | none => exact hk.elim
  | some p => exact (h p rfl).lt hk
theorem PrO.up {w : World} {o : Option (Dk × RDk)} {j j' : Nat} (h : PrO w o j) (hj : j ≤ j') : PrO w o j' := fun p e => (h p e).up hj
/-- New on both sides -/
theorem pnew (w : World) (nb : Nat) (hnb : nb < 40) : ∃ (E : Int) (q : Bool), Calls Try.prog 4 #[.int .i64 nb] w fun e w1 => ∃ dp, e = .returned (.tuple #[.pointer dp, .int .i64 E]) ∧ Below w.heap.size w w1 ∧ dp.isNone = q ∧ Calls Try.prog 5 #[.int .i64 nb] w1 fun e w2 => ∃ rp, e = .returned (.tuple #[.pointer rp, .int .i64 E]) ∧ Below w1.heap.size w1 w2 ∧ rp.isNone = q ∧ ∃ o, dp = dpO o ∧ rp = rpO o ∧ PrO w2 o 0 ∧ ∀ k, prB o k → w.heap.size ≤ k := by
  by_cases h0 : nb = 0
  · subst h0
    refine ⟨32, true, (new_no w _ rfl).mono ?_⟩
    rintro e w1 ⟨rfl, rfl⟩
    refine ⟨none, rfl, Below.refl _ _, rfl, (rnew_no w).mono ?_⟩
    rintro e w2 ⟨rfl, rfl⟩
    exact ⟨none, rfl, Below.refl _ _, rfl, none, rfl, rfl, (fun p e => by cases e), fun k e => e.elim⟩
  · refine ⟨0, false, (new_yes w nb (by omega) (by omega)).mono ?_⟩
    rintro e w1 ⟨d, nw, L, capL, rfl, hd, hnw, hL, hD, hb⟩
    refine ⟨_, rfl, hb, rfl, (rnew_yes w1 nb (by omega) (by omega)).mono ?_⟩
    rintro e w2 ⟨r, g, cap, rfl, hr, hg, hR, hb2⟩
    have l1 : d < w1.heap.size := hD.ltAll (.inl (.inl rfl))
    have l2 : L < w1.heap.size := hD.ltAll (.inl (.inr (.inl rfl)))
    have l3 : nw < w1.heap.size := hD.ltAll (.inl (.inr (.inr (.inl rfl))))
    have hs := hb.size
    refine ⟨_, rfl, hb2, rfl, some (newDk d L nw capL nb (zsA (512 * nb)), newR r nb g cap (zsA (512 * nb))), rfl, rfl, fun p e => ?_, fun k e => ?_⟩
    · cases e; exact new_pr (hD.on hb2) hR ⟨l1, l2, l3⟩ ⟨hr, hg⟩
    · rcases e with e | e
      · rcases newDk_all e with e | e | e <;> omega
      · rcases newR_all e with e | e <;> omega
/-- a disk of an image on both sides, or none -/
theorem popened (w : World) (a : Option Addr) (n c : Nat) (l : List Int) (hb : Bytes w a l) (hl : l.length = n) (hn : a = none → c = 0) (h47 : n ≤ 140737488351232) :
    Calls Try.prog 6 #[.slice a n c] w fun e w' => ∃ o, e = .returned (.tuple #[.agg #[.pointer (dpO o), .pointer (rpO o)], .bool true]) ∧ PrO w' o 0 ∧ (∀ k, prB o k → w.heap.size ≤ k) ∧ Below w.heap.size w w' := by
  by_cases h : n % 512 ≠ 0 ∨ isz ((n / 512 : Nat) : Int) = false
  · refine (popened_no w a n c l hb hl hn h47 h).mono ?_
    rintro e w' ⟨rfl, hb⟩
    exact ⟨none, rfl, (fun p e => by cases e), (fun k e => e.elim), hb⟩
  · have h1 : n % 512 = 0 := Classical.byContradiction fun e => h (.inl e)
    have h2 : isz ((n / 512 : Nat) : Int) = true := by
      cases e : isz ((n / 512 : Nat) : Int) with
      | true => rfl
      | false => exact absurd (.inr e) h
    have h3 : 1 ≤ n / 512 ∧ n / 512 ≤ 16384 := by
      unfold isz at h2; simp at h2; omega
    obtain ⟨nb, hnb⟩ : ∃ nb, n / 512 = nb := ⟨_, rfl⟩
    rw [hnb] at h3
    have e : n = 512 * nb := by omega
    subst e
    cases a with
    | none => have := hb.nil; rw [this] at hl; simp at hl; omega
    | some p =>
      refine (popened_yes w p c nb l hb hl h3.1 h3.2).mono ?_
      rintro e w' ⟨D, R, rfl, hP, hk, hb2⟩
      exact ⟨some (D, R), rfl, (fun p e => by cases e; exact hP), hk, hb2⟩
theorem eqlD (p : Option Addr) (q : Bool) (h : p.isNone = q) (w : World) : (binOp .eql 24 (.pointer p) (.pointer none)).run Try.prog w = .ok (.bool q) w := by
  subst h
  have h : ∀ d : Nat, (Op.equalIn (d + 1) 24 (.pointer p) (.pointer none)).run Try.prog w = .ok p.isNone w := fun d => by
    cases p <;> simp [Op.equalIn, run_underlying Try.underlying24]
  simp only [binOp]
  simp [Op.equal, Op.maxDepth, h 9999]
theorem eqlR (p : Option Addr) (q : Bool) (h : p.isNone = q) (w : World) : (binOp .eql 28 (.pointer p) (.pointer none)).run Try.prog w = .ok (.bool q) w := by
  subst h
  have h : ∀ d : Nat, (Op.equalIn (d + 1) 28 (.pointer p) (.pointer none)).run Try.prog w = .ok p.isNone w := fun d => by
    cases p <;> simp [Op.equalIn, run_underlying Try.underlying28]
  simp only [binOp]
  simp [Op.equal, Op.maxDepth, h 9999]
def cl2 (o0 o1 : Option (Dk × RDk)) : Array Value := #[.pointer (dpO o0), .pointer (rpO o0), .pointer (dpO o1), .pointer (rpO o1)]
/-- all that is under way: two pairs in an array, the book -/
structure MS (w0 wr : World) (P : Nat) (o0 o1 : Option (Dk × RDk)) (K : Bk) (kb j : Nat) : Prop where
  arr : wr.heap[P]? = some (.cells (cl2 o0 o1) 33 (0, 0))
  p0 : PrO wr o0 j
  p1 : PrO wr o1 j
  k : BkI wr K
  kb : K.kb = kb
  a01 : ∀ k, prB o0 k → ¬ prB o1 k
  ak0 : ∀ k, prB o0 k → ¬ K.all k
  ak1 : ∀ k, prB o1 k → ¬ K.all k
  nP : ¬ prB o0 P ∧ ¬ prB o1 P ∧ ¬ K.all P
  new : ∀ k, prB o0 k ∨ prB o1 k ∨ K.all k ∨ k = P → w0.heap.size ≤ k
  be : Below w0.heap.size w0 wr
  bn : K.bn ≤ j * (j + 1)
  im : K.im ≤ 2 * j
  am : K.am ≤ 2 * j
theorem MS.on {w0 wr w' : World} {P kb j : Nat} {o0 o1 : Option (Dk × RDk)} {K : Bk} (h : MS w0 wr P o0 o1 K kb j) (hb : Below wr.heap.size wr w') : MS w0 w' P o0 o1 K kb j :=
  ⟨(below_fr hb (fun _ => False)).heap h.arr (fun e => e), h.p0.fr (below_fr hb (fun _ => False)) (fun _ _ e => e), h.p1.fr (below_fr hb (fun _ => False)) (fun _ _ e => e), h.k.on hb, h.kb, h.a01, h.ak0, h.ak1, h.nP, h.new, h.be.trans (hb.mono h.be.size), h.bn, h.im, h.am⟩
theorem jj (j : Nat) : (j + 1) * (j + 1 + 1) = j * (j + 1) + 2 * j + 2 := by rw [Nat.mul_succ, Nat.succ_mul]; omega
theorem MS.up {w0 wr : World} {P kb j : Nat} {o0 o1 : Option (Dk × RDk)} {K : Bk} (h : MS w0 wr P o0 o1 K kb j) : MS w0 wr P o0 o1 K kb (j + 1) :=
  ⟨h.arr, h.p0.up (by omega), h.p1.up (by omega), h.k, h.kb, h.a01, h.ak0, h.ak1, h.nP, h.new, h.be, by have := h.bn; have := jj j; omega, by have := h.im; omega, by have := h.am; omega⟩
/-- both pairs change places -/
theorem MS.play0 {w0 wr w' : World} {P kb j : Nat} {D : Dk} {R : RDk} {o1 : Option (Dk × RDk)} {K : Bk} (h : MS w0 wr P (some (D, R)) o1 K kb j) (hP : PlP wr D R K j w') : ∃ D' R' K', MS w0 w' P (some (D', R')) o1 K' kb (j + 1) := by
  obtain ⟨D', R', K', h1, h2, h3, h4, h5, h6, h7, h8, h9, h10, h11, h12⟩ := hP
  have l0 : ∀ k, PrA D R k → k < wr.heap.size := fun k e => (h.p0 _ rfl).lt e
  have l1 : ∀ k, prB o1 k → k < wr.heap.size := fun k e => h.p1.lt e
  have lk : ∀ k, K.all k → k < wr.heap.size := fun k e => h.k.lt e
  have lP : P < wr.heap.size := heap_lt h.arr
  have hs := h.be.size
  refine ⟨D', R', K', ⟨?_, fun p e => (by cases e; exact h3), (h.p1.fr h10 (fun k e e2 => ?_)).up (by omega), h4, by rw [h5, h.kb], fun k e e2 => ?_, h9, fun k e e2 => ?_, ⟨fun e => ?_, h.nP.2.1, fun e => ?_⟩, fun k e => ?_, ?_, ?_, ?_, ?_⟩⟩
  · have := h10.heap h.arr (fun e => e.elim h.nP.1 h.nP.2.2)
    rw [this]; unfold cl2 dpO rpO; simp [h1, h2]
  · exact e2.elim (fun e2 => h.a01 k e2 e) (fun e2 => h.ak1 k e e2)
  · rcases h11 k e with e3 | e3
    · exact h.a01 k e3 e2
    · have := l1 k e2; omega
  · rcases h12 k e2 with e3 | e3
    · exact h.ak1 k e e3
    · have := l1 k e; omega
  · rcases h11 P e with e3 | e3
    · exact h.nP.1 e3
    · omega
  · rcases h12 P e with e3 | e3
    · exact h.nP.2.2 e3
    · omega
  · rcases e with e | e | e | e
    · rcases h11 k e with e | e
      · exact h.new k (.inl e)
      · omega
    · exact h.new k (.inr (.inl e))
    · rcases h12 k e with e | e
      · exact h.new k (.inr (.inr (.inl e)))
      · omega
    · exact h.new k (.inr (.inr (.inr e)))
  · exact h.be.trans (h10.below _ (fun k e => e.elim (fun e => h.new k (.inl e)) (fun e => h.new k (.inr (.inr (.inl e))))) hs)
  · have := h.bn; have := jj j; omega
  · have := h.im; omega
  · have := h.am; omega
theorem MS.play1 {w0 wr w' : World} {P kb j : Nat} {D : Dk} {R : RDk} {o0 : Option (Dk × RDk)} {K : Bk} (h : MS w0 wr P o0 (some (D, R)) K kb j) (hP : PlP wr D R K j w') : ∃ D' R' K', MS w0 w' P o0 (some (D', R')) K' kb (j + 1) := by
  obtain ⟨D', R', K', h1, h2, h3, h4, h5, h6, h7, h8, h9, h10, h11, h12⟩ := hP
  have l0 : ∀ k, PrA D R k → k < wr.heap.size := fun k e => (h.p1 _ rfl).lt e
  have l1 : ∀ k, prB o0 k → k < wr.heap.size := fun k e => h.p0.lt e
  have lk : ∀ k, K.all k → k < wr.heap.size := fun k e => h.k.lt e
  have lP : P < wr.heap.size := heap_lt h.arr
  have hs := h.be.size
  refine ⟨D', R', K', ⟨?_, (h.p0.fr h10 (fun k e e2 => ?_)).up (by omega), fun p e => (by cases e; exact h3), h4, by rw [h5, h.kb], fun k e e2 => ?_, fun k e e2 => ?_, h9, ⟨h.nP.1, fun e => ?_, fun e => ?_⟩, fun k e => ?_, ?_, ?_, ?_, ?_⟩⟩
  · have := h10.heap h.arr (fun e => e.elim h.nP.2.1 h.nP.2.2)
    rw [this]; unfold cl2 dpO rpO; simp [h1, h2]
  · exact e2.elim (fun e2 => h.a01 k e e2) (fun e2 => h.ak0 k e e2)
  · rcases h11 k e2 with e3 | e3
    · exact h.a01 k e e3
    · have := l1 k e; omega
  · rcases h12 k e2 with e3 | e3
    · exact h.ak0 k e e3
    · have := l1 k e; omega
  · rcases h11 P e with e3 | e3
    · exact h.nP.2.1 e3
    · omega
  · rcases h12 P e with e3 | e3
    · exact h.nP.2.2 e3
    · omega
  · rcases e with e | e | e | e
    · exact h.new k (.inl e)
    · rcases h11 k e with e | e
      · exact h.new k (.inr (.inl e))
      · omega
    · rcases h12 k e with e | e
      · exact h.new k (.inr (.inr (.inl e)))
      · omega
    · exact h.new k (.inr (.inr (.inr e)))
  · exact h.be.trans (h10.below _ (fun k e => e.elim (fun e => h.new k (.inr (.inl e))) (fun e => h.new k (.inr (.inr (.inl e))))) hs)
  · have := h.bn; have := jj j; omega
  · have := h.im; omega
  · have := h.am; omega
/-- a new disk in the first's place -/
theorem MS.put0 {w0 wr w' : World} {P kb j : Nat} {o0 o1 o : Option (Dk × RDk)} {K : Bk} (h : MS w0 wr P o0 o1 K kb j) (hb : Below wr.heap.size wr w') (ho : PrO w' o 0) (hn : ∀ k, prB o k → wr.heap.size ≤ k) : MS w0 ((w'.setCell ⟨P, 0, none⟩ (.pointer (dpO o))).setCell ⟨P, 1, none⟩ (.pointer (rpO o))) P o o1 K kb (j + 1) := by
  have h' := h.on hb
  have f : Fr (fun k => k = P) w' ((w'.setCell ⟨P, 0, none⟩ (.pointer (dpO o))).setCell ⟨P, 1, none⟩ (.pointer (rpO o))) := (Fr.set).trans Fr.set (fun _ e => .inl e)
  have l1 : ∀ k, prB o1 k → k < wr.heap.size := fun k e => h.p1.lt e
  have lk : ∀ k, K.all k → k < wr.heap.size := fun k e => h.k.lt e
  have lP : P < wr.heap.size := heap_lt h.arr
  have hs := h.be.size
  refine ⟨?_, (ho.fr f (fun k e e2 => by have := hn k e; omega)).up (by omega), (h'.p1.fr f (fun k e e2 => by subst e2; exact h.nP.2.1 e)).up (by omega), h'.k.fr f (fun k e e2 => by subst e2; exact h.nP.2.2 e), h.kb, fun k e e2 => by have := hn k e; have := l1 k e2; omega, fun k e e2 => by have := hn k e; have := lk k e2; omega, h.ak1, ⟨fun e => by have := hn P e; omega, h.nP.2⟩, fun k e => ?_, ?_, ?_, ?_, ?_⟩
  · have r0 := heap_setCell_same _ _ 0 _ _ (.pointer (dpO o)) h'.arr
    have r1 := heap_setCell_same _ _ 1 _ _ (.pointer (rpO o)) r0
    exact r1
  · rcases e with e | e
    · have := hn k e; omega
    · exact h.new k (.inr e)
  · exact h'.be.trans (f.below _ (fun k e => h.new k (.inr (.inr (.inr e)))) h'.be.size)
  · have := h.bn; have := jj j; omega
  · have := h.im; omega
  · have := h.am; omega
theorem MS.put1 {w0 wr w' : World} {P kb j : Nat} {o0 o1 o : Option (Dk × RDk)} {K : Bk} (h : MS w0 wr P o0 o1 K kb j) (hb : Below wr.heap.size wr w') (ho : PrO w' o 0) (hn : ∀ k, prB o k → wr.heap.size ≤ k) : MS w0 ((w'.setCell ⟨P, 2, none⟩ (.pointer (dpO o))).setCell ⟨P, 3, none⟩ (.pointer (rpO o))) P o0 o K kb (j + 1) := by
  have h' := h.on hb
  have f : Fr (fun k => k = P) w' ((w'.setCell ⟨P, 2, none⟩ (.pointer (dpO o))).setCell ⟨P, 3, none⟩ (.pointer (rpO o))) := (Fr.set).trans Fr.set (fun _ e => .inl e)
  have l0 : ∀ k, prB o0 k → k < wr.heap.size := fun k e => h.p0.lt e
  have lk : ∀ k, K.all k → k < wr.heap.size := fun k e => h.k.lt e
  have lP : P < wr.heap.size := heap_lt h.arr
  have hs := h.be.size
  refine ⟨?_, (h'.p0.fr f (fun k e e2 => by subst e2; exact h.nP.1 e)).up (by omega), (ho.fr f (fun k e e2 => by have := hn k e; omega)).up (by omega), h'.k.fr f (fun k e e2 => by subst e2; exact h.nP.2.2 e), h.kb, fun k e e2 => by have := hn k e2; have := l0 k e; omega, h.ak0, fun k e e2 => by have := hn k e; have := lk k e2; omega, ⟨h.nP.1, fun e => by have := hn P e; omega, h.nP.2.2⟩, fun k e => ?_, ?_, ?_, ?_, ?_⟩
  · have r0 := heap_setCell_same _ _ 2 _ _ (.pointer (dpO o)) h'.arr
    have r1 := heap_setCell_same _ _ 3 _ _ (.pointer (rpO o)) r0
    exact r1
  · rcases e with e | e | e
    · exact h.new k (.inl e)
    · have := hn k e; omega
    · exact h.new k (.inr (.inr e))
  · exact h'.be.trans (f.below _ (fun k e => h.new k (.inr (.inr (.inr e)))) h'.be.size)
  · have := h.bn; have := jj j; omega
  · have := h.im; omega
  · have := h.am; omega
end Go.Proofs.Ytipbflmonhlnjaa
