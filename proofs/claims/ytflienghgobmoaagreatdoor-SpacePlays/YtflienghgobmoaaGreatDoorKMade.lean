import Derived.Test.YtflienghgobmoaaGreatDoorKHead2
import Derived.BigRegion
import Derived.OwnWalk
import Derived.Deep.OwnRows
import Derived.WalkSpells
import Derived.Lib.BufferMore
namespace Go.Proofs.YtflienghgobmoaaGreatDoor
open Go.RowKit Rec

/-- what stands behind j rounds -/
structure MadeAt (w0 wr : World) (st sd : List Int) (j : Nat) (s5 s6 : Value) : Prop where
  nums : wr.ownsRow 0 3 1 s5 j ((nsP st j).map (Value.int .i64))
  rows : ∃ vs, wr.ownsRow 0 22 1 s6 j vs ∧ SlAt wr vs (dsP sd j) ∧ ∀ u ∈ vs, ∀ k, u.ownBlock = some k → w0.heap.size ≤ k ∧ ∃ cap l, OwnB wr k cap l
  far5 : ∀ k, s5.ownBlock = some k → w0.heap.size ≤ k
  far6 : ∀ k, s6.ownBlock = some k → w0.heap.size ≤ k
  bel : Below w0.heap.size w0 wr
theorem SlAt.fr {S : Nat → Prop} {w w' : World} {vs : List Value} {ds : List (List Int)} (h : SlAt w vs ds) (x : Fr S w w') (hS : ∀ u ∈ vs, ∀ k, u.ownBlock = some k → ¬ S k) : SlAt w' vs ds := by
  refine ⟨h.len, fun i hi => ?_⟩
  obtain ⟨b, off, c, h1, h2⟩ := h.at_ i hi
  refine ⟨b, off, c, h1, h2.len, h2.wf, ?_⟩
  rcases h2.at_ with e | ⟨b', off', e, hc⟩
  · exact .inl e
  · cases e
    refine .inr ⟨b, off, rfl, fun m hm => x.cell (hc m hm) (hS _ (List.mem_of_getElem? h1) b rfl)⟩
theorem MadeAt.start {w0 : World} {st sd : List Int} : MadeAt w0 w0 st sd 0 (.slice none 0 0) (.slice none 0 0) :=
  ⟨⟨rfl, .inl ⟨rfl, rfl⟩⟩, ⟨[], ⟨rfl, .inl ⟨rfl, rfl⟩⟩, ⟨rfl, fun i hi => absurd hi (by simp [dsP])⟩, fun u hu => by simp at hu⟩, (fun k h => by cases h), (fun k h => by cases h), Below.refl _ _⟩
/-- one number more, then a block of one's own, then it too -/
structure MidAt (w0 wr : World) (st sd : List Int) (j : Nat) (s5 s6 : Value) : Prop where
  nums : wr.ownsRow 0 3 1 s5 (j + 1) ((nsP st (j + 1)).map (Value.int .i64))
  rows : ∃ vs, wr.ownsRow 0 22 1 s6 j vs ∧ SlAt wr vs (dsP sd j) ∧ ∀ u ∈ vs, ∀ k, u.ownBlock = some k → w0.heap.size ≤ k ∧ ∃ cap l, OwnB wr k cap l
  far5 : ∀ k, s5.ownBlock = some k → w0.heap.size ≤ k
  far6 : ∀ k, s6.ownBlock = some k → w0.heap.size ≤ k
  bel : Below w0.heap.size w0 wr
theorem owns_on {w w' : World} {e size n : Nat} {v : Value} {xs : List Value} (h : w.ownsRow 0 e size v n xs) (hb : Below w.heap.size w w') : w'.ownsRow 0 e size v n xs := owns_fr h (below_fr hb (fun _ => False)) (fun _ _ e => e)
theorem MidAt.on {w0 wr w' : World} {st sd : List Int} {j : Nat} {s5 s6 : Value} (h : MidAt w0 wr st sd j s5 s6) (hb : Below wr.heap.size wr w') : MidAt w0 w' st sd j s5 s6 := by
  obtain ⟨vs, h1, h2, h3⟩ := h.rows
  exact ⟨owns_on h.nums hb, ⟨vs, owns_on h1 hb, h2.on hb, fun u hu k hk => by obtain ⟨a, c, l, b⟩ := h3 u hu k hk; exact ⟨a, c, l, b.on hb⟩⟩, h.far5, h.far6, h.bel.trans (hb.mono h.bel.size)⟩
theorem MadeAt.on {w0 wr w' : World} {st sd : List Int} {j : Nat} {s5 s6 : Value} (h : MadeAt w0 wr st sd j s5 s6) (hb : Below wr.heap.size wr w') : MadeAt w0 w' st sd j s5 s6 := by
  obtain ⟨vs, h1, h2, h3⟩ := h.rows
  exact ⟨owns_on h.nums hb, ⟨vs, owns_on h1 hb, h2.on hb, fun u hu k hk => by obtain ⟨a, c, l, b⟩ := h3 u hu k hk; exact ⟨a, c, l, b.on hb⟩⟩, h.far5, h.far6, h.bel.trans (hb.mono h.bel.size)⟩
theorem MadeAt.mid {w0 wr w' : World} {st sd : List Int} {j g cap : Nat} {s5 s6 : Value} (h : MadeAt w0 wr st sd j s5 s6) (ho : w'.ownsRow 0 3 1 (.slice (some ⟨g, 0, none⟩) (j + 1) cap) (j + 1) ((nsP st (j + 1)).map (Value.int .i64))) (hf : Fr (fun k => s5.ownBlock = some k) wr w') (hg : s5.ownBlock = some g ∨ wr.heap.size ≤ g) :
    MidAt w0 w' st sd j (.slice (some ⟨g, 0, none⟩) (j + 1) cap) s6 := by
  obtain ⟨vs, h1, h2, h3⟩ := h.rows
  refine ⟨ho, ⟨vs, owns_fr h1 hf (fun k hk => own_apart h1 h.nums (by decide) k hk), h2.fr hf (fun u hu k hk => ?_), fun u hu k hk => ?_⟩, fun k hk => ?_, h.far6, h.bel.trans (hf.below _ h.far5 h.bel.size)⟩
  · obtain ⟨_, cap, l, b⟩ := h3 u hu k hk
    exact own_apartB h.nums b (by decide)
  · obtain ⟨a, cap, l, b⟩ := h3 u hu k hk
    exact ⟨a, cap, l, b.fr hf (own_apartB h.nums b (by decide))⟩
  · cases hk
    rcases hg with e | e
    · exact h.far5 _ e
    · exact Nat.le_trans h.bel.size e
theorem MidAt.next {w0 wr w' : World} {st sd : List Int} {j g cap gb c : Nat} {s5 s6 : Value} {vs : List Value} (h : MidAt w0 wr st sd j s5 s6) (hr : wr.ownsRow 0 22 1 s6 j vs) (hs : SlAt wr vs (dsP sd j)) (hv : ∀ u ∈ vs, ∀ k, u.ownBlock = some k → w0.heap.size ≤ k ∧ ∃ cap l, OwnB wr k cap l)
    (hb : OwnB wr gb c (blkP sd j)) (hbg : w0.heap.size ≤ gb)
    (ho : w'.ownsRow 0 22 1 (.slice (some ⟨g, 0, none⟩) (j + 1) cap) (j + 1) (vs ++ [.slice (some ⟨gb, 0, none⟩) 512 c])) (hf : Fr (fun k => s6.ownBlock = some k) wr w') (hg : s6.ownBlock = some g ∨ wr.heap.size ≤ g) :
    MadeAt w0 w' st sd (j + 1) s5 (.slice (some ⟨g, 0, none⟩) (j + 1) cap) := by
  have hb' : OwnB w' gb c (blkP sd j) := hb.fr hf (own_apartB hr hb (by decide))
  have hv' : ∀ u ∈ vs ++ [.slice (some ⟨gb, 0, none⟩) 512 c], ∀ k, u.ownBlock = some k → w0.heap.size ≤ k ∧ ∃ cap l, OwnB w' k cap l := by
    intro u hu k hk
    rcases List.mem_append.1 hu with e | e
    · obtain ⟨a, cap, l, b⟩ := hv u e k hk
      exact ⟨a, cap, l, b.fr hf (own_apartB hr b (by decide))⟩
    · simp at e; subst e; cases hk; exact ⟨hbg, _, _, hb'⟩
  refine ⟨owns_fr h.nums hf (fun k hk => own_apart h.nums hr (by decide) k hk), ⟨_, ho, ?_, hv'⟩, h.far5, fun k hk => ?_, h.bel.trans (hf.below _ h.far6 h.bel.size)⟩
  · rw [dsP_succ]
    refine SlAt.append (hs.fr hf (fun u hu k hk => ?_)) (SlAt.single hb'.bytes (blkP_length sd j))
    obtain ⟨_, cap, l, b⟩ := hv u hu k hk
    exact own_apartB hr b (by decide)
  · cases hk
    rcases hg with e | e
    · exact h.far6 _ e
    · exact Nat.le_trans h.bel.size e
theorem own_form {w : World} {B e size n : Nat} {v : Value} {xs : List Value} (h : w.ownsRow B e size v n xs) : ∃ a c, v = .slice a n c := by
  rcases h.2 with ⟨rfl, rfl⟩ | ⟨g, cap, cur, rfl, _⟩
  · exact ⟨_, _, rfl⟩
  · exact ⟨_, _, rfl⟩
theorem own_some {w : World} {B e size n : Nat} {v : Value} {xs : List Value} (h : w.ownsRow B e size v n xs) (hn : 0 < n) : ∃ g c, v = .slice (some ⟨g, 0, none⟩) n c := by
  rcases h.2 with ⟨rfl, rfl⟩ | ⟨g, cap, cur, rfl, _⟩
  · omega
  · exact ⟨_, _, rfl⟩
end Go.Proofs.YtflienghgobmoaaGreatDoor

namespace Go.Proofs.YtflienghgobmoaaGreatDoor
open Go.RowKit Rec

end Go.Proofs.YtflienghgobmoaaGreatDoor

namespace Go.Proofs.YtflienghgobmoaaGreatDoor
open Go.RowKit Rec

/-- the numbers rise -/
theorem rises (ns : List Int) (n : Int) (hm : may ns n = true) : ∀ d i, i + d < ns.length → nth ns i ≤ nth ns (i + d)
  | 0, _, _ => Int.le_refl _
  | d + 1, i, h => by
    have a := rises ns n hm d i (by omega)
    have b := (of_decide_eq_true hm) (i + d + 1) h
    simp only [pre] at b
    rw [if_neg (by omega), Nat.add_sub_cancel] at b
    show nth ns i ≤ nth ns (i + d + 1)
    omega
end Go.Proofs.YtflienghgobmoaaGreatDoor

namespace Go.Proofs.YtflienghgobmoaaGreatDoor
open Go.RowKit Rec

theorem may_mono (ns : List Int) (n m : Int) (h : may ns n = true) (hl : ∀ i, i < ns.length → nth ns i < m) : may ns m = true := may_true (fun i hi => ⟨((of_decide_eq_true h) i hi).1, hl i hi⟩)
theorem may_last (ns : List Int) (n m : Int) (h : may ns n = true) (h1 : 1 ≤ ns.length) : may ns m = decide (nth ns (ns.length - 1) < m) := by
  by_cases hm : nth ns (ns.length - 1) < m
  · rw [decide_eq_true hm]
    refine may_mono ns n m h (fun i hi => ?_)
    have := rises ns n h (ns.length - 1 - i) i (by omega)
    rw [show i + (ns.length - 1 - i) = ns.length - 1 by omega] at this
    omega
  · rw [decide_eq_false hm]
    exact may_false (ns.length - 1) (by omega) (fun e => hm e.2)
theorem made_length (ns : List Int) (ds : List (List Int)) : (made ns ds).length = 512 := hd_length _ _
/-- all but the first -/
theorem Data.tail {w : World} {b off : Nat} {ds : List (List Int)} (h : Data w (Option.some ⟨b, off, none⟩) ds) : Data w (Option.some ⟨b, off + 1, none⟩) (ds.drop 1) := by
  refine ⟨by have := h.len; rw [List.length_drop]; omega, .inr ⟨b, off + 1, rfl, fun i hi => ?_⟩⟩
  rw [List.length_drop] at hi
  have e : row (ds.drop 1) i = row ds (i + 1) := by simp [row, List.getD]
  rw [e]
  have := h.cell (i := i + 1) (by omega)
  rw [show off + 1 + i = off + (i + 1) by omega]
  exact this
/-- one slice more -/
theorem news1 (w : World) (v : Value) : ∀ j u, [v][j]? = some u → (w.alloc (.cells #[v] 22)).cell? ((⟨w.heap.size, 0, none⟩ : Addr).add j) = some u := fun m u hm => by
  have : m = 0 := by
    by_cases h : m = 0
    · exact h
    · rw [List.getElem?_eq_none (by simp; omega)] at hm; cases hm
  subst this
  cases hm
  rw [Addr.add_lit, cell_of_row _ _ _ _ _ _ (heap_alloc_new _ _)]; rfl
end Go.Proofs.YtflienghgobmoaaGreatDoor

namespace Go.Proofs.YtflienghgobmoaaGreatDoor
open Go.RowKit Rec

/-- numbers and blocks that may be -/
structure Fit (ns : List Int) (ds : List (List Int)) (K : Nat) : Prop where
  nl : ns.length = K
  dl : ds.length = K
  k1 : 1 ≤ K
  k96 : K ≤ 96
  may : may ns 16384 = true
  rows : ∀ i, i < K → (row ds i).length = 512
theorem Fit.blk {ns : List Int} {ds : List (List Int)} {K : Nat} (h : Fit ns ds K) : Go.Proofs.YtflienghgobmoaaGreatDoor.blk ds K = true := by
  unfold Go.Proofs.YtflienghgobmoaaGreatDoor.blk
  rw [decide_eq_true h.dl, decide_eq_true ((mem_row _).2 (fun i hi => h.rows i (by rw [← h.dl]; exact hi)))]; rfl
theorem Fit.numsE {ns : List Int} {ds : List (List Int)} {K : Nat} (h : Fit ns ds K) (n : Int) : Go.Proofs.YtflienghgobmoaaGreatDoor.numsE (made ns ds) n = if nth ns (K - 1) < n then 0 else 41 := by
  unfold made
  rw [numsE_hd ns _ n (by rw [h.nl]; exact h.k1) (by rw [h.nl]; exact h.k96) (fun i hi => by have := pre_bd ns _ h.may i hi; omega), may_last ns 16384 n h.may (by rw [h.nl]; exact h.k1), h.nl]
  by_cases e : nth ns (K - 1) < n
  · rw [decide_eq_true e, if_pos rfl, if_pos e]
  · rw [decide_eq_false e, if_neg e]; rfl
theorem Fit.numsL {ns : List Int} {ds : List (List Int)} {K : Nat} (h : Fit ns ds K) (n : Int) : Go.Proofs.YtflienghgobmoaaGreatDoor.numsL (made ns ds) n = if nth ns (K - 1) < n then ns else [] := by
  unfold made
  rw [numsL_hd ns _ n (by rw [h.nl]; exact h.k1) (by rw [h.nl]; exact h.k96) (fun i hi => by have := pre_bd ns _ h.may i hi; omega), may_last ns 16384 n h.may (by rw [h.nl]; exact h.k1), h.nl]
  by_cases e : nth ns (K - 1) < n
  · rw [decide_eq_true e, if_pos rfl, if_pos e]
  · rw [decide_eq_false e, if_neg e]; rfl
/-- Make of what may be -/
theorem Fit.make {ns : List Int} {ds : List (List Int)} {K : Nat} (h : Fit ns ds K) (w : World) (g cap dg doff dc : Nat) (hI : OwnI w g cap ns) (hD : Data w (some ⟨dg, doff, none⟩) ds) (hT : TabAt w) :
    Calls Tryz.prog 151 #[.slice (some ⟨g, 0, none⟩) K cap, .slice (some ⟨dg, doff, none⟩) K dc] w fun e w' => ∃ g, e = .returned (.tuple #[.slice (some ⟨g, 0, none⟩) 512 512, .int .i64 0]) ∧ OwnB w' g 512 (made ns ds) ∧ w.heap.size ≤ g ∧ Below w.heap.size w w' :=
  make_ok w g 0 K cap dg doff dc ns ds h.nl hI.ints hD hT h.k1 h.k96 h.may h.blk
end Go.Proofs.YtflienghgobmoaaGreatDoor

namespace Rec
/-- a block laid over -/
def wr (l : List Int) (b : Nat) (x : List Int) : List Int := ov l (512 * b) 512 (nth x)
theorem wr_length (l : List Int) (b : Nat) (x : List Int) : (wr l b x).length = l.length := ov_length _ _ _ _
theorem nth_wr (l : List Int) (b : Nat) (x : List Int) (i : Nat) (hi : i < l.length) : nth (wr l b x) i = if i / 512 = b then nth x (i % 512) else nth l i := by
  rw [wr, nth_ov _ _ _ _ _ hi]
  by_cases h : i / 512 = b
  · rw [if_pos (by omega), if_pos h]; congr 1; omega
  · rw [if_neg (by omega), if_neg h]
/-- those that are kept are laid over, in their order -/
def lay (kp : Nat → Bool) (f : Nat → Nat) (x : Nat → List Int) (l : List Int) : Nat → List Int
  | 0 => l
  | k + 1 => if kp k then wr (lay kp f x l k) (f k) (x k) else lay kp f x l k
theorem lay_length (kp : Nat → Bool) (f : Nat → Nat) (x : Nat → List Int) (l : List Int) (k : Nat) : (lay kp f x l k).length = l.length := by
  induction k with
  | zero => rfl
  | succ k ih => rw [lay]; split; rw [wr_length, ih]; exact ih
/-- numbers made zero -/
def nz (f : Nat → Nat) (l : List Int) : Nat → List Int
  | 0 => l
  | k + 1 => (nz f l k).set (f k) 0
theorem nz_length (f : Nat → Nat) (l : List Int) (k : Nat) : (nz f l k).length = l.length := by
  induction k with
  | zero => rfl
  | succ k ih => rw [nz, List.length_set, ih]
/-- how many there are up to the last of them that is b; 0 if none is -/
def lst (f : Nat → Nat) (b : Nat) : Nat → Nat
  | 0 => 0
  | k + 1 => if f k = b then k + 1 else lst f b k
theorem lst_le (f : Nat → Nat) (b k : Nat) : lst f b k ≤ k := by
  induction k with
  | zero => exact Nat.le_refl _
  | succ k ih => rw [lst]; split <;> omega
theorem lst_congr {f f' : Nat → Nat} (b n : Nat) (h : ∀ k, k < n → f k = f' k) : lst f b n = lst f' b n := by
  induction n with
  | zero => rfl
  | succ n ih => rw [lst, lst, ih (fun k hk => h k (by omega)), h n (by omega)]
/-- the list of these -/
def newest (f : Nat → Nat) (N n : Nat) : List Int := (List.range N).map fun b => (lst f b n : Int)
theorem newest_length (f : Nat → Nat) (N n : Nat) : (newest f N n).length = N := by simp [newest]
theorem nth_newest (f : Nat → Nat) (N n b : Nat) (h : b < N) : nth (newest f N n) b = (lst f b n : Int) := by simp [newest, nth, List.getD, h]
theorem newest_set (f : Nat → Nat) (N n : Nat) (h : f n < N) : (newest f N n).set (f n) ((n : Int) + 1) = newest f N (n + 1) := by
  refine ext_nth (by simp [newest_length]) fun i hi => ?_
  rw [List.length_set, newest_length] at hi
  rw [nth_set _ _ _ _ (by rw [newest_length]; exact h), nth_newest _ _ _ _ hi, nth_newest _ _ _ _ hi, lst]
  by_cases e : i = f n
  · rw [if_pos e, if_pos e.symm]; rfl
  · rw [if_neg e, if_neg (fun x => e x.symm)]
theorem newest_zero (f : Nat → Nat) (N : Nat) : newest f N 0 = List.replicate N 0 := by
  refine ext_nth (by simp [newest_length]) fun i hi => ?_
  rw [newest_length] at hi
  rw [nth_newest _ _ _ _ hi]
  simp [lst, nth, List.getD, hi]
theorem newest_congr {f f' : Nat → Nat} (N n : Nat) (h : ∀ k, k < n → f k = f' k) : newest f N n = newest f' N n := by
  unfold newest
  apply List.map_congr_left
  intro b _
  rw [lst_congr b n h]
theorem nth_nz (f : Nat → Nat) (l : List Int) (k i : Nat) (hf : ∀ j, j < k → f j < l.length) : nth (nz f l k) i = if lst f i k = 0 then nth l i else 0 := by
  induction k with
  | zero => simp [nz, lst]
  | succ k ih =>
    rw [nz, nth_set _ _ _ _ (by rw [nz_length]; exact hf k (by omega)), ih (fun j hj => hf j (by omega)), lst]
    by_cases e : i = f k
    · simp [e]
    · have e' : ¬ f k = i := fun x => e x.symm
      simp only [if_neg e, if_neg e']
theorem nz_newest (f : Nat → Nat) (N n : Nat) (hf : ∀ j, j < n → f j < N) : nz f (newest f N n) n = List.replicate N 0 := by
  refine ext_nth (by simp [nz_length, newest_length]) fun i hi => ?_
  rw [nz_length, newest_length] at hi
  rw [nth_nz _ _ _ _ (by simpa [newest_length] using hf), nth_newest _ _ _ _ hi]
  have e : nth (List.replicate N 0) i = 0 := by simp [nth, List.getD, hi]
  rw [e]
  split <;> omega
/-- a block as all writes left it: the last one's bytes, or what lasts -/
theorem nth_lay_all (f : Nat → Nat) (x : Nat → List Int) (l : List Int) (n i : Nat) (hi : i < l.length) :
    nth (lay (fun _ => true) f x l n) i = if lst f (i / 512) n = 0 then nth l i else nth (x (lst f (i / 512) n - 1)) (i % 512) := by
  induction n with
  | zero => simp [lay, lst]
  | succ n ih =>
    rw [lay, if_pos rfl, nth_wr _ _ _ _ (by rw [lay_length]; exact hi), lst]
    by_cases e : i / 512 = f n
    · simp [e]
    · have e' : ¬ f n = i / 512 := fun h => e h.symm
      simp only [if_neg e, if_neg e']; exact ih
/-- block b's bytes -/
def bck (l : List Int) (b : Nat) : List Int := (l.drop (512 * b)).take 512
end Rec

namespace Go.Proofs.YtflienghgobmoaaGreatDoor
open Go.RowKit Rec

/-- a pending write: its block, where its bytes lie, its bytes -/
structure It where
  b : Nat
  g : Nat
  cap : Nat
  x : List Int
def It.cells (p : It) : List Value := [.int .i64 p.b, .slice (some ⟨p.g, 0, none⟩) 512 p.cap]
/-- an act of the tape -/
structure Ac where
  kind : Int
  b : Int
  v : Value
  x : List Int
def Ac.cells (p : Ac) : List Value := [.int .i64 p.kind, .int .i64 p.b, p.v]
/-- a disk: where it lies and what it holds -/
structure Dk where
  d : Nat
  L : Nat
  nw : Nat
  capL : Nat
  capN : Nat
  nb : Nat
  las : List Int
  pv : Value
  pen : List It
  tv : Value
  tap : List Ac
  wr : Nat
  fl : Nat
  at_ : Int
  kv : Value
  keep : List Bool
  down : Bool
def Dk.f (D : Dk) (k : Nat) : Nat := (D.pen.map It.b).getD k 0
def Dk.X (D : Dk) (k : Nat) : List Int := (D.pen.map It.x).getD k []
/-- its rows that may change -/
def Dk.has (D : Dk) (k : Nat) : Prop := k = D.d ∨ k = D.L ∨ k = D.nw ∨ D.pv.ownBlock = some k ∨ D.tv.ownBlock = some k
def Dk.cells (D : Dk) : Array Value := #[.slice (some ⟨D.L, 0, none⟩) (512 * D.nb) D.capL, D.pv, .slice (some ⟨D.nw, 0, none⟩) D.nb D.capN, D.tv, .int .i64 D.wr, .int .i64 D.fl, .int .i64 D.at_, D.kv, .bool D.down]
/-- bools in memory -/
def Bools (w : World) (v : Value) (l : List Bool) : Prop := ∃ a c, v = .slice a l.length c ∧ (l = [] ∨ ∃ b off, a = some ⟨b, off, none⟩ ∧ ∀ i x, l[i]? = some x → w.cell? ⟨b, off + i, none⟩ = some (.bool x))
def AcOk (w : World) (D : Dk) (a : Ac) : Prop :=
  (a.kind = 1 ∧ 0 ≤ a.b ∧ a.b < D.nb ∧ a.x.length = 512 ∧ ∃ g cap, a.v = .slice (some ⟨g, 0, none⟩) 512 cap ∧ OwnB w g cap a.x ∧ ¬ D.has g) ∨ (a.kind = 2 ∧ a.b = 0 ∧ a.v = .slice none 0 0 ∧ a.x = [])
structure Apart (D : Dk) : Prop where
  dL : D.d ≠ D.L
  dn : D.d ≠ D.nw
  Ln : D.L ≠ D.nw
  p : ∀ k, D.pv.ownBlock = some k → k ≠ D.d ∧ k ≠ D.L ∧ k ≠ D.nw ∧ D.tv.ownBlock ≠ some k
  t : ∀ k, D.tv.ownBlock = some k → k ≠ D.d ∧ k ≠ D.L ∧ k ≠ D.nw ∧ D.pv.ownBlock ≠ some k
structure Disk (w : World) (D : Dk) : Prop where
  row : w.heap[D.d]? = some (.cells D.cells 90 (0, 0))
  las : OwnB w D.L D.capL D.las
  lasl : D.las.length = 512 * D.nb
  nb0 : 1 ≤ D.nb
  nb1 : D.nb ≤ 16384
  nws : w.ownsRow 0 3 1 (.slice (some ⟨D.nw, 0, none⟩) D.nb D.capN) D.nb ((newest D.f D.nb D.pen.length).map (Value.int .i64))
  pen : w.ownsRow 0 180 2 D.pv D.pen.length (D.pen.flatMap It.cells)
  penb : ∀ p ∈ D.pen, p.b < D.nb ∧ p.x.length = 512 ∧ OwnB w p.g p.cap p.x ∧ ¬ D.has p.g
  tap : w.ownsRow 0 177 3 D.tv D.tap.length (D.tap.flatMap Ac.cells)
  tapb : ∀ a ∈ D.tap, AcOk w D a
  kee : Bools w D.kv D.keep
  keb : ∀ k, D.kv.ownBlock = some k → ¬ D.has k
  kel : ∀ k, D.kv.ownBlock = some k → k < w.heap.size
  ap : Apart D
  dn : D.down = true → D.pen = []
  pl : D.pen.length ≤ 3518437208800
  tl : D.tap.length ≤ 3518437208800
  wrs : D.wr ≤ 3518437208800
  fls : D.fl ≤ 3518437208800
  at1 : D.at_ ≤ 9223372036854775807

theorem Disk.cell {w : World} {D : Dk} (h : Disk w D) (j : Nat) : w.cell? ⟨D.d, j, none⟩ = D.cells[j]? := cell_of_row _ _ _ _ _ _ h.row
theorem Disk.lt {w : World} {D : Dk} (h : Disk w D) : D.d < w.heap.size := heap_lt h.row
theorem Disk.hasLt {w : World} {D : Dk} (h : Disk w D) {k : Nat} (hk : D.has k) : k < w.heap.size := by
  rcases hk with rfl | rfl | rfl | hk | hk
  · exact heap_lt h.row
  · exact h.las.lt
  · exact owns_block h.nws rfl
  · exact owns_block h.pen hk
  · exact owns_block h.tap hk
theorem Bools.lt {w : World} {v : Value} {l : List Bool} (h : Bools w v l) (hl : l ≠ []) {k : Nat} (hk : v.ownBlock = some k) : k < w.heap.size := by
  obtain ⟨a, c, rfl, hb⟩ := h
  obtain ⟨b, off, rfl, hc⟩ := hb.resolve_left hl
  cases hk
  cases l with
  | nil => exact absurd rfl hl
  | cons x l => exact block_lt_of_cell (hc 0 x rfl)
theorem Bools.fr {S : Nat → Prop} {w w' : World} {v : Value} {l : List Bool} (h : Bools w v l) (x : Fr S w w') (hk : l ≠ [] → ∀ k, v.ownBlock = some k → ¬ S k) : Bools w' v l := by
  obtain ⟨a, c, rfl, hl⟩ := h
  refine ⟨a, c, rfl, ?_⟩
  rcases hl with rfl | ⟨b, off, rfl, hc⟩
  · exact .inl rfl
  · exact .inr ⟨b, off, rfl, fun i y hy => x.cell (hc i y hy) (hk (fun e => by rw [e] at hy; simp at hy) b rfl)⟩
theorem AcOk.fr {S : Nat → Prop} {w w' : World} {D : Dk} {a : Ac} (h : AcOk w D a) (x : Fr S w w') (hS : ∀ g cap, a.v = .slice (some ⟨g, 0, none⟩) 512 cap → ¬ S g) : AcOk w' D a := by
  rcases h with ⟨h1, h2, h3, h4, g, cap, h5, h6, h7⟩ | h
  · exact .inl ⟨h1, h2, h3, h4, g, cap, h5, h6.fr x (hS g cap h5), h7⟩
  · exact .inr h
/-- all its rows -/
def Dk.all (D : Dk) (k : Nat) : Prop := D.has k ∨ D.kv.ownBlock = some k ∨ (∃ p ∈ D.pen, p.g = k) ∨ (∃ a ∈ D.tap, a.v.ownBlock = some k)
/-- what is done elsewhere leaves a disk as it is -/
theorem Disk.fr {S : Nat → Prop} {w w' : World} {D : Dk} (h : Disk w D) (x : Fr S w w') (hS : ∀ k, D.all k → ¬ S k) : Disk w' D where
  row := x.heap h.row (hS _ (.inl (.inl rfl)))
  las := h.las.fr x (hS _ (.inl (.inr (.inl rfl))))
  lasl := h.lasl
  nb0 := h.nb0
  nb1 := h.nb1
  nws := owns_fr h.nws x (fun k hk => by cases hk; exact hS _ (.inl (.inr (.inr (.inl rfl)))))
  pen := owns_fr h.pen x (fun k hk => hS _ (.inl (.inr (.inr (.inr (.inl hk))))))
  penb := fun p hp => ⟨(h.penb p hp).1, (h.penb p hp).2.1, (h.penb p hp).2.2.1.fr x (hS _ (.inr (.inr (.inl ⟨p, hp, rfl⟩)))), (h.penb p hp).2.2.2⟩
  tap := owns_fr h.tap x (fun k hk => hS _ (.inl (.inr (.inr (.inr (.inr hk))))))
  tapb := fun a ha => (h.tapb a ha).fr x (fun g cap hv => hS _ (.inr (.inr (.inr ⟨a, ha, by rw [hv]; rfl⟩))))
  kee := h.kee.fr x (fun _ k hk => hS _ (.inr (.inl hk)))
  keb := h.keb
  kel := fun k hk => Nat.lt_of_lt_of_le (h.kel k hk) x.size
  ap := h.ap
  dn := h.dn
  pl := h.pl
  tl := h.tl
  wrs := h.wrs
  fls := h.fls
  at1 := h.at1
theorem Disk.allLt {w : World} {D : Dk} (h : Disk w D) {k : Nat} (hk : D.all k) : k < w.heap.size := by
  rcases hk with hk | hk | ⟨p, hp, rfl⟩ | ⟨a, ha, hk⟩
  · exact h.hasLt hk
  · exact h.kel k hk
  · exact (h.penb p hp).2.2.1.lt
  · rcases h.tapb a ha with ⟨_, _, _, _, g, cap, h5, h6, _⟩ | ⟨_, _, h5, _⟩
    · rw [h5] at hk; cases hk; exact h6.lt
    · rw [h5] at hk; cases hk
theorem Disk.on {w w' : World} {D : Dk} (h : Disk w D) (x : Below w.heap.size w w') : Disk w' D :=
  h.fr (below_fr x (fun k => w.heap.size ≤ k)) (fun _ hk => Nat.not_le.2 (h.allLt hk))
end Go.Proofs.YtflienghgobmoaaGreatDoor

namespace Go.Proofs.YtflienghgobmoaaGreatDoor
open Go.RowKit Rec

def zsA (m : Nat) : List Int := List.replicate m 0
theorem zsA_length (m : Nat) : (zsA m).length = m := by simp [zsA]
theorem tmod_split (v : Int) (n : Nat) : v % n = (v.tmod n) % n := by
  have e := Int.mul_tdiv_add_tmod v n
  have e2 := Int.add_mul_emod_self_left (v.tmod n) n (v.tdiv n)
  rw [Int.add_comm, e] at e2
  exact e2
theorem tmod_pos (v : Int) (n : Nat) (h0 : 0 < n) (h : 0 ≤ v.tmod n) : v.tmod n = v % n := by
  rw [tmod_split, Int.emod_eq_of_lt h]
  have := Int.tmod_lt_of_pos v (b := n) (by omega)
  exact this
theorem tmod_neg (v : Int) (n : Nat) (h0 : 0 < n) (h : v.tmod n < 0) : v.tmod n + n = v % n := by
  have h2 : -(n : Int) < v.tmod n := by
    have := Int.tmod_lt_of_pos (-v) (b := n) (by omega)
    rw [Int.neg_tmod] at this
    omega
  rw [tmod_split, ← Int.add_emod_right, Int.emod_eq_of_lt (by omega) (by omega)]
set_option maxRecDepth 100000 in
set_option maxHeartbeats 800000 in
theorem mod_any (w : World) (v : Int) (n : Nat) (h0 : 0 < n) (h1 : n ≤ 1000000000) :
    Calls Tryz.prog 21 #[.int .i64 v, .int .i64 n] w fun e w' => e = .returned (.int .i64 (v % n)) ∧ w = w' := by
  go_enter Tryz.func21, Tryz.ntmps21
  by_cases h : v.tmod n < 0
  · have h2 : -(n : Int) ≤ v.tmod n := by
      have := tmod_neg v n h0 h
      have := Int.emod_nonneg v (b := n) (by omega)
      omega
    go_wp2
    go_ret
    refine ⟨?_, rfl⟩
    show Ending.returned (Value.int IntKind.i64 (v.tmod n + n)) = _
    rw [tmod_neg v n h0 h]
  · go_wp2
    go_ret
    refine ⟨?_, rfl⟩
    show Ending.returned (Value.int IntKind.i64 (v.tmod n)) = _
    rw [tmod_pos v n h0 (by omega)]
set_option maxRecDepth 100000 in
set_option maxHeartbeats 800000 in
theorem lblock_any (w : World) (x : Int) (hx : 0 ≤ x ∧ x < 256) :
    Calls Tryz.prog 35 #[.int .u8 x] w fun e w' => e = .returned (.slice (some ⟨w.heap.size, 0, none⟩) 512 512) ∧ OwnB w' w.heap.size 512 (one x) ∧ Below w.heap.size w w' := by
  go_enter Tryz.func35, Tryz.ntmps35
  go_wp2_with (at_make; refine wp_makeB rfl _ _ rfl _ _ _ _ 512 rfl rfl rfl rfl (by omega) ?_; intro w1 ho hb; have HO : Hid (OwnB w1 w.heap.size 512 (zsA 512)) := ho; have HB : Hid (Below w.heap.size w w1) := hb; clear ho hb)
  go_loopw [4, 8, 9, 10, 11, 12, 13, 14, 15] (fun _ i _ _ _ _ _ _ _ wr => ∃ k : Nat, k ≤ 512 ∧ i = .int .i64 k ∧ OwnB wr w.heap.size 512 (ov (zsA 512) 0 k (fun _ => x)) ∧ Below w.heap.size w wr) (fun _ i _ _ _ _ _ _ _ _ => 512 - (intOf i).toNat)
  case atStart => exact ⟨0, Nat.zero_le _, rfl, by rw [ov_zero]; exact HO.out, HB.out⟩
  case round =>
    obtain ⟨k, hk, rfl, how, hgr⟩ := hrel
    have HP : Hid (OwnB wr w.heap.size 512 (ov (zsA 512) 0 k (fun _ => x))) := how
    have HG : Hid (Below w.heap.size w wr) := hgr
    clear how hgr HO HB
    by_cases hlt : k < 512
    · have d := HP.out.cell k (by rw [ov_length, zsA_length]; exact hlt)
      have f := HP.out.frozen k
      have HQ : Hid (OwnB (wr.setCell ⟨w.heap.size, k, none⟩ (.int .u8 x)) w.heap.size 512 (ov (zsA 512) 0 (k + 1) (fun _ => x))) := by
        have e := HP.out.set k x (by rw [ov_length, zsA_length]; exact hlt) hx
        have e2 := ov_set (zsA 512) 0 k (fun _ => x) (by rw [zsA_length]; omega)
        rw [Nat.zero_add] at e2
        rwa [e2] at e
      go_wp2
      exact ⟨⟨_, hlt, rfl, HQ.out, HG.out.grown grown_set HG.out.size (by intro k hk; cases hk; exact Nat.le_refl _)⟩, by simp [intOf]; omega⟩
    · go_wp2
      obtain rfl : k = 512 := by omega
      go_ret
      refine ⟨rfl, ?_, HG.out⟩
      have e : ov (zsA 512) 0 512 (fun _ => x) = one x := ext_nth (by rw [ov_length, zsA_length, one, List.length_replicate]) fun i hi => by
        rw [ov_length, zsA_length] at hi
        rw [nth_ov _ _ _ _ _ (by rw [zsA_length]; exact hi), if_pos (by omega), one, nth_rep _ _ _ hi]
      rw [← e]; exact HP.out
end Go.Proofs.YtflienghgobmoaaGreatDoor

namespace Go.Proofs.YtflienghgobmoaaGreatDoor
open Go.RowKit Rec

set_option maxRecDepth 100000 in
set_option maxHeartbeats 800000 in
theorem bclone_any (w : World) (p : Addr) (n c : Nat) (l : List Int) (hb : Bytes w (some p) l) (hn : l.length = n) (h47 : n ≤ 140737488355328) :
    Calls Tryz.prog 19 #[.slice (some p) n c] w fun e w' => ∃ g cap, e = .returned (.slice (some ⟨g, 0, none⟩) n cap) ∧ w.heap.size ≤ g ∧ OwnB w' g cap l ∧ Below w.heap.size w w' := by
  have HB : Hid (Bytes w (some p) l) := hb
  have HN : Hid (l.length = n) := hn
  clear hb hn
  go_enter Tryz.func19, Tryz.ntmps19
  have E1 : ∀ w : World, (binOp .eql 22 (.slice (some p) n c) (.slice none 0 0)).run Tryz.prog w = .ok (.bool false) w := fun w => Go.Lib.run_eql_slice_some_nil w p n c Tryz.underlying22
  have HA : Hid (Below w.heap.size w (w.alloc (.cells #[] 5))) := (Below.refl _ _).alloc (Nat.le_refl _) _
  have HE : Hid (OwnB (w.alloc (.cells #[] 5)) w.heap.size 0 []) := own_empty (heap_alloc_new _ _)
  go_wp2_with (at_builtin; refine wp_app rfl (.tmp 5) (.tmp 6) rfl w.heap.size w.heap.size 0 0 [] l rfl rfl HE.out (Nat.le_refl _) HA.out.size (some p) n c rfl HN.out (HB.out.on HA.out) (fun h => by cases h) (by omega) ?_; intro g cap w2 hg ho hgr; have HG : Hid (w.heap.size ≤ g ∧ OwnB w2 g cap l ∧ Below w.heap.size w w2) := ⟨hg, ho, HA.out.grown hgr HA.out.size (by intro k hk; cases hk; exact Nat.le_refl _)⟩; clear hg ho hgr)
  go_ret
  exact ⟨_, _, rfl, HG.out.1, HG.out.2.1, HG.out.2.2⟩
/-- may a disk have so many blocks? -/
def isz (n : Int) : Bool := decide (1 ≤ n) && decide (n ≤ 16384)
set_option maxRecDepth 100000 in
set_option maxHeartbeats 800000 in
theorem isSize_any (w : World) (n : Int) : Calls Tryz.prog 17 #[.int .i64 n] w fun e w' => e = .returned (.bool (isz n)) ∧ w = w' := by
  go_enter Tryz.func17, Tryz.ntmps17
  unfold isz
  by_cases h1 : 1 ≤ n
  · by_cases h2 : n ≤ 16384
    · go_wp2
      go_ret
      exact ⟨by simp [h2]; omega, rfl⟩
    · go_wp2
      go_ret
      exact ⟨by simp; omega, rfl⟩
  · go_wp2
    go_ret
    exact ⟨by simp; omega, rfl⟩
/-- a disk on which nothing was done -/
def newDk (d L nw capL nb : Nat) (las : List Int) : Dk := { d := d, L := L, nw := nw, capL := capL, capN := nb, nb := nb, las := las, pv := .slice none 0 0, pen := [], tv := .slice none 0 0, tap := [], wr := 0, fl := 0, at_ := 0, kv := .slice none 0 0, keep := [], down := false }
theorem new_disk {w : World} {d L nw capL nb : Nat} {las : List Int} (hd : w.heap[d]? = some (.cells (newDk d L nw capL nb las).cells 90 (0, 0))) (hL : OwnB w L capL las) (hl : las.length = 512 * nb) (h0 : 1 ≤ nb) (h1 : nb ≤ 16384)
    (hn : w.ownsRow 0 3 1 (.slice (some ⟨nw, 0, none⟩) nb nb) nb ((zsA nb).map (Value.int .i64))) (a1 : d ≠ L) (a2 : d ≠ nw) (a3 : L ≠ nw) : Disk w (newDk d L nw capL nb las) where
  row := hd
  las := hL
  lasl := hl
  nb0 := h0
  nb1 := h1
  nws := by
    have e : newest (newDk d L nw capL nb las).f nb 0 = zsA nb := newest_zero _ _
    show w.ownsRow 0 3 1 (.slice (some ⟨nw, 0, none⟩) nb nb) nb ((newest (newDk d L nw capL nb las).f nb 0).map (Value.int .i64))
    rw [e]; exact hn
  pen := ⟨rfl, .inl ⟨rfl, rfl⟩⟩
  penb := fun p hp => by cases hp
  tap := ⟨rfl, .inl ⟨rfl, rfl⟩⟩
  tapb := fun p hp => by cases hp
  kee := ⟨none, 0, rfl, .inl rfl⟩
  keb := fun k hk => by cases hk
  kel := fun k hk => by cases hk
  ap := ⟨a1, a2, a3, (fun k hk => by cases hk), (fun k hk => by cases hk)⟩
  dn := fun _ => rfl
  pl := by show 0 ≤ _; omega
  tl := by show 0 ≤ _; omega
  wrs := by show 0 ≤ _; omega
  fls := by show 0 ≤ _; omega
  at1 := by show (0 : Int) ≤ _; omega
set_option maxRecDepth 100000 in
set_option maxHeartbeats 800000 in
theorem over_any (w : World) (L capL nb : Nat) (las : List Int) (hL : OwnB w L capL las) (hl : las.length = 512 * nb) (h0 : 1 ≤ nb) (h1 : nb ≤ 16384) :
    Calls Tryz.prog 18 #[.slice (some ⟨L, 0, none⟩) (512 * nb : Nat) capL] w fun e w' => ∃ d, e = .returned (.pointer (some ⟨d, 0, none⟩)) ∧ w.heap.size ≤ d ∧ Disk w' (newDk d L w.heap.size capL nb las) ∧ Below w.heap.size w w' := by
  have HL : Hid (OwnB w L capL las) := hL
  have HN : Hid (las.length = 512 * nb) := hl
  clear hL hl
  go_enter Tryz.func18, Tryz.ntmps18
  go_wp2_with (at_make; refine wp_makeI rfl _ _ rfl _ _ _ _ nb rfl rfl (by omega) (by omega) (by omega) ?_; intro w1 ho hb; have HO : Hid (w1.ownsRow 0 3 1 (.slice (some ⟨w.heap.size, 0, none⟩) nb nb) nb ((zsA nb).map (Value.int .i64))) := ho; have HB : Hid (Below w.heap.size w w1) := hb; clear ho hb)
  go_ret
  have hs : w.heap.size < w1.heap.size := owns_block HO.out rfl
  have hA : Below w1.heap.size w1 (w1.alloc (.cells (newDk w1.heap.size L w.heap.size capL nb las).cells 90)) := (Below.refl _ _).alloc (Nat.le_refl _) _
  have hL2 := HL.out.below HB.out HL.out.lt
  have hlt := HL.out.lt
  exact ⟨_, rfl, Nat.le_of_lt hs, new_disk (heap_alloc_new _ _) (hL2.on hA) HN.out h0 h1 (owns_fr HO.out (below_fr hA (fun k => w1.heap.size ≤ k)) (fun k hk => by cases hk; exact Nat.not_le.2 hs)) (by omega) (by omega) (by omega), HB.out.trans (hA.mono HB.out.size)⟩
set_option maxRecDepth 100000 in
set_option maxHeartbeats 800000 in
theorem open_yes (w : World) (p : Addr) (c nb : Nat) (l : List Int) (hb : Bytes w (some p) l) (hn : l.length = 512 * nb) (h0 : 1 ≤ nb) (h1 : nb ≤ 16384) :
    Calls Tryz.prog 6 #[.slice (some p) (512 * nb : Nat) c] w fun e w' => ∃ d nw L capL, e = .returned (.tuple #[.pointer (some ⟨d, 0, none⟩), .int .i64 0]) ∧ w.heap.size ≤ d ∧ w.heap.size ≤ nw ∧ w.heap.size ≤ L ∧ Disk w' (newDk d L nw capL nb l) ∧ Below w.heap.size w w' := by
  have HS : Hid (isz nb = true) := by unfold isz; rw [decide_eq_true (by omega), decide_eq_true (by omega)]; rfl
  have HI : Hid (Bytes w (some p) l) := hb
  have HN : Hid (l.length = 512 * nb) := hn
  clear hb hn
  go_enter Tryz.func6, Tryz.ntmps6
  go_wp2_with (first
    | (go_at_call 17; refine (isSize_any _ _).mono ?_; rintro e w' ⟨rfl, rfl⟩; rw [show isz _ = true from HS.out])
    | (go_at_call 19; refine (bclone_any _ p _ c l HI.out HN.out (by omega)).mono ?_; rintro e w1 ⟨g, cap, rfl, hg, ho, hb⟩; have HO : Hid (w.heap.size ≤ g ∧ OwnB w1 g cap l) := ⟨hg, ho⟩; have HB : Hid (Below w.heap.size w w1) := hb; clear hg ho hb)
    | (go_at_call 18; refine (over_any _ _ _ nb l HO.out.2 HN.out h0 h1).mono ?_; rintro e w2 ⟨d, rfl, hd, hD, hb2⟩; have HD : Hid (w1.heap.size ≤ d ∧ Disk w2 (newDk d _ w1.heap.size _ nb l) ∧ Below w1.heap.size w1 w2) := ⟨hd, hD, hb2⟩; clear hd hD hb2))
  go_ret2
  exact ⟨_, _, _, _, rfl, Nat.le_trans HB.out.size HD.out.1, HB.out.size, HO.out.1, HD.out.2.1, HB.out.trans (HD.out.2.2.mono HB.out.size)⟩
end Go.Proofs.YtflienghgobmoaaGreatDoor
