import Derived.Test.YtflienghgobmoaaGreatDoorKOpens
import Derived.OwnWalk
import Derived.Deep.OwnRows
import Derived.WalkSpells
import Derived.Lib.BufferMore
namespace Go.Proofs.YtflienghgobmoaaGreatDoor
open Go.RowKit Rec

/-- numbers and blocks that may be -/
structure Fit (ns : List Int) (ds : List (List Int)) (K : Nat) : Prop where
  nl : ns.length = K
  dl : ds.length = K
  k1 : 1 ≤ K
  k96 : K ≤ 96
  may : may ns 16384 = true
  rows : ∀ i, i < K → (row ds i).length = 512
theorem Fit.blk {ns : List Int} {ds : List (List Int)} {K : Nat} (h : Fit ns ds K) : Go.Proofs.YtflienghgobmoaaGreatDoor.blk ds K = true := by
  unfold Go.Proofs.YtflienghgobmoaaGreatDoor.blk
  rw [decide_eq_true h.dl, decide_eq_true ((mem_row _).2 (fun i hi => h.rows i (by rw [← h.dl]; exact hi)))]; rfl
theorem Fit.numsE {ns : List Int} {ds : List (List Int)} {K : Nat} (h : Fit ns ds K) (n : Int) : Go.Proofs.YtflienghgobmoaaGreatDoor.numsE (made ns ds) n = if nth ns (K - 1) < n then 0 else 41 := by
  unfold made
  rw [numsE_hd ns _ n (by rw [h.nl]; exact h.k1) (by rw [h.nl]; exact h.k96) (fun i hi => by have := pre_bd ns _ h.may i hi; omega), may_last ns 16384 n h.may (by rw [h.nl]; exact h.k1), h.nl]
  by_cases e : nth ns (K - 1) < n
  · rw [decide_eq_true e, if_pos rfl, if_pos e]
  · rw [decide_eq_false e, if_neg e]; rfl
theorem Fit.numsL {ns : List Int} {ds : List (List Int)} {K : Nat} (h : Fit ns ds K) (n : Int) : Go.Proofs.YtflienghgobmoaaGreatDoor.numsL (made ns ds) n = if nth ns (K - 1) < n then ns else [] := by
  unfold made
  rw [numsL_hd ns _ n (by rw [h.nl]; exact h.k1) (by rw [h.nl]; exact h.k96) (fun i hi => by have := pre_bd ns _ h.may i hi; omega), may_last ns 16384 n h.may (by rw [h.nl]; exact h.k1), h.nl]
  by_cases e : nth ns (K - 1) < n
  · rw [decide_eq_true e, if_pos rfl, if_pos e]
  · rw [decide_eq_false e, if_neg e]; rfl
/-- Make of what may be -/
theorem Fit.make {ns : List Int} {ds : List (List Int)} {K : Nat} (h : Fit ns ds K) (w : World) (g cap dg doff dc : Nat) (hI : OwnI w g cap ns) (hD : Data w (some ⟨dg, doff, none⟩) ds) (hT : TabAt w) :
    Calls Tryz.prog 151 #[.slice (some ⟨g, 0, none⟩) K cap, .slice (some ⟨dg, doff, none⟩) K dc] w fun e w' => ∃ g, e = .returned (.tuple #[.slice (some ⟨g, 0, none⟩) 512 512, .int .i64 0]) ∧ OwnB w' g 512 (made ns ds) ∧ w.heap.size ≤ g ∧ Below w.heap.size w w' :=
  make_ok w g 0 K cap dg doff dc ns ds h.nl hI.ints hD hT h.k1 h.k96 h.may h.blk
end Go.Proofs.YtflienghgobmoaaGreatDoor

namespace Rec
/-- a block laid over -/
def wr (l : List Int) (b : Nat) (x : List Int) : List Int := ov l (512 * b) 512 (nth x)
theorem wr_length (l : List Int) (b : Nat) (x : List Int) : (wr l b x).length = l.length := ov_length _ _ _ _
theorem nth_wr (l : List Int) (b : Nat) (x : List Int) (i : Nat) (hi : i < l.length) : nth (wr l b x) i = if i / 512 = b then nth x (i % 512) else nth l i := by
  rw [wr, nth_ov _ _ _ _ _ hi]
  by_cases h : i / 512 = b
  · rw [if_pos (by omega), if_pos h]; congr 1; omega
  · rw [if_neg (by omega), if_neg h]
/-- those that are kept are laid over, in their order -/
def lay (kp : Nat → Bool) (f : Nat → Nat) (x : Nat → List Int) (l : List Int) : Nat → List Int
  | 0 => l
  | k + 1 => if kp k then wr (lay kp f x l k) (f k) (x k) else lay kp f x l k
theorem lay_length (kp : Nat → Bool) (f : Nat → Nat) (x : Nat → List Int) (l : List Int) (k : Nat) : (lay kp f x l k).length = l.length := by
  induction k with
  | zero => rfl
  | succ k ih => rw [lay]; split; rw [wr_length, ih]; exact ih
/-- numbers made zero -/
def nz (f : Nat → Nat) (l : List Int) : Nat → List Int
  | 0 => l
  | k + 1 => (nz f l k).set (f k) 0
theorem nz_length (f : Nat → Nat) (l : List Int) (k : Nat) : (nz f l k).length = l.length := by
  induction k with
  | zero => rfl
  | succ k ih => rw [nz, List.length_set, ih]
/-- how many there are up to the last of them that is b; 0 if none is -/
def lst (f : Nat → Nat) (b : Nat) : Nat → Nat
  | 0 => 0
  | k + 1 => if f k = b then k + 1 else lst f b k
theorem lst_le (f : Nat → Nat) (b k : Nat) : lst f b k ≤ k := by
  induction k with
  | zero => exact Nat.le_refl _
  | succ k ih => rw [lst]; split <;> omega
theorem lst_congr {f f' : Nat → Nat} (b n : Nat) (h : ∀ k, k < n → f k = f' k) : lst f b n = lst f' b n := by
  induction n with
  | zero => rfl
  | succ n ih => rw [lst, lst, ih (fun k hk => h k (by omega)), h n (by omega)]
/-- the list of these -/
def newest (f : Nat → Nat) (N n : Nat) : List Int := (List.range N).map fun b => (lst f b n : Int)
theorem newest_length (f : Nat → Nat) (N n : Nat) : (newest f N n).length = N := by simp [newest]
theorem nth_newest (f : Nat → Nat) (N n b : Nat) (h : b < N) : nth (newest f N n) b = (lst f b n : Int) := by simp [newest, nth, List.getD, h]
theorem newest_set (f : Nat → Nat) (N n : Nat) (h : f n < N) : (newest f N n).set (f n) ((n : Int) + 1) = newest f N (n + 1) := by
  refine ext_nth (by simp [newest_length]) fun i hi => ?_
  rw [List.length_set, newest_length] at hi
  rw [nth_set _ _ _ _ (by rw [newest_length]; exact h), nth_newest _ _ _ _ hi, nth_newest _ _ _ _ hi, lst]
  by_cases e : i = f n
  · rw [if_pos e, if_pos e.symm]; rfl
  · rw [if_neg e, if_neg (fun x => e x.symm)]
theorem newest_zero (f : Nat → Nat) (N : Nat) : newest f N 0 = List.replicate N 0 := by
  refine ext_nth (by simp [newest_length]) fun i hi => ?_
  rw [newest_length] at hi
  rw [nth_newest _ _ _ _ hi]
  simp [lst, nth, List.getD, hi]
theorem newest_congr {f f' : Nat → Nat} (N n : Nat) (h : ∀ k, k < n → f k = f' k) : newest f N n = newest f' N n := by
  unfold newest
  apply List.map_congr_left
  intro b _
  rw [lst_congr b n h]
theorem nth_nz (f : Nat → Nat) (l : List Int) (k i : Nat) (hf : ∀ j, j < k → f j < l.length) : nth (nz f l k) i = if lst f i k = 0 then nth l i else 0 := by
  induction k with
  | zero => simp [nz, lst]
  | succ k ih =>
    rw [nz, nth_set _ _ _ _ (by rw [nz_length]; exact hf k (by omega)), ih (fun j hj => hf j (by omega)), lst]
    by_cases e : i = f k
    · simp [e]
    · have e' : ¬ f k = i := fun x => e x.symm
      simp only [if_neg e, if_neg e']
theorem nz_newest (f : Nat → Nat) (N n : Nat) (hf : ∀ j, j < n → f j < N) : nz f (newest f N n) n = List.replicate N 0 := by
  refine ext_nth (by simp [nz_length, newest_length]) fun i hi => ?_
  rw [nz_length, newest_length] at hi
  rw [nth_nz _ _ _ _ (by simpa [newest_length] using hf), nth_newest _ _ _ _ hi]
  have e : nth (List.replicate N 0) i = 0 := by simp [nth, List.getD, hi]
  rw [e]
  split <;> omega
/-- a block as all writes left it: the last one's bytes, or what lasts -/
theorem nth_lay_all (f : Nat → Nat) (x : Nat → List Int) (l : List Int) (n i : Nat) (hi : i < l.length) :
    nth (lay (fun _ => true) f x l n) i = if lst f (i / 512) n = 0 then nth l i else nth (x (lst f (i / 512) n - 1)) (i % 512) := by
  induction n with
  | zero => simp [lay, lst]
  | succ n ih =>
    rw [lay, if_pos rfl, nth_wr _ _ _ _ (by rw [lay_length]; exact hi), lst]
    by_cases e : i / 512 = f n
    · simp [e]
    · have e' : ¬ f n = i / 512 := fun h => e h.symm
      simp only [if_neg e, if_neg e']; exact ih
/-- block b's bytes -/
def bck (l : List Int) (b : Nat) : List Int := (l.drop (512 * b)).take 512
end Rec

namespace Go.Proofs.YtflienghgobmoaaGreatDoor
open Go.RowKit Rec

/-- a pending write: its block, where its bytes lie, its bytes -/
structure It where
  b : Nat
  g : Nat
  cap : Nat
  x : List Int
def It.cells (p : It) : List Value := [.int .i64 p.b, .slice (some ⟨p.g, 0, none⟩) 512 p.cap]
/-- an act of the tape -/
structure Ac where
  kind : Int
  b : Int
  v : Value
  x : List Int
def Ac.cells (p : Ac) : List Value := [.int .i64 p.kind, .int .i64 p.b, p.v]
/-- a disk: where it lies and what it holds -/
structure Dk where
  d : Nat
  L : Nat
  nw : Nat
  capL : Nat
  capN : Nat
  nb : Nat
  las : List Int
  pv : Value
  pen : List It
  tv : Value
  tap : List Ac
  wr : Nat
  fl : Nat
  at_ : Int
  kv : Value
  keep : List Bool
  down : Bool
def Dk.f (D : Dk) (k : Nat) : Nat := (D.pen.map It.b).getD k 0
def Dk.X (D : Dk) (k : Nat) : List Int := (D.pen.map It.x).getD k []
/-- its rows that may change -/
def Dk.has (D : Dk) (k : Nat) : Prop := k = D.d ∨ k = D.L ∨ k = D.nw ∨ D.pv.ownBlock = some k ∨ D.tv.ownBlock = some k
def Dk.cells (D : Dk) : Array Value := #[.slice (some ⟨D.L, 0, none⟩) (512 * D.nb) D.capL, D.pv, .slice (some ⟨D.nw, 0, none⟩) D.nb D.capN, D.tv, .int .i64 D.wr, .int .i64 D.fl, .int .i64 D.at_, D.kv, .bool D.down]
/-- bools in memory -/
def Bools (w : World) (v : Value) (l : List Bool) : Prop := ∃ a c, v = .slice a l.length c ∧ (l = [] ∨ ∃ b off, a = some ⟨b, off, none⟩ ∧ ∀ i x, l[i]? = some x → w.cell? ⟨b, off + i, none⟩ = some (.bool x))
def AcOk (w : World) (D : Dk) (a : Ac) : Prop :=
  (a.kind = 1 ∧ 0 ≤ a.b ∧ a.b < D.nb ∧ a.x.length = 512 ∧ ∃ g cap, a.v = .slice (some ⟨g, 0, none⟩) 512 cap ∧ OwnB w g cap a.x ∧ ¬ D.has g) ∨ (a.kind = 2 ∧ a.b = 0 ∧ a.v = .slice none 0 0 ∧ a.x = [])
structure Apart (D : Dk) : Prop where
  dL : D.d ≠ D.L
  dn : D.d ≠ D.nw
  Ln : D.L ≠ D.nw
  p : ∀ k, D.pv.ownBlock = some k → k ≠ D.d ∧ k ≠ D.L ∧ k ≠ D.nw ∧ D.tv.ownBlock ≠ some k
  t : ∀ k, D.tv.ownBlock = some k → k ≠ D.d ∧ k ≠ D.L ∧ k ≠ D.nw ∧ D.pv.ownBlock ≠ some k
structure Disk (w : World) (D : Dk) : Prop where
  row : w.heap[D.d]? = some (.cells D.cells 90 (0, 0))
  las : OwnB w D.L D.capL D.las
  lasl : D.las.length = 512 * D.nb
  nb0 : 1 ≤ D.nb
  nb1 : D.nb ≤ 16384
  nws : w.ownsRow 0 3 1 (.slice (some ⟨D.nw, 0, none⟩) D.nb D.capN) D.nb ((newest D.f D.nb D.pen.length).map (Value.int .i64))
  pen : w.ownsRow 0 180 2 D.pv D.pen.length (D.pen.flatMap It.cells)
  penb : ∀ p ∈ D.pen, p.b < D.nb ∧ p.x.length = 512 ∧ OwnB w p.g p.cap p.x ∧ ¬ D.has p.g
  tap : w.ownsRow 0 177 3 D.tv D.tap.length (D.tap.flatMap Ac.cells)
  tapb : ∀ a ∈ D.tap, AcOk w D a
  kee : Bools w D.kv D.keep
  keb : ∀ k, D.kv.ownBlock = some k → ¬ D.has k
  kel : ∀ k, D.kv.ownBlock = some k → k < w.heap.size
  ap : Apart D
  dn : D.down = true → D.pen = []
  pl : D.pen.length ≤ 3518437208800
  tl : D.tap.length ≤ 3518437208800
  wrs : D.wr ≤ 3518437208800
  fls : D.fl ≤ 3518437208800
  at1 : D.at_ ≤ 9223372036854775807

theorem Disk.cell {w : World} {D : Dk} (h : Disk w D) (j : Nat) : w.cell? ⟨D.d, j, none⟩ = D.cells[j]? := cell_of_row _ _ _ _ _ _ h.row
theorem Disk.lt {w : World} {D : Dk} (h : Disk w D) : D.d < w.heap.size := heap_lt h.row
theorem Disk.hasLt {w : World} {D : Dk} (h : Disk w D) {k : Nat} (hk : D.has k) : k < w.heap.size := by
  rcases hk with rfl | rfl | rfl | hk | hk
  · exact heap_lt h.row
  · exact h.las.lt
  · exact owns_block h.nws rfl
  · exact owns_block h.pen hk
  · exact owns_block h.tap hk
theorem Bools.lt {w : World} {v : Value} {l : List Bool} (h : Bools w v l) (hl : l ≠ []) {k : Nat} (hk : v.ownBlock = some k) : k < w.heap.size := by
  obtain ⟨a, c, rfl, hb⟩ := h
  obtain ⟨b, off, rfl, hc⟩ := hb.resolve_left hl
  cases hk
  cases l with
  | nil => exact absurd rfl hl
  | cons x l => exact block_lt_of_cell (hc 0 x rfl)
theorem Bools.fr {S : Nat → Prop} {w w' : World} {v : Value} {l : List Bool} (h : Bools w v l) (x : Fr S w w') (hk : l ≠ [] → ∀ k, v.ownBlock = some k → ¬ S k) : Bools w' v l := by
  obtain ⟨a, c, rfl, hl⟩ := h
  refine ⟨a, c, rfl, ?_⟩
  rcases hl with rfl | ⟨b, off, rfl, hc⟩
  · exact .inl rfl
  · exact .inr ⟨b, off, rfl, fun i y hy => x.cell (hc i y hy) (hk (fun e => by rw [e] at hy; simp at hy) b rfl)⟩
theorem AcOk.fr {S : Nat → Prop} {w w' : World} {D : Dk} {a : Ac} (h : AcOk w D a) (x : Fr S w w') (hS : ∀ g cap, a.v = .slice (some ⟨g, 0, none⟩) 512 cap → ¬ S g) : AcOk w' D a := by
  rcases h with ⟨h1, h2, h3, h4, g, cap, h5, h6, h7⟩ | h
  · exact .inl ⟨h1, h2, h3, h4, g, cap, h5, h6.fr x (hS g cap h5), h7⟩
  · exact .inr h
/-- all its rows -/
def Dk.all (D : Dk) (k : Nat) : Prop := D.has k ∨ D.kv.ownBlock = some k ∨ (∃ p ∈ D.pen, p.g = k) ∨ (∃ a ∈ D.tap, a.v.ownBlock = some k)
/-- what is done elsewhere leaves a disk as it is -/
theorem Disk.fr {S : Nat → Prop} {w w' : World} {D : Dk} (h : Disk w D) (x : Fr S w w') (hS : ∀ k, D.all k → ¬ S k) : Disk w' D where
  row := x.heap h.row (hS _ (.inl (.inl rfl)))
  las := h.las.fr x (hS _ (.inl (.inr (.inl rfl))))
  lasl := h.lasl
  nb0 := h.nb0
  nb1 := h.nb1
  nws := owns_fr h.nws x (fun k hk => by cases hk; exact hS _ (.inl (.inr (.inr (.inl rfl)))))
  pen := owns_fr h.pen x (fun k hk => hS _ (.inl (.inr (.inr (.inr (.inl hk))))))
  penb := fun p hp => ⟨(h.penb p hp).1, (h.penb p hp).2.1, (h.penb p hp).2.2.1.fr x (hS _ (.inr (.inr (.inl ⟨p, hp, rfl⟩)))), (h.penb p hp).2.2.2⟩
  tap := owns_fr h.tap x (fun k hk => hS _ (.inl (.inr (.inr (.inr (.inr hk))))))
  tapb := fun a ha => (h.tapb a ha).fr x (fun g cap hv => hS _ (.inr (.inr (.inr ⟨a, ha, by rw [hv]; rfl⟩))))
  kee := h.kee.fr x (fun _ k hk => hS _ (.inr (.inl hk)))
  keb := h.keb
  kel := fun k hk => Nat.lt_of_lt_of_le (h.kel k hk) x.size
  ap := h.ap
  dn := h.dn
  pl := h.pl
  tl := h.tl
  wrs := h.wrs
  fls := h.fls
  at1 := h.at1
theorem Disk.allLt {w : World} {D : Dk} (h : Disk w D) {k : Nat} (hk : D.all k) : k < w.heap.size := by
  rcases hk with hk | hk | ⟨p, hp, rfl⟩ | ⟨a, ha, hk⟩
  · exact h.hasLt hk
  · exact h.kel k hk
  · exact (h.penb p hp).2.2.1.lt
  · rcases h.tapb a ha with ⟨_, _, _, _, g, cap, h5, h6, _⟩ | ⟨_, _, h5, _⟩
    · rw [h5] at hk; cases hk; exact h6.lt
    · rw [h5] at hk; cases hk
theorem Disk.on {w w' : World} {D : Dk} (h : Disk w D) (x : Below w.heap.size w w') : Disk w' D :=
  h.fr (below_fr x (fun k => w.heap.size ≤ k)) (fun _ hk => Nat.not_le.2 (h.allLt hk))
end Go.Proofs.YtflienghgobmoaaGreatDoor

namespace Go.Proofs.YtflienghgobmoaaGreatDoor
open Go.RowKit Rec

def zsA (m : Nat) : List Int := List.replicate m 0
theorem zsA_length (m : Nat) : (zsA m).length = m := by simp [zsA]
theorem tmod_split (v : Int) (n : Nat) : v % n = (v.tmod n) % n := by
  have e := Int.mul_tdiv_add_tmod v n
  have e2 := Int.add_mul_emod_self_left (v.tmod n) n (v.tdiv n)
  rw [Int.add_comm, e] at e2
  exact e2
theorem tmod_pos (v : Int) (n : Nat) (h0 : 0 < n) (h : 0 ≤ v.tmod n) : v.tmod n = v % n := by
  rw [tmod_split, Int.emod_eq_of_lt h]
  have := Int.tmod_lt_of_pos v (b := n) (by omega)
  exact this
theorem tmod_neg (v : Int) (n : Nat) (h0 : 0 < n) (h : v.tmod n < 0) : v.tmod n + n = v % n := by
  have h2 : -(n : Int) < v.tmod n := by
    have := Int.tmod_lt_of_pos (-v) (b := n) (by omega)
    rw [Int.neg_tmod] at this
    omega
  rw [tmod_split, ← Int.add_emod_right, Int.emod_eq_of_lt (by omega) (by omega)]
set_option maxRecDepth 100000 in
set_option maxHeartbeats 800000 in
theorem mod_any (w : World) (v : Int) (n : Nat) (h0 : 0 < n) (h1 : n ≤ 1000000000) :
    Calls Tryz.prog 21 #[.int .i64 v, .int .i64 n] w fun e w' => e = .returned (.int .i64 (v % n)) ∧ w = w' := by
  go_enter Tryz.func21, Tryz.ntmps21
  by_cases h : v.tmod n < 0
  · have h2 : -(n : Int) ≤ v.tmod n := by
      have := tmod_neg v n h0 h
      have := Int.emod_nonneg v (b := n) (by omega)
      omega
    go_wp2
    go_ret
    refine ⟨?_, rfl⟩
    show Ending.returned (Value.int IntKind.i64 (v.tmod n + n)) = _
    rw [tmod_neg v n h0 h]
  · go_wp2
    go_ret
    refine ⟨?_, rfl⟩
    show Ending.returned (Value.int IntKind.i64 (v.tmod n)) = _
    rw [tmod_pos v n h0 (by omega)]
set_option maxRecDepth 100000 in
set_option maxHeartbeats 800000 in
theorem lblock_any (w : World) (x : Int) (hx : 0 ≤ x ∧ x < 256) :
    Calls Tryz.prog 35 #[.int .u8 x] w fun e w' => e = .returned (.slice (some ⟨w.heap.size, 0, none⟩) 512 512) ∧ OwnB w' w.heap.size 512 (one x) ∧ Below w.heap.size w w' := by
  go_enter Tryz.func35, Tryz.ntmps35
  go_wp2_with (at_make; refine wp_makeB rfl _ _ rfl _ _ _ _ 512 rfl rfl rfl rfl (by omega) ?_; intro w1 ho hb; have HO : Hid (OwnB w1 w.heap.size 512 (zsA 512)) := ho; have HB : Hid (Below w.heap.size w w1) := hb; clear ho hb)
  go_loopw [4, 8, 9, 10, 11, 12, 13, 14, 15] (fun _ i _ _ _ _ _ _ _ wr => ∃ k : Nat, k ≤ 512 ∧ i = .int .i64 k ∧ OwnB wr w.heap.size 512 (ov (zsA 512) 0 k (fun _ => x)) ∧ Below w.heap.size w wr) (fun _ i _ _ _ _ _ _ _ _ => 512 - (intOf i).toNat)
  case atStart => exact ⟨0, Nat.zero_le _, rfl, by rw [ov_zero]; exact HO.out, HB.out⟩
  case round =>
    obtain ⟨k, hk, rfl, how, hgr⟩ := hrel
    have HP : Hid (OwnB wr w.heap.size 512 (ov (zsA 512) 0 k (fun _ => x))) := how
    have HG : Hid (Below w.heap.size w wr) := hgr
    clear how hgr HO HB
    by_cases hlt : k < 512
    · have d := HP.out.cell k (by rw [ov_length, zsA_length]; exact hlt)
      have f := HP.out.frozen k
      have HQ : Hid (OwnB (wr.setCell ⟨w.heap.size, k, none⟩ (.int .u8 x)) w.heap.size 512 (ov (zsA 512) 0 (k + 1) (fun _ => x))) := by
        have e := HP.out.set k x (by rw [ov_length, zsA_length]; exact hlt) hx
        have e2 := ov_set (zsA 512) 0 k (fun _ => x) (by rw [zsA_length]; omega)
        rw [Nat.zero_add] at e2
        rwa [e2] at e
      go_wp2
      exact ⟨⟨_, hlt, rfl, HQ.out, HG.out.grown grown_set HG.out.size (by intro k hk; cases hk; exact Nat.le_refl _)⟩, by simp [intOf]; omega⟩
    · go_wp2
      obtain rfl : k = 512 := by omega
      go_ret
      refine ⟨rfl, ?_, HG.out⟩
      have e : ov (zsA 512) 0 512 (fun _ => x) = one x := ext_nth (by rw [ov_length, zsA_length, one, List.length_replicate]) fun i hi => by
        rw [ov_length, zsA_length] at hi
        rw [nth_ov _ _ _ _ _ (by rw [zsA_length]; exact hi), if_pos (by omega), one, nth_rep _ _ _ hi]
      rw [← e]; exact HP.out
end Go.Proofs.YtflienghgobmoaaGreatDoor

namespace Go.Proofs.YtflienghgobmoaaGreatDoor
open Go.RowKit Rec

set_option maxRecDepth 100000 in
set_option maxHeartbeats 800000 in
theorem bclone_any (w : World) (p : Addr) (n c : Nat) (l : List Int) (hb : Bytes w (some p) l) (hn : l.length = n) (h47 : n ≤ 140737488355328) :
    Calls Tryz.prog 19 #[.slice (some p) n c] w fun e w' => ∃ g cap, e = .returned (.slice (some ⟨g, 0, none⟩) n cap) ∧ w.heap.size ≤ g ∧ OwnB w' g cap l ∧ Below w.heap.size w w' := by
  have HB : Hid (Bytes w (some p) l) := hb
  have HN : Hid (l.length = n) := hn
  clear hb hn
  go_enter Tryz.func19, Tryz.ntmps19
  have E1 : ∀ w : World, (binOp .eql 22 (.slice (some p) n c) (.slice none 0 0)).run Tryz.prog w = .ok (.bool false) w := fun w => Go.Lib.run_eql_slice_some_nil w p n c Tryz.underlying22
  have HA : Hid (Below w.heap.size w (w.alloc (.cells #[] 5))) := (Below.refl _ _).alloc (Nat.le_refl _) _
  have HE : Hid (OwnB (w.alloc (.cells #[] 5)) w.heap.size 0 []) := own_empty (heap_alloc_new _ _)
  go_wp2_with (at_builtin; refine wp_app rfl (.tmp 5) (.tmp 6) rfl w.heap.size w.heap.size 0 0 [] l rfl rfl HE.out (Nat.le_refl _) HA.out.size (some p) n c rfl HN.out (HB.out.on HA.out) (fun h => by cases h) (by omega) ?_; intro g cap w2 hg ho hgr; have HG : Hid (w.heap.size ≤ g ∧ OwnB w2 g cap l ∧ Below w.heap.size w w2) := ⟨hg, ho, HA.out.grown hgr HA.out.size (by intro k hk; cases hk; exact Nat.le_refl _)⟩; clear hg ho hgr)
  go_ret
  exact ⟨_, _, rfl, HG.out.1, HG.out.2.1, HG.out.2.2⟩
/-- may a disk have so many blocks? -/
def isz (n : Int) : Bool := decide (1 ≤ n) && decide (n ≤ 16384)
set_option maxRecDepth 100000 in
set_option maxHeartbeats 800000 in
theorem isSize_any (w : World) (n : Int) : Calls Tryz.prog 17 #[.int .i64 n] w fun e w' => e = .returned (.bool (isz n)) ∧ w = w' := by
  go_enter Tryz.func17, Tryz.ntmps17
  unfold isz
  by_cases h1 : 1 ≤ n
  · by_cases h2 : n ≤ 16384
    · go_wp2
      go_ret
      exact ⟨by simp [h2]; omega, rfl⟩
    · go_wp2
      go_ret
      exact ⟨by simp; omega, rfl⟩
  · go_wp2
    go_ret
    exact ⟨by simp; omega, rfl⟩
/-- a disk on which nothing was done -/
def newDk (d L nw capL nb : Nat) (las : List Int) : Dk := { d := d, L := L, nw := nw, capL := capL, capN := nb, nb := nb, las := las, pv := .slice none 0 0, pen := [], tv := .slice none 0 0, tap := [], wr := 0, fl := 0, at_ := 0, kv := .slice none 0 0, keep := [], down := false }
theorem new_disk {w : World} {d L nw capL nb : Nat} {las : List Int} (hd : w.heap[d]? = some (.cells (newDk d L nw capL nb las).cells 90 (0, 0))) (hL : OwnB w L capL las) (hl : las.length = 512 * nb) (h0 : 1 ≤ nb) (h1 : nb ≤ 16384)
    (hn : w.ownsRow 0 3 1 (.slice (some ⟨nw, 0, none⟩) nb nb) nb ((zsA nb).map (Value.int .i64))) (a1 : d ≠ L) (a2 : d ≠ nw) (a3 : L ≠ nw) : Disk w (newDk d L nw capL nb las) where
  row := hd
  las := hL
  lasl := hl
  nb0 := h0
  nb1 := h1
  nws := by
    have e : newest (newDk d L nw capL nb las).f nb 0 = zsA nb := newest_zero _ _
    show w.ownsRow 0 3 1 (.slice (some ⟨nw, 0, none⟩) nb nb) nb ((newest (newDk d L nw capL nb las).f nb 0).map (Value.int .i64))
    rw [e]; exact hn
  pen := ⟨rfl, .inl ⟨rfl, rfl⟩⟩
  penb := fun p hp => by cases hp
  tap := ⟨rfl, .inl ⟨rfl, rfl⟩⟩
  tapb := fun p hp => by cases hp
  kee := ⟨none, 0, rfl, .inl rfl⟩
  keb := fun k hk => by cases hk
  kel := fun k hk => by cases hk
  ap := ⟨a1, a2, a3, (fun k hk => by cases hk), (fun k hk => by cases hk)⟩
  dn := fun _ => rfl
  pl := by show 0 ≤ _; omega
  tl := by show 0 ≤ _; omega
  wrs := by show 0 ≤ _; omega
  fls := by show 0 ≤ _; omega
  at1 := by show (0 : Int) ≤ _; omega
set_option maxRecDepth 100000 in
set_option maxHeartbeats 800000 in
theorem over_any (w : World) (L capL nb : Nat) (las : List Int) (hL : OwnB w L capL las) (hl : las.length = 512 * nb) (h0 : 1 ≤ nb) (h1 : nb ≤ 16384) :
    Calls Tryz.prog 18 #[.slice (some ⟨L, 0, none⟩) (512 * nb : Nat) capL] w fun e w' => ∃ d, e = .returned (.pointer (some ⟨d, 0, none⟩)) ∧ w.heap.size ≤ d ∧ Disk w' (newDk d L w.heap.size capL nb las) ∧ Below w.heap.size w w' := by
  have HL : Hid (OwnB w L capL las) := hL
  have HN : Hid (las.length = 512 * nb) := hl
  clear hL hl
  go_enter Tryz.func18, Tryz.ntmps18
  go_wp2_with (at_make; refine wp_makeI rfl _ _ rfl _ _ _ _ nb rfl rfl (by omega) (by omega) (by omega) ?_; intro w1 ho hb; have HO : Hid (w1.ownsRow 0 3 1 (.slice (some ⟨w.heap.size, 0, none⟩) nb nb) nb ((zsA nb).map (Value.int .i64))) := ho; have HB : Hid (Below w.heap.size w w1) := hb; clear ho hb)
  go_ret
  have hs : w.heap.size < w1.heap.size := owns_block HO.out rfl
  have hA : Below w1.heap.size w1 (w1.alloc (.cells (newDk w1.heap.size L w.heap.size capL nb las).cells 90)) := (Below.refl _ _).alloc (Nat.le_refl _) _
  have hL2 := HL.out.below HB.out HL.out.lt
  have hlt := HL.out.lt
  exact ⟨_, rfl, Nat.le_of_lt hs, new_disk (heap_alloc_new _ _) (hL2.on hA) HN.out h0 h1 (owns_fr HO.out (below_fr hA (fun k => w1.heap.size ≤ k)) (fun k hk => by cases hk; exact Nat.not_le.2 hs)) (by omega) (by omega) (by omega), HB.out.trans (hA.mono HB.out.size)⟩
set_option maxRecDepth 100000 in
set_option maxHeartbeats 800000 in
theorem open_yes (w : World) (p : Addr) (c nb : Nat) (l : List Int) (hb : Bytes w (some p) l) (hn : l.length = 512 * nb) (h0 : 1 ≤ nb) (h1 : nb ≤ 16384) :
    Calls Tryz.prog 6 #[.slice (some p) (512 * nb : Nat) c] w fun e w' => ∃ d nw L capL, e = .returned (.tuple #[.pointer (some ⟨d, 0, none⟩), .int .i64 0]) ∧ w.heap.size ≤ d ∧ w.heap.size ≤ nw ∧ w.heap.size ≤ L ∧ Disk w' (newDk d L nw capL nb l) ∧ Below w.heap.size w w' := by
  have HS : Hid (isz nb = true) := by unfold isz; rw [decide_eq_true (by omega), decide_eq_true (by omega)]; rfl
  have HI : Hid (Bytes w (some p) l) := hb
  have HN : Hid (l.length = 512 * nb) := hn
  clear hb hn
  go_enter Tryz.func6, Tryz.ntmps6
  go_wp2_with (first
    | (go_at_call 17; refine (isSize_any _ _).mono ?_; rintro e w' ⟨rfl, rfl⟩; rw [show isz _ = true from HS.out])
    | (go_at_call 19; refine (bclone_any _ p _ c l HI.out HN.out (by omega)).mono ?_; rintro e w1 ⟨g, cap, rfl, hg, ho, hb⟩; have HO : Hid (w.heap.size ≤ g ∧ OwnB w1 g cap l) := ⟨hg, ho⟩; have HB : Hid (Below w.heap.size w w1) := hb; clear hg ho hb)
    | (go_at_call 18; refine (over_any _ _ _ nb l HO.out.2 HN.out h0 h1).mono ?_; rintro e w2 ⟨d, rfl, hd, hD, hb2⟩; have HD : Hid (w1.heap.size ≤ d ∧ Disk w2 (newDk d _ w1.heap.size _ nb l) ∧ Below w1.heap.size w1 w2) := ⟨hd, hD, hb2⟩; clear hd hD hb2))
  go_ret2
  exact ⟨_, _, _, _, rfl, Nat.le_trans HB.out.size HD.out.1, HB.out.size, HO.out.1, HD.out.2.1, HB.out.trans (HD.out.2.2.mono HB.out.size)⟩
end Go.Proofs.YtflienghgobmoaaGreatDoor

namespace Go.Proofs.YtflienghgobmoaaGreatDoor
open Go.RowKit Rec

/-- a row of one's own is a slice -/
theorem owns_slice {w : World} {B e size n : Nat} {v : Value} {xs : List Value} (h : w.ownsRow B e size v n xs) : ∃ a c, v = .slice a n c ∧ n ≤ c ∧ (n = 0 ∨ ∃ g, a = some ⟨g, 0, none⟩) ∧ ∀ g o, a = some ⟨g, o, none⟩ → o = 0 ∧ (∀ j u, xs[j]? = some u → w.cell? ⟨g, j, none⟩ = some u) ∧ (∀ j, w.frozen? ⟨g, j, none⟩ = false) := by
  rcases h.2 with ⟨rfl, rfl⟩ | ⟨g, cap, cur, rfl, h1, hg, h2, h3, h4, h5⟩
  · exact ⟨none, 0, rfl, Nat.le_refl _, .inl rfl, fun g o hh => by cases hh⟩
  · refine ⟨_, _, rfl, h2, .inr ⟨g, rfl⟩, fun g' o hh => ?_⟩
    cases hh
    refine ⟨rfl, fun j u hj => ?_, fun j => frozen_of_row _ _ _ _ _ hg⟩
    have := h.cells (g := g) rfl j u hj
    rwa [Addr.add_lit, Nat.zero_add] at this

theorem flat2 (f : It → List Value) (l : List It) (k : Nat) (hk : k < l.length) (j : Nat) (hj : j < 2) (hf : ∀ p, (f p).length = 2 := by intro p; rfl) : (l.flatMap f)[k * 2 + j]? = (f l[k])[j]? := by
  induction l generalizing k with
  | nil => simp at hk
  | cons p l ih =>
    rw [List.flatMap_cons]
    cases k with
    | zero => rw [List.getElem?_append_left (by rw [hf]; omega)]; simp
    | succ k =>
      rw [List.getElem?_append_right (by rw [hf]; omega), hf, show (k + 1) * 2 + j - 2 = k * 2 + j by omega, ih k (by simpa using hk)]; rfl
theorem OwnB.sub {w : World} {g cap : Nat} {l : List Int} (h : OwnB w g cap l) (o n : Nat) (hn : o + n ≤ l.length) : Bytes w (some ⟨g, o, none⟩) ((l.drop o).take n) := by
  refine ⟨by have := h.len; rw [List.length_take, List.length_drop]; omega, wf_take (wf_drop h.wf o) n, .inr ⟨g, o, rfl, fun i hi => ?_⟩⟩
  rw [List.length_take] at hi
  rw [nth_take _ _ _ (by omega), nth_drop, h.cell (o + i) (by omega)]
set_option maxRecDepth 100000 in
set_option maxHeartbeats 800000 in
theorem blocks_any (w : World) (D : Dk) (h : Disk w D) : Calls Tryz.prog 114 #[.pointer (some ⟨D.d, 0, none⟩)] w fun e w' => e = .returned (.int .i64 D.nb) ∧ w = w' := by
  have C2 : w.cell? ⟨D.d, 2, none⟩ = some (.slice (some ⟨D.nw, 0, none⟩) D.nb D.capN) := h.cell 2
  have hb := h.nb1
  clear h
  go_enter Tryz.func114, Tryz.ntmps114
  go_wp2
  go_ret
  exact ⟨rfl, rfl⟩
set_option maxRecDepth 100000 in
set_option maxHeartbeats 800000 in
theorem steps_any (w : World) (D : Dk) (h : Disk w D) : Calls Tryz.prog 12 #[.pointer (some ⟨D.d, 0, none⟩)] w fun e w' => e = .returned (.tuple #[.int .i64 D.wr, .int .i64 D.fl]) ∧ Below w.heap.size w w' := by
  have C4 : w.cell? ⟨D.d, 4, none⟩ = some (.int .i64 D.wr) := h.cell 4
  have C5 : w.cell? ⟨D.d, 5, none⟩ = some (.int .i64 D.fl) := h.cell 5
  clear h
  go_enter Tryz.func12, Tryz.ntmps12
  go_wp2
  go_region
  all_goals (try go_wp2)
  all_goals go_ret2
  all_goals exact ⟨rfl, (Below.refl _ w).drew⟩
set_option maxRecDepth 100000 in
set_option maxHeartbeats 800000 in
theorem dblock_min (w : World) (d L nb capL : Nat) (C0 : w.cell? ⟨d, 0, none⟩ = some (.slice (some ⟨L, 0, none⟩) (512 * nb) capL)) (hb : nb ≤ 16384) (hr : 512 * nb ≤ capL) (i : Nat) (hi : i < nb) : Calls Tryz.prog 128 #[.pointer (some ⟨d, 0, none⟩), .int .i64 i] w fun e w' => e = .returned (.slice (some ⟨L, 512 * i, none⟩) 512 (capL - 512 * i)) ∧ w = w' := by
  go_enter Tryz.func128, Tryz.ntmps128
  go_wp2
  go_ret
  refine ⟨?_, rfl⟩
  show Ending.returned (Value.slice (some ⟨L, i * 512, none⟩) ((i + 1) * 512 - i * 512) (capL - i * 512)) = _
  rw [show (i + 1) * 512 - i * 512 = 512 by omega, Nat.mul_comm i 512]
theorem dblock_any (w : World) (D : Dk) (h : Disk w D) (i : Nat) (hi : i < D.nb) : Calls Tryz.prog 128 #[.pointer (some ⟨D.d, 0, none⟩), .int .i64 i] w fun e w' => e = .returned (.slice (some ⟨D.L, 512 * i, none⟩) 512 (D.capL - 512 * i)) ∧ w = w' :=
  dblock_min w D.d D.L D.nb D.capL (h.cell 0) h.nb1 (by have := h.las.room; rw [h.lasl] at this; exact this) i hi
/-- may it be touched? -/
def touchE (D : Dk) (i : Int) : Int := if D.down then 30 else if 0 ≤ i ∧ i < D.nb then 0 else 31
set_option maxRecDepth 100000 in
set_option maxHeartbeats 800000 in
theorem touch_any (w : World) (D : Dk) (h : Disk w D) (i : Int) : Calls Tryz.prog 142 #[.pointer (some ⟨D.d, 0, none⟩), .int .i64 i] w fun e w' => e = .returned (.int .i64 (touchE D i)) ∧ w = w' := by
  have C8 : w.cell? ⟨D.d, 8, none⟩ = some (.bool D.down) := h.cell 8
  have HD : Hid (Disk w D) := h
  clear h
  go_enter Tryz.func142, Tryz.ntmps142
  unfold touchE
  cases hd : D.down with
  | true =>
    rw [hd] at C8
    go_wp2
    go_ret
    exact ⟨rfl, rfl⟩
  | false =>
    rw [hd] at C8
    by_cases h1 : i < 0
    · go_wp2
      go_ret
      exact ⟨rfl, rfl⟩
    · by_cases h2 : i < D.nb
      · go_wp2_with (go_at_call 114; refine (blocks_any _ D HD.out).mono ?_; rintro e w' ⟨rfl, rfl⟩)
        go_ret
        exact ⟨rfl, rfl⟩
      · go_wp2_with (go_at_call 114; refine (blocks_any _ D HD.out).mono ?_; rintro e w' ⟨rfl, rfl⟩)
        go_ret
        exact ⟨rfl, rfl⟩
/-- what is read of it -/
def Dk.full (D : Dk) : List Int := lay (fun _ => true) D.f D.X D.las D.pen.length
theorem Dk.full_length (D : Dk) : D.full.length = D.las.length := lay_length _ _ _ _ _
theorem blk_length {l : List Int} {n i : Nat} (h : l.length = 512 * n) (hi : i < n) : (bck l i).length = 512 := by
  rw [bck, List.length_take, List.length_drop]; omega
theorem nth_blk {l : List Int} {n i : Nat} (_ : l.length = 512 * n) (_ : i < n) (j : Nat) (hj : j < 512) : nth (bck l i) j = nth l (512 * i + j) := by
  rw [bck, nth_take _ _ _ hj, nth_drop]
theorem penX (D : Dk) (k : Nat) (hk : k < D.pen.length) : ∃ p, D.pen[k]? = some p ∧ p ∈ D.pen ∧ D.f k = p.b ∧ D.X k = p.x ∧ (D.pen.flatMap It.cells)[k * 2]? = some (.int .i64 p.b) ∧ (D.pen.flatMap It.cells)[k * 2 + 1]? = some (.slice (some ⟨p.g, 0, none⟩) 512 p.cap) := by
  refine ⟨D.pen[k], by simp [hk], List.getElem_mem hk, by simp [Dk.f, List.getD, hk], by simp [Dk.X, List.getD, hk], ?_, ?_⟩
  · exact flat2 _ D.pen k hk 0 (by omega)
  · exact flat2 _ D.pen k hk 1 (by omega)
theorem fullBlk {w : World} {D : Dk} (h : Disk w D) (i : Nat) (hi : i < D.nb) : bck D.full i = if lst D.f i D.pen.length = 0 then bck D.las i else D.X (lst D.f i D.pen.length - 1) := by
  have hf : D.full.length = 512 * D.nb := by rw [Dk.full_length, h.lasl]
  have e1 := blk_length hf hi
  have e2 := blk_length h.lasl hi
  have hle := lst_le D.f i D.pen.length
  by_cases h0 : lst D.f i D.pen.length = 0
  · rw [if_pos h0]
    refine ext_nth (by rw [e1, e2]) fun j hj => ?_
    rw [e1] at hj
    rw [nth_blk hf hi j hj, nth_blk h.lasl hi j hj, Dk.full, nth_lay_all _ _ _ _ _ (by rw [h.lasl]; omega), show (512 * i + j) / 512 = i by omega, if_pos h0]
  · rw [if_neg h0]
    obtain ⟨p, _, hp, _, hx, _, _⟩ := penX D (lst D.f i D.pen.length - 1) (by omega)
    have e3 := (h.penb p hp).2.1
    refine ext_nth (by rw [e1, hx, e3]) fun j hj => ?_
    rw [e1] at hj
    rw [nth_blk hf hi j hj, Dk.full, nth_lay_all _ _ _ _ _ (by rw [h.lasl]; omega), show (512 * i + j) / 512 = i by omega, if_neg h0, show (512 * i + j) % 512 = j by omega]
set_option maxRecDepth 100000 in
set_option maxHeartbeats 800000 in
theorem read_no (w : World) (D : Dk) (h : Disk w D) (i : Int) (ht : touchE D i ≠ 0) : Calls Tryz.prog 104 #[.pointer (some ⟨D.d, 0, none⟩), .int .i64 i] w fun e w' => e = .returned (.tuple #[.slice none 0 0, .int .i64 (touchE D i)]) ∧ w = w' := by
  have HD : Hid (Disk w D) := h
  clear h
  have hn : (touchE D i == 0) = false := by simpa using ht
  go_enter Tryz.func104, Tryz.ntmps104
  go_wp2_with (go_at_call 142; refine (touch_any _ D HD.out i).mono ?_; rintro e w' ⟨rfl, rfl⟩)
  go_ret2
  exact ⟨rfl, rfl⟩
set_option maxRecDepth 100000 in
set_option maxHeartbeats 800000 in
theorem read_yes (w : World) (D : Dk) (h : Disk w D) (i : Nat) (hi : i < D.nb) (hd : D.down = false) : Calls Tryz.prog 104 #[.pointer (some ⟨D.d, 0, none⟩), .int .i64 i] w fun e w' => ∃ g cap, e = .returned (.tuple #[.slice (some ⟨g, 0, none⟩) 512 cap, .int .i64 0]) ∧ w.heap.size ≤ g ∧ OwnB w' g cap (bck D.full i) ∧ Below w.heap.size w w' := by
  have HD : Hid (Disk w D) := h
  have HT : Hid (touchE D i = 0) := by unfold touchE; rw [hd, if_neg (by decide), if_pos (by omega)]; exact rfl
  have C2 : w.cell? ⟨D.d, 2, none⟩ = some (.slice (some ⟨D.nw, 0, none⟩) D.nb D.capN) := h.cell 2
  have C1 : w.cell? ⟨D.d, 1, none⟩ = some D.pv := h.cell 1
  have hb := h.nb1
  have HF := fullBlk h i hi
  have hle := lst_le D.f i D.pen.length
  have hN : w.cell? ⟨D.nw, i, none⟩ = some (.int .i64 (lst D.f i D.pen.length)) := by
    have e := h.nws.cells (g := D.nw) rfl i (.int .i64 (lst D.f i D.pen.length)) (by simp [newest, hi])
    rwa [Addr.add_lit, Nat.zero_add] at e
  have hpl := h.pl
  by_cases h0 : lst D.f i D.pen.length = 0
  · rw [h0] at hN
    rw [if_pos h0] at HF
    have HL : Hid (Bytes w (some ⟨D.L, 512 * i, none⟩) (bck D.las i)) := h.las.sub (512 * i) 512 (by rw [h.lasl]; omega)
    have HN : Hid ((bck D.las i).length = 512) := blk_length h.lasl hi
    have HF' : Hid (bck D.full i = bck D.las i) := HF
    clear h HF h0 hle
    go_enter Tryz.func104, Tryz.ntmps104
    go_wp2_with (first
      | (go_at_call 142; refine (touch_any _ D HD.out i).mono ?_; rintro e w' ⟨rfl, rfl⟩; rw [HT.out])
      | (go_at_call 128; refine (dblock_any _ D HD.out i hi).mono ?_; rintro e w' ⟨rfl, rfl⟩)
      | (go_at_call 19; refine (bclone_any _ _ _ _ _ HL.out HN.out (by omega)).mono ?_; rintro e w1 ⟨g, cap, rfl, hg, ho, hb⟩; have HG : Hid (w.heap.size ≤ g ∧ OwnB w1 g cap (bck D.las i) ∧ Below w.heap.size w w1) := ⟨hg, ho, hb⟩; clear hg ho hb))
    go_ret2
    rw [HF'.out]
    exact ⟨_, _, rfl, HG.out⟩
  · obtain ⟨p, _, hp, _, hx, c1, c2⟩ := penX D (lst D.f i D.pen.length - 1) (by omega)
    obtain ⟨a, c, hv, hc, hg, hcc⟩ := owns_slice h.pen
    obtain ⟨g, rfl⟩ := hg.resolve_left (by omega)
    have c2' := (hcc g 0 rfl).2.1 _ _ c2
    rw [hv] at C1
    rw [if_neg h0, hx] at HF
    have HF' : Hid (bck D.full i = p.x) := HF
    have HL : Hid (Bytes w (some ⟨p.g, 0, none⟩) p.x) := (h.penb p hp).2.2.1.bytes
    have HN : Hid (p.x.length = 512) := (h.penb p hp).2.1
    clear h HF hcc c1 c2 hx hp
    generalize lst D.f i D.pen.length = k at *
    obtain ⟨m, rfl⟩ : ∃ m, k = m + 1 := ⟨k - 1, by omega⟩
    simp only [Nat.add_sub_cancel] at c2'
    go_enter Tryz.func104, Tryz.ntmps104
    go_wp2_with (first
      | (go_at_call 142; refine (touch_any _ D HD.out i).mono ?_; rintro e w' ⟨rfl, rfl⟩; rw [HT.out])
      | (go_at_call 19; refine (bclone_any _ _ _ _ _ HL.out HN.out (by omega)).mono ?_; rintro e w1 ⟨g, cap, rfl, hg, ho, hb⟩; have HG : Hid (w.heap.size ≤ g ∧ OwnB w1 g cap p.x ∧ Below w.heap.size w w1) := ⟨hg, ho, hb⟩; clear hg ho hb))
    go_ret2
    rw [HF'.out]
    exact ⟨_, _, rfl, HG.out⟩
end Go.Proofs.YtflienghgobmoaaGreatDoor
