import Derived.Test.YtccocjipgbeaeabOwn
namespace Go.Proofs.Ytccocjipgbeaeab
open Go.RowKit Adk

/-- a pending write: its block, where its bytes lie, its bytes -/
structure It where
  b : Nat
  g : Nat
  cap : Nat
  x : List Int
def It.cells (p : It) : List Value := [.int .i64 p.b, .slice (some ⟨p.g, 0, none⟩) 512 p.cap]
/-- an act of the tape -/
structure Ac where
  kind : Int
  b : Int
  v : Value
  x : List Int
def Ac.cells (p : Ac) : List Value := [.int .i64 p.kind, .int .i64 p.b, p.v]
/-- a disk: where it lies and what it holds -/
structure Dk where
  d : Nat
  L : Nat
  nw : Nat
  capL : Nat
  capN : Nat
  nb : Nat
  las : List Int
  pv : Value
  pen : List It
  tv : Value
  tap : List Ac
  wr : Nat
  fl : Nat
  at_ : Int
  kv : Value
  keep : List Bool
  down : Bool
def Dk.f (D : Dk) (k : Nat) : Nat := (D.pen.map It.b).getD k 0
def Dk.X (D : Dk) (k : Nat) : List Int := (D.pen.map It.x).getD k []
/-- its rows that may change -/
def Dk.has (D : Dk) (k : Nat) : Prop := k = D.d ∨ k = D.L ∨ k = D.nw ∨ D.pv.ownBlock = some k ∨ D.tv.ownBlock = some k
def Dk.cells (D : Dk) : Array Value := #[.slice (some ⟨D.L, 0, none⟩) (512 * D.nb) D.capL, D.pv, .slice (some ⟨D.nw, 0, none⟩) D.nb D.capN, D.tv, .int .i64 D.wr, .int .i64 D.fl, .int .i64 D.at_, D.kv, .bool D.down]
/-- bools in memory -/
def Bools (w : World) (v : Value) (l : List Bool) : Prop := ∃ a c, v = .slice a l.length c ∧ (l = [] ∨ ∃ b off, a = some ⟨b, off, none⟩ ∧ ∀ i x, l[i]? = some x → w.cell? ⟨b, off + i, none⟩ = some (.bool x))
def AcOk (w : World) (D : Dk) (a : Ac) : Prop :=
  (a.kind = 1 ∧ 0 ≤ a.b ∧ a.b < D.nb ∧ a.x.length = 512 ∧ ∃ g cap, a.v = .slice (some ⟨g, 0, none⟩) 512 cap ∧ OwnB w g cap a.x ∧ ¬ D.has g) ∨ (a.kind = 2 ∧ a.b = 0 ∧ a.v = .slice none 0 0 ∧ a.x = [])
structure Apart (D : Dk) : Prop where
  dL : D.d ≠ D.L
  dn : D.d ≠ D.nw
  Ln : D.L ≠ D.nw
  p : ∀ k, D.pv.ownBlock = some k → k ≠ D.d ∧ k ≠ D.L ∧ k ≠ D.nw ∧ D.tv.ownBlock ≠ some k
  t : ∀ k, D.tv.ownBlock = some k → k ≠ D.d ∧ k ≠ D.L ∧ k ≠ D.nw ∧ D.pv.ownBlock ≠ some k
structure Disk (w : World) (D : Dk) : Prop where
  row : w.heap[D.d]? = some (.cells D.cells 75 (0, 0))
  las : OwnB w D.L D.capL D.las
  lasl : D.las.length = 512 * D.nb
  nb0 : 1 ≤ D.nb
  nb1 : D.nb ≤ 16384
  nws : w.ownsRow 0 3 1 (.slice (some ⟨D.nw, 0, none⟩) D.nb D.capN) D.nb ((newest D.f D.nb D.pen.length).map (Value.int .i64))
  pen : w.ownsRow 0 106 2 D.pv D.pen.length (D.pen.flatMap It.cells)
  penb : ∀ p ∈ D.pen, p.b < D.nb ∧ p.x.length = 512 ∧ OwnB w p.g p.cap p.x ∧ ¬ D.has p.g
  tap : w.ownsRow 0 80 3 D.tv D.tap.length (D.tap.flatMap Ac.cells)
  tapb : ∀ a ∈ D.tap, AcOk w D a
  kee : Bools w D.kv D.keep
  keb : ∀ k, D.kv.ownBlock = some k → ¬ D.has k
  kel : ∀ k, D.kv.ownBlock = some k → k < w.heap.size
  ap : Apart D
  dn : D.down = true → D.pen = []
  pl : D.pen.length ≤ 4294967296
  tl : D.tap.length ≤ 4294967296
  wrs : D.wr ≤ 4294967296
  fls : D.fl ≤ 4294967296
  at1 : D.at_ ≤ 9223372036854775807

theorem Disk.cell {w : World} {D : Dk} (h : Disk w D) (j : Nat) : w.cell? ⟨D.d, j, none⟩ = D.cells[j]? := cell_of_row _ _ _ _ _ _ h.row
theorem Disk.lt {w : World} {D : Dk} (h : Disk w D) : D.d < w.heap.size := heap_lt h.row
theorem Disk.hasLt {w : World} {D : Dk} (h : Disk w D) {k : Nat} (hk : D.has k) : k < w.heap.size := by
  rcases hk with rfl | rfl | rfl | hk | hk
  · exact heap_lt h.row
  · exact h.las.lt
  · exact owns_block h.nws rfl
  · exact owns_block h.pen hk
  · exact owns_block h.tap hk
theorem OwnB.fr {S : Nat → Prop} {w w' : World} {g cap : Nat} {l : List Int} (h : OwnB w g cap l) (x : Fr S w w') (hk : ¬ S g) : OwnB w' g cap l := by
  obtain ⟨cur, hg, h2, h3⟩ := h.row
  exact ⟨⟨cur, x.heap hg hk, h2, h3⟩, h.len, h.room, h.top, h.wf⟩
theorem Bools.lt {w : World} {v : Value} {l : List Bool} (h : Bools w v l) (hl : l ≠ []) {k : Nat} (hk : v.ownBlock = some k) : k < w.heap.size := by
  obtain ⟨a, c, rfl, hb⟩ := h
  obtain ⟨b, off, rfl, hc⟩ := hb.resolve_left hl
  cases hk
  cases l with
  | nil => exact absurd rfl hl
  | cons x l => exact block_lt_of_cell (hc 0 x rfl)
theorem Bools.fr {S : Nat → Prop} {w w' : World} {v : Value} {l : List Bool} (h : Bools w v l) (x : Fr S w w') (hk : l ≠ [] → ∀ k, v.ownBlock = some k → ¬ S k) : Bools w' v l := by
  obtain ⟨a, c, rfl, hl⟩ := h
  refine ⟨a, c, rfl, ?_⟩
  rcases hl with rfl | ⟨b, off, rfl, hc⟩
  · exact .inl rfl
  · exact .inr ⟨b, off, rfl, fun i y hy => x.cell (hc i y hy) (hk (fun e => by rw [e] at hy; simp at hy) b rfl)⟩
theorem AcOk.fr {S : Nat → Prop} {w w' : World} {D : Dk} {a : Ac} (h : AcOk w D a) (x : Fr S w w') (hS : ∀ g cap, a.v = .slice (some ⟨g, 0, none⟩) 512 cap → ¬ S g) : AcOk w' D a := by
  rcases h with ⟨h1, h2, h3, h4, g, cap, h5, h6, h7⟩ | h
  · exact .inl ⟨h1, h2, h3, h4, g, cap, h5, h6.fr x (hS g cap h5), h7⟩
  · exact .inr h
/-- all its rows -/
def Dk.all (D : Dk) (k : Nat) : Prop := D.has k ∨ D.kv.ownBlock = some k ∨ (∃ p ∈ D.pen, p.g = k) ∨ (∃ a ∈ D.tap, a.v.ownBlock = some k)
/-- what is done elsewhere leaves a disk as it is -/
theorem Disk.fr {S : Nat → Prop} {w w' : World} {D : Dk} (h : Disk w D) (x : Fr S w w') (hS : ∀ k, D.all k → ¬ S k) : Disk w' D where
  row := x.heap h.row (hS _ (.inl (.inl rfl)))
  las := h.las.fr x (hS _ (.inl (.inr (.inl rfl))))
  lasl := h.lasl
  nb0 := h.nb0
  nb1 := h.nb1
  nws := owns_fr h.nws x (fun k hk => by cases hk; exact hS _ (.inl (.inr (.inr (.inl rfl)))))
  pen := owns_fr h.pen x (fun k hk => hS _ (.inl (.inr (.inr (.inr (.inl hk))))))
  penb := fun p hp => ⟨(h.penb p hp).1, (h.penb p hp).2.1, (h.penb p hp).2.2.1.fr x (hS _ (.inr (.inr (.inl ⟨p, hp, rfl⟩)))), (h.penb p hp).2.2.2⟩
  tap := owns_fr h.tap x (fun k hk => hS _ (.inl (.inr (.inr (.inr (.inr hk))))))
  tapb := fun a ha => (h.tapb a ha).fr x (fun g cap hv => hS _ (.inr (.inr (.inr ⟨a, ha, by rw [hv]; rfl⟩))))
  kee := h.kee.fr x (fun _ k hk => hS _ (.inr (.inl hk)))
  keb := h.keb
  kel := fun k hk => Nat.lt_of_lt_of_le (h.kel k hk) x.size
  ap := h.ap
  dn := h.dn
  pl := h.pl
  tl := h.tl
  wrs := h.wrs
  fls := h.fls
  at1 := h.at1
theorem Disk.allLt {w : World} {D : Dk} (h : Disk w D) {k : Nat} (hk : D.all k) : k < w.heap.size := by
  rcases hk with hk | hk | ⟨p, hp, rfl⟩ | ⟨a, ha, hk⟩
  · exact h.hasLt hk
  · exact h.kel k hk
  · exact (h.penb p hp).2.2.1.lt
  · rcases h.tapb a ha with ⟨_, _, _, _, g, cap, h5, h6, _⟩ | ⟨_, _, h5, _⟩
    · rw [h5] at hk; cases hk; exact h6.lt
    · rw [h5] at hk; cases hk
theorem Disk.on {w w' : World} {D : Dk} (h : Disk w D) (x : Below w.heap.size w w') : Disk w' D :=
  h.fr (below_fr x (fun k => w.heap.size ≤ k)) (fun _ hk => Nat.not_le.2 (h.allLt hk))
end Go.Proofs.Ytccocjipgbeaeab
