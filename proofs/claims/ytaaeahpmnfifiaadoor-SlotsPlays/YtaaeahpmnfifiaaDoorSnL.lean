import Derived.Test.YtaaeahpmnfifiaaDoorSnK
namespace Go.Proofs.YtaaeahpmnfifiaaDoor
open Go.RowKit Rec Sc
/-- sixteen told cells in an array -/
structure HvE (w : World) (h : Nat) (xs : List ET) : Prop where
  row : w.heap[h]? = some (.cells (eC xs).toArray 28 (0, 0))
  len : xs.length = 16
theorem HvE.cell {w : World} {h : Nat} {xs : List ET} (H : HvE w h xs) {k : Nat} {q : ET} (hk : xs[k]? = some q) :
    w.cell? ⟨h, k * 3, none⟩ = some (.int .i64 q.1) ∧ w.cell? ⟨h, k * 3 + 1, none⟩ = some (.string q.2.1) ∧ w.cell? ⟨h, k * 3 + 2, none⟩ = some (.int .i64 q.2.2) := by
  obtain ⟨a, b, c⟩ := eC_at xs k q hk
  exact ⟨(cell_of_row _ _ _ _ _ _ H.row).trans (by simpa using a), (cell_of_row _ _ _ _ _ _ H.row).trans (by simpa using b), (cell_of_row _ _ _ _ _ _ H.row).trans (by simpa using c)⟩
theorem HvE.frozen {w : World} {h : Nat} {xs : List ET} (H : HvE w h xs) (i : Nat) : w.frozen? ⟨h, i, none⟩ = false := frozen_of_row _ _ _ _ _ H.row
theorem HvE.keep {w w' : World} {h : Nat} {xs : List ET} (H : HvE w h xs) (hb : w'.heap[h]? = w.heap[h]?) : HvE w' h xs := ⟨hb.trans H.row, H.len⟩
theorem HvE.on {w w' : World} {h : Nat} {xs : List ET} (H : HvE w h xs) (hb : Below w.heap.size w w') : HvE w' h xs := H.keep (hb.block h (heap_lt H.row))
theorem HvE.set {w : World} {h : Nat} {xs : List ET} (H : HvE w h xs) (k : Nat) (q : ET) :
    HvE (((w.setCell ⟨h, k * 3, none⟩ (.int .i64 q.1)).setCell ⟨h, k * 3 + 1, none⟩ (.string q.2.1)).setCell ⟨h, k * 3 + 2, none⟩ (.int .i64 q.2.2)) h (xs.set k q) := by
  refine ⟨?_, by rw [List.length_set]; exact H.len⟩
  rw [heap_setCell_same _ _ _ _ _ _ (heap_setCell_same _ _ _ _ _ _ (heap_setCell_same _ _ _ _ _ _ H.row)), ← eC_set]
  simp
/-- what the law keeps beside the block -/
def hvE (f : Nat → Option Ent) (k : Nat) : ET :=
  match f k with
  | none => (0, ⟨#[]⟩, 0)
  | some e => ((k : Int), e.nm, e.ino)
def hvL (f : Nat → Option Ent) : List ET := (List.range 16).map (hvE f)
theorem hvL_at (f : Nat → Option Ent) {k : Nat} (hk : k < 16) : (hvL f)[k]? = some (hvE f k) := by simp [hvL, hk]
theorem hvL_set (f : Nat → Option Ent) {p : Nat} (o : Option Ent) : (hvL f).set p (hvE (upd f p o) p) = hvL (upd f p o) := by
  apply List.ext_getElem?
  intro k
  by_cases hk : k < 16
  · rw [hvL_at _ hk]
    by_cases e : k = p
    · subst e; rw [List.getElem?_set_self (by simp [hvL]; exact hk)]
    · rw [List.getElem?_set_ne (fun h => e h.symm), hvL_at _ hk]
      simp only [hvE, upd, if_neg e]
  · rw [List.getElem?_eq_none (by simp [hvL]; omega), List.getElem?_eq_none (by simp [hvL]; omega)]
/-- the law's cells -/
abbrev CT := Int × Int × Int × ByteArray
def CelAt (w : World) (a : Option Addr) (L : List CT) : Prop := (∀ c, c ∈ L → c.2.2.2.size ≤ 9223372036854775807) ∧ (L = [] ∨ ∃ b off, a = some ⟨b, off, none⟩ ∧ ∀ k c, L[k]? = some c → w.cell? ⟨b, off + k * 4, none⟩ = some (.int .i64 c.1) ∧ w.cell? ⟨b, off + k * 4 + 1, none⟩ = some (.int .i64 c.2.1) ∧ w.cell? ⟨b, off + k * 4 + 2, none⟩ = some (.int .i64 c.2.2.1) ∧ w.cell? ⟨b, off + k * 4 + 3, none⟩ = some (.string c.2.2.2))
theorem CelAt.at {w : World} {a : Option Addr} {L : List CT} (h : CelAt w a L) {k : Nat} (hk : k < L.length) {wx : World} (hb : Below w.heap.size w wx) : ∃ b off, ∃ c : CT, a = some ⟨b, off, none⟩ ∧ c.2.2.2.size ≤ 9223372036854775807 ∧ wx.cell? ⟨b, off + k * 4, none⟩ = some (.int .i64 c.1) ∧ wx.cell? ⟨b, off + k * 4 + 1, none⟩ = some (.int .i64 c.2.1) ∧ wx.cell? ⟨b, off + k * 4 + 2, none⟩ = some (.int .i64 c.2.2.1) ∧ wx.cell? ⟨b, off + k * 4 + 3, none⟩ = some (.string c.2.2.2) := by
  obtain ⟨h0, h⟩ := h
  rcases h with h | ⟨b, off, e, hc⟩
  · subst h; cases hk
  · obtain ⟨a0, a1, a2, a3⟩ := hc k _ (List.getElem?_eq_getElem hk)
    exact ⟨b, off, L[k], e, h0 _ (List.getElem_mem _), (hb.cell (block_lt_of_cell a0)).trans a0, (hb.cell (block_lt_of_cell a1)).trans a1, (hb.cell (block_lt_of_cell a2)).trans a2, (hb.cell (block_lt_of_cell a3)).trans a3⟩
def IntAt (w : World) (a : Option Addr) (L : List Int) : Prop := L = [] ∨ ∃ b off, a = some ⟨b, off, none⟩ ∧ ∀ k, k < L.length → w.cell? ⟨b, off + k, none⟩ = some (.int .i64 (nth L k))
theorem IntAt.at {w : World} {a : Option Addr} {L : List Int} (h : IntAt w a L) {k : Nat} (hk : k < L.length) {wx : World} (hb : Below w.heap.size w wx) : ∃ b off v, a = some ⟨b, off, none⟩ ∧ wx.cell? ⟨b, off + k, none⟩ = some (.int .i64 v) := by
  rcases h with h | ⟨b, off, e, hc⟩
  · subst h; cases hk
  · have a0 := hc k hk
    exact ⟨b, off, _, e, (hb.cell (block_lt_of_cell a0)).trans a0⟩
/-- the law's state -/
structure SbI (w wr : World) (g h : Nat) (f : Nat → Option Ent) : Prop where
  bel : Below w.heap.size w wr
  own : ∃ L, OwnB wr g 512 L ∧ Bk L f
  hv : HvE wr h (hvL f)
  g0 : w.heap.size ≤ g
  h0 : w.heap.size ≤ h
  ne : g ≠ h
theorem SbI.on {w wr wx : World} {g h : Nat} {f : Nat → Option Ent} (H : SbI w wr g h f) (hb : Below wr.heap.size wr wx) : SbI w wx g h f := by
  obtain ⟨L, h1, h2⟩ := H.own
  exact ⟨H.bel.trans (hb.mono H.bel.size), ⟨L, h1.on hb, h2⟩, H.hv.on hb, H.g0, H.h0, H.ne⟩
/-- between a Put or a Clear and the note of it -/
structure SbH (w wr : World) (g h : Nat) (f f' : Nat → Option Ent) : Prop where
  bel : Below w.heap.size w wr
  own : ∃ L, OwnB wr g 512 L ∧ Bk L f'
  hv : HvE wr h (hvL f)
  g0 : w.heap.size ≤ g
  h0 : w.heap.size ≤ h
  ne : g ≠ h
theorem SbI.put {w wr : World} {g h : Nat} {f : Nat → Option Ent} (H : SbI w wr g h f) (hT : TabAt w) (k : Nat) (e : Ent) (hk : k < 16) (he : Sc.good e) :
    Calls Tryd.prog 10 #[.slice (some ⟨g, 0, none⟩) 512 512, eV k e.nm e.ino] wr fun r w' => r = .returned (.int .i64 0) ∧ SbH w w' g h f (upd f k (some e)) ∧ wr.grownBy w' (some g) := by
  obtain ⟨L, h1, h2⟩ := H.own
  have hg0 : g ≠ 0 := by have := H.g0; have := hT.size; omega
  refine (sput_ok wr g 512 512 L k e hk h1 (by rw [h2.len]; omega) (by omega) (hT.on H.bel) hg0 he).mono ?_
  rintro r w' ⟨rfl, o1, o2⟩
  refine ⟨rfl, ⟨H.bel.grown o2 H.bel.size (fun j e => by cases e; exact H.g0), ⟨_, o1, h2.set hk (o := some e) (fun e' h => by cases h; exact he)⟩, H.hv.keep (o2.block h (heap_lt H.hv.row) (fun e => H.ne (by cases e; rfl))), H.g0, H.h0, H.ne⟩, o2⟩
theorem SbI.clr {w wr : World} {g h : Nat} {f : Nat → Option Ent} (H : SbI w wr g h f) (k : Nat) (hk : k < 16) :
    Calls Tryd.prog 12 #[.slice (some ⟨g, 0, none⟩) 512 512, .int .i64 k] wr fun r w' => r = .returned (.int .i64 0) ∧ SbH w w' g h f (upd f k none) := by
  obtain ⟨L, h1, h2⟩ := H.own
  refine (clr_ok wr g 512 512 L k hk h1 (by rw [h2.len]; omega) (by omega)).mono ?_
  rintro r w' ⟨rfl, o1, o2⟩
  refine ⟨rfl, ⟨H.bel.grown o2 H.bel.size (fun j e => by cases e; exact H.g0), ⟨_, o1, h2.set hk (o := none) (fun e' h => by cases h)⟩, H.hv.keep (o2.block h (heap_lt H.hv.row) (fun e => H.ne (by cases e; rfl))), H.g0, H.h0, H.ne⟩⟩
theorem SbH.note {w wr : World} {g h : Nat} {f : Nat → Option Ent} {k : Nat} {o : Option Ent} (H : SbH w wr g h f (upd f k o)) (q : ET) (hq : hvE (upd f k o) k = q) :
    SbI w (((wr.setCell ⟨h, k * 3, none⟩ (.int .i64 q.1)).setCell ⟨h, k * 3 + 1, none⟩ (.string q.2.1)).setCell ⟨h, k * 3 + 2, none⟩ (.int .i64 q.2.2)) g h (upd f k o) := by
  subst hq
  obtain ⟨L, h1, h2⟩ := H.own
  refine ⟨((H.bel.setCell H.h0 _).setCell H.h0 _).setCell H.h0 _, ⟨L, ?_, h2⟩, ?_, H.g0, H.h0, H.ne⟩
  · refine ((h1.grown (r := some h) grown_set ?_).grown (r := some h) grown_set ?_).grown (r := some h) grown_set ?_ <;> exact fun e => H.ne (by cases e; rfl)
  · have := H.hv.set k (hvE (upd f k o) k)
    rw [hvL_set] at this
    exact this
theorem SbH.cells {w wr : World} {g h : Nat} {f f' : Nat → Option Ent} (H : SbH w wr g h f f') {k : Nat} (hk : k < 16) :
    ∃ q : ET, (wr.cell? ⟨h, k * 3, none⟩ = some (.int .i64 q.1) ∧ wr.cell? ⟨h, k * 3 + 1, none⟩ = some (.string q.2.1) ∧ wr.cell? ⟨h, k * 3 + 2, none⟩ = some (.int .i64 q.2.2)) ∧ wr.frozen? ⟨h, k * 3, none⟩ = false ∧ wr.frozen? ⟨h, k * 3 + 1, none⟩ = false ∧ wr.frozen? ⟨h, k * 3 + 2, none⟩ = false :=
  ⟨_, H.hv.cell (hvL_at f hk), H.hv.frozen _, H.hv.frozen _, H.hv.frozen _⟩
def z48 : Array Value := #[.int .i64 0, .string ⟨#[]⟩, .int .i64 0, .int .i64 0, .string ⟨#[]⟩, .int .i64 0, .int .i64 0, .string ⟨#[]⟩, .int .i64 0, .int .i64 0, .string ⟨#[]⟩, .int .i64 0, .int .i64 0, .string ⟨#[]⟩, .int .i64 0, .int .i64 0, .string ⟨#[]⟩, .int .i64 0, .int .i64 0, .string ⟨#[]⟩, .int .i64 0, .int .i64 0, .string ⟨#[]⟩, .int .i64 0, .int .i64 0, .string ⟨#[]⟩, .int .i64 0, .int .i64 0, .string ⟨#[]⟩, .int .i64 0, .int .i64 0, .string ⟨#[]⟩, .int .i64 0, .int .i64 0, .string ⟨#[]⟩, .int .i64 0, .int .i64 0, .string ⟨#[]⟩, .int .i64 0, .int .i64 0, .string ⟨#[]⟩, .int .i64 0, .int .i64 0, .string ⟨#[]⟩, .int .i64 0, .int .i64 0, .string ⟨#[]⟩, .int .i64 0]
theorem z48_eq : z48 = (eC (hvL (fun _ => none))).toArray := by rfl
theorem SbI.start {w w1 : World} {o : Obj} (hO : ∀ w : World, OwnB (w.alloc o) w.heap.size 512 z512) (hb : Below w.heap.size w w1) :
    SbI w ((w1.alloc o).alloc (.cells z48 28)) w1.heap.size (w1.heap.size + 1) (fun _ => none) := by
  have h1 : Below w1.heap.size w1 (w1.alloc o) := (Below.refl _ _).alloc (Nat.le_refl _) _
  have h2 : Below (w1.alloc o).heap.size (w1.alloc o) ((w1.alloc o).alloc (.cells z48 28)) := (Below.refl _ _).alloc (Nat.le_refl _) _
  refine ⟨hb.trans ((h1.trans (h2.mono h1.size)).mono hb.size), ⟨z512, (hO w1).on h2, Bk.zero⟩, ⟨?_, by simp [hvL]⟩, hb.size, Nat.le_succ_of_le hb.size, by omega⟩
  have := heap_alloc_new (w1.alloc o) (.cells z48 28)
  rw [World.size_alloc] at this
  rw [this, z48_eq]
end Go.Proofs.YtaaeahpmnfifiaaDoor
