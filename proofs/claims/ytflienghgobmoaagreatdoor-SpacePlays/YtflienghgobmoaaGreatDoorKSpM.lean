import Derived.Test.YtflienghgobmoaaGreatDoorKOwn
import Derived.Test.YtflienghgobmoaaGreatDoorKBzA
namespace Go.Proofs.YtflienghgobmoaaGreatDoor
open Rec

/-- how many numbers below n have it -/
def ct (f : Nat → Bool) : Nat → Nat
  | 0 => 0
  | n + 1 => ct f n + (if f n then 1 else 0)
theorem ct_add (f : Nat → Bool) (a n : Nat) : ct f (a + n) = ct f a + ct (fun j => f (a + j)) n := by
  induction n with
  | zero => rfl
  | succ n ih => rw [← Nat.add_assoc, ct, ct, ih]; omega
theorem ct_cong {f g : Nat → Bool} {n : Nat} (h : ∀ j, j < n → f j = g j) : ct f n = ct g n := by
  induction n with
  | zero => rfl
  | succ n ih => rw [ct, ct, ih (fun j hj => h j (by omega)), h n (by omega)]
theorem ct_le (f : Nat → Bool) (n : Nat) : ct f n ≤ n := by
  induction n with
  | zero => exact Nat.le_refl _
  | succ n ih => rw [ct]; split <;> omega
theorem ct_zero {f : Nat → Bool} {n : Nat} : ct f n = 0 ↔ ∀ j, j < n → f j = false := by
  induction n with
  | zero => exact ⟨fun _ j hj => by omega, fun _ => rfl⟩
  | succ n ih =>
    rw [ct]
    constructor
    · intro h j hj
      by_cases e : f n = true
      · rw [if_pos e] at h; omega
      · rw [if_neg e] at h
        by_cases ej : j = n
        · subst ej; simpa using e
        · exact ih.1 (by omega) j (by omega)
    · intro h
      rw [ih.2 (fun j hj => h j (by omega)), h n (by omega)]
      rfl
/-- the lowest that has it -/
def IsLo (f : Nat → Bool) (i : Nat) : Prop := f i = true ∧ ∀ j, j < i → f j = false
theorem IsLo.eq {f : Nat → Bool} {i j : Nat} (h : IsLo f i) (k : IsLo f j) : i = j := by
  rcases Nat.lt_trichotomy i j with e | e | e
  · have := k.2 i e; rw [h.1] at this; cases this
  · exact e
  · have := h.2 j e; rw [k.1] at this; cases this
/-- of a row what is data -/
def clip (lo hi first : Nat) (p : Nat × Nat) : Nat := min (first + p.1 + p.2) hi - max (first + p.1) lo
def clips (lo hi first : Nat) : List (Nat × Nat) → Nat
  | [] => 0
  | p :: r => clip lo hi first p + clips lo hi first r
theorem clips_app (lo hi first : Nat) (a b : List (Nat × Nat)) : clips lo hi first (a ++ b) = clips lo hi first a + clips lo hi first b := by
  induction a with
  | nil => simp [clips]
  | cons p a ih => simp [clips, ih]; omega
theorem clips_snoc (lo hi first : Nat) (a : List (Nat × Nat)) (p : Nat × Nat) : clips lo hi first (a ++ [p]) = clips lo hi first a + clip lo hi first p := by
  rw [clips_app]; rfl
/-- bit j is off, and of a data block -/
def fb (lo hi first : Nat) (s : List Int) (j : Nat) : Bool := decide (lo ≤ first + j ∧ first + j < hi) && (bn s j == 0)
theorem ct_off (lo hi first : Nat) (s : List Int) (a o : Nat) (h : ∀ j, a ≤ j → j < a + o → bn s j = 0) : ct (fun j => fb lo hi first s (a + j)) o = clip lo hi first (a, o) := by
  induction o with
  | zero => simp [ct, clip]; omega
  | succ o ih =>
    rw [ct, ih (fun j h1 h2 => h j h1 (by omega))]
    have h0 := h (a + o) (by omega) (by omega)
    simp only [fb, h0, clip, beq_self_eq_true, Bool.and_true, decide_eq_true_eq]
    split <;> omega
theorem rows_clip (lo hi first : Nat) (t : List Int) (n : Nat) : ct (fb lo hi first t) (n - offs t n) = clips lo hi first (rows t n) := by
  induction n with
  | zero => rfl
  | succ n ih =>
    have hle := offs_le t n
    rw [rows, offs, clips_app]
    rcases bn_or t n with h | h
    · rw [if_pos h, if_neg (by omega), Nat.add_sub_add_right, ih]; rfl
    · rw [if_neg (by omega), Nat.sub_zero, ct]
      have hz : fb lo hi first t n = false := by simp [fb, h]
      rw [hz, if_neg (by simp), Nat.add_zero]
      by_cases ho : 0 < offs t n
      · rw [if_pos ⟨h, ho⟩, ← ih]
        have e : n = (n - offs t n) + offs t n := by omega
        conv => lhs; rw [e]
        rw [ct_add, ct_off _ _ _ _ _ _ (fun j h1 h2 => (offs_off t n).1 j h1 (by omega))]
        rfl
      · rw [if_neg (fun x => ho x.2), ← ih, show offs t n = 0 by omega]; rfl
theorem fb_app {lo hi first : Nat} {s m : List Int} {j : Nat} (h : j < 8 * s.length) : fb lo hi first (s ++ m) j = fb lo hi first s j := by rw [fb, fb, bn_app h]
theorem runs_clip (lo hi first : Nat) (s : List Int) : clips lo hi first (runs s) = ct (fb lo hi first s) (8 * s.length) := by
  have h := rows_clip lo hi first (s ++ [255]) (8 * s.length + 1)
  rw [(rows_all s 1 (by omega) (by omega)).1, (rows_all s 1 (by omega) (by omega)).2, Nat.sub_zero, ct] at h
  have hz : fb lo hi first (s ++ [255]) (8 * s.length) = false := by simp [fb, bn_255 (l := s) (Nat.le_refl _) (by omega)]
  rw [hz, if_neg (by simp), Nat.add_zero] at h
  rw [← h]
  exact ct_cong fun j hj => fb_app hj
theorem rows_upto (lo hi first : Nat) (t : List Int) (n : Nat) (pre : List (Nat × Nat)) (p : Nat × Nat) (h : pre ++ [p] <+: rows t n) : ct (fb lo hi first t) p.1 = clips lo hi first pre := by
  induction n with
  | zero => obtain ⟨u, hu⟩ := h; simp [rows] at hu
  | succ n ih =>
    rw [rows] at h
    split at h
    · rcases snoc_prefix h with e | ⟨rfl, rfl⟩
      · exact ih e
      · exact rows_clip lo hi first t n
    · rw [List.append_nil] at h; exact ih h
theorem runs_upto (lo hi first : Nat) (s : List Int) (pre : List (Nat × Nat)) (p : Nat × Nat) (h : pre ++ [p] <+: runs s) : ct (fb lo hi first s) p.1 = clips lo hi first pre := by
  have hr := runs_row (h.subset (List.mem_append_right _ (.head _)))
  have htop := hr.top
  rw [← (rows_all s 1 (by omega) (by omega)).1] at h
  rw [← rows_upto lo hi first _ _ pre p h]
  exact (ct_cong fun j hj => fb_app (by omega)).symm
/-- the first row that meets the data: its first block is the lowest one -/
theorem first_clip {lo hi first : Nat} {s : List Int} {pre : List (Nat × Nat)} {p : Nat × Nat} (h : pre ++ [p] <+: runs s) (h0 : clips lo hi first pre = 0) (hp : max (first + p.1) lo < min (first + p.1 + p.2) hi) :
    ∃ j, max (first + p.1) lo = first + j ∧ j < 8 * s.length ∧ IsLo (fb lo hi first s) j := by
  have hr := runs_row (h.subset (List.mem_append_right _ (.head _)))
  have htop := hr.top
  refine ⟨max (first + p.1) lo - first, by omega, by omega, ?_, fun i hii => ?_⟩
  · have := hr.off (max (first + p.1) lo - first) (by omega) (by omega)
    simp only [fb, this, beq_self_eq_true, Bool.and_true, decide_eq_true_eq]
    omega
  · by_cases e : i < p.1
    · exact ct_zero.1 ((runs_upto lo hi first s pre p h).trans h0) i e
    · simp only [fb, Bool.and_eq_false_iff, decide_eq_false_iff_not]
      left
      omega
/-- the bit of block i in the bitmap B, told in blocks of 512 bytes -/
def isT (B : Nat → List Int) (i : Nat) : Bool := bt (B (i / 4096)) (i % 4096)
def fd (lo hi : Nat) (B : Nat → List Int) (i : Nat) : Bool := decide (lo ≤ i ∧ i < hi) && !isT B i
theorem isT_at (B : Nat → List Int) (k j : Nat) (h : j < 4096) : isT B (4096 * k + j) = bt (B k) j := by
  rw [isT, show (4096 * k + j) / 4096 = k by omega, show (4096 * k + j) % 4096 = j by omega]
theorem fd_at (lo hi : Nat) (B : Nat → List Int) (k j : Nat) (h : j < 4096) : fd lo hi B (4096 * k + j) = fb lo hi (4096 * k) (B k) j := by
  rw [fd, fb, isT_at B k j h]
  congr 1
  rcases bn_or (B k) j with e | e <;> simp [bt, e]
theorem ct_blk (lo hi : Nat) (B : Nat → List Int) (k : Nat) : ct (fd lo hi B) (4096 * (k + 1)) = ct (fd lo hi B) (4096 * k) + ct (fb lo hi (4096 * k) (B k)) 4096 := by
  rw [show 4096 * (k + 1) = 4096 * k + 4096 by omega, ct_add, ct_cong (n := 4096) fun j hj => fd_at lo hi B k j hj]
theorem lo_blk {lo hi : Nat} {B : Nat → List Int} {k j : Nat} (h0 : ct (fd lo hi B) (4096 * k) = 0) (hj : j < 4096) (h : IsLo (fb lo hi (4096 * k) (B k)) j) : IsLo (fd lo hi B) (4096 * k + j) := by
  refine ⟨by rw [fd_at _ _ _ _ _ hj]; exact h.1, fun i hi => ?_⟩
  by_cases e : i < 4096 * k
  · exact ct_zero.1 h0 i e
  · obtain ⟨m, rfl⟩ : ∃ m, i = 4096 * k + m := ⟨i - 4096 * k, by omega⟩
    rw [fd_at _ _ _ _ _ (by omega)]
    exact h.2 m (by omega)
theorem ct_tail {lo hi : Nat} {B : Nat → List Int} {n : Nat} (h : hi ≤ n) : ct (fd lo hi B) n = ct (fd lo hi B) hi := by
  obtain ⟨m, rfl⟩ : ∃ m, n = hi + m := ⟨n - hi, by omega⟩
  rw [ct_add, (ct_zero (n := m)).2 (fun j hj => by simp [fd]; omega), Nat.add_zero]
structure Bm (B : Nat → List Int) (M : Nat) : Prop where
  len : ∀ k, k < M → (B k).length = 512
  wf : ∀ k, k < M → ∀ i, 0 ≤ nth (B k) i ∧ nth (B k) i < 256
end Go.Proofs.YtflienghgobmoaaGreatDoor

namespace Go.Proofs.YtflienghgobmoaaGreatDoor
open Go.RowKit Go.Shelf Rec
attribute [local go_sem] Oper.semAt_some

theorem low1_any (w : World) (S : Nat) (z f t : Int) (hc : w.cell? ⟨S, 0, none⟩ = some (.int .i64 z)) (hf : w.frozen? ⟨S, 0, none⟩ = false) : Calls Tryz.prog 106 #[.int .i64 f, .int .i64 t, .pointer (some ⟨S, 0, none⟩)] w fun e w' => e = .returned (.bool false) ∧ w' = w.setCell ⟨S, 0, none⟩ (.int .i64 f) := by
  go_enter Tryz.func106, Tryz.ntmps106
  go_wp2
  go_ret
  exact ⟨rfl, rfl⟩
theorem free1_any (w : World) (S : Nat) (z f t y : Int) (hc : w.cell? ⟨S, 0, none⟩ = some (.int .i64 z)) (hf : w.frozen? ⟨S, 0, none⟩ = false) (hz : 0 ≤ z ∧ z ≤ 1000000000) (hft : 0 ≤ f ∧ f ≤ t ∧ t ≤ 1000000) (hy : z + (t - f) = y) : Calls Tryz.prog 76 #[.int .i64 f, .int .i64 t, .pointer (some ⟨S, 0, none⟩)] w fun e w' => e = .returned (.bool true) ∧ w' = w.setCell ⟨S, 0, none⟩ (.int .i64 y) := by
  obtain ⟨q, hq⟩ : ∃ q, t - f = q := ⟨_, rfl⟩
  rw [hq] at hy
  go_enter Tryz.func76, Tryz.ntmps76
  go_wp2
  go_ret
  exact ⟨rfl, rfl⟩
/-- the box S holds z, the answer r is still false; else nothing that lay has changed -/
structure Bx2 (w : World) (S r : Nat) (z : Int) (W : World) : Prop where
  cell : W.cell? ⟨S, 0, none⟩ = some (.int .i64 z)
  frozen : W.frozen? ⟨S, 0, none⟩ = false
  rc : W.cell? ⟨r, 0, none⟩ = some (.bool false)
  rf : W.frozen? ⟨r, 0, none⟩ = false
  fr : Fr (fun k => k = S ∨ k = r ∨ w.heap.size ≤ k) w W
theorem frozen_blk {W W' : World} {S : Nat} (h : W'.heap[S]? = W.heap[S]?) : W'.frozen? ⟨S, 0, none⟩ = W.frozen? ⟨S, 0, none⟩ := by
  simp only [World.frozen?, h]
theorem Bx2.own {β : Type} (w : World) (S r : Nat) (z : β → Int) (hS : S < w.heap.size) (hr0 : r < w.heap.size) : OwnFrom w.heap.size (fun pre W => Bx2 w S r (z pre) W) := fun pre W W' row h hg hr => by
  have hne : some S ≠ row := fun e => by have := (hr S e.symm).1; omega
  have hne2 : some r ≠ row := fun e => by have := (hr r e.symm).1; omega
  have hF : Fr (fun k => row = some k) W W' := ⟨hg.os, hg.tape, hg.output, hg.size, fun k hk hS => hg.block k hk (fun e => hS e.symm)⟩
  have hlt : S < W.heap.size := block_lt_of_cell h.cell
  have hlt2 : r < W.heap.size := block_lt_of_cell h.rc
  exact ⟨hF.cell h.cell (fun e => hne e.symm), (frozen_blk (hg.block S hlt hne)).trans h.frozen, hF.cell h.rc (fun e => hne2 e.symm), (frozen_blk (hg.block r hlt2 hne2)).trans h.rf, h.fr.trans hF (fun k hk => .inl (.inr (.inr (hr k hk).1)))⟩
theorem Bx2.set {w : World} {S r : Nat} {z : Int} {W : World} (h : Bx2 w S r z W) (hne : r ≠ S) (y : Int) : Bx2 w S r y (W.setCell ⟨S, 0, none⟩ (.int .i64 y)) := by
  have ho : (W.setCell ⟨S, 0, none⟩ (.int .i64 y)).heap[r]? = W.heap[r]? := Below.heap_setCell W ⟨S, 0, none⟩ _ r hne
  exact ⟨World.cell?_setCell_same' _ _ _ (by rw [h.cell]; rfl), by rw [World.frozen?_setCell]; exact h.frozen, (World.cell?_of_block ho).trans h.rc, (frozen_blk ho).trans h.rf, h.fr.trans Fr.set (fun k hk => .inl (.inl hk))⟩
theorem Bx2.setr {w : World} {S r : Nat} {z : Int} {W : World} (h : Bx2 w S r z W) (hne : r ≠ S) : Bx2 w S r z (W.setCell ⟨r, 0, none⟩ (.bool false)) := by
  have ho : (W.setCell ⟨r, 0, none⟩ (.bool false)).heap[S]? = W.heap[S]? := Below.heap_setCell W ⟨r, 0, none⟩ _ S (Ne.symm hne)
  exact ⟨(World.cell?_of_block ho).trans h.cell, (frozen_blk ho).trans h.frozen, World.cell?_setCell_same' _ _ _ (by rw [h.rc]; rfl), by rw [World.frozen?_setCell]; exact h.rf, h.fr.trans Fr.set (fun k hk => .inl (.inr (.inl hk)))⟩
/-- where eachFree's closure finds what it has caught: the places of the disk, what is done with a row, the box that that fills -/
structure Cau (w : World) (G Db S F : Nat) (lo hi : Nat) (z : Int) : Prop where
  g0 : w.cell? ⟨G, 0, none⟩ = some (.int .i64 (hi : Int))
  g3 : w.cell? ⟨G, 3, none⟩ = some (.int .i64 (lo : Int))
  d : w.cell? ⟨Db, 0, none⟩ = some (.func (.func F) #[] #[.pointer (some ⟨S, 0, none⟩)])
  s : w.cell? ⟨S, 0, none⟩ = some (.int .i64 z)
  sf : w.frozen? ⟨S, 0, none⟩ = false
  ap1 : G ≠ S
  ap2 : Db ≠ S
theorem clips_le (lo hi first : Nat) (l : List (Nat × Nat)) : clips lo hi first l ≤ l.length * hi := by
  induction l with
  | nil => simp [clips]
  | cons p l ih =>
    rw [clips, List.length_cons, Nat.succ_mul]
    have : clip lo hi first p ≤ hi := by rw [clip]; omega
    omega
theorem set_other {W : World} {S T : Nat} {v : Value} (h : T ≠ S) : (W.setCell ⟨S, 0, none⟩ v).heap[T]? = W.heap[T]? := Below.heap_setCell W ⟨S, 0, none⟩ v T h
structure Rm (n B g : Nat) (W W' : World) : Prop where
  keeps : KeepsFrom n W W'
  kp : KpB B g W W'
theorem Rm.refl (n B g : Nat) (W : World) : Rm n B g W W := ⟨(KeepsOthers.refl _).from _, KpB.refl _ _ _⟩
theorem KeepsFrom.trans' {n : Nat} {A C D : World} (h : KeepsFrom n A C) (k : KeepsFrom n C D) : KeepsFrom n A D := ⟨Nat.le_trans h.size k.size, fun i o hB hi hc => k.same i o hB (h.same i o hB hi hc) hc⟩
theorem Rm.drewN {n B g : Nat} {A W : World} (h : Rm n B g A W) (m : Nat) : Rm n B g A (W.drewN m) := ⟨⟨h.keeps.size, h.keeps.same⟩, h.kp.trans (KpB.drewN _ _ _ _)⟩
theorem Rm.set {n B g : Nat} {A W : World} (h : Rm n B g A W) (S : Nat) (v : Value) (hB : B ≠ S) (hg : g ≠ S) : Rm n B g A (W.setCell ⟨S, 0, none⟩ v) := ⟨KeepsFrom.trans' h.keeps ((KeepsOthers.setCell _ _ _).from _), h.kp.trans ⟨set_other hB, set_other hg⟩⟩
theorem frPut (w : World) (D : Nat) (o : Obj) : Fr (fun k => k = D) w (w.putObj D o) := ⟨rfl, rfl, rfl, by simp [World.putObj], fun k _ hne => by
  have hne : k ≠ D := hne
  simp [World.putObj, hne.symm]⟩
def LoI (wa : World) (S r lo hi first : Nat) (z : Int) (s : List Int) (pre : List (RwB s)) (W : World) : Prop := Bx2 wa S r z W ∧ clips lo hi first (pre.map (·.1)) = 0
def LoX (wa : World) (S r lo hi first : Nat) (s : List Int) (c : Code) (pre : List (RwB s)) (W : World) : Prop := c = .ret ∧ ∃ pre0 x, pre = pre0 ++ [x] ∧ clips lo hi first (pre0.map (·.1)) = 0 ∧ max (first + x.1.1) lo < min (first + x.1.1 + x.1.2) hi ∧ Bx2 wa S r ((max (first + x.1.1) lo : Nat) : Int) W
theorem LoI.own (wa : World) (S r lo hi first : Nat) (z : Int) (s : List Int) (hS : S < wa.heap.size) (hr0 : r < wa.heap.size) : OwnFrom wa.heap.size (LoI wa S r lo hi first z s) := fun _ W W' row h hg hr => ⟨Bx2.own (β := Unit) wa S r (fun _ => z) hS hr0 () W W' row h.1 hg hr, h.2⟩
theorem LoX.own (wa : World) (S r lo hi first : Nat) (s : List Int) (c : Code) (hS : S < wa.heap.size) (hr0 : r < wa.heap.size) : OwnFrom wa.heap.size (LoX wa S r lo hi first s c) := fun _ W W' row h hg hr => by
  obtain ⟨h1, pre0, x, h2, h3, h4, h5⟩ := h
  exact ⟨h1, pre0, x, h2, h3, h4, Bx2.own (β := Unit) wa S r (fun _ => ((max (first + x.1.1) lo : Nat) : Int)) hS hr0 () W W' row h5 hg hr⟩
end Go.Proofs.YtflienghgobmoaaGreatDoor
