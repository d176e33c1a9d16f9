import Derived.Test.YtpbpblpbjkegfaaKBzD
import Derived.Test.YtpbpblpbjkegfaaSpM
namespace Go.Proofs.Ytpbpblpbjkegfaa
open Go.RowKit Go.Shelf Rec
attribute [local go_sem] Oper.semAt_some

theorem low1_any (w : World) (S : Nat) (z f t : Int) (hc : w.cell? ⟨S, 0, none⟩ = some (.int .i64 z)) (hf : w.frozen? ⟨S, 0, none⟩ = false) : Calls Try.prog 40 #[.int .i64 f, .int .i64 t, .pointer (some ⟨S, 0, none⟩)] w fun e w' => e = .returned (.bool false) ∧ w' = w.setCell ⟨S, 0, none⟩ (.int .i64 f) := by
  go_enter Try.func40, Try.ntmps40
  go_wp2
  go_ret
  exact ⟨rfl, rfl⟩
theorem free1_any (w : World) (S : Nat) (z f t y : Int) (hc : w.cell? ⟨S, 0, none⟩ = some (.int .i64 z)) (hf : w.frozen? ⟨S, 0, none⟩ = false) (hz : 0 ≤ z ∧ z ≤ 1000000000) (hft : 0 ≤ f ∧ f ≤ t ∧ t ≤ 1000000) (hy : z + (t - f) = y) : Calls Try.prog 33 #[.int .i64 f, .int .i64 t, .pointer (some ⟨S, 0, none⟩)] w fun e w' => e = .returned (.bool true) ∧ w' = w.setCell ⟨S, 0, none⟩ (.int .i64 y) := by
  obtain ⟨q, hq⟩ : ∃ q, t - f = q := ⟨_, rfl⟩
  rw [hq] at hy
  go_enter Try.func33, Try.ntmps33
  go_wp2
  go_ret
  exact ⟨rfl, rfl⟩
/-- the box S holds z, the answer r is still false; else nothing that lay has changed -/
structure Bx2 (w : World) (S r : Nat) (z : Int) (W : World) : Prop where
  cell : W.cell? ⟨S, 0, none⟩ = some (.int .i64 z)
  frozen : W.frozen? ⟨S, 0, none⟩ = false
  rc : W.cell? ⟨r, 0, none⟩ = some (.bool false)
  rf : W.frozen? ⟨r, 0, none⟩ = false
  fr : Fr (fun k => k = S ∨ k = r ∨ w.heap.size ≤ k) w W
theorem frozen_blk {W W' : World} {S : Nat} (h : W'.heap[S]? = W.heap[S]?) : W'.frozen? ⟨S, 0, none⟩ = W.frozen? ⟨S, 0, none⟩ := by
  simp only [World.frozen?, h]
theorem Bx2.own {β : Type} (w : World) (S r : Nat) (z : β → Int) (hS : S < w.heap.size) (hr0 : r < w.heap.size) : OwnFrom w.heap.size (fun pre W => Bx2 w S r (z pre) W) := fun pre W W' row h hg hr => by
  have hne : some S ≠ row := fun e => by have := (hr S e.symm).1; omega
  have hne2 : some r ≠ row := fun e => by have := (hr r e.symm).1; omega
  have hF : Fr (fun k => row = some k) W W' := ⟨hg.os, hg.tape, hg.output, hg.size, fun k hk hS => hg.block k hk (fun e => hS e.symm)⟩
  have hlt : S < W.heap.size := block_lt_of_cell h.cell
  have hlt2 : r < W.heap.size := block_lt_of_cell h.rc
  exact ⟨hF.cell h.cell (fun e => hne e.symm), (frozen_blk (hg.block S hlt hne)).trans h.frozen, hF.cell h.rc (fun e => hne2 e.symm), (frozen_blk (hg.block r hlt2 hne2)).trans h.rf, h.fr.trans hF (fun k hk => .inl (.inr (.inr (hr k hk).1)))⟩
theorem Bx2.set {w : World} {S r : Nat} {z : Int} {W : World} (h : Bx2 w S r z W) (hne : r ≠ S) (y : Int) : Bx2 w S r y (W.setCell ⟨S, 0, none⟩ (.int .i64 y)) := by
  have ho : (W.setCell ⟨S, 0, none⟩ (.int .i64 y)).heap[r]? = W.heap[r]? := Below.heap_setCell W ⟨S, 0, none⟩ _ r hne
  exact ⟨World.cell?_setCell_same' _ _ _ (by rw [h.cell]; rfl), by rw [World.frozen?_setCell]; exact h.frozen, (World.cell?_of_block ho).trans h.rc, (frozen_blk ho).trans h.rf, h.fr.trans Fr.set (fun k hk => .inl (.inl hk))⟩
theorem Bx2.setr {w : World} {S r : Nat} {z : Int} {W : World} (h : Bx2 w S r z W) (hne : r ≠ S) : Bx2 w S r z (W.setCell ⟨r, 0, none⟩ (.bool false)) := by
  have ho : (W.setCell ⟨r, 0, none⟩ (.bool false)).heap[S]? = W.heap[S]? := Below.heap_setCell W ⟨r, 0, none⟩ _ S (Ne.symm hne)
  exact ⟨(World.cell?_of_block ho).trans h.cell, (frozen_blk ho).trans h.frozen, World.cell?_setCell_same' _ _ _ (by rw [h.rc]; rfl), by rw [World.frozen?_setCell]; exact h.rf, h.fr.trans Fr.set (fun k hk => .inl (.inr (.inl hk)))⟩
/-- where eachFree's closure finds what it has caught: the places of the disk, what is done with a row, the box that that fills -/
structure Cau (w : World) (G Db S F : Nat) (lo hi : Nat) (z : Int) : Prop where
  g0 : w.cell? ⟨G, 0, none⟩ = some (.int .i64 (hi : Int))
  g3 : w.cell? ⟨G, 3, none⟩ = some (.int .i64 (lo : Int))
  d : w.cell? ⟨Db, 0, none⟩ = some (.func (.func F) #[] #[.pointer (some ⟨S, 0, none⟩)])
  s : w.cell? ⟨S, 0, none⟩ = some (.int .i64 z)
  sf : w.frozen? ⟨S, 0, none⟩ = false
  ap1 : G ≠ S
  ap2 : Db ≠ S
theorem clip_pos {lo hi first : Nat} {p : Nat × Nat} (h : max (first + p.1) lo < min (first + p.1 + p.2) hi) : ((min (first + p.1 + p.2) hi : Nat) : Int) - ((max (first + p.1) lo : Nat) : Int) = (clip lo hi first p : Nat) := by rw [clip]; omega
theorem clip_none {lo hi first : Nat} {p : Nat × Nat} (h : ¬ max (first + p.1) lo < min (first + p.1 + p.2) hi) : clip lo hi first p = 0 := by rw [clip]; omega
theorem clips_le (lo hi first : Nat) (l : List (Nat × Nat)) : clips lo hi first l ≤ l.length * hi := by
  induction l with
  | nil => simp [clips]
  | cons p l ih =>
    rw [clips, List.length_cons, Nat.succ_mul]
    have : clip lo hi first p ≤ hi := by rw [clip]; omega
    omega
theorem set_other {W : World} {S T : Nat} {v : Value} (h : T ≠ S) : (W.setCell ⟨S, 0, none⟩ v).heap[T]? = W.heap[T]? := Below.heap_setCell W ⟨S, 0, none⟩ v T h
structure Rm (n B g : Nat) (W W' : World) : Prop where
  keeps : KeepsFrom n W W'
  kp : KpB B g W W'
theorem Rm.refl (n B g : Nat) (W : World) : Rm n B g W W := ⟨(KeepsOthers.refl _).from _, KpB.refl _ _ _⟩
theorem KeepsFrom.trans' {n : Nat} {A C D : World} (h : KeepsFrom n A C) (k : KeepsFrom n C D) : KeepsFrom n A D := ⟨Nat.le_trans h.size k.size, fun i o hB hi hc => k.same i o hB (h.same i o hB hi hc) hc⟩
theorem Rm.drewN {n B g : Nat} {A W : World} (h : Rm n B g A W) (m : Nat) : Rm n B g A (W.drewN m) := ⟨⟨h.keeps.size, h.keeps.same⟩, h.kp.trans (KpB.drewN _ _ _ _)⟩
theorem Rm.set {n B g : Nat} {A W : World} (h : Rm n B g A W) (S : Nat) (v : Value) (hB : B ≠ S) (hg : g ≠ S) : Rm n B g A (W.setCell ⟨S, 0, none⟩ v) := ⟨KeepsFrom.trans' h.keeps ((KeepsOthers.setCell _ _ _).from _), h.kp.trans ⟨set_other hB, set_other hg⟩⟩
theorem frPut (w : World) (D : Nat) (o : Obj) : Fr (fun k => k = D) w (w.putObj D o) := ⟨rfl, rfl, rfl, by simp [World.putObj], fun k _ hne => by
  have hne : k ≠ D := hne
  simp [World.putObj, hne.symm]⟩
def LoI (wa : World) (S r lo hi first : Nat) (z : Int) (s : List Int) (pre : List (RwB s)) (W : World) : Prop := Bx2 wa S r z W ∧ clips lo hi first (pre.map (·.1)) = 0
def LoX (wa : World) (S r lo hi first : Nat) (s : List Int) (c : Code) (pre : List (RwB s)) (W : World) : Prop := c = .ret ∧ ∃ pre0 x, pre = pre0 ++ [x] ∧ clips lo hi first (pre0.map (·.1)) = 0 ∧ max (first + x.1.1) lo < min (first + x.1.1 + x.1.2) hi ∧ Bx2 wa S r ((max (first + x.1.1) lo : Nat) : Int) W
theorem LoI.own (wa : World) (S r lo hi first : Nat) (z : Int) (s : List Int) (hS : S < wa.heap.size) (hr0 : r < wa.heap.size) : OwnFrom wa.heap.size (LoI wa S r lo hi first z s) := fun _ W W' row h hg hr => ⟨Bx2.own (β := Unit) wa S r (fun _ => z) hS hr0 () W W' row h.1 hg hr, h.2⟩
theorem LoX.own (wa : World) (S r lo hi first : Nat) (s : List Int) (c : Code) (hS : S < wa.heap.size) (hr0 : r < wa.heap.size) : OwnFrom wa.heap.size (LoX wa S r lo hi first s c) := fun _ W W' row h hg hr => by
  obtain ⟨h1, pre0, x, h2, h3, h4, h5⟩ := h
  exact ⟨h1, pre0, x, h2, h3, h4, Bx2.own (β := Unit) wa S r (fun _ => ((max (first + x.1.1) lo : Nat) : Int)) hS hr0 () W W' row h5 hg hr⟩
end Go.Proofs.Ytpbpblpbjkegfaa
