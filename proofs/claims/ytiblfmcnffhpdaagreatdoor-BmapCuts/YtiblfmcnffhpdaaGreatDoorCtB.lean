import Derived.Test.YtiblfmcnffhpdaaGreatDoorCtA
import Derived.Deep.CutBlock
namespace Go.Proofs.YtiblfmcnffhpdaaGreatDoor
open Go.RowKit Go.Maps Rec
theorem CsB.fill {w1 w w' : World} {D : Dk} {T : Tx} {n G X H tt Y : Nat} {x : Nat → Int} {ν : Nat → Nat} (h : CsB w1 w D T n G X H tt x ν) (xf : Fr (fun k => k = Y) w w') (ho : Out w1 w D T Y) (hG : Y ≠ G) (hX : Y ≠ X) (hH : Y ≠ H) : CsB w1 w' D T n G X H tt x ν := by
  have hm : SMv (fun k => k = Y) w T w' T := SMv.fr_ xf
  exact ⟨h.spc.frG xf (fun k hk => .inr (hk ▸ ho)), ⟨xf.heap h.g.row (fun e => hG e.symm), h.g.out.mv hm⟩, ⟨xf.heap h.x.row (fun e => hX e.symm), h.x.out.mv hm⟩, h.h.hp (xf.block H h.h.lt (fun e => hH e.symm)), h.ho.mv hm, h.t, h.gx⟩
theorem CtS.fill {w1 w w' : World} {D : Dk} {T : Tx} {n r G X H tt Y : Nat} {x : Nat → Int} {ν : Nat → Nat} (h : CtS w1 w D T n r G X H tt x ν) (xf : Fr (fun k => k = Y) w w') (ho : Out w1 w D T Y) (hG : Y ≠ G) (hX : Y ≠ X) (hH : Y ≠ H) : CtS w1 w' D T n r G X H tt x ν := ⟨h.b.fill xf ho hG hX hH, h.wd, h.shp, h.us, h.inn⟩
theorem AdC.csb {w1 w w' : World} {D : Dk} {T T1 : Tx} {n k G X H tt N z : Nat} {x y : Nat → Int} {ν : Nat → Nat} (h : CsB w1 w D T n G X H tt x ν) (a : AdC w1 w w' D T T1 n k x ν y N z) : CsB w1 w' D T1 n G X H tt x ν := by
  rcases a with ⟨_, ν', _, _, hg⟩ | ⟨_, _, _, _, hb⟩
  · exact h.gon hg
  · exact h.big hb
theorem AdC.bq {w1 w w' : World} {D : Dk} {T T1 : Tx} {n k N z Y : Nat} {x y : Nat → Int} {ν : Nat → Nat} {o : Obj} (h : Bq w1 w D T Y o) (a : AdC w1 w w' D T T1 n k x ν y N z) : Bq w1 w' D T1 Y o := by
  rcases a with ⟨_, ν', _, _, hg⟩ | ⟨_, _, _, _, hb⟩
  · exact h.gon hg
  · exact h.mv (SMv.of hb.mv)
def AdQ (w1 wx : World) (D : Dk) (T T1 : Tx) (n k r G X H tt Yb : Nat) (x : Nat → Int) (ν : Nat → Nat) (y : Nat → Int) (N z : Nat) : Prop :=
  (z = 0 ∧ wx.heap[Yb]? = some (.cells #[.int .i64 (y 0), .int .i64 (y 1), .int .i64 (y 2), .int .i64 (y 3), .int .i64 (y 4), .int .i64 (y 5), .int .i64 (y 6), .int .i64 (y 7), .int .i64 (y 8), .int .i64 (y 9), .int .i64 (y 10), .int .i64 (y 11), .int .i64 (y 12), .int .i64 (y 13), .int .i64 (y 14)] 35 (0, 0)) ∧ Yb ≠ H ∧ Yb ≠ X ∧ ∃ ν', y = withN x ν' ∧ AdP D T T1 n k x ν ν' N ∧ CsB w1 wx D T1 n G X H tt x ν ∧ Dom T T1) ∨ ((z = 60 ∨ z = 90) ∧ CtS w1 wx D T1 n r G X H tt x ν)
theorem AdC.q {w1 w W wx : World} {D : Dk} {T T1 : Tx} {n k r G X H tt Yb N z : Nat} {x y : Nat → Int} {ν : Nat → Nat} {o : Obj} {W0 : World} (hS : CtS w1 w D T n r G X H tt x ν) (a : AdC w1 w W D T T1 n k x ν y N z) (hb : Below W.heap.size W W0) (bq : Bq w1 W0 D T1 Yb o) (xf : Fr (fun k => k = Yb) W0 wx) (hrow : wx.heap[Yb]? = some (.cells #[.int .i64 (y 0), .int .i64 (y 1), .int .i64 (y 2), .int .i64 (y 3), .int .i64 (y 4), .int .i64 (y 5), .int .i64 (y 6), .int .i64 (y 7), .int .i64 (y 8), .int .i64 (y 9), .int .i64 (y 10), .int .i64 (y 11), .int .i64 (y 12), .int .i64 (y 13), .int .i64 (y 14)] 35 (0, 0))) (hG : Yb ≠ G) (hX : Yb ≠ X) (hH : Yb ≠ H) : AdQ w1 wx D T T1 n k r G X H tt Yb x ν y N z := by
  rcases a with ⟨h0, ν', h1, h2, h3⟩ | ⟨h0, _, _, h4, h5⟩
  · exact .inl ⟨h0, hrow, hH, hX, ν', h1, h2, ((hS.b.gon h3).on hb).fill xf bq.out hG hX hH, h3.dom⟩
  · refine .inr ⟨?_, ((hS.big h5).on hb).fill xf bq.out hG hX hH⟩
    rcases h4 with ⟨e, _⟩ | ⟨e, _⟩
    · exact .inl e
    · exact .inr e
def S20 (x : Nat → Int) (n G X : Nat) (w : World) : Prop := w.cell? ⟨G, 0, none⟩ = some (.int .i64 (n : Int)) ∧ w.cell? ⟨G, 1, none⟩ = some (.int .i64 98) ∧ w.cell? ⟨G, 2, none⟩ = some (.int .i64 (gI n)) ∧ w.cell? ⟨G, 3, none⟩ = some (.int .i64 (gD n)) ∧ w.cell? ⟨G, 4, none⟩ = some (.int .i64 (gC n)) ∧ w.cell? ⟨X, 0, none⟩ = some (.int .i64 (x 0)) ∧ w.cell? ⟨X, 1, none⟩ = some (.int .i64 (x 1)) ∧ w.cell? ⟨X, 2, none⟩ = some (.int .i64 (x 2)) ∧ w.cell? ⟨X, 3, none⟩ = some (.int .i64 (x 3)) ∧ w.cell? ⟨X, 4, none⟩ = some (.int .i64 (x 4)) ∧ w.cell? ⟨X, 5, none⟩ = some (.int .i64 (x 5)) ∧ w.cell? ⟨X, 6, none⟩ = some (.int .i64 (x 6)) ∧ w.cell? ⟨X, 7, none⟩ = some (.int .i64 (x 7)) ∧ w.cell? ⟨X, 8, none⟩ = some (.int .i64 (x 8)) ∧ w.cell? ⟨X, 9, none⟩ = some (.int .i64 (x 9)) ∧ w.cell? ⟨X, 10, none⟩ = some (.int .i64 (x 10)) ∧ w.cell? ⟨X, 11, none⟩ = some (.int .i64 (x 11)) ∧ w.cell? ⟨X, 12, none⟩ = some (.int .i64 (x 12)) ∧ w.cell? ⟨X, 13, none⟩ = some (.int .i64 (x 13)) ∧ w.cell? ⟨X, 14, none⟩ = some (.int .i64 (x 14))
theorem CsB.s20 {w1 w : World} {D : Dk} {T : Tx} {n G X H tt : Nat} {x : Nat → Int} {ν : Nat → Nat} (h : CsB w1 w D T n G X H tt x ν) : S20 x n G X w := by
  obtain ⟨z0, z1, z2, z3, z4⟩ := h.g.c5.cells
  obtain ⟨x0, x1, x2, x3, x4, x5, x6, x7, x8, x9, x10, x11, x12, x13, x14⟩ := h.x.c15
  exact ⟨z0, z1, z2, z3, z4, x0, x1, x2, x3, x4, x5, x6, x7, x8, x9, x10, x11, x12, x13, x14⟩
theorem CtS.step {w1 we w8 wf : World} {D : Dk} {T T1 : Tx} {n r G X H tt k N : Nat} {x y : Nat → Int} {ν ν' : Nat → Nat} (hu : T.us.length ≤ 9 * r) (hsh : Shp ν) (hin : ∀ p, ν p ≠ 0 → (T.c (ν p)).isSome = true ∧ (T.c (98 + ν p / 4096)).isSome = true) (hdm : Dom T T1) (hk : k < 16522) (hp : AdP D T T1 n k x ν ν' N) (hB : CsB w1 we D T1 n G X H tt x ν) (hg8 : we.drew.grownBy w8 (some H)) (hm8 : HasM w8 H ν') (hf : Fr (fun k => k = X) w8 wf) (hrow : wf.heap[X]? = some (.cells #[.int .i64 (y 0), .int .i64 (y 1), .int .i64 (y 2), .int .i64 (y 3), .int .i64 (y 4), .int .i64 (y 5), .int .i64 (y 6), .int .i64 (y 7), .int .i64 (y 8), .int .i64 (y 9), .int .i64 (y 10), .int .i64 (y 11), .int .i64 (y 12), .int .i64 (y 13), .int .i64 (y 14)] 35 (0, 0))) (hy : y = withN x ν') : CtS w1 wf D T1 n (r + 1) G X H tt y ν' := by
  have x8 : Fr (fun k => k = H) we w8 := ⟨hg8.os, hg8.tape, hg8.output, hg8.size, fun k hk hne => hg8.block k hk (fun e => hne (Option.some.inj e))⟩
  have xf : Fr (fun k => k = H ∨ k = X) we wf := (x8.mono (fun _ e => .inl e)).trans hf (fun _ e => .inl (.inr e))
  have oG := hB.g
  have oX := hB.x
  have oH := hB.ho
  have hm : SMv (fun k => k = H ∨ k = X) we T1 wf T1 := SMv.fr_ xf
  have hgx := hB.gx
  obtain ⟨m9, hm9, hm99⟩ := hp.ext
  obtain ⟨a1, a2, _, _⟩ := add_count (n := n) hk hsh hp.tks (fd0C _ _ (by unfold nD; omega) _) (fun b hb => (fd_bd hb).2)
  refine ⟨⟨hB.spc.frG xf (fun k hk => .inr (hk.elim (fun e => e ▸ oH) (fun e => e ▸ oX.out))), ⟨xf.heap oG.row (fun e => by rcases e with e | e <;> omega), oG.out.mv hm⟩, ⟨hrow, oX.out.mv hm⟩, ?_, oH.mv hm, hB.t, hgx⟩, ?_, a1, ?_, fun p hp0 => ?_⟩
  · exact hm8.hp (hf.block H (hm8.lt) (by omega))
  · rw [hy]; exact hp.wd
  · rw [hm9.us]; omega
  · by_cases e : ν' p = ν p
    · rw [e] at hp0 ⊢
      exact ⟨hdm _ (hin p hp0).1, hdm _ (hin p hp0).2⟩
    · exact hp.inn p e
theorem s20_row {x : Nat → Int} {n G X Y : Nat} {w : World} (h : S20 x n G X w) (cs : Array Value) (hG : Y ≠ G) (hX : Y ≠ X) : S20 x n G X (w.setRow Y cs) := by
  have e : ∀ g j, g ≠ Y → (w.setRow Y cs).cell? ⟨g, j, none⟩ = w.cell? ⟨g, j, none⟩ := fun g j hg => World.cell?_of_block (a := ⟨g, j, none⟩) (setRow_other w Y g cs hg)
  unfold S20 at h ⊢
  simp only [e G _ (fun q => hG q.symm), e X _ (fun q => hX q.symm)]
  exact h
end Go.Proofs.YtiblfmcnffhpdaaGreatDoor
