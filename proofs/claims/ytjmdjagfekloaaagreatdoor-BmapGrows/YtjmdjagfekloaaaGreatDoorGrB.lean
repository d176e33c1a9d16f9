import Derived.Test.YtjmdjagfekloaaaGreatDoorGrA
import Derived.Deep.CutBlock
namespace Go.Proofs.YtjmdjagfekloaaaGreatDoor
open Go.RowKit Go.Maps Rec

/-- BmapGrows' state at a round's head -/
structure GrS (w1 w : World) (D : Dk) (T : Tx) (n r U G X H tt f0 : Nat) (x : Nat → Int) (ν : Nat → Nat) : Prop where
  spc : Spc w1 w D T n
  wd : Wd D T n x ν
  shp : Shp ν
  us : T.us.length ≤ 9 * r + U
  cnt : ct (fd (nD n) n (bmp D T)) n + siz ν = f0
  g : Bq w1 w D T G (.cells #[.int .i64 (n : Int), .int .i64 98, .int .i64 (gI n), .int .i64 (gD n), .int .i64 (gC n)] 29 (0, 0))
  hd : x 0 = 1 ∧ x 1 = 3 ∧ x 2 = 77
  x : Bq w1 w D T X (.cells #[.int .i64 (x 0), .int .i64 (x 1), .int .i64 (x 2), .int .i64 (x 3), .int .i64 (x 4), .int .i64 (x 5), .int .i64 (x 6), .int .i64 (x 7), .int .i64 (x 8), .int .i64 (x 9), .int .i64 (x 10), .int .i64 (x 11), .int .i64 (x 12), .int .i64 (x 13), .int .i64 (x 14)] 35 (0, 0))
  h : HasM w H ν
  ho : Out w1 w D T H
  t : T.t = tt
  gx : G < X ∧ X < H
theorem GrS.on {w1 w w' : World} {D : Dk} {T : Tx} {n r U G X H tt f0 : Nat} {x : Nat → Int} {ν : Nat → Nat} (h : GrS w1 w D T n r U G X H tt f0 x ν) (hb : Below w.heap.size w w') : GrS w1 w' D T n r U G X H tt f0 x ν :=
  ⟨h.spc.on hb, h.wd, h.shp, h.us, h.cnt, h.g.on hb, h.hd, h.x.on hb, h.h.on hb, h.ho.mv (SMv.on hb (S := fun _ => False)), h.t, h.gx⟩
theorem GrS.big {w1 w w' : World} {D : Dk} {T T' : Tx} {n r U G X H tt f0 : Nat} {x : Nat → Int} {ν : Nat → Nat} (h : GrS w1 w D T n r U G X H tt f0 x ν) (b : BigE w1 w w' D T T' n) : GrS w1 w' D T' n r U G X H tt f0 x ν := by
  have ht : tv D T' = tv D T := by funext i; unfold tv; rw [b.c]
  have hb : bmp D T' = bmp D T := by unfold bmp; rw [ht]
  have hw : Wd D T' n x ν := by
    have := h.wd
    refine ⟨?_, ?_⟩
    · have := this.tre; unfold nmT at this ⊢; rw [ht]; exact this
    · rw [hb]; exact this.own
  have m : SMv (fun _ => False) w T w' T' := SMv.of b.mv
  exact ⟨b.spc, hw, h.shp, by rw [b.us]; exact h.us, by rw [hb]; exact h.cnt, h.g.mv m, h.hd, h.x.mv m, h.h.mv h.ho m, h.ho.mv m, b.mv.t.trans h.t, h.gx⟩
/-- what Add did -/
def AdG (w0 w w' : World) (D : Dk) (T T' : Tx) (n k : Nat) (x : Nat → Int) (ν : Nat → Nat) (y : Nat → Int) (N z : Nat) : Prop :=
  (z = 0 ∧ ∃ ν', y = withN x ν' ∧ AdP D T T' n k x ν ν' N ∧ Gon w0 w w' D T T' n (fun _ => False)) ∨ (z ≠ 0 ∧ N = 0 ∧ y = (fun _ => 0) ∧ AdZ T n k ν (fd (nD n) n (bmp D T)) z ∧ BigE w0 w w' D T T' n)
theorem Fr.s2g {w w' : World} {p j : Nat} {v : Value} (x : Fr (fun k => k = p) w w') : Fr (fun k => k = p) w (w'.setCell ⟨p, j, none⟩ v) := x.trans Fr.set (fun _ h => .inl h)
theorem fd0 (lo n : Nat) (hl : 0 < lo) (B : Nat → List Int) : fd lo n B 0 = false := by unfold fd; rw [decide_eq_false (by omega)]; rfl
theorem GrS.next {w1 wD wd we w8 wf : World} {D : Dk} {T T1 : Tx} {n r U G X H tt f0 k N : Nat} {x y : Nat → Int} {ν ν' : Nat → Nat} (h : GrS w1 wD D T n r U G X H tt f0 x ν) (hk : k < 16522) (hp : AdP D T T1 n k x ν ν' N) (hg : Gon w1 wD wd D T T1 n (fun _ => False)) (hE : Below wd.heap.size wd we) (hg8 : we.drew.grownBy w8 (some H)) (hm8 : HasM w8 H ν') (hf : Fr (fun k => k = X) w8 wf) (hrow : wf.heap[X]? = some (.cells #[.int .i64 (y 0), .int .i64 (y 1), .int .i64 (y 2), .int .i64 (y 3), .int .i64 (y 4), .int .i64 (y 5), .int .i64 (y 6), .int .i64 (y 7), .int .i64 (y 8), .int .i64 (y 9), .int .i64 (y 10), .int .i64 (y 11), .int .i64 (y 12), .int .i64 (y 13), .int .i64 (y 14)] 35 (0, 0))) (hy : y = withN x ν') : GrS w1 wf D T1 n (r + 1) U G X H tt f0 y ν' := by
  have x8 : Fr (fun k => k = H) we w8 := ⟨hg8.os, hg8.tape, hg8.output, hg8.size, fun k hk hne => hg8.block k hk (fun e => hne (Option.some.inj e))⟩
  have xf : Fr (fun k => k = H ∨ k = X) we wf := (x8.mono (fun _ e => .inl e)).trans hf (fun _ e => .inl (.inr e))
  have hs := hg.spc.on hE
  have oG := (h.g.gon hg).on hE
  have oX := (h.x.gon hg).on hE
  have oH : Out w1 we D T1 H := (h.ho.mv hg.mv).mv (SMv.on hE (S := fun _ => False))
  have hm : SMv (fun k => k = H ∨ k = X) we T1 wf T1 := SMv.fr_ xf
  have hgx := h.gx
  obtain ⟨m9, hm9, hm99⟩ := hp.ext
  obtain ⟨a1, a2, _, _⟩ := add_count (n := n) hk h.shp hp.tks (fd0 _ _ (by unfold nD; omega) _) (fun b hb => (fd_bd hb).2)
  refine ⟨hs.frG xf (fun k hk => .inr (hk.elim (fun e => e ▸ oH) (fun e => e ▸ oX.out))), ?_, a1, ?_, by rw [a2]; exact h.cnt, ⟨xf.heap oG.row (fun e => by rcases e with e | e <;> omega), oG.out.mv hm⟩, ?_, ⟨hrow, oX.out.mv hm⟩, ?_, oH.mv hm, hg.mv.t.trans h.t, hgx⟩
  · rw [hy]; exact hp.wd
  · have := h.us; rw [hm9.us]; omega
  · rw [hy]; exact h.hd
  · exact hm8.hp (hf.block H (hm8.lt) (by omega))
/-- behind a cut -/
theorem GrS.cut {w1 wD wd we wf wz : World} {D : Dk} {T T1 : Tx} {n r G X H tt f0 k : Nat} {x y : Nat → Int} {ν : Nat → Nat} (h : GrS w1 wD D T n r 0 G X H tt f0 x ν) (hp : CtP D T T1 n x ν k) (hg : Gon w1 wD wd D T T1 n (fun _ => False)) (hE : Below wd.heap.size wd we) (hf : Fr (fun k => k = X) we wf) (hrow : wf.heap[X]? = some (.cells #[.int .i64 (y 0), .int .i64 (y 1), .int .i64 (y 2), .int .i64 (y 3), .int .i64 (y 4), .int .i64 (y 5), .int .i64 (y 6), .int .i64 (y 7), .int .i64 (y 8), .int .i64 (y 9), .int .i64 (y 10), .int .i64 (y 11), .int .i64 (y 12), .int .i64 (y 13), .int .i64 (y 14)] 35 (0, 0))) (hy : y = withN x (cvP ν k)) (hz : Fr (fun k => k = H ∨ wf.heap.size ≤ k) wf wz) (hm : HasM wz H (cvP ν k)) : GrS w1 wz D T1 n r 16652 G X H tt f0 y (cvP ν k) := by
  have xf : Fr (fun k => k = X ∨ k = H ∨ wf.heap.size ≤ k) we wz := (hf.mono (fun _ e => .inl e)).trans hz (fun _ e => .inl (.inr e))
  have hs := hg.spc.on hE
  have oG := (h.g.gon hg).on hE
  have oX := (h.x.gon hg).on hE
  have oH : Out w1 we D T1 H := (h.ho.mv hg.mv).mv (SMv.on hE (S := fun _ => False))
  have hmv : SMv (fun k => k = X ∨ k = H ∨ wf.heap.size ≤ k) we T1 wz T1 := SMv.fr_ xf
  have hgx := h.gx
  have hsz := hf.size
  have hGl := oG.out.lt
  have hXl := heap_lt hrow
  refine ⟨hs.frG xf (fun k hk => by rcases hk with e | e | e; exact .inr (e ▸ oX.out); exact .inr (e ▸ oH); exact .inl (by omega)), ?_, h.shp.cut k, ?_, ?_, ⟨xf.heap oG.row (fun e => by rcases e with e | e | e <;> omega), oG.out.mv hmv⟩, ?_, ⟨hz.heap hrow (fun e => by rcases e with e | e <;> omega), oX.out.mv hmv⟩, hm, oH.mv hmv, hg.mv.t.trans h.t, hgx⟩
  · rw [hy]; exact hp.wd
  · have := h.us; have := hp.us; omega
  · rw [cut_count h.shp h.wd.own hp.fdT]; exact h.cnt
  · rw [hy]; exact h.hd
/-- a number out of two -/
def GrK (w : World) (C : Nat) (c0 c1 : Int) : Prop := w.heap[C]? = some (.cells #[.int .i64 c0, .int .i64 c1] 57 (0, 0))
set_option maxRecDepth 100000 in
set_option maxHeartbeats 16000000 in
theorem grows_any (w : World) (hT : TabAt w) (M : Int) (ta : Option Addr) (tl tc : Nat) (ra : Option Addr) (rl rc : Nat) (ts : List Int) (ht : Ints w ta ts) (htl : ts.length = tl) (rs : List (Int × Option Addr × Nat × Nat × List Int)) (hr : RawAt w ra rl rs) (hrl : rl ≤ 1000000000000000) (ia : Option Addr) (L ic : Nat) (is : List Int) (hi : Ints w ia is) (hl : is.length = L) (hcap : L ≤ ic) (c0 c1 : Int) :
    Calls Tryz.prog 5 #[stuV M ta tl tc ra rl rc, .slice ia L ic, .agg #[.int .i64 c0, .int .i64 c1]] w fun e w' => e = .returned (.bool true) ∧ Below w.heap.size w w' := by
  obtain ⟨n, hn⟩ : ∃ n, nBq M = n := ⟨_, rfl⟩
  have HN : Hid (128 ≤ n ∧ n ≤ 4427) := by rw [← hn]; exact nBq_bd M
  have HBg : Hid (∀ wx, Below w.heap.size w wx → Calls Tryz.prog 8 #[.agg #[.int .i64 M, .slice ta tl tc, .slice ra rl rc]] wx fun e w' => ∃ (rt : Nat) (D : Dk) (T : Tx), e = .returned (.tuple #[.pointer (some ⟨T.t, 0, none⟩), .pointer (some ⟨rt, 0, none⟩), .agg #[.int .i64 (n : Int), .int .i64 98, .int .i64 (gI n), .int .i64 (gD n), .int .i64 (gC n)], .bool true]) ∧ OpQ wx w' D T n) := by
    intro wx hb
    have h9 := beginQ wx M ta tl tc ra rl rc ts (ht.on hb) htl rs (hr.on hb) hrl
    rw [hn] at h9
    refine h9.mono ?_
    rintro e w' ⟨rt, D, T, rfl, h1, _⟩
    exact ⟨rt, D, T, rfl, h1⟩
  have HT : Hid (TabAt w) := hT
  have HI : Hid (Ints w ia is ∧ is.length = L ∧ L ≤ ic) := ⟨hi, hl, hcap⟩
  have HKn : Hid (∀ wx, Below w.heap.size w wx → Calls Tryz.prog 9 #[] wx fun e w' => e = .returned (.bool true) ∧ Below wx.heap.size wx w') := fun wx hb => known_any wx (HT.out.on hb)
  have HIx : Hid (∀ wx v, Calls Tryz.prog 10 #[.int .i64 v] wx fun e w' => e = .returned (.int .i64 (ixQ v : Int)) ∧ wx = w') := fun wx v => indexQ wx v
  have HNu : Hid (∀ wx, Calls Tryz.prog 13 #[.int .i64 0] wx fun e' w' => e' = .returned (.int .i64 0) ∧ wx = w') := fun wx => numQ wx 0 (by omega)
  clear hT hi hl hn ht htl hr hrl
  have hmm := @run_makeMap Tryz.prog
  unfold stuV
  go_enter Tryz.func5, Tryz.ntmps5
  go_upto_region 1 with (fail)
  obtain ⟨P, hP⟩ : ∃ P, w.heap.size = P := ⟨_, rfl⟩
  obtain ⟨w1, hw1⟩ : ∃ w1, (w.alloc (.cells #[.int .i64 M, .slice ta tl tc, .slice ra rl rc] 25)).alloc (.cells #[.int .i64 c0, .int .i64 c1] 57) = w1 := ⟨_, rfl⟩
  have H1 : Hid (Below w.heap.size w w1 ∧ GrK w1 (P + 1) c0 c1) := by
    refine ⟨by rw [← hw1]; exact ((Below.refl _ _).alloc (Nat.le_refl _) _).alloc (by simp) _, ?_⟩
    have := heap_alloc_new (w.alloc (.cells #[.int .i64 M, .slice ta tl tc, .slice ra rl rc] 25)) (.cells #[.int .i64 c0, .int .i64 c1] 57)
    rw [World.size_alloc] at this
    unfold GrK
    rw [← hw1, ← hP]; exact this
  have hst : StuAt w1 P M ta tl tc ra rl rc := by rw [← hw1, ← hP]; exact (Below.heap_alloc _ _ _ (by simp)).trans (heap_alloc_new _ _)
  rw [hw1, hP]
  clear hw1 hP
  obtain ⟨b0, b1, b2⟩ := hst.cells
  clear hst
  go_upto_region 2 with (go_at_call 8; refine (HBg.out _ H1.out.1).mono ?_; rintro e w2 ⟨rt, D, T, rfl, h1⟩; have H2 : Hid (OpQ w1 w2 D T n) := h1; clear h1 HBg)
  clear b0 b1 b2
  obtain ⟨tt, htt⟩ : ∃ tt, T.t = tt := ⟨_, rfl⟩
  have HTt : Hid (T.t = tt) := htt
  obtain ⟨G, hG⟩ : ∃ G, w2.heap.size = G := ⟨_, rfl⟩
  obtain ⟨w3, hw3⟩ : ∃ w3, w2.alloc (.cells #[.int .i64 (n : Int), .int .i64 98, .int .i64 (gI n), .int .i64 (gD n), .int .i64 (gC n)] 29) = w3 := ⟨_, rfl⟩
  have H3 : Hid (OpQ w1 w3 D T n ∧ Bq w1 w3 D T G (.cells #[.int .i64 (n : Int), .int .i64 98, .int .i64 (gI n), .int .i64 (gD n), .int .i64 (gC n)] 29 (0, 0))) := by
    have hb := Bq.new H2.out.spc #[.int .i64 (n : Int), .int .i64 98, .int .i64 (gI n), .int .i64 (gD n), .int .i64 (gC n)] 29
    rw [hw3, hG] at hb
    exact ⟨⟨H2.out.spc.on (by rw [← hw3]; exact below_new _), H2.out.c, H2.out.us⟩, hb⟩
  have H4 : Hid (Below w.heap.size w w3) := H1.out.1.trans (H3.out.1.spc.ses.bel.mono H1.out.1.size)
  rw [htt, hw3, hG]
  clear htt hw3 hG H2
  go_upto_region 4 with (go_at_call 9; refine (HKn.out _ H4.out).mono ?_; rintro e w4 ⟨rfl, h1⟩; have H5 : Hid (Below w3.heap.size w3 w4) := h1; clear h1 HKn)
  obtain ⟨f0, hf0⟩ : ∃ f0, ct (fd (nD n) n (bmp D T)) n = f0 := ⟨_, rfl⟩
  have HF0 : Hid (ct (fd (nD n) n (bmp D T)) n = f0 ∧ f0 ≤ 4427) := ⟨hf0, by rw [← hf0]; exact Nat.le_trans (ct_le _ _) HN.out.2⟩
  have HFb : Hid (f0 ≤ 4427) := HF0.out.2
  obtain ⟨z0, z1, z2, z3, z4⟩ := (H3.out.2.on H5.out).c5.cells
  have HFr : Hid (Calls Tryz.prog 14 #[.pointer (some ⟨tt, 0, none⟩), .agg #[.int .i64 (n : Int), .int .i64 98, .int .i64 (gI n), .int .i64 (gD n), .int .i64 (gC n)]] w4 fun e w' => e = .returned (.tuple #[.int .i64 (f0 : Int), .int .i64 0]) ∧ Below w4.heap.size w4 w') := by
    have h9 := free_any w1 w4 D T n (H3.out.1.spc.on H5.out)
    rw [HTt.out, hf0] at h9
    exact h9
  clear hf0
  go_upto_region 5 with (go_at_call 14; refine HFr.out.mono ?_; rintro e w5 ⟨rfl, h1⟩; have H6 : Hid (Below w4.heap.size w4 w5) := h1; clear h1 HFr)
  clear z0 z1 z2 z3 z4
  go_upto_region 7 with (go_at_call 13; refine (HNu.out _).mono ?_; rintro e wq ⟨rfl, rfl⟩)
  go_upto_region 8 with (fail)
  obtain ⟨x0, hx0⟩ : ∃ x0 : Nat → Int, (fun i => if i = 0 then 1 else if i = 1 then 3 else if i = 2 then 77 else 0) = x0 := ⟨_, rfl⟩
  obtain ⟨X, hX⟩ : ∃ X, w5.heap.size = X := ⟨_, rfl⟩
  obtain ⟨w6, hw6⟩ : ∃ w6, w5.alloc (.cells #[.int .i64 1, .int .i64 3, .int .i64 77, .int .i64 0, .int .i64 0, .int .i64 0, .int .i64 0, .int .i64 0, .int .i64 0, .int .i64 0, .int .i64 0, .int .i64 0, .int .i64 0, .int .i64 0, .int .i64 0] 35) = w6 := ⟨_, rfl⟩
  have H7 : Hid (Spc w1 w6 D T n ∧ Bq w1 w6 D T G (.cells #[.int .i64 (n : Int), .int .i64 98, .int .i64 (gI n), .int .i64 (gD n), .int .i64 (gC n)] 29 (0, 0)) ∧ Bq w1 w6 D T X (.cells #[.int .i64 (x0 0), .int .i64 (x0 1), .int .i64 (x0 2), .int .i64 (x0 3), .int .i64 (x0 4), .int .i64 (x0 5), .int .i64 (x0 6), .int .i64 (x0 7), .int .i64 (x0 8), .int .i64 (x0 9), .int .i64 (x0 10), .int .i64 (x0 11), .int .i64 (x0 12), .int .i64 (x0 13), .int .i64 (x0 14)] 35 (0, 0)) ∧ G < X ∧ (x0 0 = 1 ∧ x0 1 = 3 ∧ x0 2 = 77 ∧ ∀ p, p < 12 → x0 (3 + p) = 0)) := by
    have hb : Below w5.heap.size w5 w6 := by rw [← hw6]; exact below_new _
    have h3 := (H3.out.1.spc.on H5.out).on H6.out
    have hx := Bq.new h3 #[.int .i64 1, .int .i64 3, .int .i64 77, .int .i64 0, .int .i64 0, .int .i64 0, .int .i64 0, .int .i64 0, .int .i64 0, .int .i64 0, .int .i64 0, .int .i64 0, .int .i64 0, .int .i64 0, .int .i64 0] 35
    rw [hw6, hX] at hx
    refine ⟨h3.on hb, ((H3.out.2.on H5.out).on H6.out).on hb, ?_, by have := H3.out.2.out.lt; have := H5.out.size; have := H6.out.size; omega, by rw [← hx0]; exact ⟨rfl, rfl, rfl, fun p _ => by show (if 3 + p = 0 then (1 : Int) else if 3 + p = 1 then 3 else if 3 + p = 2 then 77 else 0) = 0; rw [if_neg (by omega), if_neg (by omega), if_neg (by omega)]⟩⟩
    rw [← hx0]
    exact hx
  rw [hw6, hX]
  clear hw6 hX hx0 H4 H5 H6
  go_upto_region 9 with (fail)
  obtain ⟨H, hH⟩ : ∃ H, w6.heap.size = H := ⟨_, rfl⟩
  obtain ⟨w7, hw7⟩ : ∃ w7, w6.alloc (.map #[] 0) = w7 := ⟨_, rfl⟩
  have H8 : Hid (GrS w1 w7 D T n 0 0 G X H tt f0 x0 (fun _ => 0)) := by
    have hb : Below w6.heap.size w6 w7 := by rw [← hw7]; exact (Below.refl _ _).alloc (Nat.le_refl _) _
    have h6 := H7.out
    refine ⟨h6.1.on hb, ⟨Tre.none h6.2.2.2.2.2.2.2, Own1.none⟩, Shp.none, by rw [H3.out.1.us]; simp, by rw [siz_none, HF0.out.1]; rfl, h6.2.1.on hb, ⟨h6.2.2.2.2.1, h6.2.2.2.2.2.1, h6.2.2.2.2.2.2.1⟩, h6.2.2.1.on hb, HasM.none ?_, Out.of h6.1 (by rw [hH]; exact Nat.le_refl _) (by rw [← hw7, ← hH]; simp), HTt.out, h6.2.2.2.1, ?_⟩
    · rw [← hw7, ← hH]; exact mpAt_made w6
    · have := h6.2.2.1.out.lt; omega
  rw [hw7, hH]
  clear hw7 hH H7 H3 HTt HF0
  go_cut [1] (fun s1 wx => ∃ m : Nat, m ≤ 200 ∧ m ≤ L ∧ s1 = .slice ia m ic ∧ w7 = wx)
  case first =>
    by_cases h2 : 200 < L
    · obtain ⟨p, rfl⟩ : ∃ p, ia = some p := by
        cases ia with
        | some p => exact ⟨p, rfl⟩
        | none =>
          rcases HI.out.1.at_ with e | ⟨_, _, e, _⟩
          · have := HI.out.2.1; rw [e] at this; simp at this; omega
          · cases e
      have hc2 : 200 ≤ ic := by omega
      go_wp2
      go_meet
      case rel => exact ⟨200, Nat.le_refl _, by omega, congrArg (fun q => Value.slice (some p) q ic) (by omega), rfl⟩
    · go_wp2
      go_meet
      case rel => exact ⟨L, by omega, Nat.le_refl _, congrArg (fun q => Value.slice ia q ic) (by omega), rfl⟩
  case rest =>
  obtain ⟨m, hm2, hmL, rfl, rfl⟩ := hcut
  obtain ⟨hf, hhf⟩ : ∃ hf, m / 2 = hf := ⟨_, rfl⟩
  have HHf : Hid (m / 2 = hf) := hhf
  clear hhf
  go_upto_block 0 with (fail)
  go_cut [] (fun wx => ∃ (r U : Nat) (T : Tx) (x : Nat → Int) (ν : Nat → Nat), r ≤ 200 ∧ U ≤ 16652 ∧ GrS w1 wx D T n r U G X H tt f0 x ν)
  case first => as_aux_lemma =>
    go_upto_region 11 with (fail)
    go_loopw [65] (fun s65 wr => ∃ (r U : Nat) (T : Tx) (x : Nat → Int) (ν : Nat → Nat), r ≤ m ∧ U ≤ 16652 ∧ (r ≤ hf → U = 0) ∧ s65 = .int .i64 (r : Int) ∧ GrS w1 wr D T n r U G X H tt f0 x ν) (fun s65 _ => m - (intOf s65).toNat)
    case atStart => exact ⟨0, 0, T, x0, _, by omega, by omega, fun _ => rfl, rfl, H8.out⟩
    case round =>
      clear H8
      clear T
      obtain ⟨r, U, T, x, ν, hr2, hU, hUf, rfl, hst⟩ := hrel
      obtain ⟨wA, hwA⟩ : ∃ wA, wr = wA := ⟨_, rfl⟩
      rw [hwA] at hst ⊢
      clear hwA wr
      have HR : Hid (GrS w1 wA D T n r U G X H tt f0 x ν) := hst
      have HU : Hid (U ≤ 16652 ∧ (r ≤ hf → U = 0)) := ⟨hU, hUf⟩
      clear hst hU hUf
      by_cases hrm : r < m
      · have hlt : (r : Int) < (m : Int) := by omega
        obtain ⟨v, ib, io, rfl, hcv⟩ : ∃ (v : Int) (ib io : Nat), ia = some ⟨ib, io, none⟩ ∧ wA.cell? ⟨ib, io + r, none⟩ = some (.int .i64 v) := by
          have hb : Below w.heap.size w wA := H1.out.1.trans (HR.out.spc.ses.bel.mono H1.out.1.size)
          rcases (HI.out.1.on hb).at_ with e | ⟨b, off, e, hc⟩
          · have := HI.out.2.1; rw [e] at this; simp at this; omega
          · exact ⟨nth is r, b, off, e, hc r (by have := HI.out.2.1; omega)⟩
        obtain ⟨k, hk⟩ : ∃ k, ixQ v = k := ⟨_, rfl⟩
        have hkb : k < 16522 := by rw [← hk]; exact ixQ_bd v
        have HIv : Hid (∀ wx, Calls Tryz.prog 10 #[.int .i64 v] wx fun e w' => e = .returned (.int .i64 (k : Int)) ∧ wx = w') := fun wx => by have := HIx.out wx v; rw [hk] at this; exact this
        clear hk
        go_upto_region 14 with (go_at_call 10; refine (HIv.out _).mono ?_; rintro e wq ⟨rfl, rfl⟩)
        clear hcv
        have hmd : (m : Int).tdiv 2 = (hf : Int) := by rw [Int.tdiv_eq_ediv_of_nonneg (by omega), ← HHf.out]; omega
        have hmd2 : (m : Int) / 2 = (hf : Int) := by have := HHf.out; omega
        have hmd3 : m / 2 = hf := HHf.out
        go_upto_if 76 with (fail)
        clear hmd hmd2 hmd3
        go_cut [] (fun wx => ∃ (U' : Nat) (T' : Tx) (x' : Nat → Int) (ν' : Nat → Nat), U' ≤ 16652 ∧ (r < hf → U' = 0) ∧ GrS w1 wx D T' n r U' G X H tt f0 x' ν')
        case first =>
          by_cases hrh : r = hf
          · have hrb : ((r : Int) == (hf : Int)) = true := by simp; omega
            have hrb2 : (r == hf) = true := by simp; omega
            have hrb4 : decide (r = hf) = true := decide_eq_true hrh
            have hU0 : U = 0 := HU.out.2 (Nat.le_of_eq hrh)
            have HRh : Hid (r = hf) := hrh
            clear hrh
            rw [hU0] at HR
            clear hU0
            go_upto_region 15 with (fail)
            clear hrb hrb2 hrb4
            obtain ⟨q, hq⟩ : ∃ q, ixQ c0 = q := ⟨_, rfl⟩
            have hqb : q < 16522 := by rw [← hq]; exact ixQ_bd c0
            have HIq : Hid (∀ wx, Calls Tryz.prog 10 #[.int .i64 c0] wx fun e w' => e = .returned (.int .i64 (q : Int)) ∧ wx = w') := fun wx => by have := HIx.out wx c0; rw [hq] at this; exact this
            clear hq
            have hcc : wA.cell? ⟨P + 1, 0, none⟩ = some (.int .i64 c0) := by
              have h1 := cell_of_row _ _ 0 _ _ _ H1.out.2
              exact (HR.out.spc.ses.bel.cell (block_lt_of_cell h1)).trans h1
            go_upto_region 16 with (go_at_call 10; refine (HIq.out _).mono ?_; rintro e wq ⟨rfl, rfl⟩)
            clear hcc
            obtain ⟨z0, z1, z2, z3, z4⟩ := HR.out.g.c5.cells
            obtain ⟨x0, x1, x2, x3, x4, x5, x6, x7, x8, x9, x10, x11, x12, x13, x14⟩ := HR.out.x.c15
            have HCu : Hid (Calls Tryz.prog 18 #[.pointer (some ⟨tt, 0, none⟩), .agg #[.int .i64 (n : Int), .int .i64 98, .int .i64 (gI n), .int .i64 (gD n), .int .i64 (gC n)], .agg #[.int .i64 (x 0), .int .i64 (x 1), .int .i64 (x 2), .int .i64 (x 3), .int .i64 (x 4), .int .i64 (x 5), .int .i64 (x 6), .int .i64 (x 7), .int .i64 (x 8), .int .i64 (x 9), .int .i64 (x 10), .int .i64 (x 11), .int .i64 (x 12), .int .i64 (x 13), .int .i64 (x 14)], .int .i64 (q : Int)] wA fun e w' => ∃ (z : Nat) (y : Nat → Int) (T' : Tx), e = .returned (.tuple #[.agg #[.int .i64 (y 0), .int .i64 (y 1), .int .i64 (y 2), .int .i64 (y 3), .int .i64 (y 4), .int .i64 (y 5), .int .i64 (y 6), .int .i64 (y 7), .int .i64 (y 8), .int .i64 (y 9), .int .i64 (y 10), .int .i64 (y 11), .int .i64 (y 12), .int .i64 (y 13), .int .i64 (y 14)], .int .i64 (z : Int)]) ∧ ((z = 0 ∧ y = withN x (cvP ν q) ∧ CtP D T T' n x ν q ∧ Gon w1 wA w' D T T' n (fun _ => False)) ∨ (z = 60 ∧ BigE w1 wA w' D T T' n))) := by
              have h9 := cut_any w1 wA D T n HR.out.spc x ν q (by omega) ⟨HR.out.wd, HN.out.1, Nat.le_trans HN.out.2 (by omega), HT.out.on H1.out.1, by omega, by have := HR.out.us; omega⟩
              rw [HR.out.t] at h9
              refine h9.mono ?_
              rintro e w' ⟨z, y, T', rfl, ⟨h1, h2, h3, h4, _⟩ | ⟨h1, _, _, h4⟩⟩
              · exact ⟨z, y, T', rfl, .inl ⟨h1, h2, h3, h4⟩⟩
              · exact ⟨z, y, T', rfl, .inr ⟨h1, h4⟩⟩
            go_upto_region 17 with (go_at_call 18; refine HCu.out.mono ?_; rintro e wd ⟨z, y, T1, rfl, h1⟩; have HD : Hid ((z = 0 ∧ y = withN x (cvP ν q) ∧ CtP D T T1 n x ν q ∧ Gon w1 wA wd D T T1 n (fun _ => False)) ∨ (z = 60 ∧ BigE w1 wA wd D T T1 n)) := h1; clear h1 HCu)
            clear z0 z1 z2 z3 z4 x0 x1 x2 x3 x4 x5 x6 x7 x8 x9 x10 x11 x12 x13 x14
            obtain ⟨ZZ, hZ⟩ : ∃ ZZ : Int, (z : Int) = ZZ := ⟨_, rfl⟩
            have HZ : Hid ((z : Int) = ZZ) := hZ
            rw [hZ]
            clear hZ
            obtain ⟨Yb, hYb⟩ : ∃ Yb, wd.heap.size = Yb := ⟨_, rfl⟩
            obtain ⟨we, hwe⟩ : ∃ we, wd.alloc (.cells #[.int .i64 (y 0), .int .i64 (y 1), .int .i64 (y 2), .int .i64 (y 3), .int .i64 (y 4), .int .i64 (y 5), .int .i64 (y 6), .int .i64 (y 7), .int .i64 (y 8), .int .i64 (y 9), .int .i64 (y 10), .int .i64 (y 11), .int .i64 (y 12), .int .i64 (y 13), .int .i64 (y 14)] 35) = we := ⟨_, rfl⟩
            have HE : Hid (Below wd.heap.size wd we ∧ wd.heap.size = Yb ∧ we.heap[Yb]? = some (.cells #[.int .i64 (y 0), .int .i64 (y 1), .int .i64 (y 2), .int .i64 (y 3), .int .i64 (y 4), .int .i64 (y 5), .int .i64 (y 6), .int .i64 (y 7), .int .i64 (y 8), .int .i64 (y 9), .int .i64 (y 10), .int .i64 (y 11), .int .i64 (y 12), .int .i64 (y 13), .int .i64 (y 14)] 35 (0, 0))) := ⟨by rw [← hwe]; exact below_new _, hYb, by rw [← hwe, ← hYb]; exact heap_alloc_new _ _⟩
            rw [hwe, hYb]
            clear hwe hYb
            rcases HD.out with ⟨hz0, hy, hp, hg⟩ | ⟨hz0, hbig⟩
            · have hZ0 : ZZ = 0 := by have := HZ.out; omega
              subst hZ0
              clear hz0 HD
              have HY : Hid (y = withN x (cvP ν q) ∧ CtP D T T1 n x ν q ∧ Gon w1 wA wd D T T1 n (fun _ => False)) := ⟨hy, hp, hg⟩
              clear hy hp hg
              have HX : Hid (Bq w1 we D T1 X (.cells #[.int .i64 (x 0), .int .i64 (x 1), .int .i64 (x 2), .int .i64 (x 3), .int .i64 (x 4), .int .i64 (x 5), .int .i64 (x 6), .int .i64 (x 7), .int .i64 (x 8), .int .i64 (x 9), .int .i64 (x 10), .int .i64 (x 11), .int .i64 (x 12), .int .i64 (x 13), .int .i64 (x 14)] 35 (0, 0)) ∧ HasM we H ν) := ⟨(HR.out.x.gon HY.out.2.2).on HE.out.1, (HR.out.h.mv HR.out.ho HY.out.2.2.mv).on HE.out.1⟩
              go_upto_region 21 with (go_at_call 13; refine (HNu.out _).mono ?_; rintro e wq ⟨rfl, rfl⟩)
              go_upto_region 22 with (first
                | (refine wpList_load_row rfl 35 _ rfl Yb rfl 35 #[.int .i64 (y 0), .int .i64 (y 1), .int .i64 (y 2), .int .i64 (y 3), .int .i64 (y 4), .int .i64 (y 5), .int .i64 (y 6), .int .i64 (y 7), .int .i64 (y 8), .int .i64 (y 9), .int .i64 (y 10), .int .i64 (y 11), .int .i64 (y 12), .int .i64 (y 13), .int .i64 (y 14)] (0, 0) _ HE.out.2.2 Tryz.underlying35 rfl szI ?_)
                | (refine wpList_store_row rfl 35 _ _ rfl X #[.int .i64 (y 0), .int .i64 (y 1), .int .i64 (y 2), .int .i64 (y 3), .int .i64 (y 4), .int .i64 (y 5), .int .i64 (y 6), .int .i64 (y 7), .int .i64 (y 8), .int .i64 (y 9), .int .i64 (y 10), .int .i64 (y 11), .int .i64 (y 12), .int .i64 (y 13), .int .i64 (y 14)] rfl rfl 35 #[.int .i64 (x 0), .int .i64 (x 1), .int .i64 (x 2), .int .i64 (x 3), .int .i64 (x 4), .int .i64 (x 5), .int .i64 (x 6), .int .i64 (x 7), .int .i64 (x 8), .int .i64 (x 9), .int .i64 (x 10), .int .i64 (x 11), .int .i64 (x 12), .int .i64 (x 13), .int .i64 (x 14)] HX.out.1.row szI rfl (oneC y) ?_)
                | go_in)
              obtain ⟨wf, hwf⟩ : ∃ wf, we.setRow X #[.int .i64 (y 0), .int .i64 (y 1), .int .i64 (y 2), .int .i64 (y 3), .int .i64 (y 4), .int .i64 (y 5), .int .i64 (y 6), .int .i64 (y 7), .int .i64 (y 8), .int .i64 (y 9), .int .i64 (y 10), .int .i64 (y 11), .int .i64 (y 12), .int .i64 (y 13), .int .i64 (y 14)] = wf := ⟨_, rfl⟩
              have HF : Hid (Fr (fun k => k = X) we wf ∧ wf.heap[X]? = some (.cells #[.int .i64 (y 0), .int .i64 (y 1), .int .i64 (y 2), .int .i64 (y 3), .int .i64 (y 4), .int .i64 (y 5), .int .i64 (y 6), .int .i64 (y 7), .int .i64 (y 8), .int .i64 (y 9), .int .i64 (y 10), .int .i64 (y 11), .int .i64 (y 12), .int .i64 (y 13), .int .i64 (y 14)] 35 (0, 0))) := ⟨by rw [← hwf]; exact row_fr _ _ _, by rw [← hwf]; exact setRow_heap _ _ _ _ _ _ HX.out.1.row⟩
              rw [hwf]
              clear hwf
              have HHf2 : Hid (HasM wf H ν ∧ H < wf.heap.size) := by
                have hgx := HR.out.gx
                have h1 := HX.out.2.hp (HF.out.1.block H HX.out.2.lt (by omega))
                exact ⟨h1, h1.lt⟩
              obtain ⟨ks, ⟨E, hE, hL⟩, hks⟩ := HHf2.out.1
              have HL : Hid (MpL E ks ∧ ∀ z v, (z, v) ∈ ks ↔ ∃ k : Nat, k < 16522 ∧ ν (ixP k) ≠ 0 ∧ z = (k : Int) ∧ v = (ν (ixP k) : Int)) := ⟨hL, hks⟩
              obtain ⟨kl, hkl⟩ : ∃ kl, ks.length = kl := ⟨_, rfl⟩
              rw [hkl] at hE
              clear hL hks hkl
              go_upto_region 23 with (first
                | (at_range; refine wpList_range_own _ rfl _ 36 rfl 3 3 lawI Tryz.underlying36 _ H kl _ rfl hE ?_; intro w3 hrg0 hg0 hs0)
                | go_in)
              go_frame
              obtain ⟨r9, hr9⟩ : ∃ r9, wf.heap.size = r9 := ⟨_, rfl⟩
              have H9 : Hid (Fr (fun k => k = H ∨ wf.heap.size ≤ k) wf w3 ∧ wf.heap.size = r9) := ⟨⟨hg0.os, hg0.tape, hg0.output, hg0.size, fun k hk _ => hg0.block k hk (by simp)⟩, hr9⟩
              rw [hr9] at hrg0 ⊢
              clear hr9 hs0 hg0 hE
              go_loopw [21] (fun _ wr => ∃ (left : Lit → Bool) (cnt : Nat) (E' : DataW Unit) (ks' : List (Int × Int)), wr.ranges Tryz.prog 3 (plainElem Tryz.prog 3) H r9 kl E' left cnt ∧ MpL E' ks' ∧ (∀ z, left (kI z) = true → z ∈ ks'.map Prod.fst) ∧ DlI ks ks' left (q : Int) ∧ Fr (fun k => k = H ∨ wf.heap.size ≤ k) wf wr)
                (fun _ wr => wr.rangeLeft H r9)
              case atStart =>
                refine ⟨_, _, E, ks, hrg0, HL.out.1, fun z hz => by rw [HL.out.1.has] at hz; simpa using hz, fun z v => ?_, H9.out.1⟩
                constructor
                · intro hzv
                  exact ⟨hzv, .inr (by rw [HL.out.1.has]; exact decide_eq_true (List.mem_map.2 ⟨_, hzv, rfl⟩))⟩
                · exact fun e => e.1
              case round =>
                obtain ⟨left, cnt, E', ks', hrg, hL', hlk, hdl, hfr⟩ := hrel
                obtain ⟨wB, hwB⟩ : ∃ wB, wr = wB := ⟨_, rfl⟩
                rw [hwB] at hrg hfr ⊢
                clear hwB hrg0
                have HG : Hid (MpL E' ks' ∧ DlI ks ks' left (q : Int) ∧ Fr (fun k => k = H ∨ wf.heap.size ≤ k) wf wB ∧ (∀ z, left (kI z) = true → z ∈ ks'.map Prod.fst) ∧ wB.rangeLeft H r9 = cnt) := ⟨hL', hdl, hfr, hlk, hrg.left_eq⟩
                clear hL' hdl hfr hlk
                go_upto_region 24 with (first
                  | (at_next; refine wpList_next_ranges_ii _ rfl _ rfl 3 3 .i64 .i64 lawI Tryz.underlying3 Tryz.underlying3 H r9 kl _ _ _ rfl hrg ?_ ?_)
                  | go_in)
                · intro hc0 hl0
                  have hm9 := MpAt.of hrg.owns HG.out.1
                  have HRz : Hid (GrS w1 wB D T1 n r 16652 G X H tt f0 y (cvP ν q)) := HR.out.cut HY.out.2.1 HY.out.2.2 HE.out.1 HF.out.1 HF.out.2 HY.out.1 HG.out.2.2.1 (HasM.cut HL.out.2 hm9 HG.out.2.1 hl0)
                  clear hrg hm9
                  go_wp2
                  go_meet
                  case rel => exact ⟨16652, T1, y, cvP ν q, Nat.le_refl _, fun e => absurd HRh.out (by omega), HRz.out⟩
                · intro z c' w4 cnt1 hwz hwc hlz hat hrg1 hlt9 hg1 hs1 hen
                  have HX4 : Hid (Fr (fun k => k = H ∨ wf.heap.size ≤ k) wf w4 ∧ cnt1 < cnt ∧ (kI z).wf = true) := ⟨HG.out.2.2.1.trans (grown_fr hg1) (fun k hk => .inl (.inr (by have := Option.some.inj hk; have := H9.out.2; omega))), hlt9, hwz⟩
                  clear hrg hg1 hs1 hat hwc hlt9 hwz
                  by_cases hzq : z < (q : Int)
                  · have hzq' : ¬ (q : Int) ≤ z := by omega
                    go_wp2
                    go_roundw
                    case rel => exact ⟨_, cnt1, E', ks', hrg1, HG.out.1, fun y hy => HG.out.2.2.2.1 y (by simp at hy; exact hy.1), HG.out.2.1.keep hzq, HX4.out.1⟩
                    case measure => rw [hrg1.left_eq, HG.out.2.2.2.2]; exact HX4.out.2.1
                  · have hzq' : (q : Int) ≤ z := by omega
                    go_wp2_with (first
                      | (at_delete; refine wpList_delete_ranges _ rfl _ _ 36 3 rfl 3 lawI Tryz.underlying36 _ H r9 kl _ _ _ rfl hrg1 _ _ rfl (keyOf_int_mk Tryz.underlying3 HX4.out.2.2) ?_; intro w5 cnt2 hrg2 hle hturn; go_frame)
                      | go_in)
                    rw [strike_twice] at hrg2
                    go_roundw
                    case rel =>
                      refine ⟨_, cnt2, _, _, hrg2, HG.out.1.del z, fun y hy => ?_, HG.out.2.1.del hzq, HX4.out.1.trans (grown_fr hturn.grown) (fun k hk => .inl (.inl (Option.some.inj hk).symm))⟩
                      have hy2 : left (kI y) = true ∧ y ≠ z := by
                        refine ⟨by simp at hy; exact hy.1, fun e => ?_⟩
                        subst e
                        simp [WideAt.sameKey_self (isK y)] at hy
                      obtain ⟨⟨y', u⟩, h1, h2⟩ := List.mem_map.1 (HG.out.2.2.2.1 y hy2.1)
                      have h2 : y' = y := h2
                      subst h2
                      exact List.mem_map.2 ⟨(y', u), List.mem_filter.2 ⟨h1, by simp [hy2.2]⟩, rfl⟩
                    case measure => rw [hrg2.left_eq, HG.out.2.2.2.2]; have := HX4.out.2.1; omega
            · have hZ0 : ZZ = 60 := by have := HZ.out; omega
              subst hZ0
              have HN6 : Hid (∀ wx, Calls Tryz.prog 13 #[.int .i64 60] wx fun e' w' => e' = .returned (.int .i64 60) ∧ wx = w') := fun wx => numQ wx 60 (by omega)
              have HQ : Hid (Below w1.heap.size w1 we) := ((HR.out.big hbig).on HE.out.1).spc.ses.bel
              clear hz0 hbig HD
              go_wp2_with (go_at_call 13; refine (HN6.out _).mono ?_; rintro e wq ⟨rfl, rfl⟩)
              go_ret
              exact ⟨rfl, H1.out.1.trans (HQ.out.mono H1.out.1.size)⟩
          · have hrb : ((r : Int) == (hf : Int)) = false := by simp; omega
            have hrb2 : (r == hf) = false := by simp; omega
            have hrb3 : ¬ (r : Int) = (hf : Int) := by omega
            have hrb4 : decide (r = hf) = false := decide_eq_false hrh
            go_wp2
            go_meet
            case rel => exact ⟨U, T, x, ν, HU.out.1, fun e => HU.out.2 (Nat.le_of_lt e), HR.out⟩
        case rest =>
        clear HR HU
        obtain ⟨U', T', x', ν', hU, hUf, hst⟩ := hcut
        clear T x ν
        obtain ⟨T, hTe⟩ : ∃ T, T' = T := ⟨_, rfl⟩
        obtain ⟨x, hxe⟩ : ∃ x, x' = x := ⟨_, rfl⟩
        obtain ⟨ν, hνe⟩ : ∃ ν, ν' = ν := ⟨_, rfl⟩
        rw [hTe, hxe, hνe] at hst
        clear hTe hxe hνe T' x' ν'
        have HR : Hid (GrS w1 wc D T n r U' G X H tt f0 x ν) := hst
        have HU : Hid (U' ≤ 16652 ∧ (r < hf → U' = 0)) := ⟨hU, hUf⟩
        clear hst hU hUf
        obtain ⟨Ln, hLn⟩ : ∃ Ln, (lst T.c n).length = Ln := ⟨_, rfl⟩
        have HL : Hid ((lst T.c n).length = Ln) := hLn
        have HWr : Hid (∀ wx T', GrS w1 wx D T' n r U' G X H tt f0 x ν → (lst T'.c n).length = Ln → Calls Tryz.prog 16 #[.pointer (some ⟨tt, 0, none⟩)] wx fun e w' => ∃ a c, e = .returned (.slice a Ln c) ∧ Below wx.heap.size wx w') := fun wx T' hx hl => by
          have h9 := writtenQ w1 wx D T' n hx.spc
          rw [hx.t, hl] at h9
          refine h9.mono ?_
          rintro e w' ⟨a, c, h1, _, h2⟩
          exact ⟨a, c, h1, h2⟩
        clear hLn
        go_upto_region 28 with (go_at_call 16; refine (HWr.out _ T HR.out HL.out).mono ?_; rintro e wC ⟨a1, c1', rfl, h1⟩; have HC : Hid (Below wc.heap.size wc wC) := h1; clear h1)
        have HR3 : Hid (GrS w1 wC D T n r U' G X H tt f0 x ν) := HR.out.on HC.out
        clear HR HC
        obtain ⟨z0, z1, z2, z3, z4⟩ := HR3.out.g.c5.cells
        obtain ⟨x0, x1, x2, x3, x4, x5, x6, x7, x8, x9, x10, x11, x12, x13, x14⟩ := HR3.out.x.c15
        have HAd : Hid (Calls Tryz.prog 12 #[.pointer (some ⟨tt, 0, none⟩), .agg #[.int .i64 (n : Int), .int .i64 98, .int .i64 (gI n), .int .i64 (gD n), .int .i64 (gC n)], .agg #[.int .i64 (x 0), .int .i64 (x 1), .int .i64 (x 2), .int .i64 (x 3), .int .i64 (x 4), .int .i64 (x 5), .int .i64 (x 6), .int .i64 (x 7), .int .i64 (x 8), .int .i64 (x 9), .int .i64 (x 10), .int .i64 (x 11), .int .i64 (x 12), .int .i64 (x 13), .int .i64 (x 14)], .int .i64 (k : Int)] wC fun e w' => ∃ (N z : Nat) (y : Nat → Int) (T' : Tx), e = .returned (.tuple #[.agg #[.int .i64 (y 0), .int .i64 (y 1), .int .i64 (y 2), .int .i64 (y 3), .int .i64 (y 4), .int .i64 (y 5), .int .i64 (y 6), .int .i64 (y 7), .int .i64 (y 8), .int .i64 (y 9), .int .i64 (y 10), .int .i64 (y 11), .int .i64 (y 12), .int .i64 (y 13), .int .i64 (y 14)], .int .i64 (N : Int), .int .i64 (z : Int)]) ∧ AdG w1 wC w' D T T' n k x ν y N z) := by
          have h9 := add_any w1 wC D T n HR3.out.spc (HT.out.on H1.out.1) x ν HR3.out.wd k hkb (by have := HR3.out.us; have := HU.out.1; omega)
          rw [HR3.out.t] at h9
          exact h9
        go_upto_region 29 with (go_at_call 12; refine HAd.out.mono ?_; rintro e wd ⟨N, z, y, T1, rfl, h1⟩; have HD : Hid (AdG w1 wC wd D T T1 n k x ν y N z) := h1; clear h1 HAd)
        clear z0 z1 z2 z3 z4 x0 x1 x2 x3 x4 x5 x6 x7 x8 x9 x10 x11 x12 x13 x14
        obtain ⟨ZZ, hZ⟩ : ∃ ZZ : Int, (z : Int) = ZZ := ⟨_, rfl⟩
        have HZ : Hid ((z : Int) = ZZ) := hZ
        rw [hZ]
        clear hZ
        obtain ⟨Yb, hYb⟩ : ∃ Yb, wd.heap.size = Yb := ⟨_, rfl⟩
        obtain ⟨we, hwe⟩ : ∃ we, wd.alloc (.cells #[.int .i64 (y 0), .int .i64 (y 1), .int .i64 (y 2), .int .i64 (y 3), .int .i64 (y 4), .int .i64 (y 5), .int .i64 (y 6), .int .i64 (y 7), .int .i64 (y 8), .int .i64 (y 9), .int .i64 (y 10), .int .i64 (y 11), .int .i64 (y 12), .int .i64 (y 13), .int .i64 (y 14)] 35) = we := ⟨_, rfl⟩
        have HE : Hid (Below wd.heap.size wd we ∧ wd.heap.size = Yb ∧ we.heap[Yb]? = some (.cells #[.int .i64 (y 0), .int .i64 (y 1), .int .i64 (y 2), .int .i64 (y 3), .int .i64 (y 4), .int .i64 (y 5), .int .i64 (y 6), .int .i64 (y 7), .int .i64 (y 8), .int .i64 (y 9), .int .i64 (y 10), .int .i64 (y 11), .int .i64 (y 12), .int .i64 (y 13), .int .i64 (y 14)] 35 (0, 0))) := ⟨by rw [← hwe]; exact below_new _, hYb, by rw [← hwe, ← hYb]; exact heap_alloc_new _ _⟩
        rw [hwe, hYb]
        clear hwe hYb
        rcases HD.out with ⟨hz0, ν', hy, hp, hg⟩ | ⟨hz0, hN0, hy, hzz, hbig⟩
        · have hZ0 : ZZ = 0 := by have := HZ.out; omega
          subst hZ0
          clear hz0 HD
          have HY : Hid (y = withN x ν' ∧ AdP D T T1 n k x ν ν' N ∧ Gon w1 wC wd D T T1 n (fun _ => False)) := ⟨hy, hp, hg⟩
          have HO : Hid ((y 0 != x 0) = false ∧ (y 1 != x 1) = false ∧ (y 2 != x 2) = false) := by
            have h9 : (y 0 != x 0) = false ∧ (y 1 != x 1) = false ∧ (y 2 != x 2) = false := by rw [hy]; unfold withN; simp
            exact h9
          clear hy hp hg
          have HX : Hid (Bq w1 we D T1 X (.cells #[.int .i64 (x 0), .int .i64 (x 1), .int .i64 (x 2), .int .i64 (x 3), .int .i64 (x 4), .int .i64 (x 5), .int .i64 (x 6), .int .i64 (x 7), .int .i64 (x 8), .int .i64 (x 9), .int .i64 (x 10), .int .i64 (x 11), .int .i64 (x 12), .int .i64 (x 13), .int .i64 (x 14)] 35 (0, 0)) ∧ HasM we H ν ∧ Out w1 we D T1 H ∧ Spc w1 we D T1 n) := ⟨(HR3.out.x.gon HY.out.2.2).on HE.out.1, (HR3.out.h.mv HR3.out.ho HY.out.2.2.mv).on HE.out.1, (HR3.out.ho.mv HY.out.2.2.mv).mv (SMv.on HE.out.1 (S := fun _ => False)), HY.out.2.2.spc.on HE.out.1⟩
          go_upto_region 30 with (go_at_call 13; refine (HNu.out _).mono ?_; rintro e wq ⟨rfl, rfl⟩)
          go_cut [149] (fun s wx => s = .bool false ∧ we = wx)
          case first => as_aux_lemma =>
            have x0 := cell_of_row _ _ 0 _ _ _ HX.out.1.row
            have x1 := cell_of_row _ _ 1 _ _ _ HX.out.1.row
            have x2 := cell_of_row _ _ 2 _ _ _ HX.out.1.row
            have y0 := cell_of_row _ _ 0 _ _ _ HE.out.2.2
            have y1 := cell_of_row _ _ 1 _ _ _ HE.out.2.2
            have y2 := cell_of_row _ _ 2 _ _ _ HE.out.2.2
            obtain ⟨t1, t2, t3⟩ := HO.out
            go_wp2_with (go_at_call 13; refine (HNu.out _).mono ?_; rintro e wq ⟨rfl, rfl⟩)
            go_meet
            case rel => exact ⟨by simp, rfl⟩
          case rest =>
          obtain ⟨rfl, rfl⟩ := hcut
          go_upto_region 32 with (fail)
          go_cut [26, 27] (fun s26 s27 wx => we = wx ∧ ((s26 = .int .i64 0 ∧ s27 = .bool false ∧ ν (ixP k) = 0) ∨ (s26 = .int .i64 (N : Int) ∧ s27 = .bool true ∧ ν (ixP k) ≠ 0)))
          case first => as_aux_lemma =>
            obtain ⟨ks, hks, hk2⟩ := HX.out.2.1
            by_cases hz : ν (ixP k) = 0
            · have hno : (k : Int) ∉ ks.map Prod.fst := fun hm => by
                obtain ⟨j, _, j2, j3⟩ := (has_keys hk2 _).1 hm
                have : k = j := by omega
                subst this
                exact j2 hz
              go_wp2_with (first
                | (at_lookup; refine lk_no _ rfl _ _ rfl H ks (k : Int) rfl hks hno (wf64 (by omega)) rfl ?_)
                | go_in)
              go_meet
              case rel => exact ⟨rfl, .inl ⟨rfl, rfl, hz⟩⟩
            · have hNν : (ν (ixP k) : Int) = (N : Int) := by
                have h1 := HY.out.2.1
                obtain ⟨_, _, _, a4⟩ := add_count (n := n) hkb HR3.out.shp h1.tks (fd0 _ _ (by unfold nD; omega) _) (fun b hb => (fd_bd hb).2)
                rw [← (a4 hz).1, h1.nE]
              have hin := (hk2 (k : Int) (N : Int)).2 ⟨k, hkb, hz, rfl, hNν.symm⟩
              go_wp2_with (first
                | (at_lookup; refine lk_ok _ rfl _ _ rfl H ks (k : Int) (N : Int) rfl hks hin (wf64 (by omega)) rfl ?_)
                | go_in)
              go_meet
              case rel => exact ⟨rfl, .inr ⟨rfl, rfl, hz⟩⟩
          case rest =>
          obtain ⟨rfl, hold⟩ := hcut
          go_upto_region 33 with (fail)
          go_cut [173] (fun s wx => s = .bool false ∧ Below we.heap.size we wx)
          case first => as_aux_lemma =>
            rcases hold with ⟨rfl, rfl, hz⟩ | ⟨rfl, rfl, hz⟩
            · go_wp2
              go_meet
              case rel => exact ⟨by simp, Below.refl _ _⟩
            · have HSm : Hid (T1 = T ∧ y = x) := by
                have h1 := HY.out.2.1
                obtain ⟨_, _, _, a4⟩ := add_count (n := n) hkb HR3.out.shp h1.tks (fd0 _ _ (by unfold nD; omega) _) (fun b hb => (fd_bd hb).2)
                refine ⟨?_, ?_⟩
                · rcases h1.un with ⟨p, p1, p2⟩ | e
                  · exact absurd p2 ((a4 hz).2 p p1)
                  · exact e
                · rw [HY.out.1, (a4 hz).1]; exact withN_self HR3.out.wd.tre
              have EN : ∀ wx, (binOp .neq 35 (.agg #[.int .i64 (y 0), .int .i64 (y 1), .int .i64 (y 2), .int .i64 (y 3), .int .i64 (y 4), .int .i64 (y 5), .int .i64 (y 6), .int .i64 (y 7), .int .i64 (y 8), .int .i64 (y 9), .int .i64 (y 10), .int .i64 (y 11), .int .i64 (y 12), .int .i64 (y 13), .int .i64 (y 14)]) (.agg #[.int .i64 (x 0), .int .i64 (x 1), .int .i64 (x 2), .int .i64 (x 3), .int .i64 (x 4), .int .i64 (x 5), .int .i64 (x 6), .int .i64 (x 7), .int .i64 (x 8), .int .i64 (x 9), .int .i64 (x 10), .int .i64 (x 11), .int .i64 (x 12), .int .i64 (x 13), .int .i64 (x 14)])).run Tryz.prog wx = .ok (.bool false) wx := fun wx => by
                have h9 := neqI wx y x
                rw [smB_iff.2 (fun i _ => by rw [HSm.out.2])] at h9
                exact h9
              have HW2 : Hid (Calls Tryz.prog 16 #[.pointer (some ⟨tt, 0, none⟩)] we fun e w' => ∃ a c, e = .returned (.slice a Ln c) ∧ Below we.heap.size we w') := by
                have h9 := writtenQ w1 we D T1 n HX.out.2.2.2
                rw [HY.out.2.2.mv.t, HR3.out.t, HSm.out.1, HL.out] at h9
                refine h9.mono ?_
                rintro e w' ⟨a, c, h1, _, h2⟩
                exact ⟨a, c, h1, h2⟩
              have hyc := fun j => cell_of_row _ _ j _ _ _ HE.out.2.2
              have y0 := hyc 0
              have y1 := hyc 1
              have y2 := hyc 2
              have y3 := hyc 3
              have y4 := hyc 4
              have y5 := hyc 5
              have y6 := hyc 6
              have y7 := hyc 7
              have y8 := hyc 8
              have y9 := hyc 9
              have y10 := hyc 10
              have y11 := hyc 11
              have y12 := hyc 12
              have y13 := hyc 13
              have y14 := hyc 14
              clear hyc
              obtain ⟨x0, x1, x2, x3, x4, x5, x6, x7, x8, x9, x10, x11, x12, x13, x14⟩ := HX.out.1.c15
              go_wp2_with (go_at_call 16; refine HW2.out.mono ?_; rintro e w9 ⟨a9, c9, rfl, h1⟩; have H9 : Hid (Below we.heap.size we w9) := h1; clear h1)
              go_meet
              case rel => exact ⟨by simp, H9.out⟩
          case rest =>
          clear hold
          obtain ⟨rfl, hbg⟩ := hcut
          obtain ⟨wg, hwg⟩ : ∃ wg, wc = wg := ⟨_, rfl⟩
          rw [hwg] at hbg ⊢
          clear hwg
          have HEg : Hid (Below wd.heap.size wd wg ∧ wd.heap.size = Yb ∧ wg.heap[Yb]? = some (.cells #[.int .i64 (y 0), .int .i64 (y 1), .int .i64 (y 2), .int .i64 (y 3), .int .i64 (y 4), .int .i64 (y 5), .int .i64 (y 6), .int .i64 (y 7), .int .i64 (y 8), .int .i64 (y 9), .int .i64 (y 10), .int .i64 (y 11), .int .i64 (y 12), .int .i64 (y 13), .int .i64 (y 14)] 35 (0, 0))) := ⟨HE.out.1.trans (hbg.mono HE.out.1.size), HE.out.2.1, (hbg.block _ (heap_lt HE.out.2.2)).trans HE.out.2.2⟩
          have HXg : Hid (Bq w1 wg D T1 X (.cells #[.int .i64 (x 0), .int .i64 (x 1), .int .i64 (x 2), .int .i64 (x 3), .int .i64 (x 4), .int .i64 (x 5), .int .i64 (x 6), .int .i64 (x 7), .int .i64 (x 8), .int .i64 (x 9), .int .i64 (x 10), .int .i64 (x 11), .int .i64 (x 12), .int .i64 (x 13), .int .i64 (x 14)] 35 (0, 0)) ∧ HasM wg H ν) := ⟨HX.out.1.on hbg, HX.out.2.1.on hbg⟩
          clear hbg HE HX
          go_upto_region 35 with (fail)
          have HMw : Hid (∀ wx, wx.heap[H]? = wg.heap[H]? → ∃ w9, (Instr.mapUpdate 36 (.map (some H)) (.int .i64 (k : Int)) (.int .i64 (N : Int))).run Tryz.prog wx = .ok () w9 ∧ HasM w9 H ν' ∧ wx.grownBy w9 (some H)) := fun wx hx => by
            obtain ⟨ks', q1, q2⟩ := HXg.out.2.hp hx
            obtain ⟨E', e1, e2⟩ := q1
            have hNb : N < n := by have h1 := HY.out.2.1; have := (h1.wd.own.good (ixP k) (by rw [h1.nE]; exact h1.N0)).2.1; rw [h1.nE] at this; exact this
            have hlen : ks'.length ≤ 16522 := by
              have h1 : (ks'.map Prod.fst).length ≤ ((List.range 16522).map fun k : Nat => (k : Int)).length := sub_len e2.nd (fun x hx => by
                obtain ⟨k, k1, _, k3⟩ := (has_keys q2 x).1 hx
                exact List.mem_map.2 ⟨k, List.mem_range.2 k1, k3.symm⟩)
              rw [List.length_map, List.length_map, List.length_range] at h1
              exact h1
            obtain ⟨w9, r1, r2, r3⟩ := e1.update lawI Tryz.underlying36 (by unfold maxLen; omega) (keyOf_int_mk (a := (k : Int)) Tryz.underlying3 (wf64 (by omega))) (plainElem_int (a := (N : Int)) Tryz.underlying3 (wf64 (by have := HN.out; omega)))
            obtain ⟨ks9, k1, k2, k3, k4⟩ := e2.put (k : Int) (N : Int)
            have h1 := HY.out.2.1
            exact ⟨w9, r1, HasM.put hkb q2 (MpAt.of r2 k1) (by rw [h1.nE]; exact k3) (by rw [h1.nE]; exact h1.N0) (fun j j1 j2 => h1.tks.off _ (ixP_way_off hkb j1 j2)), r3⟩
          obtain ⟨w8, hr8, hm8, hg8⟩ := HMw.out wg.drew rfl
          have hXH : X < H := HR3.out.gx.2
          have hYlt := heap_lt HEg.out.2.2
          have hXlt := heap_lt HXg.out.1.row
          have hYH : Yb ≠ H := by have := HR3.out.ho.lt; have := HEg.out.2.1; have := HY.out.2.2.mv.fr.size; omega
          have H89 : Hid (HasM w8 H ν' ∧ wg.drew.grownBy w8 (some H)) := ⟨hm8, hg8⟩
          have HX8 : Hid (w8.heap[X]? = some (.cells #[.int .i64 (x 0), .int .i64 (x 1), .int .i64 (x 2), .int .i64 (x 3), .int .i64 (x 4), .int .i64 (x 5), .int .i64 (x 6), .int .i64 (x 7), .int .i64 (x 8), .int .i64 (x 9), .int .i64 (x 10), .int .i64 (x 11), .int .i64 (x 12), .int .i64 (x 13), .int .i64 (x 14)] 35 (0, 0))) := (hg8.block X hXlt (fun e => by have := Option.some.inj e; omega)).trans HXg.out.1.row
          have HE8 : Hid (w8.heap[Yb]? = some (.cells #[.int .i64 (y 0), .int .i64 (y 1), .int .i64 (y 2), .int .i64 (y 3), .int .i64 (y 4), .int .i64 (y 5), .int .i64 (y 6), .int .i64 (y 7), .int .i64 (y 8), .int .i64 (y 9), .int .i64 (y 10), .int .i64 (y 11), .int .i64 (y 12), .int .i64 (y 13), .int .i64 (y 14)] 35 (0, 0))) := (hg8.block Yb hYlt (fun e => hYH (Option.some.inj e))).trans HEg.out.2.2
          clear hm8 hg8 HMw hXH hYlt hXlt hYH
          refine wp_region_any (by as_aux_lemma => kernel_rfl) ?_
          try (change wpAny _ _ _ _ _ _ _ (World.drew _))
          refine wpAny_take (i := 0) (v := ?_) rfl (by as_aux_lemma => kernel_rfl) (by as_aux_lemma => kernel_rfl) (by as_aux_lemma => kernel_rfl) (fun _ _ _ h => h) (Or.inl ⟨by as_aux_lemma => kernel_rfl, ?_⟩) ?_
          rotate_left
          focus (intro w; go_simp; (try (with_reducible rfl)); done)
          go_simp
          refine wpAny_take (i := 1) (v := ?_) rfl (by as_aux_lemma => kernel_rfl) (by as_aux_lemma => kernel_rfl) (by as_aux_lemma => kernel_rfl) (fun _ _ _ h => h) (Or.inl ⟨by as_aux_lemma => kernel_rfl, ?_⟩) ?_
          rotate_left
          focus (intro w; go_simp; (try (with_reducible rfl)); done)
          go_simp
          refine wpAny_take (i := 2) (v := ?_) rfl (by as_aux_lemma => kernel_rfl) (by as_aux_lemma => kernel_rfl) (by as_aux_lemma => kernel_rfl) (fun _ _ _ h => h) (Or.inl ⟨by as_aux_lemma => kernel_rfl, ?_⟩) ?_
          rotate_left
          focus (intro w; go_simp; (try (with_reducible rfl)); done)
          go_simp
          refine wpAny_ready (rs := [3, 4]) (by as_aux_lemma => kernel_rfl) (by simp) ?_
          refine AllReady.cons rfl (fun K hK => ?_) ?_
          · (first | (refine wp_load_row 35 _ rfl Yb rfl 35 #[.int .i64 (y 0), .int .i64 (y 1), .int .i64 (y 2), .int .i64 (y 3), .int .i64 (y 4), .int .i64 (y 5), .int .i64 (y 6), .int .i64 (y 7), .int .i64 (y 8), .int .i64 (y 9), .int .i64 (y 10), .int .i64 (y 11), .int .i64 (y 12), .int .i64 (y 13), .int .i64 (y 14)] (0, 0) _ HEg.out.2.2 Tryz.underlying35 rfl szI ?_) | (refine wp_load_row 35 _ rfl Yb rfl 35 #[.int .i64 (y 0), .int .i64 (y 1), .int .i64 (y 2), .int .i64 (y 3), .int .i64 (y 4), .int .i64 (y 5), .int .i64 (y 6), .int .i64 (y 7), .int .i64 (y 8), .int .i64 (y 9), .int .i64 (y 10), .int .i64 (y 11), .int .i64 (y 12), .int .i64 (y 13), .int .i64 (y 14)] (0, 0) _ HE8.out Tryz.underlying35 rfl szI ?_))
            try go_simp
            first
              | (refine hK _ _ ?_; clear hK K)
              | skip
            refine wpAny_ready (rs := [4]) (by as_aux_lemma => kernel_rfl) (by simp) ?_
            refine AllReady.cons rfl (fun K hK => ?_) ?_
            · go_simp
              try go_simp
              first
                | (refine hK _ _ ?_; clear hK K)
                | skip
              refine wpAny_ready (rs := [5]) (by as_aux_lemma => kernel_rfl) (by simp) ?_
              refine AllReady.cons rfl (fun K hK => ?_) ?_
              · refine wp_store_row 35 _ _ rfl X #[.int .i64 (y 0), .int .i64 (y 1), .int .i64 (y 2), .int .i64 (y 3), .int .i64 (y 4), .int .i64 (y 5), .int .i64 (y 6), .int .i64 (y 7), .int .i64 (y 8), .int .i64 (y 9), .int .i64 (y 10), .int .i64 (y 11), .int .i64 (y 12), .int .i64 (y 13), .int .i64 (y 14)] rfl rfl 35 #[.int .i64 (x 0), .int .i64 (x 1), .int .i64 (x 2), .int .i64 (x 3), .int .i64 (x 4), .int .i64 (x 5), .int .i64 (x 6), .int .i64 (x 7), .int .i64 (x 8), .int .i64 (x 9), .int .i64 (x 10), .int .i64 (x 11), .int .i64 (x 12), .int .i64 (x 13), .int .i64 (x 14)] HX8.out szI rfl (oneC y) ?_
                try go_simp
                first
                  | (refine hK _ _ ?_; clear hK K)
                  | skip
                refine wpAny_done (by kernel_rfl) ?_ _
                go_wp2
                go_roundw
                case rel => exact ⟨r + 1, U', T1, y, ν', by omega, HU.out.1, fun e => HU.out.2 (by omega), by go_num, HR3.out.next hkb HY.out.2.1 HY.out.2.2 HEg.out.1 H89.out.2 H89.out.1 (row_fr _ _ _) (setRow_heap _ _ _ _ _ _ HX8.out) HY.out.1⟩
                case measure => simp [intOf]; omega
              exact AllReady.nil
            exact AllReady.nil
          refine AllReady.cons rfl (fun K hK => ?_) ?_
          · go_simp
            try go_simp
            first
              | (refine hK _ _ ?_; clear hK K)
              | skip
            refine wpAny_ready (rs := [3]) (by as_aux_lemma => kernel_rfl) (by simp) ?_
            refine AllReady.cons rfl (fun K hK => ?_) ?_
            · (first | (refine wp_load_row 35 _ rfl Yb rfl 35 #[.int .i64 (y 0), .int .i64 (y 1), .int .i64 (y 2), .int .i64 (y 3), .int .i64 (y 4), .int .i64 (y 5), .int .i64 (y 6), .int .i64 (y 7), .int .i64 (y 8), .int .i64 (y 9), .int .i64 (y 10), .int .i64 (y 11), .int .i64 (y 12), .int .i64 (y 13), .int .i64 (y 14)] (0, 0) _ HEg.out.2.2 Tryz.underlying35 rfl szI ?_) | (refine wp_load_row 35 _ rfl Yb rfl 35 #[.int .i64 (y 0), .int .i64 (y 1), .int .i64 (y 2), .int .i64 (y 3), .int .i64 (y 4), .int .i64 (y 5), .int .i64 (y 6), .int .i64 (y 7), .int .i64 (y 8), .int .i64 (y 9), .int .i64 (y 10), .int .i64 (y 11), .int .i64 (y 12), .int .i64 (y 13), .int .i64 (y 14)] (0, 0) _ HE8.out Tryz.underlying35 rfl szI ?_))
              try go_simp
              first
                | (refine hK _ _ ?_; clear hK K)
                | skip
              refine wpAny_ready (rs := [5]) (by as_aux_lemma => kernel_rfl) (by simp) ?_
              refine AllReady.cons rfl (fun K hK => ?_) ?_
              · refine wp_store_row 35 _ _ rfl X #[.int .i64 (y 0), .int .i64 (y 1), .int .i64 (y 2), .int .i64 (y 3), .int .i64 (y 4), .int .i64 (y 5), .int .i64 (y 6), .int .i64 (y 7), .int .i64 (y 8), .int .i64 (y 9), .int .i64 (y 10), .int .i64 (y 11), .int .i64 (y 12), .int .i64 (y 13), .int .i64 (y 14)] rfl rfl 35 #[.int .i64 (x 0), .int .i64 (x 1), .int .i64 (x 2), .int .i64 (x 3), .int .i64 (x 4), .int .i64 (x 5), .int .i64 (x 6), .int .i64 (x 7), .int .i64 (x 8), .int .i64 (x 9), .int .i64 (x 10), .int .i64 (x 11), .int .i64 (x 12), .int .i64 (x 13), .int .i64 (x 14)] HX8.out szI rfl (oneC y) ?_
                try go_simp
                first
                  | (refine hK _ _ ?_; clear hK K)
                  | skip
                refine wpAny_done (by kernel_rfl) ?_ _
                go_wp2
                go_roundw
                case rel => exact ⟨r + 1, U', T1, y, ν', by omega, HU.out.1, fun e => HU.out.2 (by omega), by go_num, HR3.out.next hkb HY.out.2.1 HY.out.2.2 HEg.out.1 H89.out.2 H89.out.1 (row_fr _ _ _) (setRow_heap _ _ _ _ _ _ HX8.out) HY.out.1⟩
                case measure => simp [intOf]; omega
              exact AllReady.nil
            exact AllReady.nil
          exact AllReady.nil
        · have hZb : ZZ = 60 ∨ ZZ = 90 := by
            have hzq := HZ.out
            rcases hzz with ⟨e, _⟩ | ⟨e, _⟩
            · exact .inl (by omega)
            · exact .inr (by omega)
          have HQ : Hid (GrS w1 we D T1 n r U' G X H tt f0 x ν) := (HR3.out.big hbig).on HE.out.1
          have HNz : Hid (∀ wx, Calls Tryz.prog 13 #[.int .i64 ZZ] wx fun e' w' => e' = .returned (.int .i64 ZZ) ∧ wx = w') := fun wx => numQ wx ZZ (by rcases hZb with e | e <;> omega)
          clear hzz hbig hz0 hN0 hy HR3 HE HD
          rcases hZb with rfl | rfl
          · go_wp2_with (go_at_call 13; refine (HNz.out _).mono ?_; rintro e wq ⟨rfl, rfl⟩)
            go_meet
            case rel => exact ⟨r, U', T1, x, ν, by omega, HU.out.1, HQ.out⟩
          · go_wp2_with (go_at_call 13; refine (HNz.out _).mono ?_; rintro e wq ⟨rfl, rfl⟩)
            go_meet
            case rel => exact ⟨r, U', T1, x, ν, by omega, HU.out.1, HQ.out⟩
      · have hlt : ¬ (r : Int) < (m : Int) := by omega
        go_wp2
        go_meet
        case rel => exact ⟨r, U, T, x, ν, by omega, HU.out.1, HR.out⟩
  case rest =>
  clear H8 T
  obtain ⟨r, U, T, x, ν, hr2, hU, hst⟩ := hcut
  have HR : Hid (GrS w1 wc D T n r U G X H tt f0 x ν) := hst
  clear hst
  as_aux_lemma =>
    obtain ⟨S, hS⟩ : ∃ S, siz ν = S := ⟨_, rfl⟩
    obtain ⟨f1, hf1⟩ : ∃ f1, ct (fd (nD n) n (bmp D T)) n = f1 := ⟨_, rfl⟩
    have hfs : (f0 : Int) - (f1 : Int) = (S : Int) := by have := HR.out.cnt; rw [hS, hf1] at this; omega
    have hb0 : f0 ≤ 4427 := HFb.out
    have hb1 : f1 ≤ 4427 := by have := HR.out.cnt; rw [hS, hf1] at this; omega
    have HFS : Hid (siz ν = S ∧ ct (fd (nD n) n (bmp D T)) n = f1 ∧ f1 + S = f0) := ⟨hS, hf1, by have := HR.out.cnt; rw [hS, hf1] at this; exact this⟩
    clear hS hf1
    obtain ⟨z0, z1, z2, z3, z4⟩ := HR.out.g.c5.cells
    have HFr : Hid (Calls Tryz.prog 14 #[.pointer (some ⟨tt, 0, none⟩), .agg #[.int .i64 (n : Int), .int .i64 98, .int .i64 (gI n), .int .i64 (gD n), .int .i64 (gC n)]] wc fun e w' => e = .returned (.tuple #[.int .i64 (f1 : Int), .int .i64 0]) ∧ Below wc.heap.size wc w') := by
      have h9 := free_any w1 wc D T n HR.out.spc
      rw [HR.out.t, HFS.out.2.1] at h9
      exact h9
    go_upto_region 38 with (go_at_call 14; refine HFr.out.mono ?_; rintro e wd ⟨rfl, h1⟩; have HB : Hid (Below wc.heap.size wc wd) := h1; clear h1 HFr)
    clear z0 z1 z2 z3 z4
    have HR1 : Hid (GrS w1 wd D T n r U G X H tt f0 x ν) := HR.out.on HB.out
    clear HR HB
    obtain ⟨z0, z1, z2, z3, z4⟩ := HR1.out.g.c5.cells
    obtain ⟨x0, x1, x2, x3, x4, x5, x6, x7, x8, x9, x10, x11, x12, x13, x14⟩ := HR1.out.x.c15
    have HTd : Hid (∀ wx T', GrS w1 wx D T' n r U G X H tt f0 x ν → Calls Tryz.prog 15 #[.pointer (some ⟨tt, 0, none⟩), .agg #[.int .i64 (n : Int), .int .i64 98, .int .i64 (gI n), .int .i64 (gD n), .int .i64 (gC n)], .agg #[.int .i64 (x 0), .int .i64 (x 1), .int .i64 (x 2), .int .i64 (x 3), .int .i64 (x 4), .int .i64 (x 5), .int .i64 (x 6), .int .i64 (x 7), .int .i64 (x 8), .int .i64 (x 9), .int .i64 (x 10), .int .i64 (x 11), .int .i64 (x 12), .int .i64 (x 13), .int .i64 (x 14)], .map (some H)] wx fun e w' => e = .returned (.bool true) ∧ Below wx.heap.size wx w') := fun wx T' hx => by
      have h9 := told_any w1 wx D T' n hx.spc (HT.out.on H1.out.1) x ν hx.wd hx.shp H hx.h
      rw [hx.t] at h9
      exact h9
    have HTk : Hid (∀ wx, Below wd.heap.size wd wx → Calls Tryz.prog 11 #[.map (some H)] wx fun e w' => e = .returned (.int .i64 (S : Int)) ∧ Below wx.heap.size wx w') := fun wx hb => by
      obtain ⟨ks', q1, q2⟩ := HR1.out.h.on hb
      have h9 := takes_any wx H ks' q1 ν HR1.out.shp (has_keys q2)
      rw [HFS.out.1] at h9
      exact h9
    go_upto_region 40 with (first
      | (go_at_call 13; refine (HNu.out _).mono ?_; rintro e wq ⟨rfl, rfl⟩)
      | (go_at_call 15; refine (HTd.out _ T HR1.out).mono ?_; rintro e we ⟨rfl, h1⟩; have HB1 : Hid (Below wd.heap.size wd we) := h1; clear h1)
      | (go_at_call 11; refine (HTk.out _ HB1.out).mono ?_; rintro e wf ⟨rfl, h1⟩; have HB2 : Hid (Below wd.heap.size wd wf) := HB1.out.trans (h1.mono HB1.out.size); clear h1 HTk))
    clear z0 z1 z2 z3 z4 x0 x1 x2 x3 x4 x5 x6 x7 x8 x9 x10 x11 x12 x13 x14 hfs
    have HR2 : Hid (GrS w1 wf D T n r U G X H tt f0 x ν) := HR1.out.on HB2.out
    clear HR1 HB1 HB2
    obtain ⟨k, hk⟩ : ∃ k, ixQ c1 = k := ⟨_, rfl⟩
    have hkb : k < 16522 := by rw [← hk]; exact ixQ_bd c1
    have HIv : Hid (∀ wx, Calls Tryz.prog 10 #[.int .i64 c1] wx fun e w' => e = .returned (.int .i64 (k : Int)) ∧ wx = w') := fun wx => by have := HIx.out wx c1; rw [hk] at this; exact this
    clear hk
    have hcc : wf.cell? ⟨P + 1, 1, none⟩ = some (.int .i64 c1) := by
      have h1 := cell_of_row _ _ 1 _ _ _ H1.out.2
      exact (HR2.out.spc.ses.bel.cell (block_lt_of_cell h1)).trans h1
    go_upto_region 41 with (go_at_call 10; refine (HIv.out _).mono ?_; rintro e wq ⟨rfl, rfl⟩)
    clear hcc
    obtain ⟨Nk, hNk⟩ : ∃ Nk, ν (ixP k) = Nk := ⟨_, rfl⟩
    have HFi : Hid (Calls Tryz.prog 21 #[.pointer (some ⟨tt, 0, none⟩), .agg #[.int .i64 (n : Int), .int .i64 98, .int .i64 (gI n), .int .i64 (gD n), .int .i64 (gC n)], .agg #[.int .i64 (x 0), .int .i64 (x 1), .int .i64 (x 2), .int .i64 (x 3), .int .i64 (x 4), .int .i64 (x 5), .int .i64 (x 6), .int .i64 (x 7), .int .i64 (x 8), .int .i64 (x 9), .int .i64 (x 10), .int .i64 (x 11), .int .i64 (x 12), .int .i64 (x 13), .int .i64 (x 14)], .int .i64 (k : Int)] wf fun e w' => e = .returned (.tuple #[.int .i64 (Nk : Int), .int .i64 0]) ∧ Below wf.heap.size wf w') := by
      have h9 := findQ w1 wf D T n HR2.out.spc (HT.out.on H1.out.1) x ν HR2.out.wd k hkb
      rw [HR2.out.t, hNk] at h9
      exact h9
    obtain ⟨z0, z1, z2, z3, z4⟩ := HR2.out.g.c5.cells
    obtain ⟨x0, x1, x2, x3, x4, x5, x6, x7, x8, x9, x10, x11, x12, x13, x14⟩ := HR2.out.x.c15
    go_upto_region 42 with (go_at_call 21; refine HFi.out.mono ?_; rintro e wg ⟨rfl, h1⟩; have HB : Hid (Below wf.heap.size wf wg) := h1; clear h1 HFi)
    clear z0 z1 z2 z3 z4 x0 x1 x2 x3 x4 x5 x6 x7 x8 x9 x10 x11 x12 x13 x14
    have HR3 : Hid (GrS w1 wg D T n r U G X H tt f0 x ν) := HR2.out.on HB.out
    clear HR2 HB
    have hlk : (Instr.lookup 36 (.map (some H)) (.int .i64 (k : Int)) false).run Tryz.prog wg = .ok (.int .i64 (Nk : Int)) wg := by
      obtain ⟨ks', ⟨E', e1, e2⟩, q2⟩ := HR3.out.h
      obtain ⟨cc, hrun, hat, _⟩ := e1.lookup_int lawI Tryz.underlying36 Tryz.underlying3 (zeroI _) (keyOf_int_mk (a := (k : Int)) Tryz.underlying3 (wf64 (by omega)))
      rw [hrun]
      by_cases hz : ν (ixP k) = 0
      · have : cc = 0 := e2.at0 (fun hm => by
          obtain ⟨j, j1, j2, j3⟩ := (has_keys q2 _).1 hm
          have : k = j := by omega
          subst this
          exact j2 hz) hat
        rw [this, ← hNk, hz]; rfl
      · have : cc = (ν (ixP k) : Int) := e2.at1 ((q2 _ _).2 ⟨k, hkb, hz, rfl, rfl⟩) hat
        rw [this, hNk]
    clear hNk
    go_upto_region 44 with (go_at_call 13; refine (HNu.out _).mono ?_; rintro e wq ⟨rfl, rfl⟩)
    clear hlk
    obtain ⟨z0, z1, z2, z3, z4⟩ := HR3.out.g.c5.cells
    obtain ⟨x0, x1, x2, x3, x4, x5, x6, x7, x8, x9, x10, x11, x12, x13, x14⟩ := HR3.out.x.c15
    have HCu : Hid (Calls Tryz.prog 18 #[.pointer (some ⟨tt, 0, none⟩), .agg #[.int .i64 (n : Int), .int .i64 98, .int .i64 (gI n), .int .i64 (gD n), .int .i64 (gC n)], .agg #[.int .i64 (x 0), .int .i64 (x 1), .int .i64 (x 2), .int .i64 (x 3), .int .i64 (x 4), .int .i64 (x 5), .int .i64 (x 6), .int .i64 (x 7), .int .i64 (x 8), .int .i64 (x 9), .int .i64 (x 10), .int .i64 (x 11), .int .i64 (x 12), .int .i64 (x 13), .int .i64 (x 14)], .int .i64 0] wg fun e w' => ∃ (z : Nat) (y : Nat → Int) (T' : Tx), e = .returned (.tuple #[.agg #[.int .i64 (y 0), .int .i64 (y 1), .int .i64 (y 2), .int .i64 (y 3), .int .i64 (y 4), .int .i64 (y 5), .int .i64 (y 6), .int .i64 (y 7), .int .i64 (y 8), .int .i64 (y 9), .int .i64 (y 10), .int .i64 (y 11), .int .i64 (y 12), .int .i64 (y 13), .int .i64 (y 14)], .int .i64 (z : Int)]) ∧ ((z = 0 ∧ y = withN x (cvP ν 0) ∧ CtP D T T' n x ν 0 ∧ Gon w1 wg w' D T T' n (fun _ => False)) ∨ (z = 60 ∧ BigE w1 wg w' D T T' n))) := by
      have h9 := cut_any w1 wg D T n HR3.out.spc x ν 0 (by omega) ⟨HR3.out.wd, HN.out.1, Nat.le_trans HN.out.2 (by omega), HT.out.on H1.out.1, by omega, by have := HR3.out.us; omega⟩
      rw [HR3.out.t] at h9
      refine h9.mono ?_
      rintro e w' ⟨z, y, T', rfl, ⟨h1, h2, h3, h4, _⟩ | ⟨h1, _, _, h4⟩⟩
      · exact ⟨z, y, T', rfl, .inl ⟨h1, h2, h3, h4⟩⟩
      · exact ⟨z, y, T', rfl, .inr ⟨h1, h4⟩⟩
    go_upto_region 45 with (go_at_call 18; refine HCu.out.mono ?_; rintro e wh ⟨z, y, T1, rfl, h1⟩; have HD : Hid ((z = 0 ∧ y = withN x (cvP ν 0) ∧ CtP D T T1 n x ν 0 ∧ Gon w1 wg wh D T T1 n (fun _ => False)) ∨ (z = 60 ∧ BigE w1 wg wh D T T1 n)) := h1; clear h1 HCu)
    clear z0 z1 z2 z3 z4 x0 x1 x2 x3 x4 x5 x6 x7 x8 x9 x10 x11 x12 x13 x14
    obtain ⟨ZZ, hZ⟩ : ∃ ZZ : Int, (z : Int) = ZZ := ⟨_, rfl⟩
    have HZ : Hid ((z : Int) = ZZ) := hZ
    rw [hZ]
    clear hZ
    obtain ⟨Yb, hYb⟩ : ∃ Yb, wh.heap.size = Yb := ⟨_, rfl⟩
    obtain ⟨wi, hwi⟩ : ∃ wi, wh.alloc (.cells #[.int .i64 (y 0), .int .i64 (y 1), .int .i64 (y 2), .int .i64 (y 3), .int .i64 (y 4), .int .i64 (y 5), .int .i64 (y 6), .int .i64 (y 7), .int .i64 (y 8), .int .i64 (y 9), .int .i64 (y 10), .int .i64 (y 11), .int .i64 (y 12), .int .i64 (y 13), .int .i64 (y 14)] 35) = wi := ⟨_, rfl⟩
    have HE : Hid (Below wh.heap.size wh wi ∧ wi.heap[Yb]? = some (.cells #[.int .i64 (y 0), .int .i64 (y 1), .int .i64 (y 2), .int .i64 (y 3), .int .i64 (y 4), .int .i64 (y 5), .int .i64 (y 6), .int .i64 (y 7), .int .i64 (y 8), .int .i64 (y 9), .int .i64 (y 10), .int .i64 (y 11), .int .i64 (y 12), .int .i64 (y 13), .int .i64 (y 14)] 35 (0, 0))) := ⟨by rw [← hwi]; exact below_new _, by rw [← hwi, ← hYb]; exact heap_alloc_new _ _⟩
    rw [hwi, hYb]
    clear hwi hYb
    as_aux_lemma =>
      rcases HD.out with ⟨hz0, hy, hp, hg⟩ | ⟨hz0, hbig⟩
      · have hZ0 : ZZ = 0 := by have := HZ.out; omega
        subst hZ0
        have hcnt : ct (fd (nD n) n (bmp D T1)) n = f0 := by
          have h1 := cut_count (k := 0) HR3.out.shp HR3.out.wd.own hp.fdT
          rw [HR3.out.shp.cut0, siz_none, HFS.out.1, HFS.out.2.1] at h1
          have := HFS.out.2.2
          omega
        have HX : Hid (Bq w1 wi D T1 X (.cells #[.int .i64 (x 0), .int .i64 (x 1), .int .i64 (x 2), .int .i64 (x 3), .int .i64 (x 4), .int .i64 (x 5), .int .i64 (x 6), .int .i64 (x 7), .int .i64 (x 8), .int .i64 (x 9), .int .i64 (x 10), .int .i64 (x 11), .int .i64 (x 12), .int .i64 (x 13), .int .i64 (x 14)] 35 (0, 0)) ∧ Bq w1 wi D T1 G (.cells #[.int .i64 (n : Int), .int .i64 98, .int .i64 (gI n), .int .i64 (gD n), .int .i64 (gC n)] 29 (0, 0)) ∧ Spc w1 wi D T1 n ∧ y = withN x (fun _ => 0)) := ⟨(HR3.out.x.gon hg).on HE.out.1, (HR3.out.g.gon hg).on HE.out.1, hg.spc.on HE.out.1, by rw [hy, HR3.out.shp.cut0]⟩
        have HFr : Hid (Calls Tryz.prog 14 #[.pointer (some ⟨tt, 0, none⟩), .agg #[.int .i64 (n : Int), .int .i64 98, .int .i64 (gI n), .int .i64 (gD n), .int .i64 (gC n)]] wi fun e w' => e = .returned (.tuple #[.int .i64 (f0 : Int), .int .i64 0]) ∧ Below wi.heap.size wi w') := by
          have h9 := free_any w1 wi D T1 n HX.out.2.2.1
          rw [hg.mv.t, HR3.out.t, hcnt] at h9
          exact h9
        clear hz0 hy hp hg HD hcnt HFS
        obtain ⟨z0, z1, z2, z3, z4⟩ := HX.out.2.1.c5.cells
        go_upto_region 46 with (go_at_call 14; refine HFr.out.mono ?_; rintro e wj ⟨rfl, h1⟩; have HB : Hid (Below wi.heap.size wi wj) := h1; clear h1 HFr)
        clear z0 z1 z2 z3 z4
        have hxr := (HX.out.1.on HB.out).c15
        obtain ⟨x0, x1, x2, x3, x4, x5, x6, x7, x8, x9, x10, x11, x12, x13, x14⟩ := hxr
        have hyr := fun j => cell_of_row _ _ j _ _ _ ((HB.out.block _ (heap_lt HE.out.2)).trans HE.out.2)
        have y0 := hyr 0
        have y1 := hyr 1
        have y2 := hyr 2
        have y3 := hyr 3
        have y4 := hyr 4
        have y5 := hyr 5
        have y6 := hyr 6
        have y7 := hyr 7
        have y8 := hyr 8
        have y9 := hyr 9
        have y10 := hyr 10
        have y11 := hyr 11
        have y12 := hyr 12
        have y13 := hyr 13
        have y14 := hyr 14
        clear hyr
        have EQ : ∀ wx, (binOp .eql 35 (.agg #[.int .i64 (y 0), .int .i64 (y 1), .int .i64 (y 2), .int .i64 (y 3), .int .i64 (y 4), .int .i64 (y 5), .int .i64 (y 6), .int .i64 (y 7), .int .i64 (y 8), .int .i64 (y 9), .int .i64 (y 10), .int .i64 (y 11), .int .i64 (y 12), .int .i64 (y 13), .int .i64 (y 14)]) (.agg #[.int .i64 (x 0), .int .i64 (x 1), .int .i64 (x 2), .int .i64 0, .int .i64 0, .int .i64 0, .int .i64 0, .int .i64 0, .int .i64 0, .int .i64 0, .int .i64 0, .int .i64 0, .int .i64 0, .int .i64 0, .int .i64 0])).run Tryz.prog wx = .ok (.bool true) wx := fun wx => by
          have h9 := eqlI wx y (fun i => if i = 0 then x 0 else if i = 1 then x 1 else if i = 2 then x 2 else 0)
          rw [smB_iff.2 (fun i hi => by
            rw [HX.out.2.2.2]
            unfold withN
            by_cases h3 : 3 ≤ i ∧ i < 15
            · rw [if_pos h3, if_neg (by omega), if_neg (by omega), if_neg (by omega)]; rfl
            · rw [if_neg h3]
              have : i = 0 ∨ i = 1 ∨ i = 2 := by omega
              rcases this with rfl | rfl | rfl <;> rfl)] at h9
          exact h9
        go_wp2_with (go_at_call 13; refine (HNu.out _).mono ?_; rintro e wq ⟨rfl, rfl⟩)
        go_ret
        exact ⟨rfl, H1.out.1.trans (((HX.out.2.2.1.on HB.out).ses.bel).mono H1.out.1.size)⟩
      · have hZ0 : ZZ = 60 := by have := HZ.out; omega
        subst hZ0
        have HQ : Hid (GrS w1 wi D T1 n r U G X H tt f0 x ν) := (HR3.out.big hbig).on HE.out.1
        have HN6 : Hid (∀ wx, Calls Tryz.prog 13 #[.int .i64 60] wx fun e' w' => e' = .returned (.int .i64 60) ∧ wx = w') := fun wx => numQ wx 60 (by omega)
        have HFr : Hid (Calls Tryz.prog 14 #[.pointer (some ⟨tt, 0, none⟩), .agg #[.int .i64 (n : Int), .int .i64 98, .int .i64 (gI n), .int .i64 (gD n), .int .i64 (gC n)]] wi fun e w' => e = .returned (.tuple #[.int .i64 (f1 : Int), .int .i64 0]) ∧ Below wi.heap.size wi w') := by
          have h9 := free_any w1 wi D T1 n HQ.out.spc
          have ht : tv D T1 = tv D T := by funext i; unfold tv; rw [hbig.c]
          have hb : bmp D T1 = bmp D T := by unfold bmp; rw [ht]
          rw [HQ.out.t, hb, HFS.out.2.1] at h9
          exact h9
        clear hz0 hbig HD HR3
        obtain ⟨z0, z1, z2, z3, z4⟩ := HQ.out.g.c5.cells
        go_upto_region 46 with (go_at_call 14; refine HFr.out.mono ?_; rintro e wj ⟨rfl, h1⟩; have HB : Hid (Below wi.heap.size wi wj) := h1; clear h1 HFr)
        clear z0 z1 z2 z3 z4
        have HQ2 : Hid (GrS w1 wj D T1 n r U G X H tt f0 x ν) := HQ.out.on HB.out
        clear HQ HB
        obtain ⟨z0, z1, z2, z3, z4⟩ := HQ2.out.g.c5.cells
        obtain ⟨x0, x1, x2, x3, x4, x5, x6, x7, x8, x9, x10, x11, x12, x13, x14⟩ := HQ2.out.x.c15
        go_wp2_with (first
          | (go_at_call 13; first | (refine (HNu.out _).mono ?_; rintro e wq ⟨rfl, rfl⟩) | (refine (HN6.out _).mono ?_; rintro e wq ⟨rfl, rfl⟩))
          | (go_at_call 15; refine (HTd.out _ T1 HQ2.out).mono ?_; rintro e w9 ⟨rfl, h1⟩; have H9 : Hid (Below wj.heap.size wj w9) := h1; clear h1))
        go_ret
        exact ⟨rfl, H1.out.1.trans ((HQ2.out.spc.ses.bel.trans (H9.out.mono HQ2.out.spc.ses.bel.size)).mono H1.out.1.size)⟩
end Go.Proofs.YtjmdjagfekloaaaGreatDoor
