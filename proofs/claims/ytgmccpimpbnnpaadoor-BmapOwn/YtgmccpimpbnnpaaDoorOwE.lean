import Derived.Test.YtgmccpimpbnnpaaDoorOwD
namespace Go.Proofs.YtgmccpimpbnnpaaDoor
open Go.RowKit Go.Maps Rec
def x30 (xx : Nat → Nat → Int) : Array Value := (ivs 30 (fun j => xx (j / 15) (j % 15))).toArray
def c15 (y : Nat → Int) : Array Value := #[.int .i64 (y 0), .int .i64 (y 1), .int .i64 (y 2), .int .i64 (y 3), .int .i64 (y 4), .int .i64 (y 5), .int .i64 (y 6), .int .i64 (y 7), .int .i64 (y 8), .int .i64 (y 9), .int .i64 (y 10), .int .i64 (y 11), .int .i64 (y 12), .int .i64 (y 13), .int .i64 (y 14)]
theorem c15_ivs (y : Nat → Int) : (c15 y).toList = ivs 15 y := rfl
theorem x30_size (xx : Nat → Nat → Int) : (x30 xx).size = 30 := by simp [x30, ivs_len]
theorem x30_at (xx : Nat → Nat → Int) {j : Nat} (hj : j < 30) : (x30 xx)[j]? = some (.int .i64 (xx (j / 15) (j % 15))) := by
  unfold x30
  rw [List.getElem?_toArray, ivs_at, if_pos hj]
theorem x30_put (xx : Nat → Nat → Int) {i : Nat} (hi : i < 2) (y : Nat → Int) : ((x30 xx).toList.take (i * 15) ++ (c15 y).toList ++ (x30 xx).toList.drop (i * 15 + (c15 y).size)).toArray = x30 (upN xx i y) := by
  have e : (c15 y).size = 15 := rfl
  rw [e]
  show _ = (ivs 30 _).toArray
  congr 1
  refine ivs_of _ _ _ ?_ fun j hj => ?_
  · have := x30_size xx
    simp [c15_ivs, ivs_len]; omega
  · have hl : (c15 y).toList.length = 15 := rfl
    have := splice_get (x30 xx).toList (c15 y).toList (i * 15) j (by rw [hl]; have := x30_size xx; simp; omega)
    rw [hl] at this
    rw [this, c15_ivs, ivs_at, Array.getElem?_toList]
    by_cases h : i * 15 ≤ j ∧ j < i * 15 + 15
    · rw [if_pos h, if_pos (by omega)]
      have e1 : j / 15 = i := by omega
      have e2 : j - i * 15 = j % 15 := by omega
      rw [e1, e2, upN_same]
    · rw [if_neg h, x30_at xx hj, upN_other _ _ (by omega)]
structure OwZ (w1 w : World) (D : Dk) (T : Tx) (n G X tt : Nat) (xx : Nat → Nat → Int) : Prop where
  spc : Spc w1 w D T n
  g : Bq w1 w D T G (.cells #[.int .i64 (n : Int), .int .i64 98, .int .i64 (gI n), .int .i64 (gD n), .int .i64 (gC n)] 29 (0, 0))
  x : Bq w1 w D T X (.cells (x30 xx) 36 (0, 0))
  t : T.t = tt
  gx : G < X
theorem OwZ.mv {w1 w w' : World} {D : Dk} {T T' : Tx} {n G X tt : Nat} {xx : Nat → Nat → Int} (h : OwZ w1 w D T n G X tt xx) (s : Spc w1 w' D T' n) (m : SMv (fun _ => False) w T w' T') : OwZ w1 w' D T' n G X tt xx := ⟨s, h.g.mv m, h.x.mv m, m.t.trans h.t, h.gx⟩
theorem OwZ.on {w1 w w' : World} {D : Dk} {T : Tx} {n G X tt : Nat} {xx : Nat → Nat → Int} (h : OwZ w1 w D T n G X tt xx) (hb : Below w.heap.size w w') : OwZ w1 w' D T n G X tt xx := h.mv (h.spc.on hb) (SMv.on hb)
theorem OwZ.fr {w1 w w' : World} {D : Dk} {T : Tx} {n G X tt p : Nat} {xx : Nat → Nat → Int} (h : OwZ w1 w D T n G X tt xx) (x : Fr (fun k => k = p) w w') (ho : Out w1 w D T p) (h1 : p ≠ G) (h2 : p ≠ X) : OwZ w1 w' D T n G X tt xx := by
  have hm : SMv (fun k => k = p) w T w' T := SMv.fr_ x
  exact ⟨h.spc.frG x (fun k hk => .inr (hk ▸ ho)), ⟨x.heap h.g.row (fun e => h1 e.symm), h.g.out.mv hm⟩, ⟨x.heap h.x.row (fun e => h2 e.symm), h.x.out.mv hm⟩, h.t, h.gx⟩
theorem OwZ.put {w1 w : World} {D : Dk} {T : Tx} {n G X tt : Nat} {xx : Nat → Nat → Int} (h : OwZ w1 w D T n G X tt xx) {i : Nat} (hi : i < 2) (y : Nat → Int) : OwZ w1 (w.setRow X ((x30 xx).toList.take (i * 15) ++ (c15 y).toList ++ (x30 xx).toList.drop (i * 15 + (c15 y).size)).toArray) D T n G X tt (upN xx i y) := by
  have x := setRow_fr w X ((x30 xx).toList.take (i * 15) ++ (c15 y).toList ++ (x30 xx).toList.drop (i * 15 + (c15 y).size)).toArray
  have hm : SMv (fun k => k = X) w T _ T := SMv.fr_ x
  refine ⟨h.spc.frG x (fun k hk => .inr (hk ▸ h.x.out)), ⟨x.heap h.g.row (fun e => by have := h.gx; omega), h.g.out.mv hm⟩, ⟨?_, h.x.out.mv hm⟩, h.t, h.gx⟩
  rw [setRow_heap w X _ _ _ _ h.x.row, x30_put xx hi]
structure OwS (w1 w : World) (D : Dk) (T : Tx) (n r G X tt : Nat) (xx : Nat → Nat → Int) (νν : Nat → Nat → Nat) : Prop where
  z : OwZ w1 w D T n G X tt xx
  wd : ∀ i, i < 2 → Wd D T n (xx i) (νν i)
  dj : ∀ p q, νν 0 p ≠ 0 → νν 0 p ≠ νν 1 q
  us : T.us.length ≤ 9 * r
theorem OwS.on {w1 w w' : World} {D : Dk} {T : Tx} {n r G X tt : Nat} {xx : Nat → Nat → Int} {νν : Nat → Nat → Nat} (h : OwS w1 w D T n r G X tt xx νν) (hb : Below w.heap.size w w') : OwS w1 w' D T n r G X tt xx νν := ⟨h.z.on hb, h.wd, h.dj, h.us⟩
theorem OwS.big {w1 w w' : World} {D : Dk} {T T' : Tx} {n r G X tt : Nat} {xx : Nat → Nat → Int} {νν : Nat → Nat → Nat} (h : OwS w1 w D T n r G X tt xx νν) (b : BigE w1 w w' D T T' n) : OwS w1 w' D T' n r G X tt xx νν := ⟨h.z.mv b.spc (SMv.of b.mv), fun i hi => (h.wd i hi).keep b.c, h.dj, by rw [b.us]; exact h.us⟩
theorem OwS.add {w1 w wf : World} {D : Dk} {T T1 : Tx} {n r G X tt i k N : Nat} {xx : Nat → Nat → Int} {νν : Nat → Nat → Nat} {ν' : Nat → Nat} (h : OwS w1 w D T n r G X tt xx νν) (hi : i < 2) (a : AdP D T T1 n k (xx i) (νν i) ν' N) (z : OwZ w1 wf D T1 n G X tt (upN xx i (withN (xx i) ν'))) : OwS w1 wf D T1 n (r + 1) G X tt (upN xx i (withN (xx i) ν')) (upN νν i ν') := by
  have h0 := h.z.spc.lo
  have h1 := h.z.spc.hi
  have hu : T1.us.length ≤ 9 * (r + 1) := by
    obtain ⟨m, hm, hm9⟩ := a.ext
    have := h.us
    rw [hm.us]; omega
  rcases (show i = 0 ∨ i = 1 by omega) with rfl | rfl
  · obtain ⟨o1, o2⟩ := Wd.other h0 h1 (h.wd 1 (by omega)) a (fun p q hp e => h.dj q p (by rw [← e]; exact hp) e.symm)
    refine ⟨z, fun j hj => ?_, fun p q hp e => ?_, hu⟩
    · rcases (show j = 0 ∨ j = 1 by omega) with rfl | rfl
      · rw [upN_same, upN_same]; exact a.wd
      · rw [upN_other _ _ (by omega), upN_other _ _ (by omega)]; exact o1
    · rw [upN_same] at hp e
      rw [upN_other _ _ (by omega)] at e
      exact o2 q p (by rw [← e]; exact hp) e.symm
  · obtain ⟨o1, o2⟩ := Wd.other h0 h1 (h.wd 0 (by omega)) a (fun p q hp e => h.dj p q hp e)
    refine ⟨z, fun j hj => ?_, fun p q hp e => ?_, hu⟩
    · rcases (show j = 0 ∨ j = 1 by omega) with rfl | rfl
      · rw [upN_other _ _ (by omega), upN_other _ _ (by omega)]; exact o1
      · rw [upN_same, upN_same]; exact a.wd
    · rw [upN_other _ _ (by omega)] at hp e
      rw [upN_same] at e
      exact o2 p q hp e
def AdO (w0 w w' : World) (D : Dk) (T T' : Tx) (n k : Nat) (x : Nat → Int) (ν : Nat → Nat) (y : Nat → Int) (N z : Nat) : Prop :=
  (z = 0 ∧ ∃ ν', y = withN x ν' ∧ AdP D T T' n k x ν ν' N ∧ Gon w0 w w' D T T' n (fun _ => False)) ∨ (z ≠ 0 ∧ N = 0 ∧ y = (fun _ => 0) ∧ AdZ T n k ν (fd (nD n) n (bmp D T)) z ∧ BigE w0 w w' D T T' n)
theorem AdO.mv {w0 w w' : World} {D : Dk} {T T' : Tx} {n k N z : Nat} {x y : Nat → Int} {ν : Nat → Nat} (a : AdO w0 w w' D T T' n k x ν y N z) : Spc w0 w' D T' n ∧ SMv (fun _ => False) w T w' T' := by
  rcases a with ⟨_, _, _, _, g⟩ | ⟨_, _, _, _, b⟩
  · exact ⟨g.spc, g.mv⟩
  · exact ⟨b.spc, SMv.of b.mv⟩
def AdW (w1 wx : World) (D : Dk) (T T1 : Tx) (n k r G X tt i Yb : Nat) (xx : Nat → Nat → Int) (νν : Nat → Nat → Nat) (y : Nat → Int) (N z : Nat) : Prop :=
  (z = 0 ∧ wx.heap[Yb]? = some (.cells (c15 y) 35 (0, 0)) ∧ Yb ≠ X ∧ ∃ ν', y = withN (xx i) ν' ∧ AdP D T T1 n k (xx i) (νν i) ν' N ∧ OwZ w1 wx D T1 n G X tt xx) ∨ ((z = 60 ∨ z = 90) ∧ OwS w1 wx D T1 n r G X tt xx νν)
theorem AdO.w {w1 w W W0 wx : World} {D : Dk} {T T1 : Tx} {n k r G X tt i Yb N z : Nat} {xx : Nat → Nat → Int} {νν : Nat → Nat → Nat} {y : Nat → Int} {o : Obj} (hS : OwS w1 w D T n r G X tt xx νν) (a : AdO w1 w W D T T1 n k (xx i) (νν i) y N z) (hb : Below W.heap.size W W0) (bq : Bq w1 W0 D T1 Yb o) (xf : Fr (fun k => k = Yb) W0 wx) (hrow : wx.heap[Yb]? = some (.cells (c15 y) 35 (0, 0))) (hG : Yb ≠ G) (hX : Yb ≠ X) : AdW w1 wx D T T1 n k r G X tt i Yb xx νν y N z := by
  rcases a with ⟨h0, ν', hy, hp, g⟩ | ⟨h0, _, _, hz, b⟩
  · exact .inl ⟨h0, hrow, hX, ν', hy, hp, ((hS.z.mv g.spc g.mv).on hb).fr xf bq.out hG hX⟩
  · refine .inr ⟨(adz_few hz (fun b hb => (fd_bd hb).2)).1, ?_⟩
    have h9 := (hS.big b).on hb
    exact ⟨h9.z.fr xf bq.out hG hX, h9.wd, h9.dj, h9.us⟩
def S20o (x : Nat → Int) (n G X q : Nat) (w : World) : Prop := w.cell? ⟨G, 0, none⟩ = some (.int .i64 (n : Int)) ∧ w.cell? ⟨G, 1, none⟩ = some (.int .i64 98) ∧ w.cell? ⟨G, 2, none⟩ = some (.int .i64 (gI n)) ∧ w.cell? ⟨G, 3, none⟩ = some (.int .i64 (gD n)) ∧ w.cell? ⟨G, 4, none⟩ = some (.int .i64 (gC n)) ∧ w.cell? ⟨X, q, none⟩ = some (.int .i64 (x 0)) ∧ w.cell? ⟨X, q + 1, none⟩ = some (.int .i64 (x 1)) ∧ w.cell? ⟨X, q + 2, none⟩ = some (.int .i64 (x 2)) ∧ w.cell? ⟨X, q + 3, none⟩ = some (.int .i64 (x 3)) ∧ w.cell? ⟨X, q + 4, none⟩ = some (.int .i64 (x 4)) ∧ w.cell? ⟨X, q + 5, none⟩ = some (.int .i64 (x 5)) ∧ w.cell? ⟨X, q + 6, none⟩ = some (.int .i64 (x 6)) ∧ w.cell? ⟨X, q + 7, none⟩ = some (.int .i64 (x 7)) ∧ w.cell? ⟨X, q + 8, none⟩ = some (.int .i64 (x 8)) ∧ w.cell? ⟨X, q + 9, none⟩ = some (.int .i64 (x 9)) ∧ w.cell? ⟨X, q + 10, none⟩ = some (.int .i64 (x 10)) ∧ w.cell? ⟨X, q + 11, none⟩ = some (.int .i64 (x 11)) ∧ w.cell? ⟨X, q + 12, none⟩ = some (.int .i64 (x 12)) ∧ w.cell? ⟨X, q + 13, none⟩ = some (.int .i64 (x 13)) ∧ w.cell? ⟨X, q + 14, none⟩ = some (.int .i64 (x 14))
theorem OwZ.cx {w1 w : World} {D : Dk} {T : Tx} {n G X tt : Nat} {xx : Nat → Nat → Int} (h : OwZ w1 w D T n G X tt xx) {i j : Nat} (hi : i < 2) (hj : j < 15) : w.cell? ⟨X, i * 15 + j, none⟩ = some (.int .i64 (xx i j)) := by
  rw [cell_of_row _ _ _ _ _ _ h.x.row, x30_at xx (by omega), show (i * 15 + j) / 15 = i by omega, show (i * 15 + j) % 15 = j by omega]
theorem OwZ.s20 {w1 w : World} {D : Dk} {T : Tx} {n G X tt : Nat} {xx : Nat → Nat → Int} (h : OwZ w1 w D T n G X tt xx) {i : Nat} (hi : i < 2) : S20o (xx i) n G X (i * 15) w := by
  obtain ⟨z0, z1, z2, z3, z4⟩ := h.g.c5.cells
  exact ⟨z0, z1, z2, z3, z4, h.cx hi (j := 0) (by omega), h.cx hi (j := 1) (by omega), h.cx hi (j := 2) (by omega), h.cx hi (j := 3) (by omega), h.cx hi (j := 4) (by omega), h.cx hi (j := 5) (by omega), h.cx hi (j := 6) (by omega), h.cx hi (j := 7) (by omega), h.cx hi (j := 8) (by omega), h.cx hi (j := 9) (by omega), h.cx hi (j := 10) (by omega), h.cx hi (j := 11) (by omega), h.cx hi (j := 12) (by omega), h.cx hi (j := 13) (by omega), h.cx hi (j := 14) (by omega)⟩
theorem s20o_row {x : Nat → Int} {n G X q : Nat} {w : World} (h : S20o x n G X q w) {p : Nat} (cs : Array Value) (h1 : p ≠ G) (h2 : p ≠ X) : S20o x n G X q (w.setRow p cs) := by
  have hf := setRow_fr w p cs
  unfold S20o at h ⊢
  obtain ⟨a0, a1, a2, a3, a4, x0, x1, x2, x3, x4, x5, x6, x7, x8, x9, x10, x11, x12, x13, x14⟩ := h
  exact ⟨hf.cell a0 (fun e => h1 e.symm), hf.cell a1 (fun e => h1 e.symm), hf.cell a2 (fun e => h1 e.symm), hf.cell a3 (fun e => h1 e.symm), hf.cell a4 (fun e => h1 e.symm), hf.cell x0 (fun e => h2 e.symm), hf.cell x1 (fun e => h2 e.symm), hf.cell x2 (fun e => h2 e.symm), hf.cell x3 (fun e => h2 e.symm), hf.cell x4 (fun e => h2 e.symm), hf.cell x5 (fun e => h2 e.symm), hf.cell x6 (fun e => h2 e.symm), hf.cell x7 (fun e => h2 e.symm), hf.cell x8 (fun e => h2 e.symm), hf.cell x9 (fun e => h2 e.symm), hf.cell x10 (fun e => h2 e.symm), hf.cell x11 (fun e => h2 e.symm), hf.cell x12 (fun e => h2 e.symm), hf.cell x13 (fun e => h2 e.symm), hf.cell x14 (fun e => h2 e.symm)⟩
theorem AdO.lit {w1 w W W0 wx : World} {D : Dk} {T T1 : Tx} {n k Yb N z L : Nat} {x y : Nat → Int} {ν : Nat → Nat} {o : Obj} (h : Bq w1 w D T L o) (a : AdO w1 w W D T T1 n k x ν y N z) (hb : Below W.heap.size W W0) (xf : Fr (fun k => k = Yb) W0 wx) (hL : Yb ≠ L) : Bq w1 wx D T1 L o := by
  have h9 := (h.mv a.mv.2).on hb
  exact ⟨xf.heap h9.row (fun e => hL e.symm), h9.out.mv (SMv.fr_ xf)⟩
theorem OwS.adz {w1 w w' : World} {D : Dk} {T T1 : Tx} {n k r G X tt i N z : Nat} {xx : Nat → Nat → Int} {νν : Nat → Nat → Nat} {x y : Nat → Int} {ν : Nat → Nat} (h : OwS w1 w D T n r G X tt xx νν) (a : AdO w1 w w' D T T1 n k x ν y N z) (hi : i < 2) : S20o (xx i) n G X (i * 15) w' := (h.z.mv a.mv.1 a.mv.2).s20 hi
theorem s15o_of {y : Nat → Int} {Y : Nat} {w : World} (h : w.heap[Y]? = some (.cells (c15 y) 35 (0, 0))) : w.cell? ⟨Y, 0, none⟩ = some (.int .i64 (y 0)) ∧ w.cell? ⟨Y, 1, none⟩ = some (.int .i64 (y 1)) ∧ w.cell? ⟨Y, 2, none⟩ = some (.int .i64 (y 2)) ∧ w.cell? ⟨Y, 3, none⟩ = some (.int .i64 (y 3)) ∧ w.cell? ⟨Y, 4, none⟩ = some (.int .i64 (y 4)) ∧ w.cell? ⟨Y, 5, none⟩ = some (.int .i64 (y 5)) ∧ w.cell? ⟨Y, 6, none⟩ = some (.int .i64 (y 6)) ∧ w.cell? ⟨Y, 7, none⟩ = some (.int .i64 (y 7)) ∧ w.cell? ⟨Y, 8, none⟩ = some (.int .i64 (y 8)) ∧ w.cell? ⟨Y, 9, none⟩ = some (.int .i64 (y 9)) ∧ w.cell? ⟨Y, 10, none⟩ = some (.int .i64 (y 10)) ∧ w.cell? ⟨Y, 11, none⟩ = some (.int .i64 (y 11)) ∧ w.cell? ⟨Y, 12, none⟩ = some (.int .i64 (y 12)) ∧ w.cell? ⟨Y, 13, none⟩ = some (.int .i64 (y 13)) ∧ w.cell? ⟨Y, 14, none⟩ = some (.int .i64 (y 14)) := by
  refine ⟨?_, ?_, ?_, ?_, ?_, ?_, ?_, ?_, ?_, ?_, ?_, ?_, ?_, ?_, ?_⟩ <;> (rw [cell_of_row _ _ _ _ _ _ h]; rfl)
theorem szIo : (Tryd.prog.info? 35).map (·.size) = some (15 : Nat) := by kernel_rfl
theorem oneCo (y : Nat → Int) : (c15 y).all (·.oneCell') = true := by simp [c15, Value.oneCell']
end Go.Proofs.YtgmccpimpbnnpaaDoor
