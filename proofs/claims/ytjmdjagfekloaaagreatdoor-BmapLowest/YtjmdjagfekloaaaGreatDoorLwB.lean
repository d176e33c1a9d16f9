import Derived.Test.YtjmdjagfekloaaaGreatDoorLwA
namespace Go.Proofs.YtjmdjagfekloaaaGreatDoor
open Go.RowKit Go.Maps Rec

/-- BmapLowest's state at a round's head -/
structure LwS (w1 w : World) (D : Dk) (T : Tx) (n r G X H tt c : Nat) (x : Nat → Int) (ν : Nat → Nat) : Prop where
  spc : Spc w1 w D T n
  wd : Wd D T n x ν
  shp : Shp ν
  us : T.us.length ≤ 9 * r
  fr : ∀ b, fd (nD n) n (bmp D T) b = decide (c ≤ b ∧ b < n)
  g : Bq w1 w D T G (.cells #[.int .i64 (n : Int), .int .i64 98, .int .i64 (gI n), .int .i64 (gD n), .int .i64 (gC n)] 29 (0, 0))
  x : Bq w1 w D T X (.cells #[.int .i64 (x 0), .int .i64 (x 1), .int .i64 (x 2), .int .i64 (x 3), .int .i64 (x 4), .int .i64 (x 5), .int .i64 (x 6), .int .i64 (x 7), .int .i64 (x 8), .int .i64 (x 9), .int .i64 (x 10), .int .i64 (x 11), .int .i64 (x 12), .int .i64 (x 13), .int .i64 (x 14)] 35 (0, 0))
  h : HasM w H ν
  ho : Out w1 w D T H
  t : T.t = tt
  cb : nD n ≤ c ∧ c ≤ n
  gx : G < X ∧ X < H
theorem LwS.on {w1 w w' : World} {D : Dk} {T : Tx} {n r G X H tt c : Nat} {x : Nat → Int} {ν : Nat → Nat} (h : LwS w1 w D T n r G X H tt c x ν) (hb : Below w.heap.size w w') : LwS w1 w' D T n r G X H tt c x ν :=
  ⟨h.spc.on hb, h.wd, h.shp, h.us, h.fr, h.g.on hb, h.x.on hb, h.h.on hb, h.ho.mv (SMv.on hb (S := fun _ => False)), h.t, h.cb, h.gx⟩
theorem LwS.big {w1 w w' : World} {D : Dk} {T T' : Tx} {n r G X H tt c : Nat} {x : Nat → Int} {ν : Nat → Nat} (h : LwS w1 w D T n r G X H tt c x ν) (b : BigE w1 w w' D T T' n) : LwS w1 w' D T' n r G X H tt c x ν := by
  have ht : tv D T' = tv D T := by funext i; unfold tv; rw [b.c]
  have hb : bmp D T' = bmp D T := by unfold bmp; rw [ht]
  have hw : Wd D T' n x ν := by
    have := h.wd
    refine ⟨?_, ?_⟩
    · have := this.tre; unfold nmT at this ⊢; rw [ht]; exact this
    · rw [hb]; exact this.own
  have m : SMv (fun _ => False) w T w' T' := SMv.of b.mv
  exact ⟨b.spc, hw, h.shp, by rw [b.us]; exact h.us, by rw [hb]; exact h.fr, h.g.mv m, h.x.mv m, h.h.mv h.ho m, h.ho.mv m, b.mv.t.trans h.t, h.cb, h.gx⟩
/-- what Add did -/
def AdL (w0 w w' : World) (D : Dk) (T T' : Tx) (n k : Nat) (x : Nat → Int) (ν : Nat → Nat) (y : Nat → Int) (N z : Nat) : Prop :=
  (z = 0 ∧ ∃ ν', y = withN x ν' ∧ AdP D T T' n k x ν ν' N ∧ Gon w0 w w' D T T' n (fun _ => False)) ∨ (z ≠ 0 ∧ N = 0 ∧ y = (fun _ => 0) ∧ AdZ T n k ν (fd (nD n) n (bmp D T)) z ∧ BigE w0 w w' D T T' n)
theorem Fr.s2l {w w' : World} {p j : Nat} {v : Value} (x : Fr (fun k => k = p) w w') : Fr (fun k => k = p) w (w'.setCell ⟨p, j, none⟩ v) := x.trans Fr.set (fun _ h => .inl h)
theorem LwS.next {w1 wD wd we w8 wf : World} {D : Dk} {T T1 : Tx} {n r G X H tt c mm k N : Nat} {x y : Nat → Int} {ν ν' : Nat → Nat} (h : LwS w1 wD D T n r G X H tt c x ν) (hp : AdP D T T1 n k x ν ν' N) (hg : Gon w1 wD wd D T T1 n (fun _ => False)) (a1 : ∀ b, fd (nD n) n (bmp D T1) b = decide (c + mm ≤ b ∧ b < n)) (a4 : Shp ν') (hcm : c + mm ≤ n) (hE : Below wd.heap.size wd we) (hg8 : we.drew.grownBy w8 (some H)) (hm8 : HasM w8 H ν') (hf : Fr (fun k => k = X) w8 wf) (hrow : wf.heap[X]? = some (.cells #[.int .i64 (y 0), .int .i64 (y 1), .int .i64 (y 2), .int .i64 (y 3), .int .i64 (y 4), .int .i64 (y 5), .int .i64 (y 6), .int .i64 (y 7), .int .i64 (y 8), .int .i64 (y 9), .int .i64 (y 10), .int .i64 (y 11), .int .i64 (y 12), .int .i64 (y 13), .int .i64 (y 14)] 35 (0, 0))) (hy : y = withN x ν') : LwS w1 wf D T1 n (r + 1) G X H tt (c + mm) y ν' := by
  have x8 : Fr (fun k => k = H) we w8 := ⟨hg8.os, hg8.tape, hg8.output, hg8.size, fun k hk hne => hg8.block k hk (fun e => hne (Option.some.inj e))⟩
  have xf : Fr (fun k => k = H ∨ k = X) we wf := (x8.mono (fun _ e => .inl e)).trans hf (fun _ e => .inl (.inr e))
  have hs := hg.spc.on hE
  have oG := (h.g.gon hg).on hE
  have oX := (h.x.gon hg).on hE
  have oH : Out w1 we D T1 H := (h.ho.mv hg.mv).mv (SMv.on hE (S := fun _ => False))
  have hm : SMv (fun k => k = H ∨ k = X) we T1 wf T1 := SMv.fr_ xf
  have hgx := h.gx
  obtain ⟨m9, hm9, hm99⟩ := hp.ext
  refine ⟨hs.frG xf (fun k hk => .inr (hk.elim (fun e => e ▸ oH) (fun e => e ▸ oX.out))), ?_, a4, ?_, a1, ⟨xf.heap oG.row (fun e => by rcases e with e | e <;> omega), oG.out.mv hm⟩, ⟨hrow, oX.out.mv hm⟩, ?_, oH.mv hm, hg.mv.t.trans h.t, ⟨by have := h.cb.1; omega, hcm⟩, hgx⟩
  · rw [hy]; exact hp.wd
  · have := h.us; rw [hm9.us]; omega
  · exact hm8.hp (hf.block H (hm8.lt) (by omega))
/-- the keys of what is wanted -/
def NdI (ks nd : List (Int × Int)) (left : Lit → Bool) (k : Nat) : Prop := ∀ t, t ∈ nd.map Prod.fst ↔ t = (k : Int) ∨ (t ∈ ks.map Prod.fst ∧ left (kI t) = false)
theorem keys_of {ks' ks : List (Int × Int)} {z u : Int} (h : ∀ t y, (t, y) ∈ ks' ↔ (t = z ∧ y = u) ∨ (t ≠ z ∧ (t, y) ∈ ks)) (t : Int) : t ∈ ks'.map Prod.fst ↔ t = z ∨ t ∈ ks.map Prod.fst := by
  rw [List.mem_map, List.mem_map]
  constructor
  · rintro ⟨⟨t', y⟩, h1, rfl⟩
    rcases (h t' y).1 h1 with ⟨rfl, _⟩ | ⟨_, h2⟩
    · exact .inl rfl
    · exact .inr ⟨_, h2, rfl⟩
  · rintro (rfl | ⟨⟨t', y⟩, h1, rfl⟩)
    · exact ⟨(t, u), (h t u).2 (.inl ⟨rfl, rfl⟩), rfl⟩
    · by_cases e : t' = z
      · exact ⟨(z, u), (h z u).2 (.inl ⟨rfl, rfl⟩), e.symm⟩
      · exact ⟨(t', y), (h t' y).2 (.inr ⟨e, h1⟩), rfl⟩
theorem NdI.step {ks nd nd' : List (Int × Int)} {left : Lit → Bool} {k : Nat} {z : Int} (h : NdI ks nd left k) (hz : z ∈ ks.map Prod.fst) (hn : ∀ t, t ∈ nd'.map Prod.fst ↔ t = z ∨ t ∈ nd.map Prod.fst) : NdI ks nd' (fun y => left y && !y.sameKey (kI z)) k := fun t => by
  rw [hn t, h t]
  constructor
  · rintro (rfl | h1 | ⟨h1, h2⟩)
    · exact .inr ⟨hz, by simp [WideAt.sameKey_self (isK t)]⟩
    · exact .inl h1
    · exact .inr ⟨h1, by simp [h2]⟩
  · rintro (h1 | ⟨h1, h2⟩)
    · exact .inr (.inl h1)
    · by_cases e : t = z
      · exact .inl e
      · have e2 := sameKey_ne (kI_ne e)
        simp [e2] at h2
        exact .inr (.inr ⟨h1, h2⟩)
set_option maxRecDepth 100000 in
set_option maxHeartbeats 16000000 in
theorem blow_any (w : World) (hT : TabAt w) (M : Int) (ia : Option Addr) (L ic : Nat) (is : List Int) (hi : Ints w ia is) (hl : is.length = L) (hcap : L ≤ ic) :
    Calls Tryz.prog 3 #[.int .i64 M, .slice ia L ic] w fun e w' => e = .returned (.bool true) ∧ Below w.heap.size w w' := by
  obtain ⟨n, hn⟩ : ∃ n, nBq M = n := ⟨_, rfl⟩
  have HN : Hid (128 ≤ n ∧ n ≤ 4427) := by rw [← hn]; exact nBq_bd M
  have HBg : Hid (∀ wx, Below w.heap.size w wx → Calls Tryz.prog 8 #[.agg #[.int .i64 M, .slice none 0 0, .slice none 0 0]] wx fun e w' => ∃ (rt : Nat) (D : Dk) (T : Tx), e = .returned (.tuple #[.pointer (some ⟨T.t, 0, none⟩), .pointer (some ⟨rt, 0, none⟩), .agg #[.int .i64 (n : Int), .int .i64 98, .int .i64 (gI n), .int .i64 (gD n), .int .i64 (gC n)], .bool true]) ∧ OpQ wx w' D T n ∧ ∀ b, fd (nD n) n (bmp D T) b = decide (nD n ≤ b ∧ b < n)) := by
    intro wx _
    have h9 := beginQ wx M none 0 0 none 0 0 [] ⟨by simp, .inl rfl⟩ rfl [] ⟨rfl, .inl rfl⟩ (by omega)
    rw [hn] at h9
    refine h9.mono ?_
    rintro e w' ⟨rt, D, T, rfl, h1, h2⟩
    exact ⟨rt, D, T, rfl, h1, h2 rfl rfl⟩
  have HT : Hid (TabAt w) := hT
  have HI : Hid (Ints w ia is ∧ is.length = L ∧ L ≤ ic) := ⟨hi, hl, hcap⟩
  have HKn : Hid (∀ wx, Below w.heap.size w wx → Calls Tryz.prog 9 #[] wx fun e w' => e = .returned (.bool true) ∧ Below wx.heap.size wx w') := fun wx hb => known_any wx (HT.out.on hb)
  have HIx : Hid (∀ wx v, Calls Tryz.prog 10 #[.int .i64 v] wx fun e w' => e = .returned (.int .i64 (ixQ v : Int)) ∧ wx = w') := fun wx v => indexQ wx v
  have HNu : Hid (∀ wx, Calls Tryz.prog 13 #[.int .i64 0] wx fun e' w' => e' = .returned (.int .i64 0) ∧ wx = w') := fun wx => numQ wx 0 (by omega)
  have HMx : Hid (nD n < n) := (nM_bd HN.out.1 (Nat.le_trans HN.out.2 (by omega))).2.2.2.2.1
  clear hT hi hl hn
  have hmm := @run_makeMap Tryz.prog
  go_enter Tryz.func3, Tryz.ntmps3
  go_upto_region 2 with (fail)
  obtain ⟨P, hP⟩ : ∃ P, w.heap.size = P := ⟨_, rfl⟩
  obtain ⟨w1, hw1⟩ : ∃ w1, w.alloc (.cells #[.int .i64 M, .slice none 0 0, .slice none 0 0] 25) = w1 := ⟨_, rfl⟩
  have H1 : Hid (Below w.heap.size w w1) := by rw [← hw1]; exact below_new _
  have hst : StuAt w1 P M none 0 0 none 0 0 := by rw [← hw1, ← hP]; exact heap_alloc_new _ _
  rw [hw1, hP]
  clear hw1 hP
  obtain ⟨b0, b1, b2⟩ := hst.cells
  clear hst
  go_upto_region 3 with (go_at_call 8; refine (HBg.out _ H1.out).mono ?_; rintro e w2 ⟨rt, D, T, rfl, h1, h2⟩; have H2 : Hid (OpQ w1 w2 D T n ∧ ∀ b, fd (nD n) n (bmp D T) b = decide (nD n ≤ b ∧ b < n)) := ⟨h1, h2⟩; clear h1 h2 HBg)
  clear b0 b1 b2
  obtain ⟨tt, htt⟩ : ∃ tt, T.t = tt := ⟨_, rfl⟩
  have HTt : Hid (T.t = tt) := htt
  obtain ⟨G, hG⟩ : ∃ G, w2.heap.size = G := ⟨_, rfl⟩
  obtain ⟨w3, hw3⟩ : ∃ w3, w2.alloc (.cells #[.int .i64 (n : Int), .int .i64 98, .int .i64 (gI n), .int .i64 (gD n), .int .i64 (gC n)] 29) = w3 := ⟨_, rfl⟩
  have H3 : Hid (OpQ w1 w3 D T n ∧ Bq w1 w3 D T G (.cells #[.int .i64 (n : Int), .int .i64 98, .int .i64 (gI n), .int .i64 (gD n), .int .i64 (gC n)] 29 (0, 0))) := by
    have hb := Bq.new H2.out.1.spc #[.int .i64 (n : Int), .int .i64 98, .int .i64 (gI n), .int .i64 (gD n), .int .i64 (gC n)] 29
    rw [hw3, hG] at hb
    exact ⟨⟨H2.out.1.spc.on (by rw [← hw3]; exact below_new _), H2.out.1.c, H2.out.1.us⟩, hb⟩
  have H4 : Hid (Below w.heap.size w w3) := H1.out.trans (H3.out.1.spc.ses.bel.mono H1.out.size)
  rw [htt, hw3, hG]
  clear htt hw3 hG
  go_upto_region 5 with (go_at_call 9; refine (HKn.out _ H4.out).mono ?_; rintro e w4 ⟨rfl, h1⟩; have H5 : Hid (Below w3.heap.size w3 w4) := h1; clear h1 HKn)
  go_upto_region 6 with (fail)
  obtain ⟨X, hX⟩ : ∃ X, w4.heap.size = X := ⟨_, rfl⟩
  obtain ⟨w5, hw5⟩ : ∃ w5, w4.alloc (.cells #[.int .i64 0, .int .i64 0, .int .i64 0, .int .i64 0, .int .i64 0, .int .i64 0, .int .i64 0, .int .i64 0, .int .i64 0, .int .i64 0, .int .i64 0, .int .i64 0, .int .i64 0, .int .i64 0, .int .i64 0] 35) = w5 := ⟨_, rfl⟩
  rw [hw5, hX]
  have H6 : Hid (Spc w1 w5 D T n ∧ Bq w1 w5 D T G (.cells #[.int .i64 (n : Int), .int .i64 98, .int .i64 (gI n), .int .i64 (gD n), .int .i64 (gC n)] 29 (0, 0)) ∧ Bq w1 w5 D T X (.cells #[.int .i64 0, .int .i64 0, .int .i64 0, .int .i64 0, .int .i64 0, .int .i64 0, .int .i64 0, .int .i64 0, .int .i64 0, .int .i64 0, .int .i64 0, .int .i64 0, .int .i64 0, .int .i64 0, .int .i64 0] 35 (0, 0)) ∧ G < X) := by
    have hb : Below w4.heap.size w4 w5 := by rw [← hw5]; exact below_new _
    have h3 := H3.out.1.spc.on H5.out
    have hx := Bq.new h3 #[.int .i64 0, .int .i64 0, .int .i64 0, .int .i64 0, .int .i64 0, .int .i64 0, .int .i64 0, .int .i64 0, .int .i64 0, .int .i64 0, .int .i64 0, .int .i64 0, .int .i64 0, .int .i64 0, .int .i64 0] 35
    rw [hw5, hX] at hx
    exact ⟨h3.on hb, (H3.out.2.on H5.out).on hb, hx, by have := H3.out.2.out.lt; have := H5.out.size; omega⟩
  clear hw5 hX H4 H5
  obtain ⟨z0, z1, z2, z3, z4⟩ := H6.out.2.1.c5.cells
  go_upto_region 7 with (fail)
  clear z0 z1 z2 z3 z4
  go_upto_region 8 with (fail)
  obtain ⟨H, hH⟩ : ∃ H, w5.heap.size = H := ⟨_, rfl⟩
  obtain ⟨w6, hw6⟩ : ∃ w6, w5.alloc (.map #[] 0) = w6 := ⟨_, rfl⟩
  have H7 : Hid (LwS w1 w6 D T n 0 G X H tt (nD n) (fun _ => 0) (fun _ => 0)) := by
    have hb : Below w5.heap.size w5 w6 := by rw [← hw6]; exact (Below.refl _ _).alloc (Nat.le_refl _) _
    have h6 := H6.out
    refine ⟨h6.1.on hb, ⟨Tre.none (fun _ _ => rfl), Own1.none⟩, Shp.none, by rw [H3.out.1.us]; simp, H2.out.2, h6.2.1.on hb, h6.2.2.1.on hb, HasM.none ?_, Out.of h6.1 (by rw [hH]; exact Nat.le_refl _) (by rw [← hw6, ← hH]; simp), HTt.out, ⟨Nat.le_refl _, Nat.le_of_lt HMx.out⟩, h6.2.2.2, ?_⟩
    · rw [← hw6, ← hH]; exact mpAt_made w5
    · have := h6.2.2.1.out.lt; omega
  rw [hw6, hH]
  clear hw6 hH H6 H3 H2 HTt
  rw [gD_nat]
  go_cut [47, 48, 49] (fun s47 s48 s49 wx => ∃ m : Nat, m ≤ 200 ∧ m ≤ L ∧ s47 = .slice ia m ic ∧ s48 = .int .i64 (m : Int) ∧ s49 = .int .i64 0 ∧ w6 = wx)
  case first =>
    by_cases h2 : 200 < L
    · obtain ⟨p, rfl⟩ : ∃ p, ia = some p := by
        cases ia with
        | some p => exact ⟨p, rfl⟩
        | none =>
          rcases HI.out.1.at_ with e | ⟨_, _, e, _⟩
          · have := HI.out.2.1; rw [e] at this; simp at this; omega
          · cases e
      have hc2 : 200 ≤ ic := by omega
      go_wp2
      go_meet
      case rel => exact ⟨200, Nat.le_refl _, by omega, congrArg (fun q => Value.slice (some p) q ic) (by omega), congrArg (Value.int .i64) (by omega), rfl, rfl⟩
    · go_wp2
      go_meet
      case rel => exact ⟨L, by omega, Nat.le_refl _, congrArg (fun q => Value.slice ia q ic) (by omega), congrArg (Value.int .i64) (by omega), rfl, rfl⟩
  case rest =>
  obtain ⟨m, hm2, hmL, rfl, rfl, rfl, rfl⟩ := hcut
  go_upto_region 9 with (fail)
  go_loopw [11, 49] (fun s11 s49 wr => ∃ (r c : Nat) (T : Tx) (x : Nat → Int) (ν : Nat → Nat), r ≤ m ∧ s49 = .int .i64 (r : Int) ∧ s11 = .int .i64 (c : Int) ∧ LwS w1 wr D T n r G X H tt c x ν) (fun _ s49 _ => m - (intOf s49).toNat)
  case atStart => exact ⟨0, nD n, T, _, _, by omega, rfl, rfl, H7.out⟩
  case round =>
    clear H7
    clear T
    obtain ⟨r, c, T, x, ν, hr2, rfl, rfl, hst⟩ := hrel
    obtain ⟨wA, hwA⟩ : ∃ wA, wr = wA := ⟨_, rfl⟩
    rw [hwA] at hst ⊢
    clear hwA wr
    have HR : Hid (LwS w1 wA D T n r G X H tt c x ν) := hst
    clear hst
    by_cases hrm : r < m
    · have hlt : (r : Int) < (m : Int) := by omega
      obtain ⟨v, ib, io, rfl, hcv⟩ : ∃ (v : Int) (ib io : Nat), ia = some ⟨ib, io, none⟩ ∧ wA.cell? ⟨ib, io + r, none⟩ = some (.int .i64 v) := by
        have hb : Below w.heap.size w wA := H1.out.trans (HR.out.spc.ses.bel.mono H1.out.size)
        rcases (HI.out.1.on hb).at_ with e | ⟨b, off, e, hc⟩
        · have := HI.out.2.1; rw [e] at this; simp at this; omega
        · exact ⟨nth is r, b, off, e, hc r (by have := HI.out.2.1; omega)⟩
      obtain ⟨k, hk⟩ : ∃ k, ixQ v = k := ⟨_, rfl⟩
      have hkb : k < 16522 := by rw [← hk]; exact ixQ_bd v
      have HIv : Hid (∀ wx, Calls Tryz.prog 10 #[.int .i64 v] wx fun e w' => e = .returned (.int .i64 (k : Int)) ∧ wx = w') := fun wx => by have := HIx.out wx v; rw [hk] at this; exact this
      clear hk
      go_upto_region 12 with (go_at_call 10; refine (HIv.out _).mono ?_; rintro e wq ⟨rfl, rfl⟩)
      clear hcv
      go_upto_region 13 with (first
        | (refine ins_any _ rfl _ _ _ rfl wA.heap.size [] (k : Int) 1 rfl (mpAt_made wA) (by simp) (wf64 (by omega)) (wf64 (by omega)) rfl rfl ?_; intro w2 nd hm0 hx1 hnd hx2 hg0; have HN0 : Hid (MpAt w2 wA.heap.size [((k : Int), 1)] ∧ (wA.alloc (.map #[] 0)).grownBy w2 (some wA.heap.size)) := ⟨by have := hnd (by simp); rw [← List.nil_append [((k : Int), (1 : Int))], ← this]; exact hm0, hg0⟩; clear hm0 hnd hg0 hx1 hx2)
        | go_in)
      have HB2 : Hid (Below wA.heap.size wA w2) := ((Below.refl _ _).alloc (Nat.le_refl _) _).grown HN0.out.2 (by simp) (fun j hj => by cases hj; exact Nat.le_refl _)
      obtain ⟨B, hB⟩ : ∃ B, wA.heap.size = B := ⟨_, rfl⟩
      rw [hB]
      have HR2 : Hid (LwS w1 w2 D T n r G X H tt c x ν ∧ MpAt w2 B [((k : Int), 1)] ∧ wA.heap.size = B) := ⟨HR.out.on HB2.out, by rw [← hB]; exact HN0.out.1, hB⟩
      clear HN0 hB nd
      obtain ⟨ks, ⟨E, hE, hL⟩, hks⟩ := HR2.out.1.h
      have HL : Hid (MpL E ks ∧ ∀ z v, (z, v) ∈ ks ↔ ∃ k : Nat, k < 16522 ∧ ν (ixP k) ≠ 0 ∧ z = (k : Int) ∧ v = (ν (ixP k) : Int)) := ⟨hL, hks⟩
      obtain ⟨kl, hkl⟩ : ∃ kl, ks.length = kl := ⟨_, rfl⟩
      rw [hkl] at hE
      have HKl : Hid (ks.length = kl ∧ kl ≤ 16522) := ⟨hkl, by
        have h1 : (ks.map Prod.fst).length ≤ ((List.range 16522).map fun k : Nat => (k : Int)).length := sub_len hL.nd (fun x hx => by
          obtain ⟨k, k1, _, k3⟩ := (has_keys hks x).1 hx
          exact List.mem_map.2 ⟨k, List.mem_range.2 k1, k3.symm⟩)
        rw [List.length_map, List.length_map, List.length_range] at h1
        omega⟩
      clear hL hks hkl
      go_upto_region 14 with (first
        | (at_range; refine wpList_range_own _ rfl _ 36 rfl 3 3 lawI Tryz.underlying36 _ H kl _ rfl hE ?_; intro w3 hrg0 hg0 hs0)
        | go_in)
      go_frame
      obtain ⟨r9, hr9⟩ : ∃ r9, w2.heap.size = r9 := ⟨_, rfl⟩
      have H9 : Hid (Below wA.heap.size wA w3 ∧ MpAt w3 B [((k : Int), 1)] ∧ B < r9 ∧ H < B ∧ wA.heap.size = B) := by
        have h2 := HR2.out
        have hlt9 := h2.2.1.lt
        have hH := HR.out.ho.lt
        exact ⟨HB2.out.grown hg0 HB2.out.size (fun j hj => by cases hj), h2.2.1.kept hg0 (by simp), by omega, by omega, h2.2.2⟩
      rw [hr9] at hrg0 ⊢
      clear hr9 hs0 hg0 hE HR2 HB2
      go_loopw [17] (fun _ wr => ∃ (left : Lit → Bool) (cnt : Nat) (nd : List (Int × Int)), wr.ranges Tryz.prog 3 (plainElem Tryz.prog 3) H r9 kl E left cnt ∧ cnt ≤ kl ∧ (∀ z, left (kI z) = true → z ∈ ks.map Prod.fst) ∧ MpAt wr B nd ∧ nd.length ≤ 1 + (kl - cnt) ∧ NdI ks nd left k ∧ Below wA.heap.size wA wr)
        (fun _ wr => wr.rangeLeft H r9)
      case atStart =>
        refine ⟨_, _, _, hrg0, by rw [HL.out.1.size]; exact Nat.le_of_eq HKl.out.1, fun z hz => by rw [HL.out.1.has] at hz; simpa using hz, H9.out.2.1, by simp, fun t => ?_, H9.out.1⟩
        constructor
        · intro ht; simp at ht; exact .inl ht
        · rintro (rfl | ⟨h1, h2⟩)
          · simp
          · rw [HL.out.1.has] at h2
            exact absurd h1 (by simpa using h2)
      case round =>
        obtain ⟨left, cnt, nd, hrg, hcs, hlk, hnd, hndl, hni, hbw⟩ := hrel
        obtain ⟨wB, hwB⟩ : ∃ wB, wr = wB := ⟨_, rfl⟩
        rw [hwB] at hrg hnd hbw ⊢
        clear hwB hrg0
        have HG : Hid (MpAt wB B nd ∧ NdI ks nd left k ∧ Below wA.heap.size wA wB ∧ (∀ z, left (kI z) = true → z ∈ ks.map Prod.fst) ∧ wB.rangeLeft H r9 = cnt) := ⟨hnd, hni, hbw, hlk, hrg.left_eq⟩
        clear hnd hni hbw hlk
        go_upto_region 15 with (first
          | (at_next; refine wpList_next_ranges_ii _ rfl _ rfl 3 3 .i64 .i64 lawI Tryz.underlying3 Tryz.underlying3 H r9 kl _ _ _ rfl hrg ?_ ?_)
          | go_in)
        · intro hc0 hl0
          clear hrg
          have hHb : Below w.heap.size w wB := H1.out.trans ((HR.out.spc.ses.bel.trans (HG.out.2.2.1.mono HR.out.spc.ses.bel.size)).mono H1.out.size)
          have HRB : Hid (LwS w1 wB D T n r G X H tt c x ν) := HR.out.on HG.out.2.2.1
          obtain ⟨mm, hmm2⟩ : ∃ mm, zw ν (wayP k) = mm := ⟨_, rfl⟩
          have HMm : Hid (zw ν (wayP k) = mm) := hmm2
          obtain ⟨S, hS⟩ : ∃ S, siz ν = S := ⟨_, rfl⟩
          obtain ⟨A, hA⟩ : ∃ A, siz (filW ν k) = A := ⟨_, rfl⟩
          have hAS0 : A = S + mm := by rw [← hA, ← hS, ← hmm2]; exact siz_fil hkb
          have hmm3 : mm ≤ 3 := by rw [← hmm2]; unfold zw; exact Nat.le_trans (List.length_filter_le _ _) (wayP_len k).2
          have hSb : S ≤ 16652 := by rw [← hS]; unfold siz; exact Nat.le_trans (List.length_filter_le _ _) (by rw [List.length_range]; exact Nat.le_refl _)
          have hAS : (A : Int) - (S : Int) = (mm : Int) := by omega
          clear hAS0
          have HTn : Hid (∀ wx, Below wB.heap.size wB wx → Calls Tryz.prog 11 #[.map (some B)] wx fun e w' => e = .returned (.int .i64 (A : Int)) ∧ Below wx.heap.size wx w') := fun wx hb => by
            have h9 := takes_any wx B nd (HG.out.1.on hb) (filW ν k) (HRB.out.shp.fil hkb) (fun z => by
              rw [HG.out.2.1 z, has_keys HL.out.2]
              constructor
              · rintro (rfl | ⟨⟨j, j1, j2, rfl⟩, _⟩)
                · exact ⟨k, hkb, (fil_keys hkb hkb).2 (.inl rfl), rfl⟩
                · exact ⟨j, j1, (fil_keys hkb j1).2 (.inr j2), rfl⟩
              · rintro ⟨j, j1, j2, rfl⟩
                rcases (fil_keys hkb j1).1 j2 with rfl | j3
                · exact .inl rfl
                · exact .inr ⟨⟨j, j1, j3, rfl⟩, hl0 _⟩)
            rw [hA] at h9
            exact h9
          have HTh : Hid (∀ wx, Below wB.heap.size wB wx → Calls Tryz.prog 11 #[.map (some H)] wx fun e w' => e = .returned (.int .i64 (S : Int)) ∧ Below wx.heap.size wx w') := fun wx hb => by
            obtain ⟨ks', q1, q2⟩ := HRB.out.h.on hb
            have h9 := takes_any wx H ks' q1 ν HRB.out.shp (has_keys q2)
            rw [hS] at h9
            exact h9
          have HHb : Hid (Below w.heap.size w wB) := hHb
          clear hmm2 hS hA hHb HG HL HKl H9 hl0 hc0
          go_upto_region 18 with (first
            | (have hh := HTn.out; clear hh; go_at_call 11; refine (HTn.out _ (Below.refl _ _)).mono ?_; rintro e wC ⟨rfl, h1⟩; have HC1 : Hid (Below wB.heap.size wB wC) := h1; clear h1 HTn)
            | (go_at_call 11; refine (HTh.out _ HC1.out).mono ?_; rintro e wD ⟨rfl, h1⟩; have HC2 : Hid (Below wB.heap.size wB wD) := HC1.out.trans (h1.mono HC1.out.size); clear h1 HTh))
          clear hAS
          have HR3 : Hid (LwS w1 wD D T n r G X H tt c x ν) := HRB.out.on HC2.out
          clear HRB HC1 HC2 HR
          obtain ⟨z0, z1, z2, z3, z4⟩ := HR3.out.g.c5.cells
          obtain ⟨x0, x1, x2, x3, x4, x5, x6, x7, x8, x9, x10, x11, x12, x13, x14⟩ := HR3.out.x.c15
          have HAd : Hid (Calls Tryz.prog 12 #[.pointer (some ⟨tt, 0, none⟩), .agg #[.int .i64 (n : Int), .int .i64 98, .int .i64 (gI n), .int .i64 (gD n), .int .i64 (gC n)], .agg #[.int .i64 (x 0), .int .i64 (x 1), .int .i64 (x 2), .int .i64 (x 3), .int .i64 (x 4), .int .i64 (x 5), .int .i64 (x 6), .int .i64 (x 7), .int .i64 (x 8), .int .i64 (x 9), .int .i64 (x 10), .int .i64 (x 11), .int .i64 (x 12), .int .i64 (x 13), .int .i64 (x 14)], .int .i64 (k : Int)] wD fun e w' => ∃ (N z : Nat) (y : Nat → Int) (T' : Tx), e = .returned (.tuple #[.agg #[.int .i64 (y 0), .int .i64 (y 1), .int .i64 (y 2), .int .i64 (y 3), .int .i64 (y 4), .int .i64 (y 5), .int .i64 (y 6), .int .i64 (y 7), .int .i64 (y 8), .int .i64 (y 9), .int .i64 (y 10), .int .i64 (y 11), .int .i64 (y 12), .int .i64 (y 13), .int .i64 (y 14)], .int .i64 (N : Int), .int .i64 (z : Int)]) ∧ AdL w1 wD w' D T T' n k x ν y N z) := by
            have h9 := add_any w1 wD D T n HR3.out.spc (HT.out.on H1.out) x ν HR3.out.wd k hkb (by have := HR3.out.us; omega)
            rw [HR3.out.t] at h9
            exact h9
          go_upto_region 19 with (go_at_call 12; refine HAd.out.mono ?_; rintro e wd ⟨N, z, y, T1, rfl, h1⟩; have HD : Hid (AdL w1 wD wd D T T1 n k x ν y N z) := h1; clear h1 HAd)
          clear z0 z1 z2 z3 z4 x0 x1 x2 x3 x4 x5 x6 x7 x8 x9 x10 x11 x12 x13 x14
          obtain ⟨ZZ, hZ⟩ : ∃ ZZ : Int, (z : Int) = ZZ := ⟨_, rfl⟩
          have HZ : Hid ((z : Int) = ZZ) := hZ
          rw [hZ]
          clear hZ
          obtain ⟨Yb, hYb⟩ : ∃ Yb, wd.heap.size = Yb := ⟨_, rfl⟩
          obtain ⟨we, hwe⟩ : ∃ we, wd.alloc (.cells #[.int .i64 (y 0), .int .i64 (y 1), .int .i64 (y 2), .int .i64 (y 3), .int .i64 (y 4), .int .i64 (y 5), .int .i64 (y 6), .int .i64 (y 7), .int .i64 (y 8), .int .i64 (y 9), .int .i64 (y 10), .int .i64 (y 11), .int .i64 (y 12), .int .i64 (y 13), .int .i64 (y 14)] 35) = we := ⟨_, rfl⟩
          have HE : Hid (Below wd.heap.size wd we ∧ wd.heap.size = Yb ∧ we.heap[Yb]? = some (.cells #[.int .i64 (y 0), .int .i64 (y 1), .int .i64 (y 2), .int .i64 (y 3), .int .i64 (y 4), .int .i64 (y 5), .int .i64 (y 6), .int .i64 (y 7), .int .i64 (y 8), .int .i64 (y 9), .int .i64 (y 10), .int .i64 (y 11), .int .i64 (y 12), .int .i64 (y 13), .int .i64 (y 14)] 35 (0, 0))) := ⟨by rw [← hwe]; exact below_new _, hYb, by rw [← hwe, ← hYb]; exact heap_alloc_new _ _⟩
          rw [hwe, hYb]
          clear hwe hYb
          rcases HD.out with ⟨hz0, ν', hy, hp, hg⟩ | ⟨hz0, hN0, hy, hzz, hbig⟩
          · have hZ0 : ZZ = 0 := by have := HZ.out; omega
            subst hZ0
            clear hz0 HD
            obtain ⟨a1, a2, a3, a4, a5, a6, a7, a8⟩ := add_low hkb HR3.out.shp hp.tks HR3.out.fr (by have h1 := HR3.out.cb.1; unfold nD at h1; omega)
            rw [HMm.out] at a1 a2 a5 a7 a8
            have hN9 := hp.nE
            rw [hN9] at a2
            have hcb := HR3.out.cb
            have hnb := HN.out
            have hx13 : x 13 = (ν 10 : Int) := HR3.out.wd.tre.own 10 (by omega)
            have hx14 : x 14 = (ν 11 : Int) := HR3.out.wd.tre.own 11 (by omega)
            have hy13 : y 13 = (ν' 10 : Int) := by rw [hy]; exact withN_own x ν' 10 (by omega)
            have hy14 : y 14 = (ν' 11 : Int) := by rw [hy]; exact withN_own x ν' 11 (by omega)
            have HO : Hid ((mm = 0 ∨ (0 < mm ∧ (c : Int) + (mm : Int) - 1 = (N : Int))) ∧ ((x 13 == 0) = false ∨ ((x 13 == 0) = true ∧ (y 13 != 0) = false) ∨ ((x 13 == 0) = true ∧ (y 13 != 0) = true ∧ (y 13 != (c : Int)) = false)) ∧ ((x 14 == 0) = false ∨ ((x 14 == 0) = true ∧ (y 14 != 0) = false) ∨ ((x 14 == 0) = true ∧ (y 14 != 0) = true ∧ (y 14 != (c : Int)) = false))) := by
              refine ⟨?_, ?_, ?_⟩
              · by_cases e : mm = 0
                · exact .inl e
                · have := a2 (by omega); exact .inr ⟨by omega, by omega⟩
              · rw [hx13, hy13]
                by_cases e : ν 10 = 0
                · by_cases e2 : ν' 10 = 0
                  · exact .inr (.inl ⟨by simp [e], by simp [e2]⟩)
                  · have := a3 10 (.inl rfl) e e2; exact .inr (.inr ⟨by simp [e], by simp [e2], by simp [this]⟩)
                · exact .inl (by simp [e])
              · rw [hx14, hy14]
                by_cases e : ν 11 = 0
                · by_cases e2 : ν' 11 = 0
                  · exact .inr (.inl ⟨by simp [e], by simp [e2]⟩)
                  · have := a3 11 (.inr rfl) e e2; exact .inr (.inr ⟨by simp [e], by simp [e2], by simp [this]⟩)
                · exact .inl (by simp [e])
            have hcb2 : c ≤ 4427 := by omega
            have hcm : c + mm ≤ n := by rcases a5 with e | e <;> omega
            have HY : Hid (y = withN x ν' ∧ AdP D T T1 n k x ν ν' N ∧ Gon w1 wD wd D T T1 n (fun _ => False) ∧ (∀ b, fd (nD n) n (bmp D T1) b = decide (c + mm ≤ b ∧ b < n)) ∧ Shp ν' ∧ c + mm ≤ n) := ⟨hy, hp, hg, a1, a4, hcm⟩
            clear a1 a2 a3 a4 a5 a6 a7 a8 hN9 hcb hnb hx13 hx14 hy13 hy14 hy hp hg hcm
            have HX : Hid (Bq w1 we D T1 X (.cells #[.int .i64 (x 0), .int .i64 (x 1), .int .i64 (x 2), .int .i64 (x 3), .int .i64 (x 4), .int .i64 (x 5), .int .i64 (x 6), .int .i64 (x 7), .int .i64 (x 8), .int .i64 (x 9), .int .i64 (x 10), .int .i64 (x 11), .int .i64 (x 12), .int .i64 (x 13), .int .i64 (x 14)] 35 (0, 0)) ∧ Bq w1 we D T1 G (.cells #[.int .i64 (n : Int), .int .i64 98, .int .i64 (gI n), .int .i64 (gD n), .int .i64 (gC n)] 29 (0, 0)) ∧ HasM we H ν ∧ Out w1 we D T1 H ∧ Spc w1 we D T1 n) := ⟨(HR3.out.x.gon HY.out.2.2.1).on HE.out.1, (HR3.out.g.gon HY.out.2.2.1).on HE.out.1, (HR3.out.h.mv HR3.out.ho HY.out.2.2.1.mv).on HE.out.1, (HR3.out.ho.mv HY.out.2.2.1.mv).mv (SMv.on HE.out.1 (S := fun _ => False)), HY.out.2.2.1.spc.on HE.out.1⟩
            go_upto_region 22 with (go_at_call 13; refine (HNu.out _).mono ?_; rintro e wq ⟨rfl, rfl⟩)
            go_cut [123] (fun s wx => s = .bool false ∧ we = wx)
            case first => as_aux_lemma =>
              rcases HO.out.1 with h0 | ⟨h0, h1⟩
              · have h0' : ¬ 0 < mm := by omega
                clear h0
                go_wp2
                go_meet
                case rel => exact ⟨rfl, rfl⟩
              · go_wp2
                go_meet
                case rel => exact ⟨by simp, rfl⟩
            case rest =>
            obtain ⟨rfl, rfl⟩ := hcut
            go_upto_region 24 with (fail)
            go_cut [161] (fun s wx => s = .bool false ∧ we = wx)
            case first => as_aux_lemma =>
              have x13 := cell_of_row _ _ 13 _ _ _ HX.out.1.row
              have x14 := cell_of_row _ _ 14 _ _ _ HX.out.1.row
              have y13 := cell_of_row _ _ 13 _ _ _ HE.out.2.2
              have y14 := cell_of_row _ _ 14 _ _ _ HE.out.2.2
              rcases HO.out.1 with h0 | ⟨h0, h1⟩
              · have h0' : ¬ 0 < mm := by omega
                clear h0
                go_wp2
                go_meet
                case rel => exact ⟨by simp, rfl⟩
              · rcases HO.out.2.1 with t1 | ⟨t1, t2⟩ | ⟨t1, t2, t3⟩ <;> rcases HO.out.2.2 with t4 | ⟨t4, t5⟩ | ⟨t4, t5, t6⟩
                all_goals go_wp2
                all_goals go_meet
                all_goals exact ⟨by simp, rfl⟩
            case rest =>
            obtain ⟨rfl, rfl⟩ := hcut
            go_upto_region 27 with (fail)
            have hyc := fun j => cell_of_row _ _ j _ _ _ HE.out.2.2
            have y0 := hyc 0
            have y1 := hyc 1
            have y2 := hyc 2
            have y3 := hyc 3
            have y4 := hyc 4
            have y5 := hyc 5
            have y6 := hyc 6
            have y7 := hyc 7
            have y8 := hyc 8
            have y9 := hyc 9
            have y10 := hyc 10
            have y11 := hyc 11
            have y12 := hyc 12
            have y13 := hyc 13
            have y14 := hyc 14
            clear hyc
            have hxc := fun j => cell_of_row _ _ j _ _ _ HX.out.1.row
            have x0 := hxc 0
            have x1 := hxc 1
            have x2 := hxc 2
            have x3 := hxc 3
            have x4 := hxc 4
            have x5 := hxc 5
            have x6 := hxc 6
            have x7 := hxc 7
            have x8 := hxc 8
            have x9 := hxc 9
            have x10 := hxc 10
            have x11 := hxc 11
            have x12 := hxc 12
            have x13 := hxc 13
            have x14 := hxc 14
            clear hxc
            have f0 : we.frozen? ⟨X, 0, none⟩ = false := frozen_of_row _ _ _ _ _ HX.out.1.row
            have f1 : we.frozen? ⟨X, 1, none⟩ = false := frozen_of_row _ _ _ _ _ HX.out.1.row
            have f2 : we.frozen? ⟨X, 2, none⟩ = false := frozen_of_row _ _ _ _ _ HX.out.1.row
            have f3 : we.frozen? ⟨X, 3, none⟩ = false := frozen_of_row _ _ _ _ _ HX.out.1.row
            have f4 : we.frozen? ⟨X, 4, none⟩ = false := frozen_of_row _ _ _ _ _ HX.out.1.row
            have f5 : we.frozen? ⟨X, 5, none⟩ = false := frozen_of_row _ _ _ _ _ HX.out.1.row
            have f6 : we.frozen? ⟨X, 6, none⟩ = false := frozen_of_row _ _ _ _ _ HX.out.1.row
            have f7 : we.frozen? ⟨X, 7, none⟩ = false := frozen_of_row _ _ _ _ _ HX.out.1.row
            have f8 : we.frozen? ⟨X, 8, none⟩ = false := frozen_of_row _ _ _ _ _ HX.out.1.row
            have f9 : we.frozen? ⟨X, 9, none⟩ = false := frozen_of_row _ _ _ _ _ HX.out.1.row
            have f10 : we.frozen? ⟨X, 10, none⟩ = false := frozen_of_row _ _ _ _ _ HX.out.1.row
            have f11 : we.frozen? ⟨X, 11, none⟩ = false := frozen_of_row _ _ _ _ _ HX.out.1.row
            have f12 : we.frozen? ⟨X, 12, none⟩ = false := frozen_of_row _ _ _ _ _ HX.out.1.row
            have f13 : we.frozen? ⟨X, 13, none⟩ = false := frozen_of_row _ _ _ _ _ HX.out.1.row
            have f14 : we.frozen? ⟨X, 14, none⟩ = false := frozen_of_row _ _ _ _ _ HX.out.1.row
            have neX : ¬ X = Yb := by have := HR3.out.x.out.lt; have := HE.out.2.1; have := HY.out.2.2.1.mv.fr.size; omega
            have neX2 : ¬ Yb = X := fun e => neX e.symm
            have HMw : Hid (∀ wx, wx.heap[H]? = we.heap[H]? → ∃ w9, (Instr.mapUpdate 36 (.map (some H)) (.int .i64 (k : Int)) (.int .i64 (N : Int))).run Tryz.prog wx = .ok () w9 ∧ HasM w9 H ν' ∧ wx.grownBy w9 (some H)) := fun wx hx => by
              obtain ⟨ks', q1, q2⟩ := HX.out.2.2.1.hp hx
              obtain ⟨E', e1, e2⟩ := q1
              have hNb : N < n := by have h1 := HY.out.2.1; have := (h1.wd.own.good (ixP k) (by rw [h1.nE]; exact h1.N0)).2.1; rw [h1.nE] at this; exact this
              have hlen : ks'.length ≤ 16522 := by
                have h1 : (ks'.map Prod.fst).length ≤ ((List.range 16522).map fun k : Nat => (k : Int)).length := sub_len e2.nd (fun x hx => by
                  obtain ⟨k, k1, _, k3⟩ := (has_keys q2 x).1 hx
                  exact List.mem_map.2 ⟨k, List.mem_range.2 k1, k3.symm⟩)
                rw [List.length_map, List.length_map, List.length_range] at h1
                exact h1
              obtain ⟨w9, r1, r2, r3⟩ := e1.update lawI Tryz.underlying36 (by unfold maxLen; omega) (keyOf_int_mk (a := (k : Int)) Tryz.underlying3 (wf64 (by omega))) (plainElem_int (a := (N : Int)) Tryz.underlying3 (wf64 (by have := HN.out; omega)))
              obtain ⟨ks9, k1, k2, k3, k4⟩ := e2.put (k : Int) (N : Int)
              have h1 := HY.out.2.1
              refine ⟨w9, r1, HasM.put hkb q2 (MpAt.of r2 k1) (by rw [h1.nE]; exact k3) (by rw [h1.nE]; exact h1.N0) (fun j j1 j2 => h1.tks.off _ (ixP_way_off hkb j1 j2)), r3⟩
            obtain ⟨w8, hr8, hm8, hg8⟩ := HMw.out we.drew rfl
            have hXH : X < H := HR3.out.gx.2
            have h8c : ∀ p j v, p ≠ H → p < we.heap.size → we.cell? ⟨p, j, none⟩ = some v → w8.cell? ⟨p, j, none⟩ = some v := fun p j v h1 h2 h3 => (World.cell?_of_block (a := ⟨p, j, none⟩) (hg8.block p h2 (fun e => h1 (Option.some.inj e)))).trans h3
            have hYlt := heap_lt HE.out.2.2
            have hXlt := heap_lt HX.out.1.row
            have hYH : Yb ≠ H := by have := HR3.out.ho.lt; have := HE.out.2.1; have := HY.out.2.2.1.mv.fr.size; omega
            have yy0 := h8c Yb 0 _ hYH hYlt y0
            have yy1 := h8c Yb 1 _ hYH hYlt y1
            have yy2 := h8c Yb 2 _ hYH hYlt y2
            have yy3 := h8c Yb 3 _ hYH hYlt y3
            have yy4 := h8c Yb 4 _ hYH hYlt y4
            have yy5 := h8c Yb 5 _ hYH hYlt y5
            have yy6 := h8c Yb 6 _ hYH hYlt y6
            have yy7 := h8c Yb 7 _ hYH hYlt y7
            have yy8 := h8c Yb 8 _ hYH hYlt y8
            have yy9 := h8c Yb 9 _ hYH hYlt y9
            have yy10 := h8c Yb 10 _ hYH hYlt y10
            have yy11 := h8c Yb 11 _ hYH hYlt y11
            have yy12 := h8c Yb 12 _ hYH hYlt y12
            have yy13 := h8c Yb 13 _ hYH hYlt y13
            have yy14 := h8c Yb 14 _ hYH hYlt y14
            have xx0 := h8c X 0 _ (by omega) hXlt x0
            have xx1 := h8c X 1 _ (by omega) hXlt x1
            have xx2 := h8c X 2 _ (by omega) hXlt x2
            have xx3 := h8c X 3 _ (by omega) hXlt x3
            have xx4 := h8c X 4 _ (by omega) hXlt x4
            have xx5 := h8c X 5 _ (by omega) hXlt x5
            have xx6 := h8c X 6 _ (by omega) hXlt x6
            have xx7 := h8c X 7 _ (by omega) hXlt x7
            have xx8 := h8c X 8 _ (by omega) hXlt x8
            have xx9 := h8c X 9 _ (by omega) hXlt x9
            have xx10 := h8c X 10 _ (by omega) hXlt x10
            have xx11 := h8c X 11 _ (by omega) hXlt x11
            have xx12 := h8c X 12 _ (by omega) hXlt x12
            have xx13 := h8c X 13 _ (by omega) hXlt x13
            have xx14 := h8c X 14 _ (by omega) hXlt x14
            have ff0 : w8.frozen? ⟨X, 0, none⟩ = false := (World.frozen?_of_block (a := ⟨X, 0, none⟩) (hg8.block X hXlt (fun e => by have := Option.some.inj e; omega))).trans f0
            have ff1 : w8.frozen? ⟨X, 1, none⟩ = false := (World.frozen?_of_block (a := ⟨X, 1, none⟩) (hg8.block X hXlt (fun e => by have := Option.some.inj e; omega))).trans f1
            have ff2 : w8.frozen? ⟨X, 2, none⟩ = false := (World.frozen?_of_block (a := ⟨X, 2, none⟩) (hg8.block X hXlt (fun e => by have := Option.some.inj e; omega))).trans f2
            have ff3 : w8.frozen? ⟨X, 3, none⟩ = false := (World.frozen?_of_block (a := ⟨X, 3, none⟩) (hg8.block X hXlt (fun e => by have := Option.some.inj e; omega))).trans f3
            have ff4 : w8.frozen? ⟨X, 4, none⟩ = false := (World.frozen?_of_block (a := ⟨X, 4, none⟩) (hg8.block X hXlt (fun e => by have := Option.some.inj e; omega))).trans f4
            have ff5 : w8.frozen? ⟨X, 5, none⟩ = false := (World.frozen?_of_block (a := ⟨X, 5, none⟩) (hg8.block X hXlt (fun e => by have := Option.some.inj e; omega))).trans f5
            have ff6 : w8.frozen? ⟨X, 6, none⟩ = false := (World.frozen?_of_block (a := ⟨X, 6, none⟩) (hg8.block X hXlt (fun e => by have := Option.some.inj e; omega))).trans f6
            have ff7 : w8.frozen? ⟨X, 7, none⟩ = false := (World.frozen?_of_block (a := ⟨X, 7, none⟩) (hg8.block X hXlt (fun e => by have := Option.some.inj e; omega))).trans f7
            have ff8 : w8.frozen? ⟨X, 8, none⟩ = false := (World.frozen?_of_block (a := ⟨X, 8, none⟩) (hg8.block X hXlt (fun e => by have := Option.some.inj e; omega))).trans f8
            have ff9 : w8.frozen? ⟨X, 9, none⟩ = false := (World.frozen?_of_block (a := ⟨X, 9, none⟩) (hg8.block X hXlt (fun e => by have := Option.some.inj e; omega))).trans f9
            have ff10 : w8.frozen? ⟨X, 10, none⟩ = false := (World.frozen?_of_block (a := ⟨X, 10, none⟩) (hg8.block X hXlt (fun e => by have := Option.some.inj e; omega))).trans f10
            have ff11 : w8.frozen? ⟨X, 11, none⟩ = false := (World.frozen?_of_block (a := ⟨X, 11, none⟩) (hg8.block X hXlt (fun e => by have := Option.some.inj e; omega))).trans f11
            have ff12 : w8.frozen? ⟨X, 12, none⟩ = false := (World.frozen?_of_block (a := ⟨X, 12, none⟩) (hg8.block X hXlt (fun e => by have := Option.some.inj e; omega))).trans f12
            have ff13 : w8.frozen? ⟨X, 13, none⟩ = false := (World.frozen?_of_block (a := ⟨X, 13, none⟩) (hg8.block X hXlt (fun e => by have := Option.some.inj e; omega))).trans f13
            have ff14 : w8.frozen? ⟨X, 14, none⟩ = false := (World.frozen?_of_block (a := ⟨X, 14, none⟩) (hg8.block X hXlt (fun e => by have := Option.some.inj e; omega))).trans f14
            have H89 : Hid (HasM w8 H ν' ∧ we.drew.grownBy w8 (some H)) := ⟨hm8, hg8⟩
            have HX8 : Hid (w8.heap[X]? = some (.cells #[.int .i64 (x 0), .int .i64 (x 1), .int .i64 (x 2), .int .i64 (x 3), .int .i64 (x 4), .int .i64 (x 5), .int .i64 (x 6), .int .i64 (x 7), .int .i64 (x 8), .int .i64 (x 9), .int .i64 (x 10), .int .i64 (x 11), .int .i64 (x 12), .int .i64 (x 13), .int .i64 (x 14)] 35 (0, 0))) := (hg8.block X hXlt (fun e => by have := Option.some.inj e; omega)).trans HX.out.1.row
            clear hm8 hg8 h8c HMw
            refine wp_region_any (by as_aux_lemma => kernel_rfl) ?_
            try (change wpAny _ _ _ _ _ _ _ (World.drew _))
            refine wpAny_take (i := 0) (v := ?_) rfl (by as_aux_lemma => kernel_rfl) (by as_aux_lemma => kernel_rfl) (by as_aux_lemma => kernel_rfl) (fun _ _ _ h => h) (Or.inl ⟨by as_aux_lemma => kernel_rfl, ?_⟩) ?_
            rotate_left
            focus (intro w; go_simp; (try (with_reducible rfl)); done)
            go_simp
            refine wpAny_take (i := 1) (v := ?_) rfl (by as_aux_lemma => kernel_rfl) (by as_aux_lemma => kernel_rfl) (by as_aux_lemma => kernel_rfl) (fun _ _ _ h => h) (Or.inl ⟨by as_aux_lemma => kernel_rfl, ?_⟩) ?_
            rotate_left
            focus (intro w; go_simp; (try (with_reducible rfl)); done)
            go_simp
            refine wpAny_take (i := 2) (v := ?_) rfl (by as_aux_lemma => kernel_rfl) (by as_aux_lemma => kernel_rfl) (by as_aux_lemma => kernel_rfl) (fun _ _ _ h => h) (Or.inl ⟨by as_aux_lemma => kernel_rfl, ?_⟩) ?_
            rotate_left
            focus (intro w; go_simp; (try (with_reducible rfl)); done)
            go_simp
            refine wpAny_ready (rs := [3, 4]) (by as_aux_lemma => kernel_rfl) (by simp) ?_
            refine AllReady.cons rfl (fun K hK => ?_) ?_
            · go_simp
              try go_simp
              first
                | (refine hK _ _ ?_; clear hK K)
                | skip
              refine wpAny_ready (rs := [4]) (by as_aux_lemma => kernel_rfl) (by simp) ?_
              refine AllReady.cons rfl (fun K hK => ?_) ?_
              · go_simp
                try go_simp
                first
                  | (refine hK _ _ ?_; clear hK K)
                  | skip
                refine wpAny_ready (rs := [5]) (by as_aux_lemma => kernel_rfl) (by simp) ?_
                refine AllReady.cons rfl (fun K hK => ?_) ?_
                · go_simp
                  try go_simp
                  first
                    | (refine hK _ _ ?_; clear hK K)
                    | skip
                  refine wpAny_done (by kernel_rfl) ?_ _
                  go_wp2
                  go_roundw
                  case rel => exact ⟨r + 1, c + mm, T1, y, ν', by omega, by go_num, by go_num, HR3.out.next HY.out.2.1 HY.out.2.2.1 HY.out.2.2.2.1 HY.out.2.2.2.2.1 HY.out.2.2.2.2.2 HE.out.1 H89.out.2 H89.out.1 (Fr.s2l (Fr.s2l (Fr.s2l (Fr.s2l (Fr.s2l (Fr.s2l (Fr.s2l (Fr.s2l (Fr.s2l (Fr.s2l (Fr.s2l (Fr.s2l (Fr.s2l (Fr.s2l (Fr.s2l (Fr.refl _ _)))))))))))))))) (set15 _ _ (.int .i64 (x 0)) (.int .i64 (x 1)) (.int .i64 (x 2)) (.int .i64 (x 3)) (.int .i64 (x 4)) (.int .i64 (x 5)) (.int .i64 (x 6)) (.int .i64 (x 7)) (.int .i64 (x 8)) (.int .i64 (x 9)) (.int .i64 (x 10)) (.int .i64 (x 11)) (.int .i64 (x 12)) (.int .i64 (x 13)) (.int .i64 (x 14)) (.int .i64 (y 0)) (.int .i64 (y 1)) (.int .i64 (y 2)) (.int .i64 (y 3)) (.int .i64 (y 4)) (.int .i64 (y 5)) (.int .i64 (y 6)) (.int .i64 (y 7)) (.int .i64 (y 8)) (.int .i64 (y 9)) (.int .i64 (y 10)) (.int .i64 (y 11)) (.int .i64 (y 12)) (.int .i64 (y 13)) (.int .i64 (y 14)) HX8.out) HY.out.1⟩
                  case measure => simp [intOf]; omega
                exact AllReady.nil
              exact AllReady.nil
            refine AllReady.cons rfl (fun K hK => ?_) ?_
            · go_simp
              try go_simp
              first
                | (refine hK _ _ ?_; clear hK K)
                | skip
              refine wpAny_ready (rs := [3]) (by as_aux_lemma => kernel_rfl) (by simp) ?_
              refine AllReady.cons rfl (fun K hK => ?_) ?_
              · go_simp
                try go_simp
                first
                  | (refine hK _ _ ?_; clear hK K)
                  | skip
                refine wpAny_ready (rs := [5]) (by as_aux_lemma => kernel_rfl) (by simp) ?_
                refine AllReady.cons rfl (fun K hK => ?_) ?_
                · go_simp
                  try go_simp
                  first
                    | (refine hK _ _ ?_; clear hK K)
                    | skip
                  refine wpAny_done (by kernel_rfl) ?_ _
                  go_wp2
                  go_roundw
                  case rel => exact ⟨r + 1, c + mm, T1, y, ν', by omega, by go_num, by go_num, HR3.out.next HY.out.2.1 HY.out.2.2.1 HY.out.2.2.2.1 HY.out.2.2.2.2.1 HY.out.2.2.2.2.2 HE.out.1 H89.out.2 H89.out.1 (Fr.s2l (Fr.s2l (Fr.s2l (Fr.s2l (Fr.s2l (Fr.s2l (Fr.s2l (Fr.s2l (Fr.s2l (Fr.s2l (Fr.s2l (Fr.s2l (Fr.s2l (Fr.s2l (Fr.s2l (Fr.refl _ _)))))))))))))))) (set15 _ _ (.int .i64 (x 0)) (.int .i64 (x 1)) (.int .i64 (x 2)) (.int .i64 (x 3)) (.int .i64 (x 4)) (.int .i64 (x 5)) (.int .i64 (x 6)) (.int .i64 (x 7)) (.int .i64 (x 8)) (.int .i64 (x 9)) (.int .i64 (x 10)) (.int .i64 (x 11)) (.int .i64 (x 12)) (.int .i64 (x 13)) (.int .i64 (x 14)) (.int .i64 (y 0)) (.int .i64 (y 1)) (.int .i64 (y 2)) (.int .i64 (y 3)) (.int .i64 (y 4)) (.int .i64 (y 5)) (.int .i64 (y 6)) (.int .i64 (y 7)) (.int .i64 (y 8)) (.int .i64 (y 9)) (.int .i64 (y 10)) (.int .i64 (y 11)) (.int .i64 (y 12)) (.int .i64 (y 13)) (.int .i64 (y 14)) HX8.out) HY.out.1⟩
                  case measure => simp [intOf]; omega
                exact AllReady.nil
              exact AllReady.nil
            exact AllReady.nil

          · as_aux_lemma =>
            clear HD
            have HF0 := HR3.out.fr
            have hfc : ∀ b, fd (nD n) n (bmp D T) b = true → b < n := fun b hb => (fd_bd hb).2
            obtain ⟨f0, hf0⟩ : ∃ f0, ct (fd (nD n) n (bmp D T)) n = f0 := ⟨_, rfl⟩
            have hZb : ZZ = 60 ∨ (ZZ = 90 ∧ (f0 : Int) < (mm : Int)) := by
              have hzq := HZ.out
              rcases hzz with ⟨e, _⟩ | ⟨e, Lq, p, ν1, F1, q1, q2, q3, q4⟩
              · exact .inl (by omega)
              · refine .inr ⟨by omega, ?_⟩
                have := no_low hkb q1 q2 q3 q4 hfc
                rw [hf0, HMm.out] at this
                omega
            have HQ : Hid (LwS w1 we D T1 n r G X H tt c x ν) := (HR3.out.big hbig).on HE.out.1
            have HFr : Hid (Calls Tryz.prog 14 #[.pointer (some ⟨tt, 0, none⟩), .agg #[.int .i64 (n : Int), .int .i64 98, .int .i64 (gI n), .int .i64 (gD n), .int .i64 (gC n)]] we fun e w' => e = .returned (.tuple #[.int .i64 (f0 : Int), .int .i64 0]) ∧ Below we.heap.size we w') := by
              have h9 := free_any w1 we D T1 n HQ.out.spc
              have ht : tv D T1 = tv D T := by funext i; unfold tv; rw [hbig.c]
              have hb : bmp D T1 = bmp D T := by unfold bmp; rw [ht]
              rw [HQ.out.t, hb, hf0] at h9
              exact h9
            have HNz : Hid (∀ wx, Calls Tryz.prog 13 #[.int .i64 ZZ] wx fun e' w' => e' = .returned (.int .i64 ZZ) ∧ wx = w') := fun wx => numQ wx ZZ (by rcases hZb with e | ⟨e, _⟩ <;> omega)
            have hZne : ¬ ZZ = 0 := by rcases hZb with e | ⟨e, _⟩ <;> omega
            have HZb : Hid (ZZ = 60 ∨ (ZZ = 90 ∧ (f0 : Int) < (mm : Int))) := hZb
            clear hZb hf0 hfc HF0 hzz hbig hz0 hN0 hy HR3 HE
            go_upto_region 20 with (go_at_call 13; refine (HNz.out _).mono ?_; rintro e wq ⟨rfl, rfl⟩)
            obtain ⟨z0, z1, z2, z3, z4⟩ := HQ.out.g.c5.cells
            go_upto_region 21 with (go_at_call 14; refine HFr.out.mono ?_; rintro e wf ⟨rfl, h1⟩; have HB : Hid (Below we.heap.size we wf) := h1; clear h1 HFr)
            clear z0 z1 z2 z3 z4
            have HQ2 : Hid (LwS w1 wf D T1 n r G X H tt c x ν) := HQ.out.on HB.out
            clear HQ HB
            have HTd : Hid (Calls Tryz.prog 15 #[.pointer (some ⟨tt, 0, none⟩), .agg #[.int .i64 (n : Int), .int .i64 98, .int .i64 (gI n), .int .i64 (gD n), .int .i64 (gC n)], .agg #[.int .i64 (x 0), .int .i64 (x 1), .int .i64 (x 2), .int .i64 (x 3), .int .i64 (x 4), .int .i64 (x 5), .int .i64 (x 6), .int .i64 (x 7), .int .i64 (x 8), .int .i64 (x 9), .int .i64 (x 10), .int .i64 (x 11), .int .i64 (x 12), .int .i64 (x 13), .int .i64 (x 14)], .map (some H)] wf fun e w' => e = .returned (.bool true) ∧ Below wf.heap.size wf w') := by
              have h9 := told_any w1 wf D T1 n HQ2.out.spc (HT.out.on H1.out) x ν HQ2.out.wd HQ2.out.shp H HQ2.out.h
              rw [HQ2.out.t] at h9
              exact h9
            obtain ⟨z0, z1, z2, z3, z4⟩ := HQ2.out.g.c5.cells
            obtain ⟨x0, x1, x2, x3, x4, x5, x6, x7, x8, x9, x10, x11, x12, x13, x14⟩ := HQ2.out.x.c15
            rcases HZb.out with rfl | ⟨rfl, hfm⟩
            · go_wp2_with (first
                | (go_at_call 13; first | (refine (HNz.out _).mono ?_; rintro e wq ⟨rfl, rfl⟩) | (refine (HNu.out _).mono ?_; rintro e wq ⟨rfl, rfl⟩))
                | (go_at_call 15; refine HTd.out.mono ?_; rintro e w9 ⟨rfl, h1⟩; have H9 : Hid (Below wf.heap.size wf w9) := h1; clear h1))
              go_ret
              exact ⟨rfl, H1.out.trans ((HQ2.out.spc.ses.bel.trans (H9.out.mono HQ2.out.spc.ses.bel.size)).mono H1.out.size)⟩
            · go_wp2_with (first
                | (go_at_call 13; first | (refine (HNz.out _).mono ?_; rintro e wq ⟨rfl, rfl⟩) | (refine (HNu.out _).mono ?_; rintro e wq ⟨rfl, rfl⟩))
                | (go_at_call 15; refine HTd.out.mono ?_; rintro e w9 ⟨rfl, h1⟩; have H9 : Hid (Below wf.heap.size wf w9) := h1; clear h1))
              go_ret
              exact ⟨rfl, H1.out.trans ((HQ2.out.spc.ses.bel.trans (H9.out.mono HQ2.out.spc.ses.bel.size)).mono H1.out.size)⟩
        · intro z c' w4 cnt1 hwz hwc hlz hat hrg1 hlt9 hg1 hs1 hen
          have hzk := HG.out.2.2.2.1 z hlz
          have hnd1 := HG.out.1.kept hg1 (fun e => by have := Option.some.inj e; have := H9.out; omega)
          have hkl := HKl.out.2
          have HX : Hid (z ∈ ks.map Prod.fst ∧ Below wA.heap.size wA w4) := ⟨hzk, HG.out.2.2.1.grown hg1 HG.out.2.2.1.size (fun j hj => by cases hj; have := H9.out; omega)⟩
          clear hzk hlz hg1 hs1 hat hwc hrg
          go_wp2_with (first
            | (at_mapUpdate; refine up_any _ rfl _ _ _ rfl B nd z 1 rfl hnd1 (by omega) hwz (wf64 (by omega)) rfl rfl ?_; intro w5 nd5 hm5 hk5 hx5 hl5 hg5; clear hx5; go_frame)
            | go_in)
          have hrg2 := hrg1.kept hg5 (fun e => by have := Option.some.inj e; have := H9.out; omega) (fun e => by have := Option.some.inj e; have := H9.out; omega)
          go_roundw
          case rel => exact ⟨_, cnt1, nd5, hrg2, by omega, fun y hy => HG.out.2.2.2.1 y (by simp at hy; exact hy.1), hm5, by omega, HG.out.2.1.step HX.out.1 (keys_of hk5), HX.out.2.grown hg5 HX.out.2.size (fun j hj => by cases hj; have := H9.out; omega)⟩
          case measure => rw [hrg2.left_eq, HG.out.2.2.2.2]; exact hlt9
    · have hlt : ¬ (r : Int) < (m : Int) := by omega
      have HTd : Hid (Calls Tryz.prog 15 #[.pointer (some ⟨tt, 0, none⟩), .agg #[.int .i64 (n : Int), .int .i64 98, .int .i64 (gI n), .int .i64 (gD n), .int .i64 (gC n)], .agg #[.int .i64 (x 0), .int .i64 (x 1), .int .i64 (x 2), .int .i64 (x 3), .int .i64 (x 4), .int .i64 (x 5), .int .i64 (x 6), .int .i64 (x 7), .int .i64 (x 8), .int .i64 (x 9), .int .i64 (x 10), .int .i64 (x 11), .int .i64 (x 12), .int .i64 (x 13), .int .i64 (x 14)], .map (some H)] wA fun e w' => e = .returned (.bool true) ∧ Below wA.heap.size wA w') := by
        have h9 := told_any w1 wA D T n HR.out.spc (HT.out.on H1.out) x ν HR.out.wd HR.out.shp H HR.out.h
        rw [HR.out.t] at h9
        exact h9
      obtain ⟨z0, z1, z2, z3, z4⟩ := HR.out.g.c5.cells
      obtain ⟨x0, x1, x2, x3, x4, x5, x6, x7, x8, x9, x10, x11, x12, x13, x14⟩ := HR.out.x.c15
      go_wp2_with (go_at_call 15; refine HTd.out.mono ?_; rintro e w9 ⟨rfl, h1⟩; have H9 : Hid (Below wA.heap.size wA w9) := h1; clear h1)
      go_ret
      exact ⟨rfl, H1.out.trans ((HR.out.spc.ses.bel.trans (H9.out.mono HR.out.spc.ses.bel.size)).mono H1.out.size)⟩
end Go.Proofs.YtjmdjagfekloaaaGreatDoor
