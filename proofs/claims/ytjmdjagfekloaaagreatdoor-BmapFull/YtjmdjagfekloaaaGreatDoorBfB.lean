import Derived.Test.YtjmdjagfekloaaaGreatDoorBfA
namespace Go.Proofs.YtjmdjagfekloaaaGreatDoor
open Go.RowKit Go.Maps Rec

/-- BmapFull's state at a round's head -/
structure FuS (w1 w : World) (D : Dk) (T : Tx) (n s k0 r G X tt : Nat) (x : Nat → Int) (ν : Nat → Nat) : Prop where
  spc : Spc w1 w D T n
  fu : FuI D T n s k0 r x ν
  g : Bq w1 w D T G (.cells #[.int .i64 (n : Int), .int .i64 98, .int .i64 (gI n), .int .i64 (gD n), .int .i64 (gC n)] 29 (0, 0))
  x : Bq w1 w D T X (.cells #[.int .i64 (x 0), .int .i64 (x 1), .int .i64 (x 2), .int .i64 (x 3), .int .i64 (x 4), .int .i64 (x 5), .int .i64 (x 6), .int .i64 (x 7), .int .i64 (x 8), .int .i64 (x 9), .int .i64 (x 10), .int .i64 (x 11), .int .i64 (x 12), .int .i64 (x 13), .int .i64 (x 14)] 35 (0, 0))
  t : T.t = tt
theorem Fr.s2 {w w' : World} {p j : Nat} {v : Value} (x : Fr (fun k => k = p) w w') : Fr (fun k => k = p) w (w'.setCell ⟨p, j, none⟩ v) := x.trans Fr.set (fun _ h => .inl h)
theorem FuS.on {w1 w w' : World} {D : Dk} {T : Tx} {n s k0 r G X tt : Nat} {x : Nat → Int} {ν : Nat → Nat} (h : FuS w1 w D T n s k0 r G X tt x ν) (hb : Below w.heap.size w w') : FuS w1 w' D T n s k0 r G X tt x ν := ⟨h.spc.on hb, h.fu, h.g.on hb, h.x.on hb, h.t⟩
/-- BmapFull's state behind a refusal -/
structure FuE (w1 w : World) (D : Dk) (T : Tx) (n s k0 r G X tt : Nat) (x : Nat → Int) (ν : Nat → Nat) (a1 a2 a3 : Option Addr) (Ln Lb Lt Yb : Nat) (fL p1 p2 p3 y : Nat → Int) : Prop where
  s : FuS w1 w D T n s k0 r G X tt x ν
  l1 : NuO w1 w D T a1 Ln fL
  l2 : PrO w1 w D T a2 Lb p1 p2
  l3 : NuO w1 w D T a3 Lt p3
  yb : Bq w1 w D T Yb (.cells #[.int .i64 (y 0), .int .i64 (y 1), .int .i64 (y 2), .int .i64 (y 3), .int .i64 (y 4), .int .i64 (y 5), .int .i64 (y 6), .int .i64 (y 7), .int .i64 (y 8), .int .i64 (y 9), .int .i64 (y 10), .int .i64 (y 11), .int .i64 (y 12), .int .i64 (y 13), .int .i64 (y 14)] 35 (0, 0))
theorem FuE.on {w1 w w' : World} {D : Dk} {T : Tx} {n s k0 r G X tt : Nat} {x : Nat → Int} {ν : Nat → Nat} {a1 a2 a3 : Option Addr} {Ln Lb Lt Yb : Nat} {fL p1 p2 p3 y : Nat → Int} (h : FuE w1 w D T n s k0 r G X tt x ν a1 a2 a3 Ln Lb Lt Yb fL p1 p2 p3 y) (hb : Below w.heap.size w w') : FuE w1 w' D T n s k0 r G X tt x ν a1 a2 a3 Ln Lb Lt Yb fL p1 p2 p3 y := ⟨h.s.on hb, h.l1.mv (SMv.on hb), h.l2.mv (SMv.on hb), h.l3.mv (SMv.on hb), h.yb.on hb⟩
/-- what Add did -/
def AdQ (w0 w w' : World) (D : Dk) (T T' : Tx) (n k : Nat) (x : Nat → Int) (ν : Nat → Nat) (y : Nat → Int) (N z : Nat) : Prop :=
  (z = 0 ∧ ∃ ν', y = withN x ν' ∧ AdP D T T' n k x ν ν' N ∧ Gon w0 w w' D T T' n (fun _ => False)) ∨ (z ≠ 0 ∧ N = 0 ∧ y = (fun _ => 0) ∧ AdZ T n k ν (fd (nD n) n (bmp D T)) z ∧ BigE w0 w w' D T T' n)
theorem FuS.big {w1 w w' : World} {D : Dk} {T T' : Tx} {n s k0 r G X tt : Nat} {x : Nat → Int} {ν : Nat → Nat} (h : FuS w1 w D T n s k0 r G X tt x ν) (b : BigE w1 w w' D T T' n) : FuS w1 w' D T' n s k0 r G X tt x ν := by
  have ht : tv D T' = tv D T := by funext i; unfold tv; rw [b.c]
  have hb : bmp D T' = bmp D T := by unfold bmp; rw [ht]
  have hw : Wd D T' n x ν := by
    have := h.fu.wd
    refine ⟨?_, ?_⟩
    · have := this.tre; unfold nmT at this ⊢; rw [ht]; exact this
    · rw [hb]; exact this.own
  have m : SMv (fun _ => False) w T w' T' := SMv.of b.mv
  exact ⟨b.spc, ⟨hw, by rw [b.us]; exact h.fu.us, by rw [b.c]; exact h.fu.inn, h.fu.giv⟩, h.g.mv m, h.x.mv m, b.mv.t.trans h.t⟩
set_option maxRecDepth 100000 in
set_option maxHeartbeats 16000000 in
theorem full_any (w : World) (hT : TabAt w) (M : Int) (ta : Option Addr) (tl tc : Nat) (ra : Option Addr) (rl rc : Nat) (ts : List Int) (ht : Ints w ta ts) (htl : ts.length = tl) (rs : List (Int × Option Addr × Nat × Nat × List Int)) (hr : RawAt w ra rl rs) (hrl : rl ≤ 1000000000000000) (fr st : Int) :
    Calls Tryz.prog 4 #[stuV M ta tl tc ra rl rc, .int .i64 fr, .int .i64 st] w fun e w' => e = .returned (.bool true) ∧ Below w.heap.size w w' := by
  obtain ⟨n, hn⟩ : ∃ n, nBq M = n := ⟨_, rfl⟩
  have HN : Hid (128 ≤ n ∧ n ≤ 4427) := by rw [← hn]; exact nBq_bd M
  obtain ⟨k0, hk0⟩ : ∃ k, ixQ fr = k := ⟨_, rfl⟩
  have HK0 : Hid (k0 < 16522) := by rw [← hk0]; exact ixQ_bd fr
  obtain ⟨s, hs⟩ : ∃ s, stQ st = s := ⟨_, rfl⟩
  have HS : Hid (0 < s ∧ s ≤ 300) := by rw [← hs]; exact stQ_bd st
  have HSt : Hid (stQ st = s) := hs
  have HBg : Hid (∀ wx, Below w.heap.size w wx → Calls Tryz.prog 8 #[.agg #[.int .i64 M, .slice ta tl tc, .slice ra rl rc]] wx fun e w' => ∃ (rt : Nat) (D : Dk) (T : Tx), e = .returned (.tuple #[.pointer (some ⟨T.t, 0, none⟩), .pointer (some ⟨rt, 0, none⟩), .agg #[.int .i64 (n : Int), .int .i64 98, .int .i64 (gI n), .int .i64 (gD n), .int .i64 (gC n)], .bool true]) ∧ OpQ wx w' D T n) := by
    intro wx hb
    have h9 := beginQ wx M ta tl tc ra rl rc ts (ht.on hb) htl rs (hr.on hb) hrl
    rw [hn] at h9
    refine h9.mono ?_
    rintro e w' ⟨rt, D, T, rfl, h1, _⟩
    exact ⟨rt, D, T, rfl, h1⟩
  have HT : Hid (TabAt w) := hT
  have HKn : Hid (∀ wx, Below w.heap.size w wx → Calls Tryz.prog 9 #[] wx fun e w' => e = .returned (.bool true) ∧ Below wx.heap.size wx w') := fun wx hb => known_any wx (HT.out.on hb)
  have HIx : Hid (∀ wx, Calls Tryz.prog 10 #[.int .i64 fr] wx fun e w' => e = .returned (.int .i64 (k0 : Int)) ∧ wx = w') := fun wx => by have := indexQ wx fr; rw [hk0] at this; exact this
  have HNu : Hid (∀ wx, Calls Tryz.prog 13 #[.int .i64 0] wx fun e' w' => e' = .returned (.int .i64 0) ∧ wx = w') := fun wx => numQ wx 0 (by omega)
  clear hT ht htl hr hrl hn hk0 hs
  unfold stuV
  go_enter Tryz.func4, Tryz.ntmps4
  go_upto_region 1 with (fail)
  obtain ⟨P, hP⟩ : ∃ P, w.heap.size = P := ⟨_, rfl⟩
  obtain ⟨w1, hw1⟩ : ∃ w1, w.alloc (.cells #[.int .i64 M, .slice ta tl tc, .slice ra rl rc] 25) = w1 := ⟨_, rfl⟩
  have H1 : Hid (Below w.heap.size w w1) := by rw [← hw1]; exact below_new _
  have hst : StuAt w1 P M ta tl tc ra rl rc := by rw [← hw1, ← hP]; exact heap_alloc_new _ _
  rw [hw1, hP]
  clear hw1 hP
  obtain ⟨b0, b1, b2⟩ := hst.cells
  clear hst
  go_upto_region 2 with (go_at_call 8; refine (HBg.out _ H1.out).mono ?_; rintro e w2 ⟨rt, D, T, rfl, h1⟩; have H2 : Hid (OpQ w1 w2 D T n) := h1; clear h1 HBg)
  clear b0 b1 b2
  obtain ⟨tt, htt⟩ : ∃ tt, T.t = tt := ⟨_, rfl⟩
  have HTt : Hid (T.t = tt) := htt
  obtain ⟨G, hG⟩ : ∃ G, w2.heap.size = G := ⟨_, rfl⟩
  obtain ⟨w3, hw3⟩ : ∃ w3, w2.alloc (.cells #[.int .i64 (n : Int), .int .i64 98, .int .i64 (gI n), .int .i64 (gD n), .int .i64 (gC n)] 29) = w3 := ⟨_, rfl⟩
  have H3 : Hid (OpQ w1 w3 D T n ∧ Bq w1 w3 D T G (.cells #[.int .i64 (n : Int), .int .i64 98, .int .i64 (gI n), .int .i64 (gD n), .int .i64 (gC n)] 29 (0, 0))) := by
    have hb := Bq.new H2.out.spc #[.int .i64 (n : Int), .int .i64 98, .int .i64 (gI n), .int .i64 (gD n), .int .i64 (gC n)] 29
    rw [hw3, hG] at hb
    exact ⟨⟨H2.out.spc.on (by rw [← hw3]; exact below_new _), H2.out.c, H2.out.us⟩, hb⟩
  have H4 : Hid (Below w.heap.size w w3) := H1.out.trans (H3.out.1.spc.ses.bel.mono H1.out.size)
  rw [htt, hw3, hG]
  clear htt hw3 hG H2
  go_upto_region 4 with (go_at_call 9; refine (HKn.out _ H4.out).mono ?_; rintro e w4 ⟨rfl, h1⟩; have H5 : Hid (Below w3.heap.size w3 w4) := h1; clear h1 HKn)
  go_upto_region 5 with (fail)
  obtain ⟨X, hX⟩ : ∃ X, w4.heap.size = X := ⟨_, rfl⟩
  obtain ⟨w5, hw5⟩ : ∃ w5, w4.alloc (.cells #[.int .i64 0, .int .i64 0, .int .i64 0, .int .i64 0, .int .i64 0, .int .i64 0, .int .i64 0, .int .i64 0, .int .i64 0, .int .i64 0, .int .i64 0, .int .i64 0, .int .i64 0, .int .i64 0, .int .i64 0] 35) = w5 := ⟨_, rfl⟩
  rw [hw5, hX]
  have H6 : Hid (FuS w1 w5 D T n s k0 0 G X tt (fun _ => 0) (fun _ => 0)) := by
    have hb : Below w4.heap.size w4 w5 := by rw [← hw5]; exact below_new _
    have h3 := H3.out.1.spc.on H5.out
    have hx := Bq.new h3 #[.int .i64 0, .int .i64 0, .int .i64 0, .int .i64 0, .int .i64 0, .int .i64 0, .int .i64 0, .int .i64 0, .int .i64 0, .int .i64 0, .int .i64 0, .int .i64 0, .int .i64 0, .int .i64 0, .int .i64 0] 35
    rw [hw5, hX] at hx
    exact ⟨h3.on hb, ⟨⟨Tre.none (fun _ _ => rfl), Own1.none⟩, by rw [H3.out.1.us]; simp, fun _ h => absurd rfl h, fun _ h => absurd h (by omega)⟩, (H3.out.2.on H5.out).on hb, hx, HTt.out⟩
  have hGX : G < X := by have := H3.out.2.out.lt; have := H5.out.size; omega
  have HGX : Hid (G < X) := hGX
  clear hGX hw5 hX H3 H4 H5 HTt
  go_wp2_with (go_at_call 10; refine (HIx.out _).mono ?_; rintro e wq ⟨rfl, rfl⟩)
  go_loopw [12, 46] (fun s12 s46 wr => ∃ (r : Nat) (T : Tx) (x : Nat → Int) (ν : Nat → Nat), r ≤ 200 ∧ s46 = .int .i64 (r : Int) ∧ s12 = .int .i64 (((k0 + r * s) % 16522 : Nat) : Int) ∧ FuS w1 wr D T n s k0 r G X tt x ν) (fun _ s46 _ => 200 - (intOf s46).toNat)
  case atStart => exact ⟨0, T, _, _, by omega, rfl, by rw [Nat.zero_mul, Nat.add_zero, Nat.mod_eq_of_lt HK0.out], H6.out⟩
  case round =>
    clear H6
    clear T
    obtain ⟨r, T, x, ν, hr2, rfl, rfl, hst⟩ := hrel
    have HR : Hid (FuS w1 wr D T n s k0 r G X tt x ν) := hst
    have h96 := hst.fu.few HS.out.1 HS.out.2 hr2 (by have := hst.spc.ses.tx.cnt; rw [hst.spc.nb] at this; exact this)
    clear hst
    have hlt : (r : Int) < 200 := by omega
    obtain ⟨k, hk⟩ : ∃ k, (k0 + r * s) % 16522 = k := ⟨_, rfl⟩
    have HK : Hid ((k0 + r * s) % 16522 = k) := hk
    rw [hk]
    clear hk
    obtain ⟨f0, hf0⟩ : ∃ f0, ct (fd (nD n) n (bmp D T)) n = f0 := ⟨_, rfl⟩
    have HF0 : Hid (ct (fd (nD n) n (bmp D T)) n = f0) := hf0
    obtain ⟨z0, z1, z2, z3, z4⟩ := HR.out.g.c5.cells
    have HFr : Hid (Calls Tryz.prog 14 #[.pointer (some ⟨tt, 0, none⟩), .agg #[.int .i64 (n : Int), .int .i64 98, .int .i64 (gI n), .int .i64 (gD n), .int .i64 (gC n)]] wr fun e w' => e = .returned (.tuple #[.int .i64 (f0 : Int), .int .i64 0]) ∧ Below wr.heap.size wr w') := by
      have h9 := free_any w1 wr D T n HR.out.spc
      rw [HR.out.t, hf0] at h9
      exact h9
    clear hf0
    go_upto_region 9 with (go_at_call 14; refine HFr.out.mono ?_; rintro e wa ⟨rfl, h1⟩; have HA : Hid (Below wr.heap.size wr wa) := h1; clear h1 HFr)
    clear z0 z1 z2 z3 z4
    have HR1 : Hid (FuS w1 wa D T n s k0 r G X tt x ν) := HR.out.on HA.out
    clear HR HA
    obtain ⟨Ln, hLn⟩ : ∃ Ln, (lst T.c n).length = Ln := ⟨_, rfl⟩
    obtain ⟨fL, hfL⟩ : ∃ fL : Nat → Int, (fun i => ((lst T.c n).map Bk.n).getD i 0) = fL := ⟨_, rfl⟩
    have HL : Hid ((lst T.c n).length = Ln ∧ (fun i => ((lst T.c n).map Bk.n).getD i 0) = fL) := ⟨hLn, hfL⟩
    have HWr : Hid (Calls Tryz.prog 16 #[.pointer (some ⟨tt, 0, none⟩)] wa fun e w' => ∃ a c, e = .returned (.slice a Ln c) ∧ NuO w1 w' D T a Ln fL ∧ Below wa.heap.size wa w') := by
      have h9 := writtenQ w1 wa D T n HR1.out.spc
      rw [HR1.out.t, hLn, hfL] at h9
      exact h9
    clear hLn hfL
    go_upto_region 10 with (go_at_call 16; refine HWr.out.mono ?_; rintro e wb ⟨a1, c1, rfl, h1, h2⟩; have HB : Hid (NuO w1 wb D T a1 Ln fL ∧ Below wa.heap.size wa wb) := ⟨h1, h2⟩; clear h1 h2 HWr)
    have HR2 : Hid (FuS w1 wb D T n s k0 r G X tt x ν ∧ NuO w1 wb D T a1 Ln fL) := ⟨HR1.out.on HB.out.2, HB.out.1⟩
    clear HR1 HB
    obtain ⟨z0, z1, z2, z3, z4⟩ := HR2.out.1.g.c5.cells
    obtain ⟨x0, x1, x2, x3, x4, x5, x6, x7, x8, x9, x10, x11, x12, x13, x14⟩ := HR2.out.1.x.c15
    obtain ⟨Lb, hLb⟩ : ∃ Lb, (allB ν).length = Lb := ⟨_, rfl⟩
    obtain ⟨Lt, hLt⟩ : ∃ Lt, (allT ν).length = Lt := ⟨_, rfl⟩
    obtain ⟨p1, hp1⟩ : ∃ p1 : Nat → Int, (fun i => (((allB ν).getD i (0, 0)).1 : Int)) = p1 := ⟨_, rfl⟩
    obtain ⟨p2, hp2⟩ : ∃ p2 : Nat → Int, (fun i => (((allB ν).getD i (0, 0)).2 : Int)) = p2 := ⟨_, rfl⟩
    obtain ⟨p3, hp3⟩ : ∃ p3 : Nat → Int, (fun i => ((allT ν).map fun (x : Nat) => (x : Int)).getD i 0) = p3 := ⟨_, rfl⟩
    have HAq : Hid (∀ wx T', FuS w1 wx D T' n s k0 r G X tt x ν → Calls Tryz.prog 17 #[.pointer (some ⟨tt, 0, none⟩), .agg #[.int .i64 (n : Int), .int .i64 98, .int .i64 (gI n), .int .i64 (gD n), .int .i64 (gC n)], .agg #[.int .i64 (x 0), .int .i64 (x 1), .int .i64 (x 2), .int .i64 (x 3), .int .i64 (x 4), .int .i64 (x 5), .int .i64 (x 6), .int .i64 (x 7), .int .i64 (x 8), .int .i64 (x 9), .int .i64 (x 10), .int .i64 (x 11), .int .i64 (x 12), .int .i64 (x 13), .int .i64 (x 14)]] wx fun e w' => ∃ a c a' c', e = .returned (.tuple #[.slice a Lb c, .slice a' Lt c', .int .i64 0]) ∧ PrO w1 w' D T' a Lb p1 p2 ∧ NuO w1 w' D T' a' Lt p3 ∧ Below wx.heap.size wx w') := fun wx T' hx => by
      have h9 := allQ w1 wx D T' n hx.spc (HT.out.on H1.out) x ν hx.fu.wd
      rw [hx.t, hLb, hLt, hp1, hp2, hp3] at h9
      exact h9
    have hbd := all_bd ν 12 (by omega)
    have hbd2 : Lb ≤ 100000 ∧ Lt ≤ 100000 := by rw [← hLb, ← hLt]; unfold allB allT; omega
    have HLb : Hid (Lb ≤ 100000 ∧ Lt ≤ 100000) := hbd2
    clear hLb hLt hp1 hp2 hp3 hbd hbd2
    go_upto_region 11 with (go_at_call 17; refine (HAq.out _ T HR2.out.1).mono ?_; rintro e wc ⟨a2, c2, a3, c3, rfl, h1, h2, h3⟩; have HC : Hid (PrO w1 wc D T a2 Lb p1 p2 ∧ NuO w1 wc D T a3 Lt p3 ∧ Below wb.heap.size wb wc) := ⟨h1, h2, h3⟩; clear h1 h2 h3)
    clear z0 z1 z2 z3 z4 x0 x1 x2 x3 x4 x5 x6 x7 x8 x9 x10 x11 x12 x13 x14
    have HR3 : Hid (FuS w1 wc D T n s k0 r G X tt x ν ∧ NuO w1 wc D T a1 Ln fL ∧ PrO w1 wc D T a2 Lb p1 p2 ∧ NuO w1 wc D T a3 Lt p3) := ⟨HR2.out.1.on HC.out.2.2, HR2.out.2.mv (SMv.on HC.out.2.2), HC.out.1, HC.out.2.1⟩
    clear HR2 HC
    obtain ⟨z0, z1, z2, z3, z4⟩ := HR3.out.1.g.c5.cells
    obtain ⟨x0, x1, x2, x3, x4, x5, x6, x7, x8, x9, x10, x11, x12, x13, x14⟩ := HR3.out.1.x.c15
    have HAd : Hid (Calls Tryz.prog 12 #[.pointer (some ⟨tt, 0, none⟩), .agg #[.int .i64 (n : Int), .int .i64 98, .int .i64 (gI n), .int .i64 (gD n), .int .i64 (gC n)], .agg #[.int .i64 (x 0), .int .i64 (x 1), .int .i64 (x 2), .int .i64 (x 3), .int .i64 (x 4), .int .i64 (x 5), .int .i64 (x 6), .int .i64 (x 7), .int .i64 (x 8), .int .i64 (x 9), .int .i64 (x 10), .int .i64 (x 11), .int .i64 (x 12), .int .i64 (x 13), .int .i64 (x 14)], .int .i64 (k : Int)] wc fun e w' => ∃ (N z : Nat) (y : Nat → Int) (T' : Tx), e = .returned (.tuple #[.agg #[.int .i64 (y 0), .int .i64 (y 1), .int .i64 (y 2), .int .i64 (y 3), .int .i64 (y 4), .int .i64 (y 5), .int .i64 (y 6), .int .i64 (y 7), .int .i64 (y 8), .int .i64 (y 9), .int .i64 (y 10), .int .i64 (y 11), .int .i64 (y 12), .int .i64 (y 13), .int .i64 (y 14)], .int .i64 (N : Int), .int .i64 (z : Int)]) ∧ AdQ w1 wc w' D T T' n k x ν y N z) := by
      have h9 := add_any w1 wc D T n HR3.out.1.spc (HT.out.on H1.out) x ν HR3.out.1.fu.wd k (by rw [← HK.out]; omega) (by have := HR3.out.1.fu.us; omega)
      rw [HR3.out.1.t] at h9
      exact h9
    go_upto_region 12 with (go_at_call 12; refine HAd.out.mono ?_; rintro e wd ⟨N, z, y, T1, rfl, h1⟩; have HD : Hid (AdQ w1 wc wd D T T1 n k x ν y N z) := h1; clear h1 HAd)
    clear z0 z1 z2 z3 z4 x0 x1 x2 x3 x4 x5 x6 x7 x8 x9 x10 x11 x12 x13 x14
    obtain ⟨Z, hZ⟩ : ∃ Z : Int, (z : Int) = Z := ⟨_, rfl⟩
    have HZ : Hid ((z : Int) = Z) := hZ
    rw [hZ]
    clear hZ
    obtain ⟨Yb, hYb⟩ : ∃ Yb, wd.heap.size = Yb := ⟨_, rfl⟩
    obtain ⟨we, hwe⟩ : ∃ we, wd.alloc (.cells #[.int .i64 (y 0), .int .i64 (y 1), .int .i64 (y 2), .int .i64 (y 3), .int .i64 (y 4), .int .i64 (y 5), .int .i64 (y 6), .int .i64 (y 7), .int .i64 (y 8), .int .i64 (y 9), .int .i64 (y 10), .int .i64 (y 11), .int .i64 (y 12), .int .i64 (y 13), .int .i64 (y 14)] 35) = we := ⟨_, rfl⟩
    have HE : Hid (Below wd.heap.size wd we ∧ wd.heap.size = Yb ∧ we.heap[Yb]? = some (.cells #[.int .i64 (y 0), .int .i64 (y 1), .int .i64 (y 2), .int .i64 (y 3), .int .i64 (y 4), .int .i64 (y 5), .int .i64 (y 6), .int .i64 (y 7), .int .i64 (y 8), .int .i64 (y 9), .int .i64 (y 10), .int .i64 (y 11), .int .i64 (y 12), .int .i64 (y 13), .int .i64 (y 14)] 35 (0, 0))) := ⟨by rw [← hwe]; exact below_new _, hYb, by rw [← hwe, ← hYb]; exact heap_alloc_new _ _⟩
    rw [hwe, hYb]
    clear hwe hYb
    go_upto_region 14 with (go_at_call 13; refine (HNu.out _).mono ?_; rintro e wq ⟨rfl, rfl⟩)
    rcases HD.out with ⟨hz0, ν', hy, hp, hg⟩ | ⟨hz0, hN0, hy, hzz, hbig⟩
    · have hZ0 : Z = 0 := by have := HZ.out; omega
      subst hZ0
      clear hz0
      have HG : Hid (y = withN x ν' ∧ AdP D T T1 n k x ν ν' N ∧ Gon w1 wc wd D T T1 n (fun _ => False)) := ⟨hy, hp, hg⟩
      clear hy hp hg
      have hc := fun j => cell_of_row _ _ j _ _ _ HE.out.2.2
      have y0 := hc 0
      have y1 := hc 1
      have y2 := hc 2
      have y3 := hc 3
      have y4 := hc 4
      have y5 := hc 5
      have y6 := hc 6
      have y7 := hc 7
      have y8 := hc 8
      have y9 := hc 9
      have y10 := hc 10
      have y11 := hc 11
      have y12 := hc 12
      have y13 := hc 13
      have y14 := hc 14
      clear hc
      have HXr : Hid (Bq w1 wd D T1 X (.cells #[.int .i64 (x 0), .int .i64 (x 1), .int .i64 (x 2), .int .i64 (x 3), .int .i64 (x 4), .int .i64 (x 5), .int .i64 (x 6), .int .i64 (x 7), .int .i64 (x 8), .int .i64 (x 9), .int .i64 (x 10), .int .i64 (x 11), .int .i64 (x 12), .int .i64 (x 13), .int .i64 (x 14)] 35 (0, 0))) := HR3.out.1.x.gon HG.out.2.2
      have HX : Hid (Bq w1 we D T1 X (.cells #[.int .i64 (x 0), .int .i64 (x 1), .int .i64 (x 2), .int .i64 (x 3), .int .i64 (x 4), .int .i64 (x 5), .int .i64 (x 6), .int .i64 (x 7), .int .i64 (x 8), .int .i64 (x 9), .int .i64 (x 10), .int .i64 (x 11), .int .i64 (x 12), .int .i64 (x 13), .int .i64 (x 14)] 35 (0, 0))) := HXr.out.on HE.out.1
      obtain ⟨x0, x1, x2, x3, x4, x5, x6, x7, x8, x9, x10, x11, x12, x13, x14⟩ := HX.out.c15
      have f0 : we.frozen? ⟨X, 0, none⟩ = false := frozen_of_row _ _ _ _ _ HX.out.row
      have f1 : we.frozen? ⟨X, 1, none⟩ = false := frozen_of_row _ _ _ _ _ HX.out.row
      have f2 : we.frozen? ⟨X, 2, none⟩ = false := frozen_of_row _ _ _ _ _ HX.out.row
      have f3 : we.frozen? ⟨X, 3, none⟩ = false := frozen_of_row _ _ _ _ _ HX.out.row
      have f4 : we.frozen? ⟨X, 4, none⟩ = false := frozen_of_row _ _ _ _ _ HX.out.row
      have f5 : we.frozen? ⟨X, 5, none⟩ = false := frozen_of_row _ _ _ _ _ HX.out.row
      have f6 : we.frozen? ⟨X, 6, none⟩ = false := frozen_of_row _ _ _ _ _ HX.out.row
      have f7 : we.frozen? ⟨X, 7, none⟩ = false := frozen_of_row _ _ _ _ _ HX.out.row
      have f8 : we.frozen? ⟨X, 8, none⟩ = false := frozen_of_row _ _ _ _ _ HX.out.row
      have f9 : we.frozen? ⟨X, 9, none⟩ = false := frozen_of_row _ _ _ _ _ HX.out.row
      have f10 : we.frozen? ⟨X, 10, none⟩ = false := frozen_of_row _ _ _ _ _ HX.out.row
      have f11 : we.frozen? ⟨X, 11, none⟩ = false := frozen_of_row _ _ _ _ _ HX.out.row
      have f12 : we.frozen? ⟨X, 12, none⟩ = false := frozen_of_row _ _ _ _ _ HX.out.row
      have f13 : we.frozen? ⟨X, 13, none⟩ = false := frozen_of_row _ _ _ _ _ HX.out.row
      have f14 : we.frozen? ⟨X, 14, none⟩ = false := frozen_of_row _ _ _ _ _ HX.out.row
      have neX : ¬ X = Yb := by have := HXr.out.out.lt; have := HE.out.2.1; omega
      have neX2 : ¬ Yb = X := fun e => neX e.symm
      go_upto_region 16 with (go_at_call 13; refine (HNu.out _).mono ?_; rintro e wq ⟨rfl, rfl⟩)
      obtain ⟨wf, hwf⟩ : ∃ wf, (((((((((((((((we.setCell ⟨X, 0, none⟩ (.int .i64 (y 0))).setCell ⟨X, 1, none⟩ (.int .i64 (y 1))).setCell ⟨X, 2, none⟩ (.int .i64 (y 2))).setCell ⟨X, 3, none⟩ (.int .i64 (y 3))).setCell ⟨X, 4, none⟩ (.int .i64 (y 4))).setCell ⟨X, 5, none⟩ (.int .i64 (y 5))).setCell ⟨X, 6, none⟩ (.int .i64 (y 6))).setCell ⟨X, 7, none⟩ (.int .i64 (y 7))).setCell ⟨X, 8, none⟩ (.int .i64 (y 8))).setCell ⟨X, 9, none⟩ (.int .i64 (y 9))).setCell ⟨X, 10, none⟩ (.int .i64 (y 10))).setCell ⟨X, 11, none⟩ (.int .i64 (y 11))).setCell ⟨X, 12, none⟩ (.int .i64 (y 12))).setCell ⟨X, 13, none⟩ (.int .i64 (y 13))).setCell ⟨X, 14, none⟩ (.int .i64 (y 14))) = wf := ⟨_, rfl⟩
      have HF : Hid (Fr (fun k => k = X) we wf ∧ wf.heap[X]? = some (.cells #[.int .i64 (y 0), .int .i64 (y 1), .int .i64 (y 2), .int .i64 (y 3), .int .i64 (y 4), .int .i64 (y 5), .int .i64 (y 6), .int .i64 (y 7), .int .i64 (y 8), .int .i64 (y 9), .int .i64 (y 10), .int .i64 (y 11), .int .i64 (y 12), .int .i64 (y 13), .int .i64 (y 14)] 35 (0, 0))) := ⟨by rw [← hwf]; exact (Fr.s2 (Fr.s2 (Fr.s2 (Fr.s2 (Fr.s2 (Fr.s2 (Fr.s2 (Fr.s2 (Fr.s2 (Fr.s2 (Fr.s2 (Fr.s2 (Fr.s2 (Fr.s2 (Fr.s2 (Fr.refl _ _)))))))))))))))), by rw [← hwf]; exact set15 _ _ (.int .i64 (x 0)) (.int .i64 (x 1)) (.int .i64 (x 2)) (.int .i64 (x 3)) (.int .i64 (x 4)) (.int .i64 (x 5)) (.int .i64 (x 6)) (.int .i64 (x 7)) (.int .i64 (x 8)) (.int .i64 (x 9)) (.int .i64 (x 10)) (.int .i64 (x 11)) (.int .i64 (x 12)) (.int .i64 (x 13)) (.int .i64 (x 14)) (.int .i64 (y 0)) (.int .i64 (y 1)) (.int .i64 (y 2)) (.int .i64 (y 3)) (.int .i64 (y 4)) (.int .i64 (y 5)) (.int .i64 (y 6)) (.int .i64 (y 7)) (.int .i64 (y 8)) (.int .i64 (y 9)) (.int .i64 (y 10)) (.int .i64 (y 11)) (.int .i64 (y 12)) (.int .i64 (y 13)) (.int .i64 (y 14)) HX.out.row⟩
      rw [hwf]
      clear hwf x0 x1 x2 x3 x4 x5 x6 x7 x8 x9 x10 x11 x12 x13 x14 y0 y1 y2 y3 y4 y5 y6 y7 y8 y9 y10 y11 y12 y13 y14 f0 f1 f2 f3 f4 f5 f6 f7 f8 f9 f10 f11 f12 f13 f14 neX neX2
      have HNx : Hid (FuS w1 wf D T1 n s k0 (r + 1) G X tt y ν') := by
        have hp := HG.out.2.1
        rw [← HK.out] at hp
        have hm : SMv (fun k => k = X) we T1 wf T1 := ⟨HF.out.1.mono (fun _ h => .inr h), fun _ h => .inl h, fun _ h => .inl h, rfl, rfl, rfl⟩
        have h8 := HR3.out.1.fu.step hp HG.out.2.2
        rw [← HG.out.1] at h8
        have hg2 := (HR3.out.1.g.gon HG.out.2.2).on HE.out.1
        exact ⟨(HG.out.2.2.spc.on HE.out.1).frG HF.out.1 (fun k e => by subst e; exact .inr HX.out.out), h8, ⟨HF.out.1.heap hg2.row (fun e => absurd e (by have := HGX.out; omega)), hg2.out.mv hm⟩, ⟨HF.out.2, HX.out.out.mv hm⟩, HG.out.2.2.mv.t.trans HR3.out.1.t⟩
      clear HF HX HXr HG HE HR3 HD
      obtain ⟨U, hU⟩ : ∃ U, st % 18446744073709551616 = U := ⟨_, rfl⟩
      have e0 : IntKind.u64.wrap st = U := by rw [← hU]; simp [IntKind.wrap, IntKind.bits, IntKind.signed]
      have hU0 : 0 ≤ U := by omega
      obtain ⟨V, hV⟩ : ∃ V, U % 300 = V := ⟨_, rfl⟩
      have hVb : 0 ≤ V ∧ V < 300 := by omega
      have e1 : IntKind.u64.wrap V = V := by simp [IntKind.wrap, IntKind.bits, IntKind.signed]; omega
      have e2 : IntKind.i64.wrap V = V := by rw [IntKind.wrap_i64]; omega
      have e4 : U.tmod 300 = V := by rw [Int.tmod_eq_emod_of_nonneg hU0]; exact hV
      have hsV : (s : Int) = 1 + V := by rw [← HSt.out, stQ, hU, hV]; omega
      have hkb : k < 16522 := by rw [← HK.out]; omega
      obtain ⟨k2, hk2⟩ : ∃ k2, (k0 + (r + 1) * s) % 16522 = k2 := ⟨_, rfl⟩
      have hkk : (k + s) % 16522 = k2 := by rw [← hk2, ← ix_next, HK.out]
      have e5 : ((k : Int) + 1 + V).tmod 16522 = (k2 : Int) := by
        rw [Int.tmod_eq_emod_of_nonneg (by omega)]
        omega
      clear hU hV hkk hsV
      go_wp2
      go_roundw
      case rel => exact ⟨r + 1, T1, y, ν', by omega, by go_num, by rw [hk2], HNx.out⟩
      case measure => simp [intOf]; omega
    · as_aux_lemma =>
        have hf := adz_few hzz (fun b hb => (fd_bd hb).2)
        rw [HF0.out] at hf
        have hZb : (Z = 60 ∨ Z = 90) ∧ (Z = 90 → (f0 : Int) < 4) := by have := HZ.out; refine ⟨hf.1.imp (fun e => by omega) (fun e => by omega), fun e => ?_⟩; have := hf.2 (by omega); omega
        have hm : SMv (fun _ => False) wc T we T1 := (SMv.of hbig.mv).trans (SMv.on HE.out.1) (fun _ h => .inl h)
        have hs3 := (HR3.out.1.big hbig).on HE.out.1
        have HQ : Hid (FuE w1 we D T1 n s k0 r G X tt x ν a1 a2 a3 Ln Lb Lt Yb fL p1 p2 p3 y) := ⟨hs3, HR3.out.2.1.mv hm, HR3.out.2.2.1.mv hm, HR3.out.2.2.2.mv hm, ⟨HE.out.2.2, Out.of hbig.spc (by rw [HE.out.2.1]; exact Nat.le_refl _) (heap_lt HE.out.2.2)⟩⟩
        have HC : Hid (ct (fd (nD n) n (bmp D T1)) n = f0 ∧ T1.c = T.c) := ⟨by
          have ht : tv D T1 = tv D T := by funext i; unfold tv; rw [hbig.c]
          have hb : bmp D T1 = bmp D T := by unfold bmp; rw [ht]
          rw [hb]; exact HF0.out, hbig.c⟩
        have HLn : Hid (Ln ≤ 96) := by
          have := HR3.out.1.spc.ses.tx.cnt
          rw [HR3.out.1.spc.nb, HL.out.1] at this
          exact this
        have EN : ∀ wx, (binOp .neq 35 (.agg #[.int .i64 (y 0), .int .i64 (y 1), .int .i64 (y 2), .int .i64 (y 3), .int .i64 (y 4), .int .i64 (y 5), .int .i64 (y 6), .int .i64 (y 7), .int .i64 (y 8), .int .i64 (y 9), .int .i64 (y 10), .int .i64 (y 11), .int .i64 (y 12), .int .i64 (y 13), .int .i64 (y 14)]) (.agg #[.int .i64 0, .int .i64 0, .int .i64 0, .int .i64 0, .int .i64 0, .int .i64 0, .int .i64 0, .int .i64 0, .int .i64 0, .int .i64 0, .int .i64 0, .int .i64 0, .int .i64 0, .int .i64 0, .int .i64 0])).run Tryz.prog wx = .ok (.bool false) wx := fun wx => by
          have h9 := neqI wx y (fun _ => 0)
          rw [smB_iff.2 (fun i _ => by rw [hy])] at h9
          exact h9
        have hZne : ¬ Z = 0 := by rcases hZb.1 with e | e <;> omega
        have HNz : Hid (∀ wx, Calls Tryz.prog 13 #[.int .i64 Z] wx fun e' w' => e' = .returned (.int .i64 Z) ∧ wx = w') := fun wx => numQ wx Z (by rcases hZb.1 with e | e <;> omega)
        have HNf : Hid (∀ wx, Calls Tryz.prog 13 #[.int .i64 101] wx fun e' w' => e' = .returned (.int .i64 101) ∧ wx = w') := fun wx => numQ wx 101 (by omega)
        have HZb : Hid ((Z = 60 ∨ Z = 90) ∧ (Z = 90 → (f0 : Int) < 4)) := hZb
        clear hf hZb hm hs3 hz0 hN0 hy hzz hbig HD HR3 HE
        go_upto_region 17 with (go_at_call 13; refine (HNz.out _).mono ?_; rintro e wq ⟨rfl, rfl⟩)
        obtain ⟨z0, z1, z2, z3, z4⟩ := HQ.out.s.g.c5.cells
        obtain ⟨x0, x1, x2, x3, x4, x5, x6, x7, x8, x9, x10, x11, x12, x13, x14⟩ := HQ.out.s.x.c15
        have HFa : Hid (Calls Tryz.prog 12 #[.pointer (some ⟨tt, 0, none⟩), .agg #[.int .i64 (n : Int), .int .i64 98, .int .i64 (gI n), .int .i64 (gD n), .int .i64 (gC n)], .agg #[.int .i64 (x 0), .int .i64 (x 1), .int .i64 (x 2), .int .i64 (x 3), .int .i64 (x 4), .int .i64 (x 5), .int .i64 (x 6), .int .i64 (x 7), .int .i64 (x 8), .int .i64 (x 9), .int .i64 (x 10), .int .i64 (x 11), .int .i64 (x 12), .int .i64 (x 13), .int .i64 (x 14)], .int .i64 16522] we fun e w' => e = .returned (.tuple #[.agg #[.int .i64 0, .int .i64 0, .int .i64 0, .int .i64 0, .int .i64 0, .int .i64 0, .int .i64 0, .int .i64 0, .int .i64 0, .int .i64 0, .int .i64 0, .int .i64 0, .int .i64 0, .int .i64 0, .int .i64 0], .int .i64 0, .int .i64 101]) ∧ Below we.heap.size we w') := add_far we tt n x 16522 (.inr (by omega))
        go_upto_region 18 with (go_at_call 12; refine HFa.out.mono ?_; rintro e wg ⟨rfl, h1⟩; have HB : Hid (Below we.heap.size we wg) := h1; clear h1 HFa)
        obtain ⟨wh, hwh⟩ : ∃ wh, wg.alloc (.cells #[.int .i64 0, .int .i64 0, .int .i64 0, .int .i64 0, .int .i64 0, .int .i64 0, .int .i64 0, .int .i64 0, .int .i64 0, .int .i64 0, .int .i64 0, .int .i64 0, .int .i64 0, .int .i64 0, .int .i64 0] 35) = wh := ⟨_, rfl⟩
        have HQ1 : Hid (FuE w1 wh D T1 n s k0 r G X tt x ν a1 a2 a3 Ln Lb Lt Yb fL p1 p2 p3 y) := (HQ.out.on HB.out).on (by rw [← hwh]; exact below_new _)
        rw [hwh]
        clear hwh z0 z1 z2 z3 z4 x0 x1 x2 x3 x4 x5 x6 x7 x8 x9 x10 x11 x12 x13 x14 HQ HB
        obtain ⟨z0, z1, z2, z3, z4⟩ := HQ1.out.s.g.c5.cells
        obtain ⟨x0, x1, x2, x3, x4, x5, x6, x7, x8, x9, x10, x11, x12, x13, x14⟩ := HQ1.out.s.x.c15
        have HFa : Hid (Calls Tryz.prog 18 #[.pointer (some ⟨tt, 0, none⟩), .agg #[.int .i64 (n : Int), .int .i64 98, .int .i64 (gI n), .int .i64 (gD n), .int .i64 (gC n)], .agg #[.int .i64 (x 0), .int .i64 (x 1), .int .i64 (x 2), .int .i64 (x 3), .int .i64 (x 4), .int .i64 (x 5), .int .i64 (x 6), .int .i64 (x 7), .int .i64 (x 8), .int .i64 (x 9), .int .i64 (x 10), .int .i64 (x 11), .int .i64 (x 12), .int .i64 (x 13), .int .i64 (x 14)], .int .i64 (-1)] wh fun e w' => e = .returned (.tuple #[.agg #[.int .i64 0, .int .i64 0, .int .i64 0, .int .i64 0, .int .i64 0, .int .i64 0, .int .i64 0, .int .i64 0, .int .i64 0, .int .i64 0, .int .i64 0, .int .i64 0, .int .i64 0, .int .i64 0, .int .i64 0], .int .i64 101]) ∧ Below wh.heap.size wh w') := cut_far wh tt n x (-1) (.inl (by omega))
        go_upto_region 19 with (go_at_call 18; refine HFa.out.mono ?_; rintro e wi ⟨rfl, h1⟩; have HB : Hid (Below wh.heap.size wh wi) := h1; clear h1 HFa)
        obtain ⟨wj, hwj⟩ : ∃ wj, wi.alloc (.cells #[.int .i64 0, .int .i64 0, .int .i64 0, .int .i64 0, .int .i64 0, .int .i64 0, .int .i64 0, .int .i64 0, .int .i64 0, .int .i64 0, .int .i64 0, .int .i64 0, .int .i64 0, .int .i64 0, .int .i64 0] 35) = wj := ⟨_, rfl⟩
        have HQ2 : Hid (FuE w1 wj D T1 n s k0 r G X tt x ν a1 a2 a3 Ln Lb Lt Yb fL p1 p2 p3 y) := (HQ1.out.on HB.out).on (by rw [← hwj]; exact below_new _)
        rw [hwj]
        clear hwj z0 z1 z2 z3 z4 x0 x1 x2 x3 x4 x5 x6 x7 x8 x9 x10 x11 x12 x13 x14 HQ1 HB
        obtain ⟨z0, z1, z2, z3, z4⟩ := HQ2.out.s.g.c5.cells
        have HFr : Hid (Calls Tryz.prog 14 #[.pointer (some ⟨tt, 0, none⟩), .agg #[.int .i64 (n : Int), .int .i64 98, .int .i64 (gI n), .int .i64 (gD n), .int .i64 (gC n)]] wj fun e w' => e = .returned (.tuple #[.int .i64 (f0 : Int), .int .i64 0]) ∧ Below wj.heap.size wj w') := by
          have h9 := free_any w1 wj D T1 n HQ2.out.s.spc
          rw [HQ2.out.s.t, HC.out.1] at h9
          exact h9
        go_upto_region 20 with (go_at_call 14; refine HFr.out.mono ?_; rintro e wk ⟨rfl, h1⟩; have HB : Hid (Below wj.heap.size wj wk) := h1; clear h1 HFr)
        have HQ3 : Hid (FuE w1 wk D T1 n s k0 r G X tt x ν a1 a2 a3 Ln Lb Lt Yb fL p1 p2 p3 y) := HQ2.out.on HB.out
        clear z0 z1 z2 z3 z4 HQ2 HB
        obtain ⟨z0, z1, z2, z3, z4⟩ := HQ3.out.s.g.c5.cells
        obtain ⟨x0, x1, x2, x3, x4, x5, x6, x7, x8, x9, x10, x11, x12, x13, x14⟩ := HQ3.out.s.x.c15
        go_upto_region 21 with (go_at_call 17; refine (HAq.out _ T1 HQ3.out.s).mono ?_; rintro e wl ⟨a4, c4, a5, c5, rfl, h1, h2, h3⟩; have HB : Hid (PrO w1 wl D T1 a4 Lb p1 p2 ∧ NuO w1 wl D T1 a5 Lt p3 ∧ Below wk.heap.size wk wl) := ⟨h1, h2, h3⟩; clear h1 h2 h3)
        have HQ4 : Hid (FuE w1 wl D T1 n s k0 r G X tt x ν a1 a2 a3 Ln Lb Lt Yb fL p1 p2 p3 y ∧ PrO w1 wl D T1 a4 Lb p1 p2 ∧ NuO w1 wl D T1 a5 Lt p3) := ⟨HQ3.out.on HB.out.2.2, HB.out.1, HB.out.2.1⟩
        clear z0 z1 z2 z3 z4 x0 x1 x2 x3 x4 x5 x6 x7 x8 x9 x10 x11 x12 x13 x14 HQ3 HB
        have HWq : Hid (Calls Tryz.prog 16 #[.pointer (some ⟨tt, 0, none⟩)] wl fun e w' => ∃ a c, e = .returned (.slice a Ln c) ∧ NuO w1 w' D T1 a Ln fL ∧ Below wl.heap.size wl w') := by
          have h9 := writtenQ w1 wl D T1 n HQ4.out.1.s.spc
          rw [HQ4.out.1.s.t, HC.out.2, HL.out.1, HL.out.2] at h9
          exact h9
        have HLm : Hid (Lb ≤ 100000 ∧ Lt ≤ 100000) := HLb
        obtain ⟨x0, x1, x2, x3, x4, x5, x6, x7, x8, x9, x10, x11, x12, x13, x14⟩ := HQ4.out.1.yb.c15
        rcases HZb.out.1 with rfl | rfl
        · go_upto_region 23 with (go_at_call 13; first | (refine (HNz.out _).mono ?_; rintro e wq ⟨rfl, rfl⟩) | (refine (HNf.out _).mono ?_; rintro e wq ⟨rfl, rfl⟩))
          clear x0 x1 x2 x3 x4 x5 x6 x7 x8 x9 x10 x11 x12 x13 x14 EN
          go_wp2_with (first
            | (go_at_call 13; first | (refine (HNu.out _).mono ?_; rintro e wq ⟨rfl, rfl⟩) | (refine (HNz.out _).mono ?_; rintro e wq ⟨rfl, rfl⟩))
            | (go_at_call 16; refine HWq.out.mono ?_; rintro e wm ⟨a6, c6, rfl, h1, h2⟩; have HY1 : Hid (NuO w1 wm D T1 a6 Ln fL ∧ Below wl.heap.size wl wm) := ⟨h1, h2⟩; clear h1 h2 HWq)
            | (go_at_call 19; have hh := HY1.out; clear hh; refine (sameQ _ _ _ Ln _ _ fL HY1.out.1.num (HQ4.out.1.l1.num.on HY1.out.2) (by have := HLn.out; omega)).mono ?_; rintro e wn ⟨rfl, h1⟩; have HY2 : Hid (Below wl.heap.size wl wn) := HY1.out.2.trans (h1.mono HY1.out.2.size); clear h1 HY1)
            | (go_at_call 20; refine (samePQ _ _ _ Lb _ _ p1 p2 (HQ4.out.1.l2.prs.on HY2.out) (HQ4.out.2.1.prs.on HY2.out) HLm.out.1).mono ?_; rintro e wo ⟨rfl, h1⟩; have HY4 : Hid (Below wl.heap.size wl wo) := HY2.out.trans (h1.mono HY2.out.size); clear h1)
            | (go_at_call 19; refine (sameQ _ _ _ Lt _ _ p3 (HQ4.out.1.l3.num.on HY4.out) (HQ4.out.2.2.num.on HY4.out) HLm.out.2).mono ?_; rintro e wp ⟨rfl, h1⟩; have HY3 : Hid (Below wl.heap.size wl wp) := HY4.out.trans (h1.mono HY4.out.size); clear h1))
          go_ret
          exact ⟨rfl, H1.out.trans ((HQ4.out.1.s.spc.ses.bel.trans (HY3.out.mono HQ4.out.1.s.spc.ses.bel.size)).mono H1.out.size)⟩
        · have hf4 : (f0 : Int) < 4 := HZb.out.2 rfl
          go_upto_region 23 with (go_at_call 13; first | (refine (HNz.out _).mono ?_; rintro e wq ⟨rfl, rfl⟩) | (refine (HNf.out _).mono ?_; rintro e wq ⟨rfl, rfl⟩))
          clear x0 x1 x2 x3 x4 x5 x6 x7 x8 x9 x10 x11 x12 x13 x14 EN
          go_wp2_with (first
            | (go_at_call 13; first | (refine (HNu.out _).mono ?_; rintro e wq ⟨rfl, rfl⟩) | (refine (HNz.out _).mono ?_; rintro e wq ⟨rfl, rfl⟩))
            | (go_at_call 16; refine HWq.out.mono ?_; rintro e wm ⟨a6, c6, rfl, h1, h2⟩; have HY1 : Hid (NuO w1 wm D T1 a6 Ln fL ∧ Below wl.heap.size wl wm) := ⟨h1, h2⟩; clear h1 h2 HWq)
            | (go_at_call 19; have hh := HY1.out; clear hh; refine (sameQ _ _ _ Ln _ _ fL HY1.out.1.num (HQ4.out.1.l1.num.on HY1.out.2) (by have := HLn.out; omega)).mono ?_; rintro e wn ⟨rfl, h1⟩; have HY2 : Hid (Below wl.heap.size wl wn) := HY1.out.2.trans (h1.mono HY1.out.2.size); clear h1 HY1)
            | (go_at_call 20; refine (samePQ _ _ _ Lb _ _ p1 p2 (HQ4.out.1.l2.prs.on HY2.out) (HQ4.out.2.1.prs.on HY2.out) HLm.out.1).mono ?_; rintro e wo ⟨rfl, h1⟩; have HY4 : Hid (Below wl.heap.size wl wo) := HY2.out.trans (h1.mono HY2.out.size); clear h1)
            | (go_at_call 19; refine (sameQ _ _ _ Lt _ _ p3 (HQ4.out.1.l3.num.on HY4.out) (HQ4.out.2.2.num.on HY4.out) HLm.out.2).mono ?_; rintro e wp ⟨rfl, h1⟩; have HY3 : Hid (Below wl.heap.size wl wp) := HY4.out.trans (h1.mono HY4.out.size); clear h1))
          go_ret
          exact ⟨rfl, H1.out.trans ((HQ4.out.1.s.spc.ses.bel.trans (HY3.out.mono HQ4.out.1.s.spc.ses.bel.size)).mono H1.out.size)⟩
end Go.Proofs.YtjmdjagfekloaaaGreatDoor
