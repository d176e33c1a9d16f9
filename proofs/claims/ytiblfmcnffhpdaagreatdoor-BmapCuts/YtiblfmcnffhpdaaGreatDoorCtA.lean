import Derived.Test.YtiblfmcnffhpdaaGreatDoorKGrA
import Derived.Test.YtiblfmcnffhpdaaGreatDoorCtM
namespace Go.Proofs.YtiblfmcnffhpdaaGreatDoor
open Go.RowKit Go.Maps Rec
structure CsB (w1 w : World) (D : Dk) (T : Tx) (n G X H tt : Nat) (x : Nat → Int) (ν : Nat → Nat) : Prop where
  spc : Spc w1 w D T n
  g : Bq w1 w D T G (.cells #[.int .i64 (n : Int), .int .i64 98, .int .i64 (gI n), .int .i64 (gD n), .int .i64 (gC n)] 29 (0, 0))
  x : Bq w1 w D T X (.cells #[.int .i64 (x 0), .int .i64 (x 1), .int .i64 (x 2), .int .i64 (x 3), .int .i64 (x 4), .int .i64 (x 5), .int .i64 (x 6), .int .i64 (x 7), .int .i64 (x 8), .int .i64 (x 9), .int .i64 (x 10), .int .i64 (x 11), .int .i64 (x 12), .int .i64 (x 13), .int .i64 (x 14)] 35 (0, 0))
  h : HasM w H ν
  ho : Out w1 w D T H
  t : T.t = tt
  gx : G < X ∧ X < H
theorem CsB.mv {w1 w w' : World} {D : Dk} {T T' : Tx} {n G X H tt : Nat} {x : Nat → Int} {ν : Nat → Nat} (h : CsB w1 w D T n G X H tt x ν) (s : Spc w1 w' D T' n) (m : SMv (fun _ => False) w T w' T') : CsB w1 w' D T' n G X H tt x ν :=
  ⟨s, h.g.mv m, h.x.mv m, h.h.mv h.ho m, h.ho.mv m, m.t.trans h.t, h.gx⟩
theorem CsB.on {w1 w w' : World} {D : Dk} {T : Tx} {n G X H tt : Nat} {x : Nat → Int} {ν : Nat → Nat} (h : CsB w1 w D T n G X H tt x ν) (hb : Below w.heap.size w w') : CsB w1 w' D T n G X H tt x ν := h.mv (h.spc.on hb) (SMv.on hb)
theorem CsB.gon {w1 w w' : World} {D : Dk} {T T' : Tx} {n G X H tt : Nat} {x : Nat → Int} {ν : Nat → Nat} (h : CsB w1 w D T n G X H tt x ν) (g : Gon w1 w w' D T T' n (fun _ => False)) : CsB w1 w' D T' n G X H tt x ν := h.mv g.spc g.mv
theorem CsB.big {w1 w w' : World} {D : Dk} {T T' : Tx} {n G X H tt : Nat} {x : Nat → Int} {ν : Nat → Nat} (h : CsB w1 w D T n G X H tt x ν) (b : BigE w1 w w' D T T' n) : CsB w1 w' D T' n G X H tt x ν := h.mv b.spc (SMv.of b.mv)
theorem wd_same {D : Dk} {T T' : Tx} {n : Nat} {x : Nat → Int} {ν : Nat → Nat} (hc : T'.c = T.c) (h : Wd D T n x ν) : Wd D T' n x ν := by
  have ht : tv D T' = tv D T := by funext i; unfold tv; rw [hc]
  have hb : bmp D T' = bmp D T := by unfold bmp; rw [ht]
  refine ⟨?_, ?_⟩
  · have := h.tre; unfold nmT at this ⊢; rw [ht]; exact this
  · rw [hb]; exact h.own
structure CtS (w1 w : World) (D : Dk) (T : Tx) (n r G X H tt : Nat) (x : Nat → Int) (ν : Nat → Nat) : Prop where
  b : CsB w1 w D T n G X H tt x ν
  wd : Wd D T n x ν
  shp : Shp ν
  us : T.us.length ≤ 9 * r
  inn : ∀ p, ν p ≠ 0 → (T.c (ν p)).isSome = true ∧ (T.c (98 + ν p / 4096)).isSome = true
theorem CtS.on {w1 w w' : World} {D : Dk} {T : Tx} {n r G X H tt : Nat} {x : Nat → Int} {ν : Nat → Nat} (h : CtS w1 w D T n r G X H tt x ν) (hb : Below w.heap.size w w') : CtS w1 w' D T n r G X H tt x ν := ⟨h.b.on hb, h.wd, h.shp, h.us, h.inn⟩
theorem CtS.big {w1 w w' : World} {D : Dk} {T T' : Tx} {n r G X H tt : Nat} {x : Nat → Int} {ν : Nat → Nat} (h : CtS w1 w D T n r G X H tt x ν) (b : BigE w1 w w' D T T' n) : CtS w1 w' D T' n r G X H tt x ν := ⟨h.b.big b, wd_same b.c h.wd, h.shp, by rw [b.us]; exact h.us, by rw [b.c]; exact h.inn⟩
def AdC (w0 w w' : World) (D : Dk) (T T' : Tx) (n k : Nat) (x : Nat → Int) (ν : Nat → Nat) (y : Nat → Int) (N z : Nat) : Prop :=
  (z = 0 ∧ ∃ ν', y = withN x ν' ∧ AdP D T T' n k x ν ν' N ∧ Gon w0 w w' D T T' n (fun _ => False)) ∨ (z ≠ 0 ∧ N = 0 ∧ y = (fun _ => 0) ∧ AdZ T n k ν (fd (nD n) n (bmp D T)) z ∧ BigE w0 w w' D T T' n)
theorem fd0C (lo n : Nat) (hl : 0 < lo) (B : Nat → List Int) : fd lo n B 0 = false := by unfold fd; rw [decide_eq_false (by omega)]; rfl
def CuR (w1 w w' : World) (D : Dk) (T T' : Tx) (n k : Nat) (x : Nat → Int) (ν : Nat → Nat) (y : Nat → Int) (z : Nat) : Prop :=
  (z = 0 ∧ y = withN x (cvP ν k) ∧ CtP D T T' n x ν k ∧ Gon w1 w w' D T T' n (fun _ => False) ∧ ∃ m, Ext T T' m) ∨ (z = 60 ∧ y = (fun _ => 0) ∧ NotIn T n ν ∧ BigE w1 w w' D T T' n)
theorem cutC (w1 w : World) (D : Dk) (T : Tx) (n : Nat) (h : Spc w1 w D T n) (hT : TabAt w1) (hn : 128 ≤ n ∧ n ≤ 4427) (x : Nat → Int) (ν : Nat → Nat) (hw : Wd D T n x ν) (k : Nat) (hk : k < 16522) (hu : T.us.length ≤ 100000) (tt : Nat) (ht : T.t = tt) :
    Calls Tryz.prog 18 #[.pointer (some ⟨tt, 0, none⟩), .agg #[.int .i64 (n : Int), .int .i64 98, .int .i64 (gI n), .int .i64 (gD n), .int .i64 (gC n)], .agg #[.int .i64 (x 0), .int .i64 (x 1), .int .i64 (x 2), .int .i64 (x 3), .int .i64 (x 4), .int .i64 (x 5), .int .i64 (x 6), .int .i64 (x 7), .int .i64 (x 8), .int .i64 (x 9), .int .i64 (x 10), .int .i64 (x 11), .int .i64 (x 12), .int .i64 (x 13), .int .i64 (x 14)], .int .i64 (k : Int)] w fun e w' => ∃ (z : Nat) (y : Nat → Int) (T' : Tx), e = .returned (.tuple #[.agg #[.int .i64 (y 0), .int .i64 (y 1), .int .i64 (y 2), .int .i64 (y 3), .int .i64 (y 4), .int .i64 (y 5), .int .i64 (y 6), .int .i64 (y 7), .int .i64 (y 8), .int .i64 (y 9), .int .i64 (y 10), .int .i64 (y 11), .int .i64 (y 12), .int .i64 (y 13), .int .i64 (y 14)], .int .i64 (z : Int)]) ∧ CuR w1 w w' D T T' n k x ν y z := by
  have h9 := cut_any w1 w D T n h x ν k (by omega) ⟨hw, hn.1, Nat.le_trans hn.2 (by omega), hT, by omega, by omega⟩
  rw [ht] at h9
  refine h9.mono ?_
  rintro e w' ⟨z, y, T', rfl, ⟨h1, h2, h3, h4, h5⟩ | ⟨h1, h2, h3, h4⟩⟩
  · exact ⟨z, y, T', rfl, .inl ⟨h1, h2, h3, h4, h5⟩⟩
  · exact ⟨z, y, T', rfl, .inr ⟨h1, h2, h3, h4⟩⟩
theorem not_notIn {T T1 : Tx} {n k : Nat} {ν : Nat → Nat} (hin : ∀ p, ν p ≠ 0 → (T.c (ν p)).isSome = true ∧ (T.c (98 + ν p / 4096)).isSome = true) (hd : Dom T T1) : ¬ NotIn T1 n (cvP ν k) := by
  rintro ⟨p, hp, e⟩
  rcases cv_or ν k p with e2 | e2
  · exact hp e2
  · rw [e2] at hp e
    obtain ⟨h1, h2⟩ := hin p hp
    have h3 := hd _ h1
    have h4 := hd _ h2
    rcases e with e | e
    · rw [e] at h4; cases h4
    · rw [e] at h3; cases h3
theorem byte_ext {x y : Int} (hx : 0 ≤ x ∧ x < 256) (hy : 0 ≤ y ∧ y < 256) (h : ∀ b, b < 8 → x / 2 ^ b % 2 = y / 2 ^ b % 2) : x = y := by
  have h0 := h 0 (by omega)
  have h1 := h 1 (by omega)
  have h2 := h 2 (by omega)
  have h3 := h 3 (by omega)
  have h4 := h 4 (by omega)
  have h5 := h 5 (by omega)
  have h6 := h 6 (by omega)
  have h7 := h 7 (by omega)
  simp only [Int.pow_succ, Int.pow_zero, Int.one_mul] at h0 h1 h2 h3 h4 h5 h6 h7
  omega
theorem bits_ext {l m : List Int} (hl : l.length = 512) (hm : m.length = 512) (wl : ∀ i, 0 ≤ nth l i ∧ nth l i < 256) (wm : ∀ i, 0 ≤ nth m i ∧ nth m i < 256) (h : ∀ j, j < 4096 → bt l j = bt m j) : l = m := by
  apply List.ext_getElem (by omega)
  intro i h1 h2
  have e := byte_ext (wl i) (wm i) (fun b hb => by
    have h3 := h (8 * i + b) (by omega)
    have e1 : ∀ l : List Int, bn l (8 * i + b) = nth l i / 2 ^ b % 2 := fun l => by
      unfold bn
      rw [show (8 * i + b) / 8 = i by omega, show (8 * i + b) % 8 = b by omega]
    rw [← e1, ← e1]
    rcases bn_or l (8 * i + b) with a | a <;> rcases bn_or m (8 * i + b) with c | c
    · rw [a, c]
    · simp [bt, a, c] at h3
    · simp [bt, a, c] at h3
    · rw [a, c])
  have a1 : nth l i = l[i] := by simp [nth, List.getD, h1]
  have a2 : nth m i = m[i] := by simp [nth, List.getD, h2]
  rw [← a1, ← a2]; exact e
theorem cut_fd2 {D : Dk} {T T1 T2 T3 T4 : Tx} {n lo hi : Nat} {x x3 : Nat → Int} {ν : Nat → Nat} (h1 : CtP D T T1 n x ν lo) (hT : T2.c = T.c) (h3 : CtP D T2 T3 n x ν hi) (h4 : CtP D T3 T4 n x3 (cvP ν hi) lo) (hle : lo ≤ hi) (b : Nat) : fd (nD n) n (bmp D T4) b = fd (nD n) n (bmp D T1) b := by
  have hb : bmp D T2 = bmp D T := by unfold bmp; funext k; unfold tv; rw [hT]
  have key : fd (nD n) n (bmp D T4) b = true ↔ fd (nD n) n (bmp D T1) b = true := by
    rw [h4.fdT, h3.fdT, h1.fdT, hb]
    constructor
    · rintro ((h | ⟨p, p1, p2⟩) | ⟨p, p1, p2⟩)
      · exact .inl h
      · exact .inr ⟨p, (gone_two hle).2 (.inl p1), p2⟩
      · refine .inr ⟨p, (gone_two hle).2 (.inr p1), ?_⟩
        rcases cv_or ν hi p with e | e
        · exact absurd e (gone_nz p1)
        · rw [← e]; exact p2
    · rintro (h | ⟨p, p1, p2⟩)
      · exact .inl (.inl h)
      · rcases (gone_two hle).1 p1 with e | e
        · exact .inl (.inr ⟨p, e, p2⟩)
        · refine .inr ⟨p, e, ?_⟩
          rcases cv_or ν hi p with e2 | e2
          · exact absurd e2 (gone_nz e)
          · rw [e2]; exact p2
  cases e : fd (nD n) n (bmp D T1) b
  · cases e2 : fd (nD n) n (bmp D T4) b
    · rfl
    · rw [key.1 e2] at e; cases e
  · exact key.2 e
theorem cut_bmp {D : Dk} {T T1 T2 T3 T4 : Tx} {n lo hi : Nat} {x x3 : Nat → Int} {ν : Nat → Nat} (h1 : CtP D T T1 n x ν lo) (hT : T2.c = T.c) (h3 : CtP D T2 T3 n x ν hi) (h4 : CtP D T3 T4 n x3 (cvP ν hi) lo) (hle : lo ≤ hi) (m : Nat) (hm : m < nM n) : bmp D T4 m = bmp D T1 m := by
  have hb : bmp D T2 = bmp D T := by unfold bmp; funext k; unfold tv; rw [hT]
  refine bits_ext (h4.bm.len m hm) (h1.bm.len m hm) (h4.bm.wf m hm) (h1.bm.wf m hm) (fun j hj => ?_)
  have e1 : ∀ B : Nat → List Int, isT B (4096 * m + j) = bt (B m) j := fun B => isT_at B m j hj
  rw [← e1, ← e1]
  have hm2 : (4096 * m + j) / 4096 < nM n := by rw [show (4096 * m + j) / 4096 = m by omega]; exact hm
  by_cases hd : nD n ≤ 4096 * m + j ∧ 4096 * m + j < n
  · have := cut_fd2 h1 hT h3 h4 hle (4096 * m + j)
    unfold fd at this
    rw [decide_eq_true hd] at this
    cases e : isT (bmp D T4) (4096 * m + j) <;> cases e2 : isT (bmp D T1) (4096 * m + j) <;> rw [e, e2] at this <;> first | rfl | (simp at this)
  · rw [h4.bitO _ hm2 hd, h3.bitO _ hm2 hd, h1.bitO _ hm2 hd, hb]
theorem cut_used {D : Dk} {T T1 T2 T3 T4 : Tx} {n lo hi : Nat} {x x3 : Nat → Int} {ν : Nat → Nat} (hw : Wd D T n x ν) (h1 : CtP D T T1 n x ν lo) (hT : T2.c = T.c) (h3 : CtP D T2 T3 n x ν hi) (h4 : CtP D T3 T4 n x3 (cvP ν hi) lo) (hle : lo ≤ hi) {k : Nat} (hk : k < 16522) (h0 : ν (ixP k) ≠ 0) : isT (bmp D T4) (ν (ixP k)) = decide (k < lo) := by
  have hg := hw.own.good _ h0
  have e1 := cut_fd2 h1 hT h3 h4 hle (ν (ixP k))
  have e2 : fd (nD n) n (bmp D T1) (ν (ixP k)) = true ↔ lo ≤ k := by
    rw [h1.fdT, hg.2.2]
    constructor
    · rintro (h | ⟨p, p1, p2⟩)
      · cases h
      · have := hw.own.inj p _ (gone_nz p1) p2
        subst this
        have h5 := mt (cv_ix (k := lo) hk).2 (fun e => e (by rw [(gone_iff.1 p1).2]))
        by_cases e : lo ≤ k
        · exact e
        · exact absurd ⟨h0, by omega⟩ h5
    · intro e
      refine .inr ⟨ixP k, gone_iff.2 ⟨h0, ?_⟩, rfl⟩
      by_cases e3 : cvP ν lo (ixP k) = 0
      · exact e3
      · have := ((cv_ix (k := lo) hk).1 e3).2; omega
  rw [e1.symm] at e2
  unfold fd at e2
  rw [decide_eq_true ⟨hg.1, hg.2.1⟩] at e2
  simp only [Bool.true_and, Bool.not_eq_true'] at e2
  by_cases e : k < lo
  · rw [decide_eq_true e]
    cases e3 : isT (bmp D T4) (ν (ixP k))
    · have := e2.1 e3; omega
    · rfl
  · rw [decide_eq_false e]
    exact e2.2 (by omega)
def wrN (c : Cm) (n : Nat) (i : Nat) : Int := ((lst c n).map Bk.n).getD i 0
theorem lst_dom {c c' : Cm} {n : Nat} (h : COk c n) (h' : COk c' n) (hd : ∀ j, (c' j).isSome = (c j).isSome) : (lst c' n).map Bk.n = (lst c n).map Bk.n := by
  unfold lst
  rw [List.map_filterMap, List.map_filterMap]
  congr 1
  funext j
  have := hd j
  cases e : c j with
  | none => rw [e] at this; cases e' : c' j with
    | none => rfl
    | some q => rw [e'] at this; cases this
  | some q => rw [e] at this; cases e' : c' j with
    | none => rw [e'] at this; cases this
    | some q' => simp [h.num j q e, h'.num j q' e']
theorem wr_at {c : Cm} {n r : Nat} (h : COk c n) (hr : r < (lst c n).length) : ∃ i : Nat, 98 ≤ i ∧ i < n ∧ wrN c n r = (i : Int) := by
  obtain ⟨i, hi, e⟩ := lst_mem (List.getElem_mem hr)
  refine ⟨i, h.lo i _ e, hi, ?_⟩
  unfold wrN
  rw [List.getD_eq_getElem?_getD, List.getElem?_map, List.getElem?_eq_getElem hr]
  exact h.num i _ e
def LfI (ks ks' : List (Int × Int)) (left : Lit → Bool) (c : Int) : Prop := ∀ z v, (z, v) ∈ ks' ↔ (z, v) ∈ ks ∧ z < c ∧ left (kI z) = false
theorem LfI.skip {ks ks' : List (Int × Int)} {left : Lit → Bool} {c z : Int} (h : LfI ks ks' left c) (hz : ¬ z < c) : LfI ks ks' (fun y => left y && !y.sameKey (kI z)) c := fun y v => by
  rw [h y v]
  by_cases e : y = z
  · subst e; exact ⟨fun a => absurd a.2.1 hz, fun a => absurd a.2.1 hz⟩
  · have e2 := sameKey_ne (kI_ne e)
    simp [e2]
theorem LfI.put {ks ks' ks2 : List (Int × Int)} {left : Lit → Bool} {c z u : Int} (h : LfI ks ks' left c) (hz : z < c) (hu : ∀ v, (z, v) ∈ ks ↔ v = u) (h2 : ∀ t y, (t, y) ∈ ks2 ↔ (t = z ∧ y = u) ∨ (t ≠ z ∧ (t, y) ∈ ks')) : LfI ks ks2 (fun y => left y && !y.sameKey (kI z)) c := fun y v => by
  rw [h2 y v]
  by_cases e : y = z
  · subst e
    simp [WideAt.sameKey_self (isK y), hz, hu v]
  · have e2 := sameKey_ne (kI_ne e)
    simp only [e, false_and, false_or, ne_eq, not_false_eq_true, true_and]
    rw [h y v]
    simp [e2]
theorem HasM.left {w : World} {b k : Nat} {ν : Nat → Nat} {ks ks' : List (Int × Int)} (h : ∀ z v, (z, v) ∈ ks ↔ ∃ k : Nat, k < 16522 ∧ ν (ixP k) ≠ 0 ∧ z = (k : Int) ∧ v = (ν (ixP k) : Int)) (hm : MpAt w b ks') {left : Lit → Bool} (hd : LfI ks ks' left (k : Int)) (hl : ∀ y, left y = false) : HasM w b (cvP ν k) :=
  HasM.cut h hm (left := fun _ => false) (fun z v => by rw [hd z v]; simp [hl]) (fun _ => rfl)
end Go.Proofs.YtiblfmcnffhpdaaGreatDoor
