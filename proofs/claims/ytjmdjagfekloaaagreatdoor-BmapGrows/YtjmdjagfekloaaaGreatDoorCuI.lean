import Derived.Test.YtjmdjagfekloaaaGreatDoorCuH
namespace Go.Proofs.YtjmdjagfekloaaaGreatDoor
open Go.RowKit Go.Maps Rec

def CtA (D : Dk) (T : Tx) (n k g0 cap0 : Nat) (ν : Nat → Nat) (z : Nat) (T' : Tx) (w' : World) : Prop :=
  (z = 0 ∧ Cq D T T' n ν k (fun q => q < 16652) 16652 ∧ OwnI w' g0 cap0 (ownN (cvP ν k))) ∨ (z = 60 ∧ NotIn T n ν)
set_option maxRecDepth 100000 in
set_option maxHeartbeats 4000000 in
theorem cut1_any (w0 w : World) (D : Dk) (T : Tx) (n : Nat) (h : Spc w0 w D T n) (x : Nat → Int) (ν : Nat → Nat) (k : Nat) (hk : Ck w0 D T n x ν k) (g0 cap0 : Nat) (ho : OwnI w g0 cap0 (ownN ν)) (hO : Out w0 w D T g0) (Tb Gb Rb Kb : Nat) (ht : w.cell? ⟨Tb, 0, none⟩ = some (.pointer (some ⟨T.t, 0, none⟩))) (hg : GeoAt w Gb n) (hr : w.heap[Rb]? = some (.cells #[.int .i64 0, .slice (some ⟨g0, 0, none⟩) 12 cap0] 91 (0, 0))) (hkc : w.cell? ⟨Kb, 0, none⟩ = some (.int .i64 (k : Int))) :
    Calls Tryz.prog 55 #[.pointer (some ⟨Tb, 0, none⟩), .pointer (some ⟨Gb, 0, none⟩), .pointer (some ⟨Rb, 0, none⟩), .pointer (some ⟨Kb, 0, none⟩)] w fun e w' => ∃ (z : Nat) (T' : Tx), e = .returned (.int .i64 (z : Int)) ∧ Gon w0 w w' D T T' n (fun i => i = g0) ∧ (∃ m, Ext T T' m) ∧ CtA D T n k g0 cap0 ν z T' w' := by
  obtain ⟨tt, htt⟩ : ∃ tt, T.t = tt := ⟨_, rfl⟩
  have HC := cutOwn w0 w D T n x ν k tt 0 g0 cap0 hk h htt ho hO
  unfold geoV at HC
  have HCu : Hid (Calls Tryz.prog 56 #[.pointer (some ⟨tt, 0, none⟩), .agg #[.int .i64 (n : Int), .int .i64 98, .int .i64 (gI n), .int .i64 (gD n), .int .i64 (gC n)], .agg #[.int .i64 0, .slice (some ⟨g0, 0, none⟩) 12 cap0], .func (.func 54) #[] #[], .int .i64 (k : Int)] w fun e w' => ∃ (b : Bool) (z : Nat) (T' : Tx), e = .returned (.tuple #[.bool b, .int .i64 (z : Int)]) ∧ Gon w0 w w' D T T' n (fun i => i = g0) ∧ (∃ m, Ext T T' m) ∧ CtA D T n k g0 cap0 ν z T' w') := HC
  obtain ⟨z0, z1, z2, z3, z4⟩ := hg.cells
  have r0 : w.cell? ⟨Rb, 0, none⟩ = some (.int .i64 0) := by rw [cell_of_row _ _ _ _ _ _ hr]; rfl
  have r1 : w.cell? ⟨Rb, 1, none⟩ = some (.slice (some ⟨g0, 0, none⟩) 12 cap0) := by rw [cell_of_row _ _ _ _ _ _ hr]; rfl
  rw [htt] at ht
  clear HC h hk ho hO hg hr htt
  go_enter Tryz.func55, Tryz.ntmps55
  go_wp2_with (go_at_call 56; refine HCu.out.mono ?_; rintro e w1 ⟨b, z, T1, rfl, h1, h2, h3⟩; have H1 : Hid (Gon w0 w w1 D T T1 n (fun i => i = g0) ∧ (∃ m, Ext T T1 m) ∧ CtA D T n k g0 cap0 ν z T1 w1) := ⟨h1, h2, h3⟩; clear h1 h2 h3 HCu)
  go_ret
  exact ⟨z, T1, rfl, H1.out⟩
/-- what a cut leaves of the transaction -/
structure CtP (D : Dk) (T T' : Tx) (n : Nat) (x : Nat → Int) (ν : Nat → Nat) (k : Nat) : Prop where
  wd : Wd D T' n (withN x (cvP ν k)) (cvP ν k)
  fdT : ∀ b, fd (nD n) n (bmp D T') b = true ↔ (fd (nD n) n (bmp D T) b = true ∨ ∃ p, gone ν k p = true ∧ ν p = b)
  tvO : ∀ b, ¬ (98 ≤ b ∧ b < 98 + nM n) → (∀ p, cvP ν k p ≠ b) → tv D T' b = tv D T b
  dom : Dom T T'
  us : T'.us.length ≤ T.us.length + 16652
theorem gone_lt {V : Nat → Nat → Int} {x : Nat → Int} {ν : Nat → Nat} (h : Tre V x ν) {p : Nat} (hp : ν p ≠ 0) : p < 16652 := by
  by_cases e : p < 16652
  · exact e
  · exact absurd (h.out p (by omega)) hp
theorem ctP {w0 : World} {D : Dk} {T T' : Tx} {n : Nat} {x : Nat → Int} {ν : Nat → Nat} {k : Nat} (hk : Ck w0 D T n x ν k) (c : Cq D T T' n ν k (fun q => q < 16652) 16652) : CtP D T T' n x ν k := by
  have hN := nM_bd hk.lo hk.hi
  have hfd : ∀ b, fd (nD n) n (bmp D T') b = true ↔ (fd (nD n) n (bmp D T) b = true ∨ ∃ p, gone ν k p = true ∧ ν p = b) := fun b => (c.fdT b).trans ⟨fun e => e.imp id (fun ⟨p, _, e1, e2⟩ => ⟨p, e1, e2⟩), fun e => e.imp id (fun ⟨p, e1, e2⟩ => ⟨p, gone_lt hk.wd.tre (gone_nz e1), e1, e2⟩)⟩
  refine ⟨⟨cut_tre hk.wd.tre (fun p hp => withN_own _ _ _ hp) (fun p hp hg hm => ?_) (fun p hm i hi => ?_), cut_own hk.wd.own (fun p hp hg => ?_)⟩, hfd, fun b hb hc => ?_, c.dom, c.us⟩
  · have hd := hk.wd.own.good p hp
    funext a
    show nm (tv D T' (ν p)) a = nm (tv D T (ν p)) a
    rw [c.tvN (ν p) (by omega) (fun q hq hm2 e => hm (by rw [← hk.wd.own.inj q p hm2.2.1 e]; exact hm2))]
  · exact c.tvS p (gone_lt hk.wd.tre hm.2.1) hm i hi
  · cases e : fd (nD n) n (bmp D T') (ν p)
    · rfl
    · rcases (hfd _).1 e with e | ⟨q, e1, e2⟩
      · rw [(hk.wd.own.good p hp).2.2] at e; cases e
      · have := hk.wd.own.inj q p (gone_nz e1) e2
        subst this
        rw [hg] at e1
        cases e1
  · refine c.tvN b hb (fun p hp hm e => hc p ?_)
    unfold cvP
    rw [hm.2.2.1]
    exact e
set_option maxRecDepth 100000 in
set_option maxHeartbeats 4000000 in
theorem cut_far (w : World) (tt n : Nat) (x : Nat → Int) (k : Int) (hk : k < 0 ∨ 16522 < k) :
    Calls Tryz.prog 18 #[.pointer (some ⟨tt, 0, none⟩), geoV n, inV x, .int .i64 k] w fun e w' => e = .returned (.tuple #[inV (fun _ => 0), .int .i64 101]) ∧ Below w.heap.size w w' := by
  have hA := ab_new w tt n x k
  obtain ⟨wz, hwz⟩ : ∃ wz, ((((w.alloc (.cells #[.pointer (some ⟨tt, 0, none⟩)] 26)).alloc (.cells #[.int .i64 (n : Int), .int .i64 98, .int .i64 (gI n), .int .i64 (gD n), .int .i64 (gC n)] 29)).alloc (.cells #[.int .i64 (x 0), .int .i64 (x 1), .int .i64 (x 2), .int .i64 (x 3), .int .i64 (x 4), .int .i64 (x 5), .int .i64 (x 6), .int .i64 (x 7), .int .i64 (x 8), .int .i64 (x 9), .int .i64 (x 10), .int .i64 (x 11), .int .i64 (x 12), .int .i64 (x 13), .int .i64 (x 14)] 35)).alloc (.cells #[.int .i64 k] 3)).alloc (.cells #[.int .i64 0, .int .i64 0, .int .i64 0, .int .i64 0, .int .i64 0, .int .i64 0, .int .i64 0, .int .i64 0, .int .i64 0, .int .i64 0, .int .i64 0, .int .i64 0, .int .i64 0, .int .i64 0, .int .i64 0] 35) = wz := ⟨_, rfl⟩
  rw [hwz] at hA
  have HA : Hid (Below w.heap.size w wz ∧ Ab wz w.heap.size tt n x k) := ⟨hA.1, hA.2.1⟩
  clear hA
  have k0 : wz.cell? ⟨w.heap.size + 1 + 1 + 1, 0, none⟩ = some (.int .i64 k) := by rw [cell_of_row _ _ _ _ _ _ HA.out.2.k]; rfl
  obtain ⟨P, hP⟩ : ∃ P, w.heap.size = P := ⟨_, rfl⟩
  have HP : Hid (w.heap.size = P) := hP
  rw [hP] at k0
  have hrs : wz.heap[P + 1 + 1 + 1 + 1]? = some (.cells #[.int .i64 0, .int .i64 0, .int .i64 0, .int .i64 0, .int .i64 0, .int .i64 0, .int .i64 0, .int .i64 0, .int .i64 0, .int .i64 0, .int .i64 0, .int .i64 0, .int .i64 0, .int .i64 0, .int .i64 0] 35 (0, 0)) := by rw [← hP]; exact HA.out.2.r
  have HRs : Hid (wz.heap[P + 1 + 1 + 1 + 1]? = some (.cells #[.int .i64 0, .int .i64 0, .int .i64 0, .int .i64 0, .int .i64 0, .int .i64 0, .int .i64 0, .int .i64 0, .int .i64 0, .int .i64 0, .int .i64 0, .int .i64 0, .int .i64 0, .int .i64 0, .int .i64 0] 35 (0, 0))) := hrs
  have d0 : wz.cell? ⟨P + 1 + 1 + 1 + 1, 0, none⟩ = some (.int .i64 0) := cell_of_row _ _ 0 _ _ _ hrs
  have e0 : wz.frozen? ⟨P + 1 + 1 + 1 + 1, 0, none⟩ = false := frozen_of_row _ _ _ _ _ hrs
  have d1 : wz.cell? ⟨P + 1 + 1 + 1 + 1, 1, none⟩ = some (.int .i64 0) := cell_of_row _ _ 1 _ _ _ hrs
  have e1 : wz.frozen? ⟨P + 1 + 1 + 1 + 1, 1, none⟩ = false := frozen_of_row _ _ _ _ _ hrs
  have d2 : wz.cell? ⟨P + 1 + 1 + 1 + 1, 2, none⟩ = some (.int .i64 0) := cell_of_row _ _ 2 _ _ _ hrs
  have e2 : wz.frozen? ⟨P + 1 + 1 + 1 + 1, 2, none⟩ = false := frozen_of_row _ _ _ _ _ hrs
  have d3 : wz.cell? ⟨P + 1 + 1 + 1 + 1, 3, none⟩ = some (.int .i64 0) := cell_of_row _ _ 3 _ _ _ hrs
  have e3 : wz.frozen? ⟨P + 1 + 1 + 1 + 1, 3, none⟩ = false := frozen_of_row _ _ _ _ _ hrs
  have d4 : wz.cell? ⟨P + 1 + 1 + 1 + 1, 4, none⟩ = some (.int .i64 0) := cell_of_row _ _ 4 _ _ _ hrs
  have e4 : wz.frozen? ⟨P + 1 + 1 + 1 + 1, 4, none⟩ = false := frozen_of_row _ _ _ _ _ hrs
  have d5 : wz.cell? ⟨P + 1 + 1 + 1 + 1, 5, none⟩ = some (.int .i64 0) := cell_of_row _ _ 5 _ _ _ hrs
  have e5 : wz.frozen? ⟨P + 1 + 1 + 1 + 1, 5, none⟩ = false := frozen_of_row _ _ _ _ _ hrs
  have d6 : wz.cell? ⟨P + 1 + 1 + 1 + 1, 6, none⟩ = some (.int .i64 0) := cell_of_row _ _ 6 _ _ _ hrs
  have e6 : wz.frozen? ⟨P + 1 + 1 + 1 + 1, 6, none⟩ = false := frozen_of_row _ _ _ _ _ hrs
  have d7 : wz.cell? ⟨P + 1 + 1 + 1 + 1, 7, none⟩ = some (.int .i64 0) := cell_of_row _ _ 7 _ _ _ hrs
  have e7 : wz.frozen? ⟨P + 1 + 1 + 1 + 1, 7, none⟩ = false := frozen_of_row _ _ _ _ _ hrs
  have d8 : wz.cell? ⟨P + 1 + 1 + 1 + 1, 8, none⟩ = some (.int .i64 0) := cell_of_row _ _ 8 _ _ _ hrs
  have e8 : wz.frozen? ⟨P + 1 + 1 + 1 + 1, 8, none⟩ = false := frozen_of_row _ _ _ _ _ hrs
  have d9 : wz.cell? ⟨P + 1 + 1 + 1 + 1, 9, none⟩ = some (.int .i64 0) := cell_of_row _ _ 9 _ _ _ hrs
  have e9 : wz.frozen? ⟨P + 1 + 1 + 1 + 1, 9, none⟩ = false := frozen_of_row _ _ _ _ _ hrs
  have d10 : wz.cell? ⟨P + 1 + 1 + 1 + 1, 10, none⟩ = some (.int .i64 0) := cell_of_row _ _ 10 _ _ _ hrs
  have e10 : wz.frozen? ⟨P + 1 + 1 + 1 + 1, 10, none⟩ = false := frozen_of_row _ _ _ _ _ hrs
  have d11 : wz.cell? ⟨P + 1 + 1 + 1 + 1, 11, none⟩ = some (.int .i64 0) := cell_of_row _ _ 11 _ _ _ hrs
  have e11 : wz.frozen? ⟨P + 1 + 1 + 1 + 1, 11, none⟩ = false := frozen_of_row _ _ _ _ _ hrs
  have d12 : wz.cell? ⟨P + 1 + 1 + 1 + 1, 12, none⟩ = some (.int .i64 0) := cell_of_row _ _ 12 _ _ _ hrs
  have e12 : wz.frozen? ⟨P + 1 + 1 + 1 + 1, 12, none⟩ = false := frozen_of_row _ _ _ _ _ hrs
  have d13 : wz.cell? ⟨P + 1 + 1 + 1 + 1, 13, none⟩ = some (.int .i64 0) := cell_of_row _ _ 13 _ _ _ hrs
  have e13 : wz.frozen? ⟨P + 1 + 1 + 1 + 1, 13, none⟩ = false := frozen_of_row _ _ _ _ _ hrs
  have d14 : wz.cell? ⟨P + 1 + 1 + 1 + 1, 14, none⟩ = some (.int .i64 0) := cell_of_row _ _ 14 _ _ _ hrs
  have e14 : wz.frozen? ⟨P + 1 + 1 + 1 + 1, 14, none⟩ = false := frozen_of_row _ _ _ _ _ hrs
  clear hrs
  unfold geoV inV
  have hkk : (decide (k < 0) = true) ∨ (decide (k < 0) = false ∧ 16522 < k) := by
    by_cases e : k < 0
    · exact .inl (decide_eq_true e)
    · exact .inr ⟨decide_eq_false e, hk.resolve_left e⟩
  clear hk
  rcases hkk with hk | ⟨hk, hk9⟩
  · have hk0 : k < 0 := of_decide_eq_true hk
    clear hk
    go_enter Tryz.func18, Tryz.ntmps18
    go_wp2
    refine bodyPost_ret (v := .tuple #[.agg #[.int .i64 0, .int .i64 0, .int .i64 0, .int .i64 0, .int .i64 0, .int .i64 0, .int .i64 0, .int .i64 0, .int .i64 0, .int .i64 0, .int .i64 0, .int .i64 0, .int .i64 0, .int .i64 0, .int .i64 0], .int .i64 101]) (res_row_tmp (fn := Tryz.f18) (p := 8) (u := 9) (ty := 35) rfl _ _ (P + 1 + 1 + 1 + 1) #[.int .i64 0, .int .i64 0, .int .i64 0, .int .i64 0, .int .i64 0, .int .i64 0, .int .i64 0, .int .i64 0, .int .i64 0, .int .i64 0, .int .i64 0, .int .i64 0, .int .i64 0, .int .i64 0, .int .i64 0] rfl ?_) rfl ?_
    · exact load15 _ (P + 1 + 1 + 1 + 1) 0 0 0 0 0 0 0 0 0 0 0 0 0 0 0 (set15 wz (P + 1 + 1 + 1 + 1) (.int .i64 0) (.int .i64 0) (.int .i64 0) (.int .i64 0) (.int .i64 0) (.int .i64 0) (.int .i64 0) (.int .i64 0) (.int .i64 0) (.int .i64 0) (.int .i64 0) (.int .i64 0) (.int .i64 0) (.int .i64 0) (.int .i64 0) (.int .i64 0) (.int .i64 0) (.int .i64 0) (.int .i64 0) (.int .i64 0) (.int .i64 0) (.int .i64 0) (.int .i64 0) (.int .i64 0) (.int .i64 0) (.int .i64 0) (.int .i64 0) (.int .i64 0) (.int .i64 0) (.int .i64 0) HRs.out)
    · refine ⟨rfl, ?_⟩
      rw [← HP.out]
      iterate 15 refine below_put ?_ (Nat.le_refl _) (by omega)
      exact HA.out.1
  · have hk0 : ¬ k < 0 := of_decide_eq_false hk
    clear hk
    go_enter Tryz.func18, Tryz.ntmps18
    go_wp2
    refine bodyPost_ret (v := .tuple #[.agg #[.int .i64 0, .int .i64 0, .int .i64 0, .int .i64 0, .int .i64 0, .int .i64 0, .int .i64 0, .int .i64 0, .int .i64 0, .int .i64 0, .int .i64 0, .int .i64 0, .int .i64 0, .int .i64 0, .int .i64 0], .int .i64 101]) (res_row_tmp (fn := Tryz.f18) (p := 8) (u := 9) (ty := 35) rfl _ _ (P + 1 + 1 + 1 + 1) #[.int .i64 0, .int .i64 0, .int .i64 0, .int .i64 0, .int .i64 0, .int .i64 0, .int .i64 0, .int .i64 0, .int .i64 0, .int .i64 0, .int .i64 0, .int .i64 0, .int .i64 0, .int .i64 0, .int .i64 0] rfl ?_) rfl ?_
    · exact load15 _ (P + 1 + 1 + 1 + 1) 0 0 0 0 0 0 0 0 0 0 0 0 0 0 0 (set15 wz (P + 1 + 1 + 1 + 1) (.int .i64 0) (.int .i64 0) (.int .i64 0) (.int .i64 0) (.int .i64 0) (.int .i64 0) (.int .i64 0) (.int .i64 0) (.int .i64 0) (.int .i64 0) (.int .i64 0) (.int .i64 0) (.int .i64 0) (.int .i64 0) (.int .i64 0) (.int .i64 0) (.int .i64 0) (.int .i64 0) (.int .i64 0) (.int .i64 0) (.int .i64 0) (.int .i64 0) (.int .i64 0) (.int .i64 0) (.int .i64 0) (.int .i64 0) (.int .i64 0) (.int .i64 0) (.int .i64 0) (.int .i64 0) HRs.out)
    · refine ⟨rfl, ?_⟩
      rw [← HP.out]
      iterate 15 refine below_put ?_ (Nat.le_refl _) (by omega)
      exact HA.out.1
set_option maxRecDepth 100000 in
set_option maxHeartbeats 8000000 in
theorem cut_any (w0 w : World) (D : Dk) (T : Tx) (n : Nat) (h : Spc w0 w D T n) (x : Nat → Int) (ν : Nat → Nat) (k : Nat) (hkk : k ≤ 16522) (hck : Ck w0 D T n x ν k) :
    Calls Tryz.prog 18 #[.pointer (some ⟨T.t, 0, none⟩), geoV n, inV x, .int .i64 (k : Int)] w fun e w' => ∃ (z : Nat) (y : Nat → Int) (T' : Tx), e = .returned (.tuple #[inV y, .int .i64 (z : Int)]) ∧ ((z = 0 ∧ y = withN x (cvP ν k) ∧ CtP D T T' n x ν k ∧ Gon w0 w w' D T T' n (fun _ => False) ∧ ∃ m, Ext T T' m) ∨ (z = 60 ∧ y = (fun _ => 0) ∧ NotIn T n ν ∧ BigE w0 w w' D T T' n)) := by
  have hk1 : ¬ (k : Int) < 0 := by omega
  have hk2 : ¬ (16522 : Int) < (k : Int) := by omega
  obtain ⟨tt, htt⟩ : ∃ tt, T.t = tt := ⟨_, rfl⟩
  have hA := ab_new w tt n x (k : Int)
  obtain ⟨wz, hwz⟩ : ∃ wz, ((((w.alloc (.cells #[.pointer (some ⟨tt, 0, none⟩)] 26)).alloc (.cells #[.int .i64 (n : Int), .int .i64 98, .int .i64 (gI n), .int .i64 (gD n), .int .i64 (gC n)] 29)).alloc (.cells #[.int .i64 (x 0), .int .i64 (x 1), .int .i64 (x 2), .int .i64 (x 3), .int .i64 (x 4), .int .i64 (x 5), .int .i64 (x 6), .int .i64 (x 7), .int .i64 (x 8), .int .i64 (x 9), .int .i64 (x 10), .int .i64 (x 11), .int .i64 (x 12), .int .i64 (x 13), .int .i64 (x 14)] 35)).alloc (.cells #[.int .i64 (k : Int)] 3)).alloc (.cells #[.int .i64 0, .int .i64 0, .int .i64 0, .int .i64 0, .int .i64 0, .int .i64 0, .int .i64 0, .int .i64 0, .int .i64 0, .int .i64 0, .int .i64 0, .int .i64 0, .int .i64 0, .int .i64 0, .int .i64 0] 35) = wz := ⟨_, rfl⟩
  rw [hwz] at hA
  obtain ⟨P, hP⟩ : ∃ P, w.heap.size = P := ⟨_, rfl⟩
  have HA : Hid (Below w.heap.size w wz ∧ Ab wz P tt n x (k : Int) ∧ wz.heap.size = P + 5 ∧ w.heap.size = P) := ⟨hA.1, by rw [← hP]; exact hA.2.1, by rw [← hP]; exact hA.2.2, hP⟩
  have HS : Hid (Spc w0 w D T n ∧ Ck w0 D T n x ν k ∧ T.t = tt) := ⟨h, hck, htt⟩
  have HOr : Hid (∀ wx, Calls Tryz.prog 38 #[inV x] wx fun e w' => ∃ g cap, e = .returned (.agg #[.int .i64 0, .slice (some ⟨g, 0, none⟩) 12 cap]) ∧ wx.heap.size ≤ g ∧ OwnI w' g cap (ownN ν) ∧ Below wx.heap.size wx w') := fun wx => by
    rw [← inN_own hck.wd.tre]; exact ownRow_any wx x
  rw [htt]
  clear hA h hck hkk htt
  unfold geoV
  unfold inV at HOr ⊢
  have k0 : wz.cell? ⟨P + 1 + 1 + 1, 0, none⟩ = some (.int .i64 (k : Int)) := by rw [cell_of_row _ _ _ _ _ _ HA.out.2.1.k]; rfl
  obtain ⟨x0, x1, x2, x3, x4, x5, x6, x7, x8, x9, x10, x11, x12, x13, x14⟩ := HA.out.2.1.xc
  go_enter Tryz.func18, Tryz.ntmps18
  go_upto_region 4 with (go_at_call 38; refine (HOr.out _).mono ?_; rintro e w1 ⟨g0, cap0, rfl, h1, h2, h3⟩; have H1 : Hid (wz.heap.size ≤ g0 ∧ OwnI w1 g0 cap0 (ownN ν) ∧ Below wz.heap.size wz w1) := ⟨h1, h2, h3⟩; clear h1 h2 h3 HOr)
  obtain ⟨R1, hR1⟩ : ∃ R1, w1.heap.size = R1 := ⟨_, rfl⟩
  obtain ⟨w2, hw2⟩ : ∃ w2, w1.alloc (.cells #[.int .i64 0, .slice (some ⟨g0, 0, none⟩) 12 cap0] 91) = w2 := ⟨_, rfl⟩
  have H2 : Hid (Ab w2 P tt n x (k : Int) ∧ w2.heap[R1]? = some (.cells #[.int .i64 0, .slice (some ⟨g0, 0, none⟩) 12 cap0] 91 (0, 0)) ∧ OwnI w2 g0 cap0 (ownN ν) ∧ Below w.heap.size w w2 ∧ P + 5 ≤ g0 ∧ g0 < R1 ∧ w2.heap.size = R1 + 1) := by
    have hb1 : Below w.heap.size w w1 := HA.out.1.trans (H1.out.2.2.mono HA.out.1.size)
    have hb2 : Below w1.heap.size w1 w2 := by rw [← hw2]; exact below_new _
    have hs := HA.out.2.2.1
    have hg := H1.out.1
    have hgl := H1.out.2.1.lt
    refine ⟨(HA.out.2.1.on H1.out.2.2).on hb2, ?_, H1.out.2.1.on hb2, hb1.trans (hb2.mono hb1.size), by omega, by omega, by rw [← hw2]; simp [hR1]⟩
    rw [← hw2, ← hR1]
    exact heap_alloc_new _ _
  rw [hw2, hR1]
  clear hw2 hwz hR1 k0 x0 x1 x2 x3 x4 x5 x6 x7 x8 x9 x10 x11 x12 x13 x14
  have t0 : w2.cell? ⟨P, 0, none⟩ = some (.pointer (some ⟨tt, 0, none⟩)) := by rw [cell_of_row _ _ _ _ _ _ H2.out.1.t]; rfl
  have HWh : Hid (Calls Tryz.prog 39 #[.pointer (some ⟨tt, 0, none⟩), .func (.func 55) #[] #[.pointer (some ⟨P, 0, none⟩), .pointer (some ⟨P + 1, 0, none⟩), .pointer (some ⟨R1, 0, none⟩), .pointer (some ⟨P + 1 + 1 + 1, 0, none⟩)]] w2 fun e w' => ∃ (z : Nat) (T' : Tx), e = .returned (.int .i64 (z : Int)) ∧ ((z = 0 ∧ ∃ E w1, WhE w0 w2 w' D T T' n (fun i => i = g0) (CtA D T n k g0 cap0 ν) E w1) ∨ (z ≠ 0 ∧ (∃ T1 w1, CtA D T n k g0 cap0 ν z T1 w1) ∧ Bck w0 w2 w' D T T' n (fun i => i = g0)))) := by
    obtain ⟨h1, h2, h4, h5, h6, h7, h8⟩ := H2.out
    obtain ⟨s1, s2, s6⟩ := HS.out
    have hP := HA.out.2.2.2
    have hb9 : ∀ wx, Below w2.heap.size w2 wx → Below w.heap.size w wx := fun wx hb => h5.trans (hb.mono h5.size)
    have := whole_cut w0 w2 D T n (s1.on h5) (fun i => i = g0) (fun i hi => by have hi : i = g0 := hi; omega) P (P + 1) R1 (P + 1 + 1 + 1) (CtA D T n k g0 cap0 ν) (fun wx hb => cut1_any w0 wx D T n (s1.on (hb9 wx hb)) x ν k s2 g0 cap0 (h4.on hb) (Out.of s1 (by omega) (by have := hb.size; omega)) P (P + 1) R1 (P + 1 + 1 + 1) (by rw [s6, cell_of_row _ _ _ _ _ _ (h1.on hb).t]; rfl) (h1.on hb).g ((hb.block _ (by omega)).trans h2) (by rw [cell_of_row _ _ _ _ _ _ (h1.on hb).k]; rfl))
    rw [s6] at this
    exact this
  go_upto_region 5 with (go_at_call 39; refine HWh.out.mono ?_; rintro e w3 ⟨z, T1, rfl, hor⟩; have H3 : Hid ((z = 0 ∧ ∃ E w1, WhE w0 w2 w3 D T T1 n (fun i => i = g0) (CtA D T n k g0 cap0 ν) E w1) ∨ (z ≠ 0 ∧ (∃ T1 w1, CtA D T n k g0 cap0 ν z T1 w1) ∧ Bck w0 w2 w3 D T T1 n (fun i => i = g0))) := hor; clear hor HWh)
  clear t0
  rcases H3.out with ⟨rfl, E, w4, hWe⟩ | ⟨hz, ⟨T2, w4, hA⟩, hBk⟩
  · obtain ⟨hAd, hog⟩ : Cq D T T1 n ν k (fun q => q < 16652) 16652 ∧ OwnI w4 g0 cap0 (ownN (cvP ν k)) := by
      rcases hWe.a with ⟨_, e⟩ | ⟨e, _⟩
      · exact e
      · omega
    have HE : Hid (CtP D T T1 n x ν k ∧ Gon w0 w w3 D T T1 n (fun _ => False) ∧ Out w0 w3 D T1 (P + 1 + 1 + 1 + 1) ∧ ∃ m, Ext T T1 m) := by
      refine ⟨ctP HS.out.2.1 hAd, ⟨?_, ?_, hWe.gon.dom⟩, ((Out.of HS.out.1 (w1 := w2) (by have := HA.out.2.2.2; omega) H2.out.1.lt).mv hWe.gon.mv).mv (SMv.fr_ hWe.fr), hWe.ext⟩
      · refine (((SMv.on H2.out.2.2.2.1).trans hWe.gon.mv (fun i hi => .inr ?_)).trans (SMv.fr_ hWe.fr) (fun i hi => .inr ?_))
        · have := HA.out.2.2.2; have := H2.out.2.2.2.2; have hi : i = g0 := hi; omega
        · have hi : i = E := hi
          have := hWe.le; have := H2.out.2.2.2.1.size; omega
      · exact hWe.gon.spc.frG hWe.fr (fun i hi => by have hi : i = E := hi; subst hi; exact .inr hWe.out)
    have H4 : Hid (Ab w3 P tt n x (k : Int) ∧ w3.heap[R1]? = some (.cells #[.int .i64 0, .slice (some ⟨g0, 0, none⟩) 12 cap0] 91 (0, 0)) ∧ OwnI w3 g0 cap0 (ownN (cvP ν k))) := by
      obtain ⟨h1, h2, h4, h5, h6, h7, h8⟩ := H2.out
      have hP := HA.out.2.2.2
      have hE := hWe.le
      have hno : ∀ i, P ≤ i → i ≠ g0 → ¬ (T.has i ∨ i = g0) := fun i hi e1 e => by
        rcases e with e | e
        · have := HS.out.1.ses.tx.lt (.inl e); omega
        · exact e1 e
      have hlt := h1.lt
      exact ⟨(h1.fr hWe.gon.mv.fr (fun i e1 e2 => hno i e1 (by omega))).fr hWe.fr (fun i e1 e2 => by show ¬ i = E; omega), hWe.fr.heap (hWe.gon.mv.fr.heap h2 (hno _ (by omega) (by omega))) (by show ¬ R1 = E; omega), hog.fr hWe.fr (by show ¬ g0 = E; omega)⟩
    clear hAd hog hWe
    have HIn : Hid (∀ wx, Below w3.heap.size w3 wx → Calls Tryz.prog 44 #[.agg #[.int .i64 0, .slice (some ⟨g0, 0, none⟩) 12 cap0], .agg #[.int .i64 (x 0), .int .i64 (x 1), .int .i64 (x 2), .int .i64 (x 3), .int .i64 (x 4), .int .i64 (x 5), .int .i64 (x 6), .int .i64 (x 7), .int .i64 (x 8), .int .i64 (x 9), .int .i64 (x 10), .int .i64 (x 11), .int .i64 (x 12), .int .i64 (x 13), .int .i64 (x 14)]] wx fun e w' => e = .returned (inV (withN x (cvP ν k))) ∧ Below wx.heap.size wx w') := fun wx hb => in_any wx x (cvP ν k) g0 cap0 0 (H4.out.2.2.on hb)
    have hr := H4.out.2.1
    have q0 : w3.cell? ⟨R1, 0, none⟩ = some (.int .i64 0) := by rw [cell_of_row _ _ _ _ _ _ hr]; rfl
    have q1 : w3.cell? ⟨R1, 1, none⟩ = some (.slice (some ⟨g0, 0, none⟩) 12 cap0) := by rw [cell_of_row _ _ _ _ _ _ hr]; rfl
    clear hr
    obtain ⟨y, hy⟩ : ∃ y, withN x (cvP ν k) = y := ⟨_, rfl⟩
    have HY : Hid (withN x (cvP ν k) = y) := hy
    rw [hy] at HIn
    unfold inV at HIn
    clear hy
    obtain ⟨x0, x1, x2, x3, x4, x5, x6, x7, x8, x9, x10, x11, x12, x13, x14⟩ := H4.out.1.xc
    have HRs : Hid (∀ wx, Below w3.heap.size w3 wx → wx.heap[P + 1 + 1 + 1 + 1]? = some (.cells #[.int .i64 0, .int .i64 0, .int .i64 0, .int .i64 0, .int .i64 0, .int .i64 0, .int .i64 0, .int .i64 0, .int .i64 0, .int .i64 0, .int .i64 0, .int .i64 0, .int .i64 0, .int .i64 0, .int .i64 0] 35 (0, 0))) := fun wx hb => (H4.out.1.on hb).r
    go_wp2_with (go_at_call 44; refine (HIn.out _ (by repeat (first | exact Below.refl _ _ | apply Below.drew))).mono ?_; rintro e w5 ⟨rfl, hb⟩; have H5 : Hid (Below w3.heap.size w3 w5) := hb; have hrs := HRs.out _ hb; have d0 : w5.cell? ⟨P + 1 + 1 + 1 + 1, 0, none⟩ = some (.int .i64 0) := cell_of_row _ _ 0 _ _ _ hrs; have e0 : w5.frozen? ⟨P + 1 + 1 + 1 + 1, 0, none⟩ = false := frozen_of_row _ _ _ _ _ hrs; have d1 : w5.cell? ⟨P + 1 + 1 + 1 + 1, 1, none⟩ = some (.int .i64 0) := cell_of_row _ _ 1 _ _ _ hrs; have e1 : w5.frozen? ⟨P + 1 + 1 + 1 + 1, 1, none⟩ = false := frozen_of_row _ _ _ _ _ hrs; have d2 : w5.cell? ⟨P + 1 + 1 + 1 + 1, 2, none⟩ = some (.int .i64 0) := cell_of_row _ _ 2 _ _ _ hrs; have e2 : w5.frozen? ⟨P + 1 + 1 + 1 + 1, 2, none⟩ = false := frozen_of_row _ _ _ _ _ hrs; have d3 : w5.cell? ⟨P + 1 + 1 + 1 + 1, 3, none⟩ = some (.int .i64 0) := cell_of_row _ _ 3 _ _ _ hrs; have e3 : w5.frozen? ⟨P + 1 + 1 + 1 + 1, 3, none⟩ = false := frozen_of_row _ _ _ _ _ hrs; have d4 : w5.cell? ⟨P + 1 + 1 + 1 + 1, 4, none⟩ = some (.int .i64 0) := cell_of_row _ _ 4 _ _ _ hrs; have e4 : w5.frozen? ⟨P + 1 + 1 + 1 + 1, 4, none⟩ = false := frozen_of_row _ _ _ _ _ hrs; have d5 : w5.cell? ⟨P + 1 + 1 + 1 + 1, 5, none⟩ = some (.int .i64 0) := cell_of_row _ _ 5 _ _ _ hrs; have e5 : w5.frozen? ⟨P + 1 + 1 + 1 + 1, 5, none⟩ = false := frozen_of_row _ _ _ _ _ hrs; have d6 : w5.cell? ⟨P + 1 + 1 + 1 + 1, 6, none⟩ = some (.int .i64 0) := cell_of_row _ _ 6 _ _ _ hrs; have e6 : w5.frozen? ⟨P + 1 + 1 + 1 + 1, 6, none⟩ = false := frozen_of_row _ _ _ _ _ hrs; have d7 : w5.cell? ⟨P + 1 + 1 + 1 + 1, 7, none⟩ = some (.int .i64 0) := cell_of_row _ _ 7 _ _ _ hrs; have e7 : w5.frozen? ⟨P + 1 + 1 + 1 + 1, 7, none⟩ = false := frozen_of_row _ _ _ _ _ hrs; have d8 : w5.cell? ⟨P + 1 + 1 + 1 + 1, 8, none⟩ = some (.int .i64 0) := cell_of_row _ _ 8 _ _ _ hrs; have e8 : w5.frozen? ⟨P + 1 + 1 + 1 + 1, 8, none⟩ = false := frozen_of_row _ _ _ _ _ hrs; have d9 : w5.cell? ⟨P + 1 + 1 + 1 + 1, 9, none⟩ = some (.int .i64 0) := cell_of_row _ _ 9 _ _ _ hrs; have e9 : w5.frozen? ⟨P + 1 + 1 + 1 + 1, 9, none⟩ = false := frozen_of_row _ _ _ _ _ hrs; have d10 : w5.cell? ⟨P + 1 + 1 + 1 + 1, 10, none⟩ = some (.int .i64 0) := cell_of_row _ _ 10 _ _ _ hrs; have e10 : w5.frozen? ⟨P + 1 + 1 + 1 + 1, 10, none⟩ = false := frozen_of_row _ _ _ _ _ hrs; have d11 : w5.cell? ⟨P + 1 + 1 + 1 + 1, 11, none⟩ = some (.int .i64 0) := cell_of_row _ _ 11 _ _ _ hrs; have e11 : w5.frozen? ⟨P + 1 + 1 + 1 + 1, 11, none⟩ = false := frozen_of_row _ _ _ _ _ hrs; have d12 : w5.cell? ⟨P + 1 + 1 + 1 + 1, 12, none⟩ = some (.int .i64 0) := cell_of_row _ _ 12 _ _ _ hrs; have e12 : w5.frozen? ⟨P + 1 + 1 + 1 + 1, 12, none⟩ = false := frozen_of_row _ _ _ _ _ hrs; have d13 : w5.cell? ⟨P + 1 + 1 + 1 + 1, 13, none⟩ = some (.int .i64 0) := cell_of_row _ _ 13 _ _ _ hrs; have e13 : w5.frozen? ⟨P + 1 + 1 + 1 + 1, 13, none⟩ = false := frozen_of_row _ _ _ _ _ hrs; have d14 : w5.cell? ⟨P + 1 + 1 + 1 + 1, 14, none⟩ = some (.int .i64 0) := cell_of_row _ _ 14 _ _ _ hrs; have e14 : w5.frozen? ⟨P + 1 + 1 + 1 + 1, 14, none⟩ = false := frozen_of_row _ _ _ _ _ hrs; clear hb hrs HIn)
    refine bodyPost_ret (v := .tuple #[.agg #[.int .i64 (y 0), .int .i64 (y 1), .int .i64 (y 2), .int .i64 (y 3), .int .i64 (y 4), .int .i64 (y 5), .int .i64 (y 6), .int .i64 (y 7), .int .i64 (y 8), .int .i64 (y 9), .int .i64 (y 10), .int .i64 (y 11), .int .i64 (y 12), .int .i64 (y 13), .int .i64 (y 14)], .int .i64 0]) (res_row_tmp (fn := Tryz.f18) (p := 8) (u := 9) (ty := 35) rfl _ _ (P + 1 + 1 + 1 + 1) #[.int .i64 (y 0), .int .i64 (y 1), .int .i64 (y 2), .int .i64 (y 3), .int .i64 (y 4), .int .i64 (y 5), .int .i64 (y 6), .int .i64 (y 7), .int .i64 (y 8), .int .i64 (y 9), .int .i64 (y 10), .int .i64 (y 11), .int .i64 (y 12), .int .i64 (y 13), .int .i64 (y 14)] rfl ?_) rfl ?_
    · exact load15 _ (P + 1 + 1 + 1 + 1) (y 0) (y 1) (y 2) (y 3) (y 4) (y 5) (y 6) (y 7) (y 8) (y 9) (y 10) (y 11) (y 12) (y 13) (y 14) (set15 w5 (P + 1 + 1 + 1 + 1) (.int .i64 0) (.int .i64 0) (.int .i64 0) (.int .i64 0) (.int .i64 0) (.int .i64 0) (.int .i64 0) (.int .i64 0) (.int .i64 0) (.int .i64 0) (.int .i64 0) (.int .i64 0) (.int .i64 0) (.int .i64 0) (.int .i64 0) (.int .i64 (y 0)) (.int .i64 (y 1)) (.int .i64 (y 2)) (.int .i64 (y 3)) (.int .i64 (y 4)) (.int .i64 (y 5)) (.int .i64 (y 6)) (.int .i64 (y 7)) (.int .i64 (y 8)) (.int .i64 (y 9)) (.int .i64 (y 10)) (.int .i64 (y 11)) (.int .i64 (y 12)) (.int .i64 (y 13)) (.int .i64 (y 14)) (HRs.out _ H5.out))
    · refine ⟨0, y, T1, rfl, .inl ⟨rfl, HY.out.symm, HE.out.1, HE.out.2.1.box H5.out ?_ (by have := HA.out.2.2.2; omega) HE.out.2.2.1, HE.out.2.2.2⟩⟩
      iterate 15 refine Fr.trans ?_ (Fr.set (g := P + 1 + 1 + 1 + 1)) (fun _ h => .inl h)
      exact Fr.refl _ _
  · have hz60 : z = 60 ∧ NotIn T n ν := by
      rcases hA with ⟨e, _⟩ | e
      · exact absurd e hz
      · exact e
    obtain ⟨rfl, hNI⟩ := hz60
    have H4 : Hid (Ab w3 P tt n x (k : Int) ∧ Out w0 w3 D T1 (P + 1 + 1 + 1 + 1) ∧ NotIn T n ν) := by
      obtain ⟨h1, h2, h4, h5, h6, h7, h8⟩ := H2.out
      have hP := HA.out.2.2.2
      have hno : ∀ i, P ≤ i → i ≠ g0 → ¬ (T.has i ∨ i = g0) := fun i hi e1 e => by
        rcases e with e | e
        · have := HS.out.1.ses.tx.lt (.inl e); omega
        · exact e1 e
      have hlt := h1.lt
      exact ⟨h1.fr hBk.mv.fr (fun i e1 e2 => hno i e1 (by omega)), (Out.of HS.out.1 (w1 := w2) (by omega) h1.lt).mv hBk.mv, hNI⟩
    have HE : Hid (BigE w0 w w3 D T T1 n) := by
      refine ⟨?_, hBk.spc, hBk.c, hBk.us⟩
      have hm : SMv (fun _ => False) w T w3 T1 := (SMv.on H2.out.2.2.2.1).trans hBk.mv (fun i hi => .inr (by have := HA.out.2.2.2; have := H2.out.2.2.2.2; have hi : i = g0 := hi; omega))
      exact ⟨hm.fr.mono (fun i hi => hi.elim id (fun e => e.elim)), hm.al, hm.has, hm.t, hm.d, hm.nb⟩
    have hrs := H4.out.1.r
    have d0 : w3.cell? ⟨P + 1 + 1 + 1 + 1, 0, none⟩ = some (.int .i64 0) := cell_of_row _ _ 0 _ _ _ hrs
    have e0 : w3.frozen? ⟨P + 1 + 1 + 1 + 1, 0, none⟩ = false := frozen_of_row _ _ _ _ _ hrs
    have d1 : w3.cell? ⟨P + 1 + 1 + 1 + 1, 1, none⟩ = some (.int .i64 0) := cell_of_row _ _ 1 _ _ _ hrs
    have e1 : w3.frozen? ⟨P + 1 + 1 + 1 + 1, 1, none⟩ = false := frozen_of_row _ _ _ _ _ hrs
    have d2 : w3.cell? ⟨P + 1 + 1 + 1 + 1, 2, none⟩ = some (.int .i64 0) := cell_of_row _ _ 2 _ _ _ hrs
    have e2 : w3.frozen? ⟨P + 1 + 1 + 1 + 1, 2, none⟩ = false := frozen_of_row _ _ _ _ _ hrs
    have d3 : w3.cell? ⟨P + 1 + 1 + 1 + 1, 3, none⟩ = some (.int .i64 0) := cell_of_row _ _ 3 _ _ _ hrs
    have e3 : w3.frozen? ⟨P + 1 + 1 + 1 + 1, 3, none⟩ = false := frozen_of_row _ _ _ _ _ hrs
    have d4 : w3.cell? ⟨P + 1 + 1 + 1 + 1, 4, none⟩ = some (.int .i64 0) := cell_of_row _ _ 4 _ _ _ hrs
    have e4 : w3.frozen? ⟨P + 1 + 1 + 1 + 1, 4, none⟩ = false := frozen_of_row _ _ _ _ _ hrs
    have d5 : w3.cell? ⟨P + 1 + 1 + 1 + 1, 5, none⟩ = some (.int .i64 0) := cell_of_row _ _ 5 _ _ _ hrs
    have e5 : w3.frozen? ⟨P + 1 + 1 + 1 + 1, 5, none⟩ = false := frozen_of_row _ _ _ _ _ hrs
    have d6 : w3.cell? ⟨P + 1 + 1 + 1 + 1, 6, none⟩ = some (.int .i64 0) := cell_of_row _ _ 6 _ _ _ hrs
    have e6 : w3.frozen? ⟨P + 1 + 1 + 1 + 1, 6, none⟩ = false := frozen_of_row _ _ _ _ _ hrs
    have d7 : w3.cell? ⟨P + 1 + 1 + 1 + 1, 7, none⟩ = some (.int .i64 0) := cell_of_row _ _ 7 _ _ _ hrs
    have e7 : w3.frozen? ⟨P + 1 + 1 + 1 + 1, 7, none⟩ = false := frozen_of_row _ _ _ _ _ hrs
    have d8 : w3.cell? ⟨P + 1 + 1 + 1 + 1, 8, none⟩ = some (.int .i64 0) := cell_of_row _ _ 8 _ _ _ hrs
    have e8 : w3.frozen? ⟨P + 1 + 1 + 1 + 1, 8, none⟩ = false := frozen_of_row _ _ _ _ _ hrs
    have d9 : w3.cell? ⟨P + 1 + 1 + 1 + 1, 9, none⟩ = some (.int .i64 0) := cell_of_row _ _ 9 _ _ _ hrs
    have e9 : w3.frozen? ⟨P + 1 + 1 + 1 + 1, 9, none⟩ = false := frozen_of_row _ _ _ _ _ hrs
    have d10 : w3.cell? ⟨P + 1 + 1 + 1 + 1, 10, none⟩ = some (.int .i64 0) := cell_of_row _ _ 10 _ _ _ hrs
    have e10 : w3.frozen? ⟨P + 1 + 1 + 1 + 1, 10, none⟩ = false := frozen_of_row _ _ _ _ _ hrs
    have d11 : w3.cell? ⟨P + 1 + 1 + 1 + 1, 11, none⟩ = some (.int .i64 0) := cell_of_row _ _ 11 _ _ _ hrs
    have e11 : w3.frozen? ⟨P + 1 + 1 + 1 + 1, 11, none⟩ = false := frozen_of_row _ _ _ _ _ hrs
    have d12 : w3.cell? ⟨P + 1 + 1 + 1 + 1, 12, none⟩ = some (.int .i64 0) := cell_of_row _ _ 12 _ _ _ hrs
    have e12 : w3.frozen? ⟨P + 1 + 1 + 1 + 1, 12, none⟩ = false := frozen_of_row _ _ _ _ _ hrs
    have d13 : w3.cell? ⟨P + 1 + 1 + 1 + 1, 13, none⟩ = some (.int .i64 0) := cell_of_row _ _ 13 _ _ _ hrs
    have e13 : w3.frozen? ⟨P + 1 + 1 + 1 + 1, 13, none⟩ = false := frozen_of_row _ _ _ _ _ hrs
    have d14 : w3.cell? ⟨P + 1 + 1 + 1 + 1, 14, none⟩ = some (.int .i64 0) := cell_of_row _ _ 14 _ _ _ hrs
    have e14 : w3.frozen? ⟨P + 1 + 1 + 1 + 1, 14, none⟩ = false := frozen_of_row _ _ _ _ _ hrs
    clear hA hBk hrs hz H3 hNI
    go_wp2
    refine bodyPost_ret (v := .tuple #[.agg #[.int .i64 0, .int .i64 0, .int .i64 0, .int .i64 0, .int .i64 0, .int .i64 0, .int .i64 0, .int .i64 0, .int .i64 0, .int .i64 0, .int .i64 0, .int .i64 0, .int .i64 0, .int .i64 0, .int .i64 0], .int .i64 60]) (res_row_tmp (fn := Tryz.f18) (p := 8) (u := 9) (ty := 35) rfl _ _ (P + 1 + 1 + 1 + 1) #[.int .i64 0, .int .i64 0, .int .i64 0, .int .i64 0, .int .i64 0, .int .i64 0, .int .i64 0, .int .i64 0, .int .i64 0, .int .i64 0, .int .i64 0, .int .i64 0, .int .i64 0, .int .i64 0, .int .i64 0] rfl ?_) rfl ?_
    · exact load15 _ (P + 1 + 1 + 1 + 1) 0 0 0 0 0 0 0 0 0 0 0 0 0 0 0 (set15 w3 (P + 1 + 1 + 1 + 1) (.int .i64 0) (.int .i64 0) (.int .i64 0) (.int .i64 0) (.int .i64 0) (.int .i64 0) (.int .i64 0) (.int .i64 0) (.int .i64 0) (.int .i64 0) (.int .i64 0) (.int .i64 0) (.int .i64 0) (.int .i64 0) (.int .i64 0) (.int .i64 0) (.int .i64 0) (.int .i64 0) (.int .i64 0) (.int .i64 0) (.int .i64 0) (.int .i64 0) (.int .i64 0) (.int .i64 0) (.int .i64 0) (.int .i64 0) (.int .i64 0) (.int .i64 0) (.int .i64 0) (.int .i64 0) H4.out.1.r)
    · refine ⟨60, (fun _ => 0), T1, rfl, .inr ⟨rfl, rfl, H4.out.2.2, HE.out.box ?_ (by have := HA.out.2.2.2; omega) H4.out.2.1⟩⟩
      iterate 15 refine Fr.trans ?_ (Fr.set (g := P + 1 + 1 + 1 + 1)) (fun _ h => .inl h)
      exact Fr.refl _ _
end Go.Proofs.YtjmdjagfekloaaaGreatDoor
