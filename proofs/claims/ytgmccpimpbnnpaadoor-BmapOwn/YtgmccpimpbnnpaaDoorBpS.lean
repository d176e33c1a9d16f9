import Derived.Test.YtgmccpimpbnnpaaDoorKBpQ
import Derived.Deep.RegionHeld3
namespace Go.Proofs.YtgmccpimpbnnpaaDoor
open Go.RowKit Go.Maps Rec
theorem res_row_tmp2 {fn : Func} {p u v : Tmp} {ty : TypeId} (h : fn.results = #[.cell p ty, .tmp u, .tmp v]) (tmps : Array Value) (w : World) (g : Nat) (cs : Array Value)
    (hp : tmps.getD p undef = .pointer (some ⟨g, 0, none⟩)) (hl : (loadVar ty ⟨g, 0, none⟩).run Tryd.prog w = .ok (.agg cs) w) :
    (results fn tmps).run Tryd.prog w = .ok (.tuple #[.agg cs, tmps.getD u undef, tmps.getD v undef]) w := by
  have e : (results fn tmps).run Tryd.prog w = ((asAddr (tmps.getD p undef)).run Tryd.prog w).andThen fun a w₁ => ((loadVar ty a).run Tryd.prog w₁).andThen fun r w₂ => .ok (.tuple #[r, tmps.getD u undef, tmps.getD v undef]) w₂ := by
    simp only [results, h]
    simp [Sem.run_bind, Result.andThen]
  rw [e, hp]
  simp [asAddr, hl]
theorem Gon.box {w0 w w3 w5 W : World} {D : Dk} {T T1 : Tx} {n p : Nat} (h : Gon w0 w w3 D T T1 n (fun _ => False)) (hb : Below w3.heap.size w3 w5) (hf : Fr (fun i => i = p) w5 W) (hp : w.heap.size ≤ p) (ho : Out w0 w3 D T1 p) : Gon w0 w W D T T1 n (fun _ => False) := by
  have h5 := h.trans (Gon.on h.spc hb (S := fun _ => False)) (fun _ e => e.elim)
  have o5 := ho.mv (SMv.on hb (T := T1) (S := fun _ => False))
  exact ⟨h5.mv.trans (SMv.fr_ hf) (fun i hi => .inr (by have hi : i = p := hi; omega)), h5.spc.frG hf (fun i hi => by have hi : i = p := hi; subst hi; exact .inr o5), h5.dom⟩
theorem BigE.box {w0 w w3 W : World} {D : Dk} {T T1 : Tx} {n p : Nat} (h : BigE w0 w w3 D T T1 n) (hf : Fr (fun i => i = p) w3 W) (hp : w.heap.size ≤ p) (ho : Out w0 w3 D T1 p) : BigE w0 w W D T T1 n :=
  ⟨⟨h.mv.fr.trans hf (fun i hi => .inr (by have hi : i = p := hi; omega)), h.mv.al, h.mv.has, h.mv.t, h.mv.d, h.mv.nb⟩, h.spc.frG hf (fun i hi => by have hi : i = p := hi; subst hi; exact .inr ho), h.c, h.us⟩
structure Ab (w : World) (P tt n : Nat) (x : Nat → Int) (k : Int) : Prop where
  t : w.heap[P]? = some (.cells #[.pointer (some ⟨tt, 0, none⟩)] 26 (0, 0))
  g : GeoAt w (P + 1) n
  x : w.heap[P + 1 + 1]? = some (.cells #[.int .i64 (x 0), .int .i64 (x 1), .int .i64 (x 2), .int .i64 (x 3), .int .i64 (x 4), .int .i64 (x 5), .int .i64 (x 6), .int .i64 (x 7), .int .i64 (x 8), .int .i64 (x 9), .int .i64 (x 10), .int .i64 (x 11), .int .i64 (x 12), .int .i64 (x 13), .int .i64 (x 14)] 35 (0, 0))
  k : w.heap[P + 1 + 1 + 1]? = some (.cells #[.int .i64 k] 3 (0, 0))
  r : w.heap[P + 1 + 1 + 1 + 1]? = some (.cells #[.int .i64 0, .int .i64 0, .int .i64 0, .int .i64 0, .int .i64 0, .int .i64 0, .int .i64 0, .int .i64 0, .int .i64 0, .int .i64 0, .int .i64 0, .int .i64 0, .int .i64 0, .int .i64 0, .int .i64 0] 35 (0, 0))
theorem Ab.fr {S : Nat → Prop} {w w' : World} {P tt n : Nat} {x : Nat → Int} {k : Int} (h : Ab w P tt n x k) (f : Fr S w w') (hS : ∀ i, P ≤ i → i < P + 5 → ¬ S i) : Ab w' P tt n x k := ⟨f.heap h.t (hS _ (by omega) (by omega)), f.heap h.g (hS _ (by omega) (by omega)), f.heap h.x (hS _ (by omega) (by omega)), f.heap h.k (hS _ (by omega) (by omega)), f.heap h.r (hS _ (by omega) (by omega))⟩
theorem Ab.on {w w' : World} {P tt n : Nat} {x : Nat → Int} {k : Int} (h : Ab w P tt n x k) (hb : Below w.heap.size w w') : Ab w' P tt n x k := h.fr (below_fr hb (fun _ => False)) (fun _ _ _ e => e)
theorem Ab.lt {w : World} {P tt n : Nat} {x : Nat → Int} {k : Int} (h : Ab w P tt n x k) : P + 1 + 1 + 1 + 1 < w.heap.size := heap_lt h.r
theorem Ab.xc {wx : World} {P tt n : Nat} {x : Nat → Int} {k : Int} (h : Ab wx P tt n x k) : wx.cell? ⟨P + 1 + 1, 0, none⟩ = some (.int .i64 (x 0)) ∧ wx.cell? ⟨P + 1 + 1, 1, none⟩ = some (.int .i64 (x 1)) ∧ wx.cell? ⟨P + 1 + 1, 2, none⟩ = some (.int .i64 (x 2)) ∧ wx.cell? ⟨P + 1 + 1, 3, none⟩ = some (.int .i64 (x 3)) ∧ wx.cell? ⟨P + 1 + 1, 4, none⟩ = some (.int .i64 (x 4)) ∧ wx.cell? ⟨P + 1 + 1, 5, none⟩ = some (.int .i64 (x 5)) ∧ wx.cell? ⟨P + 1 + 1, 6, none⟩ = some (.int .i64 (x 6)) ∧ wx.cell? ⟨P + 1 + 1, 7, none⟩ = some (.int .i64 (x 7)) ∧ wx.cell? ⟨P + 1 + 1, 8, none⟩ = some (.int .i64 (x 8)) ∧ wx.cell? ⟨P + 1 + 1, 9, none⟩ = some (.int .i64 (x 9)) ∧ wx.cell? ⟨P + 1 + 1, 10, none⟩ = some (.int .i64 (x 10)) ∧ wx.cell? ⟨P + 1 + 1, 11, none⟩ = some (.int .i64 (x 11)) ∧ wx.cell? ⟨P + 1 + 1, 12, none⟩ = some (.int .i64 (x 12)) ∧ wx.cell? ⟨P + 1 + 1, 13, none⟩ = some (.int .i64 (x 13)) ∧ wx.cell? ⟨P + 1 + 1, 14, none⟩ = some (.int .i64 (x 14)) := by
  have hc := fun j => cell_of_row _ _ j _ _ _ h.x
  exact ⟨hc 0, hc 1, hc 2, hc 3, hc 4, hc 5, hc 6, hc 7, hc 8, hc 9, hc 10, hc 11, hc 12, hc 13, hc 14⟩
theorem withN_self {V : Nat → Nat → Int} {x : Nat → Int} {ν : Nat → Nat} (h : Tre V x ν) : withN x ν = x := by
  funext i
  unfold withN
  split
  · have := h.own (i - 3) (by omega)
    rw [← this, show 3 + (i - 3) = i by omega]
  · rfl
theorem ab_new (w : World) (tt n : Nat) (x : Nat → Int) (k : Int) : Below w.heap.size w (((((w.alloc (.cells #[.pointer (some ⟨tt, 0, none⟩)] 26)).alloc (.cells #[.int .i64 (n : Int), .int .i64 98, .int .i64 (gI n), .int .i64 (gD n), .int .i64 (gC n)] 29)).alloc (.cells #[.int .i64 (x 0), .int .i64 (x 1), .int .i64 (x 2), .int .i64 (x 3), .int .i64 (x 4), .int .i64 (x 5), .int .i64 (x 6), .int .i64 (x 7), .int .i64 (x 8), .int .i64 (x 9), .int .i64 (x 10), .int .i64 (x 11), .int .i64 (x 12), .int .i64 (x 13), .int .i64 (x 14)] 35)).alloc (.cells #[.int .i64 k] 3)).alloc (.cells #[.int .i64 0, .int .i64 0, .int .i64 0, .int .i64 0, .int .i64 0, .int .i64 0, .int .i64 0, .int .i64 0, .int .i64 0, .int .i64 0, .int .i64 0, .int .i64 0, .int .i64 0, .int .i64 0, .int .i64 0] 35)) ∧ Ab (((((w.alloc (.cells #[.pointer (some ⟨tt, 0, none⟩)] 26)).alloc (.cells #[.int .i64 (n : Int), .int .i64 98, .int .i64 (gI n), .int .i64 (gD n), .int .i64 (gC n)] 29)).alloc (.cells #[.int .i64 (x 0), .int .i64 (x 1), .int .i64 (x 2), .int .i64 (x 3), .int .i64 (x 4), .int .i64 (x 5), .int .i64 (x 6), .int .i64 (x 7), .int .i64 (x 8), .int .i64 (x 9), .int .i64 (x 10), .int .i64 (x 11), .int .i64 (x 12), .int .i64 (x 13), .int .i64 (x 14)] 35)).alloc (.cells #[.int .i64 k] 3)).alloc (.cells #[.int .i64 0, .int .i64 0, .int .i64 0, .int .i64 0, .int .i64 0, .int .i64 0, .int .i64 0, .int .i64 0, .int .i64 0, .int .i64 0, .int .i64 0, .int .i64 0, .int .i64 0, .int .i64 0, .int .i64 0] 35)) w.heap.size tt n x k ∧ (((((w.alloc (.cells #[.pointer (some ⟨tt, 0, none⟩)] 26)).alloc (.cells #[.int .i64 (n : Int), .int .i64 98, .int .i64 (gI n), .int .i64 (gD n), .int .i64 (gC n)] 29)).alloc (.cells #[.int .i64 (x 0), .int .i64 (x 1), .int .i64 (x 2), .int .i64 (x 3), .int .i64 (x 4), .int .i64 (x 5), .int .i64 (x 6), .int .i64 (x 7), .int .i64 (x 8), .int .i64 (x 9), .int .i64 (x 10), .int .i64 (x 11), .int .i64 (x 12), .int .i64 (x 13), .int .i64 (x 14)] 35)).alloc (.cells #[.int .i64 k] 3)).alloc (.cells #[.int .i64 0, .int .i64 0, .int .i64 0, .int .i64 0, .int .i64 0, .int .i64 0, .int .i64 0, .int .i64 0, .int .i64 0, .int .i64 0, .int .i64 0, .int .i64 0, .int .i64 0, .int .i64 0, .int .i64 0] 35)).heap.size = w.heap.size + 5 := by
  refine ⟨(((((Below.refl _ _).alloc (Nat.le_refl _) _).alloc (by simp) _).alloc (by simp <;> omega) _).alloc (by simp <;> omega) _).alloc (by simp <;> omega) _, ⟨?_, ?_, ?_, ?_, ?_⟩, by simp⟩
  · exact (Below.heap_alloc _ _ _ (by simp <;> omega)).trans ((Below.heap_alloc _ _ _ (by simp <;> omega)).trans ((Below.heap_alloc _ _ _ (by simp <;> omega)).trans ((Below.heap_alloc _ _ _ (by simp)).trans (heap_alloc_new _ _))))
  · have := heap_alloc_new (w.alloc (.cells #[.pointer (some ⟨tt, 0, none⟩)] 26)) (.cells #[.int .i64 (n : Int), .int .i64 98, .int .i64 (gI n), .int .i64 (gD n), .int .i64 (gC n)] 29)
    rw [World.size_alloc] at this
    exact (Below.heap_alloc _ _ _ (by simp <;> omega)).trans ((Below.heap_alloc _ _ _ (by simp <;> omega)).trans ((Below.heap_alloc _ _ _ (by simp)).trans this))
  · have := heap_alloc_new ((w.alloc (.cells #[.pointer (some ⟨tt, 0, none⟩)] 26)).alloc (.cells #[.int .i64 (n : Int), .int .i64 98, .int .i64 (gI n), .int .i64 (gD n), .int .i64 (gC n)] 29)) (.cells #[.int .i64 (x 0), .int .i64 (x 1), .int .i64 (x 2), .int .i64 (x 3), .int .i64 (x 4), .int .i64 (x 5), .int .i64 (x 6), .int .i64 (x 7), .int .i64 (x 8), .int .i64 (x 9), .int .i64 (x 10), .int .i64 (x 11), .int .i64 (x 12), .int .i64 (x 13), .int .i64 (x 14)] 35)
    rw [World.size_alloc, World.size_alloc] at this
    exact (Below.heap_alloc _ _ _ (by simp <;> omega)).trans ((Below.heap_alloc _ _ _ (by simp)).trans this)
  · have := heap_alloc_new (((w.alloc (.cells #[.pointer (some ⟨tt, 0, none⟩)] 26)).alloc (.cells #[.int .i64 (n : Int), .int .i64 98, .int .i64 (gI n), .int .i64 (gD n), .int .i64 (gC n)] 29)).alloc (.cells #[.int .i64 (x 0), .int .i64 (x 1), .int .i64 (x 2), .int .i64 (x 3), .int .i64 (x 4), .int .i64 (x 5), .int .i64 (x 6), .int .i64 (x 7), .int .i64 (x 8), .int .i64 (x 9), .int .i64 (x 10), .int .i64 (x 11), .int .i64 (x 12), .int .i64 (x 13), .int .i64 (x 14)] 35)) (.cells #[.int .i64 k] 3)
    rw [World.size_alloc, World.size_alloc, World.size_alloc] at this
    exact (Below.heap_alloc _ _ _ (by simp)).trans this
  · have := heap_alloc_new ((((w.alloc (.cells #[.pointer (some ⟨tt, 0, none⟩)] 26)).alloc (.cells #[.int .i64 (n : Int), .int .i64 98, .int .i64 (gI n), .int .i64 (gD n), .int .i64 (gC n)] 29)).alloc (.cells #[.int .i64 (x 0), .int .i64 (x 1), .int .i64 (x 2), .int .i64 (x 3), .int .i64 (x 4), .int .i64 (x 5), .int .i64 (x 6), .int .i64 (x 7), .int .i64 (x 8), .int .i64 (x 9), .int .i64 (x 10), .int .i64 (x 11), .int .i64 (x 12), .int .i64 (x 13), .int .i64 (x 14)] 35)).alloc (.cells #[.int .i64 k] 3)) (.cells #[.int .i64 0, .int .i64 0, .int .i64 0, .int .i64 0, .int .i64 0, .int .i64 0, .int .i64 0, .int .i64 0, .int .i64 0, .int .i64 0, .int .i64 0, .int .i64 0, .int .i64 0, .int .i64 0, .int .i64 0] 35)
    rw [World.size_alloc, World.size_alloc, World.size_alloc, World.size_alloc] at this
    exact this
set_option maxRecDepth 100000 in
set_option maxHeartbeats 8000000 in
theorem add_any (w0 w : World) (D : Dk) (T : Tx) (n : Nat) (h : Spc w0 w D T n) (hT : TabAt w0) (x : Nat → Int) (ν : Nat → Nat) (hw : Wd D T n x ν) (k : Nat) (hk : k < 16522) (hu : T.us.length + 100 ≤ 1000000) :
    Calls Tryd.prog 6 #[.pointer (some ⟨T.t, 0, none⟩), geoV n, inV x, .int .i64 (k : Int)] w fun e w' => ∃ (N z : Nat) (y : Nat → Int) (T' : Tx), e = .returned (.tuple #[inV y, .int .i64 (N : Int), .int .i64 (z : Int)]) ∧ ((z = 0 ∧ ∃ ν', y = withN x ν' ∧ AdP D T T' n k x ν ν' N ∧ Gon w0 w w' D T T' n (fun _ => False)) ∨ (z ≠ 0 ∧ N = 0 ∧ y = (fun _ => 0) ∧ AdZ T n k ν (fd (nD n) n (bmp D T)) z ∧ BigE w0 w w' D T T' n)) := by
  have hk1 : ¬ (k : Int) < 0 := by omega
  have hk2 : ¬ (16522 : Int) ≤ (k : Int) := by omega
  obtain ⟨tt, htt⟩ : ∃ tt, T.t = tt := ⟨_, rfl⟩
  have hA := ab_new w tt n x (k : Int)
  obtain ⟨wz, hwz⟩ : ∃ wz, ((((w.alloc (.cells #[.pointer (some ⟨tt, 0, none⟩)] 26)).alloc (.cells #[.int .i64 (n : Int), .int .i64 98, .int .i64 (gI n), .int .i64 (gD n), .int .i64 (gC n)] 29)).alloc (.cells #[.int .i64 (x 0), .int .i64 (x 1), .int .i64 (x 2), .int .i64 (x 3), .int .i64 (x 4), .int .i64 (x 5), .int .i64 (x 6), .int .i64 (x 7), .int .i64 (x 8), .int .i64 (x 9), .int .i64 (x 10), .int .i64 (x 11), .int .i64 (x 12), .int .i64 (x 13), .int .i64 (x 14)] 35)).alloc (.cells #[.int .i64 (k : Int)] 3)).alloc (.cells #[.int .i64 0, .int .i64 0, .int .i64 0, .int .i64 0, .int .i64 0, .int .i64 0, .int .i64 0, .int .i64 0, .int .i64 0, .int .i64 0, .int .i64 0, .int .i64 0, .int .i64 0, .int .i64 0, .int .i64 0] 35) = wz := ⟨_, rfl⟩
  rw [hwz] at hA
  obtain ⟨P, hP⟩ : ∃ P, w.heap.size = P := ⟨_, rfl⟩
  have HA : Hid (Below w.heap.size w wz ∧ Ab wz P tt n x (k : Int) ∧ wz.heap.size = P + 5 ∧ w.heap.size = P) := ⟨hA.1, by rw [← hP]; exact hA.2.1, by rw [← hP]; exact hA.2.2, hP⟩
  have HS : Hid (Spc w0 w D T n ∧ TabAt w0 ∧ Wd D T n x ν ∧ k < 16522 ∧ T.us.length + 100 ≤ 1000000 ∧ T.t = tt) := ⟨h, hT, hw, hk, hu, htt⟩
  have HOr : Hid (∀ wx, Calls Tryd.prog 20 #[inV x] wx fun e w' => ∃ g cap, e = .returned (.agg #[.int .i64 0, .slice (some ⟨g, 0, none⟩) 12 cap]) ∧ wx.heap.size ≤ g ∧ OwnI w' g cap (ownN ν) ∧ Below wx.heap.size wx w') := fun wx => by
    rw [← inN_own hw.tre]; exact ownRow_any wx x
  rw [htt]
  clear hA h hT hw hk hu htt
  unfold geoV
  unfold inV at HOr ⊢
  have k0 : wz.cell? ⟨P + 1 + 1 + 1, 0, none⟩ = some (.int .i64 (k : Int)) := by rw [cell_of_row _ _ _ _ _ _ HA.out.2.1.k]; rfl
  obtain ⟨x0, x1, x2, x3, x4, x5, x6, x7, x8, x9, x10, x11, x12, x13, x14⟩ := HA.out.2.1.xc
  go_enter Tryd.func6, Tryd.ntmps6
  go_upto_region 4 with (go_at_call 20; refine (HOr.out _).mono ?_; rintro e w1 ⟨g0, cap0, rfl, h1, h2, h3⟩; have H1 : Hid (wz.heap.size ≤ g0 ∧ OwnI w1 g0 cap0 (ownN ν) ∧ Below wz.heap.size wz w1) := ⟨h1, h2, h3⟩; clear h1 h2 h3 HOr)
  obtain ⟨R1, hR1⟩ : ∃ R1, w1.heap.size = R1 := ⟨_, rfl⟩
  obtain ⟨w2, hw2⟩ : ∃ w2, (w1.alloc (.cells #[.int .i64 0, .slice (some ⟨g0, 0, none⟩) 12 cap0] 69)).alloc (.cells #[.int .i64 0] 3) = w2 := ⟨_, rfl⟩
  have H2 : Hid (Ab w2 P tt n x (k : Int) ∧ w2.heap[R1]? = some (.cells #[.int .i64 0, .slice (some ⟨g0, 0, none⟩) 12 cap0] 69 (0, 0)) ∧ w2.heap[R1 + 1]? = some (.cells #[.int .i64 0] 3 (0, 0)) ∧ OwnI w2 g0 cap0 (ownN ν) ∧ Below w.heap.size w w2 ∧ P + 5 ≤ g0 ∧ g0 < R1 ∧ w2.heap.size = R1 + 2) := by
    have hb1 : Below w.heap.size w w1 := HA.out.1.trans (H1.out.2.2.mono HA.out.1.size)
    have hb2 : Below w1.heap.size w1 w2 := by rw [← hw2]; exact (below_new _).alloc (by simp) _
    have hs := HA.out.2.2.1
    have hg := H1.out.1
    have hgl := H1.out.2.1.lt
    refine ⟨(HA.out.2.1.on H1.out.2.2).on hb2, ?_, ?_, H1.out.2.1.on hb2, hb1.trans (hb2.mono hb1.size), by omega, by omega, by rw [← hw2]; simp [hR1]⟩
    · rw [← hw2, ← hR1]
      exact (Below.heap_alloc _ _ _ (by simp)).trans (heap_alloc_new _ _)
    · have := heap_alloc_new (w1.alloc (.cells #[.int .i64 0, .slice (some ⟨g0, 0, none⟩) 12 cap0] 69)) (.cells #[.int .i64 0] 3)
      rw [World.size_alloc, hR1] at this
      rw [← hw2]
      exact this
  rw [hw2, hR1]
  clear hw2 hwz hR1 k0 x0 x1 x2 x3 x4 x5 x6 x7 x8 x9 x10 x11 x12 x13 x14
  have t0 : w2.cell? ⟨P, 0, none⟩ = some (.pointer (some ⟨tt, 0, none⟩)) := by rw [cell_of_row _ _ _ _ _ _ H2.out.1.t]; rfl
  have HWh : Hid (Calls Tryd.prog 21 #[.pointer (some ⟨tt, 0, none⟩), .func (.func 22) #[] #[.pointer (some ⟨P, 0, none⟩), .pointer (some ⟨P + 1, 0, none⟩), .pointer (some ⟨R1, 0, none⟩), .pointer (some ⟨P + 1 + 1 + 1, 0, none⟩), .pointer (some ⟨R1 + 1, 0, none⟩)]] w2 fun e w' => ∃ (z : Nat) (T' : Tx), e = .returned (.int .i64 (z : Int)) ∧ ((z = 0 ∧ ∃ E w1, WhE w0 w2 w' D T T' n (fun i => i = g0 ∨ i = R1 + 1) (AdA D T n k g0 cap0 (R1 + 1) x ν) E w1) ∨ (z ≠ 0 ∧ (∃ T1 w1, AdA D T n k g0 cap0 (R1 + 1) x ν z T1 w1) ∧ Bck w0 w2 w' D T T' n (fun i => i = g0 ∨ i = R1 + 1)))) := by
    obtain ⟨h1, h2, h3, h4, h5, h6, h7, h8⟩ := H2.out
    obtain ⟨s1, s2, s3, s4, s5, s6⟩ := HS.out
    have hP := HA.out.2.2.2
    have hb9 : ∀ wx, Below w2.heap.size w2 wx → Below w.heap.size w wx := fun wx hb => h5.trans (hb.mono h5.size)
    have hlt := h1.lt
    have hout : ∀ wx q, Below w2.heap.size w2 wx → P ≤ q → q < R1 + 2 → Out w0 wx D T q := fun wx q hb hq hq2 => Out.of s1 (by omega) (by have := hb.size; omega)
    have := whole_add w0 w2 D T n (s1.on h5) (fun i => i = g0 ∨ i = R1 + 1) (fun i hi => by rcases hi with rfl | rfl <;> omega) P (P + 1) R1 (P + 1 + 1 + 1) (R1 + 1) (AdA D T n k g0 cap0 (R1 + 1) x ν) (fun wx hb => add1_any w0 wx D T n (s1.on (hb9 wx hb)) s2 k s4 g0 cap0 x ν (h4.on hb) (hout wx _ hb (by omega) (by omega)) (by rw [withN_self s3.tre]; exact s3) s5 P (P + 1) R1 (P + 1 + 1 + 1) (R1 + 1) (by rw [s6, cell_of_row _ _ _ _ _ _ (h1.on hb).t]; rfl) (h1.on hb).g ((hb.block _ (by omega)).trans h2) (by rw [cell_of_row _ _ _ _ _ _ (h1.on hb).k]; rfl) ((hb.block _ (by omega)).trans h3) ⟨hout wx _ hb (by omega) (by omega), by omega⟩ ⟨hout wx _ hb (by omega) (by omega), by omega⟩ ⟨hout wx _ hb (by omega) (by omega), by omega⟩)
    rw [s6] at this
    exact this
  go_upto_region 5 with (go_at_call 21; refine HWh.out.mono ?_; rintro e w3 ⟨z, T1, rfl, hor⟩; have H3 : Hid ((z = 0 ∧ ∃ E w1, WhE w0 w2 w3 D T T1 n (fun i => i = g0 ∨ i = R1 + 1) (AdA D T n k g0 cap0 (R1 + 1) x ν) E w1) ∨ (z ≠ 0 ∧ (∃ T1 w1, AdA D T n k g0 cap0 (R1 + 1) x ν z T1 w1) ∧ Bck w0 w2 w3 D T T1 n (fun i => i = g0 ∨ i = R1 + 1))) := hor; clear hor HWh)
  clear t0
  rcases H3.out with ⟨rfl, E, w4, hWe⟩ | ⟨hz, ⟨T2, w4, hA⟩, hBk⟩
  · obtain ⟨ν', N, hAd, hog, hN⟩ : ∃ ν' N, AdP D T T1 n k x ν ν' N ∧ OwnI w4 g0 cap0 (ownN ν') ∧ w4.cell? ⟨R1 + 1, 0, none⟩ = some (.int .i64 (N : Int)) := by
      rcases hWe.a with ⟨_, e⟩ | ⟨e, _⟩
      · exact e
      · exact absurd rfl e
    have HE : Hid (AdP D T T1 n k x ν ν' N ∧ Gon w0 w w3 D T T1 n (fun _ => False) ∧ Out w0 w3 D T1 (P + 1 + 1 + 1 + 1)) := by
      refine ⟨hAd, ⟨?_, ?_, hWe.gon.dom⟩, ((Out.of HS.out.1 (w1 := w2) (by have := HA.out.2.2.2; omega) H2.out.1.lt).mv hWe.gon.mv).mv (SMv.fr_ hWe.fr)⟩
      · refine (((SMv.on H2.out.2.2.2.2.1).trans hWe.gon.mv (fun i hi => .inr ?_)).trans (SMv.fr_ hWe.fr) (fun i hi => .inr ?_))
        · have := HA.out.2.2.2; have := H2.out.2.2.2.2.2; rcases hi with e | e <;> omega
        · have hi : i = E := hi
          have := hWe.le; have := H2.out.2.2.2.2.1.size; omega
      · exact hWe.gon.spc.frG hWe.fr (fun i hi => by have hi : i = E := hi; subst hi; exact .inr hWe.out)
    have H4 : Hid (Ab w3 P tt n x (k : Int) ∧ w3.heap[R1]? = some (.cells #[.int .i64 0, .slice (some ⟨g0, 0, none⟩) 12 cap0] 69 (0, 0)) ∧ w3.cell? ⟨R1 + 1, 0, none⟩ = some (.int .i64 (N : Int)) ∧ OwnI w3 g0 cap0 (ownN ν')) := by
      obtain ⟨h1, h2, h3, h4, h5, h6, h7, h8⟩ := H2.out
      have hP := HA.out.2.2.2
      have hE := hWe.le
      have hno : ∀ i, P ≤ i → i ≠ g0 → i ≠ R1 + 1 → ¬ (T.has i ∨ (i = g0 ∨ i = R1 + 1)) := fun i hi e1 e2 e => by
        rcases e with e | e | e
        · have := HS.out.1.ses.tx.lt (.inl e); omega
        · exact e1 e
        · exact e2 e
      have hlt := h1.lt
      exact ⟨(h1.fr hWe.gon.mv.fr (fun i e1 e2 => hno i e1 (by omega) (by omega))).fr hWe.fr (fun i e1 e2 => by show ¬ i = E; omega), hWe.fr.heap (hWe.gon.mv.fr.heap h2 (hno _ (by omega) (by omega) (by omega))) (by show ¬ R1 = E; omega), hWe.fr.cell hN (by show ¬ R1 + 1 = E; omega), hog.fr hWe.fr (by show ¬ g0 = E; omega)⟩
    clear hAd hog hN hWe
    have HIn : Hid (∀ wx, Below w3.heap.size w3 wx → Calls Tryd.prog 26 #[.agg #[.int .i64 0, .slice (some ⟨g0, 0, none⟩) 12 cap0], .agg #[.int .i64 (x 0), .int .i64 (x 1), .int .i64 (x 2), .int .i64 (x 3), .int .i64 (x 4), .int .i64 (x 5), .int .i64 (x 6), .int .i64 (x 7), .int .i64 (x 8), .int .i64 (x 9), .int .i64 (x 10), .int .i64 (x 11), .int .i64 (x 12), .int .i64 (x 13), .int .i64 (x 14)]] wx fun e w' => e = .returned (inV (withN x ν')) ∧ Below wx.heap.size wx w') := fun wx hb => in_any wx x ν' g0 cap0 0 (H4.out.2.2.2.on hb)
    have HXc : Hid (∀ wx, Below w3.heap.size w3 wx → wx.cell? ⟨R1, 0, none⟩ = some (.int .i64 0) ∧ wx.cell? ⟨R1, 1, none⟩ = some (.slice (some ⟨g0, 0, none⟩) 12 cap0) ∧ wx.cell? ⟨R1 + 1, 0, none⟩ = some (.int .i64 (N : Int)) ∧ wx.cell? ⟨P + 1 + 1, 0, none⟩ = some (.int .i64 (x 0)) ∧ wx.cell? ⟨P + 1 + 1, 1, none⟩ = some (.int .i64 (x 1)) ∧ wx.cell? ⟨P + 1 + 1, 2, none⟩ = some (.int .i64 (x 2)) ∧ wx.cell? ⟨P + 1 + 1, 3, none⟩ = some (.int .i64 (x 3)) ∧ wx.cell? ⟨P + 1 + 1, 4, none⟩ = some (.int .i64 (x 4)) ∧ wx.cell? ⟨P + 1 + 1, 5, none⟩ = some (.int .i64 (x 5)) ∧ wx.cell? ⟨P + 1 + 1, 6, none⟩ = some (.int .i64 (x 6)) ∧ wx.cell? ⟨P + 1 + 1, 7, none⟩ = some (.int .i64 (x 7)) ∧ wx.cell? ⟨P + 1 + 1, 8, none⟩ = some (.int .i64 (x 8)) ∧ wx.cell? ⟨P + 1 + 1, 9, none⟩ = some (.int .i64 (x 9)) ∧ wx.cell? ⟨P + 1 + 1, 10, none⟩ = some (.int .i64 (x 10)) ∧ wx.cell? ⟨P + 1 + 1, 11, none⟩ = some (.int .i64 (x 11)) ∧ wx.cell? ⟨P + 1 + 1, 12, none⟩ = some (.int .i64 (x 12)) ∧ wx.cell? ⟨P + 1 + 1, 13, none⟩ = some (.int .i64 (x 13)) ∧ wx.cell? ⟨P + 1 + 1, 14, none⟩ = some (.int .i64 (x 14))) := fun wx hb => by
      have hr := (hb.block _ (heap_lt H4.out.2.1)).trans H4.out.2.1
      exact ⟨by rw [cell_of_row _ _ _ _ _ _ hr]; rfl, by rw [cell_of_row _ _ _ _ _ _ hr]; rfl, (hb.cell (p := ⟨R1 + 1, 0, none⟩) (block_lt_of_cell H4.out.2.2.1)).trans H4.out.2.2.1, (H4.out.1.on hb).xc⟩
    obtain ⟨y, hy⟩ : ∃ y, withN x ν' = y := ⟨_, rfl⟩
    have HY : Hid (withN x ν' = y) := hy
    rw [hy] at HIn
    unfold inV at HIn
    clear hy
    have HRs : Hid (∀ wx, Below w3.heap.size w3 wx → wx.heap[P + 1 + 1 + 1 + 1]? = some (.cells #[.int .i64 0, .int .i64 0, .int .i64 0, .int .i64 0, .int .i64 0, .int .i64 0, .int .i64 0, .int .i64 0, .int .i64 0, .int .i64 0, .int .i64 0, .int .i64 0, .int .i64 0, .int .i64 0, .int .i64 0] 35 (0, 0))) := fun wx hb => (H4.out.1.on hb).r
    obtain ⟨q0, q1, q2, x0, x1, x2, x3, x4, x5, x6, x7, x8, x9, x10, x11, x12, x13, x14⟩ := HXc.out _ (Below.refl _ _)
    have HD : Hid (Below w3.heap.size w3 w3.drew) := (Below.refl _ _).drew
    have hRP : P + 5 < R1 := by have := H2.out.2.2.2.2.2; omega
    have ne1 : ¬ R1 = P + 1 + 1 + 1 := by omega
    have ne2 : ¬ R1 = P + 1 + 1 + 1 + 1 := by omega
    have ne3 : ¬ P + 1 + 1 + 1 = R1 := by omega
    have ne4 : ¬ P + 1 + 1 + 1 + 1 = R1 := by omega
    clear hRP
    go_upto_region 7 with (fail)
    go_region_law (go_simp; first
      | (go_at_call 26; refine (HIn.out _ (by repeat (first | exact Below.refl _ _ | apply Below.drew))).mono ?_; rintro e w5 ⟨rfl, hb⟩; have H5 : Hid (Below w3.heap.size w3 w5) := HD.out.trans (hb.mono HD.out.size); obtain ⟨p0, p1, p2, v0, v1, v2, v3, v4, v5, v6, v7, v8, v9, v10, v11, v12, v13, v14⟩ := HXc.out _ H5.out; have hrs := HRs.out _ H5.out; have d0 : w5.cell? ⟨P + 1 + 1 + 1 + 1, 0, none⟩ = some (.int .i64 0) := cell_of_row _ _ 0 _ _ _ hrs; have e0 : w5.frozen? ⟨P + 1 + 1 + 1 + 1, 0, none⟩ = false := frozen_of_row _ _ _ _ _ hrs; have d1 : w5.cell? ⟨P + 1 + 1 + 1 + 1, 1, none⟩ = some (.int .i64 0) := cell_of_row _ _ 1 _ _ _ hrs; have e1 : w5.frozen? ⟨P + 1 + 1 + 1 + 1, 1, none⟩ = false := frozen_of_row _ _ _ _ _ hrs; have d2 : w5.cell? ⟨P + 1 + 1 + 1 + 1, 2, none⟩ = some (.int .i64 0) := cell_of_row _ _ 2 _ _ _ hrs; have e2 : w5.frozen? ⟨P + 1 + 1 + 1 + 1, 2, none⟩ = false := frozen_of_row _ _ _ _ _ hrs; have d3 : w5.cell? ⟨P + 1 + 1 + 1 + 1, 3, none⟩ = some (.int .i64 0) := cell_of_row _ _ 3 _ _ _ hrs; have e3 : w5.frozen? ⟨P + 1 + 1 + 1 + 1, 3, none⟩ = false := frozen_of_row _ _ _ _ _ hrs; have d4 : w5.cell? ⟨P + 1 + 1 + 1 + 1, 4, none⟩ = some (.int .i64 0) := cell_of_row _ _ 4 _ _ _ hrs; have e4 : w5.frozen? ⟨P + 1 + 1 + 1 + 1, 4, none⟩ = false := frozen_of_row _ _ _ _ _ hrs; have d5 : w5.cell? ⟨P + 1 + 1 + 1 + 1, 5, none⟩ = some (.int .i64 0) := cell_of_row _ _ 5 _ _ _ hrs; have e5 : w5.frozen? ⟨P + 1 + 1 + 1 + 1, 5, none⟩ = false := frozen_of_row _ _ _ _ _ hrs; have d6 : w5.cell? ⟨P + 1 + 1 + 1 + 1, 6, none⟩ = some (.int .i64 0) := cell_of_row _ _ 6 _ _ _ hrs; have e6 : w5.frozen? ⟨P + 1 + 1 + 1 + 1, 6, none⟩ = false := frozen_of_row _ _ _ _ _ hrs; have d7 : w5.cell? ⟨P + 1 + 1 + 1 + 1, 7, none⟩ = some (.int .i64 0) := cell_of_row _ _ 7 _ _ _ hrs; have e7 : w5.frozen? ⟨P + 1 + 1 + 1 + 1, 7, none⟩ = false := frozen_of_row _ _ _ _ _ hrs; have d8 : w5.cell? ⟨P + 1 + 1 + 1 + 1, 8, none⟩ = some (.int .i64 0) := cell_of_row _ _ 8 _ _ _ hrs; have e8 : w5.frozen? ⟨P + 1 + 1 + 1 + 1, 8, none⟩ = false := frozen_of_row _ _ _ _ _ hrs; have d9 : w5.cell? ⟨P + 1 + 1 + 1 + 1, 9, none⟩ = some (.int .i64 0) := cell_of_row _ _ 9 _ _ _ hrs; have e9 : w5.frozen? ⟨P + 1 + 1 + 1 + 1, 9, none⟩ = false := frozen_of_row _ _ _ _ _ hrs; have d10 : w5.cell? ⟨P + 1 + 1 + 1 + 1, 10, none⟩ = some (.int .i64 0) := cell_of_row _ _ 10 _ _ _ hrs; have e10 : w5.frozen? ⟨P + 1 + 1 + 1 + 1, 10, none⟩ = false := frozen_of_row _ _ _ _ _ hrs; have d11 : w5.cell? ⟨P + 1 + 1 + 1 + 1, 11, none⟩ = some (.int .i64 0) := cell_of_row _ _ 11 _ _ _ hrs; have e11 : w5.frozen? ⟨P + 1 + 1 + 1 + 1, 11, none⟩ = false := frozen_of_row _ _ _ _ _ hrs; have d12 : w5.cell? ⟨P + 1 + 1 + 1 + 1, 12, none⟩ = some (.int .i64 0) := cell_of_row _ _ 12 _ _ _ hrs; have e12 : w5.frozen? ⟨P + 1 + 1 + 1 + 1, 12, none⟩ = false := frozen_of_row _ _ _ _ _ hrs; have d13 : w5.cell? ⟨P + 1 + 1 + 1 + 1, 13, none⟩ = some (.int .i64 0) := cell_of_row _ _ 13 _ _ _ hrs; have e13 : w5.frozen? ⟨P + 1 + 1 + 1 + 1, 13, none⟩ = false := frozen_of_row _ _ _ _ _ hrs; have d14 : w5.cell? ⟨P + 1 + 1 + 1 + 1, 14, none⟩ = some (.int .i64 0) := cell_of_row _ _ 14 _ _ _ hrs; have e14 : w5.frozen? ⟨P + 1 + 1 + 1 + 1, 14, none⟩ = false := frozen_of_row _ _ _ _ _ hrs; clear hb hrs HIn))
    all_goals go_wp2
    all_goals (
      refine bodyPost_ret (v := .tuple #[.agg #[.int .i64 (y 0), .int .i64 (y 1), .int .i64 (y 2), .int .i64 (y 3), .int .i64 (y 4), .int .i64 (y 5), .int .i64 (y 6), .int .i64 (y 7), .int .i64 (y 8), .int .i64 (y 9), .int .i64 (y 10), .int .i64 (y 11), .int .i64 (y 12), .int .i64 (y 13), .int .i64 (y 14)], .int .i64 (N : Int), .int .i64 0]) (res_row_tmp2 (fn := Tryd.f6) (p := 8) (u := 9) (v := 10) (ty := 35) rfl _ _ (P + 1 + 1 + 1 + 1) #[.int .i64 (y 0), .int .i64 (y 1), .int .i64 (y 2), .int .i64 (y 3), .int .i64 (y 4), .int .i64 (y 5), .int .i64 (y 6), .int .i64 (y 7), .int .i64 (y 8), .int .i64 (y 9), .int .i64 (y 10), .int .i64 (y 11), .int .i64 (y 12), .int .i64 (y 13), .int .i64 (y 14)] rfl ?_) rfl ?_
      · exact load15 _ (P + 1 + 1 + 1 + 1) (y 0) (y 1) (y 2) (y 3) (y 4) (y 5) (y 6) (y 7) (y 8) (y 9) (y 10) (y 11) (y 12) (y 13) (y 14) (set15 w5 (P + 1 + 1 + 1 + 1) (.int .i64 0) (.int .i64 0) (.int .i64 0) (.int .i64 0) (.int .i64 0) (.int .i64 0) (.int .i64 0) (.int .i64 0) (.int .i64 0) (.int .i64 0) (.int .i64 0) (.int .i64 0) (.int .i64 0) (.int .i64 0) (.int .i64 0) (.int .i64 (y 0)) (.int .i64 (y 1)) (.int .i64 (y 2)) (.int .i64 (y 3)) (.int .i64 (y 4)) (.int .i64 (y 5)) (.int .i64 (y 6)) (.int .i64 (y 7)) (.int .i64 (y 8)) (.int .i64 (y 9)) (.int .i64 (y 10)) (.int .i64 (y 11)) (.int .i64 (y 12)) (.int .i64 (y 13)) (.int .i64 (y 14)) (HRs.out _ H5.out))
      · have hb9 : Below w3.heap.size w3 w5 := H5.out
        refine ⟨N, 0, y, rfl, T1, .inl ⟨rfl, ν', HY.out.symm, HE.out.1, HE.out.2.1.box hb9 ?_ (by have := HA.out.2.2.2; omega) HE.out.2.2⟩⟩
        iterate 15 refine Fr.trans ?_ (Fr.set (g := P + 1 + 1 + 1 + 1)) (fun _ h => .inl h)
        exact Fr.refl _ _)
  · have hz' : ((z : Int) != 0) = true := by simp; omega
    have hz2 : ((z : Int) == 0) = false := by simp; omega
    have H4 : Hid (Ab w3 P tt n x (k : Int) ∧ Out w0 w3 D T1 (P + 1 + 1 + 1 + 1)) := by
      obtain ⟨h1, h2, h3, h4, h5, h6, h7, h8⟩ := H2.out
      have hP := HA.out.2.2.2
      have hno : ∀ i, P ≤ i → i ≠ g0 → i ≠ R1 + 1 → ¬ (T.has i ∨ (i = g0 ∨ i = R1 + 1)) := fun i hi e1 e2 e => by
        rcases e with e | e | e
        · have := HS.out.1.ses.tx.lt (.inl e); omega
        · exact e1 e
        · exact e2 e
      have hlt := h1.lt
      exact ⟨h1.fr hBk.mv.fr (fun i e1 e2 => hno i e1 (by omega) (by omega)), (Out.of HS.out.1 (w1 := w2) (by omega) h1.lt).mv hBk.mv⟩
    have HE : Hid (AdZ T n k ν (fd (nD n) n (bmp D T)) z ∧ BigE w0 w w3 D T T1 n ∧ z ≠ 0) := by
      refine ⟨?_, ⟨?_, hBk.spc, hBk.c, hBk.us⟩, hz⟩
      · rcases hA with ⟨e, _⟩ | ⟨_, e⟩
        · exact absurd e hz
        · exact e
      · have hm : SMv (fun _ => False) w T w3 T1 := (SMv.on H2.out.2.2.2.2.1).trans hBk.mv (fun i hi => .inr (by have := HA.out.2.2.2; have := H2.out.2.2.2.2.2; rcases hi with e | e <;> omega))
        exact ⟨hm.fr.mono (fun i hi => hi.elim id (fun e => e.elim)), hm.al, hm.has, hm.t, hm.d, hm.nb⟩
    have hrs := H4.out.1.r
    have d0 : w3.cell? ⟨P + 1 + 1 + 1 + 1, 0, none⟩ = some (.int .i64 0) := cell_of_row _ _ 0 _ _ _ hrs
    have e0 : w3.frozen? ⟨P + 1 + 1 + 1 + 1, 0, none⟩ = false := frozen_of_row _ _ _ _ _ hrs
    have d1 : w3.cell? ⟨P + 1 + 1 + 1 + 1, 1, none⟩ = some (.int .i64 0) := cell_of_row _ _ 1 _ _ _ hrs
    have e1 : w3.frozen? ⟨P + 1 + 1 + 1 + 1, 1, none⟩ = false := frozen_of_row _ _ _ _ _ hrs
    have d2 : w3.cell? ⟨P + 1 + 1 + 1 + 1, 2, none⟩ = some (.int .i64 0) := cell_of_row _ _ 2 _ _ _ hrs
    have e2 : w3.frozen? ⟨P + 1 + 1 + 1 + 1, 2, none⟩ = false := frozen_of_row _ _ _ _ _ hrs
    have d3 : w3.cell? ⟨P + 1 + 1 + 1 + 1, 3, none⟩ = some (.int .i64 0) := cell_of_row _ _ 3 _ _ _ hrs
    have e3 : w3.frozen? ⟨P + 1 + 1 + 1 + 1, 3, none⟩ = false := frozen_of_row _ _ _ _ _ hrs
    have d4 : w3.cell? ⟨P + 1 + 1 + 1 + 1, 4, none⟩ = some (.int .i64 0) := cell_of_row _ _ 4 _ _ _ hrs
    have e4 : w3.frozen? ⟨P + 1 + 1 + 1 + 1, 4, none⟩ = false := frozen_of_row _ _ _ _ _ hrs
    have d5 : w3.cell? ⟨P + 1 + 1 + 1 + 1, 5, none⟩ = some (.int .i64 0) := cell_of_row _ _ 5 _ _ _ hrs
    have e5 : w3.frozen? ⟨P + 1 + 1 + 1 + 1, 5, none⟩ = false := frozen_of_row _ _ _ _ _ hrs
    have d6 : w3.cell? ⟨P + 1 + 1 + 1 + 1, 6, none⟩ = some (.int .i64 0) := cell_of_row _ _ 6 _ _ _ hrs
    have e6 : w3.frozen? ⟨P + 1 + 1 + 1 + 1, 6, none⟩ = false := frozen_of_row _ _ _ _ _ hrs
    have d7 : w3.cell? ⟨P + 1 + 1 + 1 + 1, 7, none⟩ = some (.int .i64 0) := cell_of_row _ _ 7 _ _ _ hrs
    have e7 : w3.frozen? ⟨P + 1 + 1 + 1 + 1, 7, none⟩ = false := frozen_of_row _ _ _ _ _ hrs
    have d8 : w3.cell? ⟨P + 1 + 1 + 1 + 1, 8, none⟩ = some (.int .i64 0) := cell_of_row _ _ 8 _ _ _ hrs
    have e8 : w3.frozen? ⟨P + 1 + 1 + 1 + 1, 8, none⟩ = false := frozen_of_row _ _ _ _ _ hrs
    have d9 : w3.cell? ⟨P + 1 + 1 + 1 + 1, 9, none⟩ = some (.int .i64 0) := cell_of_row _ _ 9 _ _ _ hrs
    have e9 : w3.frozen? ⟨P + 1 + 1 + 1 + 1, 9, none⟩ = false := frozen_of_row _ _ _ _ _ hrs
    have d10 : w3.cell? ⟨P + 1 + 1 + 1 + 1, 10, none⟩ = some (.int .i64 0) := cell_of_row _ _ 10 _ _ _ hrs
    have e10 : w3.frozen? ⟨P + 1 + 1 + 1 + 1, 10, none⟩ = false := frozen_of_row _ _ _ _ _ hrs
    have d11 : w3.cell? ⟨P + 1 + 1 + 1 + 1, 11, none⟩ = some (.int .i64 0) := cell_of_row _ _ 11 _ _ _ hrs
    have e11 : w3.frozen? ⟨P + 1 + 1 + 1 + 1, 11, none⟩ = false := frozen_of_row _ _ _ _ _ hrs
    have d12 : w3.cell? ⟨P + 1 + 1 + 1 + 1, 12, none⟩ = some (.int .i64 0) := cell_of_row _ _ 12 _ _ _ hrs
    have e12 : w3.frozen? ⟨P + 1 + 1 + 1 + 1, 12, none⟩ = false := frozen_of_row _ _ _ _ _ hrs
    have d13 : w3.cell? ⟨P + 1 + 1 + 1 + 1, 13, none⟩ = some (.int .i64 0) := cell_of_row _ _ 13 _ _ _ hrs
    have e13 : w3.frozen? ⟨P + 1 + 1 + 1 + 1, 13, none⟩ = false := frozen_of_row _ _ _ _ _ hrs
    have d14 : w3.cell? ⟨P + 1 + 1 + 1 + 1, 14, none⟩ = some (.int .i64 0) := cell_of_row _ _ 14 _ _ _ hrs
    have e14 : w3.frozen? ⟨P + 1 + 1 + 1 + 1, 14, none⟩ = false := frozen_of_row _ _ _ _ _ hrs
    clear hA hBk hrs hz H3
    go_wp2
    refine bodyPost_ret (v := .tuple #[.agg #[.int .i64 0, .int .i64 0, .int .i64 0, .int .i64 0, .int .i64 0, .int .i64 0, .int .i64 0, .int .i64 0, .int .i64 0, .int .i64 0, .int .i64 0, .int .i64 0, .int .i64 0, .int .i64 0, .int .i64 0], .int .i64 0, .int .i64 (z : Int)]) (res_row_tmp2 (fn := Tryd.f6) (p := 8) (u := 9) (v := 10) (ty := 35) rfl _ _ (P + 1 + 1 + 1 + 1) #[.int .i64 0, .int .i64 0, .int .i64 0, .int .i64 0, .int .i64 0, .int .i64 0, .int .i64 0, .int .i64 0, .int .i64 0, .int .i64 0, .int .i64 0, .int .i64 0, .int .i64 0, .int .i64 0, .int .i64 0] rfl ?_) rfl ?_
    · exact load15 _ (P + 1 + 1 + 1 + 1) 0 0 0 0 0 0 0 0 0 0 0 0 0 0 0 (set15 w3 (P + 1 + 1 + 1 + 1) (.int .i64 0) (.int .i64 0) (.int .i64 0) (.int .i64 0) (.int .i64 0) (.int .i64 0) (.int .i64 0) (.int .i64 0) (.int .i64 0) (.int .i64 0) (.int .i64 0) (.int .i64 0) (.int .i64 0) (.int .i64 0) (.int .i64 0) (.int .i64 0) (.int .i64 0) (.int .i64 0) (.int .i64 0) (.int .i64 0) (.int .i64 0) (.int .i64 0) (.int .i64 0) (.int .i64 0) (.int .i64 0) (.int .i64 0) (.int .i64 0) (.int .i64 0) (.int .i64 0) (.int .i64 0) H4.out.1.r)
    · refine ⟨0, z, (fun _ => 0), T1, rfl, .inr ⟨HE.out.2.2, rfl, rfl, HE.out.1, HE.out.2.1.box ?_ (by have := HA.out.2.2.2; omega) H4.out.2⟩⟩
      iterate 15 refine Fr.trans ?_ (Fr.set (g := P + 1 + 1 + 1 + 1)) (fun _ h => .inl h)
      exact Fr.refl _ _
end Go.Proofs.YtgmccpimpbnnpaaDoor
