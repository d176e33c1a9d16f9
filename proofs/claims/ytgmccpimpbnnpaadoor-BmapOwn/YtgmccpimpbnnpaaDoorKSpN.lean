import Derived.Test.YtgmccpimpbnnpaaDoorKSpP
import Derived.Test.YtgmccpimpbnnpaaDoorKSpR
import Derived.Deep.RegionHeld3
import Derived.Test.YtgmccpimpbnnpaaDoorKMathR
import Derived.Test.YtgmccpimpbnnpaaDoorKSmall
namespace Go.Proofs.YtgmccpimpbnnpaaDoor
open Go.RowKit Go.Maps Rec
structure BoAt (w : World) (R n : Nat) (F : Nat → Bool) : Prop where
  cell : ∀ j, j < n → w.cell? ⟨R, j, none⟩ = some (.bool (F j))
  frz : ∀ j, w.frozen? ⟨R, j, none⟩ = false
  lt : R < w.heap.size
theorem BoAt.fr {S : Nat → Prop} {w w' : World} {R n : Nat} {F : Nat → Bool} (h : BoAt w R n F) (x : Fr S w w') (hS : ¬ S R) : BoAt w' R n F :=
  ⟨fun j hj => x.cell (h.cell j hj) hS, fun j => by
    have e := x.block R h.lt hS
    rw [← h.frz j]
    simp only [World.frozen?, e], Nat.lt_of_lt_of_le h.lt x.size⟩
theorem BoAt.on {w w' : World} {R n : Nat} {F : Nat → Bool} (h : BoAt w R n F) (x : Below w.heap.size w w') : BoAt w' R n F := h.fr (below_fr x (fun _ => False)) (fun e => e)
theorem BoAt.set {w : World} {R n : Nat} {F : Nat → Bool} (h : BoAt w R n F) (i : Nat) (b : Bool) (hi : i < n) : BoAt (w.setCell ⟨R, i, none⟩ (.bool b)) R n (fun j => if j = i then b else F j) := by
  refine ⟨fun j hj => ?_, fun j => by rw [World.frozen?_setCell]; exact h.frz j, by rw [World.size_setCell]; exact h.lt⟩
  by_cases e : j = i
  · subst e
    rw [if_pos rfl]
    exact World.cell?_setCell_same' _ _ _ (by rw [h.cell j hj]; rfl)
  · rw [if_neg e, World.cell?_setCell_other (h := fun x => e (by injection x with _ h2 _; exact h2.symm))]
    exact h.cell j hj
theorem fd_cong {lo hi M : Nat} {B B' : Nat → List Int} (h : ∀ k, k < M → B k = B' k) (hM : hi ≤ 4096 * M) : fd lo hi B = fd lo hi B' := by
  funext j
  unfold fd isT
  by_cases e : lo ≤ j ∧ j < hi
  · rw [h (j / 4096) (by omega)]
  · rw [decide_eq_false e]; rfl
theorem give_fd {w0 w w' : World} {D : Dk} {T T' : Tx} {n i : Nat} (h : Spc w0 w D T n) (g : GiveE w0 w w' D T T' n i) (h0 : nD n ≤ i) (h1 : i < n) : fd (nD n) n (bmp D T') = fun j => if j = i then true else fd (nD n) n (bmp D T) j := by
  have hN := nM_bd h.lo h.hi
  have hM : i / 4096 < nM n := by unfold nM; omega
  obtain ⟨q, hc, hq⟩ := g.c
  rw [← Bool.not_false, ← fd_set h.bm (nD n) n i hM h0 h1 false]
  refine fd_cong (M := nM n) (fun k hk => ?_) hN.2.2.1
  rw [bmp, tv_ups hc, setT]
  by_cases e : k = i / 4096
  · subst e; rw [if_pos rfl, if_pos rfl, hq]
  · rw [if_neg (by omega), if_neg e, bmp]
theorem take_fd {w0 w w' : World} {D : Dk} {T T' : Tx} {n i : Nat} (h : Spc w0 w D T n) (g : TakE w0 w w' D T T' n i) (h0 : nD n ≤ i) (h1 : i < n) : fd (nD n) n (bmp D T') = fun j => if j = i then false else fd (nD n) n (bmp D T) j := by
  have hN := nM_bd h.lo h.hi
  have hM : i / 4096 < nM n := by unfold nM; omega
  obtain ⟨q, q2, hc, hq, _⟩ := g.c
  rw [← Bool.not_true, ← fd_set h.bm (nD n) n i hM h0 h1 true]
  refine fd_cong (M := nM n) (fun k hk => ?_) hN.2.2.1
  unfold bmp tv
  rw [hc, ups_other _ _ (by omega), setT]
  by_cases e : k = i / 4096
  · subst e; rw [if_pos rfl, ups_same]; exact hq
  · rw [if_neg e, ups_other _ _ (by omega)]
theorem give_tv {w0 w w' : World} {D : Dk} {T T' : Tx} {n i : Nat} (h : Spc w0 w D T n) (g : GiveE w0 w w' D T T' n i) (h1 : i < n) (j : Nat) (hj : nD n ≤ j) : tv D T' j = tv D T j := by
  have hN := nM_bd h.lo h.hi
  have hM : i / 4096 < nM n := by unfold nM; omega
  obtain ⟨q, hc, hq⟩ := g.c
  rw [tv_ups hc, if_neg (by omega)]
theorem take_tv {w0 w w' : World} {D : Dk} {T T' : Tx} {n i : Nat} (h : Spc w0 w D T n) (g : TakE w0 w w' D T T' n i) (h1 : i < n) (j : Nat) (hj : nD n ≤ j) : tv D T' j = if j = i then zn 512 else tv D T j := by
  have hN := nM_bd h.lo h.hi
  have hM : i / 4096 < nM n := by unfold nM; omega
  obtain ⟨q, q2, hc, _, hq⟩ := g.c
  unfold tv
  rw [hc]
  by_cases e : j = i
  · subst e; rw [if_pos rfl, ups_same]; exact hq
  · rw [if_neg e, ups_other _ _ e, ups_other _ _ (by omega)]
structure Ev (w0 w : World) (D : Dk) (T : Tx) (n R P : Nat) (F : Nat → Bool) : Prop where
  spc : Spc w0 w D T n
  row : BoAt w R n F
  geo : GeoAt w P n
  aR : ¬ T.all R
  aP : ¬ T.all P
  dR : ¬ D.all R
  z : w0.heap.size ≤ R
  RP : R ≠ P
theorem Ev.on {w0 w w' : World} {D : Dk} {T : Tx} {n R P : Nat} {F : Nat → Bool} (h : Ev w0 w D T n R P F) (hb : Below w.heap.size w w') : Ev w0 w' D T n R P F := ⟨h.spc.on hb, h.row.on hb, h.geo.on hb, h.aR, h.aP, h.dR, h.z, h.RP⟩
theorem Ev.mv {w0 w w' : World} {D : Dk} {T T' : Tx} {n R P : Nat} {F : Nat → Bool} (h : Ev w0 w D T n R P F) (s : Spc w0 w' D T' n) (m : TMv w T w' T') : Ev w0 w' D T' n R P F := by
  have hP := heap_lt h.geo
  have hR := h.row.lt
  refine ⟨s, h.row.fr m.fr (fun e => h.aR (.inl e)), m.fr.heap h.geo (fun e => h.aP (.inl e)), fun e => ?_, fun e => ?_, h.dR, h.z, h.RP⟩
  · rcases m.al _ e with e | e
    · exact h.aR e
    · omega
  · rcases m.al _ e with e | e
    · exact h.aP e
    · omega
theorem Ev.set {w0 w : World} {D : Dk} {T : Tx} {n R P : Nat} {F : Nat → Bool} (h : Ev w0 w D T n R P F) (i : Nat) (b : Bool) (hi : i < n) : Ev w0 (w.setCell ⟨R, i, none⟩ (.bool b)) D T n R P (fun j => if j = i then b else F j) := by
  refine ⟨⟨h.spc.ses.fr (Fr.set (g := R)) (fun k hk => by have hk : k = R := hk; rw [hk]; exact h.z) (fun k hk e => by have e : k = R := e; exact h.aR (e ▸ hk)) (fun k hk e => by have e : k = R := e; exact h.dR (e ▸ hk)), h.spc.dn, h.spc.nb, h.spc.lo, h.spc.hi, h.spc.ok⟩, h.row.set i b hi, (Fr.set (g := R)).heap h.geo (fun e => h.RP e.symm), h.aR, h.aP, h.dR, h.z, h.RP⟩
structure Lo1 (w0 w : World) (D : Dk) (T : Tx) (n R P k : Nat) (F : Nat → Bool) : Prop where
  ev : Ev w0 w D T n R P F
  fde : fd (nD n) n (bmp D T) = F
  dom : ∀ i, F i = true → (T.c (98 + i / 4096)).isSome = true
  cnt : (lst T.c n).length ≤ k
  us : T.us.length ≤ k
  top : ∀ i, nD n ≤ i → i < n → tv D T i = one 7
theorem Lo1.on {w0 w w' : World} {D : Dk} {T : Tx} {n R P k : Nat} {F : Nat → Bool} (h : Lo1 w0 w D T n R P k F) (hb : Below w.heap.size w w') : Lo1 w0 w' D T n R P k F := ⟨h.ev.on hb, h.fde, h.dom, h.cnt, h.us, h.top⟩
theorem Lo1.up {w0 w : World} {D : Dk} {T : Tx} {n R P k : Nat} {F : Nat → Bool} (h : Lo1 w0 w D T n R P k F) : Lo1 w0 w D T n R P (k + 1) F := ⟨h.ev, h.fde, h.dom, Nat.le_succ_of_le h.cnt, Nat.le_succ_of_le h.us, h.top⟩
theorem isT_fd {lo hi : Nat} {B : Nat → List Int} {i : Nat} (h0 : lo ≤ i) (h1 : i < hi) : isT B i = !fd lo hi B i := by
  rw [fd, decide_eq_true ⟨h0, h1⟩]; simp
theorem Lo1.give {w0 w : World} {D : Dk} {T : Tx} {n R P k : Nat} {F : Nat → Bool} (h : Lo1 w0 w D T n R P k F) (hk : k < 40) (i : Nat) (h0 : nD n ≤ i) (h1 : i < n) :
    Calls Tryd.prog 70 #[.pointer (some ⟨T.t, 0, none⟩), geoV n, .int .i64 (i : Int)] (w.setCell ⟨R, i, none⟩ (.bool true)) fun e w' => e = .returned (.int .i64 (if F i then 91 else 0)) ∧ ∃ T', T'.t = T.t ∧ Lo1 w0 w' D T' n R P (k + 1) (fun j => if j = i then true else F j) := by
  have hE := h.ev.set i true h1
  have hT := isT_fd (B := bmp D T) h0 h1
  rw [h.fde] at hT
  cases hF : F i with
  | true =>
    rw [hF] at hT
    refine (give_free w0 _ D T n hE.spc i h0 h1 hT).mono ?_
    rintro e w' ⟨rfl, hb⟩
    have hFF : (fun j => if j = i then true else F j) = F := by
      funext j
      by_cases e : j = i
      · rw [if_pos e, e, hF]
      · rw [if_neg e]
    rw [hFF] at hE
    rw [hFF]
    exact ⟨rfl, T, rfl, hE.on hb, h.fde, h.dom, Nat.le_succ_of_le h.cnt, Nat.le_succ_of_le h.us, h.top⟩
  | false =>
    rw [hF] at hT
    refine (give_ok w0 _ D T n hE.spc i h0 h1 hT (.inr (by have := h.cnt; omega)) (by have := h.us; omega)).mono ?_
    rintro e w' ⟨rfl, T', hg⟩
    have hN := nM_bd h.ev.spc.lo h.ev.spc.hi
    have hM : i / 4096 < nM n := by unfold nM; omega
    obtain ⟨q, hc, hq⟩ := hg.c
    refine ⟨rfl, T', hg.t, hE.mv hg.spc hg.mv, ?_, fun j hj => ?_, ?_, by rw [hg.u]; have := h.us; omega, fun j h2 h3 => by rw [give_tv hE.spc hg h1 j h2, h.top j h2 h3]⟩
    · rw [give_fd hE.spc hg h0 h1, h.fde]
    · rw [hc]
      by_cases e : 98 + j / 4096 = 98 + i / 4096
      · rw [e, ups_same]; rfl
      · rw [ups_other _ _ e]
        rw [if_neg (fun x => e (by rw [x]))] at hj
        exact h.dom j hj
    · rw [hc, lst_len_ups (by omega)]
      have := h.cnt
      split <;> omega
structure Lo2 (w0 w : World) (D : Dk) (T : Tx) (n R P i lf : Nat) (F : Nat → Bool) : Prop where
  ev : Ev w0 w D T n R P F
  fde : fd (nD n) n (bmp D T) = fun j => F j && decide (i ≤ j)
  left : ct (fun j => F j && decide (i ≤ j)) n = lf
  dom : ∀ i, F i = true → (T.c (98 + i / 4096)).isSome = true
  cnt : (lst T.c n).length + lf ≤ 80
  us : T.us.length + 2 * lf ≤ 200
  top : ∀ j, i ≤ j → j < n → tv D T j = one 7
  lo : nD n ≤ i
theorem Lo2.on {w0 w w' : World} {D : Dk} {T : Tx} {n R P i l : Nat} {F : Nat → Bool} (h : Lo2 w0 w D T n R P i l F) (hb : Below w.heap.size w w') : Lo2 w0 w' D T n R P i l F := ⟨h.ev.on hb, h.fde, h.left, h.dom, h.cnt, h.us, h.top, h.lo⟩
theorem Lo1.two {w0 w : World} {D : Dk} {T : Tx} {n R P k m : Nat} {F : Nat → Bool} (h : Lo1 w0 w D T n R P k F) (hk : k ≤ 40) (hm : ct F n = m) (hm2 : m ≤ 40) : Lo2 w0 w D T n R P (nD n) m F := by
  have e : (fun j => F j && decide (nD n ≤ j)) = F := by
    funext j
    cases hF : F j with
    | false => rfl
    | true =>
      rw [← h.fde] at hF
      rw [decide_eq_true (fd_bd hF).1]; rfl
  have h1 := h.cnt
  have h2 := h.us
  exact ⟨h.ev, by rw [e, h.fde], by rw [e, hm], h.dom, by omega, by omega, h.top, Nat.le_refl _⟩
theorem next_f {F : Nat → Bool} {i : Nat} (hF : F i = false) : (fun j => F j && decide (i ≤ j)) = fun j => F j && decide (i + 1 ≤ j) := by
  funext j
  by_cases e : j = i
  · subst e; rw [hF]; rfl
  · congr 1
    by_cases e2 : i ≤ j
    · rw [decide_eq_true e2, decide_eq_true (by omega)]
    · rw [decide_eq_false e2, decide_eq_false (by omega)]
theorem next_t (F : Nat → Bool) (i : Nat) : (fun j => if j = i then false else F j && decide (i ≤ j)) = fun j => F j && decide (i + 1 ≤ j) := by
  funext j
  by_cases e : j = i
  · subst e; rw [if_pos rfl, decide_eq_false (by omega), Bool.and_false]
  · rw [if_neg e]
    congr 1
    by_cases e2 : i ≤ j
    · rw [decide_eq_true e2, decide_eq_true (by omega)]
    · rw [decide_eq_false e2, decide_eq_false (by omega)]
theorem Lo2.skip {w0 w : World} {D : Dk} {T : Tx} {n R P i l : Nat} {F : Nat → Bool} (h : Lo2 w0 w D T n R P i l F) (hF : F i = false) : Lo2 w0 w D T n R P (i + 1) l F :=
  ⟨h.ev, by rw [h.fde, next_f hF], by rw [← next_f hF]; exact h.left, h.dom, h.cnt, h.us, fun j h1 h2 => h.top j (by omega) h2, by have := h.lo; omega⟩
theorem Lo2.take {w0 w : World} {D : Dk} {T : Tx} {n R P i l : Nat} {F : Nat → Bool} (h : Lo2 w0 w D T n R P i (l + 1) F) (hF : F i = true) (hi : i < n) :
    Calls Tryd.prog 50 #[.pointer (some ⟨T.t, 0, none⟩), geoV n] w fun e w' => e = .returned (.tuple #[.int .i64 (i : Int), .int .i64 0]) ∧ ∃ T', T'.t = T.t ∧ Lo2 w0 w' D T' n R P (i + 1) l F := by
  have hlo : IsLo (fd (nD n) n (bmp D T)) i := by
    rw [h.fde]
    refine ⟨by dsimp only; rw [hF]; simp, fun j hj => ?_⟩
    dsimp only
    rw [decide_eq_false (by omega), Bool.and_false]
  have hc := h.cnt
  have hd := h.dom i hF
  have hus := h.us
  refine (stake_ok w0 w D T n h.ev.spc i hlo (.inl hd) (.inr (by rw [hd, if_pos rfl]; omega)) (by omega)).mono ?_
  rintro e w' ⟨rfl, T', hg⟩
  have hN := nM_bd h.ev.spc.lo h.ev.spc.hi
  obtain ⟨q, q2, hcc, _⟩ := hg.c
  have hM : i / 4096 < nM n := by unfold nM; omega
  have hl2 := h.lo
  refine ⟨rfl, T', hg.mv.t, h.ev.mv hg.spc hg.mv, ?_, ?_, fun j hj => ?_, ?_, by rw [hg.u]; omega, fun j h1 h2 => ?_, by omega⟩
  · rw [take_fd h.ev.spc hg h.lo hi, h.fde, next_t]
  · have := ct_set (f := fun j => F j && decide (i ≤ j)) hi false
    rw [next_t, h.left] at this
    simp only [hF, Nat.le_refl, decide_true, Bool.and_self, if_true] at this
    simp at this
    omega
  · rw [hcc]
    by_cases e : 98 + j / 4096 = i
    · rw [e, ups_same]; rfl
    · rw [ups_other _ _ e]
      by_cases e2 : 98 + j / 4096 = 98 + i / 4096
      · rw [e2, ups_same]; rfl
      · rw [ups_other _ _ e2]; exact h.dom j hj
  · rw [hcc, lst_len_ups hi, ups_other _ _ (by omega), lst_len_ups (by omega), hd, if_pos rfl]
    split <;> omega
  · rw [take_tv h.ev.spc hg hi j (by omega), if_neg (by omega), h.top j (by omega) h2]
end Go.Proofs.YtgmccpimpbnnpaaDoor

namespace Go.Proofs.YtgmccpimpbnnpaaDoor
open Go.RowKit Go.Maps Rec
structure Rf (w0 w : World) (D : Dk) (T : Tx) (n P k : Nat) : Prop where
  spc : Spc w0 w D T n
  geo : GeoAt w P n
  aP : ¬ T.all P
  dom : ∀ j, (T.c j).isSome = decide (nD n + 1 ≤ j ∧ j < nD n + 1 + k)
  cnt : (lst T.c n).length = k
  us : T.us.length = k
  fde : fd (nD n) n (bmp D T) = fun j => decide (nD n ≤ j ∧ j < n)
theorem Rf.on {w0 w w' : World} {D : Dk} {T : Tx} {n P k : Nat} (h : Rf w0 w D T n P k) (hb : Below w.heap.size w w') : Rf w0 w' D T n P k := ⟨h.spc.on hb, h.geo.on hb, h.aP, h.dom, h.cnt, h.us, h.fde⟩
theorem Rf.empty {w0 w : World} {D : Dk} {T : Tx} {n P k : Nat} (h : Rf w0 w D T n P k) (j : Nat) (hj : ¬ (nD n + 1 ≤ j ∧ j < nD n + 1 + k)) : T.c j = Option.none := by
  have := h.dom j
  rw [decide_eq_false hj] at this
  cases e : T.c j with
  | none => rfl
  | some q => rw [e] at this; cases this
theorem Rf.lo {w0 w : World} {D : Dk} {T : Tx} {n P k : Nat} (h : Rf w0 w D T n P k) : IsLo (fd (nD n) n (bmp D T)) (nD n) := by
  have hN := nM_bd h.spc.lo h.spc.hi
  rw [h.fde]
  exact ⟨decide_eq_true ⟨Nat.le_refl _, hN.2.2.2.2.1⟩, fun j hj => decide_eq_false (by omega)⟩
theorem geo_mv {w w' : World} {T T' : Tx} {P n : Nat} (hg : GeoAt w P n) (ha : ¬ T.all P) (m : TMv w T w' T') : GeoAt w' P n ∧ ¬ T'.all P := by
  have hP := heap_lt hg
  refine ⟨m.fr.heap hg (fun e => ha (.inl e)), fun e => ?_⟩
  rcases m.al _ e with e | e
  · exact ha e
  · omega
theorem Rf.big {w0 w w' : World} {D : Dk} {T T' : Tx} {n P k : Nat} (h : Rf w0 w D T n P k) (b : BigE w0 w w' D T T' n) : Rf w0 w' D T' n P k := by
  obtain ⟨g1, g2⟩ := geo_mv h.geo h.aP b.mv
  have hb : bmp D T' = bmp D T := by
    funext j
    unfold bmp tv
    rw [b.c]
  exact ⟨b.spc, g1, g2, by rw [b.c]; exact h.dom, by rw [b.c]; exact h.cnt, by rw [b.us]; exact h.us, by rw [hb]; exact h.fde⟩
theorem Rf.write {w0 w : World} {D : Dk} {T : Tx} {n P k : Nat} (h : Rf w0 w D T n P k) (hk : k < 96) (hn : nD n + 1 + k < n) (p : Addr) (c : Nat) (x : List Int) (hb : Bytes w (some p) x) (hx : x.length = 512) :
    Calls Tryd.prog 65 #[.pointer (some ⟨T.t, 0, none⟩), .int .i64 ((nD n + 1 + k : Nat) : Int), .slice (some p) 512 c] w fun e w' => e = .returned (.int .i64 0) ∧ ∃ T', T'.t = T.t ∧ Rf w0 w' D T' n P (k + 1) ∧ Ext T T' 1 := by
  have hN := nM_bd h.spc.lo h.spc.hi
  refine (h.spc.write (nD n + 1 + k) (by omega) hn p c x hb hx (.inr (by rw [h.cnt]; exact hk)) (by rw [h.us]; omega)).mono ?_
  rintro e w' ⟨rfl, T', g⟩
  obtain ⟨q, hc, hq⟩ := g.c
  obtain ⟨u, hu, hui, huo⟩ := g.u
  obtain ⟨g1, g2⟩ := geo_mv h.geo h.aP g.mv
  have hf := h.empty (nD n + 1 + k) (by omega)
  refine ⟨rfl, T', g.t, ⟨g.spc, g1, g2, fun j => ?_, ?_, by rw [hu, List.length_append, h.us]; rfl, ?_⟩, [u], hu, rfl, ?_⟩
  · rw [hc]
    by_cases e : j = nD n + 1 + k
    · subst e
      rw [ups_same]
      symm
      exact decide_eq_true (by omega)
    · rw [ups_other _ _ e, h.dom j]
      congr 1
      apply propext
      omega
  · rw [hc, lst_len_ups hn, h.cnt, hf]; rfl
  · rw [← h.fde]
    refine fd_cong (M := nM n) (fun j hj => ?_) hN.2.2.1
    rw [bmp, tv_ups hc, if_neg (by omega), bmp]
  · show ups T'.c u.i u.old = T.c
    rw [hc, hui, huo, ups_back]
end Go.Proofs.YtgmccpimpbnnpaaDoor

namespace Go.Proofs.YtgmccpimpbnnpaaDoor
open Go.RowKit Go.Maps Rec
def stV (a f s : Nat) : Value := .agg #[.int .i64 (a : Int), .int .i64 (f : Int), .int .i64 (s : Int)]
def oF (a : Nat) : Nat := if a = 10 then 10 else if a = 11 then 138 else a
def oS (a : Nat) : Nat := if a = 10 then 128 else if a = 11 then 16384 else 1
def oP (k : Nat) : Nat := if k < 10 then k else if k < 138 then 10 else 11
theorem below_new {w : World} (o : Obj) : Below w.heap.size w (w.alloc o) := (Below.refl _ _).alloc (Nat.le_refl _) o
set_option maxRecDepth 100000 in
set_option maxHeartbeats 4000000 in
theorem own_any (w : World) (a : Nat) : Calls Tryd.prog 32 #[.int .i64 (a : Int)] w fun e w' => e = .returned (stV a (oF a) (oS a)) ∧ Below w.heap.size w w' := by
  unfold stV
  by_cases h0 : a = 10
  · subst h0
    go_enter Tryd.func32, Tryd.ntmps32
    go_wp2
    refine bodyPost_ret (v := stV 10 10 128) (res_row9 rfl _ _ w.heap.size #[.int .i64 10, .int .i64 10, .int .i64 128] rfl (by simp [go_sem])) rfl ?_
    exact ⟨rfl, below_new _⟩
  · by_cases h1 : a = 11
    · subst h1
      go_enter Tryd.func32, Tryd.ntmps32
      go_wp2
      refine bodyPost_ret (v := stV 11 138 16384) (res_row9 rfl _ _ w.heap.size #[.int .i64 11, .int .i64 138, .int .i64 16384] rfl (by simp [go_sem])) rfl ?_
      exact ⟨rfl, below_new _⟩
    · have e0 : ((a : Int) == 10) = false := by simp; omega
      have e1 : ((a : Int) == 11) = false := by simp; omega
      go_enter Tryd.func32, Tryd.ntmps32
      go_wp2
      refine bodyPost_ret (v := stV a a 1) (res_row9 rfl _ _ w.heap.size #[.int .i64 (a : Int), .int .i64 (a : Int), .int .i64 1] rfl (by simp [go_sem])) rfl ?_
      exact ⟨by rw [oF, oS, if_neg h0, if_neg h0, if_neg h1, if_neg h1]; rfl, below_new _⟩
set_option maxRecDepth 100000 in
theorem ownPlace_any (w : World) (k : Nat) : Calls Tryd.prog 61 #[.int .i64 (k : Int)] w fun e w' => e = .returned (.int .i64 (oP k : Nat)) ∧ w = w' := by
  unfold oP
  by_cases h0 : k < 10
  · have h0' : (k : Int) < 10 := by omega
    rw [if_pos h0]
    go_enter Tryd.func61, Tryd.ntmps61
    go_wp2
    go_ret
    exact ⟨rfl, rfl⟩
  · have h0' : ¬ (k : Int) < 10 := by omega
    rw [if_neg h0]
    by_cases h1 : k < 138
    · have h1' : (k : Int) < 138 := by omega
      rw [if_pos h1]
      go_enter Tryd.func61, Tryd.ntmps61
      go_wp2
      go_ret
      exact ⟨rfl, rfl⟩
    · have h1' : ¬ (k : Int) < 138 := by omega
      rw [if_neg h1]
      go_enter Tryd.func61, Tryd.ntmps61
      go_wp2
      go_ret
      exact ⟨rfl, rfl⟩
set_option maxRecDepth 100000 in
theorem part_any (w : World) (a f s : Nat) (hs : s ≤ 100000) : Calls Tryd.prog 54 #[stV a f s] w fun e w' => e = .returned (.int .i64 ((s / 128 : Nat) : Int)) ∧ Below w.heap.size w w' := by
  have e : (s : Int).tdiv 128 = ((s / 128 : Nat) : Int) := rfl
  have e2 : IntKind.i64.wrap ((s / 128 : Nat) : Int) = ((s / 128 : Nat) : Int) := by rw [IntKind.wrap_i64]; omega
  unfold stV
  go_enter Tryd.func54, Tryd.ntmps54
  go_wp2
  go_ret
  exact ⟨by simp, below_new _⟩
set_option maxRecDepth 100000 in
theorem isTable_any (w : World) (a f s : Nat) : Calls Tryd.prog 28 #[stV a f s] w fun e w' => e = .returned (.bool (decide (1 < s))) ∧ Below w.heap.size w w' := by
  unfold stV
  go_enter Tryd.func28, Tryd.ntmps28
  go_wp2
  go_ret
  refine ⟨?_, below_new _⟩
  by_cases h : 1 < s
  · rw [decide_eq_true h]; simp; omega
  · rw [decide_eq_false h]; simp; omega
set_option maxRecDepth 100000 in
theorem misData_any (w : World) (n : Nat) (i : Int) : Calls Tryd.prog 49 #[geoV n, .int .i64 i] w fun e w' => e = .returned (.bool (decide ((nD n : Int) ≤ i ∧ i < (n : Int)))) ∧ Below w.heap.size w w' := by
  unfold geoV
  rw [gD_nat]
  by_cases h1 : (nD n : Int) ≤ i
  · by_cases h2 : i < (n : Int)
    · rw [decide_eq_true ⟨h1, h2⟩]
      go_enter Tryd.func49, Tryd.ntmps49
      go_wp2
      go_ret
      exact ⟨rfl, below_new _⟩
    · rw [decide_eq_false (fun h => h2 h.2)]
      go_enter Tryd.func49, Tryd.ntmps49
      go_wp2
      go_ret
      exact ⟨rfl, below_new _⟩
  · rw [decide_eq_false (fun h => h1 h.1)]
    go_enter Tryd.func49, Tryd.ntmps49
    go_wp2
    go_ret
    exact ⟨rfl, below_new _⟩
end Go.Proofs.YtgmccpimpbnnpaaDoor

namespace Go.Proofs.YtgmccpimpbnnpaaDoor
open Go.RowKit Go.Maps Rec
def nm (b : List Int) (i : Nat) : Int := num b (i * 4) 4
def nms (b : List Int) : List Int := (List.range 128).map (nm b)
theorem nms_length (b : List Int) : (nms b).length = 128 := by simp [nms]
theorem nth_nms (b : List Int) (i : Nat) (h : i < 128) : nth (nms b) i = nm b i := by simp [nth, nms, List.getD, h]
def nmj (b : List Int) (j : Nat) : List Int := (List.range 128).map fun i => if i < j then nm b i else 0
theorem nmj_length (b : List Int) (j : Nat) : (nmj b j).length = 128 := by simp [nmj]
theorem nmj_all (b : List Int) : nmj b 128 = nms b := by
  unfold nmj nms
  refine List.map_congr_left (fun i hi => ?_)
  rw [if_pos (List.mem_range.1 hi)]
theorem nmj_next (b : List Int) (j : Nat) (h : j < 128) : (nmj b j).set j (nm b j) = nmj b (j + 1) := by
  refine ext_nth (by simp [nmj_length]) (fun i hi => ?_)
  have hi' : i < 128 := by simpa [nmj_length] using hi
  rw [nth_set _ _ _ _ (by rw [nmj_length]; exact h)]
  have e1 : ∀ j, nth (nmj b j) i = if i < j then nm b i else 0 := fun j => by simp [nth, nmj, List.getD, hi']
  rw [e1, e1]
  by_cases e : i = j
  · subst e; rw [if_pos rfl, if_pos (by omega)]
  · rw [if_neg e]
    by_cases e2 : i < j
    · rw [if_pos e2, if_pos (by omega)]
    · rw [if_neg e2, if_neg (by omega)]
theorem makeI9 : ∃ o : Obj, (∀ w : World, (Instr.makeSlice 22 (.int .i64 128) (.int .i64 128)).run Tryd.prog w = .ok (.slice (some ⟨w.heap.size, 0, none⟩) 128 128) (w.alloc o)) ∧ ∀ (w : World) (b : List Int), OwnI (w.alloc o) w.heap.size 128 (nmj b 0) := by
  obtain ⟨i0, hi, hz0, hz1, hz2⟩ := info_parts (show (Tryd.prog.info? 3).map (fun i => (i.zero, i.size, i.bytes)) = some (some (.int .i64 0), 1, 8) by kernel_rfl)
  refine ⟨.cells (madeCells #[.int .i64 0] 128) 3, fun w => run_make_row (P := Tryd.prog) 22 3 i0 _ Tryd.underlying22 hi hz0 hz1 rfl .i64 .i64 128 (by rw [hz2]; omega) (by omega) w, fun w b => ?_⟩
  have e : nmj b 0 = List.replicate 128 0 := by
    unfold nmj
    simp only [Nat.not_lt_zero, if_false]
    rfl
  refine ⟨⟨_, heap_alloc_new _ _, ?_, ?_⟩, ?_, ?_, ?_⟩
  · rw [← Array.length_toList, made_list, List.length_replicate]
  · rw [made_list, nmj_length, e, List.map_replicate, List.take_replicate, Nat.min_self]
  · rw [nmj_length]; omega
  · rw [nmj_length]; omega
  · unfold maxLen; omega
def RwAt (w : World) (p t g cap : Nat) : Prop := w.heap[p]? = some (.cells #[.int .i64 (t : Int), .slice (some ⟨g, 0, none⟩) 128 cap] 69 (0, 0))
theorem RwAt.cells {w : World} {p t g cap : Nat} (h : RwAt w p t g cap) : w.cell? ⟨p, 0, none⟩ = some (.int .i64 (t : Int)) ∧ w.cell? ⟨p, 1, none⟩ = some (.slice (some ⟨g, 0, none⟩) 128 cap) := by
  refine ⟨?_, ?_⟩ <;> (rw [cell_of_row _ _ _ _ _ _ h]; rfl)
theorem RwAt.fr {S : Nat → Prop} {w w' : World} {p t g cap : Nat} (h : RwAt w p t g cap) (x : Fr S w w') (hS : ¬ S p) : RwAt w' p t g cap := x.heap h hS
structure RtI (w wr : World) (B : List Int) (t j R P gb cb g : Nat) : Prop where
  bel : Below w.heap.size w wr
  res : wr.heap[R]? = some (.cells #[.int .i64 0, .slice none 0 0] 69 (0, 0))
  box : RwAt wr P t g 128
  by_ : OwnB wr gb cb B
  row : OwnI wr g 128 (nmj B j)
  ne : g ≠ P ∧ g ≠ R ∧ g ≠ gb ∧ w.heap.size ≤ g
theorem RtI.next {w wr : World} {B : List Int} {t j R P gb cb g : Nat} (h : RtI w wr B t j R P gb cb g) (hj : j < 128) : RtI w (wr.setCell ⟨g, j, none⟩ (.int .i64 (nm B j))) B t (j + 1) R P gb cb g := by
  have hf : Fr (fun i => i = g) wr (wr.setCell ⟨g, j, none⟩ (.int .i64 (nm B j))) := Fr.set
  obtain ⟨n1, n2, n3, n4⟩ := h.ne
  have hb : Below w.heap.size w (wr.setCell ⟨g, j, none⟩ (.int .i64 (nm B j))) := h.bel.trans (hf.below _ (fun k hk => by have hk : k = g := hk; omega) h.bel.size)
  refine ⟨hb, hf.heap h.res (fun e => n2 e.symm), h.box.fr hf (fun e => n1 e.symm), h.by_.fr hf (fun e => n3 e.symm), ?_, h.ne⟩
  rw [← nmj_next B j hj]; exact h.row.set j _
theorem res_row_tmp {fn : Func} {p u : Tmp} {ty : TypeId} (h : fn.results = #[.cell p ty, .tmp u]) (tmps : Array Value) (w : World) (g : Nat) (cs : Array Value)
    (hp : tmps.getD p undef = .pointer (some ⟨g, 0, none⟩)) (hl : (loadVar ty ⟨g, 0, none⟩).run Tryd.prog w = .ok (.agg cs) w) :
    (results fn tmps).run Tryd.prog w = .ok (.tuple #[.agg cs, tmps.getD u undef]) w := by
  rw [results_cell_tmp h, hp]
  simp [asAddr, hl]
set_option maxRecDepth 100000 in
set_option maxHeartbeats 8000000 in
theorem rtable_any (w0 w : World) (D : Dk) (T : Tx) (n : Nat) (h : Spc w0 w D T n) (hT : TabAt w) (t : Nat) (ht : t < n) :
    Calls Tryd.prog 29 #[.pointer (some ⟨T.t, 0, none⟩), .int .i64 (t : Int)] w fun e w' => ∃ g, e = .returned (.tuple #[.agg #[.int .i64 (t : Int), .slice (some ⟨g, 0, none⟩) 128 128], .int .i64 0]) ∧ w.heap.size ≤ g ∧ OwnI w' g 128 (nms (tv D T t)) ∧ Below w.heap.size w w' := by
  have hok := h.ok t ht
  obtain ⟨B, hB⟩ : ∃ B, tv D T t = B := ⟨_, rfl⟩
  have HR : Hid (∀ wx, Below w.heap.size w wx → Calls Tryd.prog 52 #[.pointer (some ⟨T.t, 0, none⟩), .int .i64 (t : Int)] wx fun e w' => ∃ g cap, e = .returned (.tuple #[.slice (some ⟨g, 0, none⟩) 512 cap, .int .i64 0]) ∧ wx.heap.size ≤ g ∧ OwnB w' g cap B ∧ Below wx.heap.size wx w') := fun wx hb => by
    rw [← hB]; exact (h.on hb).read t ht
  rw [hB] at hok ⊢
  clear hB
  obtain ⟨o, E1, ho⟩ := makeI9
  have HO : Hid (∀ (w : World) (b : List Int), OwnI (w.alloc o) w.heap.size 128 (nmj b 0)) := ho
  have HT : Hid (TabAt w) := hT
  have HK : Hid (B.length = 512 ∧ ∀ j, 0 ≤ nth B j ∧ nth B j < 256) := hok
  clear ho hT hok h
  obtain ⟨tt, htt⟩ : ∃ tt, T.t = tt := ⟨_, rfl⟩
  rw [htt] at HR ⊢
  clear htt
  go_enter Tryd.func29, Tryd.ntmps29
  have HA : Hid (Below w.heap.size w (w.alloc (.cells #[.int .i64 0, .slice none 0 0] 69))) := below_new _
  go_upto_region 4 with (go_at_call 52; refine (HR.out _ HA.out).mono ?_; rintro e w1 ⟨gb, cb, rfl, h1, h2, h3⟩; have H1 : Hid (w.heap.size + 1 ≤ gb ∧ OwnB w1 gb cb B ∧ Below w.heap.size w w1 ∧ w1.heap[w.heap.size]? = some (.cells #[.int .i64 0, .slice none 0 0] 69 (0, 0))) := ⟨by rw [World.size_alloc] at h1; exact h1, h2, HA.out.trans (h3.mono HA.out.size), (h3.block w.heap.size (by simp)).trans (heap_alloc_new _ _)⟩; clear h1 h2 h3)
  go_wp2
  obtain ⟨g, hg⟩ : ∃ g, w1.heap.size = g := ⟨_, rfl⟩
  obtain ⟨w2, hw2⟩ : ∃ w2, (w1.alloc o).alloc (.cells #[.int .i64 (t : Int), .slice (some ⟨g, 0, none⟩) 128 128] 69) = w2 := ⟨_, rfl⟩
  have H2 : Hid (RtI w w2 B t 0 w.heap.size (g + 1) gb cb g) := by
    have hb1 : Below w1.heap.size w1 w2 := by rw [← hw2]; exact (below_new _).alloc (by simp) _
    have hs := H1.out.2.2.1.size
    have hgb := H1.out.2.1.lt
    have hR := heap_lt H1.out.2.2.2
    have hrow : OwnI (w1.alloc o) g 128 (nmj B 0) := by rw [← hg]; exact HO.out w1 B
    refine ⟨H1.out.2.2.1.trans (hb1.mono hs), (hb1.block _ hR).trans H1.out.2.2.2, ?_, H1.out.2.1.on hb1, ?_, by omega, by omega, by omega, by omega⟩
    · have := heap_alloc_new (w1.alloc o) (.cells #[.int .i64 (t : Int), .slice (some ⟨g, 0, none⟩) 128 128] 69)
      rw [World.size_alloc, hg] at this
      rw [← hw2]
      exact this
    · rw [← hw2]; exact hrow.on ((Below.refl _ _).alloc (Nat.le_refl _) _)
  rw [hg, hw2]
  clear hw2 hg H1 HA HO E1 HR
  go_loopw [28] (fun s28 wr => ∃ j : Nat, j ≤ 128 ∧ s28 = .int .i64 (j : Int) ∧ RtI w wr B t j w.heap.size (g + 1) gb cb g) (fun s28 _ => 128 - (intOf s28).toNat)
  case atStart => exact ⟨0, by omega, rfl, H2.out⟩
  case round =>
    clear H2
    obtain ⟨j, hj, rfl, hI⟩ := hrel
    have HI : Hid (RtI w wr B t j w.heap.size (g + 1) gb cb g) := hI
    obtain ⟨b0, b1⟩ := hI.box.cells
    by_cases hlt : j < 128
    · have hlt' : (j : Int) < 128 := by omega
      obtain ⟨A, hA⟩ : ∃ A, j * 4 = A := ⟨_, rfl⟩
      have eA : (j : Int) * 4 = (A : Int) := by omega
      have eA2 : IntKind.i64.wrap (A : Int) = (A : Int) := by rw [IntKind.wrap_i64]; omega
      obtain ⟨v, hv⟩ : ∃ v, nm B j = v := ⟨_, rfl⟩
      have hvb : 0 ≤ v ∧ v < 4294967296 := by
        rw [← hv]; have := num_bd B (j * 4) 4 HK.out.2; exact this
      have hvw : IntKind.i64.wrap v = v := by rw [IntKind.wrap_i64]; omega
      have HG : Hid (Calls Tryd.prog 53 #[.slice (some ⟨gb, 0, none⟩) 512 cb, .int .i64 (A : Int), .int .i64 4] wr fun e w' => e = .returned (.tuple #[.int .u64 v, .int .i64 0]) ∧ wr = w') := by
        have hcap := hI.by_.room
        have h9 := get_in wr gb 0 512 cb A 4 B HK.out.1 hI.by_.bytes (by rw [HK.out.1] at hcap; exact hcap) (HT.out.on hI.bel) rfl (by omega)
        rw [← hv, nm, hA]
        exact h9
      have hc : wr.cell? ⟨g, j, none⟩ = some (.int .i64 (nth (nmj B j) j)) := hI.row.cell j (by rw [nmj_length]; exact hlt)
      have hf : wr.frozen? ⟨g, j, none⟩ = false := hI.row.frozen j
      have HN : Hid (RtI w (wr.setCell ⟨g, j, none⟩ (.int .i64 v)) B t (j + 1) w.heap.size (g + 1) gb cb g) := by rw [← hv]; exact hI.next hlt
      clear hI hA hv
      go_wp2_with (go_at_call 53; refine HG.out.mono ?_; rintro e w' ⟨rfl, rfl⟩; clear HG)
      go_roundw
      case rel => exact ⟨j + 1, by omega, by go_num, HN.out⟩
      case measure => simp [intOf]; omega
    · have hj2 : j = 128 := by omega
      subst hj2
      have hr := hI.res
      have r0 : wr.cell? ⟨w.heap.size, 0, none⟩ = some (.int .i64 0) := by rw [cell_of_row _ _ _ _ _ _ hr]; rfl
      have r1 : wr.cell? ⟨w.heap.size, 1, none⟩ = some (.slice none 0 0) := by rw [cell_of_row _ _ _ _ _ _ hr]; rfl
      have f0 : wr.frozen? ⟨w.heap.size, 0, none⟩ = false := frozen_of_row _ _ _ _ _ hr
      have f1 : wr.frozen? ⟨w.heap.size, 1, none⟩ = false := frozen_of_row _ _ _ _ _ hr
      clear hI hr
      go_wp2
      refine bodyPost_ret (v := .tuple #[.agg #[.int .i64 (t : Int), .slice (some ⟨g, 0, none⟩) 128 128], .int .i64 0]) (res_row_tmp (fn := Tryd.f29) (p := 4) (u := 5) (ty := 69) rfl _ _ w.heap.size #[.int .i64 (t : Int), .slice (some ⟨g, 0, none⟩) 128 128] rfl ?_) rfl ?_
      · simp [go_sem, r0, r1]
      have hb2 : Fr (fun i => i = w.heap.size) wr ((wr.setCell ⟨w.heap.size, 0, none⟩ (.int .i64 (t : Int))).setCell ⟨w.heap.size, 1, none⟩ (.slice (some ⟨g, 0, none⟩) 128 128)) := (Fr.set (g := w.heap.size)).trans (Fr.set (g := w.heap.size)) (fun _ h => .inl h)
      refine ⟨g, rfl, HI.out.ne.2.2.2, ?_, HI.out.bel.trans (hb2.below _ (fun k hk => by have hk : k = w.heap.size := hk; omega) HI.out.bel.size)⟩
      have h9 := HI.out.row
      rw [nmj_all] at h9
      exact h9.fr hb2 (fun e => HI.out.ne.2.1 e)
end Go.Proofs.YtgmccpimpbnnpaaDoor

namespace Go.Proofs.YtgmccpimpbnnpaaDoor
open Go.RowKit Go.Maps Rec
def rbk (ns : List Int) : Nat → List Int
  | 0 => zn 512
  | k + 1 => ov (rbk ns k) (k * 4) 4 (dig (nth ns k))
theorem rbk_length (ns : List Int) (k : Nat) : (rbk ns k).length = 512 := by
  induction k with
  | zero => exact zn_length _
  | succ k ih => rw [rbk, ov_length, ih]
theorem nth_zn (m i : Nat) : nth (zn m) i = 0 := by
  by_cases h : i < (zn m).length
  · unfold nth
    rw [List.getD_eq_getElem?_getD, List.getElem?_eq_getElem h]
    show (zn m)[i] = 0
    exact List.getElem_replicate ..
  · exact nth_out _ _ (by omega)
theorem num_cong {a b : List Int} {p q : Nat} (m : Nat) (h : ∀ i, i < m → nth a (p + i) = nth b (q + i)) : num a p m = num b q m := by
  induction m with
  | zero => rfl
  | succ m ih =>
    rw [num, num, ih (fun i hi => h i (by omega)), h m (by omega)]
theorem nm_rbk (ns : List Int) (k : Nat) (hk : k ≤ 128) (hn : ∀ i, 0 ≤ nth ns i ∧ nth ns i < 4294967296) (i : Nat) (hi : i < 128) : nm (rbk ns k) i = if i < k then nth ns i else 0 := by
  induction k with
  | zero =>
    rw [if_neg (by omega)]
    have : nm (rbk ns 0) i = num (zn 512) (i * 4) 4 := rfl
    rw [this]
    simp only [num, nth_zn]
    rfl
  | succ k ih =>
    unfold nm
    rw [rbk]
    by_cases e : i = k
    · subst e
      rw [if_pos (by omega), num_ov _ _ _ _ _ (by rw [rbk_length]; omega) (Nat.le_refl _)]
      have := hn i
      exact Int.emod_eq_of_lt this.1 this.2
    · have h2 : num (ov (rbk ns k) (k * 4) 4 (dig (nth ns k))) (i * 4) 4 = num (rbk ns k) (i * 4) 4 := num_cong 4 (fun j hj => by rw [nth_ov _ _ _ _ _ (by rw [rbk_length]; omega), if_neg (by omega)])
      rw [h2]
      have := ih (by omega)
      unfold nm at this
      rw [this]
      by_cases e2 : i < k
      · rw [if_pos e2, if_pos (by omega)]
      · rw [if_neg e2, if_neg (by omega)]
def rb (ns : List Int) : List Int := rbk ns 128
end Go.Proofs.YtgmccpimpbnnpaaDoor

namespace Go.Proofs.YtgmccpimpbnnpaaDoor
open Go.RowKit Go.Maps Rec
structure RpI (w wr : World) (ns : List Int) (t g cap j gb : Nat) : Prop where
  bel : Below w.heap.size w wr
  box : wr.heap[w.heap.size]? = some (.cells #[.int .i64 (t : Int), .slice (some ⟨g, 0, none⟩) 128 cap] 69 (0, 0))
  by_ : OwnB wr gb 512 (rbk ns j)
  ne : gb ≠ w.heap.size ∧ w.heap.size ≤ gb
theorem RpI.next {w wr w' : World} {ns : List Int} {t g cap j gb : Nat} (h : RpI w wr ns t g cap j gb) (h1 : OwnB w' gb 512 (rbk ns (j + 1))) (h2 : wr.grownBy w' (some gb)) : RpI w w' ns t g cap (j + 1) gb := by
  have hf := grown_fr h2
  refine ⟨h.bel.trans (hf.below _ (fun k hk => by injection hk with hk; have := h.ne; omega) h.bel.size), hf.heap h.box (fun e => by injection e with e; exact h.ne.1 e), h1, h.ne⟩
theorem has4 (v : Int) (h : v < 4294967296) : Rec.has v 4 = true := by unfold Rec.has; exact decide_eq_true h
set_option maxRecDepth 100000 in
set_option maxHeartbeats 8000000 in
theorem rput_own (w : World) (t : Value) (a : Option Addr) (l c : Nat) : Calls Tryd.prog 51 #[.agg #[.int .i64 0, .slice a l c], t] w fun e w' => e = .returned (.int .i64 0) ∧ Below w.heap.size w w' := by
  go_enter Tryd.func51, Tryd.ntmps51
  go_wp2
  go_ret
  exact ⟨rfl, below_new _⟩
set_option maxRecDepth 100000 in
set_option maxHeartbeats 8000000 in
theorem rput_with (w : World) (t g cap tt : Nat) (ns : List Int) (Q : Int → World → Prop) (hT : TabAt w) (ho : OwnI w g cap ns) (hl : ns.length = 128) (hn : ∀ i, 0 ≤ nth ns i ∧ nth ns i < 4294967296) (ht : t ≠ 0)
    (hW : ∀ wx gb, Below w.heap.size w wx → w.heap.size ≤ gb → OwnB wx gb 512 (rb ns) → Calls Tryd.prog 65 #[.pointer (some ⟨tt, 0, none⟩), .int .i64 (t : Int), .slice (some ⟨gb, 0, none⟩) 512 512] wx fun e w' => ∃ z, e = .returned (.int .i64 z) ∧ Q z w') :
    Calls Tryd.prog 51 #[.agg #[.int .i64 (t : Int), .slice (some ⟨g, 0, none⟩) 128 cap], .pointer (some ⟨tt, 0, none⟩)] w fun e w' => ∃ z, e = .returned (.int .i64 z) ∧ Q z w' := by
  have HW : Hid (∀ wx gb, Below w.heap.size w wx → w.heap.size ≤ gb → OwnB wx gb 512 (rb ns) → Calls Tryd.prog 65 #[.pointer (some ⟨tt, 0, none⟩), .int .i64 (t : Int), .slice (some ⟨gb, 0, none⟩) 512 512] wx fun e w' => ∃ z, e = .returned (.int .i64 z) ∧ Q z w') := hW
  have HT : Hid (TabAt w) := hT
  have HO : Hid (OwnI w g cap ns ∧ ns.length = 128 ∧ ∀ i, 0 ≤ nth ns i ∧ nth ns i < 4294967296) := ⟨ho, hl, hn⟩
  have ht' : ((t : Int) == 0) = false := by simp; omega
  obtain ⟨o, E1, hz⟩ := makeN 512 (by omega)
  have HZ : Hid (∀ w : World, OwnB (w.alloc o) w.heap.size 512 (zn 512)) := hz
  clear hW hT ho hl hn ht hz
  have E2 : ∀ w : World, (Instr.makeSlice 52 (.int .i64 512) (.int .i64 512)).run Tryd.prog w = .ok (.slice (some ⟨w.heap.size, 0, none⟩) 512 512) (w.alloc o) := E1
  clear E1
  go_enter Tryd.func51, Tryd.ntmps51
  go_wp2
  obtain ⟨gb, hgb⟩ : ∃ gb, w.heap.size + 1 = gb := ⟨_, rfl⟩
  obtain ⟨w2, hw2⟩ : ∃ w2, (w.alloc (.cells #[.int .i64 (t : Int), .slice (some ⟨g, 0, none⟩) 128 cap] 69)).alloc o = w2 := ⟨_, rfl⟩
  have H2 : Hid (RpI w w2 ns t g cap 0 gb) := by
    refine ⟨by rw [← hw2]; exact (below_new _).alloc (by simp) _, by rw [← hw2]; exact (Below.heap_alloc _ _ _ (by simp)).trans (heap_alloc_new _ _), ?_, by omega, by omega⟩
    have := HZ.out (w.alloc (.cells #[.int .i64 (t : Int), .slice (some ⟨g, 0, none⟩) 128 cap] 69))
    rw [World.size_alloc, hgb] at this
    rw [← hw2]
    exact this
  rw [hgb, hw2]
  clear hgb hw2 HZ E2
  go_loopw [15] (fun s15 wr => ∃ j : Nat, j ≤ 128 ∧ s15 = .int .i64 (j : Int) ∧ RpI w wr ns t g cap j gb) (fun s15 _ => 128 - (intOf s15).toNat)
  case atStart => exact ⟨0, by omega, rfl, H2.out⟩
  case round =>
    clear H2
    obtain ⟨j, hj, rfl, hI⟩ := hrel
    have HI : Hid (RpI w wr ns t g cap j gb) := hI
    have b0 : wr.cell? ⟨w.heap.size, 0, none⟩ = some (.int .i64 (t : Int)) := by rw [cell_of_row _ _ _ _ _ _ hI.box]; rfl
    have b1 : wr.cell? ⟨w.heap.size, 1, none⟩ = some (.slice (some ⟨g, 0, none⟩) 128 cap) := by rw [cell_of_row _ _ _ _ _ _ hI.box]; rfl
    by_cases hlt : j < 128
    · have hlt' : (j : Int) < 128 := by omega
      obtain ⟨A, hA⟩ : ∃ A, j * 4 = A := ⟨_, rfl⟩
      have eA : (j : Int) * 4 = (A : Int) := by omega
      have eA2 : IntKind.i64.wrap (A : Int) = (A : Int) := by rw [IntKind.wrap_i64]; omega
      obtain ⟨v, hv⟩ : ∃ v, nth ns j = v := ⟨_, rfl⟩
      have hvb : 0 ≤ v ∧ v < 4294967296 := by rw [← hv]; exact HO.out.2.2 j
      have hvw : IntKind.u64.wrap v = v := by simp [IntKind.wrap, IntKind.bits, IntKind.signed]; omega
      have hc : wr.cell? ⟨g, j, none⟩ = some (.int .i64 v) := by rw [← hv]; exact (HO.out.1.on hI.bel).cell j (by rw [HO.out.2.1]; exact hlt)
      have HP : Hid (Calls Tryd.prog 64 #[.slice (some ⟨gb, 0, none⟩) 512 512, .int .i64 (A : Int), .int .i64 4, .int .u64 v] wr fun e w' => e = .returned (.int .i64 0) ∧ RpI w w' ns t g cap (j + 1) gb) := by
        refine (put_in wr gb 512 512 512 A 4 v (rbk ns j) hI.by_ (by rw [rbk_length]; omega) (by omega) (HT.out.on hI.bel) (by omega) rfl (has4 v hvb.2) (by omega)).mono ?_
        rintro e w' ⟨rfl, h1, h2⟩
        refine ⟨rfl, hI.next ?_ h2⟩
        rw [rbk, hv, hA]
        exact h1
      clear hI hA hv
      go_wp2_with (go_at_call 64; refine HP.out.mono ?_; rintro e w3 ⟨rfl, hx⟩; have H3 : Hid (RpI w w3 ns t g cap (j + 1) gb) := hx; clear hx HP)
      go_roundw
      case rel => exact ⟨j + 1, by omega, by go_num, H3.out⟩
      case measure => simp [intOf]; omega
    · have hj2 : j = 128 := by omega
      subst hj2
      have HW2 := HW.out wr gb hI.bel hI.ne.2 hI.by_
      clear hI
      go_wp2_with (go_at_call 65; refine HW2.mono ?_; rintro e w3 ⟨z, rfl, hx⟩; have H3 : Hid (Q z w3) := hx; clear hx HW2)
      go_ret
      exact ⟨z, rfl, H3.out⟩
end Go.Proofs.YtgmccpimpbnnpaaDoor

namespace Rec
def Sm (x y : Nat → Int) : Prop := ∀ i, i < 15 → x i = y i
theorem Sm.rfl {x : Nat → Int} : Sm x x := fun _ _ => Eq.refl _
theorem Sm.symm {x y : Nat → Int} (h : Sm x y) : Sm y x := fun i hi => (h i hi).symm
theorem Sm.trans {x y z : Nat → Int} (h : Sm x y) (g : Sm y z) : Sm x z := fun i hi => (h i hi).trans (g i hi)
theorem num_cong64 {a b : List Int} {p q : Nat} (m : Nat) (h : ∀ i, i < m → nth a (p + i) = nth b (q + i)) : num a p m = num b q m := by
  induction m with
  | zero => rfl
  | succ m ih => rw [num, num, ih (fun i hi => h i (by omega)), h m (by omega)]
theorem num_dig (l : List Int) (p : Nat) (v : Int) (m : Nat) (h : ∀ i, i < m → nth l (p + i) = dig v i) (hv : 0 ≤ v ∧ v < 256 ^ m) : num l p m = v := by
  have e : num l p m = num (ov (List.replicate m 0) 0 m (dig v)) 0 m := num_cong64 m fun i hi => by
    rw [h i hi, nth_ov _ _ _ _ _ (by simp; omega), if_pos (by omega)]; congr 1; omega
  rw [e, num_ov _ _ _ _ _ (by simp) (Nat.le_refl _), Int.emod_eq_of_lt hv.1 hv.2]
end Rec

namespace Go.Proofs.YtgmccpimpbnnpaaDoor
open Go.RowKit Rec
def inV (x : Nat → Int) : Value := .agg #[.int .i64 (x 0), .int .i64 (x 1), .int .i64 (x 2), .int .i64 (x 3), .int .i64 (x 4), .int .i64 (x 5), .int .i64 (x 6), .int .i64 (x 7), .int .i64 (x 8), .int .i64 (x 9), .int .i64 (x 10), .int .i64 (x 11), .int .i64 (x 12), .int .i64 (x 13), .int .i64 (x 14)]
def inN (x : Nat → Int) : List Int := (List.range 12).map fun i => x (3 + i)
theorem inN_length (x : Nat → Int) : (inN x).length = 12 := by simp [inN]
theorem nth_inN (x : Nat → Int) (i : Nat) (h : i < 12) : nth (inN x) i = x (3 + i) := by simp [nth, inN, List.getD, h]
def inD (x : Nat → Int) : List Value := [.int .i64 (x 3), .int .i64 (x 4), .int .i64 (x 5), .int .i64 (x 6), .int .i64 (x 7), .int .i64 (x 8), .int .i64 (x 9), .int .i64 (x 10), .int .i64 (x 11), .int .i64 (x 12)]
end Go.Proofs.YtgmccpimpbnnpaaDoor
