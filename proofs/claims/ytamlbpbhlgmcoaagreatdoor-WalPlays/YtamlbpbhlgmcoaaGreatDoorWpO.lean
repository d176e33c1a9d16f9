import Derived.Test.YtamlbpbhlgmcoaaGreatDoorWpN
namespace Go.Proofs.YtamlbpbhlgmcoaaGreatDoor
open Go.RowKit Rec
theorem keep_settle (a : AD) (kp : Nat → Bool) : (a.settle kp).keep = a.keep := rfl
theorem keep_cut (a : AD) (kp : Nat → Bool) : (a.cut kp).keep = a.keep := rfl
theorem keep_tick (a : AD) : a.tick.keep = a.keep := by unfold AD.tick; split <;> rfl
theorem keep_write (a : AD) (i : Nat) (x : List Int) : (a.write i x).keep = a.keep := by
  unfold AD.write
  simp only []
  split
  · rfl
  · rw [keep_tick]
theorem keep_flush (a : AD) : a.flush.keep = a.keep := by
  unfold AD.flush
  simp only []
  split
  · rfl
  · rw [keep_settle]; show AD.keep (AD.tick _) = _; rw [keep_tick]
theorem keep_act (a : AD) (t : WA) : (a.act t).keep = a.keep := by
  cases t with
  | none => exact keep_flush a
  | some p => exact keep_write a p.1 p.2
theorem keep_take (xs : List WA) (a : AD) : (a.take xs).keep = a.keep := by
  induction xs generalizing a with
  | nil => rfl
  | cons t r ih =>
    rw [AD.take]
    split
    · rfl
    · split
      · exact keep_act a t
      · rw [ih, keep_act]
theorem keep_com (a : AD) (L : List BG) : (comT a L).keep = a.keep := by
  unfold comT
  split
  · rfl
  · split
    · exact keep_take _ _
    · rfl
theorem keep_rc (a : AD) : (rcT a).keep = a.keep := by
  unfold rcT
  split
  · split
    · rfl
    · exact keep_take _ _
  · rfl
theorem keep_wA (a : AD) (i : Int) (l : List Int) : (wA a i l).keep = a.keep := by
  unfold wA
  split
  · rfl
  · split
    · split
      · exact keep_write _ _ _
      · rfl
    · rfl
theorem keep_fA (a : AD) : (fA a).keep = a.keep := by
  unfold fA
  split
  · rfl
  · exact keep_flush a
theorem abs_keep (D : Dk) : D.abs.keep = D.keep := rfl
def LnR.bk (q : LnR) : Bk := ⟨q.n, q.g, q.c, q.x⟩
theorem ln_ns {Q : List LnR} {L : List BG} (h : lnOf Q = bgOf L) : nsB (Q.map LnR.bk) = nsG L ∧ dsB (Q.map LnR.bk) = dsG L ∧ nsG (Q.map LnR.bg) = nsG L ∧ dsG (Q.map LnR.bg) = dsG L ∧ Q.length = L.length := by
  have h1 := congrArg (List.map Prod.fst) h
  have h2 := congrArg (List.map Prod.snd) h
  have h3 := congrArg List.length h
  simp only [lnOf, bgOf, List.map_map, List.length_map] at h1 h2 h3
  refine ⟨?_, ?_, ?_, ?_, h3⟩
  · simp only [nsB, nsG, List.map_map]; exact h1
  · simp only [dsB, dsG, List.map_map]; exact h2
  · simp only [nsG, List.map_map]; exact h1
  · simp only [dsG, List.map_map]; exact h2
theorem KpA.bgs {w : World} {g cap n : Nat} {Q : List LnR} (h : KpA w g cap n Q) : BGs w (some ⟨g, 0, none⟩) (Q.map LnR.bg) := by
  refine ⟨.inr ⟨g, 0, rfl, fun i q hq => ?_⟩, fun q hq => ?_⟩
  · rw [List.getElem?_map] at hq
    cases hp : Q[i]? with
    | none => rw [hp] at hq; cases hq
    | some p =>
      rw [hp] at hq; cases hq
      have := h.cell hp
      rw [Nat.zero_add]
      exact this
  · obtain ⟨p, hp, rfl⟩ := List.mem_map.1 hq
    refine ⟨?_, fun e => by cases e⟩
    have := (h.each p hp).bytes.take p.x.length
    rw [List.take_left] at this
    exact this
/-- Commit, on the program's side -/
theorem pcommit_any (w : World) (D : Dk) (h : Disk w D) (hT : TabAt w) (g cap n : Nat) (Q : List LnR) (L : List BG) (hK : KpA w g cap n Q) (hQ : lnOf Q = bgOf L) (hn : L.length = n) (hl : n ≤ 4398046511000) (hap : ∀ q ∈ Q, ¬ D.has q.g) (hr : RoomN D.abs 198) :
    Calls Tryz.prog 19 #[.pointer (some ⟨D.d, 0, none⟩), .slice (some ⟨g, 0, none⟩) n cap] w fun e w' => e = .returned (.int .i64 (comE D.abs L)) ∧ ∃ D', Disk w' D' ∧ Mv w D w' D' ∧ Al w.heap.size D D' ∧ D'.abs = comT D.abs L := by
  have hnb : D.abs.nb = D.nb := rfl
  obtain ⟨e1, e2, e3, e4, e5⟩ := ln_ns hQ
  unfold comE comT
  by_cases h0 : L = []
  · rw [if_pos h0, if_pos h0]
    have hn0 : n = 0 := by rw [← hn, h0]; rfl
    subst hn0
    refine (commit_nil w _ _ cap).mono ?_
    rintro e w1 ⟨rfl, rfl⟩
    exact ⟨rfl, D, h, Mv.refl _ _, fun _ hk => .inl hk, rfl⟩
  · rw [if_neg h0, if_neg h0, hnb]
    have hn0 : 0 < n := by rw [← hn]; cases L with | nil => exact absurd rfl h0 | cons _ _ => simp
    by_cases hf : ftE (nsG L) (dsG L) D.nb = 0
    · rw [if_pos hf, if_pos hf]
      have hnb1 := h.nb1
      have ok := ftE_ok hf (by rw [nsG_len, dsG_len]) (by omega)
      have h96 := ok.hi
      rw [nsG_len, hn] at h96
      rw [← e1, ← e2]
      rw [← e1, ← e2] at ok
      refine (commit_ok w D h hT g n cap (Q.map LnR.bk) ⟨fun i q hq => ?_⟩ (by rw [List.length_map, e5, hn]) hn0 ok (fun q hq => ?_) (hr.le (by omega))).mono ?_
      · rw [List.getElem?_map] at hq
        cases hp : Q[i]? with
        | none => rw [hp] at hq; cases hq
        | some p =>
          rw [hp] at hq; cases hq
          have hm := List.mem_of_getElem? hp
          have hx : p.x.length = 512 := ok.bl p.x (List.mem_map.2 ⟨p.bk, List.mem_map.2 ⟨p, hm, rfl⟩, rfl⟩)
          obtain ⟨c1, c2⟩ := hK.cell hp
          rw [hx] at c2
          exact ⟨c1, c2, ⟨_, _, hK.each p hm⟩, hx⟩
      · obtain ⟨p, hp, rfl⟩ := List.mem_map.1 hq
        exact hap p hp
      · rintro e w1 ⟨rfl, E, hE⟩
        exact ⟨rfl, E, hE.disk, hE.mv, hE.al, hE.abs⟩
    · rw [if_neg hf, if_neg hf]
      refine (commit_no w D h hT g n cap (Q.map LnR.bg) hK.bgs (by rw [List.length_map, e5, hn]) hn0 (by omega) _ (by rw [e3, e4]) hf).mono ?_
      rintro e w1 ⟨rfl, hb⟩
      exact ⟨rfl, D, h.on hb, mv_on _ _ _ hb, fun _ hk => .inl hk, rfl⟩
theorem openE_abs (D : Dk) : openE D = opE D.abs := by
  unfold openE opE
  rw [abs_full]; rfl
/-- Recover, on the program's side -/
theorem precover_any (w : World) (D : Dk) (h : Disk w D) (hT : TabAt w) (hr : RoomN D.abs 99) :
    Calls Tryz.prog 21 #[.pointer (some ⟨D.d, 0, none⟩)] w fun e w' => e = .returned (.tuple #[.int .i64 (rcK D.abs), .int .i64 (rcE D.abs)]) ∧ ∃ D', Disk w' D' ∧ Mv w D w' D' ∧ Al w.heap.size D D' ∧ D'.abs = rcT D.abs := by
  have e1 := openE_abs D
  have e2 := abs_full D
  have e3 : D.abs.nb = D.nb := rfl
  unfold rcK rcE rcT rcX
  rw [← e1, ← e2, e3]
  by_cases he : openE D = 0
  · rw [if_pos he, if_pos he, if_pos he]
    by_cases h0 : logN D.full D.nb = []
    · rw [if_pos h0, if_pos h0, if_pos h0]
      refine (recover_nil w D h hT he h0).mono ?_
      rintro e w1 ⟨rfl, hb⟩
      exact ⟨rfl, D, h.on hb, mv_on _ _ _ hb, fun _ hk => .inl hk, rfl⟩
    · rw [if_neg h0, if_neg h0, if_neg h0]
      have hk := logN_len D.full D.nb
      refine (recover_yes w D h hT he _ rfl (by cases hh : logN D.full D.nb with | nil => exact absurd hh h0 | cons _ _ => simp) (hr.le (by omega))).mono ?_
      rintro e w1 ⟨he2, E, hE⟩
      refine ⟨?_, E, hE.disk, hE.mv, hE.al, hE.abs⟩
      rcases he2 with ⟨h1, rfl⟩ | ⟨h1, rfl⟩
      · rw [h1, if_pos rfl]
      · rw [h1, if_neg (by decide)]
  · rw [if_neg he, if_neg he, if_neg he]
    refine (recover_no w D h hT he).mono ?_
    rintro e w1 ⟨rfl, hb⟩
    exact ⟨rfl, D, h.on hb, mv_on _ _ _ hb, fun _ hk => .inl hk, rfl⟩
/-- Behind, on the program's side -/
theorem pbehind_any (w : World) (D : Dk) (h : Disk w D) (hT : TabAt w) : Calls Tryz.prog 22 #[.pointer (some ⟨D.d, 0, none⟩)] w (BhP w D.abs) := by
  have e1 := openE_abs D
  have e2 := abs_full D
  have e3 : D.abs.nb = D.nb := rfl
  by_cases he : openE D = 0
  · refine (behind_yes w D h hT he).mono ?_
    rintro e w1 ⟨g, cap, rfl, h1, h2, h3⟩
    exact .inr ⟨by rw [← e1]; exact he, g, cap, by rw [e3], by rw [← e2, e3]; exact h1, h2, h3⟩
  · refine (behind_no w D h hT he).mono ?_
    rintro e w1 ⟨rfl, hb⟩
    exact .inl ⟨by rw [← e1]; exact he, by rw [← e1], hb⟩
theorem WS.roomN {w0 w : World} {D : Dk} {R : RDk} {j : Nat} (h : WS w0 w D R j) (hj : j + 200 ≤ 100000000) (n : Nat) (hn : n ≤ 200) : RoomN D.abs n := by
  obtain ⟨h1, h2, h3, h4⟩ := h.lens
  have h5 := h.kd
  exact ⟨by omega, by omega, by omega, by omega, by show D.keep.length ≤ _; omega⟩
/-- what was told, and what it was -/
structure TB where
  a : Option Addr
  c : Nat
  x : List Int
def TB.v (q : TB) : Value := .slice q.a q.x.length q.c
def TB.s (q : TB) : Value := .string (strOfNums q.x)
/-- a block that neither disk has, new since w0 -/
def Ap (w0 : World) (D : Dk) (R : RDk) (k : Nat) : Prop := w0.heap.size ≤ k ∧ ¬ D.all k ∧ ¬ R.all k
structure Pl (w0 w : World) (P : Nat) (D : Dk) (R : RDk) (j : Nat) (tv wv : Value) (B : List TB) : Prop where
  s : WS w0 w D R j
  box : w.heap[P]? = some (.cells #[.pointer (some ⟨D.d, 0, none⟩), .pointer (some ⟨R.r, 0, none⟩), tv, wv] 36 (0, 0))
  pn : Ap w0 D R P
  told : w.ownsRow 0 37 1 tv B.length (B.map TB.v)
  was : w.ownsRow 0 9 1 wv B.length (B.map TB.s)
  tn : ∀ k, tv.ownBlock = some k → Ap w0 D R k
  wn : ∀ k, wv.ownBlock = some k → Ap w0 D R k
  each : ∀ q ∈ B, (q.x = [] ∧ q.a = none ∧ q.c = 0) ∨ ∃ g, q.a = some ⟨g, 0, none⟩ ∧ OwnB w g q.c q.x ∧ Ap w0 D R g
  bl : B.length ≤ j
theorem Pl.move {w0 w w' : World} {P : Nat} {D D' : Dk} {R R' : RDk} {j j' : Nat} {tv wv : Value} {B : List TB} (h : Pl w0 w P D R j tv wv B) (hs : WS w0 w' D' R' j') (hf : Fr (fun k => D.all k ∨ R.all k) w w') (ha : ∀ k, D'.all k ∨ R'.all k → (D.all k ∨ R.all k) ∨ w.heap.size ≤ k) (hd : D'.d = D.d) (hr : R'.r = R.r) (hjj : j ≤ j' := by omega) : Pl w0 w' P D' R' j' tv wv B := by
  have ap : ∀ k, k < w.heap.size → Ap w0 D R k → Ap w0 D' R' k := fun k hk h => ⟨h.1, fun e => by
    rcases ha k (.inl e) with (e | e) | e
    · exact h.2.1 e
    · exact h.2.2 e
    · omega, fun e => by
    rcases ha k (.inr e) with (e | e) | e
    · exact h.2.1 e
    · exact h.2.2 e
    · omega⟩
  have nS : ∀ k, Ap w0 D R k → ¬ (D.all k ∨ R.all k) := fun k h e => e.elim h.2.1 h.2.2
  refine ⟨hs, by rw [hd, hr]; exact hf.heap h.box (nS _ h.pn), ap _ (heap_lt h.box) h.pn, owns_fr h.told hf (fun k e => nS _ (h.tn k e)), owns_fr h.was hf (fun k e => nS _ (h.wn k e)), fun k e => ap _ (owns_block h.told e) (h.tn k e), fun k e => ap _ (owns_block h.was e) (h.wn k e), fun q hq => ?_, Nat.le_trans h.bl hjj⟩
  rcases h.each q hq with e | ⟨g, e, ho, hg⟩
  · exact .inl e
  · exact .inr ⟨g, e, ho.fr hf (nS _ hg), ap _ ho.lt hg⟩
theorem Pl.on {w0 w w' : World} {P : Nat} {D : Dk} {R : RDk} {j : Nat} {tv wv : Value} {B : List TB} (h : Pl w0 w P D R j tv wv B) (hb : Below w.heap.size w w') : Pl w0 w' P D R j tv wv B := h.move (h.s.on hb) (below_fr hb _) (fun _ e => .inl e) rfl rfl
theorem Pl.wm {w0 w w' : World} {P : Nat} {D D' : Dk} {R R' : RDk} {j j' : Nat} {tv wv : Value} {B : List TB} (h : Pl w0 w P D R j tv wv B) (hm : WM w0 w D R w' D' R' j') (hjj : j ≤ j' := by omega) : Pl w0 w' P D' R' j' tv wv B := h.move hm.s hm.fr hm.al hm.d hm.r hjj
/-- what a step answers -/
def StP (w0 : World) (P j : Nat) (e : Ending) (w' : World) : Prop := e = .returned (.bool true) ∧ ∃ D' R' tv' wv' B', Pl w0 w' P D' R' j tv' wv' B'
end Go.Proofs.YtamlbpbhlgmcoaaGreatDoor
