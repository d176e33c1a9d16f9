import Derived.Test.YtpbpblpbjkegfaaKSpL
namespace Go.Proofs.Ytpbpblpbjkegfaa
open Go.RowKit Go.Maps Rec

theorem infoBo9 : (Try.prog.info? 4).map (fun i => (i.zero, i.size, i.bytes)) = some (some (.bool false), 1, 1) := by kernel_rfl
/-- a row of bools -/
structure BoAt (w : World) (R n : Nat) (F : Nat → Bool) : Prop where
  cell : ∀ j, j < n → w.cell? ⟨R, j, none⟩ = some (.bool (F j))
  frz : ∀ j, w.frozen? ⟨R, j, none⟩ = false
  lt : R < w.heap.size
theorem BoAt.fr {S : Nat → Prop} {w w' : World} {R n : Nat} {F : Nat → Bool} (h : BoAt w R n F) (x : Fr S w w') (hS : ¬ S R) : BoAt w' R n F :=
  ⟨fun j hj => x.cell (h.cell j hj) hS, fun j => by
    have e := x.block R h.lt hS
    rw [← h.frz j]
    simp only [World.frozen?, e], Nat.lt_of_lt_of_le h.lt x.size⟩
theorem BoAt.on {w w' : World} {R n : Nat} {F : Nat → Bool} (h : BoAt w R n F) (x : Below w.heap.size w w') : BoAt w' R n F := h.fr (below_fr x (fun _ => False)) (fun e => e)
theorem BoAt.set {w : World} {R n : Nat} {F : Nat → Bool} (h : BoAt w R n F) (i : Nat) (b : Bool) (hi : i < n) : BoAt (w.setCell ⟨R, i, none⟩ (.bool b)) R n (fun j => if j = i then b else F j) := by
  refine ⟨fun j hj => ?_, fun j => by rw [World.frozen?_setCell]; exact h.frz j, by rw [World.size_setCell]; exact h.lt⟩
  by_cases e : j = i
  · subst e
    rw [if_pos rfl]
    exact World.cell?_setCell_same' _ _ _ (by rw [h.cell j hj]; rfl)
  · rw [if_neg e, World.cell?_setCell_other (h := fun x => e (by injection x with _ h2 _; exact h2.symm))]
    exact h.cell j hj
theorem makeBo (m : Nat) (hm : m ≤ 100000000) : ∃ o : Obj, (∀ w : World, (Instr.makeSlice 85 (.int .i64 (m : Int)) (.int .i64 (m : Int))).run Try.prog w = .ok (.slice (some ⟨w.heap.size, 0, none⟩) m m) (w.alloc o)) ∧ ∀ w : World, BoAt (w.alloc o) w.heap.size m (fun _ => false) := by
  obtain ⟨i0, hi, hz0, hz1, hz2⟩ := info_parts infoBo9
  refine ⟨.cells (madeCells #[.bool false] m) 4, fun w => run_make_row (P := Try.prog) 85 4 i0 _ Try.underlying85 hi hz0 hz1 rfl .i64 .i64 m (by rw [hz2]; omega) (by omega) w, fun w => ?_⟩
  have hrow := heap_alloc_new w (.cells (madeCells #[.bool false] m) 4)
  refine ⟨fun j hj => ?_, fun j => frozen_of_row _ _ _ _ _ hrow, by simp⟩
  rw [cell_of_row _ _ _ _ _ _ hrow, ← Array.getElem?_toList, made_list, List.getElem?_replicate, if_pos hj]
theorem fd_cong {lo hi M : Nat} {B B' : Nat → List Int} (h : ∀ k, k < M → B k = B' k) (hM : hi ≤ 4096 * M) : fd lo hi B = fd lo hi B' := by
  funext j
  unfold fd isT
  by_cases e : lo ≤ j ∧ j < hi
  · rw [h (j / 4096) (by omega)]
  · rw [decide_eq_false e]; rfl
theorem give_fd {w0 w w' : World} {D : Dk} {T T' : Tx} {n i : Nat} (h : Spc w0 w D T n) (g : GiveE w0 w w' D T T' n i) (h0 : nD n ≤ i) (h1 : i < n) : fd (nD n) n (bmp D T') = fun j => if j = i then true else fd (nD n) n (bmp D T) j := by
  have hN := nM_bd h.lo h.hi
  have hM : i / 4096 < nM n := by unfold nM; omega
  obtain ⟨q, hc, hq⟩ := g.c
  rw [← Bool.not_false, ← fd_set h.bm (nD n) n i hM h0 h1 false]
  refine fd_cong (M := nM n) (fun k hk => ?_) hN.2.2.1
  rw [bmp, tv_ups hc, setT]
  by_cases e : k = i / 4096
  · subst e; rw [if_pos rfl, if_pos rfl, hq]
  · rw [if_neg (by omega), if_neg e, bmp]
theorem take_fd {w0 w w' : World} {D : Dk} {T T' : Tx} {n i : Nat} (h : Spc w0 w D T n) (g : TakE w0 w w' D T T' n i) (h0 : nD n ≤ i) (h1 : i < n) : fd (nD n) n (bmp D T') = fun j => if j = i then false else fd (nD n) n (bmp D T) j := by
  have hN := nM_bd h.lo h.hi
  have hM : i / 4096 < nM n := by unfold nM; omega
  obtain ⟨q, q2, hc, hq, _⟩ := g.c
  rw [← Bool.not_true, ← fd_set h.bm (nD n) n i hM h0 h1 true]
  refine fd_cong (M := nM n) (fun k hk => ?_) hN.2.2.1
  unfold bmp tv
  rw [hc, ups_other _ _ (by omega), setT]
  by_cases e : k = i / 4096
  · subst e; rw [if_pos rfl, ups_same]; exact hq
  · rw [if_neg e, ups_other _ _ (by omega)]
theorem give_tv {w0 w w' : World} {D : Dk} {T T' : Tx} {n i : Nat} (h : Spc w0 w D T n) (g : GiveE w0 w w' D T T' n i) (h1 : i < n) (j : Nat) (hj : nD n ≤ j) : tv D T' j = tv D T j := by
  have hN := nM_bd h.lo h.hi
  have hM : i / 4096 < nM n := by unfold nM; omega
  obtain ⟨q, hc, hq⟩ := g.c
  rw [tv_ups hc, if_neg (by omega)]
theorem take_tv {w0 w w' : World} {D : Dk} {T T' : Tx} {n i : Nat} (h : Spc w0 w D T n) (g : TakE w0 w w' D T T' n i) (h1 : i < n) (j : Nat) (hj : nD n ≤ j) : tv D T' j = if j = i then zn 512 else tv D T j := by
  have hN := nM_bd h.lo h.hi
  have hM : i / 4096 < nM n := by unfold nM; omega
  obtain ⟨q, q2, hc, _, hq⟩ := g.c
  unfold tv
  rw [hc]
  by_cases e : j = i
  · subst e; rw [if_pos rfl, ups_same]; exact hq
  · rw [if_neg e, ups_other _ _ e, ups_other _ _ (by omega)]
/-- what a law holds beside its session: a row of bools, the Geo's box -/
structure Ev (w0 w : World) (D : Dk) (T : Tx) (n R P : Nat) (F : Nat → Bool) : Prop where
  spc : Spc w0 w D T n
  row : BoAt w R n F
  geo : GeoAt w P n
  aR : ¬ T.all R
  aP : ¬ T.all P
  dR : ¬ D.all R
  z : w0.heap.size ≤ R
  RP : R ≠ P
theorem Ev.on {w0 w w' : World} {D : Dk} {T : Tx} {n R P : Nat} {F : Nat → Bool} (h : Ev w0 w D T n R P F) (hb : Below w.heap.size w w') : Ev w0 w' D T n R P F := ⟨h.spc.on hb, h.row.on hb, h.geo.on hb, h.aR, h.aP, h.dR, h.z, h.RP⟩
theorem Ev.mv {w0 w w' : World} {D : Dk} {T T' : Tx} {n R P : Nat} {F : Nat → Bool} (h : Ev w0 w D T n R P F) (s : Spc w0 w' D T' n) (m : TMv w T w' T') : Ev w0 w' D T' n R P F := by
  have hP := heap_lt h.geo
  have hR := h.row.lt
  refine ⟨s, h.row.fr m.fr (fun e => h.aR (.inl e)), m.fr.heap h.geo (fun e => h.aP (.inl e)), fun e => ?_, fun e => ?_, h.dR, h.z, h.RP⟩
  · rcases m.al _ e with e | e
    · exact h.aR e
    · omega
  · rcases m.al _ e with e | e
    · exact h.aP e
    · omega
theorem Ev.set {w0 w : World} {D : Dk} {T : Tx} {n R P : Nat} {F : Nat → Bool} (h : Ev w0 w D T n R P F) (i : Nat) (b : Bool) (hi : i < n) : Ev w0 (w.setCell ⟨R, i, none⟩ (.bool b)) D T n R P (fun j => if j = i then b else F j) := by
  refine ⟨⟨h.spc.ses.fr (Fr.set (g := R)) (fun k hk => by have hk : k = R := hk; rw [hk]; exact h.z) (fun k hk e => by have e : k = R := e; exact h.aR (e ▸ hk)) (fun k hk e => by have e : k = R := e; exact h.dR (e ▸ hk)), h.spc.dn, h.spc.nb, h.spc.lo, h.spc.hi, h.spc.ok⟩, h.row.set i b hi, (Fr.set (g := R)).heap h.geo (fun e => h.RP e.symm), h.aR, h.aP, h.dR, h.z, h.RP⟩
theorem fB_full (n i : Nat) : fB n [] 255 i = true := by
  rw [fB, if_neg (by simp)]
  have : (255 : Int) / 2 ^ ((i - nD n) % 8) % 2 = 1 := by
    rcases pow2 ((i - nD n) % 8) (by omega) with e | e | e | e | e | e | e | e <;> rw [e] <;> decide
  rw [this]
  simp
theorem bytes_nil (w : World) : Bytes w none [] := ⟨by simp, fun i => by simp [nth], .inl rfl⟩
/-- the first loop's state -/
structure Lo1 (w0 w : World) (D : Dk) (T : Tx) (n R P k : Nat) (F : Nat → Bool) : Prop where
  ev : Ev w0 w D T n R P F
  fde : fd (nD n) n (bmp D T) = F
  dom : ∀ i, F i = true → (T.c (98 + i / 4096)).isSome = true
  cnt : (lst T.c n).length ≤ k
  us : T.us.length ≤ k
  top : ∀ i, nD n ≤ i → i < n → tv D T i = one 7
theorem Lo1.on {w0 w w' : World} {D : Dk} {T : Tx} {n R P k : Nat} {F : Nat → Bool} (h : Lo1 w0 w D T n R P k F) (hb : Below w.heap.size w w') : Lo1 w0 w' D T n R P k F := ⟨h.ev.on hb, h.fde, h.dom, h.cnt, h.us, h.top⟩
theorem Lo1.up {w0 w : World} {D : Dk} {T : Tx} {n R P k : Nat} {F : Nat → Bool} (h : Lo1 w0 w D T n R P k F) : Lo1 w0 w D T n R P (k + 1) F := ⟨h.ev, h.fde, h.dom, Nat.le_succ_of_le h.cnt, Nat.le_succ_of_le h.us, h.top⟩
theorem isT_fd {lo hi : Nat} {B : Nat → List Int} {i : Nat} (h0 : lo ≤ i) (h1 : i < hi) : isT B i = !fd lo hi B i := by
  rw [fd, decide_eq_true ⟨h0, h1⟩]; simp
/-- a Give of the first loop -/
theorem Lo1.give {w0 w : World} {D : Dk} {T : Tx} {n R P k : Nat} {F : Nat → Bool} (h : Lo1 w0 w D T n R P k F) (hk : k < 40) (i : Nat) (h0 : nD n ≤ i) (h1 : i < n) :
    Calls Try.prog 14 #[.pointer (some ⟨T.t, 0, none⟩), geoV n, .int .i64 (i : Int)] (w.setCell ⟨R, i, none⟩ (.bool true)) fun e w' => e = .returned (.int .i64 (if F i then 91 else 0)) ∧ ∃ T', T'.t = T.t ∧ Lo1 w0 w' D T' n R P (k + 1) (fun j => if j = i then true else F j) := by
  have hE := h.ev.set i true h1
  have hT := isT_fd (B := bmp D T) h0 h1
  rw [h.fde] at hT
  cases hF : F i with
  | true =>
    rw [hF] at hT
    refine (give_free w0 _ D T n hE.spc i h0 h1 hT).mono ?_
    rintro e w' ⟨rfl, hb⟩
    have hFF : (fun j => if j = i then true else F j) = F := by
      funext j
      by_cases e : j = i
      · rw [if_pos e, e, hF]
      · rw [if_neg e]
    rw [hFF] at hE
    rw [hFF]
    exact ⟨rfl, T, rfl, hE.on hb, h.fde, h.dom, Nat.le_succ_of_le h.cnt, Nat.le_succ_of_le h.us, h.top⟩
  | false =>
    rw [hF] at hT
    refine (give_ok w0 _ D T n hE.spc i h0 h1 hT (.inr (by have := h.cnt; omega)) (by have := h.us; omega)).mono ?_
    rintro e w' ⟨rfl, T', hg⟩
    have hN := nM_bd h.ev.spc.lo h.ev.spc.hi
    have hM : i / 4096 < nM n := by unfold nM; omega
    obtain ⟨q, hc, hq⟩ := hg.c
    refine ⟨rfl, T', hg.t, hE.mv hg.spc hg.mv, ?_, fun j hj => ?_, ?_, by rw [hg.u]; have := h.us; omega, fun j h2 h3 => by rw [give_tv hE.spc hg h1 j h2, h.top j h2 h3]⟩
    · rw [give_fd hE.spc hg h0 h1, h.fde]
    · rw [hc]
      by_cases e : 98 + j / 4096 = 98 + i / 4096
      · rw [e, ups_same]; rfl
      · rw [ups_other _ _ e]
        rw [if_neg (fun x => e (by rw [x]))] at hj
        exact h.dom j hj
    · rw [hc, lst_len_ups (by omega)]
      have := h.cnt
      split <;> omega
/-- the second loop's state: at block i, so many are left -/
structure Lo2 (w0 w : World) (D : Dk) (T : Tx) (n R P i lf : Nat) (F : Nat → Bool) : Prop where
  ev : Ev w0 w D T n R P F
  fde : fd (nD n) n (bmp D T) = fun j => F j && decide (i ≤ j)
  left : ct (fun j => F j && decide (i ≤ j)) n = lf
  dom : ∀ i, F i = true → (T.c (98 + i / 4096)).isSome = true
  cnt : (lst T.c n).length + lf ≤ 80
  us : T.us.length + 2 * lf ≤ 200
  top : ∀ j, i ≤ j → j < n → tv D T j = one 7
  lo : nD n ≤ i
theorem Lo2.on {w0 w w' : World} {D : Dk} {T : Tx} {n R P i l : Nat} {F : Nat → Bool} (h : Lo2 w0 w D T n R P i l F) (hb : Below w.heap.size w w') : Lo2 w0 w' D T n R P i l F := ⟨h.ev.on hb, h.fde, h.left, h.dom, h.cnt, h.us, h.top, h.lo⟩
theorem Lo1.two {w0 w : World} {D : Dk} {T : Tx} {n R P k m : Nat} {F : Nat → Bool} (h : Lo1 w0 w D T n R P k F) (hk : k ≤ 40) (hm : ct F n = m) (hm2 : m ≤ 40) : Lo2 w0 w D T n R P (nD n) m F := by
  have e : (fun j => F j && decide (nD n ≤ j)) = F := by
    funext j
    cases hF : F j with
    | false => rfl
    | true =>
      rw [← h.fde] at hF
      rw [decide_eq_true (fd_bd hF).1]; rfl
  have h1 := h.cnt
  have h2 := h.us
  exact ⟨h.ev, by rw [e, h.fde], by rw [e, hm], h.dom, by omega, by omega, h.top, Nat.le_refl _⟩
theorem next_f {F : Nat → Bool} {i : Nat} (hF : F i = false) : (fun j => F j && decide (i ≤ j)) = fun j => F j && decide (i + 1 ≤ j) := by
  funext j
  by_cases e : j = i
  · subst e; rw [hF]; rfl
  · congr 1
    by_cases e2 : i ≤ j
    · rw [decide_eq_true e2, decide_eq_true (by omega)]
    · rw [decide_eq_false e2, decide_eq_false (by omega)]
theorem next_t (F : Nat → Bool) (i : Nat) : (fun j => if j = i then false else F j && decide (i ≤ j)) = fun j => F j && decide (i + 1 ≤ j) := by
  funext j
  by_cases e : j = i
  · subst e; rw [if_pos rfl, decide_eq_false (by omega), Bool.and_false]
  · rw [if_neg e]
    congr 1
    by_cases e2 : i ≤ j
    · rw [decide_eq_true e2, decide_eq_true (by omega)]
    · rw [decide_eq_false e2, decide_eq_false (by omega)]
theorem Lo2.skip {w0 w : World} {D : Dk} {T : Tx} {n R P i l : Nat} {F : Nat → Bool} (h : Lo2 w0 w D T n R P i l F) (hF : F i = false) : Lo2 w0 w D T n R P (i + 1) l F :=
  ⟨h.ev, by rw [h.fde, next_f hF], by rw [← next_f hF]; exact h.left, h.dom, h.cnt, h.us, fun j h1 h2 => h.top j (by omega) h2, by have := h.lo; omega⟩
theorem Lo2.take {w0 w : World} {D : Dk} {T : Tx} {n R P i l : Nat} {F : Nat → Bool} (h : Lo2 w0 w D T n R P i (l + 1) F) (hF : F i = true) (hi : i < n) :
    Calls Try.prog 6 #[.pointer (some ⟨T.t, 0, none⟩), geoV n] w fun e w' => e = .returned (.tuple #[.int .i64 (i : Int), .int .i64 0]) ∧ ∃ T', T'.t = T.t ∧ Lo2 w0 w' D T' n R P (i + 1) l F := by
  have hlo : IsLo (fd (nD n) n (bmp D T)) i := by
    rw [h.fde]
    refine ⟨by dsimp only; rw [hF]; simp, fun j hj => ?_⟩
    dsimp only
    rw [decide_eq_false (by omega), Bool.and_false]
  have hc := h.cnt
  have hd := h.dom i hF
  have hus := h.us
  refine (stake_ok w0 w D T n h.ev.spc i hlo (.inl hd) (.inr (by rw [hd, if_pos rfl]; omega)) (by omega)).mono ?_
  rintro e w' ⟨rfl, T', hg⟩
  have hN := nM_bd h.ev.spc.lo h.ev.spc.hi
  obtain ⟨q, q2, hcc, _⟩ := hg.c
  have hM : i / 4096 < nM n := by unfold nM; omega
  have hl2 := h.lo
  refine ⟨rfl, T', hg.mv.t, h.ev.mv hg.spc hg.mv, ?_, ?_, fun j hj => ?_, ?_, by rw [hg.u]; omega, fun j h1 h2 => ?_, by omega⟩
  · rw [take_fd h.ev.spc hg h.lo hi, h.fde, next_t]
  · have := ct_set (f := fun j => F j && decide (i ≤ j)) hi false
    rw [next_t, h.left] at this
    simp only [hF, Nat.le_refl, decide_true, Bool.and_self, if_true] at this
    simp at this
    omega
  · rw [hcc]
    by_cases e : 98 + j / 4096 = i
    · rw [e, ups_same]; rfl
    · rw [ups_other _ _ e]
      by_cases e2 : 98 + j / 4096 = 98 + i / 4096
      · rw [e2, ups_same]; rfl
      · rw [ups_other _ _ e2]; exact h.dom j hj
  · rw [hcc, lst_len_ups hi, ups_other _ _ (by omega), lst_len_ups (by omega), hd, if_pos rfl]
    split <;> omega
  · rw [take_tv h.ev.spc hg hi j (by omega), if_neg (by omega), h.top j (by omega) h2]
end Go.Proofs.Ytpbpblpbjkegfaa
