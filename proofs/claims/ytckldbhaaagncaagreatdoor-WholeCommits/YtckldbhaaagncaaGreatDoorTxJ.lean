import Derived.Test.YtckldbhaaagncaaGreatDoorTxI
namespace Go.Proofs.YtckldbhaaagncaaGreatDoor
open Go.RowKit Go.Maps Rec

/-- Commit, and what it leaves alone -/
theorem ses_commitF (w0 w : World) (D : Dk) (T : Tx) (S : Ses w0 w D T) (hT : TabAt w) (h98 : 98 ≤ D.nb) (hr : RoomN D.abs (2 * (lst T.c T.nb).length + 6)) :
    Calls Tryz.prog 16 #[.pointer (some ⟨T.t, 0, none⟩)] w fun e w' => ∃ r E, e = .returned (.int .i64 r) ∧ Mine w0 w' E ∧ E.d = D.d ∧ OverAt w' T.t ∧ (lst T.c T.nb = [] → r = 0 ∧ E.abs = D.abs) ∧ (lst T.c T.nb ≠ [] → r = D.abs.takeE (commitA (nsB (lst T.c T.nb)) (dsB (lst T.c T.nb))) ∧ E.abs = D.abs.take (commitA (nsB (lst T.c T.nb)) (dsB (lst T.c T.nb)))) ∧ E.nb = D.nb ∧ Fr (fun k => D.has k ∨ k = T.t) w w' := by
  have hrowK : ∀ {w1 w' : World} {E : Dk}, Below w.heap.size w w1 → Mv w1 D w' E → w'.heap[T.t]? = some (.cells T.cells 61 (0, 0)) := fun hb hm => ((S.tx.on hb).fr hm.fr S.ap1).row
  have hfin : ∀ {w1 w2 w' : World} {E : Dk}, Below w.heap.size w w1 → Disk w2 E → Mv w1 D w2 E → Al w1.heap.size D E → Fr (fun k => k = T.t) w2 w' → Mine w0 w' E ∧ Fr (fun k => D.has k ∨ k = T.t) w w' := fun {w1 w2 w' E} hb hd hm ha hF => by
    have s1 := (S.on hb).dmv hd hm ha
    refine ⟨⟨hd.fr hF (fun k hk e => ?_), s1.dk.far, s1.dk.bel.trans (hF.below _ (fun k hk => by rw [hk]; exact S.far _ (.inl (.inl rfl))) s1.dk.bel.size)⟩, ?_⟩
    · subst e
      exact s1.ap2 T.t (.inl rfl) hk
    · exact ((below_fr hb (fun k => D.has k ∨ k = T.t)).trans (hm.fr.mono (T := fun k => D.has k ∨ k = T.t) (fun k hk => .inl hk)) (fun k hk => .inl hk)).trans (hF.mono (T := fun k => D.has k ∨ k = T.t) (fun k hk => .inr hk)) (fun k hk => .inl hk)
  by_cases hne : lst T.c T.nb = []
  · refine (tcommit_any w T S.tx (fun r w2 => r = 0 ∧ Below w.heap.size w w2) 0 (by rw [hne]; rfl) (fun wx va vc hb _ => ?_)).mono ?_
    · refine (commit_nil wx _ va vc).mono ?_
      rintro e w' ⟨rfl, rfl⟩
      exact ⟨0, rfl, ⟨rfl, hb⟩, (S.tx.on hb).row⟩
    · rintro e w' ⟨r, w2, rfl, ⟨rfl, hb⟩, ho, hF⟩
      obtain ⟨f1, f2⟩ := hfin hb (S.dk.disk.on hb) (Mv.refl _ _) (fun k hk => .inl hk) hF
      exact ⟨0, D, rfl, f1, rfl, ho, fun _ => ⟨rfl, rfl⟩, fun h => absurd hne h, rfl, f2⟩
  · have hp : 0 < (lst T.c T.nb).length := by
      cases e : lst T.c T.nb with
      | nil => exact absurd e hne
      | cons a l => simp
    have ok : ComOk D.nb (nsB (lst T.c T.nb)) (dsB (lst T.c T.nb)) := by
      rw [S.nb]
      exact lst_ok S.tx.ok (fun i q hq => (S.tx.blk i q hq).len) (by rw [← S.nb]; exact h98) S.tx.n16 hne S.tx.cnt
    refine (tcommit_any w T S.tx (fun r w2 => r = D.abs.takeE (commitA (nsB (lst T.c T.nb)) (dsB (lst T.c T.nb))) ∧ ∃ w1 E, Below w.heap.size w w1 ∧ DoneAt w1 D w2 E (commitA (nsB (lst T.c T.nb)) (dsB (lst T.c T.nb)))) _ rfl (fun wx va vc hb hB => ?_)).mono ?_
    · obtain ⟨g, rfl, hB2⟩ := hB.resolve_left hne
      have := commit_ok wx D (S.dk.disk.on hb) (hT.on hb) g _ vc _ hB2 rfl hp ok (fun q hq hh => by
        obtain ⟨i, hi, e⟩ := lst_mem hq
        exact S.ap1 q.g (.inr (.inl ⟨i, q, e, rfl⟩)) hh) hr
      rw [S.d] at this
      refine this.mono ?_
      rintro e w' ⟨rfl, E, hE⟩
      exact ⟨_, rfl, ⟨rfl, wx, E, hb, hE⟩, hrowK hb hE.mv⟩
    · rintro e w' ⟨r, w2, rfl, ⟨rfl, w1, E, hb, hE⟩, ho, hF⟩
      obtain ⟨f1, f2⟩ := hfin hb hE.disk hE.mv hE.al hF
      exact ⟨_, E, rfl, f1, hE.mv.d, ho, fun h => absurd h hne, fun _ => ⟨rfl, hE.abs⟩, hE.mv.nb, f2⟩
theorem Fr.mono' {S T : Nat → Prop} {a b : World} (x : Fr S a b) (h : ∀ k, S k → T k) : Fr T a b := x.mono h
/-- Commit on a disk that is armed -/
theorem whole_commit (w0 w : World) (a : AD) (A : Dk) (T : Tx) (nb : Nat) (l : List Int) (t : Int) (keep : List Bool) (n : Nat) (hn : (lst T.c nb).length = n) (S : Ses w0 w A T) (hA : A.abs = a.arm t keep) (hR : Rest a nb l) (hT : TabAt w) (h98 : 98 ≤ nb) (b1 : a.wr ≤ 1000000) (b2 : a.fl ≤ 1000000) (b3 : a.T.length ≤ 1000000) (hk : keep.length ≤ 9223372036854775807) :
    Calls Tryz.prog 16 #[.pointer (some ⟨T.t, 0, none⟩)] w fun e w' => e = .returned (.int .i64 (if fallsB n t then 30 else 0)) ∧ ∃ E, Mine w0 w' E ∧ E.d = A.d ∧ OverAt w' T.t ∧ E.down = fallsB n t ∧ Well nb (wantA n t keep l (overC T.c l nb)) E.las ∧ E.nb = nb ∧ Fr (fun k => A.has k ∨ k = T.t) w w' := by
  have hlas : A.abs.las = l := by rw [hA]; exact hR.las
  have hP : A.abs.P = [] := by rw [hA]; exact hR.pen
  have hd : A.abs.down = false := by rw [hA]; exact hR.down
  have hnb : A.nb = nb := (show A.abs.nb = nb from by rw [hA]; exact hR.size)
  have hTn : T.nb = nb := S.nb.symm.trans hnb
  have hat : A.abs.at_ = t := by rw [hA]; rfl
  have hkp : A.abs.keep = keep := by rw [hA]; rfl
  have h96 := S.tx.cnt
  rw [hTn, hn] at h96
  have hr : RoomN A.abs (2 * (lst T.c T.nb).length + 6) := by
    rw [hTn, hn, hA]
    exact ⟨by show a.P.length + _ ≤ _; rw [hR.pen]; simp; omega, by show a.T.length + _ ≤ _; omega, by show a.wr + _ ≤ _; omega, by show a.fl + _ ≤ _; omega, hk⟩
  refine (ses_commitF w0 w A T S hT (by rw [hnb]; exact h98) hr).mono ?_
  rintro e w' ⟨r, E, rfl, hM, hEd, ho, c1, c2, hEn, hF⟩
  rw [hTn] at c1 c2
  by_cases hne : lst T.c nb = []
  · obtain ⟨rfl, hE⟩ := c1 hne
    have hn0 : n = 0 := by rw [← hn, hne]; rfl
    subst hn0
    have hf : fallsB 0 t = false := rfl
    have hw : wantA 0 t keep l (overC T.c l nb) = l := by unfold wantA backB overC; rw [hf, hne]; rfl
    rw [hf, hw]
    refine ⟨rfl, E, hM, hEd, ho, (show E.abs.down = false from by rw [hE]; exact hd), ?_, hEn.trans hnb, hF⟩
    show Well nb l E.abs.las
    rw [hE, hlas]
    exact hR.well h98
  · obtain ⟨rfl, hE⟩ := c2 hne
    have ok : ComOk nb (nsB (lst T.c nb)) (dsB (lst T.c nb)) := by
      refine lst_ok ?_ (fun i q hq => (S.tx.blk i q hq).len) h98 ?_ hne (by rw [hn]; exact h96)
      · have := S.tx.ok; rw [hTn] at this; exact this
      · have := S.tx.n16; rw [hTn] at this; exact this
    have hp : 0 < n := by
      rw [← hn]
      cases e : lst T.c nb with
      | nil => exact absurd e hne
      | cons a l => simp
    have hnl : (nsB (lst T.c nb)).length = n := by simp [nsB, hn]
    obtain ⟨t1, t2⟩ := take_commit A.abs nb (nsB (lst T.c nb)) (dsB (lst T.c nb)) ok (by rw [hlas]; exact hR.len) (by rw [hlas]; exact hR.log) hP hd
    rw [hat, hnl, hlas] at t1 t2
    have hls : E.las = (A.abs.take (commitA (nsB (lst T.c nb)) (dsB (lst T.c nb)))).las := (show E.abs.las = _ from congrArg AD.las hE)
    have hdn : E.down = (A.abs.take (commitA (nsB (lst T.c nb)) (dsB (lst T.c nb)))).down := (show E.abs.down = _ from congrArg AD.down hE)
    by_cases c : 1 ≤ t ∧ t ≤ 2 * (n : Int) + 6
    · obtain ⟨x1, x2, x3, x4, x5⟩ := t2 c
      have hf : fallsB n t = true := by unfold fallsB; rw [decide_eq_true hp, decide_eq_true c.1, decide_eq_true c.2]; rfl
      rw [hf]
      refine ⟨by rw [x1]; rfl, E, hM, hEd, ho, by rw [hdn, x2], ?_, hEn.trans hnb, hF⟩
      rw [hls]
      have e : wantA n t keep l (overC T.c l nb) = if t < (n : Int) + 2 ∨ t < (n : Int) + 4 ∧ kpOf A.abs.keep 0 = false then l else fw l (homes (nsB (lst T.c nb)) (dsB (lst T.c nb))) := by
        unfold wantA backB overC
        rw [hf, hkp]
        congr 1
        simp
      rw [e]
      exact x5
    · obtain ⟨x1, x2, x3, x4⟩ := t1 c
      have hf : fallsB n t = false := by
        unfold fallsB
        rw [decide_eq_true hp]
        by_cases c1 : 1 ≤ t
        · rw [decide_eq_false (fun c2 => c ⟨c1, c2⟩), Bool.and_false]
        · rw [decide_eq_false c1]; rfl
      rw [hf]
      refine ⟨by rw [x2]; rfl, E, hM, hEd, ho, ?_, ?_, hEn.trans hnb, hF⟩
      · rw [hdn, x1]; exact hd
      · rw [hls]
        have e : wantA n t keep l (overC T.c l nb) = fw l (homes (nsB (lst T.c nb)) (dsB (lst T.c nb))) := by unfold wantA backB overC; rw [hf]; rfl
        rw [e]
        exact x4
/-- the two rows in a law's own variables -/
structure Rw (w : World) (A B : Nat) (now : Nat → Int) (is : Nat → Bool) : Prop where
  u : w.rangeAt A 0 (rowU now).toList
  b : w.rangeAt B 0 (rowB is).toList
theorem Rw.cu {w : World} {A B : Nat} {now : Nat → Int} {is : Nat → Bool} (h : Rw w A B now is) (i : Nat) (hi : i < 118) : w.cell? ⟨A, i, none⟩ = some (.int .u8 (now i)) := by
  have := h.u i (.int .u8 (now i)) (by have := rowU_at now i hi; simpa using this)
  simpa using this
theorem Rw.cb {w : World} {A B : Nat} {now : Nat → Int} {is : Nat → Bool} (h : Rw w A B now is) (i : Nat) (hi : i < 118) : w.cell? ⟨B, i, none⟩ = some (.bool (is i)) := by
  have := h.b i (.bool (is i)) (by have := rowB_at is i hi; simpa using this)
  simpa using this
theorem Rw.ltA {w : World} {A B : Nat} {now : Nat → Int} {is : Nat → Bool} (h : Rw w A B now is) : A < w.heap.size := block_lt_of_cell (h.cu 0 (by omega))
theorem Rw.ltB {w : World} {A B : Nat} {now : Nat → Int} {is : Nat → Bool} (h : Rw w A B now is) : B < w.heap.size := block_lt_of_cell (h.cb 0 (by omega))
theorem Rw.fr {S : Nat → Prop} {w w' : World} {A B : Nat} {now : Nat → Int} {is : Nat → Bool} (h : Rw w A B now is) (x : Fr S w w') (hA : ¬ S A) (hB : ¬ S B) : Rw w' A B now is :=
  ⟨fun j v hv => x.cell (h.u j v hv) hA, fun j v hv => x.cell (h.b j v hv) hB⟩
theorem Rw.on {w w' : World} {A B : Nat} {now : Nat → Int} {is : Nat → Bool} (h : Rw w A B now is) (x : Below w.heap.size w w') : Rw w' A B now is := h.fr (below_fr x (fun _ => False)) (fun e => e) (fun e => e)
/-- a law behind its fill -/
structure Pre6 (w0 w : World) (D : Dk) (T : Tx) (A B : Nat) (now : Nat → Int) (is : Nat → Bool) : Prop where
  ses : Ses w0 w D T
  rw : Rw w A B now is
  nA : ¬ T.all A ∧ ¬ D.all A ∧ w0.heap.size ≤ A
  nB : ¬ T.all B ∧ ¬ D.all B ∧ w0.heap.size ≤ B
  cnt : Cnt (fun _ => none) T.c now is
theorem Pre6.on {w0 w w' : World} {D : Dk} {T : Tx} {A B : Nat} {now : Nat → Int} {is : Nat → Bool} (h : Pre6 w0 w D T A B now is) (hb : Below w.heap.size w w') : Pre6 w0 w' D T A B now is := ⟨h.ses.on hb, h.rw.on hb, h.nA, h.nB, h.cnt⟩
end Go.Proofs.YtckldbhaaagncaaGreatDoor
