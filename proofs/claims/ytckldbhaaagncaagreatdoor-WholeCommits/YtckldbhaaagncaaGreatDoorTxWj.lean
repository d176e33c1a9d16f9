import Derived.Test.YtckldbhaaagncaaGreatDoorKTxWg
import Derived.Test.YtckldbhaaagncaaGreatDoorKTxWe
import Derived.Test.YtckldbhaaagncaaGreatDoorKTxWc
namespace Go.Proofs.YtckldbhaaagncaaGreatDoor
open Go.RowKit Go.Maps Rec

theorem ses_commitA (w0 w : World) (D : Dk) (T : Tx) (S : Ses w0 w D T) (hT : TabAt w) (h98 : 98 ≤ D.nb) (hr : RoomN D.abs (2 * (lst T.c T.nb).length + 6)) :
    Calls Tryz.prog 16 #[.pointer (some ⟨T.t, 0, none⟩)] w fun e w' => ∃ r E, e = .returned (.int .i64 r) ∧ Mine w0 w' E ∧ E.d = D.d ∧ OverAt w' T.t ∧ (lst T.c T.nb = [] → r = 0 ∧ E.abs = D.abs) ∧ (lst T.c T.nb ≠ [] → r = D.abs.takeE (commitA (nsB (lst T.c T.nb)) (dsB (lst T.c T.nb))) ∧ E.abs = D.abs.take (commitA (nsB (lst T.c T.nb)) (dsB (lst T.c T.nb)))) ∧ E.nb = D.nb ∧ Fr (fun k => D.has k ∨ k = T.t) w w' ∧ Al w.heap.size D E := by
  have hrowK : ∀ {w1 w' : World} {E : Dk}, Below w.heap.size w w1 → Mv w1 D w' E → w'.heap[T.t]? = some (.cells T.cells 61 (0, 0)) := fun hb hm => ((S.tx.on hb).fr hm.fr S.ap1).row
  have hfin : ∀ {w1 w2 w' : World} {E : Dk}, Below w.heap.size w w1 → Disk w2 E → Mv w1 D w2 E → Al w1.heap.size D E → Fr (fun k => k = T.t) w2 w' → Mine w0 w' E ∧ Fr (fun k => D.has k ∨ k = T.t) w w' := fun {w1 w2 w' E} hb hd hm ha hF => by
    have s1 := (S.on hb).dmv hd hm ha
    refine ⟨⟨hd.fr hF (fun k hk e => ?_), s1.dk.far, s1.dk.bel.trans (hF.below _ (fun k hk => by rw [hk]; exact S.far _ (.inl (.inl rfl))) s1.dk.bel.size)⟩, ?_⟩
    · subst e
      exact s1.ap2 T.t (.inl rfl) hk
    · exact ((below_fr hb (fun k => D.has k ∨ k = T.t)).trans (hm.fr.mono (T := fun k => D.has k ∨ k = T.t) (fun k hk => .inl hk)) (fun k hk => .inl hk)).trans (hF.mono (T := fun k => D.has k ∨ k = T.t) (fun k hk => .inr hk)) (fun k hk => .inl hk)
  by_cases hne : lst T.c T.nb = []
  · refine (tcommit_any w T S.tx (fun r w2 => r = 0 ∧ Below w.heap.size w w2) 0 (by rw [hne]; rfl) (fun wx va vc hb _ => ?_)).mono ?_
    · refine (commit_nil wx _ va vc).mono ?_
      rintro e w' ⟨rfl, rfl⟩
      exact ⟨0, rfl, ⟨rfl, hb⟩, (S.tx.on hb).row⟩
    · rintro e w' ⟨r, w2, rfl, ⟨rfl, hb⟩, ho, hF⟩
      obtain ⟨f1, f2⟩ := hfin hb (S.dk.disk.on hb) (Mv.refl _ _) (fun k hk => .inl hk) hF
      exact ⟨0, D, rfl, f1, rfl, ho, fun _ => ⟨rfl, rfl⟩, fun h => absurd hne h, rfl, f2, fun k hk => .inl hk⟩
  · have hp : 0 < (lst T.c T.nb).length := by
      cases e : lst T.c T.nb with
      | nil => exact absurd e hne
      | cons a l => simp
    have ok : ComOk D.nb (nsB (lst T.c T.nb)) (dsB (lst T.c T.nb)) := by
      rw [S.nb]
      exact lst_ok S.tx.ok (fun i q hq => (S.tx.blk i q hq).len) (by rw [← S.nb]; exact h98) S.tx.n16 hne S.tx.cnt
    refine (tcommit_any w T S.tx (fun r w2 => r = D.abs.takeE (commitA (nsB (lst T.c T.nb)) (dsB (lst T.c T.nb))) ∧ ∃ w1 E, Below w.heap.size w w1 ∧ DoneAt w1 D w2 E (commitA (nsB (lst T.c T.nb)) (dsB (lst T.c T.nb)))) _ rfl (fun wx va vc hb hB => ?_)).mono ?_
    · obtain ⟨g, rfl, hB2⟩ := hB.resolve_left hne
      have := commit_ok wx D (S.dk.disk.on hb) (hT.on hb) g _ vc _ hB2 rfl hp ok (fun q hq hh => by
        obtain ⟨i, hi, e⟩ := lst_mem hq
        exact S.ap1 q.g (.inr (.inl ⟨i, q, e, rfl⟩)) hh) hr
      rw [S.d] at this
      refine this.mono ?_
      rintro e w' ⟨rfl, E, hE⟩
      exact ⟨_, rfl, ⟨rfl, wx, E, hb, hE⟩, hrowK hb hE.mv⟩
    · rintro e w' ⟨r, w2, rfl, ⟨rfl, w1, E, hb, hE⟩, ho, hF⟩
      obtain ⟨f1, f2⟩ := hfin hb hE.disk hE.mv hE.al hF
      exact ⟨_, E, rfl, f1, hE.mv.d, ho, fun h => absurd h hne, fun _ => ⟨rfl, hE.abs⟩, hE.mv.nb, f2, fun k hk => (hE.al k hk).imp id (Nat.le_trans hb.size)⟩
theorem all_arm (a : AD) (gs : List (List (Nat × List Int))) (t : Int) (k : List Bool) : ((a.arm t k).all gs).arm 0 [] = (a.all gs).arm 0 [] := rfl
theorem Rest.arm0 {a : AD} {nb : Nat} {l : List Int} (h : Rest a nb l) : Rest (a.arm 0 []) nb l := ⟨h.size, h.las, h.pen, h.down, rfl, h.len, h.log⟩
theorem valC_nil {c : Cm} {l : List Int} {nb : Nat} (h : lst c nb = []) (i : Nat) (hi : i < nb) : valC c l i = bck l i := by
  cases e : c i with
  | none => exact valC_none e
  | some q => have := lst_of hi e; rw [h] at this; cases this
/-- Commit, whatever is armed: it falls, or all is done -/
theorem wc_commit (w0 w : World) (a : AD) (A : Dk) (T : Tx) (nb : Nat) (l : List Int) (t : Int) (keep : List Bool) (n : Nat) (hn : (lst T.c nb).length = n) (hTn : T.nb = nb) (S : Ses w0 w A T) (hA : A.abs = a.arm t keep) (hR : Rest a nb l) (hT : TabAt w) (h98 : 98 ≤ nb) (b1 : a.wr ≤ 1000000) (b2 : a.fl ≤ 1000000) (b3 : a.T.length ≤ 1000000) (hk : keep.length ≤ 9223372036854775807) :
    Calls Tryz.prog 16 #[.pointer (some ⟨T.t, 0, none⟩)] w fun e w' => e = .returned (.int .i64 (if fallsB n t then 30 else 0)) ∧ ∃ E, Mine w0 w' E ∧ E.d = A.d ∧ OverAt w' T.t ∧ E.nb = nb ∧ Fr (fun k => A.has k ∨ k = T.t) w w' ∧ Al w.heap.size A E ∧
      (fallsB n t = true → E.down = true ∧ Well nb (wantA n t keep l (overC T.c l nb)) E.las) ∧
      (fallsB n t = false → ∃ l', Rest (E.abs.arm 0 []) nb l' ∧ (∀ i, 98 ≤ i → i < nb → bck l' i = valC T.c l i) ∧ E.abs.wr ≤ a.wr + 300 ∧ E.abs.fl ≤ a.fl + 300 ∧ E.abs.T.length ≤ a.T.length + 300) := by
  have hAn : A.nb = nb := (show A.abs.nb = nb from by rw [hA]; exact hR.size)
  have h16 : nb ≤ 16384 := by rw [← hAn]; exact S.dk.disk.nb1
  have h96 : n ≤ 96 := by have := S.tx.cnt; rw [hTn, hn] at this; exact this
  have hlas : A.abs.las = l := by rw [hA]; exact hR.las
  have hP : A.abs.P = [] := by rw [hA]; exact hR.pen
  have hd : A.abs.down = false := by rw [hA]; exact hR.down
  have hat : A.abs.at_ = t := by rw [hA]; rfl
  have hkp : A.abs.keep = keep := by rw [hA]; rfl
  have hr : RoomN A.abs (2 * (lst T.c T.nb).length + 6) := by
    rw [hTn, hn, hA]
    exact ⟨by show a.P.length + _ ≤ _; rw [hR.pen]; simp; omega, by show a.T.length + _ ≤ _; omega, by show a.wr + _ ≤ _; omega, by show a.fl + _ ≤ _; omega, hk⟩
  refine (ses_commitA w0 w A T S hT (by rw [hAn]; exact h98) hr).mono ?_
  rw [hTn]
  rintro e w' ⟨r, E, rfl, hM, hEd, ho, h1, h2, hEn, hF, hAl⟩
  by_cases hne : lst T.c nb = []
  · obtain ⟨rfl, hE⟩ := h1 hne
    have n0 : n = 0 := by rw [← hn, hne]; rfl
    subst n0
    have hf : fallsB 0 t = false := rfl
    rw [hf]
    refine ⟨rfl, E, hM, hEd, ho, hEn.trans hAn, hF, hAl, (fun h => by cases h), fun _ => ⟨l, ?_, fun i _ hi => valC_nil hne i hi ▸ rfl, ?_, ?_, ?_⟩⟩
    · rw [hE, hA]; exact hR.arm0
    · rw [hE, hA]; show a.wr ≤ _; omega
    · rw [hE, hA]; show a.fl ≤ _; omega
    · rw [hE, hA]; show a.T.length ≤ _; omega
  · obtain ⟨hr0, hE⟩ := h2 hne
    have hp : 0 < n := by
      rw [← hn]
      cases e : lst T.c nb with
      | nil => exact absurd e hne
      | cons a l => simp
    have ok : ComOk nb (nsB (lst T.c nb)) (dsB (lst T.c nb)) := lst_ok (by have := S.tx.ok; rw [hTn] at this; exact this) (fun i q hq => (S.tx.blk i q hq).len) h98 h16 hne (by rw [hn]; exact h96)
    have hnl : (nsB (lst T.c nb)).length = n := by rw [← hn]; simp [nsB]
    obtain ⟨t1, t2⟩ := take_commit A.abs nb (nsB (lst T.c nb)) (dsB (lst T.c nb)) ok (by rw [hlas]; exact hR.len) (by rw [hlas]; exact hR.log) hP hd
    rw [hat, hnl, hlas] at t1 t2
    by_cases c : 1 ≤ t ∧ t ≤ 2 * (n : Int) + 6
    · obtain ⟨x1, x2, x3, x4, x5⟩ := t2 c
      have hf : fallsB n t = true := by unfold fallsB; rw [decide_eq_true hp, decide_eq_true c.1, decide_eq_true c.2]; rfl
      rw [hf]
      refine ⟨by rw [hr0, x1]; rfl, E, hM, hEd, ho, hEn.trans hAn, hF, hAl, fun _ => ⟨(show E.abs.down = true from by rw [hE, x2]), ?_⟩, (fun h => by cases h)⟩
      have hls : E.las = (A.abs.take (commitA (nsB (lst T.c nb)) (dsB (lst T.c nb)))).las := (show E.abs.las = _ from congrArg AD.las hE)
      rw [hls]
      have e : wantA n t keep l (overC T.c l nb) = if t < (n : Int) + 2 ∨ t < (n : Int) + 4 ∧ kpOf A.abs.keep 0 = false then l else fw l (homes (nsB (lst T.c nb)) (dsB (lst T.c nb))) := by
        unfold wantA backB overC
        rw [hf, hkp]
        congr 1
        simp
      rw [e]
      exact x5
    · obtain ⟨x1, x2, x3, x4⟩ := t1 c
      have hf : fallsB n t = false := by
        unfold fallsB
        rw [decide_eq_true hp]
        by_cases c1 : 1 ≤ t
        · rw [decide_eq_true c1, decide_eq_false (fun h => c ⟨c1, h⟩)]; rfl
        · rw [decide_eq_false c1]; rfl
      rw [hf]
      obtain ⟨u1, _⟩ := take_commit a nb (nsB (lst T.c nb)) (dsB (lst T.c nb)) ok (by rw [hR.las]; exact hR.len) (by rw [hR.las]; exact hR.log) hR.pen hR.down
      obtain ⟨v1, v2, v3, v4⟩ := u1 (by rw [hR.at_]; omega)
      obtain ⟨m1, ⟨l', m2, m3⟩, m4, m5⟩ := commit_math hR (by have := S.tx.ok; rw [hTn] at this; exact this) (fun i q hq => (S.tx.blk i q hq).len) h98 h16 (by rw [hn]; exact h96) hne rfl
      have hEa : E.abs.arm 0 [] = (a.take (commitA (nsB (lst T.c nb)) (dsB (lst T.c nb)))).arm 0 [] := by
        rw [hE, x1, v1, hA, all_arm]
      have hw : E.abs.wr = (a.take (commitA (nsB (lst T.c nb)) (dsB (lst T.c nb)))).wr := (show (E.abs.arm 0 []).wr = ((a.take (commitA (nsB (lst T.c nb)) (dsB (lst T.c nb)))).arm 0 []).wr from by rw [hEa])
      have hfl : E.abs.fl = (a.take (commitA (nsB (lst T.c nb)) (dsB (lst T.c nb)))).fl := (show (E.abs.arm 0 []).fl = ((a.take (commitA (nsB (lst T.c nb)) (dsB (lst T.c nb)))).arm 0 []).fl from by rw [hEa])
      have hTt : E.abs.T = (a.take (commitA (nsB (lst T.c nb)) (dsB (lst T.c nb)))).T := (show (E.abs.arm 0 []).T = ((a.take (commitA (nsB (lst T.c nb)) (dsB (lst T.c nb)))).arm 0 []).T from by rw [hEa])
      refine ⟨by rw [hr0, x2]; rfl, E, hM, hEd, ho, hEn.trans hAn, hF, hAl, (fun h => by cases h), fun _ => ⟨l', ?_, m3, ?_, ?_, ?_⟩⟩
      · rw [hEa]; exact m2.arm0
      · rw [hw, m4, hn]; omega
      · rw [hfl, m5]; omega
      · rw [hTt, v1]
        show (a.T ++ (grp _).map actT).length ≤ _
        rw [List.length_append, List.length_map]
        have hg : (commitA (nsB (lst T.c nb)) (dsB (lst T.c nb))).length ≤ 300 := by
          simp [commitA, homeA, logW, homes, nsB, dsB, hn]; omega
        have hg2 : grp [logW (dsB (lst T.c nb)), [(1, made (nsB (lst T.c nb)) (dsB (lst T.c nb)))], homes (nsB (lst T.c nb)) (dsB (lst T.c nb)), [(1, zs)]] = commitA (nsB (lst T.c nb)) (dsB (lst T.c nb)) := by
          simp [grp, commitA, homeA]
        rw [hg2]; omega
end Go.Proofs.YtckldbhaaagncaaGreatDoor
