import Derived.Test.YtckldbhaaagncaaGreatDoorWFx
import Derived.Test.YtckldbhaaagncaaGreatDoorKADo
import Derived.Test.YtckldbhaaagncaaGreatDoorKWRo
namespace Go.Proofs.YtckldbhaaagncaaGreatDoor
open Go.RowKit Rec

def fallsB (n : Nat) (t : Int) : Bool := decide (0 < n) && decide (1 ≤ t) && decide (t ≤ 2 * (n : Int) + 6)
def backB (n : Nat) (t : Int) (keep : List Bool) : Bool := fallsB n t && (decide (t < (n : Int) + 2) || (decide (t < (n : Int) + 4) && !(kpOf keep 0)))
def wantA (n : Nat) (t : Int) (keep : List Bool) (l m : List Int) : List Int := if backB n t keep then l else m
theorem Rest.well {a : AD} {nb : Nat} {l : List Int} (h : Rest a nb l) (hn : 98 ≤ nb) : Well nb l l := ⟨h.len, (log_empty hn h.log).2.2, by rw [h.behind hn]; exact fun _ _ _ => rfl⟩
theorem arm_rest {a : AD} {t : Int} {keep : List Bool} : (a.arm t keep).las = a.las ∧ (a.arm t keep).P = a.P ∧ (a.arm t keep).down = a.down ∧ (a.arm t keep).nb = a.nb ∧ (a.arm t keep).at_ = t ∧ (a.arm t keep).keep = keep ∧ (a.arm t keep).wr = a.wr ∧ (a.arm t keep).fl = a.fl ∧ (a.arm t keep).T = a.T := ⟨rfl, rfl, rfl, rfl, rfl, rfl, rfl, rfl, rfl⟩
/-- a commit on a disk that is armed -/
theorem commit_armed (w w2 : World) (a : AD) (A : Dk) (nb : Nat) (hn0 : 98 ≤ nb) (l : List Int) (t : Int) (keep : List Bool) (hB : Rest a nb l) (b1 : a.wr ≤ 1000000) (b2 : a.fl ≤ 1000000) (b3 : a.T.length ≤ 1000000) (hA : A.abs = a.arm t keep) (hM : Mine w w2 A) (hT : TabAt w2) (va : Option Addr) (vc : Nat) (L : List Bk) (h30 : L.length ≤ 96) (hL : L = [] ∨ ∃ g, va = some ⟨g, 0, none⟩ ∧ BlocksAt w2 g L ∧ ComOk nb (nsB L) (dsB L) ∧ ∀ q ∈ L, ¬ A.has q.g) (hk : keep.length ≤ 9223372036854775807) :
    Calls Tryz.prog 27 #[.pointer (some ⟨A.d, 0, none⟩), .slice va L.length vc] w2 fun e w' => e = .returned (.int .i64 (if fallsB L.length t then 30 else 0)) ∧ ∃ E, Mine w w' E ∧ E.d = A.d ∧ Mv w2 A w' E ∧ E.down = fallsB L.length t ∧ Well nb (wantA L.length t keep l (fw l (homes (nsB L) (dsB L)))) E.las := by
  have hlas : A.abs.las = l := by rw [hA]; exact hB.las
  have hP : A.abs.P = [] := by rw [hA]; exact hB.pen
  have hd : A.abs.down = false := by rw [hA]; exact hB.down
  have hnb : A.nb = nb := (show A.abs.nb = nb from by rw [hA]; exact hB.size)
  have hat : A.abs.at_ = t := by rw [hA]; rfl
  have hkp : A.abs.keep = keep := by rw [hA]; rfl
  rcases hL with rfl | ⟨g, rfl, hBl, ok, hq⟩
  · have hf : fallsB ([] : List Bk).length t = false := rfl
    have hw : wantA ([] : List Bk).length t keep l (fw l (homes (nsB []) (dsB []))) = l := by unfold wantA backB; rw [hf]; rfl
    rw [hf, hw]
    refine (commit_nil w2 _ va vc).mono ?_
    rintro e w' ⟨rfl, rfl⟩
    refine ⟨rfl, A, hM, rfl, Mv.refl _ _, hd, ?_⟩
    show Well nb l A.abs.las
    rw [hlas]
    exact hB.well (by omega)
  · have hp : 0 < L.length := by have := ok.lo; simp [nsB] at this; omega
    have hnl : (nsB L).length = L.length := by simp [nsB]
    have hr : RoomN A.abs (2 * L.length + 6) := by
      rw [hA]
      exact ⟨by show a.P.length + _ ≤ _; rw [hB.pen]; simp; omega, by show a.T.length + _ ≤ _; omega, by show a.wr + _ ≤ _; omega, by show a.fl + _ ≤ _; omega, hk⟩
    refine (commit_ok w2 A hM.disk hT g L.length vc L hBl rfl hp (by rw [hnb]; exact ok) hq hr).mono ?_
    rintro e w' ⟨rfl, E, hE⟩
    obtain ⟨t1, t2⟩ := take_commit A.abs nb (nsB L) (dsB L) ok (by rw [hlas]; exact hB.len) (by rw [hlas]; exact hB.log) hP hd
    rw [hat, hnl, hlas] at t1 t2
    have hls : E.las = (A.abs.take (commitA (nsB L) (dsB L))).las := (show E.abs.las = _ from congrArg AD.las hE.abs)
    have hdn : E.down = (A.abs.take (commitA (nsB L) (dsB L))).down := (show E.abs.down = _ from congrArg AD.down hE.abs)
    by_cases c : 1 ≤ t ∧ t ≤ 2 * (L.length : Int) + 6
    · obtain ⟨x1, x2, x3, x4, x5⟩ := t2 c
      have hf : fallsB L.length t = true := by unfold fallsB; rw [decide_eq_true hp, decide_eq_true c.1, decide_eq_true c.2]; rfl
      rw [hf]
      refine ⟨by rw [x1]; rfl, E, hM.done hE, hE.mv.d, hE.mv, by rw [hdn, x2], ?_⟩
      rw [hls]
      have e : wantA L.length t keep l (fw l (homes (nsB L) (dsB L))) = if t < (L.length : Int) + 2 ∨ t < (L.length : Int) + 4 ∧ kpOf A.abs.keep 0 = false then l else fw l (homes (nsB L) (dsB L)) := by
        unfold wantA backB
        rw [hf, hkp]
        congr 1
        simp
      rw [e]
      exact x5
    · obtain ⟨x1, x2, x3, x4⟩ := t1 c
      have hf : fallsB L.length t = false := by
        unfold fallsB
        rw [decide_eq_true hp]
        by_cases c1 : 1 ≤ t
        · rw [decide_eq_false (fun c2 => c ⟨c1, c2⟩), Bool.and_false]
        · rw [decide_eq_false c1]; rfl
      rw [hf]
      refine ⟨by rw [x2]; rfl, E, hM.done hE, hE.mv.d, hE.mv, ?_, ?_⟩
      · rw [hdn, x1]; exact hd
      · rw [hls]
        have e : wantA L.length t keep l (fw l (homes (nsB L) (dsB L))) = fw l (homes (nsB L) (dsB L)) := by unfold wantA backB; rw [hf]; rfl
        rw [e]
        exact x4
/-- a disk over what lasts -/
structure Lst (nb : Nat) (w0 w : World) (X : Dk) (W : List Int) : Prop where
  mine : Mine w0 w X
  well : Well nb W X.las
theorem Lst.on {nb : Nat} {w0 w w' : World} {X : Dk} {W : List Int} (h : Lst nb w0 w X W) (hb : Below w.heap.size w w') : Lst nb w0 w' X W := ⟨h.mine.on hb, h.well⟩
theorem well_openE {nb : Nat} {W l : List Int} {D : Dk} (h : Well nb W l) (hD : D.full = l) (hd : D.down = false) (hn : D.nb = nb) : openE D = 0 := by
  unfold openE
  rw [hd, hD, hn]
  exact h.ok
/-- a recovery on a disk that is armed -/
theorem recover_armed (nb : Nat) (hn0 : 98 ≤ nb) (w0 w : World) (X : Dk) (W : List Int) (hM : Mine w0 w X) (hW : Well nb W X.las) (hnb : X.nb = nb) (hP : X.abs.P = []) (hd : X.down = false) (h1 : X.abs.wr ≤ 1000000) (h2 : X.abs.fl ≤ 1000000) (h3 : X.abs.T.length ≤ 1000000) (hk : X.abs.keep.length ≤ 9223372036854775807) (hT : TabAt w) :
    Calls Tryz.prog 31 #[.pointer (some ⟨X.d, 0, none⟩)] w fun e w' => ∃ k r : Int, e = .returned (.tuple #[.int .i64 k, .int .i64 r]) ∧ ∃ E, Mine w0 w' E ∧ E.d = X.d ∧ Mv w X w' E ∧ Well nb W E.las ∧ ((r = 0 ∧ E.down = false) ∨ (r = 30 ∧ E.down = true)) := by
  have hfl : X.full = X.las := by rw [abs_full, AD.full_fw, hP]; rfl
  have he : openE X = 0 := well_openE hW hfl hd hnb
  by_cases h0 : logN X.las nb = []
  · refine (recover_nil w X hM.disk hT he (by rw [hfl, hnb]; exact h0)).mono ?_
    rintro e w' ⟨rfl, hb⟩
    exact ⟨0, 0, rfl, X, hM.on hb, rfl, mv_on _ _ _ hb, hW, .inl ⟨rfl, hd⟩⟩
  · obtain ⟨k, hk0⟩ : ∃ k, (logN X.las nb).length = k := ⟨_, rfl⟩
    have hkp : 0 < k := by
      rcases Nat.eq_zero_or_pos k with e | e
      · exact absurd (List.length_eq_zero_iff.1 (hk0.trans e)) h0
      · exact e
    have hk96 := logN_len X.las nb
    have := recover_yes w X hM.disk hT he k (by rw [hfl, hnb]; exact hk0) hkp ⟨by rw [hP]; simp; omega, by omega, by omega, by omega, hk⟩
    rw [hfl, hnb] at this
    refine this.mono ?_
    rintro e w' ⟨hr, E, hE⟩
    have hE2 : E.abs = X.abs.take (homeA (logH X.las nb)) := hE.abs
    obtain ⟨y1, y2, y3, y4⟩ := take_home X.abs nb W hW (by omega) hP hd
    have hl : E.las = (X.abs.take (homeA (logH X.las nb))).las := (show E.abs.las = _ from congrArg AD.las hE2)
    have hdn : E.down = (X.abs.take (homeA (logH X.las nb))).down := (show E.abs.down = _ from congrArg AD.down hE2)
    have hW' : Well nb W E.las := by rw [hl]; exact y1
    rcases y4 with ⟨z1, z2⟩ | ⟨z1, z2⟩
    · rcases hr with ⟨_, rfl⟩ | ⟨e1, _⟩
      · exact ⟨k, 0, rfl, E, hM.done hE, hE.mv.d, hE.mv, hW', .inl ⟨rfl, by rw [hdn, show X.abs.take (homeA (logH X.las nb)) = _ from z2]; exact hd⟩⟩
      · have z1' : X.abs.takeE (homeA (logH X.las nb)) = 0 := z1
        rw [z1'] at e1; exact absurd e1 (by decide)
    · rcases hr with ⟨e1, _⟩ | ⟨_, rfl⟩
      · have z1' : X.abs.takeE (homeA (logH X.las nb)) = 30 := z1
        rw [z1'] at e1; exact absurd e1 (by decide)
      · exact ⟨0, 30, rfl, E, hM.done hE, hE.mv.d, hE.mv, hW', .inr ⟨rfl, by rw [hdn]; exact z2⟩⟩
/-- the recovery that ends -/
structure Ended (nb : Nat) (w0 w : World) (E : Dk) (W : List Int) : Prop where
  mine : Mine w0 w E
  rest : Rest E.abs nb E.las
  like : Like nb E.las W
theorem Ended.on {nb : Nat} {w0 w w' : World} {E : Dk} {W : List Int} (h : Ended nb w0 w E W) (hb : Below w.heap.size w w') : Ended nb w0 w' E W := ⟨h.mine.on hb, h.rest, h.like⟩
theorem recover_ends (nb : Nat) (hn0 : 98 ≤ nb) (w0 w : World) (Y : Dk) (W l : List Int) (hM : Mine w0 w Y) (hF : Fresh Y.abs nb l) (hW : Well nb W l) (hT : TabAt w) :
    Calls Tryz.prog 31 #[.pointer (some ⟨Y.d, 0, none⟩)] w fun e w' => ∃ k : Int, e = .returned (.tuple #[.int .i64 k, .int .i64 0]) ∧ ∃ E, Ended nb w0 w' E W ∧ E.d = Y.d ∧ Mv w Y w' E := by
  have hfl : Y.full = l := hF.full
  have hnb : Y.nb = nb := hF.size
  have hd : Y.down = false := hF.down
  have he : openE Y = 0 := well_openE hW hfl hd hnb
  by_cases h0 : logN l nb = []
  · have hz := log_nil hF.len (by omega) hW.ok h0
    refine (recover_nil w Y hM.disk hT he (by rw [hfl, hnb]; exact h0)).mono ?_
    rintro e w' ⟨rfl, hb⟩
    have hls : Y.las = l := hF.las
    refine ⟨0, rfl, Y, ⟨hM.on hb, ⟨hF.size, rfl, hF.pen, hF.down, hF.at_, by rw [hls]; exact hF.len, by rw [hls]; exact hz⟩, ?_⟩, rfl, mv_on _ _ _ hb⟩
    rw [hls]
    have := hW.like
    rw [behind_empty hF.len (by omega) hz] at this
    exact this
  · obtain ⟨k, hk0⟩ : ∃ k, (logN l nb).length = k := ⟨_, rfl⟩
    have hkp : 0 < k := by
      rcases Nat.eq_zero_or_pos k with e | e
      · exact absurd (List.length_eq_zero_iff.1 (hk0.trans e)) h0
      · exact e
    have hk96 := logN_len l nb
    obtain ⟨y1, y2, y3, y4, y5⟩ := hF.home
    have := recover_yes w Y hM.disk hT he k (by rw [hfl, hnb]; exact hk0) hkp (hF.room _ (by omega))
    rw [hfl, hnb] at this
    refine this.mono ?_
    rintro e w' ⟨hr, E, hE⟩
    have hE2 : E.abs = Y.abs.take (homeA (logH l nb)) := hE.abs
    have hall : Y.abs.take (homeA (logH l nb)) = Y.abs.all [logH l nb, [(1, zs)]] := by
      rw [homeA_grp]
      exact (take_grp [logH l nb, [(1, zs)]] Y.abs hF.pen hF.down (by rw [hF.at_]; exact .inl (Int.le_refl _))).1
    have hls : E.las = behind l nb := (show E.abs.las = behind l nb from by rw [hE2]; exact y2)
    refine ⟨k, ?_, E, ⟨hM.done hE, ⟨?_, rfl, ?_, ?_, ?_, ?_, ?_⟩, ?_⟩, hE.mv.d, hE.mv⟩
    · rcases hr with ⟨_, rfl⟩ | ⟨e1, _⟩
      · rfl
      · rw [y1] at e1; exact absurd e1 (by decide)
    · rw [hE2, hall]; exact hF.size
    · rw [hE2, hall]; rfl
    · rw [hE2, hall]; exact hF.down
    · rw [hE2, hall]
      show (if 0 < Y.abs.at_ then _ else Y.abs.at_) = 0
      rw [hF.at_]; rfl
    · rw [hls, behind_length]; exact hF.len
    · rw [hls]; exact behind_one l nb hF.len (by omega)
    · rw [hls]; exact hW.like
end Go.Proofs.YtckldbhaaagncaaGreatDoor
