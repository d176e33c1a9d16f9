import Derived.Test.YtcdggcdkjooohaaDoorWFx
import Derived.Test.YtcdggcdkjooohaaDoorKADo
import Derived.Test.YtcdggcdkjooohaaDoorWRo
namespace Go.Proofs.YtcdggcdkjooohaaDoor
open Go.RowKit Rec

def fallsB (n : Nat) (t : Int) : Bool := decide (0 < n) && decide (1 ≤ t) && decide (t ≤ 2 * (n : Int) + 6)
def backB (n : Nat) (t : Int) (keep : List Bool) : Bool := fallsB n t && (decide (t < (n : Int) + 2) || (decide (t < (n : Int) + 4) && !(kpOf keep 0)))
def wantA (n : Nat) (t : Int) (keep : List Bool) (l m : List Int) : List Int := if backB n t keep then l else m
theorem Rest.well {a : AD} {nb : Nat} {l : List Int} (h : Rest a nb l) (hn : 98 ≤ nb) : Well nb l l := ⟨h.len, (log_empty hn h.log).2.2, by rw [h.behind hn]; exact fun _ _ _ => rfl⟩
theorem arm_rest {a : AD} {t : Int} {keep : List Bool} : (a.arm t keep).las = a.las ∧ (a.arm t keep).P = a.P ∧ (a.arm t keep).down = a.down ∧ (a.arm t keep).nb = a.nb ∧ (a.arm t keep).at_ = t ∧ (a.arm t keep).keep = keep ∧ (a.arm t keep).wr = a.wr ∧ (a.arm t keep).fl = a.fl ∧ (a.arm t keep).T = a.T := ⟨rfl, rfl, rfl, rfl, rfl, rfl, rfl, rfl, rfl⟩
/-- a commit on a disk that is armed -/
theorem commit_armed (w w2 : World) (a : AD) (A : Dk) (nb : Nat) (hn0 : 98 ≤ nb) (l : List Int) (t : Int) (keep : List Bool) (hB : Rest a nb l) (b1 : a.wr ≤ 1000000) (b2 : a.fl ≤ 1000000) (b3 : a.T.length ≤ 1000000) (hA : A.abs = a.arm t keep) (hM : Mine w w2 A) (hT : TabAt w2) (va : Option Addr) (vc : Nat) (L : List Bk) (h30 : L.length ≤ 96) (hL : L = [] ∨ ∃ g, va = some ⟨g, 0, none⟩ ∧ BlocksAt w2 g L ∧ ComOk nb (nsB L) (dsB L) ∧ ∀ q ∈ L, ¬ A.has q.g) (hk : keep.length ≤ 9223372036854775807) :
    Calls Tryd.prog 30 #[.pointer (some ⟨A.d, 0, none⟩), .slice va L.length vc] w2 fun e w' => e = .returned (.int .i64 (if fallsB L.length t then 30 else 0)) ∧ ∃ E, Mine w w' E ∧ E.d = A.d ∧ Mv w2 A w' E ∧ E.down = fallsB L.length t ∧ Well nb (wantA L.length t keep l (fw l (homes (nsB L) (dsB L)))) E.las := by
  have hlas : A.abs.las = l := by rw [hA]; exact hB.las
  have hP : A.abs.P = [] := by rw [hA]; exact hB.pen
  have hd : A.abs.down = false := by rw [hA]; exact hB.down
  have hnb : A.nb = nb := (show A.abs.nb = nb from by rw [hA]; exact hB.size)
  have hat : A.abs.at_ = t := by rw [hA]; rfl
  have hkp : A.abs.keep = keep := by rw [hA]; rfl
  rcases hL with rfl | ⟨g, rfl, hBl, ok, hq⟩
  · have hf : fallsB ([] : List Bk).length t = false := rfl
    have hw : wantA ([] : List Bk).length t keep l (fw l (homes (nsB []) (dsB []))) = l := by unfold wantA backB; rw [hf]; rfl
    rw [hf, hw]
    refine (commit_nil w2 _ va vc).mono ?_
    rintro e w' ⟨rfl, rfl⟩
    refine ⟨rfl, A, hM, rfl, Mv.refl _ _, hd, ?_⟩
    show Well nb l A.abs.las
    rw [hlas]
    exact hB.well (by omega)
  · have hp : 0 < L.length := by have := ok.lo; simp [nsB] at this; omega
    have hnl : (nsB L).length = L.length := by simp [nsB]
    have hr : RoomN A.abs (2 * L.length + 6) := by
      rw [hA]
      exact ⟨by show a.P.length + _ ≤ _; rw [hB.pen]; simp; omega, by show a.T.length + _ ≤ _; omega, by show a.wr + _ ≤ _; omega, by show a.fl + _ ≤ _; omega, hk⟩
    refine (commit_ok w2 A hM.disk hT g L.length vc L hBl rfl hp (by rw [hnb]; exact ok) hq hr).mono ?_
    rintro e w' ⟨rfl, E, hE⟩
    obtain ⟨t1, t2⟩ := take_commit A.abs nb (nsB L) (dsB L) ok (by rw [hlas]; exact hB.len) (by rw [hlas]; exact hB.log) hP hd
    rw [hat, hnl, hlas] at t1 t2
    have hls : E.las = (A.abs.take (commitA (nsB L) (dsB L))).las := (show E.abs.las = _ from congrArg AD.las hE.abs)
    have hdn : E.down = (A.abs.take (commitA (nsB L) (dsB L))).down := (show E.abs.down = _ from congrArg AD.down hE.abs)
    by_cases c : 1 ≤ t ∧ t ≤ 2 * (L.length : Int) + 6
    · obtain ⟨x1, x2, x3, x4, x5⟩ := t2 c
      have hf : fallsB L.length t = true := by unfold fallsB; rw [decide_eq_true hp, decide_eq_true c.1, decide_eq_true c.2]; rfl
      rw [hf]
      refine ⟨by rw [x1]; rfl, E, hM.done hE, hE.mv.d, hE.mv, by rw [hdn, x2], ?_⟩
      rw [hls]
      have e : wantA L.length t keep l (fw l (homes (nsB L) (dsB L))) = if t < (L.length : Int) + 2 ∨ t < (L.length : Int) + 4 ∧ kpOf A.abs.keep 0 = false then l else fw l (homes (nsB L) (dsB L)) := by
        unfold wantA backB
        rw [hf, hkp]
        congr 1
        simp
      rw [e]
      exact x5
    · obtain ⟨x1, x2, x3, x4⟩ := t1 c
      have hf : fallsB L.length t = false := by
        unfold fallsB
        rw [decide_eq_true hp]
        by_cases c1 : 1 ≤ t
        · rw [decide_eq_false (fun c2 => c ⟨c1, c2⟩), Bool.and_false]
        · rw [decide_eq_false c1]; rfl
      rw [hf]
      refine ⟨by rw [x2]; rfl, E, hM.done hE, hE.mv.d, hE.mv, ?_, ?_⟩
      · rw [hdn, x1]; exact hd
      · rw [hls]
        have e : wantA L.length t keep l (fw l (homes (nsB L) (dsB L))) = fw l (homes (nsB L) (dsB L)) := by unfold wantA backB; rw [hf]; rfl
        rw [e]
        exact x4
/-- a disk over what lasts -/
structure Lst (nb : Nat) (w0 w : World) (X : Dk) (W : List Int) : Prop where
  mine : Mine w0 w X
  well : Well nb W X.las
theorem Lst.on {nb : Nat} {w0 w w' : World} {X : Dk} {W : List Int} (h : Lst nb w0 w X W) (hb : Below w.heap.size w w') : Lst nb w0 w' X W := ⟨h.mine.on hb, h.well⟩
theorem well_openE {nb : Nat} {W l : List Int} {D : Dk} (h : Well nb W l) (hD : D.full = l) (hd : D.down = false) (hn : D.nb = nb) : openE D = 0 := by
  unfold openE
  rw [hd, hD, hn]
  exact h.ok
/-- the recovery that ends -/
structure Ended (nb : Nat) (w0 w : World) (E : Dk) (W : List Int) : Prop where
  mine : Mine w0 w E
  rest : Rest E.abs nb E.las
  like : Like nb E.las W
theorem Ended.on {nb : Nat} {w0 w w' : World} {E : Dk} {W : List Int} (h : Ended nb w0 w E W) (hb : Below w.heap.size w w') : Ended nb w0 w' E W := ⟨h.mine.on hb, h.rest, h.like⟩
end Go.Proofs.YtcdggcdkjooohaaDoor
