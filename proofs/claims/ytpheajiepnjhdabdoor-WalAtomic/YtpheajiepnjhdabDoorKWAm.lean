import Derived.Test.YtpheajiepnjhdabDoorWLc
import Derived.Test.YtpheajiepnjhdabDoorKADo
namespace Go.Proofs.YtpheajiepnjhdabDoor
open Go.RowKit Rec

theorem rest_small {a : AD} {nb : Nat} {l : List Int} (h : Rest a nb l) (hw : a.wr ≤ 1000) (hf : a.fl ≤ 1000) (ht : a.T.length ≤ 1000) (hk : a.keep.length ≤ 9223372036854775807) (n : Nat) (hn : n ≤ 1000) : RoomN a n :=
  ⟨by rw [h.pen]; simp; omega, by omega, by omega, by omega, hk⟩
/-- a disk on which a commit has ended -/
structure Bgn (w0 w : World) (D : Dk) (l : List Int) : Prop where
  mine : Mine w0 w D
  rest : Rest D.abs 128 l
  wr : D.abs.wr ≤ 1000
  fl : D.abs.fl ≤ 1000
  tp : D.abs.T.length ≤ 1000
  kp : D.abs.keep = []
theorem Bgn.on {w0 w w' : World} {D : Dk} {l : List Int} (h : Bgn w0 w D l) (hb : Below w.heap.size w w') : Bgn w0 w' D l := ⟨h.mine.on hb, h.rest, h.wr, h.fl, h.tp, h.kp⟩
set_option maxRecDepth 100000 in
set_option maxHeartbeats 4000000 in
theorem begun_any (w : World) (hT : TabAt w) (a : Option Addr) (n c : Nat) (P : List (Int × Int)) (hP : PtsAt w a P) (hn : P.length = n) :
    Calls Tryd.prog 5 #[.slice a n c] w fun e w' => ∃ D l, e = .returned (.tuple #[.pointer (some ⟨D.d, 0, none⟩), .bool true]) ∧ Bgn w w' D l := by
  have HNw : Hid (∀ wx, Calls Tryd.prog 18 #[.int .i64 128] wx fun e w' => ∃ D l, e = .returned (.tuple #[.pointer (some ⟨D.d, 0, none⟩), .int .i64 0]) ∧ Mine wx w' D ∧ Rest D.abs 128 l ∧ l = zsA (512 * 128) ∧ D.wr = 0 ∧ D.fl = 0 ∧ D.tap = [] ∧ D.keep = []) := fun wx => new_rest wx 128 (by omega) (by omega)
  have HT : Hid (∀ wx, Below w.heap.size w wx → TabAt wx ∧ PtsAt wx a P) := fun wx hb => ⟨hT.on hb, hP.on hb⟩
  have HN : Hid (P.length = n) := hn
  have hptr := ptr_nil
  clear hT hP hn
  go_enter Tryd.func5, Tryd.ntmps5
  have HRo : Hid (∀ wx, Below w.heap.size w wx → Calls Tryd.prog 7 #[.slice a n c] wx fun e w' => ∃ va vc L, e = .returned (.slice va L.length vc) ∧ RowsAt wx w' 30 (.slice va L.length vc) L) := fun wx hb => by
    refine (rows_any wx a n c P (HT.out wx hb).2 HN.out).mono ?_
    rintro e w' ⟨v, L, rfl, hR⟩
    obtain ⟨va, vc, rfl⟩ := own_form hR.row
    exact ⟨va, vc, L, rfl, hR⟩
  have HC : Hid (∀ D l w1 w2 va vc L, Mine w w1 D → Rest D.abs 128 l → D.wr = 0 → D.fl = 0 → D.tap = [] → D.keep = [] → RowsAt w1 w2 30 (.slice va L.length vc) L → Calls Tryd.prog 10 #[.pointer (some ⟨D.d, 0, none⟩), .slice va L.length vc] w2 fun e w' => e = .returned (.int .i64 0) ∧ ∃ E l', E.d = D.d ∧ Bgn w w' E l') := fun D l w1 w2 va vc L hM hR h1 h2 h3 h4 hRo => by
    have hM2 := hM.on hRo.bel
    have hlen := hRo.len
    have b1 : D.abs.wr = 0 := h1
    have b2 : D.abs.fl = 0 := h2
    have b3 : D.abs.T = [] := by show D.tap.map _ = []; rw [h3]; rfl
    have b4 : D.abs.keep = [] := h4
    by_cases h0 : L = []
    · subst h0
      refine (commit_nil w2 _ va vc).mono ?_
      rintro e w' ⟨rfl, rfl⟩
      exact ⟨rfl, D, l, rfl, hM2, hR, by omega, by omega, by rw [b3]; simp, b4⟩
    · have hp : 0 < L.length := by cases L with
        | nil => exact absurd rfl h0
        | cons a l => simp
      have ok := hRo.ok h0
      obtain ⟨g, c, e⟩ := own_some hRo.row hp
      cases e
      have hDh : ∀ b, D.has b → b < w1.heap.size := fun b hb => hM.hasLt b hb
      refine (commit_rest w w2 D 128 l hM2 hR (HT.out _ hM2.bel).1 g L.length vc L hRo.blocks rfl hp ok (fun q hq e => by have := hDh _ e; have := (hRo.blk q hq).2; omega) (rest_small hR (by omega) (by omega) (by rw [b3]; simp) (by rw [b4]; simp) _ (by omega))).mono ?_
      rintro e w' ⟨rfl, E, hME, hd, hab, hRe, hmv⟩
      obtain ⟨a1, a2⟩ := all_wr D.abs (nsB L) (dsB L) ok.dl
      have hnl : (nsB L).length = L.length := by simp [nsB]
      refine ⟨rfl, E, _, hd, hME, hRe, ?_, ?_, ?_, ?_⟩
      · rw [hab, a1, hnl]; omega
      · rw [hab, a2]; omega
      · have x3 : E.abs.T = D.abs.T ++ (grp (parts (nsB L) (dsB L))).map actT := by rw [hab]; rfl
        have hg : (grp (parts (nsB L) (dsB L))).length = 2 * (nsB L).length + 6 := by
          have := commitA_length 128 (nsB L) (dsB L) ok
          rw [commitA_grp] at this
          exact this
        rw [x3, List.length_append, List.length_map, hg, b3, hnl]
        simp
        omega
      · rw [hab]; exact b4
  go_wp2_with (first
    | (go_at_call 18; refine (HNw.out _).mono ?_; rintro e w1 ⟨D, l, rfl, hM, hR, hl, h1, h2, h3, h4⟩; have H1 : Hid (Mine w w1 D ∧ Rest D.abs 128 l ∧ D.wr = 0 ∧ D.fl = 0 ∧ D.tap = [] ∧ D.keep = []) := ⟨hM, hR, h1, h2, h3, h4⟩; clear hM hR hl h1 h2 h3 h4)
    | (go_at_call 7; refine (HRo.out _ H1.out.1.bel).mono ?_; rintro e w2 ⟨va, vc, L, rfl, hR⟩; have H2 : Hid (RowsAt w1 w2 30 (.slice va L.length vc) L) := hR; clear hR)
    | (go_at_call 10; refine (HC.out _ _ _ _ _ _ _ H1.out.1 H1.out.2.1 H1.out.2.2.1 H1.out.2.2.2.1 H1.out.2.2.2.2.1 H1.out.2.2.2.2.2 H2.out).mono ?_; rintro e w3 ⟨rfl, E, l', hd, hB⟩; have H3 : Hid (Bgn w w3 E l') := hB; rw [← hd]; clear hd hB))
  go_ret2
  exact ⟨E, l', rfl, H3.out⟩
end Go.Proofs.YtpheajiepnjhdabDoor

namespace Go.Proofs.YtpheajiepnjhdabDoor
open Go.RowKit Rec

def fallsB (n : Nat) (t : Int) : Bool := decide (0 < n) && decide (1 ≤ t) && decide (t ≤ 2 * (n : Int) + 6)
def backB (n : Nat) (t : Int) (keep : List Bool) : Bool := fallsB n t && (decide (t < (n : Int) + 2) || (decide (t < (n : Int) + 4) && !(kpOf keep 0)))
def wantA (n : Nat) (t : Int) (keep : List Bool) (l m : List Int) : List Int := if backB n t keep then l else m
theorem Rest.well {a : AD} {nb : Nat} {l : List Int} (h : Rest a nb l) (hn : 98 ≤ nb) : Well nb l l := ⟨h.len, (log_empty hn h.log).2.2, by rw [h.behind hn]; exact fun _ _ _ => rfl⟩
theorem arm_rest {a : AD} {t : Int} {keep : List Bool} : (a.arm t keep).las = a.las ∧ (a.arm t keep).P = a.P ∧ (a.arm t keep).down = a.down ∧ (a.arm t keep).nb = a.nb ∧ (a.arm t keep).at_ = t ∧ (a.arm t keep).keep = keep ∧ (a.arm t keep).wr = a.wr ∧ (a.arm t keep).fl = a.fl ∧ (a.arm t keep).T = a.T := ⟨rfl, rfl, rfl, rfl, rfl, rfl, rfl, rfl, rfl⟩
/-- a commit on a disk that is armed -/
theorem commit_armed (w w1 w2 : World) (D A : Dk) (l : List Int) (t : Int) (keep : List Bool) (hB : Bgn w w1 D l) (hA : A.abs = D.abs.arm t keep) (hM : Mine w w2 A) (hT : TabAt w2) (va : Option Addr) (vc : Nat) (L : List Bk) (h30 : L.length ≤ 30) (hL : L = [] ∨ ∃ g, va = some ⟨g, 0, none⟩ ∧ BlocksAt w2 g L ∧ ComOk 128 (nsB L) (dsB L) ∧ ∀ q ∈ L, ¬ A.has q.g) (hk : keep.length ≤ 9223372036854775807) :
    Calls Tryd.prog 10 #[.pointer (some ⟨A.d, 0, none⟩), .slice va L.length vc] w2 fun e w' => e = .returned (.int .i64 (if fallsB L.length t then 30 else 0)) ∧ ∃ E, Mine w w' E ∧ E.d = A.d ∧ Mv w2 A w' E ∧ E.down = fallsB L.length t ∧ Well 128 (wantA L.length t keep l (fw l (homes (nsB L) (dsB L)))) E.las := by
  have hlas : A.abs.las = l := by rw [hA]; exact hB.rest.las
  have hP : A.abs.P = [] := by rw [hA]; exact hB.rest.pen
  have hd : A.abs.down = false := by rw [hA]; exact hB.rest.down
  have hnb : A.nb = 128 := (show A.abs.nb = 128 from by rw [hA]; exact hB.rest.size)
  have hat : A.abs.at_ = t := by rw [hA]; rfl
  have hkp : A.abs.keep = keep := by rw [hA]; rfl
  rcases hL with rfl | ⟨g, rfl, hBl, ok, hq⟩
  · have hf : fallsB ([] : List Bk).length t = false := rfl
    have hw : wantA ([] : List Bk).length t keep l (fw l (homes (nsB []) (dsB []))) = l := by unfold wantA backB; rw [hf]; rfl
    rw [hf, hw]
    refine (commit_nil w2 _ va vc).mono ?_
    rintro e w' ⟨rfl, rfl⟩
    refine ⟨rfl, A, hM, rfl, Mv.refl _ _, hd, ?_⟩
    show Well 128 l A.abs.las
    rw [hlas]
    exact hB.rest.well (by omega)
  · have hp : 0 < L.length := by have := ok.lo; simp [nsB] at this; omega
    have hnl : (nsB L).length = L.length := by simp [nsB]
    have hr : RoomN A.abs (2 * L.length + 6) := by
      have b1 := hB.wr
      have b2 := hB.fl
      have b3 := hB.tp
      rw [hA]
      exact ⟨by show D.abs.P.length + _ ≤ _; rw [hB.rest.pen]; simp; omega, by show D.abs.T.length + _ ≤ _; omega, by show D.abs.wr + _ ≤ _; omega, by show D.abs.fl + _ ≤ _; omega, hk⟩
    refine (commit_ok w2 A hM.disk hT g L.length vc L hBl rfl hp (by rw [hnb]; exact ok) hq hr).mono ?_
    rintro e w' ⟨rfl, E, hE⟩
    obtain ⟨t1, t2⟩ := take_commit A.abs 128 (nsB L) (dsB L) ok (by rw [hlas]; exact hB.rest.len) (by rw [hlas]; exact hB.rest.log) hP hd
    rw [hat, hnl, hlas] at t1 t2
    have hls : E.las = (A.abs.take (commitA (nsB L) (dsB L))).las := (show E.abs.las = _ from congrArg AD.las hE.abs)
    have hdn : E.down = (A.abs.take (commitA (nsB L) (dsB L))).down := (show E.abs.down = _ from congrArg AD.down hE.abs)
    by_cases c : 1 ≤ t ∧ t ≤ 2 * (L.length : Int) + 6
    · obtain ⟨x1, x2, x3, x4, x5⟩ := t2 c
      have hf : fallsB L.length t = true := by unfold fallsB; rw [decide_eq_true hp, decide_eq_true c.1, decide_eq_true c.2]; rfl
      rw [hf]
      refine ⟨by rw [x1]; rfl, E, hM.done hE, hE.mv.d, hE.mv, by rw [hdn, x2], ?_⟩
      rw [hls]
      have e : wantA L.length t keep l (fw l (homes (nsB L) (dsB L))) = if t < (L.length : Int) + 2 ∨ t < (L.length : Int) + 4 ∧ kpOf A.abs.keep 0 = false then l else fw l (homes (nsB L) (dsB L)) := by
        unfold wantA backB
        rw [hf, hkp]
        congr 1
        simp
      rw [e]
      exact x5
    · obtain ⟨x1, x2, x3, x4⟩ := t1 c
      have hf : fallsB L.length t = false := by
        unfold fallsB
        rw [decide_eq_true hp]
        by_cases c1 : 1 ≤ t
        · rw [decide_eq_false (fun c2 => c ⟨c1, c2⟩), Bool.and_false]
        · rw [decide_eq_false c1]; rfl
      rw [hf]
      refine ⟨by rw [x2]; rfl, E, hM.done hE, hE.mv.d, hE.mv, ?_, ?_⟩
      · rw [hdn, x1]; exact hd
      · rw [hls]
        have e : wantA L.length t keep l (fw l (homes (nsB L) (dsB L))) = fw l (homes (nsB L) (dsB L)) := by unfold wantA backB; rw [hf]; rfl
        rw [e]
        exact x4
/-- a disk over what lasts -/
structure Lst (w0 w : World) (X : Dk) (W : List Int) : Prop where
  mine : Mine w0 w X
  well : Well 128 W X.las
theorem Lst.on {w0 w w' : World} {X : Dk} {W : List Int} (h : Lst w0 w X W) (hb : Below w.heap.size w w') : Lst w0 w' X W := ⟨h.mine.on hb, h.well⟩
theorem well_openE {nb : Nat} {W l : List Int} {D : Dk} (h : Well nb W l) (hD : D.full = l) (hd : D.down = false) (hn : D.nb = nb) : openE D = 0 := by
  unfold openE
  rw [hd, hD, hn]
  exact h.ok
/-- a recovery on a disk that is armed -/
theorem recover_armed (w0 w : World) (X : Dk) (W : List Int) (hM : Mine w0 w X) (hW : Well 128 W X.las) (hnb : X.nb = 128) (hP : X.abs.P = []) (hd : X.down = false) (h1 : X.abs.wr ≤ 1000) (h2 : X.abs.fl ≤ 1000) (h3 : X.abs.T.length ≤ 1000) (hk : X.abs.keep.length ≤ 9223372036854775807) (hT : TabAt w) :
    Calls Tryd.prog 15 #[.pointer (some ⟨X.d, 0, none⟩)] w fun e w' => ∃ k r : Int, e = .returned (.tuple #[.int .i64 k, .int .i64 r]) ∧ ∃ E, Mine w0 w' E ∧ E.d = X.d ∧ Mv w X w' E ∧ Well 128 W E.las ∧ ((r = 0 ∧ E.down = false) ∨ (r = 30 ∧ E.down = true)) := by
  have hfl : X.full = X.las := by rw [abs_full, AD.full_fw, hP]; rfl
  have he : openE X = 0 := well_openE hW hfl hd hnb
  by_cases h0 : logN X.las 128 = []
  · refine (recover_nil w X hM.disk hT he (by rw [hfl, hnb]; exact h0)).mono ?_
    rintro e w' ⟨rfl, hb⟩
    exact ⟨0, 0, rfl, X, hM.on hb, rfl, mv_on _ _ _ hb, hW, .inl ⟨rfl, hd⟩⟩
  · obtain ⟨k, hk0⟩ : ∃ k, (logN X.las 128).length = k := ⟨_, rfl⟩
    have hkp : 0 < k := by
      rcases Nat.eq_zero_or_pos k with e | e
      · exact absurd (List.length_eq_zero_iff.1 (hk0.trans e)) h0
      · exact e
    have hk96 := logN_len X.las 128
    have := recover_yes w X hM.disk hT he k (by rw [hfl, hnb]; exact hk0) hkp ⟨by rw [hP]; simp; omega, by omega, by omega, by omega, hk⟩
    rw [hfl, hnb] at this
    refine this.mono ?_
    rintro e w' ⟨hr, E, hE⟩
    have hE2 : E.abs = X.abs.take (homeA (logH X.las 128)) := hE.abs
    obtain ⟨y1, y2, y3, y4⟩ := take_home X.abs 128 W hW (by omega) hP hd
    have hl : E.las = (X.abs.take (homeA (logH X.las 128))).las := (show E.abs.las = _ from congrArg AD.las hE2)
    have hdn : E.down = (X.abs.take (homeA (logH X.las 128))).down := (show E.abs.down = _ from congrArg AD.down hE2)
    have hW' : Well 128 W E.las := by rw [hl]; exact y1
    rcases y4 with ⟨z1, z2⟩ | ⟨z1, z2⟩
    · rcases hr with ⟨_, rfl⟩ | ⟨e1, _⟩
      · exact ⟨k, 0, rfl, E, hM.done hE, hE.mv.d, hE.mv, hW', .inl ⟨rfl, by rw [hdn, show X.abs.take (homeA (logH X.las 128)) = _ from z2]; exact hd⟩⟩
      · have z1' : X.abs.takeE (homeA (logH X.las 128)) = 0 := z1
        rw [z1'] at e1; exact absurd e1 (by decide)
    · rcases hr with ⟨e1, _⟩ | ⟨_, rfl⟩
      · have z1' : X.abs.takeE (homeA (logH X.las 128)) = 30 := z1
        rw [z1'] at e1; exact absurd e1 (by decide)
      · exact ⟨0, 30, rfl, E, hM.done hE, hE.mv.d, hE.mv, hW', .inr ⟨rfl, by rw [hdn]; exact z2⟩⟩
/-- the recovery that ends -/
structure Ended (w0 w : World) (E : Dk) (W : List Int) : Prop where
  mine : Mine w0 w E
  rest : Rest E.abs 128 E.las
  like : Like 128 E.las W
theorem Ended.on {w0 w w' : World} {E : Dk} {W : List Int} (h : Ended w0 w E W) (hb : Below w.heap.size w w') : Ended w0 w' E W := ⟨h.mine.on hb, h.rest, h.like⟩
theorem recover_ends (w0 w : World) (Y : Dk) (W l : List Int) (hM : Mine w0 w Y) (hF : Fresh Y.abs 128 l) (hW : Well 128 W l) (hT : TabAt w) :
    Calls Tryd.prog 15 #[.pointer (some ⟨Y.d, 0, none⟩)] w fun e w' => ∃ k : Int, e = .returned (.tuple #[.int .i64 k, .int .i64 0]) ∧ ∃ E, Ended w0 w' E W ∧ E.d = Y.d ∧ Mv w Y w' E := by
  have hfl : Y.full = l := hF.full
  have hnb : Y.nb = 128 := hF.size
  have hd : Y.down = false := hF.down
  have he : openE Y = 0 := well_openE hW hfl hd hnb
  by_cases h0 : logN l 128 = []
  · have hz := log_nil hF.len (by omega) hW.ok h0
    refine (recover_nil w Y hM.disk hT he (by rw [hfl, hnb]; exact h0)).mono ?_
    rintro e w' ⟨rfl, hb⟩
    have hls : Y.las = l := hF.las
    refine ⟨0, rfl, Y, ⟨hM.on hb, ⟨hF.size, rfl, hF.pen, hF.down, hF.at_, by rw [hls]; exact hF.len, by rw [hls]; exact hz⟩, ?_⟩, rfl, mv_on _ _ _ hb⟩
    rw [hls]
    have := hW.like
    rw [behind_empty hF.len (by omega) hz] at this
    exact this
  · obtain ⟨k, hk0⟩ : ∃ k, (logN l 128).length = k := ⟨_, rfl⟩
    have hkp : 0 < k := by
      rcases Nat.eq_zero_or_pos k with e | e
      · exact absurd (List.length_eq_zero_iff.1 (hk0.trans e)) h0
      · exact e
    have hk96 := logN_len l 128
    obtain ⟨y1, y2, y3, y4, y5⟩ := hF.home
    have := recover_yes w Y hM.disk hT he k (by rw [hfl, hnb]; exact hk0) hkp (hF.room _ (by omega))
    rw [hfl, hnb] at this
    refine this.mono ?_
    rintro e w' ⟨hr, E, hE⟩
    have hE2 : E.abs = Y.abs.take (homeA (logH l 128)) := hE.abs
    have hall : Y.abs.take (homeA (logH l 128)) = Y.abs.all [logH l 128, [(1, zs)]] := by
      rw [homeA_grp]
      exact (take_grp [logH l 128, [(1, zs)]] Y.abs hF.pen hF.down (by rw [hF.at_]; exact .inl (Int.le_refl _))).1
    have hls : E.las = behind l 128 := (show E.abs.las = behind l 128 from by rw [hE2]; exact y2)
    refine ⟨k, ?_, E, ⟨hM.done hE, ⟨?_, rfl, ?_, ?_, ?_, ?_, ?_⟩, ?_⟩, hE.mv.d, hE.mv⟩
    · rcases hr with ⟨_, rfl⟩ | ⟨e1, _⟩
      · rfl
      · rw [y1] at e1; exact absurd e1 (by decide)
    · rw [hE2, hall]; exact hF.size
    · rw [hE2, hall]; rfl
    · rw [hE2, hall]; exact hF.down
    · rw [hE2, hall]
      show (if 0 < Y.abs.at_ then _ else Y.abs.at_) = 0
      rw [hF.at_]; rfl
    · rw [hls, behind_length]; exact hF.len
    · rw [hls]; exact behind_one l 128 hF.len (by omega)
    · rw [hls]; exact hW.like
end Go.Proofs.YtpheajiepnjhdabDoor
