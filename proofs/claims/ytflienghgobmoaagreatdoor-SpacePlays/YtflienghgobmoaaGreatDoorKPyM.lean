import Derived.Test.YtflienghgobmoaaGreatDoorKXsA
import Derived.Test.YtflienghgobmoaaGreatDoorKALasts
import Derived.Test.YtflienghgobmoaaGreatDoorKRfD
import Derived.Test.YtflienghgobmoaaGreatDoorKXsC
import Derived.Test.YtflienghgobmoaaGreatDoorKOpens
import Derived.Test.YtflienghgobmoaaGreatDoorKFit
namespace Go.Proofs.YtflienghgobmoaaGreatDoor
open Go.RowKit Rec

theorem actN_app {L : List ActR} {q : ActR} {i : Nat} (h : i < L.length) : actN (L ++ [q]) i = actN L i := by
  unfold actN; rw [List.getD, List.getD, List.getElem?_append_left h]
theorem actN_last (L : List ActR) (q : ActR) : actN (L ++ [q]) L.length = q := by
  unfold actN; rw [List.getD, List.getElem?_append_right (Nat.le_refl _), Nat.sub_self]; rfl
theorem pnd_app (L : List ActR) (q : ActR) (k : Nat) (h : k ≤ L.length) : pnd (L ++ [q]) k = pnd L k := by
  induction k with
  | zero => rfl
  | succ k ih => rw [pnd, pnd, ih (by omega), actN_app (by omega)]
theorem lsf_app (l : List Int) (L : List ActR) (q : ActR) (k : Nat) (h : k ≤ L.length) : lsf l (L ++ [q]) k = lsf l L k := by
  induction k with
  | zero => rfl
  | succ k ih => rw [lsf, lsf, ih (by omega), actN_app (by omega), pnd_app L q k (by omega)]
theorem cut_lft (l : List Int) (L : List ActR) (keep : List Bool) (hk : ∀ i, i < L.length → (actN L i).kind = 1 ∨ (actN L i).kind = 2) :
    lay (kpOf keep) (fun k => ((pnd L L.length).getD k (0, [])).1) (fun k => ((pnd L L.length).getD k (0, [])).2) (lsf l L L.length) (pnd L L.length).length = lft l L keep L.length := by
  rw [← aft_lft 1 l L keep hk]
  obtain ⟨h1, h2, _⟩ := takes_shape 1 l L L.length
  show _ = lay (kpOf keep) ((AD0 1 l).takes L L.length).f ((AD0 1 l).takes L L.length).X ((AD0 1 l).takes L L.length).las ((AD0 1 l).takes L L.length).P.length
  have e1 : ((AD0 1 l).takes L L.length).f = fun k => ((pnd L L.length).getD k (0, [])).1 := by funext k; unfold AD.f; rw [h2]
  have e2 : ((AD0 1 l).takes L L.length).X = fun k => ((pnd L L.length).getD k (0, [])).2 := by funext k; unfold AD.X; rw [h2]
  rw [e1, e2, h1, h2]
/-- both disks tell the same -/
structure Tie (a : AD) (R : RDk) : Prop where
  nb : a.nb = R.nb
  dn : a.down = R.out
  wr : (a.wr : Int) = R.wr
  fl : (a.fl : Int) = R.fl
  T : a.T = R.L.map (fun q => (q.kind, q.b, q.x))
  ks : ∀ i, i < R.L.length → (actN R.L i).kind = 1 ∨ ((actN R.L i).kind = 2)
  on : R.out = false → a.las = lsf R.f R.L R.L.length ∧ a.P = pnd R.L R.L.length ∧ ((a.at_ ≤ 0 ∧ R.left = 0) ∨ (0 < a.at_ ∧ a.at_ = R.left ∧ a.keep = R.keep))
  off : R.out = true → a.las = lft R.f R.L R.keep R.L.length ∧ a.P = []
theorem ks_app {L : List ActR} {q : ActR} (h : ∀ i, i < L.length → (actN L i).kind = 1 ∨ (actN L i).kind = 2) (hq : q.kind = 1 ∨ q.kind = 2) : ∀ i, i < (L ++ [q]).length → (actN (L ++ [q]) i).kind = 1 ∨ (actN (L ++ [q]) i).kind = 2 := by
  intro i hi
  by_cases e : i < L.length
  · rw [actN_app e]; exact h i e
  · have : i = L.length := by rw [List.length_append, List.length_singleton] at hi; omega
    rw [this, actN_last]; exact hq
theorem gone_iff {a : AD} {R : RDk} (h : (a.at_ ≤ 0 ∧ R.left = 0) ∨ (0 < a.at_ ∧ a.at_ = R.left ∧ a.keep = R.keep)) : R.gone = decide (a.at_ = 1) := by
  unfold RDk.gone
  exact decide_eq_decide.2 (by omega)
theorem goes_same (R : RDk) : R.goes.nb = R.nb ∧ R.goes.f = R.f ∧ R.goes.L = R.L ∧ R.goes.keep = R.keep ∧ R.goes.wr = R.wr ∧ R.goes.fl = R.fl ∧ R.goes.r = R.r ∧ R.goes.gf = R.gf ∧ R.goes.cf = R.cf ∧ R.goes.av = R.av ∧ R.goes.kv = R.kv := by
  unfold RDk.goes; split <;> exact ⟨rfl, rfl, rfl, rfl, rfl, rfl, rfl, rfl, rfl, rfl, rfl⟩
theorem goes_out (R : RDk) (ho : R.out = false) : R.goes.out = R.gone ∧ R.goes.left = if R.left = 0 then 0 else R.left - 1 := by
  unfold RDk.goes RDk.gone
  split
  · next h => rw [h]; exact ⟨by rw [ho]; rfl, rfl⟩
  · exact ⟨decide_eq_decide.2 (by omega), rfl⟩
theorem Tie.write {a : AD} {R R1 : RDk} {i : Nat} {x : List Int} {q : ActR} (h : Tie a R) (ho : R.out = false) (hq : q.kind = 1 ∧ q.b = (i : Int) ∧ q.x = x) (h1 : R1.nb = R.nb ∧ R1.f = R.f ∧ R1.L = R.L ++ [q] ∧ R1.keep = R.keep ∧ R1.wr = R.wr + 1 ∧ R1.fl = R.fl ∧ R1.left = R.left ∧ R1.out = R.out) :
    Tie (a.write i x) R1.goes ∧ a.stepE = (if R.gone then 30 else 0) := by
  obtain ⟨o1, o2, o3⟩ := h.on ho
  obtain ⟨e1, e2, e3, e4, e5, e6, e7, e8⟩ := h1
  obtain ⟨g1, g2, g3, g4, g5, g6, _⟩ := goes_same R1
  have hR1 : R1.gone = R.gone := by unfold RDk.gone; rw [e7]
  obtain ⟨k1, k2⟩ := goes_out R1 (by rw [e8]; exact ho)
  rw [hR1] at k1
  have hg := gone_iff o3
  have hks := ks_app h.ks (q := q) (.inl hq.1)
  have hlen : (R.L ++ [q]).length = R.L.length + 1 := by rw [List.length_append]; rfl
  have hp : pnd (R.L ++ [q]) (R.L ++ [q]).length = pnd R.L R.L.length ++ [(i, x)] := by
    rw [hlen, pnd, actN_last, if_pos hq.1, pnd_app _ _ _ (Nat.le_refl _), hq.2.1, hq.2.2]; rfl
  have hs : lsf R.f (R.L ++ [q]) (R.L ++ [q]).length = lsf R.f R.L R.L.length := by
    rw [hlen, lsf, actN_last, if_pos hq.1, lsf_app _ _ _ _ (Nat.le_refl _)]
  have hT : a.T ++ [(1, (i : Int), x)] = (R.L ++ [q]).map (fun q => (q.kind, q.b, q.x)) := by
    rw [List.map_append, ← h.T, List.map_cons, List.map_nil, hq.1, hq.2.1, hq.2.2]
  by_cases c : a.at_ = 1
  · have hgo : R.gone = true := by rw [hg]; exact decide_eq_true c
    have hw : a.write i x = ({ a with P := a.P ++ [(i, x)], T := a.T ++ [(1, (i : Int), x)], wr := a.wr + 1, at_ := 0 } : AD).cut (kpOf a.keep) := by unfold AD.write; exact if_pos c
    rw [hw]
    refine ⟨⟨by rw [g1, e1]; exact h.nb, by rw [k1, hgo]; rfl, by rw [g5, e5, ← h.wr]; show ((a.wr + 1 : Nat) : Int) = _; omega, by rw [g6, e6]; exact h.fl, by rw [g3, e3]; exact hT, by rw [g3, e3]; exact hks, fun e => (by rw [k1, hgo] at e; cases e), fun _ => ⟨?_, rfl⟩⟩, ?_⟩
    · rw [g2, g3, g4, e2, e3, e4, ← cut_lft _ _ _ hks, hp, hs]
      have hkp : a.keep = R.keep := by rcases o3 with o3 | o3; · omega
                                       · exact o3.2.2
      show lay (kpOf a.keep) _ _ a.las (a.P ++ [(i, x)]).length = _
      rw [hkp, o1, o2]; rfl
    · unfold AD.stepE; rw [if_pos c, hgo]; rfl
  · have hgo : R.gone = false := by rw [hg]; exact decide_eq_false c
    have hw : a.write i x = ({ a with P := a.P ++ [(i, x)], T := a.T ++ [(1, (i : Int), x)], wr := a.wr + 1 } : AD).tick := by unfold AD.write; exact if_neg c
    rw [hw, tick_eq]
    refine ⟨⟨by rw [g1, e1]; exact h.nb, by rw [k1, hgo]; show a.down = _; rw [h.dn, ho], by rw [g5, e5, ← h.wr]; show ((a.wr + 1 : Nat) : Int) = _; omega, by rw [g6, e6]; exact h.fl, by rw [g3, e3]; exact hT, by rw [g3, e3]; exact hks, fun _ => ⟨?_, ?_, ?_⟩, fun e => (by rw [k1, hgo] at e; cases e)⟩, ?_⟩
    · rw [g2, g3, e2, e3, hs]; exact o1
    · rw [g3, e3, hp, ← o2]
    · rw [k2, e7, g4, e4]
      show ((if 0 < a.at_ then a.at_ - 1 else a.at_) ≤ 0 ∧ _) ∨ (0 < (if 0 < a.at_ then a.at_ - 1 else a.at_) ∧ _ ∧ a.keep = _)
      rcases o3 with ⟨z1, z2⟩ | ⟨z1, z2, z3⟩
      · refine .inl ⟨by rw [if_neg (by omega)]; exact z1, if_pos z2⟩
      · refine .inr ⟨by rw [if_pos z1]; omega, by rw [if_pos z1, if_neg (by omega), z2], z3⟩
    · unfold AD.stepE; rw [if_neg c, hgo]; rfl
theorem Tie.flushG {a : AD} {R R1 : RDk} (h : Tie a R) (ho : R.out = false) (hgo : R.gone = true) (h1 : R1 = { R with fl := R.fl + 1 }) : Tie a.flush R1.goes ∧ a.stepE = 30 := by
  obtain ⟨o1, o2, o3⟩ := h.on ho
  obtain ⟨g1, g2, g3, g4, g5, g6, _⟩ := goes_same R1
  obtain ⟨k1, k2⟩ := goes_out R1 (by rw [h1]; exact ho)
  have hR1 : R1.gone = R.gone := by rw [h1]; rfl
  rw [hR1, hgo] at k1
  have c : a.at_ = 1 := by have hg := gone_iff o3; rw [hgo] at hg; exact of_decide_eq_true hg.symm
  have hw : a.flush = ({ a with fl := a.fl + 1, at_ := 0 } : AD).cut (kpOf a.keep) := by unfold AD.flush; exact if_pos c
  rw [hw]
  refine ⟨⟨by rw [g1, h1]; exact h.nb, by rw [k1]; rfl, by rw [g5, h1]; exact h.wr, by rw [g6, h1]; show ((a.fl + 1 : Nat) : Int) = R.fl + 1; rw [← h.fl]; omega, by rw [g3, h1]; exact h.T, by rw [g3, h1]; exact h.ks, fun e => (by rw [k1] at e; cases e), fun _ => ⟨?_, rfl⟩⟩, by unfold AD.stepE; rw [if_pos c]⟩
  rw [g2, g3, g4, h1]
  show lay (kpOf a.keep) _ _ a.las a.P.length = lft R.f R.L R.keep R.L.length
  have hkp : a.keep = R.keep := by rcases o3 with o3 | o3; · omega
                                   · exact o3.2.2
  rw [← cut_lft _ _ _ h.ks, hkp, ← o1, ← o2]; rfl
theorem Tie.flush {a : AD} {R R1 : RDk} {v : Value} (h : Tie a R) (ho : R.out = false) (hgo : R.gone = false) (h1 : R1 = { R with fl := R.fl + 1 }) : Tie a.flush { R1.goes with av := v, L := R.L ++ [fq] } ∧ a.stepE = 0 := by
  obtain ⟨o1, o2, o3⟩ := h.on ho
  obtain ⟨g1, g2, g3, g4, g5, g6, _⟩ := goes_same R1
  obtain ⟨k1, k2⟩ := goes_out R1 (by rw [h1]; exact ho)
  have hR1 : R1.gone = R.gone := by rw [h1]; rfl
  rw [hR1, hgo] at k1
  have c : ¬ a.at_ = 1 := by have hg := gone_iff o3; rw [hgo] at hg; exact of_decide_eq_false hg.symm
  have hks := ks_app h.ks (q := fq) (.inr rfl)
  have hlen : (R.L ++ [fq]).length = R.L.length + 1 := by rw [List.length_append]; rfl
  have hw : a.flush = ({ ({ a with fl := a.fl + 1 } : AD).tick with T := a.T ++ [(2, 0, [])] } : AD).settle (fun _ => true) := by unfold AD.flush; exact if_neg c
  rw [hw, tick_eq]
  refine ⟨⟨by show a.nb = R1.goes.nb; rw [g1, h1]; exact h.nb, by show a.down = R1.goes.out; rw [k1, h.dn, ho], by show (a.wr : Int) = R1.goes.wr; rw [g5, h1]; exact h.wr, by show ((a.fl + 1 : Nat) : Int) = R1.goes.fl; rw [g6, h1]; show ((a.fl + 1 : Nat) : Int) = R.fl + 1; rw [← h.fl]; omega, ?_, hks, fun _ => ⟨?_, ?_, ?_⟩, fun e => (by have e2 : R1.goes.out = true := e; rw [k1] at e2; cases e2)⟩, by unfold AD.stepE; rw [if_neg c]⟩
  · show a.T ++ [(2, 0, [])] = (R.L ++ [fq]).map _
    rw [List.map_append, ← h.T]; rfl
  · show lay (fun _ => true) _ _ a.las a.P.length = lsf R1.goes.f (R.L ++ [fq]) (R.L ++ [fq]).length
    have e : lsf R1.goes.f (R.L ++ [fq]) (R.L ++ [fq]).length = lay (fun _ => true) (fun k => ((pnd R.L R.L.length).getD k (0, [])).1) (fun k => ((pnd R.L R.L.length).getD k (0, [])).2) (lsf R.f R.L R.L.length) (pnd R.L R.L.length).length := by
      rw [g2, h1, hlen, lsf, actN_last, if_neg (by decide), pnd_app _ _ _ (Nat.le_refl _), lsf_app _ _ _ _ (Nat.le_refl _)]
    rw [e, ← o1, ← o2]
    rfl
  · show [] = pnd (R.L ++ [fq]) (R.L ++ [fq]).length
    rw [hlen, pnd, actN_last, if_neg (by decide)]
  · show ((if 0 < a.at_ then a.at_ - 1 else a.at_) ≤ 0 ∧ R1.goes.left = 0) ∨ (0 < (if 0 < a.at_ then a.at_ - 1 else a.at_) ∧ (if 0 < a.at_ then a.at_ - 1 else a.at_) = R1.goes.left ∧ a.keep = R1.goes.keep)
    have e7 : R1.left = R.left := by rw [h1]
    have e8 : R1.keep = R.keep := by rw [h1]
    rw [k2, e7, g4, e8]
    rcases o3 with ⟨z1, z2⟩ | ⟨z1, z2, z3⟩
    · refine .inl ⟨by rw [if_neg (by omega)]; exact z1, if_pos z2⟩
    · refine .inr ⟨by rw [if_pos z1]; omega, by rw [if_pos z1, if_neg (by omega), z2], z3⟩
theorem Tie.crash {a : AD} {R : RDk} {v : Value} {K : List Bool} (h : Tie a R) (ho : R.out = false) : Tie (a.cut (kpOf K)) { R with out := true, kv := v, keep := K } := by
  obtain ⟨o1, o2, o3⟩ := h.on ho
  refine ⟨h.nb, rfl, h.wr, h.fl, h.T, h.ks, fun e => (by cases e), fun _ => ⟨?_, rfl⟩⟩
  show lay (kpOf K) _ _ a.las a.P.length = lft R.f R.L K R.L.length
  rw [← cut_lft _ _ _ h.ks, ← o1, ← o2]; rfl
theorem Tie.crashO {a : AD} {R : RDk} {K : List Bool} (h : Tie a R) (ho : R.out = true) : Tie (a.cut (kpOf K)) R := by
  obtain ⟨o1, o2⟩ := h.off ho
  refine ⟨h.nb, by rw [ho]; rfl, h.wr, h.fl, h.T, h.ks, fun e => (by rw [ho] at e; cases e), fun _ => ⟨?_, rfl⟩⟩
  show lay (kpOf K) _ _ a.las a.P.length = _
  rw [o2, ← o1]; rfl
theorem Tie.arm {a : AD} {R : RDk} {v : Value} {K : List Bool} {t : Int} (h : Tie a R) (ho : R.out = false) : Tie (a.arm t K) (if 0 < t then { R with left := t, kv := v, keep := K } else { R with left := 0 }) := by
  obtain ⟨o1, o2, o3⟩ := h.on ho
  by_cases c : 0 < t
  · rw [if_pos c]
    exact ⟨h.nb, h.dn, h.wr, h.fl, h.T, h.ks, fun _ => ⟨o1, o2, .inr ⟨c, rfl, rfl⟩⟩, fun e => (by rw [show R.out = true from e] at ho; cases ho)⟩
  · rw [if_neg c]
    exact ⟨h.nb, h.dn, h.wr, h.fl, h.T, h.ks, fun _ => ⟨o1, o2, .inl ⟨by show t ≤ 0; omega, rfl⟩⟩, fun e => (by rw [show R.out = true from e] at ho; cases ho)⟩
theorem alw_length (l : List Int) (L : List ActR) (k : Nat) : (alw l L k).length = l.length := by
  induction k with
  | zero => rfl
  | succ k ih => rw [alw]; split
                 · rw [wr_length, ih]
                 · exact ih
theorem bck_alw (l : List Int) (L : List ActR) (n i k : Nat) (hl : l.length = 512 * n) (hi : i < n) (hk : k ≤ L.length) (hx : ∀ j, j < L.length → (actN L j).kind = 1 → (actN L j).x.length = 512 ∧ 0 ≤ (actN L j).b) : bck (alw l L k) i = (rdS L i k).getD ((l.drop (i * 512)).take 512) := by
  induction k with
  | zero => show bck l i = _; rw [Nat.mul_comm i 512]; rfl
  | succ k ih =>
    rw [alw, rdS]
    by_cases c : (actN L k).kind = 1
    · obtain ⟨c1, c2⟩ := hx k (by omega) c
      rw [if_pos c, blk_wr _ n _ _ _ (by rw [alw_length]; exact hl) hi c1]
      by_cases e : (actN L k).b = (i : Int)
      · rw [if_pos (show i = (actN L k).b.toNat by omega), if_pos ⟨c, e⟩]; rfl
      · rw [if_neg (show ¬ i = (actN L k).b.toNat by omega), if_neg (fun z => e z.2)]; exact ih (by omega)
    · rw [if_neg c, if_neg (fun z => c z.1)]; exact ih (by omega)
theorem Tie.read {a : AD} {R : RDk} (h : Tie a R) (ho : R.out = false) {i : Nat} (hi : i < R.nb) (hl : R.f.length = 512 * R.nb) (hx : ∀ j, j < R.L.length → (actN R.L j).kind = 1 → (actN R.L j).x.length = 512 ∧ 0 ≤ (actN R.L j).b) : bck a.full i = R.read i := by
  obtain ⟨o1, o2, _⟩ := h.on ho
  have : a.full = alw R.f R.L R.L.length := by
    rw [← lsf_alw, ← o1, ← o2]; rfl
  rw [this]
  exact bck_alw _ _ _ _ _ hl hi (Nat.le_refl _) hx
theorem tpB_drop (L : List ActR) (fr m : Int) (n k : Nat) (hk : k ≤ L.length) (h1 : (if fr < 0 then (0 : Int) else fr) = m) (h2 : (if (L.length : Int) < m then (L.length : Int) else m) = (n : Int)) : tpB L fr k = ((L.take k).map (fun q => (q.kind, q.b, q.x))).drop n := by
  induction k with
  | zero => simp [tpB]
  | succ k ih =>
    have ht : L.take (k + 1) = L.take k ++ [actN L k] := by
      rw [List.take_add_one]
      have : L[k]? = some (actN L k) := by unfold actN; rw [List.getD, List.getElem?_eq_getElem (by omega)]; rfl
      rw [this]; rfl
    rw [tpB, ht, List.map_append, ih (by omega)]
    have hl : ((L.take k).map (fun q : ActR => (q.kind, q.b, q.x))).length = k := by rw [List.length_map, List.length_take]; omega
    have h3 : (fr ≤ (k : Int) → n ≤ k) ∧ (¬ fr ≤ (k : Int) → k + 1 ≤ n) := by
      split at h1 <;> split at h2 <;> omega
    by_cases c : fr ≤ (k : Int)
    · have := h3.1 c
      rw [if_pos c, List.drop_append_of_le_length (by rw [hl]; omega)]; rfl
    · have := h3.2 c
      rw [if_neg c, List.drop_eq_nil_of_le (by rw [hl]; omega), List.drop_eq_nil_of_le (by rw [List.length_append, hl]; simp; omega)]
theorem Tie.tape {a : AD} {R : RDk} (h : Tie a R) {fr m : Int} {n : Nat} (h1 : (if fr < 0 then (0 : Int) else fr) = m) (h2 : (if (R.L.length : Int) < m then (R.L.length : Int) else m) = (n : Int)) : a.T.drop n = tpB R.L fr R.L.length := by
  rw [h.T, tpB_drop R.L fr m n R.L.length (Nat.le_refl _) h1 h2, List.take_length]
end Go.Proofs.YtflienghgobmoaaGreatDoor

namespace Go.Proofs.YtflienghgobmoaaGreatDoor
open Go.RowKit Rec
/-- all the document's disk's blocks -/
def RDk.all (R : RDk) (k : Nat) : Prop := k = R.r ∨ k = R.gf ∨ R.av.ownBlock = some k ∨ R.kv.ownBlock = some k ∨ ∃ q ∈ R.L, ∃ p, q.a = some p ∧ p.block = k
theorem RDisk.lt {w : World} {R : RDk} (h : RDisk w R) {k : Nat} (hk : R.all k) : k < w.heap.size := by
  rcases hk with rfl | rfl | e | e | ⟨q, hq, p, e, rfl⟩
  · exact heap_lt h.box
  · exact h.first.lt
  · exact owns_block h.acts e
  · exact owns_block h.keep e
  · rcases h.each q hq with ⟨_, _, _, _, g, e2, ho⟩ | ⟨_, _, e2, _⟩
    · rw [e2] at e; cases e; exact ho.lt
    · rw [e2] at e; cases e
theorem RDisk.fr {S : Nat → Prop} {w w' : World} {R : RDk} (h : RDisk w R) (x : Fr S w w') (hS : ∀ k, R.all k → ¬ S k) : RDisk w' R :=
  ⟨x.heap h.box (hS _ (.inl rfl)), h.first.fr x (hS _ (.inr (.inl rfl))), h.flen, h.nb0, owns_fr h.acts x (fun k e => hS k (.inr (.inr (.inl e)))), fun q hq => by
    rcases h.each q hq with ⟨h1, h2, h3, h4, g, e, ho⟩ | z
    · exact .inl ⟨h1, h2, h3, h4, g, e, ho.fr x (hS g (.inr (.inr (.inr (.inr ⟨q, hq, _, e, rfl⟩)))))⟩
    · exact .inr z, owns_fr h.keep x (fun k e => hS k (.inr (.inr (.inr (.inl e))))), h.llen, h.lft⟩
theorem goes_all {R : RDk} {k : Nat} (h : R.goes.all k) : R.all k := by
  obtain ⟨_, _, g3, _, _, _, g7, g8, _, g10, g11⟩ := goes_same R
  unfold RDk.all at h ⊢
  rw [g3, g7, g8, g10, g11] at h
  exact h
theorem Dk.hasAll {D : Dk} {k : Nat} (h : D.has k) : D.all k := .inl h
theorem Disk.ltAll {w : World} {D : Dk} (h : Disk w D) {k : Nat} (hk : D.all k) : k < w.heap.size := by
  rcases hk with e | e | ⟨p, hp, rfl⟩ | ⟨a, ha, e⟩
  · exact h.hasLt e
  · exact h.kel k e
  · exact (h.penb p hp).2.2.1.lt
  · rcases h.tapb a ha with ⟨_, _, _, _, g, cap, e2, ho, _⟩ | ⟨_, _, e2, _⟩
    · rw [e2] at e; cases e; exact ho.lt
    · rw [e2] at e; cases e
/-- what a call answers and does, on both sides -/
def wE (a : AD) (i : Int) (n : Nat) : Int := if a.down then 30 else if 0 ≤ i ∧ i < a.nb then (if n = 512 then a.stepE else 32) else 31
def wA (a : AD) (i : Int) (l : List Int) : AD := if a.down then a else if 0 ≤ i ∧ i < a.nb then (if l.length = 512 then a.write i.toNat l else a) else a
def fE (a : AD) : Int := if a.down then 30 else a.stepE
def fA (a : AD) : AD := if a.down then a else a.flush
def armA (a : AD) (t : Int) (K : List Bool) : AD := if a.down then a else a.arm t K
/-- the document's disk, as it is tied to what a disk tells -/
structure RT (w : World) (a : AD) (R : RDk) (j : Nat) : Prop where
  r : RDisk w R
  tie : Tie a R
  ll : R.L.length ≤ j
  wl : R.wr ≤ j
  fl : R.fl ≤ j
  kl : R.keep.length ≤ 1000000000000000
  lf : R.left ≤ 9223372036854775807
theorem RT.fr {S : Nat → Prop} {w w' : World} {a : AD} {R : RDk} {j : Nat} (h : RT w a R j) (x : Fr S w w') (hS : ∀ k, R.all k → ¬ S k) : RT w' a R j := ⟨h.r.fr x hS, h.tie, h.ll, h.wl, h.fl, h.kl, h.lf⟩
theorem RT.on {w w' : World} {a : AD} {R : RDk} {j : Nat} (h : RT w a R j) (hb : Below w.heap.size w w') : RT w' a R j := h.fr (below_fr hb (fun _ => False)) (fun _ _ e => e)
theorem RT.up {w : World} {a : AD} {R : RDk} {j j' : Nat} (h : RT w a R j) (hj : j ≤ j') : RT w a R j' := ⟨h.r, h.tie, Nat.le_trans h.ll hj, by have := h.wl; omega, by have := h.fl; omega, h.kl, h.lf⟩
/-- what became of it -/
structure RM (w : World) (R : RDk) (w' : World) (a' : AD) (R' : RDk) (j : Nat) : Prop where
  t : RT w' a' R' j
  fr : Fr R.all w w'
  al : ∀ k, R'.all k → R.all k ∨ w.heap.size ≤ k
  r : R'.r = R.r
theorem RT.same {w w' : World} {a : AD} {R : RDk} {j j' : Nat} (h : RT w a R j) (hj : j ≤ j') (hb : Below w.heap.size w w') : RM w R w' a R j' := ⟨(h.on hb).up hj, below_fr hb _, fun _ e => .inl e, rfl⟩
theorem RM.trans {w w1 w2 : World} {R R1 R2 : RDk} {a1 a2 : AD} {j j' : Nat} (h : RM w R w1 a1 R1 j) (h' : RM w1 R1 w2 a2 R2 j') : RM w R w2 a2 R2 j' :=
  ⟨h'.t, h.fr.trans h'.fr (fun k e => h.al k e), fun k e => by
    rcases h'.al k e with e | e
    · exact h.al k e
    · exact .inr (Nat.le_trans h.fr.size e), by rw [h'.r, h.r]⟩
theorem rav {R : RDk} {k : Nat} (e : k = R.r ∨ R.av.ownBlock = some k) : R.all k := e.elim .inl (fun e => .inr (.inr (.inl e)))
theorem goes_left {R : RDk} (h : R.left ≤ 9223372036854775807) : R.goes.left ≤ 9223372036854775807 := by
  unfold RDk.goes; split
  · exact h
  · show R.left - 1 ≤ _; omega
theorem wr0 {a : AD} {R : RDk} (h : Tie a R) : 0 ≤ R.wr ∧ 0 ≤ R.fl := by
  have h1 := h.wr; have h2 := h.fl; omega
/-- Write -/
theorem RT.write {w : World} {a : AD} {R : RDk} {j : Nat} (h : RT w a R j) (hj : j + 1 ≤ 1000000000) (i : Int) (pa : Option Addr) (n c : Nat) (l : List Int) (hb : Bytes w pa l) (hl : l.length = n) (hn : n ≤ 140737488351232) :
    Calls Tryz.prog 126 #[.pointer (some ⟨R.r, 0, none⟩), .int .i64 i, .slice pa n c] w fun e w' => e = .returned (.int .i64 (wE a i n)) ∧ ∃ R', RM w R w' (wA a i l) R' (j + 1) := by
  have hnb : a.nb = R.nb := h.tie.nb
  have hdo : a.down = R.out := h.tie.dn
  unfold wE wA
  by_cases hd : a.down = true
  · rw [if_pos hd, if_pos hd]
    refine (rwrite_out w R h.r (by rw [← hdo]; exact hd) i pa n c).mono ?_
    rintro e w2 ⟨rfl, rfl⟩
    exact ⟨rfl, R, h.same (by omega) (Below.refl _ _)⟩
  · have hro : R.out = false := by cases e : R.out with | true => exact absurd (by rw [hdo]; exact e) hd | false => rfl
    rw [if_neg hd, if_neg hd]
    by_cases hi : 0 ≤ i ∧ i < a.nb
    · rw [if_pos hi, if_pos hi]
      by_cases h5 : n = 512
      · rw [if_pos h5, if_pos (by rw [hl]; exact h5)]
        obtain ⟨i', rfl⟩ : ∃ i' : Nat, i = (i' : Int) := ⟨i.toNat, by omega⟩
        have hwl := h.wl
        have hw0 := wr0 h.tie
        have hrl := h.ll
        refine (rwrite_ok w R h.r hro (i' : Int) pa n c l hb hl hn ⟨by omega, by omega⟩ h5 ⟨by omega, by omega⟩ (by omega) h.lf).mono ?_
        rintro e w2 ⟨rfl, b, bc, g, cap, hR2, f2, hb2, hg2⟩
        obtain ⟨t1, t2⟩ := h.tie.write (i := i') (x := l) (q := ⟨1, (i' : Int), some ⟨g, 0, none⟩, cap, l⟩) (R1 := { R with wr := R.wr + 1, av := .slice (some ⟨b, 0, none⟩) (R.L.length + 1) bc, L := R.L ++ [⟨1, (i' : Int), some ⟨g, 0, none⟩, cap, l⟩] }) hro ⟨rfl, rfl, rfl⟩ ⟨rfl, rfl, rfl, rfl, rfl, rfl, rfl, rfl⟩
        obtain ⟨g1, g2, g3, g4, g5, g6, g7, g8, g9, g10, g11⟩ := goes_same { R with wr := R.wr + 1, av := .slice (some ⟨b, 0, none⟩) (R.L.length + 1) bc, L := R.L ++ [⟨1, (i' : Int), some ⟨g, 0, none⟩, cap, l⟩] }
        have hfl := h.fl
        refine ⟨by rw [t2], _, ⟨hR2, t1, by rw [g3, List.length_append]; simp; omega, by rw [g5]; show R.wr + 1 ≤ _; omega, by rw [g6]; show R.fl ≤ _; omega, by rw [g4]; exact h.kl, goes_left h.lf⟩, f2.mono (fun k e => rav e), fun k e => ?_, g7⟩
        rcases goes_all e with e | e | e | e | ⟨q, hq, p', e, e2⟩
        · exact .inl (.inl e)
        · exact .inl (.inr (.inl e))
        · cases e
          rcases hb2 with hb2 | hb2
          · exact .inl (.inr (.inr (.inl hb2)))
          · exact .inr hb2
        · exact .inl (.inr (.inr (.inr (.inl e))))
        · rcases List.mem_append.1 hq with hq | hq
          · exact .inl (.inr (.inr (.inr (.inr ⟨q, hq, p', e, e2⟩))))
          · rw [List.mem_singleton] at hq; subst hq; cases e; rw [← e2]; exact .inr hg2
      · rw [if_neg h5, if_neg (by rw [hl]; exact h5)]
        have he : actE R.nb (wq i l) = 32 := by
          unfold actE wq; rw [if_pos rfl, if_pos (by rw [← hnb]; exact hi), if_neg (by rw [hl]; exact h5)]
        refine (rwrite_head w R h.r hro i pa n c l hb hl hn (by rw [he]; decide)).mono ?_
        rintro e w2 ⟨rfl, hb2⟩
        exact ⟨by rw [he], R, h.same (by omega) hb2⟩
    · rw [if_neg hi, if_neg hi]
      have he : actE R.nb (wq i l) = 31 := by
        unfold actE wq; rw [if_pos rfl, if_neg (by rw [← hnb]; exact hi)]
      refine (rwrite_head w R h.r hro i pa n c l hb hl hn (by rw [he]; decide)).mono ?_
      rintro e w2 ⟨rfl, hb2⟩
      exact ⟨by rw [he], R, h.same (by omega) hb2⟩
/-- Flush -/
theorem RT.flush {w : World} {a : AD} {R : RDk} {j : Nat} (h : RT w a R j) (hj : j + 1 ≤ 1000000000) :
    Calls Tryz.prog 127 #[.pointer (some ⟨R.r, 0, none⟩)] w fun e w' => e = .returned (.int .i64 (fE a)) ∧ ∃ R', RM w R w' (fA a) R' (j + 1) := by
  have hdo : a.down = R.out := h.tie.dn
  unfold fE fA
  by_cases hd : a.down = true
  · rw [if_pos hd, if_pos hd]
    refine (rflush_out w R h.r (by rw [← hdo]; exact hd)).mono ?_
    rintro e w2 ⟨rfl, rfl⟩
    exact ⟨rfl, R, h.same (by omega) (Below.refl _ _)⟩
  · have hro : R.out = false := by cases e : R.out with | true => exact absurd (by rw [hdo]; exact e) hd | false => rfl
    rw [if_neg hd, if_neg hd]
    have hfl := h.fl
    have hw0 := wr0 h.tie
    have hrl := h.ll
    have hwl := h.wl
    cases hgo : R.gone with
    | true =>
      refine (rflush_gone w R h.r hro hgo ⟨by omega, by omega⟩ h.lf).mono ?_
      rintro e w2 ⟨rfl, hR2, f2⟩
      obtain ⟨t1, t2⟩ := h.tie.flushG hro hgo rfl
      obtain ⟨g1, g2, g3, g4, g5, g6, g7, g8, g9, g10, g11⟩ := goes_same { R with fl := R.fl + 1 }
      refine ⟨by rw [t2], _, ⟨hR2, t1, by rw [g3]; show R.L.length ≤ _; omega, by rw [g5]; show R.wr ≤ _; omega, by rw [g6]; show R.fl + 1 ≤ _; omega, by rw [g4]; exact h.kl, goes_left h.lf⟩, f2.mono (fun k e => .inl e), fun k e => .inl (by have e2 := goes_all e; exact e2), g7⟩
    | false =>
      refine (rflush_ok w R h.r hro hgo ⟨by omega, by omega⟩ h.lf (by omega)).mono ?_
      rintro e w2 ⟨rfl, b, bc, hR2, f2, hb2⟩
      obtain ⟨t1, t2⟩ := h.tie.flush (v := .slice (some ⟨b, 0, none⟩) (R.L.length + 1) bc) hro hgo rfl
      obtain ⟨g1, g2, g3, g4, g5, g6, g7, g8, g9, g10, g11⟩ := goes_same { R with fl := R.fl + 1 }
      refine ⟨by rw [t2], _, ⟨hR2, t1, by show (R.L ++ [fq]).length ≤ _; rw [List.length_append]; simp; omega, by show (RDk.goes { R with fl := R.fl + 1 }).wr ≤ _; rw [g5]; show R.wr ≤ _; omega, by show (RDk.goes { R with fl := R.fl + 1 }).fl ≤ _; rw [g6]; show R.fl + 1 ≤ _; omega, by show (RDk.goes { R with fl := R.fl + 1 }).keep.length ≤ _; rw [g4]; exact h.kl, by show (RDk.goes { R with fl := R.fl + 1 }).left ≤ _; exact goes_left h.lf⟩, f2.mono (fun k e => rav e), fun k e => ?_, g7⟩
      rcases e with e | e | e | e | ⟨q, hq, p', e, e2⟩
      · exact .inl (.inl (by rw [e]; exact g7))
      · exact .inl (.inr (.inl (by rw [e]; exact g8)))
      · cases e
        rcases hb2 with hb2 | hb2
        · exact .inl (.inr (.inr (.inl hb2)))
        · exact .inr hb2
      · exact .inl (.inr (.inr (.inr (.inl (by rw [← e]; show _ = (RDk.goes _).kv.ownBlock; rw [g11])))))
      · rcases List.mem_append.1 hq with hq | hq
        · exact .inl (.inr (.inr (.inr (.inr ⟨q, hq, p', e, e2⟩))))
        · rw [List.mem_singleton] at hq; subst hq; cases e
/-- Crash -/
theorem RT.crash {w : World} {a : AD} {R : RDk} {j : Nat} (h : RT w a R j) (ka : Option Addr) (kn kc : Nat) (K : List Bool) (hk : Bools w (.slice ka kn kc) K) (hkn : K.length = kn) (hK : kn ≤ 140737488351232) (hkr : K ≠ [] → ∀ b off, ka = some ⟨b, off, none⟩ → ¬ R.all b) :
    Calls Tryz.prog 45 #[.pointer (some ⟨R.r, 0, none⟩), .slice ka kn kc] w fun e w' => e = .returned (.tuple #[]) ∧ ∃ R', RM w R w' (a.cut (kpOf K)) R' j := by
  cases ho : R.out with
  | true =>
    refine (rcrash_out w R h.r ho _).mono ?_
    rintro e w2 ⟨rfl, rfl⟩
    exact ⟨rfl, R, ⟨h.r, h.tie.crashO ho, h.ll, h.wl, h.fl, h.kl, h.lf⟩, Fr.refl _ _, fun _ e => .inl e, rfl⟩
  | false =>
    refine (rcrash_anyE w R h.r ho ka kn kc K hk hkn hK (fun hne b off e e2 => hkr hne b off e (.inl e2))).mono ?_
    rintro e w2 ⟨rfl, v, c, hR2, f2, hv2⟩
    have t1 := h.tie.crash (v := .slice v kn c) (K := K) ho
    refine ⟨rfl, _, ⟨hR2, t1, h.ll, h.wl, h.fl, by show K.length ≤ _; omega, h.lf⟩, f2.mono (fun k e => .inl e), fun k e => ?_, rfl⟩
    rcases e with e | e | e | e | e
    · exact .inl (.inl e)
    · exact .inl (.inr (.inl e))
    · exact .inl (.inr (.inr (.inl e)))
    · exact .inr (hv2 k e)
    · exact .inl (.inr (.inr (.inr (.inr e))))
theorem RT.actsL {w : World} {a : AD} {R : RDk} {j : Nat} (h : RT w a R j) : ∀ i, i < R.L.length → (actN R.L i).kind = 1 → (actN R.L i).x.length = 512 ∧ 0 ≤ (actN R.L i).b := fun i hi hk => by
  have hm : actN R.L i ∈ R.L := by unfold actN; rw [List.getD, List.getElem?_eq_getElem hi]; exact List.getElem_mem hi
  rcases h.r.each _ hm with ⟨_, h2, _, h4, _⟩ | ⟨h1, _⟩
  · exact ⟨h4, h2⟩
  · rw [h1] at hk; exact absurd hk (by decide)
/-- Read -/
theorem RT.read {w : World} {a : AD} {R : RDk} {j : Nat} (h : RT w a R j) (hd : a.down = false) (i : Nat) (hi : i < a.nb) :
    Calls Tryz.prog 105 #[.pointer (some ⟨R.r, 0, none⟩), .int .i64 i] w fun e w' => ∃ g cap, e = .returned (.tuple #[.slice (some ⟨g, 0, none⟩) 512 cap, .int .i64 0]) ∧ w.heap.size ≤ g ∧ OwnB w' g cap (bck a.full i) ∧ Below w.heap.size w w' := by
  have hdo : a.down = R.out := h.tie.dn
  have hnb : a.nb = R.nb := h.tie.nb
  have hro : R.out = false := by rw [← hdo]; exact hd
  rw [h.tie.read hro (i := i) (by omega) h.r.flen h.actsL]
  exact rread_ok w R h.r hro i (by omega)
end Go.Proofs.YtflienghgobmoaaGreatDoor

namespace Go.Proofs.YtflienghgobmoaaGreatDoor
open Go.RowKit Rec
theorem pd_crash (w : World) (D : Dk) (h : Disk w D) (ka : Option Addr) (kn kc : Nat) (K : List Bool) (hk : Bools w (.slice ka kn kc) K) (hkn : K.length = kn) (hK : kn ≤ 140737488351232) (hp : K ≠ [] → ∀ b off, ka = some ⟨b, off, none⟩ → ¬ D.has b) :
    Calls Tryz.prog 44 #[.pointer (some ⟨D.d, 0, none⟩), .slice ka kn kc] w fun e w' => e = .returned (.tuple #[]) ∧ ∃ D', Disk w' D' ∧ Mv w D w' D' ∧ Al w.heap.size D D' ∧ D'.abs = D.abs.cut (kpOf K) := by
  refine (crash_any w D h _ K hk (fun hne k e => ?_) (by omega)).mono ?_
  · obtain ⟨a, c, e1, e2⟩ := hk
    cases e1
    rcases e2 with e2 | ⟨b, off, e3, _⟩
    · exact absurd e2 hne
    · cases e3; cases e; exact hp hne _ _ rfl
  · rintro e w1 ⟨rfl, hD, hM⟩
    exact ⟨rfl, D.cut (kpOf K), hD, hM, al_crash _ D _, abs_cut D _⟩
/-- both disks, apart from all else -/
structure WS (w0 w : World) (D : Dk) (R : RDk) (j : Nat) : Prop where
  d : Disk w D
  t : RT w D.abs R j
  ap : ∀ k, D.all k → ¬ R.all k
  new : ∀ k, D.all k ∨ R.all k → w0.heap.size ≤ k
  be : Below w0.heap.size w0 w
  kd : D.keep.length ≤ 1000000000000000
theorem WS.on {w0 w w' : World} {D : Dk} {R : RDk} {j : Nat} (h : WS w0 w D R j) (hb : Below w.heap.size w w') : WS w0 w' D R j := ⟨h.d.on hb, h.t.on hb, h.ap, h.new, h.be.trans (hb.mono h.be.size), h.kd⟩
theorem WS.fr {S : Nat → Prop} {w0 w w' : World} {D : Dk} {R : RDk} {j : Nat} (h : WS w0 w D R j) (x : Fr S w w') (hS : ∀ k, D.all k ∨ R.all k → ¬ S k) (hn : ∀ k, S k → w0.heap.size ≤ k) : WS w0 w' D R j := ⟨h.d.fr x (fun k e => hS k (.inl e)), h.t.fr x (fun k e => hS k (.inr e)), h.ap, h.new, h.be.trans (x.below _ hn h.be.size), h.kd⟩
theorem WS.lt {w0 w : World} {D : Dk} {R : RDk} {j k : Nat} (h : WS w0 w D R j) (hk : D.all k ∨ R.all k) : k < w.heap.size := hk.elim h.d.ltAll h.t.r.lt
theorem pnd_len (L : List ActR) (k : Nat) : (pnd L k).length ≤ k := by
  induction k with
  | zero => exact Nat.le_refl _
  | succ k ih => rw [pnd]; split <;> simp <;> omega
theorem WS.lens {w0 w : World} {D : Dk} {R : RDk} {j : Nat} (h : WS w0 w D R j) : D.abs.P.length ≤ j ∧ D.abs.T.length ≤ j ∧ D.abs.wr ≤ j ∧ D.abs.fl ≤ j := by
  have h1 := h.t.ll
  have h2 := h.t.wl
  have h3 := h.t.fl
  have h4 := h.t.tie.wr
  have h5 := h.t.tie.fl
  refine ⟨?_, by rw [h.t.tie.T, List.length_map]; exact h1, by omega, by omega⟩
  cases ho : R.out with
  | true => rw [(h.t.tie.off ho).2]; exact Nat.zero_le _
  | false => rw [(h.t.tie.on ho).2.1]; exact Nat.le_trans (pnd_len _ _) h1
theorem WS.room {w0 w : World} {D : Dk} {R : RDk} {j : Nat} (h : WS w0 w D R j) (hj : j + 1 ≤ 1000000000) : RoomD D.abs := by
  obtain ⟨h1, h2, h3, h4⟩ := h.lens
  have h5 := h.kd
  exact ⟨by omega, by omega, by omega, by omega, by show D.keep.length ≤ _; omega⟩
theorem WS.mid {w0 w w1 wx : World} {D : Dk} {R R' : RDk} {a' : AD} {j j' : Nat} (h : WS w0 w D R j) (hM : RM w R w1 a' R' j') (hx : Below w1.heap.size w1 wx) : Disk wx D := (h.d.fr hM.fr (fun k e e2 => h.ap k e e2)).on hx
end Go.Proofs.YtflienghgobmoaaGreatDoor

namespace Go.Proofs.YtflienghgobmoaaGreatDoor
open Go.RowKit Rec
open Crc (W)

end Go.Proofs.YtflienghgobmoaaGreatDoor

namespace Go.Proofs.YtflienghgobmoaaGreatDoor
open Go.RowKit Rec
open Crc (W)

/-- a row of bytes laid anew -/
theorem bytesL (w : World) (l : List Int) (hl : l.length ≤ 100) (hw : ∀ i, 0 ≤ nth l i ∧ nth l i < 256) : OwnB (w.alloc (.cells (l.map (Value.int .u8)).toArray 5)) w.heap.size l.length l :=
  ⟨⟨_, heap_alloc_new _ _, by simp, List.take_of_length_le (by simp)⟩, by omega, Nat.le_refl _, by unfold maxLen; omega, hw⟩
/-- '[]byte{..}' of a text: its row is marked, its cells are as they were -/
theorem conv_text (w : World) (C : Array Value) (n : Nat) (hn : C.size = n) :
    (convert 22 22 (.slice (some ⟨w.heap.size, 0, none⟩) n n)).run Tryz.prog (w.alloc (.cells C 5)) = .ok (.slice (some ⟨w.heap.size, 0, none⟩) n n) (w.alloc (.cells C 5 (n, n + 1))) := by
  subst hn
  have hsh : (w.alloc (.cells C 5)).shape? w.heap.size = some (5, C.size) := by
    unfold World.shape?
    rw [heap_alloc_new]
  have hfr : (w.alloc (.cells C 5)).freeze ⟨w.heap.size, C.size, none⟩ 1 = w.alloc (.cells C 5 (C.size, C.size + 1)) := by
    have hm : ∀ (a : Array Obj) (x : Obj) (f : Obj → Obj), (a.push x).modify a.size f = a.push (f x) := by
      intro a x f
      apply Array.ext
      · simp
      · intro i h1 h2
        simp only [Array.getElem_modify, Array.getElem_push]
        by_cases h : a.size = i
        · subst h
          simp
        · have hi : i < a.size := by simp at h1; omega
          simp [h, hi]
    unfold World.freeze
    rw [if_neg (by decide)]
    show ({ w.alloc (.cells C 5) with heap := (w.heap.push (.cells C 5)).modify w.heap.size _ } : World) = _
    rw [hm]
    rfl
  simp [convert, run_underlying Tryz.underlying22, run_underlying Tryz.underlying5, markStringish, hsh, hfr]
/-- a slice's length -/
def lenOf : Value → Nat
  | .slice _ n _ => n
  | _ => 0
end Go.Proofs.YtflienghgobmoaaGreatDoor

namespace Go.Proofs.YtflienghgobmoaaGreatDoor
open Go.RowKit Rec
open Crc (W)

end Go.Proofs.YtflienghgobmoaaGreatDoor

namespace Go.Proofs.YtflienghgobmoaaGreatDoor
open Go.RowKit Rec
open Crc (W)

end Go.Proofs.YtflienghgobmoaaGreatDoor

namespace Go.Proofs.YtflienghgobmoaaGreatDoor
open Go.RowKit Rec
open Crc (W)

end Go.Proofs.YtflienghgobmoaaGreatDoor

namespace Go.Proofs.YtflienghgobmoaaGreatDoor
open Go.RowKit Rec
open Crc (W)

end Go.Proofs.YtflienghgobmoaaGreatDoor
