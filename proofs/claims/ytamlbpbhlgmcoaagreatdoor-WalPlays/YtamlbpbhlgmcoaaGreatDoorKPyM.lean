import Derived.Test.YtamlbpbhlgmcoaaGreatDoorKRfM
import Derived.Test.YtamlbpbhlgmcoaaGreatDoorKATape
import Derived.Test.YtamlbpbhlgmcoaaGreatDoorKRfE
namespace Go.Proofs.YtamlbpbhlgmcoaaGreatDoor
open Go.RowKit Rec

theorem actN_app {L : List ActR} {q : ActR} {i : Nat} (h : i < L.length) : actN (L ++ [q]) i = actN L i := by
  unfold actN; rw [List.getD, List.getD, List.getElem?_append_left h]
theorem actN_last (L : List ActR) (q : ActR) : actN (L ++ [q]) L.length = q := by
  unfold actN; rw [List.getD, List.getElem?_append_right (Nat.le_refl _), Nat.sub_self]; rfl
theorem pnd_app (L : List ActR) (q : ActR) (k : Nat) (h : k ≤ L.length) : pnd (L ++ [q]) k = pnd L k := by
  induction k with
  | zero => rfl
  | succ k ih => rw [pnd, pnd, ih (by omega), actN_app (by omega)]
theorem lsf_app (l : List Int) (L : List ActR) (q : ActR) (k : Nat) (h : k ≤ L.length) : lsf l (L ++ [q]) k = lsf l L k := by
  induction k with
  | zero => rfl
  | succ k ih => rw [lsf, lsf, ih (by omega), actN_app (by omega), pnd_app L q k (by omega)]
theorem cut_lft (l : List Int) (L : List ActR) (keep : List Bool) (hk : ∀ i, i < L.length → (actN L i).kind = 1 ∨ (actN L i).kind = 2) :
    lay (kpOf keep) (fun k => ((pnd L L.length).getD k (0, [])).1) (fun k => ((pnd L L.length).getD k (0, [])).2) (lsf l L L.length) (pnd L L.length).length = lft l L keep L.length := by
  rw [← aft_lft 1 l L keep hk]
  obtain ⟨h1, h2, _⟩ := takes_shape 1 l L L.length
  show _ = lay (kpOf keep) ((AD0 1 l).takes L L.length).f ((AD0 1 l).takes L L.length).X ((AD0 1 l).takes L L.length).las ((AD0 1 l).takes L L.length).P.length
  have e1 : ((AD0 1 l).takes L L.length).f = fun k => ((pnd L L.length).getD k (0, [])).1 := by funext k; unfold AD.f; rw [h2]
  have e2 : ((AD0 1 l).takes L L.length).X = fun k => ((pnd L L.length).getD k (0, [])).2 := by funext k; unfold AD.X; rw [h2]
  rw [e1, e2, h1, h2]
theorem lay_nil0 (f : Nat → Nat) (X : Nat → List Int) (l : List Int) (n : Nat) : lay (kpOf []) f X l n = l := by
  induction n with
  | zero => rfl
  | succ n ih => rw [lay, ih]; exact if_neg (by simp [kpOf])
/-- both disks tell the same -/
structure Tie (a : AD) (R : RDk) : Prop where
  nb : a.nb = R.nb
  dn : a.down = R.out
  wr : (a.wr : Int) = R.wr
  fl : (a.fl : Int) = R.fl
  T : a.T = R.L.map (fun q => (q.kind, q.b, q.x))
  ks : ∀ i, i < R.L.length → (actN R.L i).kind = 1 ∨ ((actN R.L i).kind = 2)
  on : R.out = false → a.las = lsf R.f R.L R.L.length ∧ a.P = pnd R.L R.L.length ∧ ((a.at_ ≤ 0 ∧ R.left = 0) ∨ (0 < a.at_ ∧ a.at_ = R.left ∧ a.keep = R.keep))
  off : R.out = true → a.las = lft R.f R.L R.keep R.L.length ∧ a.P = []
theorem ks_app {L : List ActR} {q : ActR} (h : ∀ i, i < L.length → (actN L i).kind = 1 ∨ (actN L i).kind = 2) (hq : q.kind = 1 ∨ q.kind = 2) : ∀ i, i < (L ++ [q]).length → (actN (L ++ [q]) i).kind = 1 ∨ (actN (L ++ [q]) i).kind = 2 := by
  intro i hi
  by_cases e : i < L.length
  · rw [actN_app e]; exact h i e
  · have : i = L.length := by rw [List.length_append, List.length_singleton] at hi; omega
    rw [this, actN_last]; exact hq
theorem gone_iff {a : AD} {R : RDk} (h : (a.at_ ≤ 0 ∧ R.left = 0) ∨ (0 < a.at_ ∧ a.at_ = R.left ∧ a.keep = R.keep)) : R.gone = decide (a.at_ = 1) := by
  unfold RDk.gone
  exact decide_eq_decide.2 (by omega)
theorem goes_same (R : RDk) : R.goes.nb = R.nb ∧ R.goes.f = R.f ∧ R.goes.L = R.L ∧ R.goes.keep = R.keep ∧ R.goes.wr = R.wr ∧ R.goes.fl = R.fl ∧ R.goes.r = R.r ∧ R.goes.gf = R.gf ∧ R.goes.cf = R.cf ∧ R.goes.av = R.av ∧ R.goes.kv = R.kv := by
  unfold RDk.goes; split <;> exact ⟨rfl, rfl, rfl, rfl, rfl, rfl, rfl, rfl, rfl, rfl, rfl⟩
theorem goes_out (R : RDk) (ho : R.out = false) : R.goes.out = R.gone ∧ R.goes.left = if R.left = 0 then 0 else R.left - 1 := by
  unfold RDk.goes RDk.gone
  split
  · next h => rw [h]; exact ⟨by rw [ho]; rfl, rfl⟩
  · exact ⟨decide_eq_decide.2 (by omega), rfl⟩
theorem Tie.write {a : AD} {R R1 : RDk} {i : Nat} {x : List Int} {q : ActR} (h : Tie a R) (ho : R.out = false) (hq : q.kind = 1 ∧ q.b = (i : Int) ∧ q.x = x) (h1 : R1.nb = R.nb ∧ R1.f = R.f ∧ R1.L = R.L ++ [q] ∧ R1.keep = R.keep ∧ R1.wr = R.wr + 1 ∧ R1.fl = R.fl ∧ R1.left = R.left ∧ R1.out = R.out) :
    Tie (a.write i x) R1.goes ∧ a.stepE = (if R.gone then 30 else 0) := by
  obtain ⟨o1, o2, o3⟩ := h.on ho
  obtain ⟨e1, e2, e3, e4, e5, e6, e7, e8⟩ := h1
  obtain ⟨g1, g2, g3, g4, g5, g6, _⟩ := goes_same R1
  have hR1 : R1.gone = R.gone := by unfold RDk.gone; rw [e7]
  obtain ⟨k1, k2⟩ := goes_out R1 (by rw [e8]; exact ho)
  rw [hR1] at k1
  have hg := gone_iff o3
  have hks := ks_app h.ks (q := q) (.inl hq.1)
  have hlen : (R.L ++ [q]).length = R.L.length + 1 := by rw [List.length_append]; rfl
  have hp : pnd (R.L ++ [q]) (R.L ++ [q]).length = pnd R.L R.L.length ++ [(i, x)] := by
    rw [hlen, pnd, actN_last, if_pos hq.1, pnd_app _ _ _ (Nat.le_refl _), hq.2.1, hq.2.2]; rfl
  have hs : lsf R.f (R.L ++ [q]) (R.L ++ [q]).length = lsf R.f R.L R.L.length := by
    rw [hlen, lsf, actN_last, if_pos hq.1, lsf_app _ _ _ _ (Nat.le_refl _)]
  have hT : a.T ++ [(1, (i : Int), x)] = (R.L ++ [q]).map (fun q => (q.kind, q.b, q.x)) := by
    rw [List.map_append, ← h.T, List.map_cons, List.map_nil, hq.1, hq.2.1, hq.2.2]
  by_cases c : a.at_ = 1
  · have hgo : R.gone = true := by rw [hg]; exact decide_eq_true c
    have hw : a.write i x = ({ a with P := a.P ++ [(i, x)], T := a.T ++ [(1, (i : Int), x)], wr := a.wr + 1, at_ := 0 } : AD).cut (kpOf a.keep) := by unfold AD.write; exact if_pos c
    rw [hw]
    refine ⟨⟨by rw [g1, e1]; exact h.nb, by rw [k1, hgo]; rfl, by rw [g5, e5, ← h.wr]; show ((a.wr + 1 : Nat) : Int) = _; omega, by rw [g6, e6]; exact h.fl, by rw [g3, e3]; exact hT, by rw [g3, e3]; exact hks, fun e => (by rw [k1, hgo] at e; cases e), fun _ => ⟨?_, rfl⟩⟩, ?_⟩
    · rw [g2, g3, g4, e2, e3, e4, ← cut_lft _ _ _ hks, hp, hs]
      have hkp : a.keep = R.keep := by rcases o3 with o3 | o3; · omega
                                       · exact o3.2.2
      show lay (kpOf a.keep) _ _ a.las (a.P ++ [(i, x)]).length = _
      rw [hkp, o1, o2]; rfl
    · unfold AD.stepE; rw [if_pos c, hgo]; rfl
  · have hgo : R.gone = false := by rw [hg]; exact decide_eq_false c
    have hw : a.write i x = ({ a with P := a.P ++ [(i, x)], T := a.T ++ [(1, (i : Int), x)], wr := a.wr + 1 } : AD).tick := by unfold AD.write; exact if_neg c
    rw [hw, tick_eq]
    refine ⟨⟨by rw [g1, e1]; exact h.nb, by rw [k1, hgo]; show a.down = _; rw [h.dn, ho], by rw [g5, e5, ← h.wr]; show ((a.wr + 1 : Nat) : Int) = _; omega, by rw [g6, e6]; exact h.fl, by rw [g3, e3]; exact hT, by rw [g3, e3]; exact hks, fun _ => ⟨?_, ?_, ?_⟩, fun e => (by rw [k1, hgo] at e; cases e)⟩, ?_⟩
    · rw [g2, g3, e2, e3, hs]; exact o1
    · rw [g3, e3, hp, ← o2]
    · rw [k2, e7, g4, e4]
      show ((if 0 < a.at_ then a.at_ - 1 else a.at_) ≤ 0 ∧ _) ∨ (0 < (if 0 < a.at_ then a.at_ - 1 else a.at_) ∧ _ ∧ a.keep = _)
      rcases o3 with ⟨z1, z2⟩ | ⟨z1, z2, z3⟩
      · refine .inl ⟨by rw [if_neg (by omega)]; exact z1, if_pos z2⟩
      · refine .inr ⟨by rw [if_pos z1]; omega, by rw [if_pos z1, if_neg (by omega), z2], z3⟩
    · unfold AD.stepE; rw [if_neg c, hgo]; rfl
theorem Tie.flushG {a : AD} {R R1 : RDk} (h : Tie a R) (ho : R.out = false) (hgo : R.gone = true) (h1 : R1 = { R with fl := R.fl + 1 }) : Tie a.flush R1.goes ∧ a.stepE = 30 := by
  obtain ⟨o1, o2, o3⟩ := h.on ho
  obtain ⟨g1, g2, g3, g4, g5, g6, _⟩ := goes_same R1
  obtain ⟨k1, k2⟩ := goes_out R1 (by rw [h1]; exact ho)
  have hR1 : R1.gone = R.gone := by rw [h1]; rfl
  rw [hR1, hgo] at k1
  have c : a.at_ = 1 := by have hg := gone_iff o3; rw [hgo] at hg; exact of_decide_eq_true hg.symm
  have hw : a.flush = ({ a with fl := a.fl + 1, at_ := 0 } : AD).cut (kpOf a.keep) := by unfold AD.flush; exact if_pos c
  rw [hw]
  refine ⟨⟨by rw [g1, h1]; exact h.nb, by rw [k1]; rfl, by rw [g5, h1]; exact h.wr, by rw [g6, h1]; show ((a.fl + 1 : Nat) : Int) = R.fl + 1; rw [← h.fl]; omega, by rw [g3, h1]; exact h.T, by rw [g3, h1]; exact h.ks, fun e => (by rw [k1] at e; cases e), fun _ => ⟨?_, rfl⟩⟩, by unfold AD.stepE; rw [if_pos c]⟩
  rw [g2, g3, g4, h1]
  show lay (kpOf a.keep) _ _ a.las a.P.length = lft R.f R.L R.keep R.L.length
  have hkp : a.keep = R.keep := by rcases o3 with o3 | o3; · omega
                                   · exact o3.2.2
  rw [← cut_lft _ _ _ h.ks, hkp, ← o1, ← o2]; rfl
theorem Tie.flush {a : AD} {R R1 : RDk} {v : Value} (h : Tie a R) (ho : R.out = false) (hgo : R.gone = false) (h1 : R1 = { R with fl := R.fl + 1 }) : Tie a.flush { R1.goes with av := v, L := R.L ++ [fq] } ∧ a.stepE = 0 := by
  obtain ⟨o1, o2, o3⟩ := h.on ho
  obtain ⟨g1, g2, g3, g4, g5, g6, _⟩ := goes_same R1
  obtain ⟨k1, k2⟩ := goes_out R1 (by rw [h1]; exact ho)
  have hR1 : R1.gone = R.gone := by rw [h1]; rfl
  rw [hR1, hgo] at k1
  have c : ¬ a.at_ = 1 := by have hg := gone_iff o3; rw [hgo] at hg; exact of_decide_eq_false hg.symm
  have hks := ks_app h.ks (q := fq) (.inr rfl)
  have hlen : (R.L ++ [fq]).length = R.L.length + 1 := by rw [List.length_append]; rfl
  have hw : a.flush = ({ ({ a with fl := a.fl + 1 } : AD).tick with T := a.T ++ [(2, 0, [])] } : AD).settle (fun _ => true) := by unfold AD.flush; exact if_neg c
  rw [hw, tick_eq]
  refine ⟨⟨by show a.nb = R1.goes.nb; rw [g1, h1]; exact h.nb, by show a.down = R1.goes.out; rw [k1, h.dn, ho], by show (a.wr : Int) = R1.goes.wr; rw [g5, h1]; exact h.wr, by show ((a.fl + 1 : Nat) : Int) = R1.goes.fl; rw [g6, h1]; show ((a.fl + 1 : Nat) : Int) = R.fl + 1; rw [← h.fl]; omega, ?_, hks, fun _ => ⟨?_, ?_, ?_⟩, fun e => (by have e2 : R1.goes.out = true := e; rw [k1] at e2; cases e2)⟩, by unfold AD.stepE; rw [if_neg c]⟩
  · show a.T ++ [(2, 0, [])] = (R.L ++ [fq]).map _
    rw [List.map_append, ← h.T]; rfl
  · show lay (fun _ => true) _ _ a.las a.P.length = lsf R1.goes.f (R.L ++ [fq]) (R.L ++ [fq]).length
    have e : lsf R1.goes.f (R.L ++ [fq]) (R.L ++ [fq]).length = lay (fun _ => true) (fun k => ((pnd R.L R.L.length).getD k (0, [])).1) (fun k => ((pnd R.L R.L.length).getD k (0, [])).2) (lsf R.f R.L R.L.length) (pnd R.L R.L.length).length := by
      rw [g2, h1, hlen, lsf, actN_last, if_neg (by decide), pnd_app _ _ _ (Nat.le_refl _), lsf_app _ _ _ _ (Nat.le_refl _)]
    rw [e, ← o1, ← o2]
    rfl
  · show [] = pnd (R.L ++ [fq]) (R.L ++ [fq]).length
    rw [hlen, pnd, actN_last, if_neg (by decide)]
  · show ((if 0 < a.at_ then a.at_ - 1 else a.at_) ≤ 0 ∧ R1.goes.left = 0) ∨ (0 < (if 0 < a.at_ then a.at_ - 1 else a.at_) ∧ (if 0 < a.at_ then a.at_ - 1 else a.at_) = R1.goes.left ∧ a.keep = R1.goes.keep)
    have e7 : R1.left = R.left := by rw [h1]
    have e8 : R1.keep = R.keep := by rw [h1]
    rw [k2, e7, g4, e8]
    rcases o3 with ⟨z1, z2⟩ | ⟨z1, z2, z3⟩
    · refine .inl ⟨by rw [if_neg (by omega)]; exact z1, if_pos z2⟩
    · refine .inr ⟨by rw [if_pos z1]; omega, by rw [if_pos z1, if_neg (by omega), z2], z3⟩
theorem Tie.crash {a : AD} {R : RDk} {v : Value} {K : List Bool} (h : Tie a R) (ho : R.out = false) : Tie (a.cut (kpOf K)) { R with out := true, kv := v, keep := K } := by
  obtain ⟨o1, o2, o3⟩ := h.on ho
  refine ⟨h.nb, rfl, h.wr, h.fl, h.T, h.ks, fun e => (by cases e), fun _ => ⟨?_, rfl⟩⟩
  show lay (kpOf K) _ _ a.las a.P.length = lft R.f R.L K R.L.length
  rw [← cut_lft _ _ _ h.ks, ← o1, ← o2]; rfl
theorem Tie.crashO {a : AD} {R : RDk} {K : List Bool} (h : Tie a R) (ho : R.out = true) : Tie (a.cut (kpOf K)) R := by
  obtain ⟨o1, o2⟩ := h.off ho
  refine ⟨h.nb, by rw [ho]; rfl, h.wr, h.fl, h.T, h.ks, fun e => (by rw [ho] at e; cases e), fun _ => ⟨?_, rfl⟩⟩
  show lay (kpOf K) _ _ a.las a.P.length = _
  rw [o2, ← o1]; rfl
theorem Tie.arm {a : AD} {R : RDk} {v : Value} {K : List Bool} {t : Int} (h : Tie a R) (ho : R.out = false) : Tie (a.arm t K) (if 0 < t then { R with left := t, kv := v, keep := K } else { R with left := 0 }) := by
  obtain ⟨o1, o2, o3⟩ := h.on ho
  by_cases c : 0 < t
  · rw [if_pos c]
    exact ⟨h.nb, h.dn, h.wr, h.fl, h.T, h.ks, fun _ => ⟨o1, o2, .inr ⟨c, rfl, rfl⟩⟩, fun e => (by rw [show R.out = true from e] at ho; cases ho)⟩
  · rw [if_neg c]
    exact ⟨h.nb, h.dn, h.wr, h.fl, h.T, h.ks, fun _ => ⟨o1, o2, .inl ⟨by show t ≤ 0; omega, rfl⟩⟩, fun e => (by rw [show R.out = true from e] at ho; cases ho)⟩
theorem Tie.img {a : AD} {R : RDk} (h : Tie a R) : a.las = R.img := by
  unfold RDk.img
  cases ho : R.out with
  | true => rw [(h.off ho).1]; rfl
  | false =>
    obtain ⟨o1, o2, _⟩ := h.on ho
    rw [o1, if_neg (by decide), ← cut_lft _ _ _ h.ks, lay_nil0]
theorem alw_length (l : List Int) (L : List ActR) (k : Nat) : (alw l L k).length = l.length := by
  induction k with
  | zero => rfl
  | succ k ih => rw [alw]; split
                 · rw [wr_length, ih]
                 · exact ih
theorem bck_alw (l : List Int) (L : List ActR) (n i k : Nat) (hl : l.length = 512 * n) (hi : i < n) (hk : k ≤ L.length) (hx : ∀ j, j < L.length → (actN L j).kind = 1 → (actN L j).x.length = 512 ∧ 0 ≤ (actN L j).b) : bck (alw l L k) i = (rdS L i k).getD ((l.drop (i * 512)).take 512) := by
  induction k with
  | zero => show bck l i = _; rw [Nat.mul_comm i 512]; rfl
  | succ k ih =>
    rw [alw, rdS]
    by_cases c : (actN L k).kind = 1
    · obtain ⟨c1, c2⟩ := hx k (by omega) c
      rw [if_pos c, blk_wr _ n _ _ _ (by rw [alw_length]; exact hl) hi c1]
      by_cases e : (actN L k).b = (i : Int)
      · rw [if_pos (show i = (actN L k).b.toNat by omega), if_pos ⟨c, e⟩]; rfl
      · rw [if_neg (show ¬ i = (actN L k).b.toNat by omega), if_neg (fun z => e z.2)]; exact ih (by omega)
    · rw [if_neg c, if_neg (fun z => c z.1)]; exact ih (by omega)
theorem Tie.read {a : AD} {R : RDk} (h : Tie a R) (ho : R.out = false) {i : Nat} (hi : i < R.nb) (hl : R.f.length = 512 * R.nb) (hx : ∀ j, j < R.L.length → (actN R.L j).kind = 1 → (actN R.L j).x.length = 512 ∧ 0 ≤ (actN R.L j).b) : bck a.full i = R.read i := by
  obtain ⟨o1, o2, _⟩ := h.on ho
  have : a.full = alw R.f R.L R.L.length := by
    rw [← lsf_alw, ← o1, ← o2]; rfl
  rw [this]
  exact bck_alw _ _ _ _ _ hl hi (Nat.le_refl _) hx
theorem tpB_drop (L : List ActR) (fr m : Int) (n k : Nat) (hk : k ≤ L.length) (h1 : (if fr < 0 then (0 : Int) else fr) = m) (h2 : (if (L.length : Int) < m then (L.length : Int) else m) = (n : Int)) : tpB L fr k = ((L.take k).map (fun q => (q.kind, q.b, q.x))).drop n := by
  induction k with
  | zero => simp [tpB]
  | succ k ih =>
    have ht : L.take (k + 1) = L.take k ++ [actN L k] := by
      rw [List.take_add_one]
      have : L[k]? = some (actN L k) := by unfold actN; rw [List.getD, List.getElem?_eq_getElem (by omega)]; rfl
      rw [this]; rfl
    rw [tpB, ht, List.map_append, ih (by omega)]
    have hl : ((L.take k).map (fun q : ActR => (q.kind, q.b, q.x))).length = k := by rw [List.length_map, List.length_take]; omega
    have h3 : (fr ≤ (k : Int) → n ≤ k) ∧ (¬ fr ≤ (k : Int) → k + 1 ≤ n) := by
      split at h1 <;> split at h2 <;> omega
    by_cases c : fr ≤ (k : Int)
    · have := h3.1 c
      rw [if_pos c, List.drop_append_of_le_length (by rw [hl]; omega)]; rfl
    · have := h3.2 c
      rw [if_neg c, List.drop_eq_nil_of_le (by rw [hl]; omega), List.drop_eq_nil_of_le (by rw [List.length_append, hl]; simp; omega)]
theorem Tie.tape {a : AD} {R : RDk} (h : Tie a R) {fr m : Int} {n : Nat} (h1 : (if fr < 0 then (0 : Int) else fr) = m) (h2 : (if (R.L.length : Int) < m then (R.L.length : Int) else m) = (n : Int)) : a.T.drop n = tpB R.L fr R.L.length := by
  rw [h.T, tpB_drop R.L fr m n R.L.length (Nat.le_refl _) h1 h2, List.take_length]
end Go.Proofs.YtamlbpbhlgmcoaaGreatDoor

namespace Go.Proofs.YtamlbpbhlgmcoaaGreatDoor
open Go.RowKit Rec
set_option maxRecDepth 100000 in
set_option maxHeartbeats 4000000 in
theorem rcrash_anyE (w : World) (D : RDk) (h : RDisk w D) (ho : D.out = false) (ka : Option Addr) (kn kc : Nat) (keep : List Bool) (hk : Bools w (.slice ka kn kc) keep) (hkn : keep.length = kn) (h47 : kn ≤ 140737488351232) (hkr : keep ≠ [] → ∀ b off, ka = some ⟨b, off, none⟩ → b ≠ D.r) :
    Calls Tryz.prog 36 #[.pointer (some ⟨D.r, 0, none⟩), .slice ka kn kc] w fun e w' => e = .returned (.tuple #[]) ∧ RCr w D kn keep w' := by
  have c4 : w.cell? ⟨D.r, 4, none⟩ = some (.bool false) := by rw [h.cell 4, ← ho]; rfl
  have f4 := h.frozen 4
  obtain ⟨p1, p2⟩ := h.put (D' := { D with out := true }) 4 (.bool true) rfl rfl rfl ⟨rfl, rfl, rfl⟩ ⟨rfl, rfl⟩ ⟨rfl, rfl⟩ h.lft
  obtain ⟨w1, hw1⟩ : ∃ w1, w.setCell ⟨D.r, 4, none⟩ (.bool true) = w1 := ⟨_, rfl⟩
  rw [hw1] at p1 p2
  have hk1 : Bools w1 (.slice ka kn kc) keep := by
    obtain ⟨a, c, e, hh⟩ := hk
    cases e
    refine ⟨ka, kc, rfl, ?_⟩
    rcases hh with hh | ⟨b, off, e2, hc⟩
    · exact .inl hh
    · refine .inr ⟨b, off, e2, fun i x hi => p2.cell (hc i x hi) (fun e3 => hkr (fun z => by rw [z] at hi; simp at hi) b off e2 e3)⟩
  have CM : Hid (Calls Tryz.prog 74 #[.slice ka kn kc] w1 fun e w' => ∃ v c, e = .returned (.slice v kn c) ∧ w'.ownsRow 0 4 1 (.slice v kn c) kn (keep.map Value.bool) ∧ (∀ b, (Value.slice v kn c).ownBlock = some b → w1.heap.size ≤ b) ∧ Below w1.heap.size w1 w') := rmarks_any w1 ka kn kc keep hk1 hkn h47
  have H1 : Hid (RDisk w1 { D with out := true } ∧ Fr (fun k => k = D.r) w w1 ∧ keep.length = kn) := ⟨p1, p2, hkn⟩
  clear h hk hk1 hkn p1 p2 ho hkr
  go_enter Tryz.func36, Tryz.ntmps36
  go_wp2_with (go_at_call 74; refine CM.out.mono ?_; rintro e w2 ⟨v, vc, rfl, h1, h2, h3⟩
               have H2 : Hid (RDisk (w2.setCell ⟨D.r, 2, none⟩ (.slice v kn vc)) { D with out := true, kv := .slice v kn vc, keep := keep } ∧ Fr (fun k => k = D.r) w (w2.setCell ⟨D.r, 2, none⟩ (.slice v kn vc)) ∧ w2.heap[D.r]? = some (.cells ({ D with out := true } : RDk).cells 41 (0, 0)) ∧ ∀ b, (Value.slice v kn vc).ownBlock = some b → w.heap.size ≤ b) := (by
                 have hd := H1.out.1.on h3
                 have h1' := h1
                 rw [← H1.out.2.2] at h1'
                 obtain ⟨g1, g2⟩ := hd.putK (v := .slice v keep.length vc) (K := keep) h1'
                 rw [H1.out.2.2] at g1 g2
                 exact ⟨g1, (H1.out.2.1.trans (below_fr h3 (fun _ => False)) (fun _ e => e.elim)).trans g2 (fun k e => .inl e), hd.box, fun b e => Nat.le_trans H1.out.2.1.size (h2 b e)⟩)
               have d2 : w2.cell? ⟨D.r, 2, none⟩ = some D.kv := cell_of_row _ _ 2 _ _ _ H2.out.2.2.1
               have e2 : w2.frozen? ⟨D.r, 2, none⟩ = false := frozen_of_row _ _ 2 _ _ H2.out.2.2.1
               clear h1 h2 h3)
  go_end0
  exact ⟨rfl, v, vc, H2.out.1, H2.out.2.1, H2.out.2.2.2⟩
set_option maxRecDepth 100000 in
set_option maxHeartbeats 4000000 in
theorem rarm_anyE (w : World) (D : RDk) (h : RDisk w D) (ho : D.out = false) (t : Int) (ka : Option Addr) (kn kc : Nat) (keep : List Bool) (hk : Bools w (.slice ka kn kc) keep) (hkn : keep.length = kn) (h47 : kn ≤ 140737488351232) (hkr : keep ≠ [] → ∀ b off, ka = some ⟨b, off, none⟩ → b ≠ D.r) :
    Calls Tryz.prog 34 #[.pointer (some ⟨D.r, 0, none⟩), .agg #[.int .i64 t, .slice ka kn kc]] w fun e w' => e = .returned (.int .i64 0) ∧ RAr w D t kn keep w' := by
  obtain ⟨wA, hwA⟩ : ∃ wA, w.alloc (.cells #[.int .i64 t, .slice ka kn kc] 44) = wA := ⟨_, rfl⟩
  obtain ⟨P, hP⟩ : ∃ P, w.heap.size = P := ⟨_, rfl⟩
  have hal : Below w.heap.size w wA := by rw [← hwA]; exact (Below.refl _ _).alloc (Nat.le_refl _) _
  have hz : wA.heap[P]? = some (.cells #[.int .i64 t, .slice ka kn kc] 44 (0, 0)) := by rw [← hwA, ← hP]; exact heap_alloc_new _ _
  have hA := h.on hal
  have hPr : P ≠ D.r := by have := heap_lt h.box; omega
  have c4 : wA.cell? ⟨D.r, 4, none⟩ = some (.bool false) := by rw [hA.cell 4, ← ho]; rfl
  have c3 : wA.cell? ⟨D.r, 3, none⟩ = some (.int .i64 D.left) := hA.cell 3
  have f3 := hA.frozen 3
  obtain ⟨p1, p2⟩ := hA.put (D' := { D with left := 0 }) 3 (.int .i64 0) rfl rfl rfl ⟨rfl, rfl, rfl⟩ ⟨rfl, rfl⟩ ⟨rfl, rfl⟩ (Int.le_refl 0)
  obtain ⟨w1, hw1⟩ : ∃ w1, wA.setCell ⟨D.r, 3, none⟩ (.int .i64 0) = w1 := ⟨_, rfl⟩
  rw [hw1] at p1 p2
  have hz1 := p2.heap hz hPr
  have y0 : w1.cell? ⟨P, 0, none⟩ = some (.int .i64 t) := cell_of_row _ _ 0 _ _ _ hz1
  have q0 : Fr (fun k => k = D.r) w w1 := (below_fr hal (fun k => k = D.r)).trans p2 (fun k e => .inl e)
  by_cases ht : 0 < t
  · unfold RAr
    simp only [if_pos ht]
    have d3 : w1.cell? ⟨D.r, 3, none⟩ = some (.int .i64 0) := p1.cell 3
    have g3 := p1.frozen 3
    obtain ⟨k1, k2⟩ := p1.put (D' := { D with left := t }) 3 (.int .i64 t) rfl rfl rfl ⟨rfl, rfl, rfl⟩ ⟨rfl, rfl⟩ ⟨rfl, rfl⟩ (by show 0 ≤ t; omega)
    obtain ⟨w2, hw2⟩ : ∃ w2, w1.setCell ⟨D.r, 3, none⟩ (.int .i64 t) = w2 := ⟨_, rfl⟩
    rw [hw2] at k1 k2
    have hz2 := k2.heap hz1 hPr
    have y1 : w2.cell? ⟨P, 1, none⟩ = some (.slice ka kn kc) := cell_of_row _ _ 1 _ _ _ hz2
    have q1 : Fr (fun k => k = D.r) w w2 := q0.trans k2 (fun k e => .inl e)
    have hk2 : Bools w2 (.slice ka kn kc) keep := by
      obtain ⟨a, c, e, hh⟩ := hk
      cases e
      refine ⟨ka, kc, rfl, ?_⟩
      rcases hh with hh | ⟨b, off, e2, hc⟩
      · exact .inl hh
      · exact .inr ⟨b, off, e2, fun i x hi => q1.cell (hc i x hi) (fun e3 => hkr (fun z => by rw [z] at hi; simp at hi) b off e2 e3)⟩
    have CM : Hid (Calls Tryz.prog 74 #[.slice ka kn kc] w2 fun e w' => ∃ v c, e = .returned (.slice v kn c) ∧ w'.ownsRow 0 4 1 (.slice v kn c) kn (keep.map Value.bool) ∧ (∀ b, (Value.slice v kn c).ownBlock = some b → w2.heap.size ≤ b) ∧ Below w2.heap.size w2 w') := rmarks_any w2 ka kn kc keep hk2 hkn h47
    have H1 : Hid (RDisk w2 { D with left := t } ∧ Fr (fun k => k = D.r) w w2 ∧ keep.length = kn) := ⟨k1, q1, hkn⟩
    clear h hk hk2 hkn p1 p2 ho hkr k1 k2 q0 q1 hz hz1 hz2 hA hal
    go_enter Tryz.func34, Tryz.ntmps34
    go_wp2_with (go_at_call 74; refine CM.out.mono ?_; rintro e w3 ⟨v, vc, rfl, h1, h2, h3⟩
                 have H2 : Hid (RDisk (w3.setCell ⟨D.r, 2, none⟩ (.slice v kn vc)) { D with left := t, kv := .slice v kn vc, keep := keep } ∧ Fr (fun k => k = D.r) w (w3.setCell ⟨D.r, 2, none⟩ (.slice v kn vc)) ∧ w3.heap[D.r]? = some (.cells ({ D with left := t } : RDk).cells 41 (0, 0)) ∧ ∀ b, (Value.slice v kn vc).ownBlock = some b → w.heap.size ≤ b) := (by
                   have hd := H1.out.1.on h3
                   have h1' := h1
                   rw [← H1.out.2.2] at h1'
                   obtain ⟨g1, g2⟩ := hd.putK (v := .slice v keep.length vc) (K := keep) h1'
                   rw [H1.out.2.2] at g1 g2
                   exact ⟨g1, (H1.out.2.1.trans (below_fr h3 (fun _ => False)) (fun _ e => e.elim)).trans g2 (fun k e => .inl e), hd.box, fun b e => Nat.le_trans H1.out.2.1.size (h2 b e)⟩)
                 have d2 : w3.cell? ⟨D.r, 2, none⟩ = some D.kv := cell_of_row _ _ 2 _ _ _ H2.out.2.2.1
                 have e2 : w3.frozen? ⟨D.r, 2, none⟩ = false := frozen_of_row _ _ 2 _ _ H2.out.2.2.1
                 clear h1 h2 h3)
    go_ret
    exact ⟨rfl, v, vc, H2.out.1, H2.out.2.1, H2.out.2.2.2⟩
  · unfold RAr
    simp only [if_neg ht]
    have H1 : Hid (RDisk w1 { D with left := 0 } ∧ Fr (fun k => k = D.r) w w1) := ⟨p1, q0⟩
    clear h hk hkn p1 p2 ho hkr q0 hz hz1 hA hal
    go_enter Tryz.func34, Tryz.ntmps34
    go_wp2
    go_ret
    exact ⟨rfl, H1.out.1, H1.out.2, none, 0, fun b e => by cases e⟩
end Go.Proofs.YtamlbpbhlgmcoaaGreatDoor
