import Derived.Test.YtflienghgobmoaaGreatDoorKAAbs
import Derived.Test.YtflienghgobmoaaGreatDoorKFit
import Derived.Defers
import Derived.Recover
namespace Go.Proofs.YtflienghgobmoaaGreatDoor
open Go.RowKit Rec

/-- rows of writes, a flush behind each -/
def grp : List (List (Nat × List Int)) → List WA
  | [] => []
  | ws :: gs => ws.map some ++ none :: grp gs
theorem homeA_grp (Q : List (Nat × List Int)) : homeA Q = grp [Q, [(1, zs)]] := rfl
theorem commitA_grp (ns : List Int) (ds : List (List Int)) : commitA ns ds = grp [logW ds, [(1, made ns ds)], homes ns ds, [(1, zs)]] := rfl
theorem grp_length_cons (ws : List (Nat × List Int)) (gs : List (List (Nat × List Int))) : (grp (ws :: gs)).length = ws.length + 1 + (grp gs).length := by
  simp [grp]; omega
/-- what a disk is behind acts that no cut meets -/
def AD.all (a : AD) (gs : List (List (Nat × List Int))) : AD :=
  { a with las := fw a.las gs.flatten, P := [], T := a.T ++ (grp gs).map actT, wr := a.wr + gs.flatten.length, fl := a.fl + gs.length, at_ := if 0 < a.at_ then a.at_ - (grp gs).length else a.at_ }
theorem take_grp (gs : List (List (Nat × List Int))) (a : AD) (hP : a.P = []) (hd : a.down = false) (hat : a.at_ ≤ 0 ∨ ((grp gs).length : Int) < a.at_) :
    a.take (grp gs) = a.all gs ∧ a.takeE (grp gs) = 0 := by
  induction gs generalizing a with
  | nil =>
    refine ⟨?_, rfl⟩
    unfold AD.all
    cases a
    subst hP
    simp [grp, AD.take, fw_nil]
  | cons ws gs ih =>
    rw [grp_length_cons] at hat
    rw [grp]
    obtain ⟨e1, e2⟩ := take_writes a ws (none :: grp gs) hd (by omega)
    have hat2 : (a.wrs ws).at_ = if 0 < a.at_ then a.at_ - ws.length else a.at_ := rfl
    obtain ⟨e3, e4⟩ := take_flush (a.wrs ws) (grp gs) hd (by rw [hat2]; split <;> omega)
    have hat3 : (a.wrs ws).fls.at_ = if 0 < (a.wrs ws).at_ then (a.wrs ws).at_ - 1 else (a.wrs ws).at_ := rfl
    obtain ⟨e5, e6⟩ := ih (a.wrs ws).fls rfl hd (by rw [hat3, hat2]; split <;> (try split) <;> omega)
    rw [e1, e2, e3, e4, e5, e6]
    refine ⟨?_, rfl⟩
    unfold AD.all AD.fls AD.wrs
    simp only [hP, List.nil_append, AD.mk.injEq, true_and, List.flatten_cons, fw_append, List.append_assoc, List.length_append, List.length_cons, and_true]
    refine ⟨?_, by omega, by omega, ?_⟩
    · simp [grp]
    · rw [show (grp (ws :: gs)).length = _ from grp_length_cons ws gs]
      split <;> (try split) <;> (try split) <;> omega
/-- what it is if the power goes meanwhile -/
structure CutAt (a b : AD) (gs pre post : List (List (Nat × List Int))) (ws : List (Nat × List Int)) (k : Nat) : Prop where
  parts : gs = pre ++ ws :: post
  pos : a.at_ = ((grp pre).length : Int) + k
  lo : 1 ≤ k
  hi : k ≤ ws.length + 1
  las : b.las = fw a.las (pre.flatten ++ sel (kpOf a.keep) (ws.take k) (ws.take k).length)
  pen : b.P = []
  down : b.down = true
  nb : b.nb = a.nb
theorem take_grp_cut (gs : List (List (Nat × List Int))) (a : AD) (hP : a.P = []) (hd : a.down = false) (h1 : 1 ≤ a.at_) (h2 : a.at_ ≤ ((grp gs).length : Int)) :
    a.takeE (grp gs) = 30 ∧ ∃ pre ws post k, CutAt a (a.take (grp gs)) gs pre post ws k := by
  induction gs generalizing a with
  | nil => simp [grp] at h2; omega
  | cons ws gs ih =>
    rw [grp_length_cons] at h2
    rw [grp]
    by_cases c : a.at_ ≤ ws.length
    · obtain ⟨k, hk⟩ : ∃ k : Nat, a.at_ = (k : Int) + 1 := ⟨(a.at_ - 1).toNat, by omega⟩
      obtain ⟨e1, e2⟩ := take_writes_cut a ws (none :: grp gs) hd k hk (by omega)
      rw [e1, e2]
      refine ⟨rfl, [], ws, gs, k + 1, rfl, by simp [grp, hk], by omega, by omega, ?_, rfl, rfl, rfl⟩
      show fw a.las (sel _ (a.P ++ ws.take (k + 1)) (a.P ++ ws.take (k + 1)).length) = _
      rw [hP]; rfl
    · obtain ⟨e1, e2⟩ := take_writes a ws (none :: grp gs) hd (by omega)
      have hat2 : (a.wrs ws).at_ = a.at_ - ws.length := by show (if 0 < a.at_ then a.at_ - (ws.length : Int) else a.at_) = _; rw [if_pos (by omega)]
      rw [e1, e2]
      by_cases c2 : a.at_ = (ws.length : Int) + 1
      · obtain ⟨e3, e4⟩ := take_flush_cut (a.wrs ws) (grp gs) hd (by rw [hat2]; omega)
        rw [e3, e4]
        refine ⟨rfl, [], ws, gs, ws.length + 1, rfl, by simp [grp, c2], by omega, by omega, ?_, rfl, rfl, rfl⟩
        show fw a.las (sel _ (a.P ++ ws) (a.P ++ ws).length) = _
        rw [hP, List.take_of_length_le (by omega)]; rfl
      · obtain ⟨e3, e4⟩ := take_flush (a.wrs ws) (grp gs) hd (by rw [hat2]; omega)
        have hat3 : (a.wrs ws).fls.at_ = a.at_ - ws.length - 1 := by
          show (if 0 < (a.wrs ws).at_ then (a.wrs ws).at_ - 1 else (a.wrs ws).at_) = _
          rw [hat2, if_pos (by omega)]
        rw [e3, e4]
        obtain ⟨e5, pre, vs, post, k, h⟩ := ih (a.wrs ws).fls rfl hd (by rw [hat3]; omega) (by rw [hat3]; omega)
        refine ⟨e5, ws :: pre, vs, post, k, by rw [h.parts]; rfl, ?_, h.lo, h.hi, ?_, h.pen, h.down, h.nb⟩
        · have := h.pos
          rw [hat3] at this
          rw [grp_length_cons]; omega
        · rw [h.las]
          show fw (fw a.las (a.P ++ ws)) _ = _
          rw [hP, List.nil_append, ← fw_append, List.flatten_cons, List.append_assoc]; rfl
theorem sel_one (kp : Nat → Bool) (p : Nat × List Int) (k : Nat) (hk : 1 ≤ k) : sel kp ([p].take k) ([p].take k).length = if kp 0 then [p] else [] := by
  rw [List.take_of_length_le (by simp; omega)]
  simp only [List.length_cons, List.length_nil, Nat.zero_add, sel, List.nil_append]
  rfl
theorem sel_take_sub (kp : Nat → Bool) (ws : List (Nat × List Int)) (k : Nat) : (sel kp (ws.take k) (ws.take k).length).Sublist ws := by
  have := sel_sub kp (ws.take k) (ws.take k).length (Nat.le_refl _)
  rw [List.take_length] at this
  exact this.trans (List.take_sublist _ _)
end Go.Proofs.YtflienghgobmoaaGreatDoor

namespace Go.Proofs.YtflienghgobmoaaGreatDoor
open Go.RowKit Rec

/-- blocks that may be committed on a disk of nb blocks -/
structure ComOk (nb : Nat) (ns : List Int) (ds : List (List Int)) : Prop where
  n98 : 98 ≤ nb
  n16 : nb ≤ 16384
  ris : may ns nb = true
  lo : 1 ≤ ns.length
  hi : ns.length ≤ 96
  dl : ds.length = ns.length
  bl : ∀ b ∈ ds, b.length = 512
theorem logW_length (ds : List (List Int)) : (logW ds).length = ds.length := by simp [logW]
theorem logW_mem {ds : List (List Int)} {p : Nat × List Int} (hp : p ∈ logW ds) : ∃ i, i < ds.length ∧ p = (2 + i, row ds i) := by
  simp only [logW, List.mem_map, List.mem_range] at hp
  obtain ⟨i, hi, rfl⟩ := hp
  exact ⟨i, hi, rfl⟩
theorem row_mem {ds : List (List Int)} {i : Nat} (hi : i < ds.length) : row ds i ∈ ds := by simp [row, List.getD, hi]
theorem logW_once (ds : List (List Int)) : Once1 (logW ds) := by
  refine List.pairwise_iff_getElem.2 fun i j hi hj hij => ?_
  simp only [logW, List.getElem_map, List.getElem_range]
  omega
theorem ComOk.good {nb : Nat} {ns : List Int} {ds : List (List Int)} (h : ComOk nb ns ds) : numsL (made ns ds) nb = ns ∧ numsE (made ns ds) nb = 0 ∧ good (made ns ds) nb ds = true := by
  have hb : ∀ i, i < ns.length → 0 ≤ nth ns i ∧ nth ns i < 4294967296 := fun i hi => by
    have := pre_bd ns nb h.ris i hi
    have := h.n16
    omega
  have e1 : numsL (made ns ds) nb = ns := by unfold made; rw [numsL_hd ns _ _ h.lo h.hi hb, if_pos h.ris]
  have e2 : numsE (made ns ds) nb = 0 := by unfold made; rw [numsE_hd ns _ _ h.lo h.hi hb, if_pos h.ris]
  refine ⟨e1, e2, ?_⟩
  unfold Go.Proofs.YtflienghgobmoaaGreatDoor.good
  rw [e1]
  simp only [Bool.and_eq_true, decide_eq_true_eq]
  refine ⟨⟨fun e => by have := h.lo; rw [e] at this; simp at this, ?_⟩, ?_⟩
  · unfold blk
    rw [Bool.and_eq_true, decide_eq_true_eq, decide_eq_true_eq]
    exact ⟨h.dl, h.bl⟩
  · unfold made
    rw [num_sum _ _ (sumV_bd _ _)]
    exact (sumV_hd _ _ _).symm
section
variable {nb : Nat} {ns : List Int} {ds : List (List Int)} {l : List Int}
theorem logW_in (h : ComOk nb ns ds) : ∀ p ∈ logW ds, p.2.length = 512 ∧ 2 ≤ p.1 ∧ p.1 < 98 := fun p hp => by
  obtain ⟨i, hi, rfl⟩ := logW_mem hp
  have := h.dl
  have := h.hi
  exact ⟨h.bl _ (row_mem hi), by show 2 ≤ 2 + i; omega, by show 2 + i < 98; omega⟩
theorem logs_out (h : ComOk nb ns ds) (hl : l.length = 512 * nb) {Q : List (Nat × List Int)} (s : Q.Sublist (logW ds)) (b : Nat) (hb : b < nb) (hb2 : b < 2 ∨ 98 ≤ b) : bck (fw l Q) b = bck l b :=
  bck_fw_out l Q b nb hl (fun p hp => (logW_in h p (s.subset hp)).1) hb (fun p hp e => by have := logW_in h p (s.subset hp); omega)
/-- the log's data are written: nothing has changed -/
theorem well_logs (h : ComOk nb ns ds) (hl : l.length = 512 * nb) (h1 : bck l 1 = zs) {Q : List (Nat × List Int)} (s : Q.Sublist (logW ds)) : Well nb l (fw l Q) := by
  have hn := h.n98
  have e : bck (fw l Q) 1 = zs := by rw [logs_out h hl s 1 (by omega) (by omega), h1]
  have hl' : (fw l Q).length = 512 * nb := by rw [fw_length, hl]
  refine ⟨hl', (log_empty hn e).2.2, ?_⟩
  rw [behind_empty hl' hn e]
  exact fun b hb hb2 => logs_out h hl s b hb hb2
def headed (l : List Int) (ns : List Int) (ds : List (List Int)) : List Int := wr (fw l (logW ds)) 1 (made ns ds)
theorem headed_log (h : ComOk nb ns ds) (hl : l.length = 512 * nb) : (headed l ns ds).length = 512 * nb ∧ logN (headed l ns ds) nb = ns ∧ logH (headed l ns ds) nb = homes ns ds ∧ logE (headed l ns ds) nb = 0 := by
  have hn := h.n98
  have hl2 : (fw l (logW ds)).length = 512 * nb := by rw [fw_length, hl]
  have hl' : (headed l ns ds).length = 512 * nb := by rw [headed, wr_length, hl2]
  obtain ⟨g1, g2, g3⟩ := h.good
  have e1 : bck (headed l ns ds) 1 = made ns ds := by rw [headed, bck_wr _ _ _ _ nb hl2 (made_length _ _) (by omega), if_pos rfl]
  have e2 : logN (headed l ns ds) nb = ns := by unfold logN; rw [e1, g1]
  have e3 : logD (headed l ns ds) ns.length = ds := by
    refine List.ext_getElem (by rw [logD_length, h.dl]) fun i hi hj => ?_
    have hi' : i < ns.length := by rwa [logD_length] at hi
    have h96 := h.hi
    have : (logD (headed l ns ds) ns.length)[i] = bck (headed l ns ds) (2 + i) := by simp [logD]
    rw [this, headed, bck_wr _ _ _ _ nb hl2 (made_length _ _) (by omega), if_neg (by omega)]
    have hp : (2 + i, row ds i) ∈ logW ds := by
      simp only [logW, List.mem_map, List.mem_range]
      exact ⟨i, hj, rfl⟩
    rw [bck_fw_in l (logW ds) nb hl (fun p hp => (logW_in h p hp).1) (fun p hp => by have := logW_in h p hp; omega) (logW_once ds) _ hp]
    simp [row, List.getD, hj]
  refine ⟨hl', e2, by unfold logH; rw [e2, e3], ?_⟩
  unfold logE
  rw [e2, e3, e1, if_neg (by omega), if_pos g2, if_pos (.inr g3)]
theorem homes_okC (h : ComOk nb ns ds) : HomeOk nb (homes ns ds) := homes_ok ns ds nb h.ris h.bl
theorem well_headed (h : ComOk nb ns ds) (hl : l.length = 512 * nb) (h1 : bck l 1 = zs) : Well nb (fw l (homes ns ds)) (headed l ns ds) := by
  have hn := h.n98
  obtain ⟨hl', _, eH, eE⟩ := headed_log h hl
  have hH := homes_okC h
  refine ⟨hl', eE, fun b hb hb2 => ?_⟩
  rw [bck_behind _ _ _ hl' hb, eH]
  by_cases c : b = 1
  · rw [if_pos c, c, fw_low hl hH 1 (by omega) hn, h1]
  · rw [if_neg c]
    by_cases c2 : ∃ p ∈ homes ns ds, p.1 = b
    · obtain ⟨p, hp, rfl⟩ := c2
      rw [bck_fw_in _ _ nb hl' hH.len hH.hi hH.once p hp, bck_fw_in _ _ nb hl hH.len hH.hi hH.once p hp]
    · have c' : ∀ p ∈ homes ns ds, p.1 ≠ b := fun p hp e => c2 ⟨p, hp, e⟩
      rw [bck_fw_out _ _ _ nb hl' hH.len hb c', bck_fw_out _ _ _ nb hl hH.len hb c', headed, bck_wr _ _ _ _ nb (by rw [fw_length, hl]) (made_length _ _) hb, if_neg c]
      exact logs_out h hl (List.Sublist.refl _) b hb hb2
end
theorem flt2 {α : Type} (a b : List α) : [a, b].flatten = a ++ b := by simp
theorem flt3 {α : Type} (a b c : List α) : [a, b, c].flatten = a ++ (b ++ c) := by simp
theorem flt4 {α : Type} (a b c d : List α) : [a, b, c, d].flatten = a ++ (b ++ (c ++ d)) := by simp
theorem fw_one (l : List Int) (n : Nat) (x : List Int) : fw l [(n, x)] = wr l n x := rfl
/-- a commit, cut or not -/
theorem take_commit (a : AD) (nb : Nat) (ns : List Int) (ds : List (List Int)) (h : ComOk nb ns ds) (hl : a.las.length = 512 * nb) (h1 : bck a.las 1 = zs) (hP : a.P = []) (hd : a.down = false) :
    (¬ (1 ≤ a.at_ ∧ a.at_ ≤ 2 * (ns.length : Int) + 6) → a.take (commitA ns ds) = a.all [logW ds, [(1, made ns ds)], homes ns ds, [(1, zs)]] ∧ a.takeE (commitA ns ds) = 0 ∧ (a.take (commitA ns ds)).las = behind (headed a.las ns ds) nb ∧ Well nb (fw a.las (homes ns ds)) (a.take (commitA ns ds)).las) ∧
    ((1 ≤ a.at_ ∧ a.at_ ≤ 2 * (ns.length : Int) + 6) → a.takeE (commitA ns ds) = 30 ∧ (a.take (commitA ns ds)).down = true ∧ (a.take (commitA ns ds)).P = [] ∧ (a.take (commitA ns ds)).nb = a.nb ∧
      Well nb (if a.at_ < (ns.length : Int) + 2 ∨ a.at_ < (ns.length : Int) + 4 ∧ kpOf a.keep 0 = false then a.las else fw a.las (homes ns ds)) (a.take (commitA ns ds)).las) := by
  have hn := h.n98
  rw [commitA_grp]
  have hlen : (grp [logW ds, [(1, made ns ds)], homes ns ds, [(1, zs)]]).length = 2 * ns.length + 6 := by
    rw [grp_length_cons, grp_length_cons, grp_length_cons, grp_length_cons, logW_length, homes_length ns ds h.dl, h.dl]
    simp only [grp, List.length_cons, List.length_nil]
    omega
  have hW := well_headed h hl h1
  obtain ⟨hl', _, eH, _⟩ := headed_log h hl
  have hB : behind (headed a.las ns ds) nb = fw (fw (headed a.las ns ds) (homes ns ds)) [(1, zs)] := by unfold behind; rw [eH, fw_one]
  constructor
  · intro c
    obtain ⟨e1, e2⟩ := take_grp [logW ds, [(1, made ns ds)], homes ns ds, [(1, zs)]] a hP hd (by rw [hlen]; omega)
    have e3 : (a.all [logW ds, [(1, made ns ds)], homes ns ds, [(1, zs)]]).las = behind (headed a.las ns ds) nb := by
      rw [hB]
      show fw a.las ([logW ds, [(1, made ns ds)], homes ns ds, [(1, zs)]].flatten) = _
      rw [flt4, fw_append, fw_append, fw_append, fw_one _ _ (made ns ds), headed]
    rw [e1, e2, e3]
    exact ⟨rfl, rfl, rfl, hW.done hn⟩
  · intro c
    obtain ⟨e1, pre, ws, post, k, q⟩ := take_grp_cut [logW ds, [(1, made ns ds)], homes ns ds, [(1, zs)]] a hP hd c.1 (by rw [hlen]; omega)
    refine ⟨e1, q.down, q.pen, q.nb, ?_⟩
    rw [q.las]
    have hp := q.parts
    have pos := q.pos
    have hk1 := q.lo
    have hk2 := q.hi
    match pre, hp, pos with
    | [], hp, pos =>
      simp only [List.nil_append, List.cons.injEq] at hp
      obtain ⟨rfl, _⟩ := hp
      rw [logW_length, h.dl] at hk2
      simp only [grp, List.length_nil] at pos
      rw [if_pos (.inl (by omega))]
      exact well_logs h hl h1 (sel_take_sub _ _ k)
    | [x], hp, pos =>
      simp only [List.cons_append, List.nil_append, List.cons.injEq] at hp
      obtain ⟨rfl, rfl, _⟩ := hp
      rw [grp_length_cons, logW_length, h.dl] at pos
      simp only [grp, List.length_nil, List.length_cons] at pos hk2
      rw [sel_one _ _ _ q.lo, fw_append]
      simp only [List.flatten_cons, List.flatten_nil, List.append_nil]
      cases hc : kpOf a.keep 0 with
      | true =>
        rw [if_neg (by rintro (c | c); omega; cases c.2), if_pos rfl, fw_one]
        exact hW
      | false =>
        rw [if_pos (.inr ⟨by omega, rfl⟩), if_neg (by decide)]
        exact well_logs h hl h1 (List.Sublist.refl _)
    | [x, y], hp, pos =>
      simp only [List.cons_append, List.nil_append, List.cons.injEq] at hp
      obtain ⟨rfl, rfl, rfl, _⟩ := hp
      rw [grp_length_cons, grp_length_cons, logW_length, h.dl] at pos
      simp only [grp, List.length_nil, List.length_cons] at pos
      rw [if_neg (by omega)]
      have := (hW.home hn (Q := sel (kpOf a.keep) ((homes ns ds).take k) ((homes ns ds).take k).length) (by rw [eH]; exact sel_take_sub _ _ k)).1
      rw [headed] at this
      rw [flt2, fw_append, fw_append, fw_one]
      exact this
    | [x, y, z], hp, pos =>
      simp only [List.cons_append, List.nil_append, List.cons.injEq] at hp
      obtain ⟨rfl, rfl, rfl, rfl, _⟩ := hp
      rw [grp_length_cons, grp_length_cons, logW_length, h.dl] at pos
      simp only [List.length_cons, List.length_nil] at pos
      rw [if_neg (by omega), sel_one _ _ _ q.lo]
      rw [flt3, fw_append, fw_append, fw_append, fw_one, ← headed]
      split
      · rw [← hB]; exact hW.done hn
      · exact (hW.home hn (by rw [eH]; exact List.Sublist.refl _)).1
    | x :: y :: z :: u :: v, hp, pos =>
      simp only [List.cons_append, List.cons.injEq] at hp
      exact absurd hp.2.2.2.2 (by simp)
end Go.Proofs.YtflienghgobmoaaGreatDoor

namespace Go.Proofs.YtflienghgobmoaaGreatDoor
open Go.RowKit Rec

theorem own_apartR {w : World} {B e size n p : Nat} {v : Value} {xs : List Value} {cs : Array Value} {t : Nat} {f : Nat × Nat} (h : w.ownsRow B e size v n xs) (h' : w.heap[p]? = some (.cells cs t f)) (hne : e ≠ t) : ¬ v.ownBlock = some p := by
  intro hk
  obtain ⟨c1, h1⟩ := own_type h hk
  rw [h1] at h'
  cases h'
  exact hne rfl
end Go.Proofs.YtflienghgobmoaaGreatDoor

namespace Go.Proofs.YtflienghgobmoaaGreatDoor
open Go.RowKit Rec

/-- a block's bytes in a row of their own -/
structure BlkAt (w : World) (g : Nat) (x : List Int) : Prop where
  own : ∃ cap y, OwnB w g cap (x ++ y)
  len : x.length = 512
theorem BlkAt.lt {w : World} {g : Nat} {x : List Int} (h : BlkAt w g x) : g < w.heap.size := by obtain ⟨c, y, ho⟩ := h.own; exact ho.lt
theorem BlkAt.fr {S : Nat → Prop} {w w' : World} {g : Nat} {x : List Int} (h : BlkAt w g x) (f : Fr S w w') (hk : ¬ S g) : BlkAt w' g x := by
  obtain ⟨c, y, ho⟩ := h.own
  exact ⟨⟨c, y, ho.fr f hk⟩, h.len⟩
theorem BlkAt.on {w w' : World} {g : Nat} {x : List Int} (h : BlkAt w g x) (f : Below w.heap.size w w') : BlkAt w' g x := h.fr (below_fr f (fun _ => False)) (fun e => e)
theorem BlkAt.bytes {w : World} {g : Nat} {x : List Int} (h : BlkAt w g x) : Bytes w (some ⟨g, 0, none⟩) x := by
  obtain ⟨c, y, ho⟩ := h.own
  have := ho.bytes.take x.length
  rwa [List.take_left] at this
theorem BlkAt.row {w : World} {g : Nat} {x : List Int} (h : BlkAt w g x) : ∃ cur, w.heap[g]? = some (.cells cur 5 (0, 0)) := by
  obtain ⟨c, y, ho⟩ := h.own
  obtain ⟨cur, hc, _⟩ := ho.row
  exact ⟨cur, hc⟩
theorem BlkAt.of {w : World} {g cap : Nat} {x : List Int} (h : OwnB w g cap x) (hl : x.length = 512) : BlkAt w g x := ⟨⟨cap, [], by rw [List.append_nil]; exact h⟩, hl⟩
/-- a step: a closure, and what it does to the disk -/
def JobAt (w : World) (D : Dk) (p : Nat) (f : Value) : WA → Prop
  | some q => ∃ s n b g c, f = .func (.func 152) #[] #[.pointer (some ⟨s, 0, none⟩), .pointer (some ⟨n, 0, none⟩), .pointer (some ⟨b, 0, none⟩)] ∧ w.heap[s]? = some (.cells #[.pointer (some ⟨p, 0, none⟩)] 169 (0, 0)) ∧ w.heap[n]? = some (.cells #[.int .i64 q.1] 3 (0, 0)) ∧ w.heap[b]? = some (.cells #[.slice (some ⟨g, 0, none⟩) 512 c] 22 (0, 0)) ∧ BlkAt w g q.2 ∧ q.1 < D.nb ∧ ¬ D.has s ∧ ¬ D.has n ∧ ¬ D.has b ∧ ¬ D.has g
  | none => ∃ s, f = .func (.func 154) #[] #[.pointer (some ⟨s, 0, none⟩)] ∧ w.heap[s]? = some (.cells #[.pointer (some ⟨p, 0, none⟩)] 169 (0, 0)) ∧ ¬ D.has s
theorem JobAt.fr {S : Nat → Prop} {w w' : World} {D : Dk} {p : Nat} {f : Value} {t : WA} (h : JobAt w D p f t) (x : Fr S w w') (hS : ∀ k cs ty fz, w.heap[k]? = some (.cells cs ty fz) → (ty = 169 ∨ ty = 3 ∨ ty = 22 ∨ ty = 5) → ¬ D.has k → ¬ S k) : JobAt w' D p f t := by
  cases t with
  | none =>
    obtain ⟨s, e, h1, h2⟩ := h
    exact ⟨s, e, x.heap h1 (hS _ _ _ _ h1 (.inl rfl) h2), h2⟩
  | some q =>
    obtain ⟨s, n, b, g, c, e, h1, h2, h3, h4, h5, h6, h7, h8, h9⟩ := h
    obtain ⟨cur, hc⟩ := h4.row
    exact ⟨s, n, b, g, c, e, x.heap h1 (hS _ _ _ _ h1 (.inl rfl) h6), x.heap h2 (hS _ _ _ _ h2 (.inr (.inl rfl)) h7), x.heap h3 (hS _ _ _ _ h3 (.inr (.inr (.inl rfl))) h8), h4.fr x (hS _ _ _ _ hc (.inr (.inr (.inr rfl))) h9), h5, h6, h7, h8, h9⟩
theorem JobAt.on {w w' : World} {D : Dk} {p : Nat} {f : Value} {t : WA} (h : JobAt w D p f t) (x : Below w.heap.size w w') : JobAt w' D p f t := h.fr (below_fr x (fun _ => False)) (fun _ _ _ _ _ _ _ e => e)
theorem JobAt.mv {w w' : World} {D D' : Dk} {p : Nat} {f : Value} {t : WA} (h : JobAt w D p f t) (x : Mv w D w' D') : JobAt w' D' p f t := by
  have hn : ∀ {k : Nat}, k < w.heap.size → ¬ D.has k → ¬ D'.has k := fun hk hd e => (x.has _ e).elim hd (fun e => by omega)
  cases t with
  | none =>
    obtain ⟨s, e, h1, h2⟩ := h
    exact ⟨s, e, x.fr.heap h1 h2, hn (heap_lt h1) h2⟩
  | some q =>
    obtain ⟨s, n, b, g, c, e, h1, h2, h3, h4, h5, h6, h7, h8, h9⟩ := h
    exact ⟨s, n, b, g, c, e, x.fr.heap h1 h6, x.fr.heap h2 h7, x.fr.heap h3 h8, h4.fr x.fr h9, by rw [x.nb]; exact h5, hn (heap_lt h1) h6, hn (heap_lt h2) h7, hn (heap_lt h3) h8, hn h4.lt h9⟩
/-- the steps that are still to be done -/
structure StepsAt (w : World) (D : Dk) (p : Nat) (v : Value) (fs : List Value) (acts : List WA) : Prop where
  row : w.heap[p]? = some (.cells #[.pointer (some ⟨D.d, 0, none⟩), v] 172 (0, 0))
  own : w.ownsRow 0 84 1 v acts.length fs
  jobs : ∀ (i : Nat) (t : WA), acts[i]? = some t → ∃ f, fs[i]? = some f ∧ JobAt w D p f t
  np : ¬ D.has p
  nv : ∀ k, v.ownBlock = some k → ¬ D.has k
theorem StepsAt.fsl {w : World} {D : Dk} {p : Nat} {v : Value} {fs : List Value} {acts : List WA} (h : StepsAt w D p v fs acts) : fs.length = acts.length := by
  have := h.own.1; omega
theorem StepsAt.on {w w' : World} {D : Dk} {p : Nat} {v : Value} {fs : List Value} {acts : List WA} (h : StepsAt w D p v fs acts) (x : Below w.heap.size w w') : StepsAt w' D p v fs acts :=
  ⟨(x.block _ (heap_lt h.row)).trans h.row, owns_on h.own x, fun i t ht => by obtain ⟨f, hf, hj⟩ := h.jobs i t ht; exact ⟨f, hf, hj.on x⟩, h.np, h.nv⟩
theorem StepsAt.mv {w w' : World} {D D' : Dk} {p : Nat} {v : Value} {fs : List Value} {acts : List WA} (h : StepsAt w D p v fs acts) (x : Mv w D w' D') : StepsAt w' D' p v fs acts := by
  have hn : ∀ {k : Nat}, k < w.heap.size → ¬ D.has k → ¬ D'.has k := fun hk hd e => (x.has _ e).elim hd (fun e => by omega)
  refine ⟨?_, owns_fr h.own x.fr h.nv, fun i t ht => by obtain ⟨f, hf, hj⟩ := h.jobs i t ht; exact ⟨f, hf, hj.mv x⟩, hn (heap_lt h.row) h.np, fun k hk => hn (owns_block h.own hk) (h.nv k hk)⟩
  rw [x.d]
  exact x.fr.heap h.row h.np
theorem StepsAt.cells {w : World} {D : Dk} {p : Nat} {v : Value} {fs : List Value} {acts : List WA} (h : StepsAt w D p v fs acts) : w.cell? ⟨p, 0, none⟩ = some (.pointer (some ⟨D.d, 0, none⟩)) ∧ w.cell? ⟨p, 1, none⟩ = some v ∧ (∀ i, w.frozen? ⟨p, i, none⟩ = false) :=
  ⟨by rw [cell_of_row _ _ _ _ _ _ h.row]; rfl, by rw [cell_of_row _ _ _ _ _ _ h.row]; rfl, fun i => frozen_of_row _ _ _ _ _ h.row⟩
/-- one step more -/
theorem StepsAt.more {w w' : World} {D : Dk} {p : Nat} {v : Value} {fs : List Value} {acts : List WA} {f : Value} {t : WA} {g cap : Nat} (h : StepsAt w D p v fs acts) (hj : JobAt w D p f t)
    (ho : w'.ownsRow 0 84 1 (.slice (some ⟨g, 0, none⟩) (acts.length + 1) cap) (acts.length + 1) (fs ++ [f])) (hf : Fr (fun k => v.ownBlock = some k) w w') (hg : v.ownBlock = some g ∨ w.heap.size ≤ g) (hlt : ∀ k, D.has k → k < w.heap.size) :
    StepsAt (w'.setCell ⟨p, 1, none⟩ (.slice (some ⟨g, 0, none⟩) (acts.length + 1) cap)) D p (.slice (some ⟨g, 0, none⟩) (acts.length + 1) cap) (fs ++ [f]) (acts ++ [t]) := by
  have hnp : ¬ v.ownBlock = some p := own_apartR h.own h.row (by decide)
  have hrow : w'.heap[p]? = some (.cells #[.pointer (some ⟨D.d, 0, none⟩), v] 172 (0, 0)) := hf.heap h.row hnp
  have hgp : g ≠ p := fun e => by
    have := own_apartR ho hrow (by decide)
    exact this (by rw [e]; rfl)
  have hset : Fr (fun k => k = p) w' (w'.setCell ⟨p, 1, none⟩ (.slice (some ⟨g, 0, none⟩) (acts.length + 1) cap)) := Fr.set
  have keep : ∀ {f t}, JobAt w D p f t → JobAt (w'.setCell ⟨p, 1, none⟩ (.slice (some ⟨g, 0, none⟩) (acts.length + 1) cap)) D p f t := fun hj => by
    refine (hj.fr hf (fun k cs ty fz hk hty _ e => ?_)).fr hset (fun k cs ty fz hk hty _ e => ?_)
    · obtain ⟨c1, h1⟩ := own_type h.own e
      rw [h1] at hk; cases hk
      rcases hty with hty | hty | hty | hty <;> exact absurd hty (by decide)
    · subst e
      rw [hrow] at hk; cases hk
      rcases hty with hty | hty | hty | hty <;> exact absurd hty (by decide)
  refine ⟨?_, ?_, fun i u hu => ?_, h.np, fun k hk => ?_⟩
  · exact heap_setCell_same _ _ _ _ _ _ hrow
  · rw [List.length_append]
    exact owns_fr ho hset (fun k hk e => by cases hk; exact hgp e)
  · by_cases hi : i < acts.length
    · rw [List.getElem?_append_left hi] at hu
      obtain ⟨f', hf', hj'⟩ := h.jobs i u hu
      exact ⟨f', by rw [List.getElem?_append_left (by rw [h.fsl]; exact hi)]; exact hf', keep hj'⟩
    · have hi2 : i = acts.length := by
        have := List.getElem?_eq_some_iff.1 hu
        obtain ⟨hl, _⟩ := this
        simp at hl; omega
      subst hi2
      rw [List.getElem?_append_right (Nat.le_refl _)] at hu
      simp at hu
      subst hu
      exact ⟨f, by rw [List.getElem?_append_right (by rw [h.fsl]; exact Nat.le_refl _), h.fsl]; simp, keep hj⟩
  · cases hk
    rcases hg with e | e
    · exact h.nv g e
    · intro hd; have : g < w.heap.size := hlt _ hd; omega
end Go.Proofs.YtflienghgobmoaaGreatDoor

namespace Go.Proofs.YtflienghgobmoaaGreatDoor
open Go.RowKit Rec

end Go.Proofs.YtflienghgobmoaaGreatDoor

namespace Go.Proofs.YtflienghgobmoaaGreatDoor
open Go.RowKit Rec

/-- a block that was read: where its bytes lie, its bytes -/
structure Rb where
  g : Nat
  c : Nat
  x : List Int
def Rb.v (q : Rb) : Value := .slice (some ⟨q.g, 0, none⟩) 512 q.c
/-- blocks that were read, from one on -/
structure ReadAt (w0 w : World) (F : List Int) (f k : Nat) (v : Value) (L : List Rb) : Prop where
  row : w.ownsRow 0 22 1 v k (L.map Rb.v)
  len : L.length = k
  at_ : ∀ (i : Nat) (q : Rb), L[i]? = some q → q.x = bck F (f + i) ∧ OwnB w q.g q.c q.x ∧ w0.heap.size ≤ q.g
  far : ∀ b, v.ownBlock = some b → w0.heap.size ≤ b
  bel : Below w0.heap.size w0 w
theorem ReadAt.on {w0 w w' : World} {F : List Int} {f k : Nat} {v : Value} {L : List Rb} (h : ReadAt w0 w F f k v L) (hb : Below w.heap.size w w') : ReadAt w0 w' F f k v L :=
  ⟨owns_on h.row hb, h.len, fun i q hq => ⟨(h.at_ i q hq).1, (h.at_ i q hq).2.1.on hb, (h.at_ i q hq).2.2⟩, h.far, h.bel.trans (hb.mono h.bel.size)⟩
theorem ReadAt.from {w0 w1 w : World} {F : List Int} {f k : Nat} {v : Value} {L : List Rb} (h : ReadAt w1 w F f k v L) (hb : Below w0.heap.size w0 w1) : ReadAt w0 w F f k v L :=
  ⟨h.row, h.len, fun i q hq => ⟨(h.at_ i q hq).1, (h.at_ i q hq).2.1, Nat.le_trans hb.size (h.at_ i q hq).2.2⟩, fun b hk => Nat.le_trans hb.size (h.far b hk), hb.trans (h.bel.mono hb.size)⟩
theorem ReadAt.start {w0 : World} {F : List Int} {f : Nat} : ReadAt w0 w0 F f 0 (.slice none 0 0) [] :=
  ⟨⟨rfl, .inl ⟨rfl, rfl⟩⟩, rfl, (fun i q h => by simp at h), (fun b h => by cases h), Below.refl _ _⟩
theorem ReadAt.next {w0 wr w1 w' : World} {F : List Int} {f k g g2 c c2 : Nat} {v : Value} {L : List Rb} (h : ReadAt w0 wr F f k v L) (hb : Below wr.heap.size wr w1) (hg : wr.heap.size ≤ g) (ho : OwnB w1 g c (bck F (f + k)))
    (h1 : w'.ownsRow 0 22 1 (.slice (some ⟨g2, 0, none⟩) (k + 1) c2) (k + 1) (L.map Rb.v ++ [.slice (some ⟨g, 0, none⟩) 512 c])) (h2 : Fr (fun b => v.ownBlock = some b) w1 w') (h3 : v.ownBlock = some g2 ∨ w1.heap.size ≤ g2) :
    ReadAt w0 w' F f (k + 1) (.slice (some ⟨g2, 0, none⟩) (k + 1) c2) (L ++ [⟨g, c, bck F (f + k)⟩]) := by
  have hA := h.on hb
  have hs : w0.heap.size ≤ wr.heap.size := h.bel.size
  have hs1 : wr.heap.size ≤ w1.heap.size := hb.size
  refine ⟨by rw [List.map_append]; exact h1, by rw [List.length_append, h.len]; rfl, fun i q hq => ?_, fun b hk => ?_, hA.bel.trans (h2.below _ h.far hA.bel.size)⟩
  · by_cases hi : i < L.length
    · rw [List.getElem?_append_left hi] at hq
      obtain ⟨a1, a2, a3⟩ := hA.at_ i q hq
      exact ⟨a1, a2.fr h2 (own_apartB hA.row a2 (by decide)), a3⟩
    · have hi2 : i = L.length := by
        have := (List.getElem?_eq_some_iff.1 hq).1
        simp at this; omega
      subst hi2
      simp at hq
      subst hq
      rw [h.len]
      exact ⟨rfl, ho.fr h2 (own_apartB hA.row ho (by decide)), by show w0.heap.size ≤ g; omega⟩
  · cases hk
    rcases h3 with e | e
    · exact h.far _ e
    · exact Nat.le_trans (Nat.le_trans hs hs1) e
end Go.Proofs.YtflienghgobmoaaGreatDoor

namespace Go.Proofs.YtflienghgobmoaaGreatDoor
open Go.RowKit Rec

theorem row_logD (F : List Int) (k i : Nat) (hi : i < k) : row (logD F k) i = bck F (2 + i) := by
  simp [row, logD, List.getD, hi]
theorem AD.full_length (a : AD) : a.full.length = a.las.length := by rw [AD.full_fw, fw_length]
theorem Disk.full_length {w : World} {D : Dk} (h : Disk w D) : D.full.length = 512 * D.nb := by
  rw [abs_full, AD.full_length]; exact h.lasl
/-- the data that were read, as blocks of a header -/
theorem ReadAt.data {w0 w : World} {F : List Int} {k nb : Nat} {v : Value} {L : List Rb} (h : ReadAt w0 w F 2 k v L) (hl : F.length = 512 * nb) (hn : 98 ≤ nb) (hk : k ≤ 96) (h0 : 0 < k) : ∃ g c, v = .slice (some ⟨g, 0, none⟩) k c ∧ Data w (some ⟨g, 0, none⟩) (logD F k) ∧ w0.heap.size ≤ g := by
  obtain ⟨g, c, rfl⟩ := own_some h.row h0
  refine ⟨g, c, rfl, ⟨by rw [logD_length]; omega, .inr ⟨g, 0, rfl, fun i hi => ?_⟩⟩, h.far g rfl⟩
  rw [logD_length] at hi
  have hi' : i < L.length := by rw [h.len]; exact hi
  obtain ⟨q, hq⟩ : ∃ q, L[i]? = some q := ⟨L[i], List.getElem?_eq_getElem hi'⟩
  obtain ⟨e, ho, _⟩ := h.at_ i q hq
  have hc := h.row.cells (g := g) rfl i q.v (by simp [hq])
  rw [Addr.add_lit] at hc
  refine ⟨some ⟨q.g, 0, none⟩, q.c, ?_, ?_, fun e => by cases e⟩
  · rw [row_logD F k i hi, bck_length F _ nb hl (by omega)]; exact hc
  · rw [row_logD F k i hi, ← e]; exact ho.bytes
/-- the log's numbers and data -/
structure LogAt (w0 w : World) (F : List Int) (nb : Nat) (v1 v2 : Value) (L : List Rb) : Prop where
  nums : NumsAt w0 w v1 (logN F nb)
  data : ReadAt w0 w F 2 (logN F nb).length v2 L
  bel : Below w0.heap.size w0 w
theorem NumsAt.on {w0 w w' : World} {v : Value} {l : List Int} (h : NumsAt w0 w v l) (hb : Below w.heap.size w w') : NumsAt w0 w' v l := by
  rcases h with h | ⟨g, cap, e, ho, hg⟩
  · exact .inl h
  · exact .inr ⟨g, cap, e, ho.on hb, hg⟩
theorem NumsAt.from {w0 w1 w : World} {v : Value} {l : List Int} (h : NumsAt w1 w v l) (hb : Below w0.heap.size w0 w1) : NumsAt w0 w v l := by
  rcases h with h | ⟨g, cap, e, ho, hg⟩
  · exact .inl h
  · exact .inr ⟨g, cap, e, ho, Nat.le_trans hb.size hg⟩
theorem NumsAt.form {w0 w : World} {v : Value} {l : List Int} (h : NumsAt w0 w v l) : ∃ a c, v = .slice a l.length c := by
  rcases h with ⟨rfl, rfl⟩ | ⟨g, cap, rfl, _⟩
  · exact ⟨none, 0, rfl⟩
  · exact ⟨_, _, rfl⟩
section
variable (w : World) (D : Dk) (h : Disk w D) (hT : TabAt w)
end
end Go.Proofs.YtflienghgobmoaaGreatDoor

namespace Go.Proofs.YtflienghgobmoaaGreatDoor
open Go.RowKit Rec

end Go.Proofs.YtflienghgobmoaaGreatDoor

namespace Go.Proofs.YtflienghgobmoaaGreatDoor
open Go.RowKit Rec

end Go.Proofs.YtflienghgobmoaaGreatDoor

namespace Go.Proofs.YtflienghgobmoaaGreatDoor
open Go.RowKit Rec

end Go.Proofs.YtflienghgobmoaaGreatDoor

namespace Go.Proofs.YtflienghgobmoaaGreatDoor
open Go.RowKit Rec

theorem ReadAt.cell {w0 w : World} {F : List Int} {f k g c : Nat} {L : List Rb} (h : ReadAt w0 w F f k (.slice (some ⟨g, 0, none⟩) k c) L) (i : Nat) (q : Rb) (hq : L[i]? = some q) : w.cell? ⟨g, i, none⟩ = some (.slice (some ⟨q.g, 0, none⟩) 512 q.c) := by
  have hc := h.row.cells (g := g) rfl i q.v (by simp [hq])
  rw [Addr.add_lit] at hc
  rw [Nat.zero_add] at hc
  exact hc
end Go.Proofs.YtflienghgobmoaaGreatDoor

namespace Go.Proofs.YtflienghgobmoaaGreatDoor
open Go.RowKit Rec

end Go.Proofs.YtflienghgobmoaaGreatDoor

namespace Go.Proofs.YtflienghgobmoaaGreatDoor
open Go.RowKit Rec

theorem LogAt.on {w0 w w' : World} {F : List Int} {nb : Nat} {v1 v2 : Value} {L : List Rb} (h : LogAt w0 w F nb v1 v2 L) (hb : Below w.heap.size w w') : LogAt w0 w' F nb v1 v2 L :=
  ⟨h.nums.on hb, h.data.on hb, h.bel.trans (hb.mono h.bel.size)⟩
/-- a number and its block -/
theorem LogAt.at_ {w0 w : World} {F : List Int} {nb k : Nat} {v1 v2 : Value} {L : List Rb} (h : LogAt w0 w F nb v1 v2 L) (hk : (logN F nb).length = k) (h0 : 0 < k) :
    ∃ gn cn gd cd, v1 = .slice (some ⟨gn, 0, none⟩) k cn ∧ v2 = .slice (some ⟨gd, 0, none⟩) k cd ∧ w0.heap.size ≤ gn ∧ w0.heap.size ≤ gd ∧ ∀ i, i < k → w.cell? ⟨gn, i, none⟩ = some (.int .i64 (nth (logN F nb) i)) ∧ ∃ g c, w.cell? ⟨gd, i, none⟩ = some (.slice (some ⟨g, 0, none⟩) 512 c) ∧ OwnB w g c (bck F (2 + i)) ∧ w0.heap.size ≤ g := by
  have hd := h.data
  rw [hk] at hd
  obtain ⟨gd, cd, rfl⟩ := own_some hd.row h0
  rcases h.nums with ⟨e, _⟩ | ⟨gn, cn, e, ho, hg⟩
  · rw [e] at hk; simp at hk; omega
  · rw [hk] at e
    refine ⟨gn, cn, gd, cd, e, rfl, hg, hd.far gd rfl, fun i hi => ⟨ho.cell i (by rw [hk]; exact hi), ?_⟩⟩
    obtain ⟨q, hq⟩ : ∃ q, L[i]? = some q := ⟨L[i]'(by rw [hd.len]; exact hi), List.getElem?_eq_getElem _⟩
    obtain ⟨e1, e2, e3⟩ := hd.at_ i q hq
    rw [e1] at e2
    exact ⟨q.g, q.c, hd.cell i q hq, e2, e3⟩
end Go.Proofs.YtflienghgobmoaaGreatDoor

namespace Go.Proofs.YtflienghgobmoaaGreatDoor
open Go.RowKit Rec

theorem logN_nat (F : List Int) (nb j : Nat) (hj : j < (logN F nb).length) : ∃ m : Nat, nth (logN F nb) j = (m : Int) ∧ 98 ≤ m ∧ m < nb := by
  have hne : logN F nb ≠ [] := fun e => by rw [e] at hj; simp at hj
  have := pre_bd _ _ (numsL_ok _ _ hne).1 j hj
  refine ⟨(nth (logN F nb) j).toNat, ?_, ?_, ?_⟩
  · have : 0 ≤ nth (logN F nb) j := by have h := this; unfold logN; omega
    omega
  · have h := this; unfold logN; omega
  · have h := this; unfold logN; omega
end Go.Proofs.YtflienghgobmoaaGreatDoor

namespace Go.Proofs.YtflienghgobmoaaGreatDoor
open Go.RowKit Rec

theorem alloc_size (w : World) (o : Obj) : (w.alloc o).heap.size = w.heap.size + 1 := Array.size_push _
end Go.Proofs.YtflienghgobmoaaGreatDoor
