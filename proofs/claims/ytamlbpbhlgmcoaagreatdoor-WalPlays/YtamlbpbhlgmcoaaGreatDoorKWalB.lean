import Derived.Test.YtamlbpbhlgmcoaaGreatDoorKAAbs
import Derived.Test.YtamlbpbhlgmcoaaGreatDoorKMade
namespace Go.Proofs.YtamlbpbhlgmcoaaGreatDoor
open Go.RowKit Rec

/-- the log's numbers and data, and what is wrong with it -/
def logN (F : List Int) (nb : Nat) : List Int := numsL (bck F 1) nb
def logD (F : List Int) (k : Nat) : List (List Int) := (List.range k).map fun i => bck F (2 + i)
def logE (F : List Int) (nb : Nat) : Int := if nb < 98 then 31 else if numsE (bck F 1) nb = 0 then (if logN F nb = [] ∨ good (bck F 1) nb (logD F (logN F nb).length) = true then 0 else 41) else numsE (bck F 1) nb
def homes (ns : List Int) (ds : List (List Int)) : List (Nat × List Int) := List.zipWith (fun n d => (n.toNat, d)) ns ds
def logH (F : List Int) (nb : Nat) : List (Nat × List Int) := homes (logN F nb) (logD F (logN F nb).length)
def behind (F : List Int) (nb : Nat) : List Int := wr (fw F (logH F nb)) 1 zs
def homeA (Q : List (Nat × List Int)) : List WA := Q.map some ++ [none, some (1, zs), none]
def logW (ds : List (List Int)) : List (Nat × List Int) := (List.range ds.length).map fun i => (2 + i, row ds i)
def commitA (ns : List Int) (ds : List (List Int)) : List WA := (logW ds).map some ++ (none :: some (1, made ns ds) :: none :: homeA (homes ns ds))

theorem may_lt (ns : List Int) (n : Int) (h : may ns n = true) (i j : Nat) (hij : i < j) (hj : j < ns.length) : nth ns i < nth ns j := by
  have hm := of_decide_eq_true h
  induction j with
  | zero => omega
  | succ j ih =>
    have h1 := (hm (j + 1) hj).1
    have e : pre ns (j + 1) = nth ns j := by simp [pre]
    rw [e] at h1
    by_cases c : i = j
    · rw [c]; exact h1
    · have := ih (by omega) (by omega); omega
structure HomeOk (nb : Nat) (Q : List (Nat × List Int)) : Prop where
  once : Once1 Q
  len : ∀ p ∈ Q, p.2.length = 512
  lo : ∀ p ∈ Q, 98 ≤ p.1
  hi : ∀ p ∈ Q, p.1 < nb
theorem HomeOk.sub {nb : Nat} {Q R : List (Nat × List Int)} (h : HomeOk nb Q) (s : R.Sublist Q) : HomeOk nb R :=
  ⟨List.Pairwise.sublist s h.once, fun p hp => h.len p (s.subset hp), fun p hp => h.lo p (s.subset hp), fun p hp => h.hi p (s.subset hp)⟩
theorem homes_length (ns : List Int) (ds : List (List Int)) (h : ds.length = ns.length) : (homes ns ds).length = ns.length := by simp [homes, h]
theorem homes_get (ns : List Int) (ds : List (List Int)) (i : Nat) (hi : i < (homes ns ds).length) : (homes ns ds)[i] = ((nth ns i).toNat, row ds i) := by
  have h1 : i < ns.length := by simp [homes] at hi; omega
  have h2 : i < ds.length := by simp [homes] at hi; omega
  simp [homes, nth, row, List.getD, h1, h2]
theorem homes_ok (ns : List Int) (ds : List (List Int)) (nb : Nat) (hm : may ns nb = true) (hd : ∀ b ∈ ds, b.length = 512) : HomeOk nb (homes ns ds) := by
  have hb := pre_bd ns nb hm
  have key : ∀ p ∈ homes ns ds, ∃ i, i < ns.length ∧ i < ds.length ∧ p = ((nth ns i).toNat, row ds i) := by
    intro p hp
    obtain ⟨i, hi, rfl⟩ := List.getElem_of_mem hp
    have h1 : i < ns.length := by simp [homes] at hi; omega
    have h2 : i < ds.length := by simp [homes] at hi; omega
    exact ⟨i, h1, h2, homes_get ns ds i hi⟩
  refine ⟨?_, ?_, ?_, ?_⟩
  · refine List.pairwise_iff_getElem.2 fun i j hi hj hij => ?_
    rw [homes_get _ _ _ hi, homes_get _ _ _ hj]
    have h2 : j < ns.length := by simp [homes] at hj; omega
    have := may_lt ns nb hm i j hij h2
    have b1 := hb i (by omega)
    have b2 := hb j h2
    show (nth ns i).toNat ≠ (nth ns j).toNat
    omega
  · intro p hp
    obtain ⟨i, h1, h2, rfl⟩ := key p hp
    refine hd _ ?_
    show row ds i ∈ ds
    simp [row, List.getD, h2]
  · intro p hp
    obtain ⟨i, h1, h2, rfl⟩ := key p hp
    have := hb i h1
    show 98 ≤ (nth ns i).toNat
    omega
  · intro p hp
    obtain ⟨i, h1, h2, rfl⟩ := key p hp
    have := hb i h1
    show (nth ns i).toNat < nb
    omega
theorem numsL_ok (h : List Int) (n : Int) (hn : numsL h n ≠ []) : may (numsL h n) n = true ∧ 1 ≤ (numsL h n).length ∧ (numsL h n).length ≤ 96 := by
  unfold numsL at hn ⊢
  by_cases c : h.length = 512 ∧ zr h 0 512 = false ∧ isH h n = true
  · rw [if_pos c]
    have e := c.2.2
    simp only [isH, form, Bool.and_eq_true, decide_eq_true_eq] at e
    refine ⟨e.1.2, ?_, ?_⟩
    · simpa [nsOf] using e.1.1.2.1
    · simpa [nsOf] using e.1.1.2.2
  · rw [if_neg c] at hn; exact absurd rfl hn
theorem logN_len (F : List Int) (nb : Nat) : (logN F nb).length ≤ 96 := by
  by_cases c : logN F nb = []
  · rw [c]; exact Nat.zero_le _
  · exact (numsL_ok _ _ c).2.2
theorem logD_length (F : List Int) (k : Nat) : (logD F k).length = k := by simp [logD]
theorem logD_len (F : List Int) (k nb : Nat) (hl : F.length = 512 * nb) (hk : k ≤ 96) (hn : 98 ≤ nb) : ∀ b ∈ logD F k, b.length = 512 := by
  intro b hb
  simp only [logD, List.mem_map, List.mem_range] at hb
  obtain ⟨i, hi, rfl⟩ := hb
  exact bck_length _ _ nb hl (by omega)
theorem logH_ok (F : List Int) (nb : Nat) (hl : F.length = 512 * nb) (hn : 98 ≤ nb) : HomeOk nb (logH F nb) := by
  by_cases c : logN F nb = []
  · unfold logH; rw [c]; exact ⟨List.Pairwise.nil, nofun, nofun, nofun⟩
  · exact homes_ok _ _ _ (numsL_ok _ _ c).1 (logD_len F _ nb hl (logN_len F nb) hn)
theorem same_log {F G : List Int} {nb : Nat} (h : ∀ b, 1 ≤ b → b < 98 → bck F b = bck G b) : logN F nb = logN G nb ∧ logH F nb = logH G nb ∧ logE F nb = logE G nb := by
  have e1 : bck F 1 = bck G 1 := h 1 (by omega) (by omega)
  have e2 : logN F nb = logN G nb := by unfold logN; rw [e1]
  have e3 : logD F (logN F nb).length = logD G (logN G nb).length := by
    rw [e2]
    unfold logD
    refine List.map_congr_left fun i hi => ?_
    have := logN_len G nb
    rw [List.mem_range] at hi
    exact h _ (by omega) (by omega)
  refine ⟨e2, ?_, ?_⟩
  · unfold logH; rw [e3, e2]
  · unfold logE; rw [e3, e2, e1]
theorem fw_low {F : List Int} {nb : Nat} {Q : List (Nat × List Int)} (hl : F.length = 512 * nb) (hQ : HomeOk nb Q) (b : Nat) (hb : b < 98) (hn : 98 ≤ nb) : bck (fw F Q) b = bck F b :=
  bck_fw_out F Q b nb hl hQ.len (by omega) (fun p hp e => by have := hQ.lo p hp; omega)
theorem behind_length (F : List Int) (nb : Nat) : (behind F nb).length = F.length := by rw [behind, wr_length, fw_length]
theorem bck_behind (F : List Int) (nb b : Nat) (hl : F.length = 512 * nb) (hb : b < nb) : bck (behind F nb) b = if b = 1 then zs else bck (fw F (logH F nb)) b := by
  rw [behind, bck_wr _ _ _ _ nb (by rw [fw_length, hl]) zs_length hb]
/-- some of what the log holds is in its place already: nothing of what is behind the log has changed -/
theorem behind_home {F : List Int} {nb : Nat} {Q : List (Nat × List Int)} (hl : F.length = 512 * nb) (hn : 98 ≤ nb) (s : Q.Sublist (logH F nb)) :
    logE (fw F Q) nb = logE F nb ∧ logH (fw F Q) nb = logH F nb ∧ logN (fw F Q) nb = logN F nb ∧ behind (fw F Q) nb = behind F nb := by
  have hH := logH_ok F nb hl hn
  have hQ := hH.sub s
  obtain ⟨e1, e2, e3⟩ := same_log (F := fw F Q) (G := F) (nb := nb) (fun b h1 h2 => fw_low hl hQ b h2 hn)
  refine ⟨e3, e2, e1, ?_⟩
  refine ext_bck nb (by rw [behind_length, fw_length, hl]) (by rw [behind_length, hl]) fun b hb => ?_
  rw [bck_behind _ _ _ (by rw [fw_length, hl]) hb, bck_behind _ _ _ hl hb, e2]
  split
  · rfl
  · by_cases c : ∃ p ∈ logH F nb, p.1 = b
    · obtain ⟨p, hp, rfl⟩ := c
      rw [bck_fw_in _ _ nb (by rw [fw_length, hl]) hH.len hH.hi hH.once p hp, bck_fw_in _ _ nb hl hH.len hH.hi hH.once p hp]
    · have c' : ∀ p ∈ logH F nb, p.1 ≠ b := fun p hp e => c ⟨p, hp, e⟩
      rw [bck_fw_out _ _ _ nb (by rw [fw_length, hl]) hH.len hb c', bck_fw_out _ _ _ nb hl hQ.len hb (fun p hp => c' p (s.subset hp)), bck_fw_out _ _ _ nb hl hH.len hb c']
theorem zr_zs0 : zr zs 0 512 = true := by
  refine decide_eq_true fun i hi => ?_
  exact nth_zs _
/-- an empty log -/
theorem log_empty {F : List Int} {nb : Nat} (hn : 98 ≤ nb) (h : bck F 1 = zs) : logN F nb = [] ∧ logH F nb = [] ∧ logE F nb = 0 := by
  have e1 : logN F nb = [] := by unfold logN numsL; rw [h, if_neg (by rw [zr_zs0]; simp)]
  have e2 : numsE (bck F 1) nb = 0 := by unfold numsE; rw [h, if_pos zs_length, if_pos zr_zs0]
  exact ⟨e1, by unfold logH; rw [e1]; rfl, by unfold logE; rw [if_neg (by omega), if_pos e2, if_pos (.inl e1)]⟩
theorem behind_empty {F : List Int} {nb : Nat} (hl : F.length = 512 * nb) (hn : 98 ≤ nb) (h : bck F 1 = zs) : behind F nb = F := by
  refine ext_bck nb (by rw [behind_length, hl]) hl fun b hb => ?_
  rw [bck_behind _ _ _ hl hb, (log_empty hn h).2.1, fw_nil]
  split
  · rename_i c; rw [c, h]
  · rfl
theorem behind_one (F : List Int) (nb : Nat) (hl : F.length = 512 * nb) (hn : 98 ≤ nb) : bck (behind F nb) 1 = zs := by rw [bck_behind _ _ _ hl (by omega), if_pos rfl]
/-- the same, blocks 2 to 97 aside -/
def Like (nb : Nat) (F G : List Int) : Prop := ∀ b, b < nb → (b < 2 ∨ 98 ≤ b) → bck F b = bck G b
/-- what lasts is good, and behind its log it is as it should be -/
structure Well (nb : Nat) (want F : List Int) : Prop where
  len : F.length = 512 * nb
  ok : logE F nb = 0
  like : Like nb (behind F nb) want
theorem Well.home {nb : Nat} {want F : List Int} {Q : List (Nat × List Int)} (h : Well nb want F) (hn : 98 ≤ nb) (s : Q.Sublist (logH F nb)) : Well nb want (fw F Q) ∧ logH (fw F Q) nb = logH F nb := by
  obtain ⟨e1, e2, e3, e4⟩ := behind_home h.len hn s
  exact ⟨⟨by rw [fw_length]; exact h.len, by rw [e1]; exact h.ok, by rw [e4]; exact h.like⟩, e2⟩
theorem Well.done {nb : Nat} {want F : List Int} (h : Well nb want F) (hn : 98 ≤ nb) : Well nb want (behind F nb) := by
  have e := behind_one F nb h.len hn
  have hl : (behind F nb).length = 512 * nb := by rw [behind_length]; exact h.len
  exact ⟨hl, (log_empty hn e).2.2, by rw [behind_empty hl hn e]; exact h.like⟩
end Go.Proofs.YtamlbpbhlgmcoaaGreatDoor

namespace Go.Proofs.YtamlbpbhlgmcoaaGreatDoor
open Go.RowKit Rec

/-- rows of writes, a flush behind each -/
def grp : List (List (Nat × List Int)) → List WA
  | [] => []
  | ws :: gs => ws.map some ++ none :: grp gs
theorem commitA_grp (ns : List Int) (ds : List (List Int)) : commitA ns ds = grp [logW ds, [(1, made ns ds)], homes ns ds, [(1, zs)]] := rfl
theorem grp_length_cons (ws : List (Nat × List Int)) (gs : List (List (Nat × List Int))) : (grp (ws :: gs)).length = ws.length + 1 + (grp gs).length := by
  simp [grp]; omega
/-- what a disk is behind acts that no cut meets -/
def AD.all (a : AD) (gs : List (List (Nat × List Int))) : AD :=
  { a with las := fw a.las gs.flatten, P := [], T := a.T ++ (grp gs).map actT, wr := a.wr + gs.flatten.length, fl := a.fl + gs.length, at_ := if 0 < a.at_ then a.at_ - (grp gs).length else a.at_ }
theorem take_grp (gs : List (List (Nat × List Int))) (a : AD) (hP : a.P = []) (hd : a.down = false) (hat : a.at_ ≤ 0 ∨ ((grp gs).length : Int) < a.at_) :
    a.take (grp gs) = a.all gs ∧ a.takeE (grp gs) = 0 := by
  induction gs generalizing a with
  | nil =>
    refine ⟨?_, rfl⟩
    unfold AD.all
    cases a
    subst hP
    simp [grp, AD.take, fw_nil]
  | cons ws gs ih =>
    rw [grp_length_cons] at hat
    rw [grp]
    obtain ⟨e1, e2⟩ := take_writes a ws (none :: grp gs) hd (by omega)
    have hat2 : (a.wrs ws).at_ = if 0 < a.at_ then a.at_ - ws.length else a.at_ := rfl
    obtain ⟨e3, e4⟩ := take_flush (a.wrs ws) (grp gs) hd (by rw [hat2]; split <;> omega)
    have hat3 : (a.wrs ws).fls.at_ = if 0 < (a.wrs ws).at_ then (a.wrs ws).at_ - 1 else (a.wrs ws).at_ := rfl
    obtain ⟨e5, e6⟩ := ih (a.wrs ws).fls rfl hd (by rw [hat3, hat2]; split <;> (try split) <;> omega)
    rw [e1, e2, e3, e4, e5, e6]
    refine ⟨?_, rfl⟩
    unfold AD.all AD.fls AD.wrs
    simp only [hP, List.nil_append, AD.mk.injEq, true_and, List.flatten_cons, fw_append, List.append_assoc, List.length_append, List.length_cons, and_true]
    refine ⟨?_, by omega, by omega, ?_⟩
    · simp [grp]
    · rw [show (grp (ws :: gs)).length = _ from grp_length_cons ws gs]
      split <;> (try split) <;> (try split) <;> omega
/-- what it is if the power goes meanwhile -/
structure CutAt (a b : AD) (gs pre post : List (List (Nat × List Int))) (ws : List (Nat × List Int)) (k : Nat) : Prop where
  parts : gs = pre ++ ws :: post
  pos : a.at_ = ((grp pre).length : Int) + k
  lo : 1 ≤ k
  hi : k ≤ ws.length + 1
  las : b.las = fw a.las (pre.flatten ++ sel (kpOf a.keep) (ws.take k) (ws.take k).length)
  pen : b.P = []
  down : b.down = true
  nb : b.nb = a.nb
theorem take_grp_cut (gs : List (List (Nat × List Int))) (a : AD) (hP : a.P = []) (hd : a.down = false) (h1 : 1 ≤ a.at_) (h2 : a.at_ ≤ ((grp gs).length : Int)) :
    a.takeE (grp gs) = 30 ∧ ∃ pre ws post k, CutAt a (a.take (grp gs)) gs pre post ws k := by
  induction gs generalizing a with
  | nil => simp [grp] at h2; omega
  | cons ws gs ih =>
    rw [grp_length_cons] at h2
    rw [grp]
    by_cases c : a.at_ ≤ ws.length
    · obtain ⟨k, hk⟩ : ∃ k : Nat, a.at_ = (k : Int) + 1 := ⟨(a.at_ - 1).toNat, by omega⟩
      obtain ⟨e1, e2⟩ := take_writes_cut a ws (none :: grp gs) hd k hk (by omega)
      rw [e1, e2]
      refine ⟨rfl, [], ws, gs, k + 1, rfl, by simp [grp, hk], by omega, by omega, ?_, rfl, rfl, rfl⟩
      show fw a.las (sel _ (a.P ++ ws.take (k + 1)) (a.P ++ ws.take (k + 1)).length) = _
      rw [hP]; rfl
    · obtain ⟨e1, e2⟩ := take_writes a ws (none :: grp gs) hd (by omega)
      have hat2 : (a.wrs ws).at_ = a.at_ - ws.length := by show (if 0 < a.at_ then a.at_ - (ws.length : Int) else a.at_) = _; rw [if_pos (by omega)]
      rw [e1, e2]
      by_cases c2 : a.at_ = (ws.length : Int) + 1
      · obtain ⟨e3, e4⟩ := take_flush_cut (a.wrs ws) (grp gs) hd (by rw [hat2]; omega)
        rw [e3, e4]
        refine ⟨rfl, [], ws, gs, ws.length + 1, rfl, by simp [grp, c2], by omega, by omega, ?_, rfl, rfl, rfl⟩
        show fw a.las (sel _ (a.P ++ ws) (a.P ++ ws).length) = _
        rw [hP, List.take_of_length_le (by omega)]; rfl
      · obtain ⟨e3, e4⟩ := take_flush (a.wrs ws) (grp gs) hd (by rw [hat2]; omega)
        have hat3 : (a.wrs ws).fls.at_ = a.at_ - ws.length - 1 := by
          show (if 0 < (a.wrs ws).at_ then (a.wrs ws).at_ - 1 else (a.wrs ws).at_) = _
          rw [hat2, if_pos (by omega)]
        rw [e3, e4]
        obtain ⟨e5, pre, vs, post, k, h⟩ := ih (a.wrs ws).fls rfl hd (by rw [hat3]; omega) (by rw [hat3]; omega)
        refine ⟨e5, ws :: pre, vs, post, k, by rw [h.parts]; rfl, ?_, h.lo, h.hi, ?_, h.pen, h.down, h.nb⟩
        · have := h.pos
          rw [hat3] at this
          rw [grp_length_cons]; omega
        · rw [h.las]
          show fw (fw a.las (a.P ++ ws)) _ = _
          rw [hP, List.nil_append, ← fw_append, List.flatten_cons, List.append_assoc]; rfl
theorem sel_one (kp : Nat → Bool) (p : Nat × List Int) (k : Nat) (hk : 1 ≤ k) : sel kp ([p].take k) ([p].take k).length = if kp 0 then [p] else [] := by
  rw [List.take_of_length_le (by simp; omega)]
  simp only [List.length_cons, List.length_nil, Nat.zero_add, sel, List.nil_append]
  rfl
theorem sel_take_sub (kp : Nat → Bool) (ws : List (Nat × List Int)) (k : Nat) : (sel kp (ws.take k) (ws.take k).length).Sublist ws := by
  have := sel_sub kp (ws.take k) (ws.take k).length (Nat.le_refl _)
  rw [List.take_length] at this
  exact this.trans (List.take_sublist _ _)
end Go.Proofs.YtamlbpbhlgmcoaaGreatDoor

namespace Go.Proofs.YtamlbpbhlgmcoaaGreatDoor
open Go.RowKit Rec

/-- blocks that may be committed on a disk of nb blocks -/
structure ComOk (nb : Nat) (ns : List Int) (ds : List (List Int)) : Prop where
  n98 : 98 ≤ nb
  n16 : nb ≤ 16384
  ris : may ns nb = true
  lo : 1 ≤ ns.length
  hi : ns.length ≤ 96
  dl : ds.length = ns.length
  bl : ∀ b ∈ ds, b.length = 512
theorem logW_length (ds : List (List Int)) : (logW ds).length = ds.length := by simp [logW]
theorem logW_mem {ds : List (List Int)} {p : Nat × List Int} (hp : p ∈ logW ds) : ∃ i, i < ds.length ∧ p = (2 + i, row ds i) := by
  simp only [logW, List.mem_map, List.mem_range] at hp
  obtain ⟨i, hi, rfl⟩ := hp
  exact ⟨i, hi, rfl⟩
theorem row_mem {ds : List (List Int)} {i : Nat} (hi : i < ds.length) : row ds i ∈ ds := by simp [row, List.getD, hi]
theorem logW_once (ds : List (List Int)) : Once1 (logW ds) := by
  refine List.pairwise_iff_getElem.2 fun i j hi hj hij => ?_
  simp only [logW, List.getElem_map, List.getElem_range]
  omega
theorem ComOk.good {nb : Nat} {ns : List Int} {ds : List (List Int)} (h : ComOk nb ns ds) : numsL (made ns ds) nb = ns ∧ numsE (made ns ds) nb = 0 ∧ good (made ns ds) nb ds = true := by
  have hb : ∀ i, i < ns.length → 0 ≤ nth ns i ∧ nth ns i < 4294967296 := fun i hi => by
    have := pre_bd ns nb h.ris i hi
    have := h.n16
    omega
  have e1 : numsL (made ns ds) nb = ns := by unfold made; rw [numsL_hd ns _ _ h.lo h.hi hb, if_pos h.ris]
  have e2 : numsE (made ns ds) nb = 0 := by unfold made; rw [numsE_hd ns _ _ h.lo h.hi hb, if_pos h.ris]
  refine ⟨e1, e2, ?_⟩
  unfold Go.Proofs.YtamlbpbhlgmcoaaGreatDoor.good
  rw [e1]
  simp only [Bool.and_eq_true, decide_eq_true_eq]
  refine ⟨⟨fun e => by have := h.lo; rw [e] at this; simp at this, ?_⟩, ?_⟩
  · unfold blk
    rw [Bool.and_eq_true, decide_eq_true_eq, decide_eq_true_eq]
    exact ⟨h.dl, h.bl⟩
  · unfold made
    rw [num_sum _ _ (sumV_bd _ _)]
    exact (sumV_hd _ _ _).symm
section
variable {nb : Nat} {ns : List Int} {ds : List (List Int)} {l : List Int}
theorem logW_in (h : ComOk nb ns ds) : ∀ p ∈ logW ds, p.2.length = 512 ∧ 2 ≤ p.1 ∧ p.1 < 98 := fun p hp => by
  obtain ⟨i, hi, rfl⟩ := logW_mem hp
  have := h.dl
  have := h.hi
  exact ⟨h.bl _ (row_mem hi), by show 2 ≤ 2 + i; omega, by show 2 + i < 98; omega⟩
theorem logs_out (h : ComOk nb ns ds) (hl : l.length = 512 * nb) {Q : List (Nat × List Int)} (s : Q.Sublist (logW ds)) (b : Nat) (hb : b < nb) (hb2 : b < 2 ∨ 98 ≤ b) : bck (fw l Q) b = bck l b :=
  bck_fw_out l Q b nb hl (fun p hp => (logW_in h p (s.subset hp)).1) hb (fun p hp e => by have := logW_in h p (s.subset hp); omega)
/-- the log's data are written: nothing has changed -/
theorem well_logs (h : ComOk nb ns ds) (hl : l.length = 512 * nb) (h1 : bck l 1 = zs) {Q : List (Nat × List Int)} (s : Q.Sublist (logW ds)) : Well nb l (fw l Q) := by
  have hn := h.n98
  have e : bck (fw l Q) 1 = zs := by rw [logs_out h hl s 1 (by omega) (by omega), h1]
  have hl' : (fw l Q).length = 512 * nb := by rw [fw_length, hl]
  refine ⟨hl', (log_empty hn e).2.2, ?_⟩
  rw [behind_empty hl' hn e]
  exact fun b hb hb2 => logs_out h hl s b hb hb2
def headed (l : List Int) (ns : List Int) (ds : List (List Int)) : List Int := wr (fw l (logW ds)) 1 (made ns ds)
theorem headed_log (h : ComOk nb ns ds) (hl : l.length = 512 * nb) : (headed l ns ds).length = 512 * nb ∧ logN (headed l ns ds) nb = ns ∧ logH (headed l ns ds) nb = homes ns ds ∧ logE (headed l ns ds) nb = 0 := by
  have hn := h.n98
  have hl2 : (fw l (logW ds)).length = 512 * nb := by rw [fw_length, hl]
  have hl' : (headed l ns ds).length = 512 * nb := by rw [headed, wr_length, hl2]
  obtain ⟨g1, g2, g3⟩ := h.good
  have e1 : bck (headed l ns ds) 1 = made ns ds := by rw [headed, bck_wr _ _ _ _ nb hl2 (made_length _ _) (by omega), if_pos rfl]
  have e2 : logN (headed l ns ds) nb = ns := by unfold logN; rw [e1, g1]
  have e3 : logD (headed l ns ds) ns.length = ds := by
    refine List.ext_getElem (by rw [logD_length, h.dl]) fun i hi hj => ?_
    have hi' : i < ns.length := by rwa [logD_length] at hi
    have h96 := h.hi
    have : (logD (headed l ns ds) ns.length)[i] = bck (headed l ns ds) (2 + i) := by simp [logD]
    rw [this, headed, bck_wr _ _ _ _ nb hl2 (made_length _ _) (by omega), if_neg (by omega)]
    have hp : (2 + i, row ds i) ∈ logW ds := by
      simp only [logW, List.mem_map, List.mem_range]
      exact ⟨i, hj, rfl⟩
    rw [bck_fw_in l (logW ds) nb hl (fun p hp => (logW_in h p hp).1) (fun p hp => by have := logW_in h p hp; omega) (logW_once ds) _ hp]
    simp [row, List.getD, hj]
  refine ⟨hl', e2, by unfold logH; rw [e2, e3], ?_⟩
  unfold logE
  rw [e2, e3, e1, if_neg (by omega), if_pos g2, if_pos (.inr g3)]
theorem homes_okC (h : ComOk nb ns ds) : HomeOk nb (homes ns ds) := homes_ok ns ds nb h.ris h.bl
theorem well_headed (h : ComOk nb ns ds) (hl : l.length = 512 * nb) (h1 : bck l 1 = zs) : Well nb (fw l (homes ns ds)) (headed l ns ds) := by
  have hn := h.n98
  obtain ⟨hl', _, eH, eE⟩ := headed_log h hl
  have hH := homes_okC h
  refine ⟨hl', eE, fun b hb hb2 => ?_⟩
  rw [bck_behind _ _ _ hl' hb, eH]
  by_cases c : b = 1
  · rw [if_pos c, c, fw_low hl hH 1 (by omega) hn, h1]
  · rw [if_neg c]
    by_cases c2 : ∃ p ∈ homes ns ds, p.1 = b
    · obtain ⟨p, hp, rfl⟩ := c2
      rw [bck_fw_in _ _ nb hl' hH.len hH.hi hH.once p hp, bck_fw_in _ _ nb hl hH.len hH.hi hH.once p hp]
    · have c' : ∀ p ∈ homes ns ds, p.1 ≠ b := fun p hp e => c2 ⟨p, hp, e⟩
      rw [bck_fw_out _ _ _ nb hl' hH.len hb c', bck_fw_out _ _ _ nb hl hH.len hb c', headed, bck_wr _ _ _ _ nb (by rw [fw_length, hl]) (made_length _ _) hb, if_neg c]
      exact logs_out h hl (List.Sublist.refl _) b hb hb2
end
theorem flt2 {α : Type} (a b : List α) : [a, b].flatten = a ++ b := by simp
theorem flt3 {α : Type} (a b c : List α) : [a, b, c].flatten = a ++ (b ++ c) := by simp
theorem flt4 {α : Type} (a b c d : List α) : [a, b, c, d].flatten = a ++ (b ++ (c ++ d)) := by simp
theorem fw_one (l : List Int) (n : Nat) (x : List Int) : fw l [(n, x)] = wr l n x := rfl
/-- a commit, cut or not -/
theorem take_commit (a : AD) (nb : Nat) (ns : List Int) (ds : List (List Int)) (h : ComOk nb ns ds) (hl : a.las.length = 512 * nb) (h1 : bck a.las 1 = zs) (hP : a.P = []) (hd : a.down = false) :
    (¬ (1 ≤ a.at_ ∧ a.at_ ≤ 2 * (ns.length : Int) + 6) → a.take (commitA ns ds) = a.all [logW ds, [(1, made ns ds)], homes ns ds, [(1, zs)]] ∧ a.takeE (commitA ns ds) = 0 ∧ (a.take (commitA ns ds)).las = behind (headed a.las ns ds) nb ∧ Well nb (fw a.las (homes ns ds)) (a.take (commitA ns ds)).las) ∧
    ((1 ≤ a.at_ ∧ a.at_ ≤ 2 * (ns.length : Int) + 6) → a.takeE (commitA ns ds) = 30 ∧ (a.take (commitA ns ds)).down = true ∧ (a.take (commitA ns ds)).P = [] ∧ (a.take (commitA ns ds)).nb = a.nb ∧
      Well nb (if a.at_ < (ns.length : Int) + 2 ∨ a.at_ < (ns.length : Int) + 4 ∧ kpOf a.keep 0 = false then a.las else fw a.las (homes ns ds)) (a.take (commitA ns ds)).las) := by
  have hn := h.n98
  rw [commitA_grp]
  have hlen : (grp [logW ds, [(1, made ns ds)], homes ns ds, [(1, zs)]]).length = 2 * ns.length + 6 := by
    rw [grp_length_cons, grp_length_cons, grp_length_cons, grp_length_cons, logW_length, homes_length ns ds h.dl, h.dl]
    simp only [grp, List.length_cons, List.length_nil]
    omega
  have hW := well_headed h hl h1
  obtain ⟨hl', _, eH, _⟩ := headed_log h hl
  have hB : behind (headed a.las ns ds) nb = fw (fw (headed a.las ns ds) (homes ns ds)) [(1, zs)] := by unfold behind; rw [eH, fw_one]
  constructor
  · intro c
    obtain ⟨e1, e2⟩ := take_grp [logW ds, [(1, made ns ds)], homes ns ds, [(1, zs)]] a hP hd (by rw [hlen]; omega)
    have e3 : (a.all [logW ds, [(1, made ns ds)], homes ns ds, [(1, zs)]]).las = behind (headed a.las ns ds) nb := by
      rw [hB]
      show fw a.las ([logW ds, [(1, made ns ds)], homes ns ds, [(1, zs)]].flatten) = _
      rw [flt4, fw_append, fw_append, fw_append, fw_one _ _ (made ns ds), headed]
    rw [e1, e2, e3]
    exact ⟨rfl, rfl, rfl, hW.done hn⟩
  · intro c
    obtain ⟨e1, pre, ws, post, k, q⟩ := take_grp_cut [logW ds, [(1, made ns ds)], homes ns ds, [(1, zs)]] a hP hd c.1 (by rw [hlen]; omega)
    refine ⟨e1, q.down, q.pen, q.nb, ?_⟩
    rw [q.las]
    have hp := q.parts
    have pos := q.pos
    have hk1 := q.lo
    have hk2 := q.hi
    match pre, hp, pos with
    | [], hp, pos =>
      simp only [List.nil_append, List.cons.injEq] at hp
      obtain ⟨rfl, _⟩ := hp
      rw [logW_length, h.dl] at hk2
      simp only [grp, List.length_nil] at pos
      rw [if_pos (.inl (by omega))]
      exact well_logs h hl h1 (sel_take_sub _ _ k)
    | [x], hp, pos =>
      simp only [List.cons_append, List.nil_append, List.cons.injEq] at hp
      obtain ⟨rfl, rfl, _⟩ := hp
      rw [grp_length_cons, logW_length, h.dl] at pos
      simp only [grp, List.length_nil, List.length_cons] at pos hk2
      rw [sel_one _ _ _ q.lo, fw_append]
      simp only [List.flatten_cons, List.flatten_nil, List.append_nil]
      cases hc : kpOf a.keep 0 with
      | true =>
        rw [if_neg (by rintro (c | c); omega; cases c.2), if_pos rfl, fw_one]
        exact hW
      | false =>
        rw [if_pos (.inr ⟨by omega, rfl⟩), if_neg (by decide)]
        exact well_logs h hl h1 (List.Sublist.refl _)
    | [x, y], hp, pos =>
      simp only [List.cons_append, List.nil_append, List.cons.injEq] at hp
      obtain ⟨rfl, rfl, rfl, _⟩ := hp
      rw [grp_length_cons, grp_length_cons, logW_length, h.dl] at pos
      simp only [grp, List.length_nil, List.length_cons] at pos
      rw [if_neg (by omega)]
      have := (hW.home hn (Q := sel (kpOf a.keep) ((homes ns ds).take k) ((homes ns ds).take k).length) (by rw [eH]; exact sel_take_sub _ _ k)).1
      rw [headed] at this
      rw [flt2, fw_append, fw_append, fw_one]
      exact this
    | [x, y, z], hp, pos =>
      simp only [List.cons_append, List.nil_append, List.cons.injEq] at hp
      obtain ⟨rfl, rfl, rfl, rfl, _⟩ := hp
      rw [grp_length_cons, grp_length_cons, logW_length, h.dl] at pos
      simp only [List.length_cons, List.length_nil] at pos
      rw [if_neg (by omega), sel_one _ _ _ q.lo]
      rw [flt3, fw_append, fw_append, fw_append, fw_one, ← headed]
      split
      · rw [← hB]; exact hW.done hn
      · exact (hW.home hn (by rw [eH]; exact List.Sublist.refl _)).1
    | x :: y :: z :: u :: v, hp, pos =>
      simp only [List.cons_append, List.cons.injEq] at hp
      exact absurd hp.2.2.2.2 (by simp)
end Go.Proofs.YtamlbpbhlgmcoaaGreatDoor

namespace Go.Proofs.YtamlbpbhlgmcoaaGreatDoor
open Go.RowKit Rec

theorem own_apartR {w : World} {B e size n p : Nat} {v : Value} {xs : List Value} {cs : Array Value} {t : Nat} {f : Nat × Nat} (h : w.ownsRow B e size v n xs) (h' : w.heap[p]? = some (.cells cs t f)) (hne : e ≠ t) : ¬ v.ownBlock = some p := by
  intro hk
  obtain ⟨c1, h1⟩ := own_type h hk
  rw [h1] at h'
  cases h'
  exact hne rfl
end Go.Proofs.YtamlbpbhlgmcoaaGreatDoor
