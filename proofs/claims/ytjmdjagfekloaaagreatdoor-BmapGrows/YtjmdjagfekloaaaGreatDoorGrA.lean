import Derived.Test.YtjmdjagfekloaaaGreatDoorLwA
import Derived.Test.YtjmdjagfekloaaaGreatDoorGrM
namespace Go.Proofs.YtjmdjagfekloaaaGreatDoor
open Go.RowKit Go.Maps Rec

theorem szI : (Tryz.prog.info? 35).map (·.size) = some 15 := by kernel_rfl
theorem oneC (y : Nat → Int) : (#[.int .i64 (y 0), .int .i64 (y 1), .int .i64 (y 2), .int .i64 (y 3), .int .i64 (y 4), .int .i64 (y 5), .int .i64 (y 6), .int .i64 (y 7), .int .i64 (y 8), .int .i64 (y 9), .int .i64 (y 10), .int .i64 (y 11), .int .i64 (y 12), .int .i64 (y 13), .int .i64 (y 14)] : Array Value).all (·.oneCell') = true := by simp [Value.oneCell']
theorem row_fr (w : World) (g : Nat) (cs : Array Value) : Fr (fun k => k = g) w (w.setRow g cs) := ⟨rfl, rfl, rfl, by simp, fun k _ h => setRow_other w g k cs h⟩
theorem lk_no (w : World) {ops : Array Oper} {rest : List Oper} {o : Oper} {a : Act} {Q : Exit → Act → World → Prop} (hg : o.guard = none) (m x : Operand) (hop : o.op = Op.lookup 36 m x true) (b : Nat) (ks : List (Int × Int)) (z : Int) (hm : a.eval m = .map (some b)) (h : MpAt w b ks) (hz : z ∉ ks.map Prod.fst) (hwf : (kI z).wf = true) (hx : a.eval x = .int .i64 z)
    (hK : wpList Tryz.prog ops Q rest (a.put o.dst (.tuple #[.int .i64 0, .bool false])) w) : wpList Tryz.prog ops Q (o :: rest) a w := by
  obtain ⟨D, h1, h2⟩ := h
  refine wpList_lookup_own_ok_int w hg m x 36 hop 3 3 .i64 lawI Tryz.underlying36 Tryz.underlying3 (zeroI _) b _ D hm h1 _ _ hx (keyOf_int_mk Tryz.underlying3 hwf) ?_
  intro c hat _
  have e := h2.at0 hz hat
  subst e
  have e2 : Maps.has D (Lit.int .i64 z) = false := by rw [show Lit.int .i64 z = kI z from rfl, h2.has]; exact decide_eq_false hz
  rw [e2]
  exact hK
theorem fil_len : ∀ (ks : List (Int × Int)) (z : Int), (ks.map Prod.fst).Nodup → (ks.filter fun q => decide (q.1 ≠ z)).length + (if z ∈ ks.map Prod.fst then 1 else 0) = ks.length
  | [], z, _ => by simp
  | q :: ks, z, h => by
    rw [List.map_cons] at h
    have h2 := List.nodup_cons.1 h
    have ih := fil_len ks z h2.2
    by_cases e : q.1 = z
    · have hn : z ∉ ks.map Prod.fst := by rw [← e]; exact h2.1
      rw [if_neg hn] at ih
      rw [List.filter_cons_of_neg (by simp [e]), List.map_cons, if_pos (by rw [e]; exact List.mem_cons_self), List.length_cons]
      omega
    · rw [List.filter_cons_of_pos (by simp [e]), List.length_cons, List.length_cons]
      by_cases hz : z ∈ ks.map Prod.fst
      · rw [if_pos hz] at ih
        rw [List.map_cons, if_pos (List.mem_cons_of_mem _ hz)]
        omega
      · rw [if_neg hz] at ih
        rw [List.map_cons, if_neg (fun hm => (List.mem_cons.1 hm).elim (fun e2 => e e2.symm) hz)]
        omega
theorem MpL.del {D : DataW Unit} {ks : List (Int × Int)} (h : MpL D ks) (z : Int) : MpL (D.del (kI z)) (ks.filter fun q => decide (q.1 ≠ z)) := by
  have hm : ∀ y u, (y, u) ∈ (ks.filter fun q => decide (q.1 ≠ z)) ↔ (y, u) ∈ ks ∧ y ≠ z := fun y u => by rw [List.mem_filter]; simp
  have hk : ∀ y, y ∈ (ks.filter fun q => decide (q.1 ≠ z)).map Prod.fst ↔ y ∈ ks.map Prod.fst ∧ y ≠ z := fun y => by
    rw [List.mem_map, List.mem_map]
    constructor
    · rintro ⟨⟨y', u⟩, h1, rfl⟩
      exact ⟨⟨_, ((hm y' u).1 h1).1, rfl⟩, ((hm y' u).1 h1).2⟩
    · rintro ⟨⟨⟨y', u⟩, h1, rfl⟩, h2⟩
      exact ⟨_, (hm y' u).2 ⟨h1, h2⟩, rfl⟩
  refine ⟨h.tidy.del _, fun y => ?_, fun y u hy d => ?_, List.Nodup.sublist (List.Sublist.map _ List.filter_sublist) h.nd, ?_⟩
  · by_cases e : y = z
    · subst e
      rw [has_del_same]
      exact (decide_eq_false (fun hx => ((hk y).1 hx).2 rfl)).symm
    · rw [has_del_other (kI_ne e), h.has]
      exact decide_eq_decide.2 ⟨fun a => (hk y).2 ⟨a, e⟩, fun a => ((hk y).1 a).1⟩
  · obtain ⟨h1, h2⟩ := (hm y u).1 hy
    rw [atKey_del_other (kI_ne h2), h.at_ y u h1]
  · have h1 := size_del (k := kI z) h.tidy
    have h2 := fil_len ks z h.nd
    rw [h.has, h.size] at h1
    by_cases e : z ∈ ks.map Prod.fst
    · rw [decide_eq_true e] at h1; rw [if_pos e] at h2; simp at h1; omega
    · rw [decide_eq_false e] at h1; rw [if_neg e] at h2; simp at h1; omega
/-- what a cut has left of the map so far -/
def DlI (ks ks' : List (Int × Int)) (left : Lit → Bool) (c : Int) : Prop := ∀ z v, (z, v) ∈ ks' ↔ (z, v) ∈ ks ∧ (z < c ∨ left (kI z) = true)
theorem DlI.keep {ks ks' : List (Int × Int)} {left : Lit → Bool} {c z : Int} (h : DlI ks ks' left c) (hz : z < c) : DlI ks ks' (fun y => left y && !y.sameKey (kI z)) c := fun y v => by
  rw [h y v]
  by_cases e : y = z
  · subst e; exact ⟨fun a => ⟨a.1, .inl hz⟩, fun a => ⟨a.1, .inl hz⟩⟩
  · have e2 := sameKey_ne (kI_ne e)
    simp [e2]
theorem DlI.del {ks ks' : List (Int × Int)} {left : Lit → Bool} {c z : Int} (h : DlI ks ks' left c) (hz : ¬ z < c) : DlI ks (ks'.filter fun q => decide (q.1 ≠ z)) (fun y => left y && !y.sameKey (kI z)) c := fun y v => by
  rw [List.mem_filter, h y v]
  by_cases e : y = z
  · subst e
    simp [WideAt.sameKey_self (isK y), hz]
  · have e2 := sameKey_ne (kI_ne e)
    simp [e2, e]
theorem HasM.cut {w : World} {b k : Nat} {ν : Nat → Nat} {ks ks' : List (Int × Int)} (h : ∀ z v, (z, v) ∈ ks ↔ ∃ k : Nat, k < 16522 ∧ ν (ixP k) ≠ 0 ∧ z = (k : Int) ∧ v = (ν (ixP k) : Int)) (hm : MpAt w b ks') {left : Lit → Bool} (hd : DlI ks ks' left (k : Int)) (hl : ∀ y, left y = false) : HasM w b (cvP ν k) := by
  refine ⟨ks', hm, fun z v => ?_⟩
  rw [hd z v, h z v]
  constructor
  · rintro ⟨⟨j, j1, j2, rfl, rfl⟩, h2⟩
    have h2 : j < k := by
      rcases h2 with h2 | h2
      · omega
      · rw [hl] at h2; cases h2
    have h3 := (cv_ix (k := k) j1).2 ⟨j2, h2⟩
    have e : cvP ν k (ixP j) = ν (ixP j) := by unfold cvP; rw [(cv_nz.1 h3).2]; rfl
    exact ⟨j, j1, h3, rfl, by rw [e]⟩
  · rintro ⟨j, j1, j2, rfl, rfl⟩
    obtain ⟨h1, h2⟩ := (cv_ix j1).1 j2
    have e : cvP ν k (ixP j) = ν (ixP j) := by unfold cvP; rw [(cv_nz.1 j2).2]; rfl
    exact ⟨⟨j, j1, h1, rfl, by rw [e]⟩, .inl (by omega)⟩
end Go.Proofs.YtjmdjagfekloaaaGreatDoor
