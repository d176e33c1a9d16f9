import Derived.Test.YtiblfmcnffhpdaaGreatDoorKTkO
import Derived.Test.YtiblfmcnffhpdaaGreatDoorKTxA
import Derived.Test.YtiblfmcnffhpdaaGreatDoorKTxBm
import Derived.Test.YtiblfmcnffhpdaaGreatDoorKSmall
namespace Go.Proofs.YtiblfmcnffhpdaaGreatDoor
open Go.RowKit Go.Maps Rec
theorem szI : (Tryz.prog.info? 35).map (·.size) = some 15 := by kernel_rfl
theorem oneC (y : Nat → Int) : (#[.int .i64 (y 0), .int .i64 (y 1), .int .i64 (y 2), .int .i64 (y 3), .int .i64 (y 4), .int .i64 (y 5), .int .i64 (y 6), .int .i64 (y 7), .int .i64 (y 8), .int .i64 (y 9), .int .i64 (y 10), .int .i64 (y 11), .int .i64 (y 12), .int .i64 (y 13), .int .i64 (y 14)] : Array Value).all (·.oneCell') = true := by simp [Value.oneCell']
theorem row_fr (w : World) (g : Nat) (cs : Array Value) : Fr (fun k => k = g) w (w.setRow g cs) := ⟨rfl, rfl, rfl, by simp, fun k _ h => setRow_other w g k cs h⟩
theorem fil_len : ∀ (ks : List (Int × Int)) (z : Int), (ks.map Prod.fst).Nodup → (ks.filter fun q => decide (q.1 ≠ z)).length + (if z ∈ ks.map Prod.fst then 1 else 0) = ks.length
  | [], z, _ => by simp
  | q :: ks, z, h => by
    rw [List.map_cons] at h
    have h2 := List.nodup_cons.1 h
    have ih := fil_len ks z h2.2
    by_cases e : q.1 = z
    · have hn : z ∉ ks.map Prod.fst := by rw [← e]; exact h2.1
      rw [if_neg hn] at ih
      rw [List.filter_cons_of_neg (by simp [e]), List.map_cons, if_pos (by rw [e]; exact List.mem_cons_self), List.length_cons]
      omega
    · rw [List.filter_cons_of_pos (by simp [e]), List.length_cons, List.length_cons]
      by_cases hz : z ∈ ks.map Prod.fst
      · rw [if_pos hz] at ih
        rw [List.map_cons, if_pos (List.mem_cons_of_mem _ hz)]
        omega
      · rw [if_neg hz] at ih
        rw [List.map_cons, if_neg (fun hm => (List.mem_cons.1 hm).elim (fun e2 => e e2.symm) hz)]
        omega
theorem MpL.del {D : DataW Unit} {ks : List (Int × Int)} (h : MpL D ks) (z : Int) : MpL (D.del (kI z)) (ks.filter fun q => decide (q.1 ≠ z)) := by
  have hm : ∀ y u, (y, u) ∈ (ks.filter fun q => decide (q.1 ≠ z)) ↔ (y, u) ∈ ks ∧ y ≠ z := fun y u => by rw [List.mem_filter]; simp
  have hk : ∀ y, y ∈ (ks.filter fun q => decide (q.1 ≠ z)).map Prod.fst ↔ y ∈ ks.map Prod.fst ∧ y ≠ z := fun y => by
    rw [List.mem_map, List.mem_map]
    constructor
    · rintro ⟨⟨y', u⟩, h1, rfl⟩
      exact ⟨⟨_, ((hm y' u).1 h1).1, rfl⟩, ((hm y' u).1 h1).2⟩
    · rintro ⟨⟨⟨y', u⟩, h1, rfl⟩, h2⟩
      exact ⟨_, (hm y' u).2 ⟨h1, h2⟩, rfl⟩
  refine ⟨h.tidy.del _, fun y => ?_, fun y u hy d => ?_, List.Nodup.sublist (List.Sublist.map _ List.filter_sublist) h.nd, ?_⟩
  · by_cases e : y = z
    · subst e
      rw [has_del_same]
      exact (decide_eq_false (fun hx => ((hk y).1 hx).2 rfl)).symm
    · rw [has_del_other (kI_ne e), h.has]
      exact decide_eq_decide.2 ⟨fun a => (hk y).2 ⟨a, e⟩, fun a => ((hk y).1 a).1⟩
  · obtain ⟨h1, h2⟩ := (hm y u).1 hy
    rw [atKey_del_other (kI_ne h2), h.at_ y u h1]
  · have h1 := size_del (k := kI z) h.tidy
    have h2 := fil_len ks z h.nd
    rw [h.has, h.size] at h1
    by_cases e : z ∈ ks.map Prod.fst
    · rw [decide_eq_true e] at h1; rw [if_pos e] at h2; simp at h1; omega
    · rw [decide_eq_false e] at h1; rw [if_neg e] at h2; simp at h1; omega
def DlI (ks ks' : List (Int × Int)) (left : Lit → Bool) (c : Int) : Prop := ∀ z v, (z, v) ∈ ks' ↔ (z, v) ∈ ks ∧ (z < c ∨ left (kI z) = true)
theorem DlI.keep {ks ks' : List (Int × Int)} {left : Lit → Bool} {c z : Int} (h : DlI ks ks' left c) (hz : z < c) : DlI ks ks' (fun y => left y && !y.sameKey (kI z)) c := fun y v => by
  rw [h y v]
  by_cases e : y = z
  · subst e; exact ⟨fun a => ⟨a.1, .inl hz⟩, fun a => ⟨a.1, .inl hz⟩⟩
  · have e2 := sameKey_ne (kI_ne e)
    simp [e2]
theorem DlI.del {ks ks' : List (Int × Int)} {left : Lit → Bool} {c z : Int} (h : DlI ks ks' left c) (hz : ¬ z < c) : DlI ks (ks'.filter fun q => decide (q.1 ≠ z)) (fun y => left y && !y.sameKey (kI z)) c := fun y v => by
  rw [List.mem_filter, h y v]
  by_cases e : y = z
  · subst e
    simp [WideAt.sameKey_self (isK y), hz]
  · have e2 := sameKey_ne (kI_ne e)
    simp [e2, e]
theorem HasM.cut {w : World} {b k : Nat} {ν : Nat → Nat} {ks ks' : List (Int × Int)} (h : ∀ z v, (z, v) ∈ ks ↔ ∃ k : Nat, k < 16522 ∧ ν (ixP k) ≠ 0 ∧ z = (k : Int) ∧ v = (ν (ixP k) : Int)) (hm : MpAt w b ks') {left : Lit → Bool} (hd : DlI ks ks' left (k : Int)) (hl : ∀ y, left y = false) : HasM w b (cvP ν k) := by
  refine ⟨ks', hm, fun z v => ?_⟩
  rw [hd z v, h z v]
  constructor
  · rintro ⟨⟨j, j1, j2, rfl, rfl⟩, h2⟩
    have h2 : j < k := by
      rcases h2 with h2 | h2
      · omega
      · rw [hl] at h2; cases h2
    have h3 := (cv_ix (k := k) j1).2 ⟨j2, h2⟩
    have e : cvP ν k (ixP j) = ν (ixP j) := by unfold cvP; rw [(cv_nz.1 h3).2]; rfl
    exact ⟨j, j1, h3, rfl, by rw [e]⟩
  · rintro ⟨j, j1, j2, rfl, rfl⟩
    obtain ⟨h1, h2⟩ := (cv_ix j1).1 j2
    have e : cvP ν k (ixP j) = ν (ixP j) := by unfold cvP; rw [(cv_nz.1 j2).2]; rfl
    exact ⟨⟨j, j1, h1, rfl, by rw [e]⟩, .inl (by omega)⟩
open Go.RowKit Go.Maps Go.Sort Go.Shelf Rec
def IntsAt (w : World) (v : Value) (l : List Int) : Prop := ∃ a c, v = .slice a l.length c ∧ (l = [] ∨ ∃ g, a = some ⟨g, 0, none⟩ ∧ ∀ j x, l[j]? = some x → w.cell? ⟨g, j, none⟩ = some (.int .i64 x))
theorem IntsAt.on {w w' : World} {v : Value} {l : List Int} (h : IntsAt w v l) (hb : Below w.heap.size w w') : IntsAt w' v l := by
  obtain ⟨a, c, rfl, hl⟩ := h
  refine ⟨a, c, rfl, hl.imp id ?_⟩
  rintro ⟨g, rfl, hc⟩
  exact ⟨g, rfl, fun j x hx => (hb.cell (block_lt_of_cell (hc j x hx))).trans (hc j x hx)⟩
theorem Cnt.val {c : Cm} {now : Nat → Int} {is : Nat → Bool} (h : Cnt (fun _ => none) c now is) (i : Nat) (h0 : 98 ≤ i) (h1 : i < 118) : valC c (fr6 118) i = one (now i) := by
  obtain ⟨_, a, b⟩ := h i h0 h1
  cases e : is i with
  | true =>
    obtain ⟨q, hq, hx⟩ := a e
    rw [valC_some hq, hx]
  | false =>
    obtain ⟨hq, hx⟩ := b e
    rw [valC_none hq, bck_fr6 _ _ h1, hx, v6, if_neg (by omega)]
theorem Cnt.is {c : Cm} {now : Nat → Int} {is : Nat → Bool} (h : Cnt (fun _ => none) c now is) (i : Nat) (h0 : 98 ≤ i) (h1 : i < 118) : is i = (c i).isSome := by
  obtain ⟨_, a, b⟩ := h i h0 h1
  cases e : is i with
  | true => obtain ⟨q, hq, hx⟩ := a e; rw [hq]; rfl
  | false => rw [(b e).1]; rfl
theorem IntsAt.fr {S : Nat → Prop} {w w' : World} {v : Value} {l : List Int} (h : IntsAt w v l) (x : Fr S w w') (hS : ∀ g, v.ownBlock = some g → ¬ S g) : IntsAt w' v l := by
  obtain ⟨a, c, rfl, hl⟩ := h
  refine ⟨a, c, rfl, hl.imp id ?_⟩
  rintro ⟨g, rfl, hc⟩
  exact ⟨g, rfl, fun j y hy => x.cell (hc j y hy) (hS g rfl)⟩
structure Rn (w0 w : World) (D : Dk) (T : Tx) (A B : Nat) (now : Nat → Int) (is : Nat → Bool) (v : Value) (l : List Int) : Prop where
  ses : Ses w0 w D T
  rw : Rw w A B now is
  nA : ¬ T.all A ∧ ¬ D.all A
  nB : ¬ T.all B ∧ ¬ D.all B
  ints : IntsAt w v l
  nL : ∀ g, v.ownBlock = some g → ¬ T.all g ∧ g < w.heap.size
theorem Rn.on {w0 w w' : World} {D : Dk} {T : Tx} {A B : Nat} {now : Nat → Int} {is : Nat → Bool} {v : Value} {l : List Int} (h : Rn w0 w D T A B now is v l) (hb : Below w.heap.size w w') : Rn w0 w' D T A B now is v l :=
  ⟨h.ses.on hb, h.rw.on hb, h.nA, h.nB, h.ints.on hb, fun g hg => ⟨(h.nL g hg).1, Nat.lt_of_lt_of_le (h.nL g hg).2 hb.size⟩⟩
theorem Rn.mv {w0 w w' : World} {D : Dk} {T T' : Tx} {A B : Nat} {now : Nat → Int} {is : Nat → Bool} {v : Value} {l : List Int} (h : Rn w0 w D T A B now is v l) (s : Ses w0 w' D T') (hm : TMv w T w' T') : Rn w0 w' D T' A B now is v l := by
  have hA := h.rw.ltA
  have hB := h.rw.ltB
  refine ⟨s, h.rw.fr hm.fr (fun e => h.nA.1 (.inl e)) (fun e => h.nB.1 (.inl e)), ⟨fun e => ?_, h.nA.2⟩, ⟨fun e => ?_, h.nB.2⟩, h.ints.fr hm.fr (fun g hg e => (h.nL g hg).1 (.inl e)), fun g hg => ⟨fun e => ?_, Nat.lt_of_lt_of_le (h.nL g hg).2 hm.fr.size⟩⟩
  · rcases hm.al _ e with e | e
    · exact h.nA.1 e
    · omega
  · rcases hm.al _ e with e | e
    · exact h.nB.1 e
    · omega
  · have h2 := h.nL g hg
    rcases hm.al _ e with e | e
    · exact h2.1 e
    · omega
open Rec Go.ChangeShapes Go.WideShapes Go.ChangeAt Go.RowKit
theorem cellsA2 : Tryz.prog.cellsOf 57 = 2 := by kernel_rfl
theorem cellsI7 : Tryz.prog.cellsOf 3 = 1 := by kernel_rfl
theorem list7 {α : Type} (l : List α) (h : l.length = 2) : ∃ a b, l = [a, b] := by
  match l, h with
  | [a, b], _ => exact ⟨a, b, rfl⟩
set_option maxRecDepth 100000 in
theorem okWide_a2 {W : World} {base : Nat} {v : Value} (h : Value.okWide Tryz.prog W .any base 57 v) : ∃ cs, v = .agg cs := by
  simp only [Value.okWide, Tryz.underlying57] at h
  obtain ⟨cs, h1, _⟩ := h
  exact ⟨cs, h1⟩
set_option maxRecDepth 100000 in
theorem open_a2 {H : Type} {enc : TypeId × Value → H} {W : World} {cs : Array Value} {D : DataW H} {Pl : List MemPlace} {fuel : Nat}
    (hf : DataW.trod enc Tryz.prog W 0 (fun _ => true) true fuel 57 (Value.agg cs).cells.toList = some (D, Pl)) :
    ∃ t0 t1 : Int, cs = #[.int .i64 t0, .int .i64 t1] ∧ (-9223372036854775808 ≤ t0 ∧ t0 ≤ 9223372036854775807) ∧ (-9223372036854775808 ≤ t1 ∧ t1 ≤ 9223372036854775807) := by
  obtain ⟨xs, m, hm, hx, hlen, hxl, hel⟩ := DataW.trod_array Tryz.underlying57 hf
  rw [cellsA2] at hlen
  obtain ⟨v0, v1, hcs⟩ := list7 _ hlen
  obtain ⟨x0, x1, rfl⟩ := list7 xs hxl
  rw [hcs] at hel
  have e0 := hel 0 (by omega)
  have e1 := hel 1 (by omega)
  clear hel
  simp [cellsI7] at e0 e1
  obtain ⟨b, z0, _, k0⟩ := DataW.trod_int Tryz.underlying3 e0
  obtain ⟨c, z1, _, k1⟩ := DataW.trod_int Tryz.underlying3 e1
  simp at z0 z1
  subst z0 z1
  refine ⟨b, c, ?_, wf_i64 k0, wf_i64 k1⟩
  have : cs.toList = [.int .i64 b, .int .i64 c] := hcs
  exact Array.toList_inj.1 this
end Go.Proofs.YtiblfmcnffhpdaaGreatDoor
