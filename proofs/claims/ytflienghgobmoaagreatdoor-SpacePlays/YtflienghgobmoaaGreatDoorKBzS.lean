import Derived.Test.YtflienghgobmoaaGreatDoorKXsY
import Derived.RangeFuncNested
import Derived.RangeFuncBound
import Derived.RangeFuncCalls
import Derived.RangeFuncLeaves
import Derived.RangeFuncWrites
import Derived.Shelf.Abstract
import Derived.Shelf.RegionOpen
import Derived.OwnWalkIn
import Derived.TacticsInMore
import Derived.LoopNIn
import Derived.LoopIn
import Derived.Scope
namespace Go.Proofs.YtflienghgobmoaaGreatDoor
open Go.RowKit Go.Shelf Rec

section
variable {P : Program} {F : Fence} {n : Nat} {b : Frame} {a : Act} {k : List Item} {cs : List Frame} {w : World} {Q : Exit → Act → World → Prop}
theorem stepR_scope {c : Code} : step P (lone (b.atR a (.code (.scope c) :: k)) cs w) = .next (lone (b.atR a (.code c :: .inScope c :: k)) cs w) :=
  step_lone_go (by simp [stepG, stepG.exec, Frame.atR])
theorem stepR_inScope {c : Code} : step P (lone (b.atR a (.inScope c :: k)) cs w) = .next (lone (b.atR a k) cs w) :=
  step_lone_go (by simp [stepG, stepG.exec, Frame.atR])
/-- a label's scope that no goto leaves, inside a fence -/
theorem wpIn_scope_straight {c : Code} (h : c.wpIn F n P (Exit.noGoto Q) a w) : (Code.scope c).wpIn F n P Q a w := by
  intro b k cs hro hb hr
  have h0 : (lone (b.atR a (.code (.scope c) :: k)) cs w).fenced P F := fenced_calm hb hr rfl
  obtain ⟨e, a₁, w₁, hq, harr⟩ := h b (.inScope c :: k) cs hro hb hr
  cases e with
  | normal => exact ⟨.normal, a₁, w₁, hq, .head h0 stepR_scope (StepsIn.trans harr (.one (fenced_calm hb hr rfl) stepR_inScope))⟩
  | exit id =>
    have hx : exitTo id (.inScope c :: k) = exitTo id k := by simp [exitTo]
    exact ⟨_, a₁, w₁, hq, fun k' hk => .head h0 stepR_scope (harr.1 k' (by rw [hx]; exact hk)),
      fun hr' hk => let ⟨k₁, h1, h2⟩ := harr.2 hr' (by rw [hx]; exact hk); ⟨k₁, h1, .head h0 stepR_scope h2⟩⟩
  | goto l => exact hq.elim
  | ret => exact ⟨_, a₁, w₁, hq, .of_steps (.one h0 stepR_scope) harr⟩
  | panic ch => exact ⟨_, a₁, w₁, hq, .of_steps (.one h0 stepR_scope) harr⟩
  | outgrown => exact ⟨_, a₁, w₁, hq, .of_steps (.one h0 stepR_scope) harr⟩
end
end Go.Proofs.YtflienghgobmoaaGreatDoor

namespace Go.Proofs.YtflienghgobmoaaGreatDoor
open Go.RowKit Go.Shelf Rec
attribute [local go_sem] Oper.semAt_some

/-- a row of l, as it is handed to the body -/
abbrev RwB (l : List Int) := { p : Nat × Nat // p ∈ runs l }
abbrev RwB.enc {l : List Int} (x : RwB l) : Array Value := #[.int .i64 (x.1.1 : Int), .int .i64 (x.1.2 : Int)]
theorem mem_runs {l : List Int} {i : Nat} (h1 : bn (l ++ [255]) i = 1) (h2 : 0 < offs (l ++ [255]) i) (hi : i < 8 * l.length + 8) : (i - offs (l ++ [255]) i, offs (l ++ [255]) i) ∈ runs l := by
  have hm := rows_mono (l ++ [255]) (i + 1) (8 * l.length + 8) (by omega)
  rw [(rows_all l 8 (by omega) (by omega)).1] at hm
  refine hm.subset ?_
  rw [rows, if_pos ⟨h1, h2⟩]
  simp
theorem rows_lt {l : List Int} {i : Nat} (h1 : bn (l ++ [255]) i = 1) (h2 : 0 < offs (l ++ [255]) i) (hi : i < 8 * l.length + 8) : (rows (l ++ [255]) i).length < (runs l).length := by
  have hm := rows_mono (l ++ [255]) (i + 1) (8 * l.length + 8) (by omega)
  rw [(rows_all l 8 (by omega) (by omega)).1] at hm
  have := hm.length_le
  rw [rows, if_pos ⟨h1, h2⟩] at this
  simp at this
  omega
theorem rows_pre {l : List Int} {i : Nat} (hi : i ≤ 8 * l.length + 8) : rows (l ++ [255]) i <+: runs l := by
  have hm := rows_mono (l ++ [255]) i (8 * l.length + 8) hi
  rw [(rows_all l 8 (by omega) (by omega)).1] at hm
  exact hm
theorem belowN_drewN (n : Nat) (w : World) (m : Nat) : Below n w (w.drewN m) := ⟨rfl, rfl, rfl, Nat.le_refl _, fun _ _ => rfl⟩
/-- the iterator's own rows are kept -/
def KpB (B g : Nat) (W W' : World) : Prop := W'.heap[B]? = W.heap[B]? ∧ W'.heap[g]? = W.heap[g]?
theorem KpB.refl (B g : Nat) (W : World) : KpB B g W W := ⟨rfl, rfl⟩
theorem KpB.trans {B g : Nat} {A C D : World} (h : KpB B g A C) (k : KpB B g C D) : KpB B g A D := ⟨k.1.trans h.1, k.2.trans h.2⟩
theorem KpB.drewN (B g : Nat) (W : World) (m : Nat) : KpB B g W (W.drewN m) := ⟨rfl, rfl⟩
theorem KpB.bytes {B g : Nat} {W W' : World} (h : KpB B g W W') {l : List Int} (hb : Bytes W (some ⟨g, 0, none⟩) l) : Bytes W' (some ⟨g, 0, none⟩) l := by
  refine ⟨hb.len, hb.wf, ?_⟩
  rcases hb.at_ with e | ⟨b, off, e, hc⟩
  · exact .inl e
  · cases e
    exact .inr ⟨_, _, rfl, fun i hi => (World.cell?_of_block h.2).trans (hc i hi)⟩
theorem KpB.box {B g : Nat} {W W' : World} (h : KpB B g W W') {v : Value} (hb : W.cell? ⟨B, 0, none⟩ = some v) : W'.cell? ⟨B, 0, none⟩ = some v := (World.cell?_of_block h.1).trans hb
theorem KpB.put {B g : Nat} {n : Nat} (hB : B < n) (hg : g < n) (W : World) (l : Nat) (o o' : Obj) (hl : n ≤ l) (_ : W.heap[l]? = some o) (_ : o.isCells = false) (_ : o.isWalk = false) : KpB B g W (W.putObj l o') := by
  have h1 : l ≠ B := by omega
  have h2 : l ≠ g := by omega
  exact ⟨by simp [World.putObj, h1], by simp [World.putObj, h2]⟩
set_option maxRecDepth 100000 in
set_option maxHeartbeats 4000000 in
theorem runs1_in (l : Nat) (B g cap : Nat) (s : List Int) (hlen : s.length ≤ 140737488355000) (J Jx : List (RwB s) → World → Prop)
    (hA : ∀ pre W m, J pre W → J pre (W.drewN m))
    (hY : ∀ pre x W, J pre W → pre.length < (runs s).length → YieldAt Fence.wide 4 Tryz.prog l x.enc W fun e W' => (e = .returned (.bool true) ∧ J (pre ++ [x]) W' ∧ KpB B g W W') ∨ (e = .returned (.bool false) ∧ Jx (pre ++ [x]) W'))
    (W : World) (hBs : W.cell? ⟨B, 0, none⟩ = some (.slice (some ⟨g, 0, none⟩) (s.length + 1) cap)) (hs : Bytes W (some ⟨g, 0, none⟩) (s ++ [255])) (h0 : J [] W) :
    CallsIn Fence.wide 5 Tryz.prog 147 #[.func (.yield l) #[] #[], .pointer (some ⟨B, 0, none⟩)] W fun e W' => (∃ v, e = .returned v) ∧ ((∃ ys : List (RwB s), ys.map (·.1) = runs s ∧ J ys W') ∨ (∃ pre : List (RwB s), pre.map (·.1) <+: runs s ∧ Jx pre W')) := by
  obtain ⟨t, ht⟩ : ∃ t, s ++ [(255 : Int)] = t := ⟨_, rfl⟩
  obtain ⟨N, hN⟩ : ∃ N, s.length + 1 = N := ⟨_, rfl⟩
  have htl : t.length = N := by rw [← ht, List.length_append]; exact hN
  rw [hN] at hBs
  rw [ht] at hs
  have HS : Hid (Bytes W (some ⟨g, 0, none⟩) t ∧ W.cell? ⟨B, 0, none⟩ = some (.slice (some ⟨g, 0, none⟩) N cap)) := ⟨hs, hBs⟩
  have hNb : N ≤ 140737488355001 := by omega
  refine callsIn_of_wp Tryz.func147 rfl trivial ?_ rfl
  simp only [Tryz.ntmps147, List.size_toArray, List.length_cons, List.length_nil, Nat.reduceAdd, Nat.reduceSub, Array.replicate_succ, Array.replicate_zero, List.push_toArray, List.append_toArray, List.nil_append, List.cons_append]
  refine wpIn_scope_straight ?_
  gi_wp2
  refine wpIn_label ?_
  gi_wp2
  gi_loopw [3, 8] (fun s3 s8 wr => ∃ (k o : Nat) (pre : List (RwB s)), k ≤ N ∧ s8 = .int .i64 (k : Int) ∧ s3 = .int .i64 (o : Int) ∧ o = offs t (8 * k) ∧ pre.map (·.1) = rows t (8 * k) ∧ J pre wr ∧ KpB B g W wr) (fun _ s8 _ => N - (intOf s8).toNat)
  case atStart => exact ⟨0, 0, [], Nat.zero_le _, rfl, rfl, rfl, rfl, h0, KpB.refl _ _ _⟩
  case round =>
    obtain ⟨k, o, pre, hk, rfl, rfl, ho, hpre, hJ, hb⟩ := hrel
    have HO : Hid (o = offs t (8 * k) ∧ pre.map (·.1) = rows t (8 * k) ∧ J pre wr ∧ KpB B g W wr) := ⟨ho, hpre, hJ, hb⟩
    clear ho hpre hJ hb
    by_cases hlt : k < N
    · have hlt' : (k : Int) < (N : Int) := by omega
      gi_wp2
      gi_loopw [3, 5] (fun s3 s5 wr => ∃ (i o : Nat) (pre : List (RwB s)), 8 * k ≤ i ∧ i ≤ 8 * k + 8 ∧ s5 = .int .i64 (i : Int) ∧ s3 = .int .i64 (o : Int) ∧ o = offs t i ∧ pre.map (·.1) = rows t i ∧ J pre wr ∧ KpB B g W wr) (fun _ s5 _ => 8 * k + 8 - (intOf s5).toNat)
      case atStart => exact ⟨8 * k, o, pre, Nat.le_refl _, by omega, (by congr 1; omega), rfl, HO.out⟩
      case round =>
        obtain ⟨i, o, pre, hi1, hi2, rfl, rfl, ho, hpre, hJ, hb⟩ := hrel
        have hol : o ≤ i := by rw [ho]; exact offs_le _ _
        have HO : Hid (o = offs t i ∧ pre.map (·.1) = rows t i ∧ J pre wr ∧ KpB B g W wr) := ⟨ho, hpre, hJ, hb⟩
        clear ho hpre hJ hb
        by_cases hlt2 : i < 8 * k + 8
        · have hlt2' : (i : Int) < ((k : Int) + 1) * 8 := by omega
          have hcell : wr.cell? ⟨B, 0, none⟩ = some (.slice (some ⟨g, 0, none⟩) N cap) := HO.out.2.2.2.box HS.out.2
          have CC : CallsIn Fence.wide 4 Tryz.prog 144 #[.slice (some ⟨g, 0, none⟩) N cap, .int .i64 (i : Int)] wr fun e w' => e = .returned (.bool (bt t i)) ∧ ∃ m, w' = wr.drewN m := callsIn_wide.2 (isOn_any wr ⟨g, 0, none⟩ N cap i t (HO.out.2.2.2.bytes HS.out.1) htl (by omega))
          have hfi : Fence.wide.fn 144 := trivial
          rcases hbit : bt t i with _ | _
          · rw [hbit] at CC
            gi_wp2_with (gi_at_call 144; refine CC.mono ?_; rintro e w' ⟨rfl, m, rfl⟩)
            go_roundw
            case rel =>
              have hz := (bt_not t i).1 hbit
              refine ⟨i + 1, o + 1, pre, by omega, by omega, (by go_num), (by go_num), ?_, ?_, hA _ _ _ HO.out.2.2.1, HO.out.2.2.2.trans (KpB.drewN _ _ wr m)⟩
              · rw [offs, if_pos hz, HO.out.1]
              · rw [rows, if_neg (by omega), List.append_nil, HO.out.2.1]
            case measure => simp [intOf]; omega
          · rw [hbit] at CC
            have hz := (bt_iff t i).1 hbit
            by_cases ho : 0 < o
            · have ho' : (0 : Int) < (o : Int) := by omega
              gi_wp2_with (gi_at_call 144; refine CC.mono ?_; rintro e w' ⟨rfl, m, rfl⟩; clear CC)
              have hr1 : bn (s ++ [255]) i = 1 := by rw [ht]; exact hz
              have hr2 : 0 < offs (s ++ [255]) i := by rw [ht, ← HO.out.1]; exact ho
              have hmem := mem_runs hr1 hr2 (by omega)
              have hlt3 := rows_lt hr1 hr2 (by omega)
              rw [ht, ← HO.out.1] at hmem
              rw [ht, ← HO.out.2.1, List.length_map] at hlt3
              obtain ⟨q, hq⟩ : ∃ q, i - o = q := ⟨_, rfl⟩
              rw [hq] at hmem
              have hqi : (i : Int) - (o : Int) = (q : Int) := by omega
              obtain ⟨fn, tmps, assign, body, hy, hR⟩ := hY pre ⟨(q, o), hmem⟩ (wr.drewN m) (hA _ _ _ HO.out.2.2.1) hlt3
              simp only [RwB.enc] at hy
              have HP : Hid ((pre ++ [(⟨(q, o), hmem⟩ : RwB s)]).map (·.1) = rows t (i + 1)) := by
                show _ = _
                rw [List.map_append, HO.out.2.1, rows, ← HO.out.1, hq, if_pos ⟨hz, ho⟩]; rfl
              rw [hqi, hy]
              gi_wp2
              refine hR.mono ?_
              rintro e W3 (⟨rfl, hJ3, hk3⟩ | ⟨rfl, hJx3⟩)
              · gi_wp2
                go_roundw
                case rel => exact ⟨i + 1, 0, _, by omega, by omega, (by go_num), rfl, (by rw [offs, if_neg (by omega)]), HP.out, hJ3, (HO.out.2.2.2.trans (KpB.drewN _ _ wr m)).trans hk3⟩
                case measure => simp [intOf]; omega
              · gi_wp2
                simp only [Exit.noGoto]
                go_end0
                refine ⟨⟨_, rfl⟩, .inr ⟨_, ?_, hJx3⟩⟩
                rw [HP.out, ← ht]
                exact rows_pre (by omega)
            · have ho' : ¬ ((0 : Int) < (o : Int)) := by omega
              gi_wp2_with (gi_at_call 144; refine CC.mono ?_; rintro e w' ⟨rfl, m, rfl⟩)
              refine ⟨fun _ h => (by cases h), ?_⟩
              gi_wp2
              go_roundw
              case rel =>
                refine ⟨i + 1, 0, pre, by omega, by omega, (by go_num), rfl, ?_, ?_, hA _ _ _ HO.out.2.2.1, HO.out.2.2.2.trans (KpB.drewN _ _ wr m)⟩
                · rw [offs, if_neg (by omega)]
                · have := HO.out.1
                  rw [rows, if_neg (by omega), List.append_nil, HO.out.2.1]
              case measure => simp [intOf]; omega
        · have hlt2' : ¬ ((i : Int) < ((k : Int) + 1) * 8) := by omega
          gi_wp2
          go_roundw
          case rel =>
            have e : i = 8 * (k + 1) := by omega
            subst e
            exact ⟨k + 1, o, pre, by omega, by go_num, rfl, HO.out⟩
          case measure => simp [intOf]; omega
    · have hlt' : ¬ ((k : Int) < (N : Int)) := by omega
      gi_wp2
      go_end0
      have e : k = s.length + 1 := by omega
      refine ⟨⟨_, rfl⟩, .inl ⟨pre, ?_, HO.out.2.2.1⟩⟩
      rw [HO.out.2.1, ← ht, e]
      exact (rows_all s 8 (by omega) (by omega)).1
/-- what Runs hands out may be gone through -/
theorem runs_stops (B g cap : Nat) (s : List Int) (w : World) (h : SeqAt w B g cap s) (hlen : s.length ≤ 140737488355000) :
    SeqStopsK Fence.wide 5 Tryz.prog 147 #[.pointer (some ⟨B, 0, none⟩)] (RwB.enc (l := s)) (KpB B g) (fun ys => ys.map (·.1) = runs s) (fun pre => pre.map (·.1) <+: runs s) (runs s).length w := fun l J Jx W hW hJ _ hY h0 =>
  runs1_in l B g cap s hlen J Jx (fun pre W' m hj => hJ pre W' _ none hj ⟨rfl, rfl, rfl, Nat.le_refl _, fun _ _ _ => rfl⟩ (fun r e => by cases e)) hY W ((hW.cell (p := ⟨B, 0, none⟩) h.ltB).trans h.box) (h.row.on hW) h0
end Go.Proofs.YtflienghgobmoaaGreatDoor

namespace Go.Proofs.YtflienghgobmoaaGreatDoor
open Go.RowKit Go.Shelf Rec
attribute [local go_sem] Oper.semAt_some

theorem fr_drewN {S : Nat → Prop} {w w' : World} (h : Fr S w w') (m : Nat) : Fr S w (w'.drewN m) := ⟨h.os, h.tape, h.output, h.size, h.block⟩
theorem OwnB.drewN {w : World} {g cap : Nat} {l : List Int} (h : OwnB w g cap l) (m : Nat) : OwnB (w.drewN m) g cap l := h.on (drewN_below _ _)
/-- Put into a row of one's own -/
theorem put_own (w : World) (g n c cap i : Nat) (l : List Int) (on : Bool) (h : OwnB w g cap l) (hn : l.length = n) (hi : i < 8 * n) : Calls Tryz.prog 110 #[.slice (some ⟨g, 0, none⟩) n c, .int .i64 (i : Int), .bool on] w fun e w' => e = .returned (.int .i64 0) ∧ OwnB w' g cap (bput l i on) ∧ Fr (fun k => k = g) w w' := by
  have hc := h.cell (i / 8) (by omega)
  refine (put_raw w g n c i _ on hc (h.frozen _) (h.wf _) (by rw [← hn]; exact h.len) hi).mono ?_
  rintro e w' ⟨rfl, m, rfl⟩
  exact ⟨rfl, (h.set (i / 8) _ (by omega) (byt_bd _ _ _ (by omega) (h.wf _))).drewN m, fr_drewN Fr.set m⟩
/-- what lies at the bytes of the document -/
def b3 : List Int := [247, 255, 1]
/-- between two rounds: the box S holds z; else nothing that lay has changed -/
structure BoxI (w : World) (S : Nat) (z : Int) (W : World) : Prop where
  cell : W.cell? ⟨S, 0, none⟩ = some (.int .i64 z)
  frozen : W.frozen? ⟨S, 0, none⟩ = false
  fr : Fr (fun k => k = S ∨ w.heap.size ≤ k) w W
theorem BoxI.own {β : Type} (w : World) (S : Nat) (z : β → Int) (hS : S < w.heap.size) : OwnFrom w.heap.size (fun pre W => BoxI w S (z pre) W) := fun pre W W' row h hg hr => by
  have hne : some S ≠ row := fun e => by have := (hr S e.symm).1; omega
  have hF : Fr (fun k => row = some k) W W' := ⟨hg.os, hg.tape, hg.output, hg.size, fun k hk hS => hg.block k hk (fun e => hS e.symm)⟩
  have hlt : S < W.heap.size := block_lt_of_cell h.cell
  refine ⟨hF.cell h.cell (fun e => hne e.symm), ?_, h.fr.trans hF (fun k hk => .inl (.inr (hr k hk).1))⟩
  have := hg.block S hlt hne
  rw [← h.frozen]
  simp only [World.frozen?, this]
theorem BoxI.set {w : World} {S : Nat} {z : Int} {W : World} (h : BoxI w S z W) (y : Int) : BoxI w S y (W.setCell ⟨S, 0, none⟩ (.int .i64 y)) := by
  refine ⟨World.cell?_setCell_same' _ _ _ (by rw [h.cell]; rfl), by rw [World.frozen?_setCell]; exact h.frozen, h.fr.trans Fr.set (fun k hk => .inl (.inl hk))⟩
end Go.Proofs.YtflienghgobmoaaGreatDoor

namespace Go.Proofs.YtflienghgobmoaaGreatDoor
open Rec

/-- how many numbers below n have it -/
def ct (f : Nat → Bool) : Nat → Nat
  | 0 => 0
  | n + 1 => ct f n + (if f n then 1 else 0)
theorem ct_add (f : Nat → Bool) (a n : Nat) : ct f (a + n) = ct f a + ct (fun j => f (a + j)) n := by
  induction n with
  | zero => rfl
  | succ n ih => rw [← Nat.add_assoc, ct, ct, ih]; omega
theorem ct_cong {f g : Nat → Bool} {n : Nat} (h : ∀ j, j < n → f j = g j) : ct f n = ct g n := by
  induction n with
  | zero => rfl
  | succ n ih => rw [ct, ct, ih (fun j hj => h j (by omega)), h n (by omega)]
theorem ct_le (f : Nat → Bool) (n : Nat) : ct f n ≤ n := by
  induction n with
  | zero => exact Nat.le_refl _
  | succ n ih => rw [ct]; split <;> omega
theorem ct_zero {f : Nat → Bool} {n : Nat} : ct f n = 0 ↔ ∀ j, j < n → f j = false := by
  induction n with
  | zero => exact ⟨fun _ j hj => by omega, fun _ => rfl⟩
  | succ n ih =>
    rw [ct]
    constructor
    · intro h j hj
      by_cases e : f n = true
      · rw [if_pos e] at h; omega
      · rw [if_neg e] at h
        by_cases ej : j = n
        · subst ej; simpa using e
        · exact ih.1 (by omega) j (by omega)
    · intro h
      rw [ih.2 (fun j hj => h j (by omega)), h n (by omega)]
      rfl
/-- the lowest that has it -/
def IsLo (f : Nat → Bool) (i : Nat) : Prop := f i = true ∧ ∀ j, j < i → f j = false
theorem IsLo.eq {f : Nat → Bool} {i j : Nat} (h : IsLo f i) (k : IsLo f j) : i = j := by
  rcases Nat.lt_trichotomy i j with e | e | e
  · have := k.2 i e; rw [h.1] at this; cases this
  · exact e
  · have := h.2 j e; rw [k.1] at this; cases this
/-- of a row what is data -/
def clip (lo hi first : Nat) (p : Nat × Nat) : Nat := min (first + p.1 + p.2) hi - max (first + p.1) lo
def clips (lo hi first : Nat) : List (Nat × Nat) → Nat
  | [] => 0
  | p :: r => clip lo hi first p + clips lo hi first r
theorem clips_app (lo hi first : Nat) (a b : List (Nat × Nat)) : clips lo hi first (a ++ b) = clips lo hi first a + clips lo hi first b := by
  induction a with
  | nil => simp [clips]
  | cons p a ih => simp [clips, ih]; omega
theorem clips_snoc (lo hi first : Nat) (a : List (Nat × Nat)) (p : Nat × Nat) : clips lo hi first (a ++ [p]) = clips lo hi first a + clip lo hi first p := by
  rw [clips_app]; rfl
/-- bit j is off, and of a data block -/
def fb (lo hi first : Nat) (s : List Int) (j : Nat) : Bool := decide (lo ≤ first + j ∧ first + j < hi) && (bn s j == 0)
theorem ct_off (lo hi first : Nat) (s : List Int) (a o : Nat) (h : ∀ j, a ≤ j → j < a + o → bn s j = 0) : ct (fun j => fb lo hi first s (a + j)) o = clip lo hi first (a, o) := by
  induction o with
  | zero => simp [ct, clip]; omega
  | succ o ih =>
    rw [ct, ih (fun j h1 h2 => h j h1 (by omega))]
    have h0 := h (a + o) (by omega) (by omega)
    simp only [fb, h0, clip, beq_self_eq_true, Bool.and_true, decide_eq_true_eq]
    split <;> omega
theorem rows_clip (lo hi first : Nat) (t : List Int) (n : Nat) : ct (fb lo hi first t) (n - offs t n) = clips lo hi first (rows t n) := by
  induction n with
  | zero => rfl
  | succ n ih =>
    have hle := offs_le t n
    rw [rows, offs, clips_app]
    rcases bn_or t n with h | h
    · rw [if_pos h, if_neg (by omega), Nat.add_sub_add_right, ih]; rfl
    · rw [if_neg (by omega), Nat.sub_zero, ct]
      have hz : fb lo hi first t n = false := by simp [fb, h]
      rw [hz, if_neg (by simp), Nat.add_zero]
      by_cases ho : 0 < offs t n
      · rw [if_pos ⟨h, ho⟩, ← ih]
        have e : n = (n - offs t n) + offs t n := by omega
        conv => lhs; rw [e]
        rw [ct_add, ct_off _ _ _ _ _ _ (fun j h1 h2 => (offs_off t n).1 j h1 (by omega))]
        rfl
      · rw [if_neg (fun x => ho x.2), ← ih, show offs t n = 0 by omega]; rfl
theorem fb_app {lo hi first : Nat} {s m : List Int} {j : Nat} (h : j < 8 * s.length) : fb lo hi first (s ++ m) j = fb lo hi first s j := by rw [fb, fb, bn_app h]
theorem runs_clip (lo hi first : Nat) (s : List Int) : clips lo hi first (runs s) = ct (fb lo hi first s) (8 * s.length) := by
  have h := rows_clip lo hi first (s ++ [255]) (8 * s.length + 1)
  rw [(rows_all s 1 (by omega) (by omega)).1, (rows_all s 1 (by omega) (by omega)).2, Nat.sub_zero, ct] at h
  have hz : fb lo hi first (s ++ [255]) (8 * s.length) = false := by simp [fb, bn_255 (l := s) (Nat.le_refl _) (by omega)]
  rw [hz, if_neg (by simp), Nat.add_zero] at h
  rw [← h]
  exact ct_cong fun j hj => fb_app hj
theorem rows_upto (lo hi first : Nat) (t : List Int) (n : Nat) (pre : List (Nat × Nat)) (p : Nat × Nat) (h : pre ++ [p] <+: rows t n) : ct (fb lo hi first t) p.1 = clips lo hi first pre := by
  induction n with
  | zero => obtain ⟨u, hu⟩ := h; simp [rows] at hu
  | succ n ih =>
    rw [rows] at h
    split at h
    · rcases snoc_prefix h with e | ⟨rfl, rfl⟩
      · exact ih e
      · exact rows_clip lo hi first t n
    · rw [List.append_nil] at h; exact ih h
theorem runs_upto (lo hi first : Nat) (s : List Int) (pre : List (Nat × Nat)) (p : Nat × Nat) (h : pre ++ [p] <+: runs s) : ct (fb lo hi first s) p.1 = clips lo hi first pre := by
  have hr := runs_row (h.subset (List.mem_append_right _ (.head _)))
  have htop := hr.top
  rw [← (rows_all s 1 (by omega) (by omega)).1] at h
  rw [← rows_upto lo hi first _ _ pre p h]
  exact (ct_cong fun j hj => fb_app (by omega)).symm
/-- the first row that meets the data: its first block is the lowest one -/
theorem first_clip {lo hi first : Nat} {s : List Int} {pre : List (Nat × Nat)} {p : Nat × Nat} (h : pre ++ [p] <+: runs s) (h0 : clips lo hi first pre = 0) (hp : max (first + p.1) lo < min (first + p.1 + p.2) hi) :
    ∃ j, max (first + p.1) lo = first + j ∧ j < 8 * s.length ∧ IsLo (fb lo hi first s) j := by
  have hr := runs_row (h.subset (List.mem_append_right _ (.head _)))
  have htop := hr.top
  refine ⟨max (first + p.1) lo - first, by omega, by omega, ?_, fun i hii => ?_⟩
  · have := hr.off (max (first + p.1) lo - first) (by omega) (by omega)
    simp only [fb, this, beq_self_eq_true, Bool.and_true, decide_eq_true_eq]
    omega
  · by_cases e : i < p.1
    · exact ct_zero.1 ((runs_upto lo hi first s pre p h).trans h0) i e
    · simp only [fb, Bool.and_eq_false_iff, decide_eq_false_iff_not]
      left
      omega
/-- the bit of block i in the bitmap B, told in blocks of 512 bytes -/
def isT (B : Nat → List Int) (i : Nat) : Bool := bt (B (i / 4096)) (i % 4096)
def fd (lo hi : Nat) (B : Nat → List Int) (i : Nat) : Bool := decide (lo ≤ i ∧ i < hi) && !isT B i
theorem isT_at (B : Nat → List Int) (k j : Nat) (h : j < 4096) : isT B (4096 * k + j) = bt (B k) j := by
  rw [isT, show (4096 * k + j) / 4096 = k by omega, show (4096 * k + j) % 4096 = j by omega]
theorem fd_at (lo hi : Nat) (B : Nat → List Int) (k j : Nat) (h : j < 4096) : fd lo hi B (4096 * k + j) = fb lo hi (4096 * k) (B k) j := by
  rw [fd, fb, isT_at B k j h]
  congr 1
  rcases bn_or (B k) j with e | e <;> simp [bt, e]
theorem ct_blk (lo hi : Nat) (B : Nat → List Int) (k : Nat) : ct (fd lo hi B) (4096 * (k + 1)) = ct (fd lo hi B) (4096 * k) + ct (fb lo hi (4096 * k) (B k)) 4096 := by
  rw [show 4096 * (k + 1) = 4096 * k + 4096 by omega, ct_add, ct_cong (n := 4096) fun j hj => fd_at lo hi B k j hj]
theorem lo_blk {lo hi : Nat} {B : Nat → List Int} {k j : Nat} (h0 : ct (fd lo hi B) (4096 * k) = 0) (hj : j < 4096) (h : IsLo (fb lo hi (4096 * k) (B k)) j) : IsLo (fd lo hi B) (4096 * k + j) := by
  refine ⟨by rw [fd_at _ _ _ _ _ hj]; exact h.1, fun i hi => ?_⟩
  by_cases e : i < 4096 * k
  · exact ct_zero.1 h0 i e
  · obtain ⟨m, rfl⟩ : ∃ m, i = 4096 * k + m := ⟨i - 4096 * k, by omega⟩
    rw [fd_at _ _ _ _ _ (by omega)]
    exact h.2 m (by omega)
theorem ct_tail {lo hi : Nat} {B : Nat → List Int} {n : Nat} (h : hi ≤ n) : ct (fd lo hi B) n = ct (fd lo hi B) hi := by
  obtain ⟨m, rfl⟩ : ∃ m, n = hi + m := ⟨n - hi, by omega⟩
  rw [ct_add, (ct_zero (n := m)).2 (fun j hj => by simp [fd]; omega), Nat.add_zero]
structure Bm (B : Nat → List Int) (M : Nat) : Prop where
  len : ∀ k, k < M → (B k).length = 512
  wf : ∀ k, k < M → ∀ i, 0 ≤ nth (B k) i ∧ nth (B k) i < 256
end Go.Proofs.YtflienghgobmoaaGreatDoor

namespace Go.Proofs.YtflienghgobmoaaGreatDoor
open Go.RowKit Go.Shelf Rec
attribute [local go_sem] Oper.semAt_some

theorem low1_any (w : World) (S : Nat) (z f t : Int) (hc : w.cell? ⟨S, 0, none⟩ = some (.int .i64 z)) (hf : w.frozen? ⟨S, 0, none⟩ = false) : Calls Tryz.prog 106 #[.int .i64 f, .int .i64 t, .pointer (some ⟨S, 0, none⟩)] w fun e w' => e = .returned (.bool false) ∧ w' = w.setCell ⟨S, 0, none⟩ (.int .i64 f) := by
  go_enter Tryz.func106, Tryz.ntmps106
  go_wp2
  go_ret
  exact ⟨rfl, rfl⟩
theorem free1_any (w : World) (S : Nat) (z f t y : Int) (hc : w.cell? ⟨S, 0, none⟩ = some (.int .i64 z)) (hf : w.frozen? ⟨S, 0, none⟩ = false) (hz : 0 ≤ z ∧ z ≤ 1000000000) (hft : 0 ≤ f ∧ f ≤ t ∧ t ≤ 1000000) (hy : z + (t - f) = y) : Calls Tryz.prog 76 #[.int .i64 f, .int .i64 t, .pointer (some ⟨S, 0, none⟩)] w fun e w' => e = .returned (.bool true) ∧ w' = w.setCell ⟨S, 0, none⟩ (.int .i64 y) := by
  obtain ⟨q, hq⟩ : ∃ q, t - f = q := ⟨_, rfl⟩
  rw [hq] at hy
  go_enter Tryz.func76, Tryz.ntmps76
  go_wp2
  go_ret
  exact ⟨rfl, rfl⟩
/-- the box S holds z, the answer r is still false; else nothing that lay has changed -/
structure Bx2 (w : World) (S r : Nat) (z : Int) (W : World) : Prop where
  cell : W.cell? ⟨S, 0, none⟩ = some (.int .i64 z)
  frozen : W.frozen? ⟨S, 0, none⟩ = false
  rc : W.cell? ⟨r, 0, none⟩ = some (.bool false)
  rf : W.frozen? ⟨r, 0, none⟩ = false
  fr : Fr (fun k => k = S ∨ k = r ∨ w.heap.size ≤ k) w W
theorem frozen_blk {W W' : World} {S : Nat} (h : W'.heap[S]? = W.heap[S]?) : W'.frozen? ⟨S, 0, none⟩ = W.frozen? ⟨S, 0, none⟩ := by
  simp only [World.frozen?, h]
theorem Bx2.own {β : Type} (w : World) (S r : Nat) (z : β → Int) (hS : S < w.heap.size) (hr0 : r < w.heap.size) : OwnFrom w.heap.size (fun pre W => Bx2 w S r (z pre) W) := fun pre W W' row h hg hr => by
  have hne : some S ≠ row := fun e => by have := (hr S e.symm).1; omega
  have hne2 : some r ≠ row := fun e => by have := (hr r e.symm).1; omega
  have hF : Fr (fun k => row = some k) W W' := ⟨hg.os, hg.tape, hg.output, hg.size, fun k hk hS => hg.block k hk (fun e => hS e.symm)⟩
  have hlt : S < W.heap.size := block_lt_of_cell h.cell
  have hlt2 : r < W.heap.size := block_lt_of_cell h.rc
  exact ⟨hF.cell h.cell (fun e => hne e.symm), (frozen_blk (hg.block S hlt hne)).trans h.frozen, hF.cell h.rc (fun e => hne2 e.symm), (frozen_blk (hg.block r hlt2 hne2)).trans h.rf, h.fr.trans hF (fun k hk => .inl (.inr (.inr (hr k hk).1)))⟩
theorem Bx2.set {w : World} {S r : Nat} {z : Int} {W : World} (h : Bx2 w S r z W) (hne : r ≠ S) (y : Int) : Bx2 w S r y (W.setCell ⟨S, 0, none⟩ (.int .i64 y)) := by
  have ho : (W.setCell ⟨S, 0, none⟩ (.int .i64 y)).heap[r]? = W.heap[r]? := Below.heap_setCell W ⟨S, 0, none⟩ _ r hne
  exact ⟨World.cell?_setCell_same' _ _ _ (by rw [h.cell]; rfl), by rw [World.frozen?_setCell]; exact h.frozen, (World.cell?_of_block ho).trans h.rc, (frozen_blk ho).trans h.rf, h.fr.trans Fr.set (fun k hk => .inl (.inl hk))⟩
theorem Bx2.setr {w : World} {S r : Nat} {z : Int} {W : World} (h : Bx2 w S r z W) (hne : r ≠ S) : Bx2 w S r z (W.setCell ⟨r, 0, none⟩ (.bool false)) := by
  have ho : (W.setCell ⟨r, 0, none⟩ (.bool false)).heap[S]? = W.heap[S]? := Below.heap_setCell W ⟨r, 0, none⟩ _ S (Ne.symm hne)
  exact ⟨(World.cell?_of_block ho).trans h.cell, (frozen_blk ho).trans h.frozen, World.cell?_setCell_same' _ _ _ (by rw [h.rc]; rfl), by rw [World.frozen?_setCell]; exact h.rf, h.fr.trans Fr.set (fun k hk => .inl (.inr (.inl hk)))⟩
/-- where eachFree's closure finds what it has caught: the places of the disk, what is done with a row, the box that that fills -/
structure Cau (w : World) (G Db S F : Nat) (lo hi : Nat) (z : Int) : Prop where
  g0 : w.cell? ⟨G, 0, none⟩ = some (.int .i64 (hi : Int))
  g3 : w.cell? ⟨G, 3, none⟩ = some (.int .i64 (lo : Int))
  d : w.cell? ⟨Db, 0, none⟩ = some (.func (.func F) #[] #[.pointer (some ⟨S, 0, none⟩)])
  s : w.cell? ⟨S, 0, none⟩ = some (.int .i64 z)
  sf : w.frozen? ⟨S, 0, none⟩ = false
  ap1 : G ≠ S
  ap2 : Db ≠ S
theorem clips_le (lo hi first : Nat) (l : List (Nat × Nat)) : clips lo hi first l ≤ l.length * hi := by
  induction l with
  | nil => simp [clips]
  | cons p l ih =>
    rw [clips, List.length_cons, Nat.succ_mul]
    have : clip lo hi first p ≤ hi := by rw [clip]; omega
    omega
theorem set_other {W : World} {S T : Nat} {v : Value} (h : T ≠ S) : (W.setCell ⟨S, 0, none⟩ v).heap[T]? = W.heap[T]? := Below.heap_setCell W ⟨S, 0, none⟩ v T h
structure Rm (n B g : Nat) (W W' : World) : Prop where
  keeps : KeepsFrom n W W'
  kp : KpB B g W W'
theorem Rm.refl (n B g : Nat) (W : World) : Rm n B g W W := ⟨(KeepsOthers.refl _).from _, KpB.refl _ _ _⟩
theorem KeepsFrom.trans' {n : Nat} {A C D : World} (h : KeepsFrom n A C) (k : KeepsFrom n C D) : KeepsFrom n A D := ⟨Nat.le_trans h.size k.size, fun i o hB hi hc => k.same i o hB (h.same i o hB hi hc) hc⟩
theorem Rm.drewN {n B g : Nat} {A W : World} (h : Rm n B g A W) (m : Nat) : Rm n B g A (W.drewN m) := ⟨⟨h.keeps.size, h.keeps.same⟩, h.kp.trans (KpB.drewN _ _ _ _)⟩
theorem Rm.set {n B g : Nat} {A W : World} (h : Rm n B g A W) (S : Nat) (v : Value) (hB : B ≠ S) (hg : g ≠ S) : Rm n B g A (W.setCell ⟨S, 0, none⟩ v) := ⟨KeepsFrom.trans' h.keeps ((KeepsOthers.setCell _ _ _).from _), h.kp.trans ⟨set_other hB, set_other hg⟩⟩
theorem frPut (w : World) (D : Nat) (o : Obj) : Fr (fun k => k = D) w (w.putObj D o) := ⟨rfl, rfl, rfl, by simp [World.putObj], fun k _ hne => by
  have hne : k ≠ D := hne
  simp [World.putObj, hne.symm]⟩
def LoI (wa : World) (S r lo hi first : Nat) (z : Int) (s : List Int) (pre : List (RwB s)) (W : World) : Prop := Bx2 wa S r z W ∧ clips lo hi first (pre.map (·.1)) = 0
def LoX (wa : World) (S r lo hi first : Nat) (s : List Int) (c : Code) (pre : List (RwB s)) (W : World) : Prop := c = .ret ∧ ∃ pre0 x, pre = pre0 ++ [x] ∧ clips lo hi first (pre0.map (·.1)) = 0 ∧ max (first + x.1.1) lo < min (first + x.1.1 + x.1.2) hi ∧ Bx2 wa S r ((max (first + x.1.1) lo : Nat) : Int) W
theorem LoI.own (wa : World) (S r lo hi first : Nat) (z : Int) (s : List Int) (hS : S < wa.heap.size) (hr0 : r < wa.heap.size) : OwnFrom wa.heap.size (LoI wa S r lo hi first z s) := fun _ W W' row h hg hr => ⟨Bx2.own (β := Unit) wa S r (fun _ => z) hS hr0 () W W' row h.1 hg hr, h.2⟩
theorem LoX.own (wa : World) (S r lo hi first : Nat) (s : List Int) (c : Code) (hS : S < wa.heap.size) (hr0 : r < wa.heap.size) : OwnFrom wa.heap.size (LoX wa S r lo hi first s c) := fun _ W W' row h hg hr => by
  obtain ⟨h1, pre0, x, h2, h3, h4, h5⟩ := h
  exact ⟨h1, pre0, x, h2, h3, h4, Bx2.own (β := Unit) wa S r (fun _ => ((max (first + x.1.1) lo : Nat) : Int)) hS hr0 () W W' row h5 hg hr⟩
end Go.Proofs.YtflienghgobmoaaGreatDoor
