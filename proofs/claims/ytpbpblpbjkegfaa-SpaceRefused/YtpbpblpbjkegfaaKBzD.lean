import Derived.Test.YtpbpblpbjkegfaaKBzC
namespace Go.Proofs.Ytpbpblpbjkegfaa
open Go.RowKit Go.Shelf Rec
attribute [local go_sem] Oper.semAt_some

/-- a row of l, as it is handed to the body -/
abbrev RwB (l : List Int) := { p : Nat × Nat // p ∈ runs l }
abbrev RwB.enc {l : List Int} (x : RwB l) : Array Value := #[.int .i64 (x.1.1 : Int), .int .i64 (x.1.2 : Int)]
theorem mem_runs {l : List Int} {i : Nat} (h1 : bn (l ++ [255]) i = 1) (h2 : 0 < offs (l ++ [255]) i) (hi : i < 8 * l.length + 8) : (i - offs (l ++ [255]) i, offs (l ++ [255]) i) ∈ runs l := by
  have hm := rows_mono (l ++ [255]) (i + 1) (8 * l.length + 8) (by omega)
  rw [(rows_all l 8 (by omega) (by omega)).1] at hm
  refine hm.subset ?_
  rw [rows, if_pos ⟨h1, h2⟩]
  simp
theorem rows_lt {l : List Int} {i : Nat} (h1 : bn (l ++ [255]) i = 1) (h2 : 0 < offs (l ++ [255]) i) (hi : i < 8 * l.length + 8) : (rows (l ++ [255]) i).length < (runs l).length := by
  have hm := rows_mono (l ++ [255]) (i + 1) (8 * l.length + 8) (by omega)
  rw [(rows_all l 8 (by omega) (by omega)).1] at hm
  have := hm.length_le
  rw [rows, if_pos ⟨h1, h2⟩] at this
  simp at this
  omega
theorem rows_pre {l : List Int} {i : Nat} (hi : i ≤ 8 * l.length + 8) : rows (l ++ [255]) i <+: runs l := by
  have hm := rows_mono (l ++ [255]) i (8 * l.length + 8) hi
  rw [(rows_all l 8 (by omega) (by omega)).1] at hm
  exact hm
theorem belowN_drewN (n : Nat) (w : World) (m : Nat) : Below n w (w.drewN m) := ⟨rfl, rfl, rfl, Nat.le_refl _, fun _ _ => rfl⟩
theorem w64 (x : Int) (h : 0 ≤ x ∧ x ≤ 9000000000000000000) : wrap64 x = x := by rw [wrap64]; omega
/-- the iterator's own rows are kept -/
def KpB (B g : Nat) (W W' : World) : Prop := W'.heap[B]? = W.heap[B]? ∧ W'.heap[g]? = W.heap[g]?
theorem KpB.refl (B g : Nat) (W : World) : KpB B g W W := ⟨rfl, rfl⟩
theorem KpB.trans {B g : Nat} {A C D : World} (h : KpB B g A C) (k : KpB B g C D) : KpB B g A D := ⟨k.1.trans h.1, k.2.trans h.2⟩
theorem KpB.drewN (B g : Nat) (W : World) (m : Nat) : KpB B g W (W.drewN m) := ⟨rfl, rfl⟩
theorem KpB.bytes {B g : Nat} {W W' : World} (h : KpB B g W W') {l : List Int} (hb : Bytes W (some ⟨g, 0, none⟩) l) : Bytes W' (some ⟨g, 0, none⟩) l := by
  refine ⟨hb.len, hb.wf, ?_⟩
  rcases hb.at_ with e | ⟨b, off, e, hc⟩
  · exact .inl e
  · cases e
    exact .inr ⟨_, _, rfl, fun i hi => (World.cell?_of_block h.2).trans (hc i hi)⟩
theorem KpB.box {B g : Nat} {W W' : World} (h : KpB B g W W') {v : Value} (hb : W.cell? ⟨B, 0, none⟩ = some v) : W'.cell? ⟨B, 0, none⟩ = some v := (World.cell?_of_block h.1).trans hb
theorem KpB.put {B g : Nat} {n : Nat} (hB : B < n) (hg : g < n) (W : World) (l : Nat) (o o' : Obj) (hl : n ≤ l) (_ : W.heap[l]? = some o) (_ : o.isCells = false) (_ : o.isWalk = false) : KpB B g W (W.putObj l o') := by
  have h1 : l ≠ B := by omega
  have h2 : l ≠ g := by omega
  exact ⟨by simp [World.putObj, h1], by simp [World.putObj, h2]⟩
theorem KpB.of_below {B g n : Nat} {W W' : World} (h : Below n W W') (hB : B < n) (hg : g < n) : KpB B g W W' := ⟨h.block B hB, h.block g hg⟩
set_option maxRecDepth 100000 in
set_option maxHeartbeats 4000000 in
theorem runs1_in (l : Nat) (B g cap : Nat) (s : List Int) (hlen : s.length ≤ 140737488355000) (J Jx : List (RwB s) → World → Prop)
    (hA : ∀ pre W m, J pre W → J pre (W.drewN m))
    (hY : ∀ pre x W, J pre W → pre.length < (runs s).length → YieldAt Fence.wide 4 Try.prog l x.enc W fun e W' => (e = .returned (.bool true) ∧ J (pre ++ [x]) W' ∧ KpB B g W W') ∨ (e = .returned (.bool false) ∧ Jx (pre ++ [x]) W'))
    (W : World) (hBs : W.cell? ⟨B, 0, none⟩ = some (.slice (some ⟨g, 0, none⟩) (s.length + 1) cap)) (hs : Bytes W (some ⟨g, 0, none⟩) (s ++ [255])) (h0 : J [] W) :
    CallsIn Fence.wide 5 Try.prog 59 #[.func (.yield l) #[] #[], .pointer (some ⟨B, 0, none⟩)] W fun e W' => (∃ v, e = .returned v) ∧ ((∃ ys : List (RwB s), ys.map (·.1) = runs s ∧ J ys W') ∨ (∃ pre : List (RwB s), pre.map (·.1) <+: runs s ∧ Jx pre W')) := by
  obtain ⟨t, ht⟩ : ∃ t, s ++ [(255 : Int)] = t := ⟨_, rfl⟩
  obtain ⟨N, hN⟩ : ∃ N, s.length + 1 = N := ⟨_, rfl⟩
  have htl : t.length = N := by rw [← ht, List.length_append]; exact hN
  rw [hN] at hBs
  rw [ht] at hs
  have HS : Hid (Bytes W (some ⟨g, 0, none⟩) t ∧ W.cell? ⟨B, 0, none⟩ = some (.slice (some ⟨g, 0, none⟩) N cap)) := ⟨hs, hBs⟩
  have hNb : N ≤ 140737488355001 := by omega
  refine callsIn_of_wp Try.func59 rfl trivial ?_ rfl
  simp only [Try.ntmps59, List.size_toArray, List.length_cons, List.length_nil, Nat.reduceAdd, Nat.reduceSub, Array.replicate_succ, Array.replicate_zero, List.push_toArray, List.append_toArray, List.nil_append, List.cons_append]
  refine wpIn_scope_straight ?_
  gi_wp2
  refine wpIn_label ?_
  gi_wp2
  gi_loopw [3, 8] (fun s3 s8 wr => ∃ (k o : Nat) (pre : List (RwB s)), k ≤ N ∧ s8 = .int .i64 (k : Int) ∧ s3 = .int .i64 (o : Int) ∧ o = offs t (8 * k) ∧ pre.map (·.1) = rows t (8 * k) ∧ J pre wr ∧ KpB B g W wr) (fun _ s8 _ => N - (intOf s8).toNat)
  case atStart => exact ⟨0, 0, [], Nat.zero_le _, rfl, rfl, rfl, rfl, h0, KpB.refl _ _ _⟩
  case round =>
    obtain ⟨k, o, pre, hk, rfl, rfl, ho, hpre, hJ, hb⟩ := hrel
    have HO : Hid (o = offs t (8 * k) ∧ pre.map (·.1) = rows t (8 * k) ∧ J pre wr ∧ KpB B g W wr) := ⟨ho, hpre, hJ, hb⟩
    clear ho hpre hJ hb
    by_cases hlt : k < N
    · have hlt' : (k : Int) < (N : Int) := by omega
      gi_wp2
      gi_loopw [3, 5] (fun s3 s5 wr => ∃ (i o : Nat) (pre : List (RwB s)), 8 * k ≤ i ∧ i ≤ 8 * k + 8 ∧ s5 = .int .i64 (i : Int) ∧ s3 = .int .i64 (o : Int) ∧ o = offs t i ∧ pre.map (·.1) = rows t i ∧ J pre wr ∧ KpB B g W wr) (fun _ s5 _ => 8 * k + 8 - (intOf s5).toNat)
      case atStart => exact ⟨8 * k, o, pre, Nat.le_refl _, by omega, (by congr 1; omega), rfl, HO.out⟩
      case round =>
        obtain ⟨i, o, pre, hi1, hi2, rfl, rfl, ho, hpre, hJ, hb⟩ := hrel
        have hol : o ≤ i := by rw [ho]; exact offs_le _ _
        have HO : Hid (o = offs t i ∧ pre.map (·.1) = rows t i ∧ J pre wr ∧ KpB B g W wr) := ⟨ho, hpre, hJ, hb⟩
        clear ho hpre hJ hb
        by_cases hlt2 : i < 8 * k + 8
        · have hlt2' : (i : Int) < ((k : Int) + 1) * 8 := by omega
          have hcell : wr.cell? ⟨B, 0, none⟩ = some (.slice (some ⟨g, 0, none⟩) N cap) := HO.out.2.2.2.box HS.out.2
          have CC : CallsIn Fence.wide 4 Try.prog 60 #[.slice (some ⟨g, 0, none⟩) N cap, .int .i64 (i : Int)] wr fun e w' => e = .returned (.bool (bt t i)) ∧ ∃ m, w' = wr.drewN m := callsIn_wide.2 (isOn_any wr ⟨g, 0, none⟩ N cap i t (HO.out.2.2.2.bytes HS.out.1) htl (by omega))
          have hfi : Fence.wide.fn 60 := trivial
          rcases hbit : bt t i with _ | _
          · rw [hbit] at CC
            gi_wp2_with (gi_at_call 60; refine CC.mono ?_; rintro e w' ⟨rfl, m, rfl⟩)
            go_roundw
            case rel =>
              have hz := (bt_not t i).1 hbit
              refine ⟨i + 1, o + 1, pre, by omega, by omega, (by go_num), (by go_num), ?_, ?_, hA _ _ _ HO.out.2.2.1, HO.out.2.2.2.trans (KpB.drewN _ _ wr m)⟩
              · rw [offs, if_pos hz, HO.out.1]
              · rw [rows, if_neg (by omega), List.append_nil, HO.out.2.1]
            case measure => simp [intOf]; omega
          · rw [hbit] at CC
            have hz := (bt_iff t i).1 hbit
            by_cases ho : 0 < o
            · have ho' : (0 : Int) < (o : Int) := by omega
              gi_wp2_with (gi_at_call 60; refine CC.mono ?_; rintro e w' ⟨rfl, m, rfl⟩; clear CC)
              have hr1 : bn (s ++ [255]) i = 1 := by rw [ht]; exact hz
              have hr2 : 0 < offs (s ++ [255]) i := by rw [ht, ← HO.out.1]; exact ho
              have hmem := mem_runs hr1 hr2 (by omega)
              have hlt3 := rows_lt hr1 hr2 (by omega)
              rw [ht, ← HO.out.1] at hmem
              rw [ht, ← HO.out.2.1, List.length_map] at hlt3
              obtain ⟨q, hq⟩ : ∃ q, i - o = q := ⟨_, rfl⟩
              rw [hq] at hmem
              have hqi : (i : Int) - (o : Int) = (q : Int) := by omega
              obtain ⟨fn, tmps, assign, body, hy, hR⟩ := hY pre ⟨(q, o), hmem⟩ (wr.drewN m) (hA _ _ _ HO.out.2.2.1) hlt3
              simp only [RwB.enc] at hy
              have HP : Hid ((pre ++ [(⟨(q, o), hmem⟩ : RwB s)]).map (·.1) = rows t (i + 1)) := by
                show _ = _
                rw [List.map_append, HO.out.2.1, rows, ← HO.out.1, hq, if_pos ⟨hz, ho⟩]; rfl
              rw [hqi, hy]
              gi_wp2
              refine hR.mono ?_
              rintro e W3 (⟨rfl, hJ3, hk3⟩ | ⟨rfl, hJx3⟩)
              · gi_wp2
                go_roundw
                case rel => exact ⟨i + 1, 0, _, by omega, by omega, (by go_num), rfl, (by rw [offs, if_neg (by omega)]), HP.out, hJ3, (HO.out.2.2.2.trans (KpB.drewN _ _ wr m)).trans hk3⟩
                case measure => simp [intOf]; omega
              · gi_wp2
                simp only [Exit.noGoto]
                go_end0
                refine ⟨⟨_, rfl⟩, .inr ⟨_, ?_, hJx3⟩⟩
                rw [HP.out, ← ht]
                exact rows_pre (by omega)
            · have ho' : ¬ ((0 : Int) < (o : Int)) := by omega
              gi_wp2_with (gi_at_call 60; refine CC.mono ?_; rintro e w' ⟨rfl, m, rfl⟩)
              refine ⟨fun _ h => (by cases h), ?_⟩
              gi_wp2
              go_roundw
              case rel =>
                refine ⟨i + 1, 0, pre, by omega, by omega, (by go_num), rfl, ?_, ?_, hA _ _ _ HO.out.2.2.1, HO.out.2.2.2.trans (KpB.drewN _ _ wr m)⟩
                · rw [offs, if_neg (by omega)]
                · have := HO.out.1
                  rw [rows, if_neg (by omega), List.append_nil, HO.out.2.1]
              case measure => simp [intOf]; omega
        · have hlt2' : ¬ ((i : Int) < ((k : Int) + 1) * 8) := by omega
          gi_wp2
          go_roundw
          case rel =>
            have e : i = 8 * (k + 1) := by omega
            subst e
            exact ⟨k + 1, o, pre, by omega, by go_num, rfl, HO.out⟩
          case measure => simp [intOf]; omega
    · have hlt' : ¬ ((k : Int) < (N : Int)) := by omega
      gi_wp2
      go_end0
      have e : k = s.length + 1 := by omega
      refine ⟨⟨_, rfl⟩, .inl ⟨pre, ?_, HO.out.2.2.1⟩⟩
      rw [HO.out.2.1, ← ht, e]
      exact (rows_all s 8 (by omega) (by omega)).1
/-- what Runs hands out may be gone through -/
theorem runs_stops (B g cap : Nat) (s : List Int) (w : World) (h : SeqAt w B g cap s) (hlen : s.length ≤ 140737488355000) :
    SeqStopsK Fence.wide 5 Try.prog 59 #[.pointer (some ⟨B, 0, none⟩)] (RwB.enc (l := s)) (KpB B g) (fun ys => ys.map (·.1) = runs s) (fun pre => pre.map (·.1) <+: runs s) (runs s).length w := fun l J Jx W hW hJ _ hY h0 =>
  runs1_in l B g cap s hlen J Jx (fun pre W' m hj => hJ pre W' _ none hj ⟨rfl, rfl, rfl, Nat.le_refl _, fun _ _ _ => rfl⟩ (fun r e => by cases e)) hY W ((hW.cell (p := ⟨B, 0, none⟩) h.ltB).trans h.box) (h.row.on hW) h0
end Go.Proofs.Ytpbpblpbjkegfaa

namespace Go.Proofs.Ytpbpblpbjkegfaa
open Go.RowKit Go.Shelf Rec
attribute [local go_sem] Oper.semAt_some

theorem fr_drewN {S : Nat → Prop} {w w' : World} (h : Fr S w w') (m : Nat) : Fr S w (w'.drewN m) := ⟨h.os, h.tape, h.output, h.size, h.block⟩
theorem frN (S : Nat → Prop) (w : World) (m : Nat) : Fr S w (w.drewN m) := ⟨rfl, rfl, rfl, Nat.le_refl _, fun _ _ _ => rfl⟩
theorem OwnB.drewN {w : World} {g cap : Nat} {l : List Int} (h : OwnB w g cap l) (m : Nat) : OwnB (w.drewN m) g cap l := h.on (drewN_below _ _)
/-- Put into a row of one's own -/
theorem put_own (w : World) (g n c cap i : Nat) (l : List Int) (on : Bool) (h : OwnB w g cap l) (hn : l.length = n) (hi : i < 8 * n) : Calls Try.prog 54 #[.slice (some ⟨g, 0, none⟩) n c, .int .i64 (i : Int), .bool on] w fun e w' => e = .returned (.int .i64 0) ∧ OwnB w' g cap (bput l i on) ∧ Fr (fun k => k = g) w w' := by
  have hc := h.cell (i / 8) (by omega)
  refine (put_raw w g n c i _ on hc (h.frozen _) (h.wf _) (by rw [← hn]; exact h.len) hi).mono ?_
  rintro e w' ⟨rfl, m, rfl⟩
  exact ⟨rfl, (h.set (i / 8) _ (by omega) (byt_bd _ _ _ (by omega) (h.wf _))).drewN m, fr_drewN Fr.set m⟩
/-- what lies at the bytes of the document -/
def b3 : List Int := [247, 255, 1]
theorem runs_b3 : runs b3 = [(3, 1), (17, 7)] := by decide
theorem b3_wf : ∀ i, 0 ≤ nth b3 i ∧ nth b3 i < 256 := wf_list (by decide)
def fsm (pre : List (Nat × Nat)) : Int := pre.foldl (fun z p => 100 * z + p.1 + p.2) 0
theorem fsm_snoc (pre : List (Nat × Nat)) (p : Nat × Nat) : fsm (pre ++ [p]) = 100 * fsm pre + p.1 + p.2 := by simp [fsm]
theorem fsm_bd (pre : List (RwB b3)) (h : pre.length < 2) : 0 ≤ fsm (pre.map (·.1)) ∧ fsm (pre.map (·.1)) ≤ 24 := by
  match pre, h with
  | [], _ => simp [fsm]
  | [x], _ =>
    have h1 := (runs_row x.2).top
    have h2 : fsm ([x].map (·.1)) = x.1.1 + x.1.2 := by simp [fsm]
    rw [h2]
    have h3 : b3.length = 3 := rfl
    omega
/-- between two rounds: the box S holds z; else nothing that lay has changed -/
structure BoxI (w : World) (S : Nat) (z : Int) (W : World) : Prop where
  cell : W.cell? ⟨S, 0, none⟩ = some (.int .i64 z)
  frozen : W.frozen? ⟨S, 0, none⟩ = false
  fr : Fr (fun k => k = S ∨ w.heap.size ≤ k) w W
theorem BoxI.own {β : Type} (w : World) (S : Nat) (z : β → Int) (hS : S < w.heap.size) : OwnFrom w.heap.size (fun pre W => BoxI w S (z pre) W) := fun pre W W' row h hg hr => by
  have hne : some S ≠ row := fun e => by have := (hr S e.symm).1; omega
  have hF : Fr (fun k => row = some k) W W' := ⟨hg.os, hg.tape, hg.output, hg.size, fun k hk hS => hg.block k hk (fun e => hS e.symm)⟩
  have hlt : S < W.heap.size := block_lt_of_cell h.cell
  refine ⟨hF.cell h.cell (fun e => hne e.symm), ?_, h.fr.trans hF (fun k hk => .inl (.inr (hr k hk).1))⟩
  have := hg.block S hlt hne
  rw [← h.frozen]
  simp only [World.frozen?, this]
theorem BoxI.set {w : World} {S : Nat} {z : Int} {W : World} (h : BoxI w S z W) (y : Int) : BoxI w S y (W.setCell ⟨S, 0, none⟩ (.int .i64 y)) := by
  refine ⟨World.cell?_setCell_same' _ _ _ (by rw [h.cell]; rfl), by rw [World.frozen?_setCell]; exact h.frozen, h.fr.trans Fr.set (fun k hk => .inl (.inl hk))⟩
theorem eql_seq (w : World) (f : Fn) (a b : Array Value) : (binOp .eql 95 (.func f a b) .nilFunc).run Try.prog w = .ok (.bool false) w := by
  have h : ∀ d : Nat, (Op.equalIn (d + 1) 95 (.func f a b) .nilFunc).run Try.prog w = .ok false w := fun d => by
    simp [Op.equalIn, run_underlying Try.underlying95]
  simp only [binOp]
  simp [Op.equal, Op.maxDepth, h 9999]
end Go.Proofs.Ytpbpblpbjkegfaa
