import Derived.Test.YtpbpblpbjkegfaaKBzA
import Derived.RangeFuncNested
import Derived.RangeFuncBound
import Derived.RangeFuncCalls
import Derived.RangeFuncLeaves
import Derived.RangeFuncWrites
import Derived.Shelf.Abstract
import Derived.Shelf.RegionOpen
import Derived.OwnWalkIn
import Derived.TacticsInMore
import Derived.LoopNIn
import Derived.LoopIn
import Derived.Scope
namespace Go.Proofs.Ytpbpblpbjkegfaa
open Go.RowKit Rec

def znB (m : Nat) : List Int := List.replicate m 0
theorem znB_length (m : Nat) : (znB m).length = m := by simp [znB]
theorem znB_cells (m : Nat) : Builtin.zeroCells (Value.int .u8 0).cells m = ((znB m).map (Value.int .u8)).toArray := by
  apply Array.ext'
  apply List.ext_getElem
  · simp [Builtin.zeroCells, znB, Value.cells]
  · intro i h1 h2
    simp [Builtin.zeroCells, znB, Value.cells, Nat.mod_one]
theorem run_zerosB_nil {w : World} {m : Nat} (ty : TypeId) (h0 : 0 < m) (h47 : m ≤ 140737488355328) :
    (Builtin.append_ #[22, 3] ty #[.slice none 0 0, .int .i64 m]).run Try.prog w =
      .ok (.slice (some ⟨w.heap.size, 0, none⟩) m (grownCap w m 0 5)) (w.drew.alloc (.cells (((znB m).map (Value.int .u8)).toArray ++ Builtin.zeroCells (Value.int .u8 0).cells (grownCap w m 0 5 - m)) 5)) := by
  obtain ⟨i0, hi, hz0, hz1, hz2⟩ := info_parts info5
  have hw : IntKind.i64.wrap (m : Int) = (m : Int) := by rw [IntKind.wrap_i64]; omega
  have c1 : ¬ ((m : Int) < 0) := by omega
  have c2 : ¬ ((281474976710656 : Int) < m) := by omega
  have c3 : ¬ m = 0 := by omega
  have h63' : ¬ (9223372036854775807 < (m : Int)) := by omega
  have h48 := growslice_fits (need := m) (old := 0) (bytes := 1) (by omega) (by omega)
  have h48' : ¬ (281474976710656 < Builtin.nextslicecap m 0) := by omega
  simp [Builtin.append_, run_underlying Try.underlying22, run_underlying Try.underlying3, sizeOf, typeInfo, zeroValue, hi, hz0, hz1, hz2, asInt, asIntOf, hw, Builtin.lenOf, znB_cells, c1, c2, c3, h63', h48', Question.forced, run_firstCells_none, newRow, grownCap]
/-- 'append(nil, make([]byte, m)...)' -/
theorem wp_zerosB_nil {ops : Array Oper} {rest : List Oper} {o : Oper} {a : Act} {Q : Exit → Act → World → Prop} {w : World} (hgd : o.guard = none) (s x : Operand)
    (ho : o.op = .call { callee := .builtin .append, args := #[s, x], argTypes := #[22, 3] }) (m : Nat) (hs : a.eval s = .slice none 0 0) (hx : a.eval x = .int .i64 m) (h0 : 0 < m) (h47 : m ≤ 140737488355328)
    (h : ∀ cap w', OwnB w' w.heap.size cap [] → Below w.heap.size w w' → wpList Try.prog ops Q rest (a.put o.dst (.slice (some ⟨w.heap.size, 0, none⟩) m cap)) w') :
    wpList Try.prog ops Q (o :: rest) a w := by
  have hrun := run_zerosB_nil (w := w) (m := m) o.type h0 h47
  refine wpList_plain hgd fun K hK => ?_
  unfold Oper.wp execOp
  simp only [ho, resolve, invoke, builtin, Sem.run_bind, Sem.run_pure, Result.andThen_ok, List.map_toArray, List.map_cons, List.map_nil, hs, hx, hrun]
  have hge := grownCap_ge w m 0 5
  refine hK _ _ (h _ _ ⟨⟨_, heap_alloc_new w.drew _, ?_, rfl⟩, by simp, by simp, grownCap_le_maxLen w _ _ _ (by unfold maxLen; omega), by intro i; simp [nth]⟩ (((Below.refl _ _).drew).alloc (Nat.le_refl _) _))
  have e1 : (Value.int .u8 0).cells.size = 1 := rfl
  simp only [Array.size_append, List.size_toArray, List.length_map, znB_length, size_zeroCells, e1]; omega
set_option maxRecDepth 100000 in
set_option maxHeartbeats 1600000 in
theorem growB_any (w : World) (n : Nat) (h0 : 0 < n) (h47 : n ≤ 140737488355328) :
    Calls Try.prog 74 #[.slice none 0 0, .int .i64 n] w fun e w' => ∃ g cap, e = .returned (.slice (some ⟨g, 0, none⟩) 0 cap) ∧ OwnB w' g cap [] ∧ w.heap.size ≤ g ∧ Below w.heap.size w w' := by
  go_enter Try.func74, Try.ntmps74
  go_wp2_with (at_builtin; refine wp_zerosB_nil rfl (.tmp 20) (.tmp 21) rfl n rfl rfl h0 (by omega) ?_; intro cap w1 ho hb; have H1 : Hid (OwnB w1 w.heap.size cap [] ∧ Below w.heap.size w w1) := ⟨ho, hb⟩; clear ho hb)
  go_ret
  exact ⟨_, _, rfl, H1.out.1, Nat.le_refl _, H1.out.2⟩
set_option maxRecDepth 100000 in
set_option maxHeartbeats 4000000 in
/-- slices.Concat(x, y) -/
theorem concat_two (w : World) (r c2 n c p1 : Nat) (a : Option Addr) (l : List Int) (hb : Bytes w a l) (hn : l.length = n) (hz : a = none → c = 0) (hb1 : Bytes w (some ⟨p1, 0, none⟩) [255]) (h47 : n ≤ 140737488355000)
    (hr0 : w.cell? ⟨r, 0, none⟩ = some (.slice a n c)) (hr1 : w.cell? ⟨r, 1, none⟩ = some (.slice (some ⟨p1, 0, none⟩) 1 1)) :
    Calls Try.prog 58 #[.slice (some ⟨r, 0, none⟩) 2 c2] w fun e w' => ∃ g cap, e = .returned (.slice (some ⟨g, 0, none⟩) (n + 1) cap) ∧ OwnB w' g cap (l ++ [255]) ∧ w.heap.size ≤ g ∧ Below w.heap.size w w' := by
  have HB : Hid (Bytes w a l ∧ l.length = n ∧ (a = none → c = 0) ∧ Bytes w (some ⟨p1, 0, none⟩) [255]) := ⟨hb, hn, hz, hb1⟩
  have HR : Hid (w.cell? ⟨r, 0, none⟩ = some (.slice a n c) ∧ w.cell? ⟨r, 1, none⟩ = some (.slice (some ⟨p1, 0, none⟩) 1 1)) := ⟨hr0, hr1⟩
  have hrl : r < w.heap.size := block_lt_of_cell hr0
  clear hb hn hz hb1
  go_enter Try.func58, Try.ntmps58
  go_wp2
  go_loop [3, 11] (fun s3 s11 => (s3 = .int .i64 0 ∧ s11 = .int .i64 0) ∨ (s3 = .int .i64 (n : Int) ∧ s11 = .int .i64 1) ∨ (s3 = .int .i64 ((n + 1 : Nat) : Int) ∧ s11 = .int .i64 2)) (fun _ s => 2 - (intOf s).toNat)
  case atStart => exact .inl ⟨rfl, rfl⟩
  case round =>
    rcases hrel with ⟨rfl, rfl⟩ | ⟨rfl, rfl⟩ | ⟨rfl, rfl⟩
    · go_wp2
      go_round
      case rel => exact .inr (.inl ⟨by go_num, rfl⟩)
      case measure => simp [intOf]
    · go_wp2
      go_round
      case rel => exact .inr (.inr ⟨by go_num, rfl⟩)
      case measure => simp [intOf]
    · go_wp2_with (go_at_call 74; refine (growB_any _ (n + 1) (by omega) (by omega)).mono ?_; rintro e w1 ⟨g1, cap1, rfl, ho, hg, hb⟩; have H1 : Hid (OwnB w1 g1 cap1 [] ∧ w.heap.size ≤ g1 ∧ Below w.heap.size w w1) := ⟨ho, hg, hb⟩; clear ho hg hb)
      clear hr0 hr1
      go_loopw [6, 27] (fun s6 s27 wr => ∃ (i g2 cap2 : Nat) (x : List Int), ((i = 0 ∧ x = []) ∨ (i = 1 ∧ x = l) ∨ (i = 2 ∧ x = l ++ [255])) ∧ s27 = .int .i64 i ∧ s6 = .slice (some ⟨g2, 0, none⟩) x.length cap2 ∧ OwnB wr g2 cap2 x ∧ w.heap.size ≤ g2 ∧ Below w.heap.size w wr) (fun _ s _ => 2 - (intOf s).toNat)
      case atStart => exact ⟨0, g1, cap1, [], .inl ⟨rfl, rfl⟩, rfl, rfl, H1.out⟩
      case round =>
        obtain ⟨i, g2, cap2, x, hx, rfl, rfl, ho, hg, hb⟩ := hrel
        have hr0 : wr.cell? ⟨r, 0, none⟩ = some (.slice a n c) := (hb.cell (p := ⟨r, 0, none⟩) hrl).trans HR.out.1
        have hr1 : wr.cell? ⟨r, 1, none⟩ = some (.slice (some ⟨p1, 0, none⟩) 1 1) := (hb.cell (p := ⟨r, 1, none⟩) hrl).trans HR.out.2
        have H2 : Hid (OwnB wr g2 cap2 x ∧ w.heap.size ≤ g2 ∧ Below w.heap.size w wr) := ⟨ho, hg, hb⟩
        clear ho hg hb
        rcases hx with ⟨rfl, rfl⟩ | ⟨rfl, hx⟩ | ⟨rfl, rfl⟩
        · go_wp2_with (at_builtin; refine wp_app rfl (.tmp 31) (.tmp 32) rfl w.heap.size g2 0 cap2 [] l rfl rfl H2.out.1 H2.out.2.1 H2.out.2.2.size a n c rfl HB.out.2.1 (HB.out.1.on H2.out.2.2) HB.out.2.2.1 (by omega) ?_; intro g3 cap3 w3 hg ho hb; have H3 : Hid (OwnB w3 g3 cap3 l ∧ w.heap.size ≤ g3 ∧ Below w.heap.size w w3) := ⟨ho, hg, H2.out.2.2.trans (below_of hb H2.out.2.1 H2.out.2.2.size)⟩; clear ho hg hb)
          go_round
          case rel => exact ⟨1, g3, cap3, l, .inr (.inl ⟨rfl, rfl⟩), rfl, by rw [HB.out.2.1], H3.out⟩
          case measure => simp [intOf]
        · subst hx
          obtain ⟨k, hk⟩ : ∃ k, x.length = k := ⟨_, rfl⟩
          have hkn : k = n := by rw [← hk]; exact HB.out.2.1
          rw [hk]
          go_wp2_with (at_builtin; refine wp_app rfl (.tmp 31) (.tmp 32) rfl w.heap.size g2 k cap2 x [255] hk rfl H2.out.1 H2.out.2.1 H2.out.2.2.size (some ⟨p1, 0, none⟩) 1 1 rfl rfl (HB.out.2.2.2.on H2.out.2.2) (fun e => by cases e) (by omega) ?_; intro g3 cap3 w3 hg ho hb; have H3 : Hid (OwnB w3 g3 cap3 (x ++ [255]) ∧ w.heap.size ≤ g3 ∧ Below w.heap.size w w3) := ⟨ho, hg, H2.out.2.2.trans (below_of hb H2.out.2.1 H2.out.2.2.size)⟩; clear ho hg hb)
          go_round
          case rel => exact ⟨2, g3, cap3, _, .inr (.inr ⟨rfl, rfl⟩), rfl, by rw [List.length_append, hk, hkn]; rfl, H3.out⟩
          case measure => simp [intOf]
        · obtain ⟨k, hk⟩ : ∃ k, (l ++ [(255 : Int)]).length = k := ⟨_, rfl⟩
          have hkn : k = n + 1 := by rw [← hk, List.length_append, HB.out.2.1]; rfl
          rw [hk]
          go_wp2
          go_ret
          subst hkn
          exact ⟨g2, cap2, rfl, H2.out⟩
/-- what Runs hands out: a closure over a box; the box holds the bytes and one more -/
structure SeqAt (w : World) (B g cap : Nat) (l : List Int) : Prop where
  box : w.cell? ⟨B, 0, none⟩ = some (.slice (some ⟨g, 0, none⟩) (l.length + 1) cap)
  row : Bytes w (some ⟨g, 0, none⟩) (l ++ [255])
theorem SeqAt.ltB {w : World} {B g cap : Nat} {l : List Int} (h : SeqAt w B g cap l) : B < w.heap.size := block_lt_of_cell h.box
theorem SeqAt.ltg {w : World} {B g cap : Nat} {l : List Int} (h : SeqAt w B g cap l) : g < w.heap.size := block_lt_of_cell (h.row.cell (i := 0) (by simp))
set_option maxRecDepth 100000 in
set_option maxHeartbeats 4000000 in
theorem runs_any (w : World) (n c : Nat) (a : Option Addr) (l : List Int) (hb : Bytes w a l) (hn : l.length = n) (hz : a = none → c = 0) (h47 : n ≤ 140737488355000) :
    Calls Try.prog 51 #[.slice a n c] w fun e w' => ∃ B g cap, e = .returned (.func (.func 59) #[] #[.pointer (some ⟨B, 0, none⟩)]) ∧ SeqAt w' B g cap l ∧ w.heap.size ≤ B ∧ w.heap.size ≤ g ∧ Below w.heap.size w w' := by
  have HB : Hid (Bytes w a l ∧ l.length = n ∧ (a = none → c = 0)) := ⟨hb, hn, hz⟩
  clear hb hn hz
  have HC : Hid (Calls Try.prog 58 #[.slice (some ⟨w.heap.size + 1, 0, none⟩) 2 2] ((w.alloc (.cells #[.int .u8 255] 5)).alloc (.cells #[.slice a n c, .slice (some ⟨w.heap.size, 0, none⟩) 1 1] 22)) fun e w' => ∃ g cap, e = .returned (.slice (some ⟨g, 0, none⟩) (n + 1) cap) ∧ OwnB w' g cap (l ++ [255]) ∧ w.heap.size ≤ g ∧ Below w.heap.size w w') := by
    have b1 : Below w.heap.size w (w.alloc (.cells #[.int .u8 255] 5)) := (Below.refl _ _).alloc (Nat.le_refl _) _
    have b2 : Below w.heap.size w ((w.alloc (.cells #[.int .u8 255] 5)).alloc (.cells #[.slice a n c, .slice (some ⟨w.heap.size, 0, none⟩) 1 1] 22)) := b1.alloc (by simp) _
    have hs : (w.alloc (.cells #[.int .u8 255] 5)).heap.size = w.heap.size + 1 := by simp
    have hx : (w.alloc (.cells #[.int .u8 255] 5)).heap[w.heap.size]? = some (.cells #[.int .u8 255] 5) := heap_alloc_new _ _
    have hx2 : ((w.alloc (.cells #[.int .u8 255] 5)).alloc (.cells #[.slice a n c, .slice (some ⟨w.heap.size, 0, none⟩) 1 1] 22)).heap[w.heap.size + 1]? = some (.cells #[.slice a n c, .slice (some ⟨w.heap.size, 0, none⟩) 1 1] 22) := by rw [← hs]; exact heap_alloc_new _ _
    have hx3 : ((w.alloc (.cells #[.int .u8 255] 5)).alloc (.cells #[.slice a n c, .slice (some ⟨w.heap.size, 0, none⟩) 1 1] 22)).heap[w.heap.size]? = some (.cells #[.int .u8 255] 5) := (Below.heap_alloc _ _ _ (by simp)).trans hx
    refine (concat_two _ (w.heap.size + 1) 2 n c w.heap.size a l (HB.out.1.on b2) HB.out.2.1 HB.out.2.2 ⟨by simp, wf_list (by decide), .inr ⟨_, 0, rfl, fun i hi => ?_⟩⟩ h47 ?_ ?_).mono ?_
    · obtain rfl : i = 0 := by simpa using hi
      rw [cell_of_row _ _ _ _ _ _ hx3]; rfl
    · rw [cell_of_row _ _ _ _ _ _ hx2]; rfl
    · rw [cell_of_row _ _ _ _ _ _ hx2]; rfl
    · rintro e w' ⟨g, cap, rfl, ho, hg, hb⟩
      exact ⟨g, cap, rfl, ho, by simp at hg; omega, b2.trans (hb.mono (by simp; omega))⟩
  go_enter Try.func51, Try.ntmps51
  go_wp2_with (go_at_call 58; refine HC.out.mono ?_; rintro e w2 ⟨g, cap, rfl, ho, hg, hb⟩; have H1 : Hid (OwnB w2 g cap (l ++ [255]) ∧ Below w.heap.size w w2) := ⟨ho, hb⟩; clear ho hb)
  go_ret
  have hnew : (w2.alloc (.cells #[.slice (some ⟨g, 0, none⟩) (n + 1) cap] 22)).heap[w2.heap.size]? = some (.cells #[.slice (some ⟨g, 0, none⟩) (n + 1) cap] 22) := heap_alloc_new _ _
  refine ⟨w2.heap.size, g, cap, rfl, ⟨?_, (H1.out.1.on ((Below.refl _ _).alloc (Nat.le_refl _) _)).bytes⟩, H1.out.2.size, hg, H1.out.2.alloc H1.out.2.size _⟩
  rw [cell_of_row _ _ _ _ _ _ hnew, HB.out.2.1]; rfl
end Go.Proofs.Ytpbpblpbjkegfaa

namespace Go.Proofs.Ytpbpblpbjkegfaa
open Go.RowKit Go.Shelf Rec

section
variable {P : Program} {F : Fence} {n : Nat} {b : Frame} {a : Act} {k : List Item} {cs : List Frame} {w : World} {Q : Exit → Act → World → Prop}
theorem stepR_scope {c : Code} : step P (lone (b.atR a (.code (.scope c) :: k)) cs w) = .next (lone (b.atR a (.code c :: .inScope c :: k)) cs w) :=
  step_lone_go (by simp [stepG, stepG.exec, Frame.atR])
theorem stepR_inScope {c : Code} : step P (lone (b.atR a (.inScope c :: k)) cs w) = .next (lone (b.atR a k) cs w) :=
  step_lone_go (by simp [stepG, stepG.exec, Frame.atR])
/-- a label's scope that no goto leaves, inside a fence -/
theorem wpIn_scope_straight {c : Code} (h : c.wpIn F n P (Exit.noGoto Q) a w) : (Code.scope c).wpIn F n P Q a w := by
  intro b k cs hro hb hr
  have h0 : (lone (b.atR a (.code (.scope c) :: k)) cs w).fenced P F := fenced_calm hb hr rfl
  obtain ⟨e, a₁, w₁, hq, harr⟩ := h b (.inScope c :: k) cs hro hb hr
  cases e with
  | normal => exact ⟨.normal, a₁, w₁, hq, .head h0 stepR_scope (StepsIn.trans harr (.one (fenced_calm hb hr rfl) stepR_inScope))⟩
  | exit id =>
    have hx : exitTo id (.inScope c :: k) = exitTo id k := by simp [exitTo]
    exact ⟨_, a₁, w₁, hq, fun k' hk => .head h0 stepR_scope (harr.1 k' (by rw [hx]; exact hk)),
      fun hr' hk => let ⟨k₁, h1, h2⟩ := harr.2 hr' (by rw [hx]; exact hk); ⟨k₁, h1, .head h0 stepR_scope h2⟩⟩
  | goto l => exact hq.elim
  | ret => exact ⟨_, a₁, w₁, hq, .of_steps (.one h0 stepR_scope) harr⟩
  | panic ch => exact ⟨_, a₁, w₁, hq, .of_steps (.one h0 stepR_scope) harr⟩
  | outgrown => exact ⟨_, a₁, w₁, hq, .of_steps (.one h0 stepR_scope) harr⟩
end
end Go.Proofs.Ytpbpblpbjkegfaa
