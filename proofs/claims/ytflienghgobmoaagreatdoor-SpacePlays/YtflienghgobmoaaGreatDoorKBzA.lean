import Derived.Test.YtflienghgobmoaaGreatDoorKOwn
import Derived.Deep.DeepCutAuto
import Derived.BigRegion
import Derived.RangeFuncNested
import Derived.RangeFuncBound
import Derived.RangeFuncCalls
import Derived.RangeFuncLeaves
import Derived.RangeFuncWrites
import Derived.Shelf.Abstract
import Derived.Shelf.RegionOpen
import Derived.OwnWalkIn
import Derived.TacticsInMore
import Derived.LoopNIn
import Derived.LoopIn
import Derived.Scope
namespace Go.Proofs.YtflienghgobmoaaGreatDoor
open Go.RowKit Rec

theorem length_any (w : World) (a : Option Addr) (n c : Nat) (hn : n ≤ 1000000000000000) : Calls Tryz.prog 165 #[.slice a n c] w fun e w' => e = .returned (.int .i64 ((8 * n : Nat) : Int)) ∧ w = w' := by
  go_enter Tryz.func165, Tryz.ntmps165
  go_wp2
  go_ret
  exact ⟨by go_num, rfl⟩
theorem pow_256 (n : Nat) : ((2 : Int) ^ (n % 8)) % 256 = 2 ^ (n % 8) := by
  rcases pow2 (n % 8) (by omega) with e | e | e | e | e | e | e | e <;> rw [e] <;> rfl
theorem mask_any (w : World) (n : Nat) (hn : n ≤ 9000000000000000000) : Calls Tryz.prog 145 #[.int .i64 (n : Int)] w fun e w' => e = .returned (.int .u8 (2 ^ (n % 8))) ∧ w = w' := by
  go_enter Tryz.func145, Tryz.ntmps145
  go_wp2
  go_ret
  refine ⟨?_, rfl⟩
  have := pow_256 n
  simp [this]
theorem isBit_any (w : World) (a : Option Addr) (n c : Nat) (i : Int) (hn : n ≤ 1000000000000000) : Calls Tryz.prog 143 #[.slice a n c, .int .i64 i] w fun e w' => e = .returned (.bool (decide (0 ≤ i ∧ i < (8 * n : Nat)))) ∧ w = w' := by
  go_enter Tryz.func143, Tryz.ntmps143
  by_cases h0 : 0 ≤ i
  · go_wp2_with (go_at_call 165; refine (length_any _ a n c hn).mono ?_; rintro e w' ⟨rfl, rfl⟩)
    go_ret
    simp [h0]
  · have h0' : i < 0 := by omega
    go_wp2
    go_ret
    simp; omega
theorem bits_u8 (x : Int) (k : Nat) (hx : 0 ≤ x ∧ x < 256) (hk : k < 8) : bits .and .u8 x (2 ^ k) = x / 2 ^ k % 2 * 2 ^ k ∧ bits .or .u8 x (2 ^ k) = byt x k true ∧ bits .andNot .u8 x (2 ^ k) = byt x k false := by
  have H : ∀ k, k < 8 → ∀ x, x < 256 → bits .and .u8 ((x : Nat) : Int) (2 ^ k) = ((x : Nat) : Int) / 2 ^ k % 2 * 2 ^ k ∧ bits .or .u8 (x : Nat) (2 ^ k) = byt (x : Nat) k true ∧ bits .andNot .u8 (x : Nat) (2 ^ k) = byt (x : Nat) k false := by decide +kernel
  obtain ⟨n, rfl⟩ := Int.eq_ofNat_of_zero_le hx.1
  exact H k hk n (by omega)
theorem on_is (x : Int) (k : Nat) (hx : 0 ≤ x ∧ x < 256) (hk : k < 8) : (bits .and .u8 x (2 ^ k) != 0) = (x / 2 ^ k % 2 == 1) := by
  rw [(bits_u8 x k hx hk).1]
  have h1 : x / 2 ^ k % 2 = 0 ∨ x / 2 ^ k % 2 = 1 := by omega
  rcases h1 with e | e
  · rw [e, Int.zero_mul]; rfl
  · rw [e]
    rcases pow2 k hk with e | e | e | e | e | e | e | e <;> rw [e] <;> rfl
theorem isOn_any (w : World) (a : Addr) (n c i : Nat) (l : List Int) (hb : Bytes w (some a) l) (hn : l.length = n) (hi : i < 8 * n) : Calls Tryz.prog 144 #[.slice (some a) n c, .int .i64 (i : Int)] w fun e w' => e = .returned (.bool (bt l i)) ∧ ∃ m, w' = w.drewN m := by
  obtain ⟨b, off, rfl, hc⟩ : ∃ b off, a = ⟨b, off, none⟩ ∧ w.cell? ⟨b, off + i / 8, none⟩ = some (.int .u8 (nth l (i / 8))) := by
    rcases hb.at_ with e | ⟨b, off, e, hc⟩
    · subst e; simp at hn; omega
    · cases e; exact ⟨b, off, rfl, hc _ (by omega)⟩
  have hx := hb.wf (i / 8)
  have hlen := hb.len
  obtain ⟨x, hxe⟩ : ∃ x, nth l (i / 8) = x := ⟨_, rfl⟩
  rw [hxe] at hc hx
  have HB : Hid (nth l (i / 8) = x ∧ l.length ≤ 1000000000000000) := ⟨hxe, hlen⟩
  have hn' : n ≤ 1000000000000000 := by omega
  clear hb hn hxe hlen
  obtain ⟨q, hq⟩ : ∃ q, i / 8 = q := ⟨_, rfl⟩
  have hqi : (i : Int) / 8 = (q : Int) := by omega
  rw [hq] at hc
  have hqn : q < n := by omega
  have hqn' : (q : Int) < (n : Int) := by omega
  have hwr : IntKind.i64.wrap (q : Int) = (q : Int) := by have := HB.out.2; have := hn'; rw [IntKind.wrap_i64]; omega
  go_enter Tryz.func144, Tryz.ntmps144
  go_upto_region 1 with (fail)
  go_quiet (first | (go_at_call 145; refine Calls.quiet_of_same ((mask_any _ i (by omega)).mono (fun e w' h => ⟨h.1, h.2.symm⟩))))
  (try go_wp2)
  go_ret
  refine ⟨?_, nq, rfl⟩
  show Ending.returned (Value.bool (bits BinOp.and IntKind.u8 x (2 ^ (i % 8)) != 0)) = _
  rw [on_is x (i % 8) hx (by omega), ← HB.out.1]
  rfl
theorem drewN_below (w : World) (n : Nat) : Below w.heap.size w (w.drewN n) := ⟨rfl, rfl, rfl, Nat.le_refl _, fun _ _ => rfl⟩
theorem Bytes.drewN {w : World} {a : Option Addr} {l : List Int} (h : Bytes w a l) (m : Nat) : Bytes (w.drewN m) a l := h.on (drewN_below _ _)
/-- Get -/
theorem get_yes (w : World) (a : Addr) (n c i : Nat) (l : List Int) (hb : Bytes w (some a) l) (hn : l.length = n) (hi : i < 8 * n) : Calls Tryz.prog 109 #[.slice (some a) n c, .int .i64 (i : Int)] w fun e w' => e = .returned (.tuple #[.bool (bt l i), .int .i64 0]) ∧ ∃ m, w' = w.drewN m := by
  have hn' : n ≤ 1000000000000000 := by rw [← hn]; exact hb.len
  have HB : Hid (Bytes w (some a) l ∧ l.length = n) := ⟨hb, hn⟩
  clear hb hn
  have hd : decide ((0 : Int) ≤ (i : Int) ∧ (i : Int) < ((8 * n : Nat) : Int)) = true := by simp; omega
  go_enter Tryz.func109, Tryz.ntmps109
  go_wp2_with (first
    | (go_at_call 143; refine (isBit_any _ _ n c i hn').mono ?_; rw [hd]; rintro e w' ⟨rfl, rfl⟩)
    | (go_at_call 144; refine (isOn_any _ a n c i l HB.out.1 HB.out.2 hi).mono ?_; rintro e w' ⟨rfl, m, rfl⟩))
  go_ret2
  exact ⟨rfl, _, rfl⟩
end Go.Proofs.YtflienghgobmoaaGreatDoor

namespace Go.Proofs.YtflienghgobmoaaGreatDoor
open Go.RowKit Rec

/-- Put: at an owned row's beginning -/
theorem put_raw (w : World) (g n c i : Nat) (x : Int) (on : Bool) (hc : w.cell? ⟨g, i / 8, none⟩ = some (.int .u8 x)) (hf : w.frozen? ⟨g, i / 8, none⟩ = false) (hx : 0 ≤ x ∧ x < 256) (hn : n ≤ 1000000000000000) (hi : i < 8 * n) : Calls Tryz.prog 110 #[.slice (some ⟨g, 0, none⟩) n c, .int .i64 (i : Int), .bool on] w fun e w' => e = .returned (.int .i64 0) ∧ ∃ m, w' = (w.setCell ⟨g, i / 8, none⟩ (.int .u8 (byt x (i % 8) on))).drewN m := by
  have hd : decide ((0 : Int) ≤ (i : Int) ∧ (i : Int) < ((8 * n : Nat) : Int)) = true := by simp; omega
  obtain ⟨q, hq⟩ : ∃ q, i / 8 = q := ⟨_, rfl⟩
  rw [hq] at hc hf ⊢
  have hqi : (i : Int) / 8 = (q : Int) := by omega
  have hqn : q < n := by omega
  have hqn' : (q : Int) < (n : Int) := by omega
  have hwr : IntKind.i64.wrap (q : Int) = (q : Int) := by rw [IntKind.wrap_i64]; omega
  have hb1 := (bits_u8 x (i % 8) hx (by omega)).2
  go_enter Tryz.func110, Tryz.ntmps110
  cases on with
  | true =>
    go_upto_region 4 with (go_at_call 143; refine (isBit_any _ _ n c i hn).mono ?_; rw [hd]; rintro e w' ⟨rfl, rfl⟩)
    go_region_with (go_at_call 145; refine (mask_any _ i (by omega)).mono ?_; rintro e w' ⟨rfl, rfl⟩)
    all_goals (try go_wp2)
    all_goals (go_ret; exact ⟨rfl, 1, rfl⟩)
  | false =>
    go_upto_region 5 with (go_at_call 143; refine (isBit_any _ _ n c i hn).mono ?_; rw [hd]; rintro e w' ⟨rfl, rfl⟩)
    go_region_with (go_at_call 145; refine (mask_any _ i (by omega)).mono ?_; rintro e w' ⟨rfl, rfl⟩)
    all_goals (try go_wp2)
    all_goals (go_ret; exact ⟨rfl, 1, rfl⟩)
end Go.Proofs.YtflienghgobmoaaGreatDoor

namespace Go.Proofs.YtflienghgobmoaaGreatDoor
open Go.RowKit Rec

def znB (m : Nat) : List Int := List.replicate m 0
theorem znB_length (m : Nat) : (znB m).length = m := by simp [znB]
theorem znB_cells (m : Nat) : Builtin.zeroCells (Value.int .u8 0).cells m = ((znB m).map (Value.int .u8)).toArray := by
  apply Array.ext'
  apply List.ext_getElem
  · simp [Builtin.zeroCells, znB, Value.cells]
  · intro i h1 h2
    simp [Builtin.zeroCells, znB, Value.cells, Nat.mod_one]
theorem run_zerosB_nil {w : World} {m : Nat} (ty : TypeId) (h0 : 0 < m) (h47 : m ≤ 140737488355328) :
    (Builtin.append_ #[22, 3] ty #[.slice none 0 0, .int .i64 m]).run Tryz.prog w =
      .ok (.slice (some ⟨w.heap.size, 0, none⟩) m (grownCap w m 0 5)) (w.drew.alloc (.cells (((znB m).map (Value.int .u8)).toArray ++ Builtin.zeroCells (Value.int .u8 0).cells (grownCap w m 0 5 - m)) 5)) := by
  obtain ⟨i0, hi, hz0, hz1, hz2⟩ := info_parts info5
  have hw : IntKind.i64.wrap (m : Int) = (m : Int) := by rw [IntKind.wrap_i64]; omega
  have c1 : ¬ ((m : Int) < 0) := by omega
  have c2 : ¬ ((281474976710656 : Int) < m) := by omega
  have c3 : ¬ m = 0 := by omega
  have h63' : ¬ (9223372036854775807 < (m : Int)) := by omega
  have h48 := growslice_fits (need := m) (old := 0) (bytes := 1) (by omega) (by omega)
  have h48' : ¬ (281474976710656 < Builtin.nextslicecap m 0) := by omega
  simp [Builtin.append_, run_underlying Tryz.underlying22, run_underlying Tryz.underlying3, sizeOf, typeInfo, zeroValue, hi, hz0, hz1, hz2, asInt, asIntOf, hw, Builtin.lenOf, znB_cells, c1, c2, c3, h63', h48', Question.forced, run_firstCells_none, newRow, grownCap]
/-- 'append(nil, make([]byte, m)...)' -/
theorem wp_zerosB_nil {ops : Array Oper} {rest : List Oper} {o : Oper} {a : Act} {Q : Exit → Act → World → Prop} {w : World} (hgd : o.guard = none) (s x : Operand)
    (ho : o.op = .call { callee := .builtin .append, args := #[s, x], argTypes := #[22, 3] }) (m : Nat) (hs : a.eval s = .slice none 0 0) (hx : a.eval x = .int .i64 m) (h0 : 0 < m) (h47 : m ≤ 140737488355328)
    (h : ∀ cap w', OwnB w' w.heap.size cap [] → Below w.heap.size w w' → wpList Tryz.prog ops Q rest (a.put o.dst (.slice (some ⟨w.heap.size, 0, none⟩) m cap)) w') :
    wpList Tryz.prog ops Q (o :: rest) a w := by
  have hrun := run_zerosB_nil (w := w) (m := m) o.type h0 h47
  refine wpList_plain hgd fun K hK => ?_
  unfold Oper.wp execOp
  simp only [ho, resolve, invoke, builtin, Sem.run_bind, Sem.run_pure, Result.andThen_ok, List.map_toArray, List.map_cons, List.map_nil, hs, hx, hrun]
  have hge := grownCap_ge w m 0 5
  refine hK _ _ (h _ _ ⟨⟨_, heap_alloc_new w.drew _, ?_, rfl⟩, by simp, by simp, grownCap_le_maxLen w _ _ _ (by unfold maxLen; omega), by intro i; simp [nth]⟩ (((Below.refl _ _).drew).alloc (Nat.le_refl _) _))
  have e1 : (Value.int .u8 0).cells.size = 1 := rfl
  simp only [Array.size_append, List.size_toArray, List.length_map, znB_length, size_zeroCells, e1]; omega
set_option maxRecDepth 100000 in
set_option maxHeartbeats 1600000 in
theorem growB_any (w : World) (n : Nat) (h0 : 0 < n) (h47 : n ≤ 140737488355328) :
    Calls Tryz.prog 166 #[.slice none 0 0, .int .i64 n] w fun e w' => ∃ g cap, e = .returned (.slice (some ⟨g, 0, none⟩) 0 cap) ∧ OwnB w' g cap [] ∧ w.heap.size ≤ g ∧ Below w.heap.size w w' := by
  go_enter Tryz.func166, Tryz.ntmps166
  go_wp2_with (at_builtin; refine wp_zerosB_nil rfl (.tmp 20) (.tmp 21) rfl n rfl rfl h0 (by omega) ?_; intro cap w1 ho hb; have H1 : Hid (OwnB w1 w.heap.size cap [] ∧ Below w.heap.size w w1) := ⟨ho, hb⟩; clear ho hb)
  go_ret
  exact ⟨_, _, rfl, H1.out.1, Nat.le_refl _, H1.out.2⟩
set_option maxRecDepth 100000 in
set_option maxHeartbeats 4000000 in
/-- slices.Concat(x, y) -/
theorem concat_two (w : World) (r c2 n c p1 : Nat) (a : Option Addr) (l : List Int) (hb : Bytes w a l) (hn : l.length = n) (hz : a = none → c = 0) (hb1 : Bytes w (some ⟨p1, 0, none⟩) [255]) (h47 : n ≤ 140737488355000)
    (hr0 : w.cell? ⟨r, 0, none⟩ = some (.slice a n c)) (hr1 : w.cell? ⟨r, 1, none⟩ = some (.slice (some ⟨p1, 0, none⟩) 1 1)) :
    Calls Tryz.prog 146 #[.slice (some ⟨r, 0, none⟩) 2 c2] w fun e w' => ∃ g cap, e = .returned (.slice (some ⟨g, 0, none⟩) (n + 1) cap) ∧ OwnB w' g cap (l ++ [255]) ∧ w.heap.size ≤ g ∧ Below w.heap.size w w' := by
  have HB : Hid (Bytes w a l ∧ l.length = n ∧ (a = none → c = 0) ∧ Bytes w (some ⟨p1, 0, none⟩) [255]) := ⟨hb, hn, hz, hb1⟩
  have HR : Hid (w.cell? ⟨r, 0, none⟩ = some (.slice a n c) ∧ w.cell? ⟨r, 1, none⟩ = some (.slice (some ⟨p1, 0, none⟩) 1 1)) := ⟨hr0, hr1⟩
  have hrl : r < w.heap.size := block_lt_of_cell hr0
  clear hb hn hz hb1
  go_enter Tryz.func146, Tryz.ntmps146
  go_wp2
  go_loop [3, 11] (fun s3 s11 => (s3 = .int .i64 0 ∧ s11 = .int .i64 0) ∨ (s3 = .int .i64 (n : Int) ∧ s11 = .int .i64 1) ∨ (s3 = .int .i64 ((n + 1 : Nat) : Int) ∧ s11 = .int .i64 2)) (fun _ s => 2 - (intOf s).toNat)
  case atStart => exact .inl ⟨rfl, rfl⟩
  case round =>
    rcases hrel with ⟨rfl, rfl⟩ | ⟨rfl, rfl⟩ | ⟨rfl, rfl⟩
    · go_wp2
      go_round
      case rel => exact .inr (.inl ⟨by go_num, rfl⟩)
      case measure => simp [intOf]
    · go_wp2
      go_round
      case rel => exact .inr (.inr ⟨by go_num, rfl⟩)
      case measure => simp [intOf]
    · go_wp2_with (go_at_call 166; refine (growB_any _ (n + 1) (by omega) (by omega)).mono ?_; rintro e w1 ⟨g1, cap1, rfl, ho, hg, hb⟩; have H1 : Hid (OwnB w1 g1 cap1 [] ∧ w.heap.size ≤ g1 ∧ Below w.heap.size w w1) := ⟨ho, hg, hb⟩; clear ho hg hb)
      clear hr0 hr1
      go_loopw [6, 27] (fun s6 s27 wr => ∃ (i g2 cap2 : Nat) (x : List Int), ((i = 0 ∧ x = []) ∨ (i = 1 ∧ x = l) ∨ (i = 2 ∧ x = l ++ [255])) ∧ s27 = .int .i64 i ∧ s6 = .slice (some ⟨g2, 0, none⟩) x.length cap2 ∧ OwnB wr g2 cap2 x ∧ w.heap.size ≤ g2 ∧ Below w.heap.size w wr) (fun _ s _ => 2 - (intOf s).toNat)
      case atStart => exact ⟨0, g1, cap1, [], .inl ⟨rfl, rfl⟩, rfl, rfl, H1.out⟩
      case round =>
        obtain ⟨i, g2, cap2, x, hx, rfl, rfl, ho, hg, hb⟩ := hrel
        have hr0 : wr.cell? ⟨r, 0, none⟩ = some (.slice a n c) := (hb.cell (p := ⟨r, 0, none⟩) hrl).trans HR.out.1
        have hr1 : wr.cell? ⟨r, 1, none⟩ = some (.slice (some ⟨p1, 0, none⟩) 1 1) := (hb.cell (p := ⟨r, 1, none⟩) hrl).trans HR.out.2
        have H2 : Hid (OwnB wr g2 cap2 x ∧ w.heap.size ≤ g2 ∧ Below w.heap.size w wr) := ⟨ho, hg, hb⟩
        clear ho hg hb
        rcases hx with ⟨rfl, rfl⟩ | ⟨rfl, hx⟩ | ⟨rfl, rfl⟩
        · go_wp2_with (at_builtin; refine wp_app rfl (.tmp 31) (.tmp 32) rfl w.heap.size g2 0 cap2 [] l rfl rfl H2.out.1 H2.out.2.1 H2.out.2.2.size a n c rfl HB.out.2.1 (HB.out.1.on H2.out.2.2) HB.out.2.2.1 (by omega) ?_; intro g3 cap3 w3 hg ho hb; have H3 : Hid (OwnB w3 g3 cap3 l ∧ w.heap.size ≤ g3 ∧ Below w.heap.size w w3) := ⟨ho, hg, H2.out.2.2.trans (below_of hb H2.out.2.1 H2.out.2.2.size)⟩; clear ho hg hb)
          go_round
          case rel => exact ⟨1, g3, cap3, l, .inr (.inl ⟨rfl, rfl⟩), rfl, by rw [HB.out.2.1], H3.out⟩
          case measure => simp [intOf]
        · subst hx
          obtain ⟨k, hk⟩ : ∃ k, x.length = k := ⟨_, rfl⟩
          have hkn : k = n := by rw [← hk]; exact HB.out.2.1
          rw [hk]
          go_wp2_with (at_builtin; refine wp_app rfl (.tmp 31) (.tmp 32) rfl w.heap.size g2 k cap2 x [255] hk rfl H2.out.1 H2.out.2.1 H2.out.2.2.size (some ⟨p1, 0, none⟩) 1 1 rfl rfl (HB.out.2.2.2.on H2.out.2.2) (fun e => by cases e) (by omega) ?_; intro g3 cap3 w3 hg ho hb; have H3 : Hid (OwnB w3 g3 cap3 (x ++ [255]) ∧ w.heap.size ≤ g3 ∧ Below w.heap.size w w3) := ⟨ho, hg, H2.out.2.2.trans (below_of hb H2.out.2.1 H2.out.2.2.size)⟩; clear ho hg hb)
          go_round
          case rel => exact ⟨2, g3, cap3, _, .inr (.inr ⟨rfl, rfl⟩), rfl, by rw [List.length_append, hk, hkn]; rfl, H3.out⟩
          case measure => simp [intOf]
        · obtain ⟨k, hk⟩ : ∃ k, (l ++ [(255 : Int)]).length = k := ⟨_, rfl⟩
          have hkn : k = n + 1 := by rw [← hk, List.length_append, HB.out.2.1]; rfl
          rw [hk]
          go_wp2
          go_ret
          subst hkn
          exact ⟨g2, cap2, rfl, H2.out⟩
/-- what Runs hands out: a closure over a box; the box holds the bytes and one more -/
structure SeqAt (w : World) (B g cap : Nat) (l : List Int) : Prop where
  box : w.cell? ⟨B, 0, none⟩ = some (.slice (some ⟨g, 0, none⟩) (l.length + 1) cap)
  row : Bytes w (some ⟨g, 0, none⟩) (l ++ [255])
theorem SeqAt.ltB {w : World} {B g cap : Nat} {l : List Int} (h : SeqAt w B g cap l) : B < w.heap.size := block_lt_of_cell h.box
theorem SeqAt.ltg {w : World} {B g cap : Nat} {l : List Int} (h : SeqAt w B g cap l) : g < w.heap.size := block_lt_of_cell (h.row.cell (i := 0) (by simp))
set_option maxRecDepth 100000 in
set_option maxHeartbeats 4000000 in
theorem runs_any (w : World) (n c : Nat) (a : Option Addr) (l : List Int) (hb : Bytes w a l) (hn : l.length = n) (hz : a = none → c = 0) (h47 : n ≤ 140737488355000) :
    Calls Tryz.prog 113 #[.slice a n c] w fun e w' => ∃ B g cap, e = .returned (.func (.func 147) #[] #[.pointer (some ⟨B, 0, none⟩)]) ∧ SeqAt w' B g cap l ∧ w.heap.size ≤ B ∧ w.heap.size ≤ g ∧ Below w.heap.size w w' := by
  have HB : Hid (Bytes w a l ∧ l.length = n ∧ (a = none → c = 0)) := ⟨hb, hn, hz⟩
  clear hb hn hz
  have HC : Hid (Calls Tryz.prog 146 #[.slice (some ⟨w.heap.size + 1, 0, none⟩) 2 2] ((w.alloc (.cells #[.int .u8 255] 5)).alloc (.cells #[.slice a n c, .slice (some ⟨w.heap.size, 0, none⟩) 1 1] 22)) fun e w' => ∃ g cap, e = .returned (.slice (some ⟨g, 0, none⟩) (n + 1) cap) ∧ OwnB w' g cap (l ++ [255]) ∧ w.heap.size ≤ g ∧ Below w.heap.size w w') := by
    have b1 : Below w.heap.size w (w.alloc (.cells #[.int .u8 255] 5)) := (Below.refl _ _).alloc (Nat.le_refl _) _
    have b2 : Below w.heap.size w ((w.alloc (.cells #[.int .u8 255] 5)).alloc (.cells #[.slice a n c, .slice (some ⟨w.heap.size, 0, none⟩) 1 1] 22)) := b1.alloc (by simp) _
    have hs : (w.alloc (.cells #[.int .u8 255] 5)).heap.size = w.heap.size + 1 := by simp
    have hx : (w.alloc (.cells #[.int .u8 255] 5)).heap[w.heap.size]? = some (.cells #[.int .u8 255] 5) := heap_alloc_new _ _
    have hx2 : ((w.alloc (.cells #[.int .u8 255] 5)).alloc (.cells #[.slice a n c, .slice (some ⟨w.heap.size, 0, none⟩) 1 1] 22)).heap[w.heap.size + 1]? = some (.cells #[.slice a n c, .slice (some ⟨w.heap.size, 0, none⟩) 1 1] 22) := by rw [← hs]; exact heap_alloc_new _ _
    have hx3 : ((w.alloc (.cells #[.int .u8 255] 5)).alloc (.cells #[.slice a n c, .slice (some ⟨w.heap.size, 0, none⟩) 1 1] 22)).heap[w.heap.size]? = some (.cells #[.int .u8 255] 5) := (Below.heap_alloc _ _ _ (by simp)).trans hx
    refine (concat_two _ (w.heap.size + 1) 2 n c w.heap.size a l (HB.out.1.on b2) HB.out.2.1 HB.out.2.2 ⟨by simp, wf_list (by decide), .inr ⟨_, 0, rfl, fun i hi => ?_⟩⟩ h47 ?_ ?_).mono ?_
    · obtain rfl : i = 0 := by simpa using hi
      rw [cell_of_row _ _ _ _ _ _ hx3]; rfl
    · rw [cell_of_row _ _ _ _ _ _ hx2]; rfl
    · rw [cell_of_row _ _ _ _ _ _ hx2]; rfl
    · rintro e w' ⟨g, cap, rfl, ho, hg, hb⟩
      exact ⟨g, cap, rfl, ho, by simp at hg; omega, b2.trans (hb.mono (by simp; omega))⟩
  go_enter Tryz.func113, Tryz.ntmps113
  go_wp2_with (go_at_call 146; refine HC.out.mono ?_; rintro e w2 ⟨g, cap, rfl, ho, hg, hb⟩; have H1 : Hid (OwnB w2 g cap (l ++ [255]) ∧ Below w.heap.size w w2) := ⟨ho, hb⟩; clear ho hb)
  go_ret
  have hnew : (w2.alloc (.cells #[.slice (some ⟨g, 0, none⟩) (n + 1) cap] 22)).heap[w2.heap.size]? = some (.cells #[.slice (some ⟨g, 0, none⟩) (n + 1) cap] 22) := heap_alloc_new _ _
  refine ⟨w2.heap.size, g, cap, rfl, ⟨?_, (H1.out.1.on ((Below.refl _ _).alloc (Nat.le_refl _) _)).bytes⟩, H1.out.2.size, hg, H1.out.2.alloc H1.out.2.size _⟩
  rw [cell_of_row _ _ _ _ _ _ hnew, HB.out.2.1]; rfl
end Go.Proofs.YtflienghgobmoaaGreatDoor

namespace Go.Proofs.YtflienghgobmoaaGreatDoor
open Go.RowKit Go.Shelf Rec

section
variable {P : Program} {F : Fence} {n : Nat} {b : Frame} {a : Act} {k : List Item} {cs : List Frame} {w : World} {Q : Exit → Act → World → Prop}
theorem stepR_scope {c : Code} : step P (lone (b.atR a (.code (.scope c) :: k)) cs w) = .next (lone (b.atR a (.code c :: .inScope c :: k)) cs w) :=
  step_lone_go (by simp [stepG, stepG.exec, Frame.atR])
theorem stepR_inScope {c : Code} : step P (lone (b.atR a (.inScope c :: k)) cs w) = .next (lone (b.atR a k) cs w) :=
  step_lone_go (by simp [stepG, stepG.exec, Frame.atR])
/-- a label's scope that no goto leaves, inside a fence -/
theorem wpIn_scope_straight {c : Code} (h : c.wpIn F n P (Exit.noGoto Q) a w) : (Code.scope c).wpIn F n P Q a w := by
  intro b k cs hro hb hr
  have h0 : (lone (b.atR a (.code (.scope c) :: k)) cs w).fenced P F := fenced_calm hb hr rfl
  obtain ⟨e, a₁, w₁, hq, harr⟩ := h b (.inScope c :: k) cs hro hb hr
  cases e with
  | normal => exact ⟨.normal, a₁, w₁, hq, .head h0 stepR_scope (StepsIn.trans harr (.one (fenced_calm hb hr rfl) stepR_inScope))⟩
  | exit id =>
    have hx : exitTo id (.inScope c :: k) = exitTo id k := by simp [exitTo]
    exact ⟨_, a₁, w₁, hq, fun k' hk => .head h0 stepR_scope (harr.1 k' (by rw [hx]; exact hk)),
      fun hr' hk => let ⟨k₁, h1, h2⟩ := harr.2 hr' (by rw [hx]; exact hk); ⟨k₁, h1, .head h0 stepR_scope h2⟩⟩
  | goto l => exact hq.elim
  | ret => exact ⟨_, a₁, w₁, hq, .of_steps (.one h0 stepR_scope) harr⟩
  | panic ch => exact ⟨_, a₁, w₁, hq, .of_steps (.one h0 stepR_scope) harr⟩
  | outgrown => exact ⟨_, a₁, w₁, hq, .of_steps (.one h0 stepR_scope) harr⟩
end
end Go.Proofs.YtflienghgobmoaaGreatDoor

namespace Go.Proofs.YtflienghgobmoaaGreatDoor
open Go.RowKit Go.Shelf Rec
attribute [local go_sem] Oper.semAt_some

/-- a row of l, as it is handed to the body -/
abbrev RwB (l : List Int) := { p : Nat × Nat // p ∈ runs l }
abbrev RwB.enc {l : List Int} (x : RwB l) : Array Value := #[.int .i64 (x.1.1 : Int), .int .i64 (x.1.2 : Int)]
theorem mem_runs {l : List Int} {i : Nat} (h1 : bn (l ++ [255]) i = 1) (h2 : 0 < offs (l ++ [255]) i) (hi : i < 8 * l.length + 8) : (i - offs (l ++ [255]) i, offs (l ++ [255]) i) ∈ runs l := by
  have hm := rows_mono (l ++ [255]) (i + 1) (8 * l.length + 8) (by omega)
  rw [(rows_all l 8 (by omega) (by omega)).1] at hm
  refine hm.subset ?_
  rw [rows, if_pos ⟨h1, h2⟩]
  simp
theorem rows_lt {l : List Int} {i : Nat} (h1 : bn (l ++ [255]) i = 1) (h2 : 0 < offs (l ++ [255]) i) (hi : i < 8 * l.length + 8) : (rows (l ++ [255]) i).length < (runs l).length := by
  have hm := rows_mono (l ++ [255]) (i + 1) (8 * l.length + 8) (by omega)
  rw [(rows_all l 8 (by omega) (by omega)).1] at hm
  have := hm.length_le
  rw [rows, if_pos ⟨h1, h2⟩] at this
  simp at this
  omega
theorem rows_pre {l : List Int} {i : Nat} (hi : i ≤ 8 * l.length + 8) : rows (l ++ [255]) i <+: runs l := by
  have hm := rows_mono (l ++ [255]) i (8 * l.length + 8) hi
  rw [(rows_all l 8 (by omega) (by omega)).1] at hm
  exact hm
theorem belowN_drewN (n : Nat) (w : World) (m : Nat) : Below n w (w.drewN m) := ⟨rfl, rfl, rfl, Nat.le_refl _, fun _ _ => rfl⟩
/-- the iterator's own rows are kept -/
def KpB (B g : Nat) (W W' : World) : Prop := W'.heap[B]? = W.heap[B]? ∧ W'.heap[g]? = W.heap[g]?
theorem KpB.refl (B g : Nat) (W : World) : KpB B g W W := ⟨rfl, rfl⟩
theorem KpB.trans {B g : Nat} {A C D : World} (h : KpB B g A C) (k : KpB B g C D) : KpB B g A D := ⟨k.1.trans h.1, k.2.trans h.2⟩
theorem KpB.drewN (B g : Nat) (W : World) (m : Nat) : KpB B g W (W.drewN m) := ⟨rfl, rfl⟩
theorem KpB.bytes {B g : Nat} {W W' : World} (h : KpB B g W W') {l : List Int} (hb : Bytes W (some ⟨g, 0, none⟩) l) : Bytes W' (some ⟨g, 0, none⟩) l := by
  refine ⟨hb.len, hb.wf, ?_⟩
  rcases hb.at_ with e | ⟨b, off, e, hc⟩
  · exact .inl e
  · cases e
    exact .inr ⟨_, _, rfl, fun i hi => (World.cell?_of_block h.2).trans (hc i hi)⟩
theorem KpB.box {B g : Nat} {W W' : World} (h : KpB B g W W') {v : Value} (hb : W.cell? ⟨B, 0, none⟩ = some v) : W'.cell? ⟨B, 0, none⟩ = some v := (World.cell?_of_block h.1).trans hb
theorem KpB.put {B g : Nat} {n : Nat} (hB : B < n) (hg : g < n) (W : World) (l : Nat) (o o' : Obj) (hl : n ≤ l) (_ : W.heap[l]? = some o) (_ : o.isCells = false) (_ : o.isWalk = false) : KpB B g W (W.putObj l o') := by
  have h1 : l ≠ B := by omega
  have h2 : l ≠ g := by omega
  exact ⟨by simp [World.putObj, h1], by simp [World.putObj, h2]⟩
set_option maxRecDepth 100000 in
set_option maxHeartbeats 4000000 in
theorem runs1_in (l : Nat) (B g cap : Nat) (s : List Int) (hlen : s.length ≤ 140737488355000) (J Jx : List (RwB s) → World → Prop)
    (hA : ∀ pre W m, J pre W → J pre (W.drewN m))
    (hY : ∀ pre x W, J pre W → pre.length < (runs s).length → YieldAt Fence.wide 4 Tryz.prog l x.enc W fun e W' => (e = .returned (.bool true) ∧ J (pre ++ [x]) W' ∧ KpB B g W W') ∨ (e = .returned (.bool false) ∧ Jx (pre ++ [x]) W'))
    (W : World) (hBs : W.cell? ⟨B, 0, none⟩ = some (.slice (some ⟨g, 0, none⟩) (s.length + 1) cap)) (hs : Bytes W (some ⟨g, 0, none⟩) (s ++ [255])) (h0 : J [] W) :
    CallsIn Fence.wide 5 Tryz.prog 147 #[.func (.yield l) #[] #[], .pointer (some ⟨B, 0, none⟩)] W fun e W' => (∃ v, e = .returned v) ∧ ((∃ ys : List (RwB s), ys.map (·.1) = runs s ∧ J ys W') ∨ (∃ pre : List (RwB s), pre.map (·.1) <+: runs s ∧ Jx pre W')) := by
  obtain ⟨t, ht⟩ : ∃ t, s ++ [(255 : Int)] = t := ⟨_, rfl⟩
  obtain ⟨N, hN⟩ : ∃ N, s.length + 1 = N := ⟨_, rfl⟩
  have htl : t.length = N := by rw [← ht, List.length_append]; exact hN
  rw [hN] at hBs
  rw [ht] at hs
  have HS : Hid (Bytes W (some ⟨g, 0, none⟩) t ∧ W.cell? ⟨B, 0, none⟩ = some (.slice (some ⟨g, 0, none⟩) N cap)) := ⟨hs, hBs⟩
  have hNb : N ≤ 140737488355001 := by omega
  refine callsIn_of_wp Tryz.func147 rfl trivial ?_ rfl
  simp only [Tryz.ntmps147, List.size_toArray, List.length_cons, List.length_nil, Nat.reduceAdd, Nat.reduceSub, Array.replicate_succ, Array.replicate_zero, List.push_toArray, List.append_toArray, List.nil_append, List.cons_append]
  refine wpIn_scope_straight ?_
  gi_wp2
  refine wpIn_label ?_
  gi_wp2
  gi_loopw [3, 8] (fun s3 s8 wr => ∃ (k o : Nat) (pre : List (RwB s)), k ≤ N ∧ s8 = .int .i64 (k : Int) ∧ s3 = .int .i64 (o : Int) ∧ o = offs t (8 * k) ∧ pre.map (·.1) = rows t (8 * k) ∧ J pre wr ∧ KpB B g W wr) (fun _ s8 _ => N - (intOf s8).toNat)
  case atStart => exact ⟨0, 0, [], Nat.zero_le _, rfl, rfl, rfl, rfl, h0, KpB.refl _ _ _⟩
  case round =>
    obtain ⟨k, o, pre, hk, rfl, rfl, ho, hpre, hJ, hb⟩ := hrel
    have HO : Hid (o = offs t (8 * k) ∧ pre.map (·.1) = rows t (8 * k) ∧ J pre wr ∧ KpB B g W wr) := ⟨ho, hpre, hJ, hb⟩
    clear ho hpre hJ hb
    by_cases hlt : k < N
    · have hlt' : (k : Int) < (N : Int) := by omega
      gi_wp2
      gi_loopw [3, 5] (fun s3 s5 wr => ∃ (i o : Nat) (pre : List (RwB s)), 8 * k ≤ i ∧ i ≤ 8 * k + 8 ∧ s5 = .int .i64 (i : Int) ∧ s3 = .int .i64 (o : Int) ∧ o = offs t i ∧ pre.map (·.1) = rows t i ∧ J pre wr ∧ KpB B g W wr) (fun _ s5 _ => 8 * k + 8 - (intOf s5).toNat)
      case atStart => exact ⟨8 * k, o, pre, Nat.le_refl _, by omega, (by congr 1; omega), rfl, HO.out⟩
      case round =>
        obtain ⟨i, o, pre, hi1, hi2, rfl, rfl, ho, hpre, hJ, hb⟩ := hrel
        have hol : o ≤ i := by rw [ho]; exact offs_le _ _
        have HO : Hid (o = offs t i ∧ pre.map (·.1) = rows t i ∧ J pre wr ∧ KpB B g W wr) := ⟨ho, hpre, hJ, hb⟩
        clear ho hpre hJ hb
        by_cases hlt2 : i < 8 * k + 8
        · have hlt2' : (i : Int) < ((k : Int) + 1) * 8 := by omega
          have hcell : wr.cell? ⟨B, 0, none⟩ = some (.slice (some ⟨g, 0, none⟩) N cap) := HO.out.2.2.2.box HS.out.2
          have CC : CallsIn Fence.wide 4 Tryz.prog 144 #[.slice (some ⟨g, 0, none⟩) N cap, .int .i64 (i : Int)] wr fun e w' => e = .returned (.bool (bt t i)) ∧ ∃ m, w' = wr.drewN m := callsIn_wide.2 (isOn_any wr ⟨g, 0, none⟩ N cap i t (HO.out.2.2.2.bytes HS.out.1) htl (by omega))
          have hfi : Fence.wide.fn 144 := trivial
          rcases hbit : bt t i with _ | _
          · rw [hbit] at CC
            gi_wp2_with (gi_at_call 144; refine CC.mono ?_; rintro e w' ⟨rfl, m, rfl⟩)
            go_roundw
            case rel =>
              have hz := (bt_not t i).1 hbit
              refine ⟨i + 1, o + 1, pre, by omega, by omega, (by go_num), (by go_num), ?_, ?_, hA _ _ _ HO.out.2.2.1, HO.out.2.2.2.trans (KpB.drewN _ _ wr m)⟩
              · rw [offs, if_pos hz, HO.out.1]
              · rw [rows, if_neg (by omega), List.append_nil, HO.out.2.1]
            case measure => simp [intOf]; omega
          · rw [hbit] at CC
            have hz := (bt_iff t i).1 hbit
            by_cases ho : 0 < o
            · have ho' : (0 : Int) < (o : Int) := by omega
              gi_wp2_with (gi_at_call 144; refine CC.mono ?_; rintro e w' ⟨rfl, m, rfl⟩; clear CC)
              have hr1 : bn (s ++ [255]) i = 1 := by rw [ht]; exact hz
              have hr2 : 0 < offs (s ++ [255]) i := by rw [ht, ← HO.out.1]; exact ho
              have hmem := mem_runs hr1 hr2 (by omega)
              have hlt3 := rows_lt hr1 hr2 (by omega)
              rw [ht, ← HO.out.1] at hmem
              rw [ht, ← HO.out.2.1, List.length_map] at hlt3
              obtain ⟨q, hq⟩ : ∃ q, i - o = q := ⟨_, rfl⟩
              rw [hq] at hmem
              have hqi : (i : Int) - (o : Int) = (q : Int) := by omega
              obtain ⟨fn, tmps, assign, body, hy, hR⟩ := hY pre ⟨(q, o), hmem⟩ (wr.drewN m) (hA _ _ _ HO.out.2.2.1) hlt3
              simp only [RwB.enc] at hy
              have HP : Hid ((pre ++ [(⟨(q, o), hmem⟩ : RwB s)]).map (·.1) = rows t (i + 1)) := by
                show _ = _
                rw [List.map_append, HO.out.2.1, rows, ← HO.out.1, hq, if_pos ⟨hz, ho⟩]; rfl
              rw [hqi, hy]
              gi_wp2
              refine hR.mono ?_
              rintro e W3 (⟨rfl, hJ3, hk3⟩ | ⟨rfl, hJx3⟩)
              · gi_wp2
                go_roundw
                case rel => exact ⟨i + 1, 0, _, by omega, by omega, (by go_num), rfl, (by rw [offs, if_neg (by omega)]), HP.out, hJ3, (HO.out.2.2.2.trans (KpB.drewN _ _ wr m)).trans hk3⟩
                case measure => simp [intOf]; omega
              · gi_wp2
                simp only [Exit.noGoto]
                go_end0
                refine ⟨⟨_, rfl⟩, .inr ⟨_, ?_, hJx3⟩⟩
                rw [HP.out, ← ht]
                exact rows_pre (by omega)
            · have ho' : ¬ ((0 : Int) < (o : Int)) := by omega
              gi_wp2_with (gi_at_call 144; refine CC.mono ?_; rintro e w' ⟨rfl, m, rfl⟩)
              refine ⟨fun _ h => (by cases h), ?_⟩
              gi_wp2
              go_roundw
              case rel =>
                refine ⟨i + 1, 0, pre, by omega, by omega, (by go_num), rfl, ?_, ?_, hA _ _ _ HO.out.2.2.1, HO.out.2.2.2.trans (KpB.drewN _ _ wr m)⟩
                · rw [offs, if_neg (by omega)]
                · have := HO.out.1
                  rw [rows, if_neg (by omega), List.append_nil, HO.out.2.1]
              case measure => simp [intOf]; omega
        · have hlt2' : ¬ ((i : Int) < ((k : Int) + 1) * 8) := by omega
          gi_wp2
          go_roundw
          case rel =>
            have e : i = 8 * (k + 1) := by omega
            subst e
            exact ⟨k + 1, o, pre, by omega, by go_num, rfl, HO.out⟩
          case measure => simp [intOf]; omega
    · have hlt' : ¬ ((k : Int) < (N : Int)) := by omega
      gi_wp2
      go_end0
      have e : k = s.length + 1 := by omega
      refine ⟨⟨_, rfl⟩, .inl ⟨pre, ?_, HO.out.2.2.1⟩⟩
      rw [HO.out.2.1, ← ht, e]
      exact (rows_all s 8 (by omega) (by omega)).1
/-- what Runs hands out may be gone through -/
theorem runs_stops (B g cap : Nat) (s : List Int) (w : World) (h : SeqAt w B g cap s) (hlen : s.length ≤ 140737488355000) :
    SeqStopsK Fence.wide 5 Tryz.prog 147 #[.pointer (some ⟨B, 0, none⟩)] (RwB.enc (l := s)) (KpB B g) (fun ys => ys.map (·.1) = runs s) (fun pre => pre.map (·.1) <+: runs s) (runs s).length w := fun l J Jx W hW hJ _ hY h0 =>
  runs1_in l B g cap s hlen J Jx (fun pre W' m hj => hJ pre W' _ none hj ⟨rfl, rfl, rfl, Nat.le_refl _, fun _ _ _ => rfl⟩ (fun r e => by cases e)) hY W ((hW.cell (p := ⟨B, 0, none⟩) h.ltB).trans h.box) (h.row.on hW) h0
end Go.Proofs.YtflienghgobmoaaGreatDoor

namespace Go.Proofs.YtflienghgobmoaaGreatDoor
open Go.RowKit Go.Shelf Rec
attribute [local go_sem] Oper.semAt_some

theorem fr_drewN {S : Nat → Prop} {w w' : World} (h : Fr S w w') (m : Nat) : Fr S w (w'.drewN m) := ⟨h.os, h.tape, h.output, h.size, h.block⟩
theorem OwnB.drewN {w : World} {g cap : Nat} {l : List Int} (h : OwnB w g cap l) (m : Nat) : OwnB (w.drewN m) g cap l := h.on (drewN_below _ _)
/-- Put into a row of one's own -/
theorem put_own (w : World) (g n c cap i : Nat) (l : List Int) (on : Bool) (h : OwnB w g cap l) (hn : l.length = n) (hi : i < 8 * n) : Calls Tryz.prog 110 #[.slice (some ⟨g, 0, none⟩) n c, .int .i64 (i : Int), .bool on] w fun e w' => e = .returned (.int .i64 0) ∧ OwnB w' g cap (bput l i on) ∧ Fr (fun k => k = g) w w' := by
  have hc := h.cell (i / 8) (by omega)
  refine (put_raw w g n c i _ on hc (h.frozen _) (h.wf _) (by rw [← hn]; exact h.len) hi).mono ?_
  rintro e w' ⟨rfl, m, rfl⟩
  exact ⟨rfl, (h.set (i / 8) _ (by omega) (byt_bd _ _ _ (by omega) (h.wf _))).drewN m, fr_drewN Fr.set m⟩
/-- what lies at the bytes of the document -/
def b3 : List Int := [247, 255, 1]
/-- between two rounds: the box S holds z; else nothing that lay has changed -/
structure BoxI (w : World) (S : Nat) (z : Int) (W : World) : Prop where
  cell : W.cell? ⟨S, 0, none⟩ = some (.int .i64 z)
  frozen : W.frozen? ⟨S, 0, none⟩ = false
  fr : Fr (fun k => k = S ∨ w.heap.size ≤ k) w W
theorem BoxI.own {β : Type} (w : World) (S : Nat) (z : β → Int) (hS : S < w.heap.size) : OwnFrom w.heap.size (fun pre W => BoxI w S (z pre) W) := fun pre W W' row h hg hr => by
  have hne : some S ≠ row := fun e => by have := (hr S e.symm).1; omega
  have hF : Fr (fun k => row = some k) W W' := ⟨hg.os, hg.tape, hg.output, hg.size, fun k hk hS => hg.block k hk (fun e => hS e.symm)⟩
  have hlt : S < W.heap.size := block_lt_of_cell h.cell
  refine ⟨hF.cell h.cell (fun e => hne e.symm), ?_, h.fr.trans hF (fun k hk => .inl (.inr (hr k hk).1))⟩
  have := hg.block S hlt hne
  rw [← h.frozen]
  simp only [World.frozen?, this]
theorem BoxI.set {w : World} {S : Nat} {z : Int} {W : World} (h : BoxI w S z W) (y : Int) : BoxI w S y (W.setCell ⟨S, 0, none⟩ (.int .i64 y)) := by
  refine ⟨World.cell?_setCell_same' _ _ _ (by rw [h.cell]; rfl), by rw [World.frozen?_setCell]; exact h.frozen, h.fr.trans Fr.set (fun k hk => .inl (.inl hk))⟩
end Go.Proofs.YtflienghgobmoaaGreatDoor
