import Derived.Test.YtgmccpimpbnnpaaDoorKMathR
import Derived.Lib.BytesEntry
import Derived.Lib.IndexLaws
import Derived.Laws.BitsAllLaws
import Derived.Deep.DeepCutAuto
import Derived.Lib.LazyBuf
import Derived.Lib.BufferWrite
import Derived.Lib.SliceRun
import Derived.OwnWalk
import Derived.Deep.OwnRows
import Derived.WalkSpells
import Derived.Lib.BufferMore
import Derived.Laws.StructEq
import Derived.SizedLaws
import Derived.Lib.SmallJoins
import Derived.Deep.Slices
namespace Go.Proofs.YtgmccpimpbnnpaaDoor
open Go.RowKit Rec
theorem isW_cases {n : Int} (h : isW n = true) : n = 1 ∨ n = 2 ∨ n = 4 ∨ n = 8 := by simp [isW] at h; omega
set_option maxRecDepth 100000 in
set_option maxHeartbeats 400000 in
theorem isWidth_any (w : World) (n : Int) (hT : TabAt w) : Calls Tryd.prog 68 #[.int .i64 n] w fun e w' => e = .returned (.bool (isW n)) ∧ w = w' := by
  have c0 := hT.wid 0 (by omega)
  have c1 := hT.wid 1 (by omega)
  have c2 := hT.wid 2 (by omega)
  have c3 := hT.wid 3 (by omega)
  simp only [nth, List.getD] at c0 c1 c2 c3
  clear hT
  have i0 : ∀ w, (Instr.index 151 (.agg #[.int .i64 1, .int .i64 2, .int .i64 4, .int .i64 8]) (.int .i64 0)).run Tryd.prog w = .ok (.int .i64 1) w := fun _ => by kernel_rfl
  have i1 : ∀ w, (Instr.index 151 (.agg #[.int .i64 1, .int .i64 2, .int .i64 4, .int .i64 8]) (.int .i64 1)).run Tryd.prog w = .ok (.int .i64 2) w := fun _ => by kernel_rfl
  have i2 : ∀ w, (Instr.index 151 (.agg #[.int .i64 1, .int .i64 2, .int .i64 4, .int .i64 8]) (.int .i64 2)).run Tryd.prog w = .ok (.int .i64 4) w := fun _ => by kernel_rfl
  have i3 : ∀ w, (Instr.index 151 (.agg #[.int .i64 1, .int .i64 2, .int .i64 4, .int .i64 8]) (.int .i64 3)).run Tryd.prog w = .ok (.int .i64 8) w := fun _ => by kernel_rfl
  go_enter Tryd.func68, Tryd.ntmps68
  go_wp2
  go_loop [6] (fun i => ∃ k : Nat, k ≤ 4 ∧ i = .int .i64 k ∧ ∀ j, j < k → n ≠ nth [1, 2, 4, 8] j) (fun i => 4 - (intOf i).toNat)
  case atStart => exact ⟨0, Nat.zero_le _, rfl, fun j hj => absurd hj (by omega)⟩
  case round =>
    obtain ⟨k, hk, rfl, hne⟩ := hrel
    have hkk : k = 0 ∨ k = 1 ∨ k = 2 ∨ k = 3 ∨ k = 4 := by omega
    have HN : Hid (∀ j, j < k → n ≠ nth [1, 2, 4, 8] j) := hne
    clear hne hk
    rcases hkk with rfl | rfl | rfl | rfl | rfl
    case' inl => have hd : n = 1 ∨ n ≠ 1 := by omega
    case' inr.inl => have hd : n = 2 ∨ n ≠ 2 := by omega
    case' inr.inr.inl => have hd : n = 4 ∨ n ≠ 4 := by omega
    case' inr.inr.inr.inl => have hd : n = 8 ∨ n ≠ 8 := by omega
    case' inr.inr.inr.inr =>
      have h0 := HN.out 0 (by omega)
      have h1 := HN.out 1 (by omega)
      have h2 := HN.out 2 (by omega)
      have h3 := HN.out 3 (by omega)
      have H' : isW n = false := by simp [nth] at h0 h1 h2 h3; simp [isW, h0, h1, h2, h3]
      have H : Hid (isW n = false) := H'
      clear H'
      clear h0 h1 h2 h3
      go_wp2
      go_ret
      exact ⟨by rw [H.out]; rfl, rfl⟩
    all_goals
      rcases hd with rfl | he
      · go_wp2
        go_ret
        exact ⟨rfl, rfl⟩
      · go_wp2
        go_round
        case rel => exact ⟨_, by omega, by go_num, fun j hj => (Nat.lt_succ_iff_lt_or_eq.1 hj).elim (fun h => HN.out j h) (fun h => by subst h; exact he)⟩
        case measure => simp [intOf]
set_option maxRecDepth 100000 in
set_option maxHeartbeats 400000 in
theorem lie_any (w : World) (a : Option Addr) (len c : Nat) (at_ n : Int) (hl : len ≤ 1000000000000000) (_h0 : 0 ≤ n) (ha : at_ ≤ 9223372036854775807) :
    Calls Tryd.prog 69 #[.slice a len c, .int .i64 at_, .int .i64 n] w fun e w' => e = .returned (.bool (lies len at_ n)) ∧ w = w' := by
  by_cases h : 0 ≤ at_
  · go_enter Tryd.func69, Tryd.ntmps69
    go_wp2
    go_ret
    refine ⟨?_, rfl⟩
    show Ending.returned (.bool (decide (n ≤ ↑len - at_))) = _
    have : decide (n ≤ ↑len - at_) = lies len at_ n := by unfold lies; exact decide_eq_decide.2 (by omega)
    rw [this]
  · go_enter Tryd.func69, Tryd.ntmps69
    go_wp2
    go_ret
    refine ⟨?_, rfl⟩
    have e : lies len at_ n = false := by unfold lies; exact decide_eq_false (by omega)
    rw [e]; rfl
set_option maxRecDepth 100000 in
set_option maxHeartbeats 400000 in
theorem hasWidth_any (w : World) (v n : Int) (hw : isW n = true) (h0 : 0 ≤ v) (h1 : v < 18446744073709551616) : Calls Tryd.prog 80 #[.int .u64 v, .int .i64 n] w fun e w' => e = .returned (.bool (has v n)) ∧ w = w' := by
  rcases isW_cases hw with rfl | rfl | rfl | rfl
  all_goals
    go_enter Tryd.func80, Tryd.ntmps80
    go_wp2
    go_ret
    refine ⟨?_, rfl⟩
  · show Ending.returned (.bool (v / 256 == 0)) = _
    have e : (v / 256 == 0) = has v 1 := by rw [Bool.eq_iff_iff]; simp [has]; omega
    rw [e]
  · show Ending.returned (.bool (v / 65536 == 0)) = _
    have e : (v / 65536 == 0) = has v 2 := by rw [Bool.eq_iff_iff]; simp [has]; omega
    rw [e]
  · show Ending.returned (.bool (v / 4294967296 == 0)) = _
    have e : (v / 4294967296 == 0) = has v 4 := by rw [Bool.eq_iff_iff]; simp [has]; omega
    rw [e]
  · show Ending.returned (.bool (v / 18446744073709551616 == 0)) = _
    have e : (v / 18446744073709551616 == 0) = has v 8 := by rw [Bool.eq_iff_iff]; simp [has]; omega
    rw [e]
end Go.Proofs.YtgmccpimpbnnpaaDoor

namespace Go.Proofs.YtgmccpimpbnnpaaDoor
open Go.RowKit Rec
theorem or_add (v c : Int) (k : Nat) (hk : k < 8) (hv : 0 ≤ v ∧ v < 256 ^ k) (hc : 0 ≤ c ∧ c < 256) : bits .or .u64 v (c * 256 ^ k) = v + c * 256 ^ k := by
  obtain ⟨V, rfl⟩ := Int.eq_ofNat_of_zero_le hv.1
  obtain ⟨C, rfl⟩ := Int.eq_ofNat_of_zero_le hc.1
  have e : (256 : Int) ^ k = ((2 ^ (8 * k) : Nat) : Int) := by rw [Nat.pow_mul]; simp
  rw [e] at hv ⊢
  have hV : V < 2 ^ (8 * k) := by omega
  have hC : C < 256 := by omega
  have hp : 2 ^ (8 * k) ≤ 2 ^ 56 := Nat.pow_le_pow_right (by decide) (by omega)
  have hm : C * 2 ^ (8 * k) ≤ 255 * 2 ^ (8 * k) := Nat.mul_le_mul_right _ (by omega)
  have := u64_or_nat V (C * 2 ^ (8 * k)) (by omega) (by omega)
  rw [← Int.natCast_mul, this, ← Int.natCast_add]
  have h2 := Nat.shiftLeft_add_eq_or_of_lt hV C
  rw [Nat.shiftLeft_eq] at h2
  rw [Nat.or_comm, ← h2, Nat.add_comm]
set_option maxRecDepth 100000 in
set_option maxHeartbeats 800000 in
theorem get_in (w : World) (b off n c A W : Nat) (l : List Int) (hn : l.length = n) (hO : Bytes w (some ⟨b, off, none⟩) l) (hc : n ≤ c) (hT : TabAt w) (hw : isW W = true) (hA : A + W ≤ n) :
    Calls Tryd.prog 53 #[.slice (some ⟨b, off, none⟩) n c, .int .i64 A, .int .i64 W] w fun e w' => e = .returned (.tuple #[.int .u64 (num l A W), .int .i64 0]) ∧ w = w' := by
  have hlen := hO.len
  rw [hn] at hlen
  have hWc := isW_cases hw
  have HW : Hid (isW W = true) := hw
  have HT : Hid (TabAt w) := hT
  have HC : Hid (∀ i, A + i < n → w.cell? ⟨b, off + A + i, none⟩ = some (.int .u8 (nth l (A + i)))) := fun i hi => by
    rw [Nat.add_assoc]; exact hO.cell (by omega)
  have HF : Hid (∀ i, 0 ≤ nth l i ∧ nth l i < 256) := hO.wf
  have hl : Hid (lies n A W = true) := by unfold lies; exact decide_eq_true (by omega)
  clear hO hT hw hn
  have hW1 : 1 ≤ W ∧ W ≤ 8 := by omega
  clear hWc
  go_enter Tryd.func53, Tryd.ntmps53
  go_wp2_with (go_at_call 68; refine (isWidth_any _ _ HT.out).mono ?_; rintro e w' ⟨rfl, rfl⟩; rw [HW.out])
  go_wp2_with (go_at_call 69; refine (lie_any _ _ _ _ _ _ (by omega) (by omega) (by omega)).mono ?_; rintro e w' ⟨rfl, rfl⟩; rw [hl.out])
  go_loop [8, 26] (fun v i => ∃ k : Nat, k ≤ W ∧ i = .int .i64 k ∧ v = .int .u64 (num l A k)) (fun _ i => W - (intOf i).toNat)
  case atStart => exact ⟨0, Nat.zero_le _, rfl, rfl⟩
  case round =>
    obtain ⟨k, hk, rfl, rfl⟩ := hrel
    by_cases hlt : k < W
    · have c := HC.out k (by omega)
      have cb := HF.out (A + k)
      have nb := num_bd l A k HF.out
      have HS : Hid (num l A (k + 1) = bits .or .u64 (num l A k) (nth l (A + k) * 256 ^ k)) := by
        show num l A (k + 1) = _
        rw [or_add _ _ _ (by omega) nb cb]; rfl
      have hkk : k = 0 ∨ k = 1 ∨ k = 2 ∨ k = 3 ∨ k = 4 ∨ k = 5 ∨ k = 6 ∨ k = 7 := by omega
      rcases hkk with rfl | rfl | rfl | rfl | rfl | rfl | rfl | rfl
      case inl =>
        simp only [Nat.add_zero] at c cb
        go_wp2
        refine ⟨⟨1, hlt, rfl, ?_⟩, by simp [intOf]; omega⟩
        have e := or_add 0 (nth l A) 0 (by omega) (by decide) cb
        have e2 : num l A 1 = 0 + nth l A * 256 ^ 0 := rfl
        rw [e2, ← e]
        simp
        rfl
      all_goals
        go_wp2
        refine ⟨⟨_, hlt, rfl, ?_⟩, by simp [intOf]; omega⟩
        have e := HS.out
        simp only [Int.reducePow] at e
        exact congrArg (Value.int .u64) e.symm
    · go_wp2
      obtain rfl : k = W := by omega
      go_ret2
      exact ⟨rfl, rfl⟩
end Go.Proofs.YtgmccpimpbnnpaaDoor

namespace Go.Proofs.YtgmccpimpbnnpaaDoor
open Go.RowKit Rec
theorem OwnB.ovs {w : World} {g cap : Nat} {L : List Int} {A k : Nat} {f : Nat → Int} (h : OwnB w g cap (ov L A k f)) (hk : A + k < L.length) (hf : 0 ≤ f k ∧ f k < 256) :
    OwnB (w.setCell ⟨g, A + k, none⟩ (.int .u8 (f k))) g cap (ov L A (k + 1) f) := by
  have := h.set (A + k) (f k) (by rw [ov_length]; exact hk) hf
  rwa [ov_set _ _ _ _ hk] at this
set_option maxRecDepth 100000 in
set_option maxHeartbeats 1000000 in
theorem put_in (w : World) (g cap n c A W : Nat) (v : Int) (L : List Int) (hO : OwnB w g cap L) (hn : n ≤ L.length) (_hc : n ≤ c) (hT : TabAt w) (hv : 0 ≤ v ∧ v < 18446744073709551616) (hw : isW W = true) (hh : has v W = true) (hA : A + W ≤ n) :
    Calls Tryd.prog 64 #[.slice (some ⟨g, 0, none⟩) n c, .int .i64 A, .int .i64 W, .int .u64 v] w fun e w' => e = .returned (.int .i64 0) ∧ OwnB w' g cap (ov L A W (dig v)) ∧ w.grownBy w' (some g) := by
  have hlen := hO.len
  have hWc := isW_cases hw
  have HW : Hid (isW W = true) := hw
  have HH : Hid (has v W = true) := hh
  have HT : Hid (TabAt w) := hT
  have HO : Hid (OwnB w g cap L) := hO
  have hl : Hid (lies n A W = true) := by unfold lies; exact decide_eq_true (by omega)
  clear hO hT hw hh
  have hW1 : 1 ≤ W ∧ W ≤ 8 := by omega
  clear hWc
  go_enter Tryd.func64, Tryd.ntmps64
  go_wp2_with (go_at_call 68; refine (isWidth_any _ _ HT.out).mono ?_; rintro e w' ⟨rfl, rfl⟩; rw [HW.out])
  go_wp2_with (go_at_call 80; refine (hasWidth_any _ _ _ HW.out hv.1 hv.2).mono ?_; rintro e w' ⟨rfl, rfl⟩; rw [HH.out])
  go_wp2_with (go_at_call 69; refine (lie_any _ _ _ _ _ _ (by omega) (by omega) (by omega)).mono ?_; rintro e w' ⟨rfl, rfl⟩; rw [hl.out])
  rename World => w0
  go_loopw [25] (fun i wr => ∃ k : Nat, k ≤ W ∧ i = .int .i64 k ∧ OwnB wr g cap (ov L A k (dig v)) ∧ w0.grownBy wr (some g)) (fun i _ => W - (intOf i).toNat)
  case atStart => exact ⟨0, Nat.zero_le _, rfl, by rw [ov_zero]; exact HO.out, grown_refl _ _⟩
  case round =>
    obtain ⟨k, hk, rfl, how, hgr⟩ := hrel
    have HP : Hid (OwnB wr g cap (ov L A k (dig v))) := how
    have HG : Hid (w0.grownBy wr (some g)) := hgr
    clear how hgr
    by_cases hlt : k < W
    · have d := HP.out.cell (A + k) (by rw [ov_length]; omega)
      have f := HP.out.frozen (A + k)
      have HQ : Hid (OwnB (wr.setCell ⟨g, A + k, none⟩ (.int .u8 (v / 256 ^ k % 256))) g cap (ov L A (k + 1) (dig v))) := HP.out.ovs (by omega) (dig_bd v k)
      clear HP
      have hkk : k = 0 ∨ k = 1 ∨ k = 2 ∨ k = 3 ∨ k = 4 ∨ k = 5 ∨ k = 6 ∨ k = 7 := by omega
      rcases hkk with rfl | rfl | rfl | rfl | rfl | rfl | rfl | rfl
      case' inl => simp only [Nat.add_zero] at d f HQ
      all_goals
        go_wp2
        have e := HQ.out
        simp only [Int.reducePow, Int.pow_zero, Int.ediv_one] at e
        first
          | exact ⟨⟨_, hlt, rfl, e, grown_trans HG.out grown_set⟩, by simp [intOf]; omega⟩
          | (rw [Int.emod_eq_of_lt (by omega) (by omega)] at e
             exact ⟨⟨_, hlt, rfl, e, grown_trans HG.out grown_set⟩, by simp [intOf]; omega⟩)
    · go_wp2
      obtain rfl : k = W := by omega
      go_ret
      exact ⟨rfl, HP.out, HG.out⟩
end Go.Proofs.YtgmccpimpbnnpaaDoor

namespace Go.Proofs.YtgmccpimpbnnpaaDoor
open Go.RowKit Rec
end Go.Proofs.YtgmccpimpbnnpaaDoor

namespace Go.Proofs.YtgmccpimpbnnpaaDoor
open Go.RowKit Rec
end Go.Proofs.YtgmccpimpbnnpaaDoor

namespace Go.Proofs.YtgmccpimpbnnpaaDoor
open Go.RowKit Rec
theorem OwnB.cells {g cap : Nat} : ∀ (m : List Int) (w : World) (off : Nat) (L : List Int), OwnB w g cap L → off + m.length ≤ L.length → (∀ i, 0 ≤ nth m i ∧ nth m i < 256) →
    OwnB (w.setCells g off (m.map (Value.int .u8))) g cap (ov L off m.length (nth m)) ∧ w.grownBy (w.setCells g off (m.map (Value.int .u8))) (some g)
  | [], w, off, L, h, _, _ => ⟨by rw [List.length_nil, ov_zero]; exact h, grown_refl _ _⟩
  | c :: t, w, off, L, h, hl, hw => by
    rw [List.length_cons] at hl
    have hc := hw 0
    have h1 := h.set off c (by omega) hc
    have hw' : ∀ i, 0 ≤ nth t i ∧ nth t i < 256 := fun i => hw (i + 1)
    have ⟨h2, h3⟩ := OwnB.cells t _ (off + 1) _ h1 (by rw [List.length_set]; omega) hw'
    refine ⟨?_, grown_trans grown_set h3⟩
    have e1 : L.set off c = ov L off 1 (nth (c :: t)) := by
      have := ov_set L off 0 (nth (c :: t)) (by omega)
      rw [ov_zero] at this
      exact this
    rw [e1] at h2
    rw [ov_ov L off 1 t.length (nth (c :: t)) (nth t) (nth (c :: t)) (fun _ _ => rfl) (fun i _ => by rw [Nat.add_comm]; rfl)] at h2
    rw [List.length_cons, Nat.add_comm]
    exact h2
end Go.Proofs.YtgmccpimpbnnpaaDoor

namespace Go.Proofs.YtgmccpimpbnnpaaDoor
open Go.RowKit
open Crc (W)
def U (x : W) : Int := (x.toNat : Int)
end Go.Proofs.YtgmccpimpbnnpaaDoor

namespace Go.Proofs.YtgmccpimpbnnpaaDoor
open Go.RowKit Rec
open Crc (W)
end Go.Proofs.YtgmccpimpbnnpaaDoor

namespace Go.Proofs.YtgmccpimpbnnpaaDoor
open Go.RowKit Rec
structure Ints (w : World) (a : Option Addr) (l : List Int) : Prop where
  len : l.length ≤ 1000000000000000
  at_ : l = [] ∨ ∃ b off, a = some ⟨b, off, none⟩ ∧ ∀ i, i < l.length → w.cell? ⟨b, off + i, none⟩ = some (.int .i64 (nth l i))
theorem Ints.on {w w' : World} {a : Option Addr} {l : List Int} (h : Ints w a l) (hb : Below w.heap.size w w') : Ints w' a l := by
  refine ⟨h.len, ?_⟩
  rcases h.at_ with e | ⟨b, off, rfl, hc⟩
  · exact .inl e
  · exact .inr ⟨b, off, rfl, fun i hi => by rw [hb.cell (block_lt_of_cell (hc i hi))]; exact hc i hi⟩
def row (ds : List (List Int)) (i : Nat) : List Int := ds.getD i []
structure Data (w : World) (a : Option Addr) (ds : List (List Int)) : Prop where
  len : ds.length ≤ 1000000000000000
  at_ : ds = [] ∨ ∃ b off, a = some ⟨b, off, none⟩ ∧ ∀ i, i < ds.length → ∃ a' c, w.cell? ⟨b, off + i, none⟩ = some (.slice a' (row ds i).length c) ∧ Bytes w a' (row ds i) ∧ (a' = none → c = 0)
theorem Data.on {w w' : World} {a : Option Addr} {ds : List (List Int)} (h : Data w a ds) (hb : Below w.heap.size w w') : Data w' a ds := by
  refine ⟨h.len, ?_⟩
  rcases h.at_ with e | ⟨b, off, rfl, hc⟩
  · exact .inl e
  · refine .inr ⟨b, off, rfl, fun i hi => ?_⟩
    obtain ⟨a', c, h1, h2, h3⟩ := hc i hi
    exact ⟨a', c, by rw [hb.cell (block_lt_of_cell h1)]; exact h1, h2.on hb, h3⟩
def Box (w : World) (p : Nat) (v : Int) : Prop := w.heap[p]? = some (.cells #[.int .i64 v] 3 (0, 0))
theorem Box.cell {w : World} {p : Nat} {v : Int} (h : Box w p v) : w.cell? ⟨p, 0, none⟩ = some (.int .i64 v) := by rw [cell_of_row _ _ _ _ _ _ h]; rfl
theorem Box.frozen {w : World} {p : Nat} {v : Int} (h : Box w p v) : w.frozen? ⟨p, 0, none⟩ = false := frozen_of_row _ _ _ _ _ h
theorem Box.set {w : World} {p : Nat} {v : Int} (h : Box w p v) (u : Int) : Box (w.setCell ⟨p, 0, none⟩ (.int .i64 u)) p u := by
  exact heap_setCell_same _ _ _ _ _ _ h
theorem Box.fr {S : Nat → Prop} {w w' : World} {p : Nat} {v : Int} (h : Box w p v) (x : Fr S w w') (hp : ¬ S p) : Box w' p v := x.heap h hp
end Go.Proofs.YtgmccpimpbnnpaaDoor

namespace Go.Proofs.YtgmccpimpbnnpaaDoor
open Go.RowKit Rec
theorem Ints.cell {w : World} {b off i : Nat} {l : List Int} (h : Ints w (some ⟨b, off, none⟩) l) (hi : i < l.length) : w.cell? ⟨b, off + i, none⟩ = some (.int .i64 (nth l i)) := by
  rcases h.at_ with e | ⟨b', off', e, hc⟩
  · subst e; exact absurd hi (by simp)
  · cases e; exact hc i hi
theorem may_false {ns : List Int} {n : Int} (k : Nat) (hk : k < ns.length) (h : ¬ (pre ns k < nth ns k ∧ nth ns k < n)) : may ns n = false := decide_eq_false (fun e => h (e k hk))
theorem may_true {ns : List Int} {n : Int} (h : ∀ i, i < ns.length → pre ns i < nth ns i ∧ nth ns i < n) : may ns n = true := decide_eq_true h
theorem Ints.far {w : World} {a : Option Addr} {ns : List Int} {k p : Nat} (h : Ints w a ns) (hn : ns.length = k) (hp : w.heap.size ≤ p) : ∀ x, a = some x → k = 0 ∨ x.block ≠ p := by
  intro x hx
  rcases h.at_ with e | ⟨b, off, e, hc⟩
  · subst e; simp at hn; omega
  · subst e
    cases hx
    by_cases h0 : k = 0
    · exact .inl h0
    · have := block_lt_of_cell (hc 0 (by omega))
      have t : b < w.heap.size := this
      exact .inr (fun e => by change b = p at e; omega)
theorem mem_row (ds : List (List Int)) : (∀ b, b ∈ ds → b.length = 512) ↔ ∀ i, i < ds.length → (row ds i).length = 512 := by
  constructor
  · intro h i hi
    have e : row ds i = ds[i] := by simp [row, List.getD, hi]
    rw [e]; exact h _ (List.getElem_mem hi)
  · intro h b hb
    obtain ⟨i, hi, rfl⟩ := List.mem_iff_getElem.1 hb
    have e : row ds i = ds[i] := by simp [row, List.getD, hi]
    rw [← e]; exact h i hi
end Go.Proofs.YtgmccpimpbnnpaaDoor

namespace Go.Proofs.YtgmccpimpbnnpaaDoor
open Go.RowKit Rec
def zn (m : Nat) : List Int := List.replicate m 0
theorem zn_length (m : Nat) : (zn m).length = m := by simp [zn]
theorem nth_rep (m : Nat) (x : Int) (i : Nat) (h : i < m) : nth (List.replicate m x) i = x := by simp [nth, List.getD, h]
theorem wf_rep (m : Nat) (x : Int) (hx : 0 ≤ x ∧ x < 256) : ∀ i, 0 ≤ nth (List.replicate m x) i ∧ nth (List.replicate m x) i < 256 := fun i => by
  by_cases h : i < m
  · rw [nth_rep m x i h]; exact hx
  · rw [nth_out _ _ (by simp; omega)]; omega
theorem made_list (z : Value) (n : Nat) : (madeCells #[z] n).toList = List.replicate n z := toList_madeCells_one z n
theorem info3 : (Tryd.prog.info? 3).map (fun i => (i.zero, i.size, i.bytes)) = some (some (.int .i64 0), 1, 8) := by kernel_rfl
theorem wp_makeI {ops : Array Oper} {rest : List Oper} {o : Oper} {a : Act} {Q : Exit → Act → World → Prop} {w : World} (hg : o.guard = none) (l c : Operand) (hop : o.op = Op.makeSlice 22 l c)
    (kl kc : IntKind) (L C : Int) (n : Nat) (hl : a.eval l = .int kl L) (hc : a.eval c = .int kc C) (hL : L = (n : Int)) (hC : C = (n : Int)) (hn : n ≤ 4294967296)
    (hK : ∀ w', w'.ownsRow 0 3 1 (.slice (some ⟨w.heap.size, 0, none⟩) n n) n ((zn n).map (Value.int .i64)) → Below w.heap.size w w' → wpList Tryd.prog ops Q rest (a.put o.dst (.slice (some ⟨w.heap.size, 0, none⟩) n n)) w') :
    wpList Tryd.prog ops Q (o :: rest) a w := by
  obtain ⟨i0, hi, hz0, hz1, hz2⟩ := info_parts info3
  subst hL hC
  refine wpList_make_row w hg l c 22 hop 3 i0 _ Tryd.underlying22 hi hz0 hz1 rfl kl kc n hl hc (by rw [hz2]; omega) (by omega) ?_
  refine hK _ ⟨by simp [zn], .inr ⟨_, _, _, rfl, Nat.zero_le _, heap_alloc_new _ _, Nat.le_refl _, by unfold maxLen; omega, ?_, ?_⟩⟩ ((Below.refl _ _).alloc (Nat.le_refl _) _)
  · rw [← Array.length_toList, made_list, List.length_replicate, Nat.mul_one]
  · rw [made_list, zn, List.map_replicate, List.take_replicate, Nat.mul_one, Nat.min_self]
theorem wp_bown {ops : Array Oper} {rest : List Oper} {o : Oper} {a : Act} {Q : Exit → Act → World → Prop} {w : World} (hgd : o.guard = none) (s x : Operand)
    (ho : o.op = .call { callee := .builtin .append, args := #[s, x], argTypes := #[52, 52] }) (v : Value) (k : Nat) (l : List Int) (hs : a.eval s = v) (hown : w.ownsRow 0 5 1 v k (l.map (Value.int .u8)))
    (ad : Addr) (m c : Nat) (y : List Int) (hx : a.eval x = .slice (some ad) m c) (hm : 0 < m) (hl : y.length = m) (hb : Bytes w (some ad) y) (h47 : k + m ≤ 140737488355328)
    (h : ∀ g cap w', w'.ownsRow 0 5 1 (.slice (some ⟨g, 0, none⟩) (k + m) cap) (k + m) ((l ++ y).map (Value.int .u8)) → Fr (fun k => v.ownBlock = some k) w w' → (v.ownBlock = some g ∨ w.heap.size ≤ g) → wpList Tryd.prog ops Q rest (a.put o.dst (.slice (some ⟨g, 0, none⟩) (k + m) cap)) w') :
    wpList Tryd.prog ops Q (o :: rest) a w := by
  obtain ⟨i0, hi, hz0, hz1, hz2⟩ := info_parts info5
  refine wp_own hgd s x 52 ho 5 i0 _ 1 1 Tryd.underlying52 hi hz0 hz1 hz2 rfl (by decide) v k _ hs hown ad m c (y.map (Value.int .u8)) hx hm (by rw [List.length_map, hl, Nat.mul_one]) hb.news (cells_u8 y) (by unfold maxLen; omega) (by omega) ?_
  intro g cap w' h1 h2 h3
  rw [← List.map_append] at h1
  exact h g cap w' h1 h2 h3
theorem make512 : ∃ o : Obj, (∀ w : World, (Instr.makeSlice 52 (.int .i64 512) (.int .i64 512)).run Tryd.prog w = .ok (.slice (some ⟨w.heap.size, 0, none⟩) 512 512) (w.alloc o)) ∧ ∀ w : World, OwnB (w.alloc o) w.heap.size 512 (zn 512) := by
  obtain ⟨i0, hi, hz0, hz1, hz2⟩ := info_parts info5
  refine ⟨.cells (madeCells #[.int .u8 0] 512) 5, fun w => run_make_row (P := Tryd.prog) 52 5 i0 _ Tryd.underlying52 hi hz0 hz1 rfl .i64 .i64 512 (by rw [hz2]; omega) (by omega) w, fun w => ?_⟩
  refine ⟨⟨_, heap_alloc_new _ _, ?_, ?_⟩, ?_, ?_, ?_, wf_rep 512 0 (by omega)⟩
  · rw [← Array.length_toList, made_list, List.length_replicate]
  · rw [made_list, zn_length, zn, List.map_replicate, List.take_replicate, Nat.min_self]
  · rw [zn_length]; omega
  · rw [zn_length]; omega
  · unfold maxLen; omega
end Go.Proofs.YtgmccpimpbnnpaaDoor

namespace Go.Proofs.YtgmccpimpbnnpaaDoor
open Go.RowKit Rec
end Go.Proofs.YtgmccpimpbnnpaaDoor

namespace Go.Proofs.YtgmccpimpbnnpaaDoor
open Go.RowKit Rec
theorem nth_cellI (l : List Int) (k : Nat) (h : k < l.length) : ((l.map (Value.int .i64)).toArray)[k]? = some (.int .i64 (nth l k)) := by
  simp [nth, List.getD, h]
structure OwnI (w : World) (g cap : Nat) (l : List Int) : Prop where
  row : ∃ cur : Array Value, w.heap[g]? = some (.cells cur 3 (0, 0)) ∧ cur.size = cap ∧ cur.toList.take l.length = l.map (Value.int .i64)
  len : l.length ≤ 1000000000000000
  room : l.length ≤ cap
  top : cap ≤ maxLen
theorem OwnI.cell {w : World} {g cap : Nat} {l : List Int} (h : OwnI w g cap l) (i : Nat) (hi : i < l.length) : w.cell? ⟨g, i, none⟩ = some (.int .i64 (nth l i)) := by
  obtain ⟨cur, hg, _, ht⟩ := h.row
  rw [cell_of_row _ _ _ _ _ _ hg, ← nth_cellI l i hi, ← ht]
  simp [hi]
theorem OwnI.frozen {w : World} {g cap : Nat} {l : List Int} (h : OwnI w g cap l) (i : Nat) : w.frozen? ⟨g, i, none⟩ = false := by
  obtain ⟨cur, hg, _, _⟩ := h.row
  exact frozen_of_row _ _ _ _ _ hg
theorem OwnI.ints {w : World} {g cap : Nat} {l : List Int} (h : OwnI w g cap l) : Ints w (some ⟨g, 0, none⟩) l :=
  ⟨h.len, .inr ⟨g, 0, rfl, fun i hi => by rw [Nat.zero_add]; exact h.cell i hi⟩⟩
theorem OwnI.lt {w : World} {g cap : Nat} {l : List Int} (h : OwnI w g cap l) : g < w.heap.size := by
  obtain ⟨cur, hg, _, _⟩ := h.row
  exact heap_lt hg
theorem OwnI.fr {S : Nat → Prop} {w w' : World} {g cap : Nat} {l : List Int} (h : OwnI w g cap l) (x : Fr S w w') (hr : ¬ S g) : OwnI w' g cap l := by
  obtain ⟨cur, hg, h2, h3⟩ := h.row
  exact ⟨⟨cur, x.heap hg hr, h2, h3⟩, h.len, h.room, h.top⟩
theorem OwnI.on {w w' : World} {g cap : Nat} {l : List Int} (h : OwnI w g cap l) (hb : Below w.heap.size w w') : OwnI w' g cap l := h.fr (below_fr hb (fun _ => False)) (fun e => e)
theorem OwnB.fr {S : Nat → Prop} {w w' : World} {g cap : Nat} {l : List Int} (h : OwnB w g cap l) (x : Fr S w w') (hr : ¬ S g) : OwnB w' g cap l := by
  obtain ⟨cur, hg, h2, h3⟩ := h.row
  exact ⟨⟨cur, x.heap hg hr, h2, h3⟩, h.len, h.room, h.top, h.wf⟩
theorem OwnI.set {w : World} {g cap : Nat} {l : List Int} (h : OwnI w g cap l) (k : Nat) (c : Int) :
    OwnI (w.setCell ⟨g, k, none⟩ (.int .i64 c)) g cap (l.set k c) := by
  obtain ⟨cur, hg, h2, h3⟩ := h.row
  refine ⟨⟨cur.setIfInBounds k (.int .i64 c), heap_setCell_same _ _ _ _ _ _ hg, by simp [h2], ?_⟩, by simpa using h.len, by simpa using h.room, h.top⟩
  rw [List.length_set, Array.toList_setIfInBounds, List.take_set, h3, List.map_set]
theorem OwnI.of {w : World} {g n cap : Nat} {l : List Int} (h : w.ownsRow 0 3 1 (.slice (some ⟨g, 0, none⟩) n cap) n (l.map (Value.int .i64))) (hl : l.length = n) (hn : n ≤ 1000000000000000) : OwnI w g cap l := by
  subst hl
  rcases h.2 with ⟨hv, _⟩ | ⟨g', cap', cur, hv, h1, hg, h2, h3, h4, h5⟩
  · cases hv
  · cases hv
    exact ⟨⟨cur, hg, by omega, by simpa using h5⟩, hn, h2, h3⟩
theorem Data.cell {w : World} {b off i : Nat} {ds : List (List Int)} (h : Data w (some ⟨b, off, none⟩) ds) (hi : i < ds.length) : ∃ a' c, w.cell? ⟨b, off + i, none⟩ = some (.slice a' (row ds i).length c) ∧ Bytes w a' (row ds i) ∧ (a' = none → c = 0) := by
  rcases h.at_ with e | ⟨b', off', e, hc⟩
  · subst e; exact absurd hi (by simp)
  · cases e; exact hc i hi
end Go.Proofs.YtgmccpimpbnnpaaDoor

namespace Go.Proofs.YtgmccpimpbnnpaaDoor
open Rec Go.ChangeShapes Go.WideShapes Go.ChangeAt Go.RowKit
theorem nth_wf {l : List Int} (h : ∀ c ∈ l, 0 ≤ c ∧ c < 256) (i : Nat) : 0 ≤ nth l i ∧ nth l i < 256 := by
  unfold nth
  by_cases hi : i < l.length
  · have : l.getD i 0 = l[i] := by simp [List.getD, hi]
    rw [this]; exact h _ (List.getElem_mem hi)
  · have : l.getD i 0 = 0 := by simp [List.getD, hi]
    rw [this]; omega
theorem cells5 : Tryd.prog.cellsOf 5 = 1 := by kernel_rfl
theorem bytes5 : Tryd.prog.bytesOf 5 = 1 := by kernel_rfl
theorem wf_u8 {x : Int} (h : (Lit.int .u8 x).wf = true) : 0 ≤ x ∧ x < 256 := by
  have hmin : IntKind.u8.min = 0 := rfl
  have hmax : IntKind.u8.max = 255 := rfl
  simp only [Lit.wf, Bool.and_eq_true, decide_eq_true_eq] at h
  omega
theorem open_bytes {H : Type} {enc : TypeId × Value → H} {W : World} {a : Option Addr} {len cap : Nat} {d : DataW H} {p : List MemPlace} {fuel : Nat}
    (hf : DataW.trod enc Tryd.prog W 0 (fun _ => true) true fuel 52 [.slice a len cap] = some (d, p)) (hz : ∀ n ∈ d.weights Tryd.prog 52, n ≤ reachBytes) :
    ∃ l : List Int, l.length = len ∧ Bytes W a l ∧ (a = none → cap = 0) ∧ len ≤ 140737488351232 := by
  rcases open_ints Tryd.underlying52 Tryd.underlying5 cells5 hf with ⟨hcs, _⟩ | ⟨x, l, c, zs, hcs, _, hl, hm, hlen, hx, hcell, hwz⟩
  · simp at hcs
    obtain ⟨rfl, rfl, rfl⟩ := hcs
    exact ⟨[], rfl, ⟨by simp, fun i => by simp [nth], .inl rfl⟩, fun _ => rfl, by omega⟩
  · simp only [List.cons.injEq, Value.slice.injEq, and_true] at hcs
    obtain ⟨rfl, rfl, rfl⟩ := hcs
    simp only [Prod.mk.injEq] at hx
    obtain ⟨rfl, _⟩ := hx
    simp only [if_true] at hlen
    have hb : cap ≤ 140737488351232 := by
      have h1 := hz ((lits (H := H) .u8 (zs.take len)).length + (lits (H := H) .u8 (zs.drop len)).length) (by simp [DataW.weights, Tryd.underlying52, bytes5])
      simp [lits, reachBytes] at h1
      omega
    refine ⟨zs.take len, by simp; omega, ⟨by simp; omega, nth_wf fun n hn => wf_u8 (hwz n (List.mem_of_mem_take hn)), ?_⟩, fun h => (nomatch h), by omega⟩
    by_cases h0 : len = 0
    · exact .inl (by simp [h0])
    · obtain ⟨b, off, rfl, hc⟩ := ints_at hcell (by omega)
      refine .inr ⟨b, off, rfl, fun i hi => ?_⟩
      have hi' : i < len := by simp at hi; omega
      rw [hc i (by omega)]
      have e : nth (zs.take len) i = zs.getD i 0 := by simp [nth, List.getD, hi']
      rw [e]
theorem wf_i64 {x : Int} (h : (Lit.int .i64 x).wf = true) : -9223372036854775808 ≤ x ∧ x ≤ 9223372036854775807 := by
  have hmin : IntKind.i64.min = -9223372036854775808 := rfl
  have hmax : IntKind.i64.max = 9223372036854775807 := rfl
  simp only [Lit.wf, Bool.and_eq_true, decide_eq_true_eq] at h
  omega
theorem bytesI : Tryd.prog.bytesOf 3 = 8 := by kernel_rfl
theorem recs_list {R : Type} (sz : Nat) (cells : R → List Value) (ok : R → Prop) (W : World) (x : Addr) (len : Nat) (hex : ∀ i, i < len → ∃ q : R, ok q ∧ ∀ j, j < sz → W.cell? ((x.add (i * sz)).add j) = (cells q)[j]?) :
    ∀ k, k ≤ len → ∃ L : List R, L.length = k ∧ (∀ q ∈ L, ok q) ∧ ∀ i q, L[i]? = some q → ∀ j, j < sz → W.cell? ((x.add (i * sz)).add j) = (cells q)[j]?
  | 0, _ => ⟨[], rfl, fun q h => by simp at h, fun i q h => by simp at h⟩
  | k + 1, hk => by
    obtain ⟨L, hl, h1, h2⟩ := recs_list sz cells ok W x len hex k (by omega)
    obtain ⟨q, q1, q2⟩ := hex k (by omega)
    refine ⟨L ++ [q], by simp [hl], fun r hr => ?_, fun i r hr => ?_⟩
    · rcases List.mem_append.1 hr with h | h
      · exact h1 r h
      · simp at h; subst h; exact q1
    · by_cases hi : i < L.length
      · rw [List.getElem?_append_left hi] at hr; exact h2 i r hr
      · rw [List.getElem?_append_right (by omega)] at hr
        have : i - L.length = 0 := by
          by_cases h : i - L.length = 0
          · exact h
          · rw [List.getElem?_eq_none (by simp; omega)] at hr; cases hr
        rw [this] at hr
        simp at hr
        subst hr
        have e : i = k := by omega
        rw [e]; exact q2
theorem open_nums {H : Type} {enc : TypeId × Value → H} {W : World} {a : Option Addr} {len cap : Nat} {d : DataW H} {p : List MemPlace} {fuel : Nat}
    (hf : DataW.trod enc Tryd.prog W 0 (fun _ => true) true fuel 22 [.slice a len cap] = some (d, p)) (hz : ∀ n ∈ d.weights Tryd.prog 22, n ≤ reachBytes) :
    ∃ l : List Int, l.length = len ∧ Ints W a l ∧ (∀ i, -9223372036854775808 ≤ nth l i ∧ nth l i ≤ 9223372036854775807) ∧ len ≤ cap ∧ (a = none → cap = 0) ∧ len ≤ 17592186043904 := by
  rcases open_ints Tryd.underlying22 Tryd.underlying3 cellsN hf with ⟨hcs, _⟩ | ⟨x, l, c, zs, hcs, _, hl, hm, hlen, hx, hcell, hwz⟩
  · simp at hcs
    obtain ⟨rfl, rfl, rfl⟩ := hcs
    exact ⟨[], rfl, ⟨by simp, .inl rfl⟩, fun i => by simp [nth], Nat.le_refl _, fun _ => rfl, by omega⟩
  · simp only [List.cons.injEq, Value.slice.injEq, and_true] at hcs
    obtain ⟨rfl, rfl, rfl⟩ := hcs
    simp only [Prod.mk.injEq] at hx
    obtain ⟨rfl, _⟩ := hx
    simp only [if_true] at hlen
    have hb : cap ≤ 17592186043904 := by
      have h1 := hz (((lits (H := H) .i64 (zs.take len)).length + (lits (H := H) .i64 (zs.drop len)).length) * 8) (by simp [DataW.weights, Tryd.underlying22, bytesI])
      simp [lits, reachBytes] at h1
      omega
    refine ⟨zs.take len, by simp; omega, ⟨by simp; omega, ?_⟩, fun i => ?_, hl, fun h => (nomatch h), by omega⟩
    · by_cases h0 : len = 0
      · exact .inl (by simp [h0])
      · obtain ⟨b, off, rfl, hc⟩ := ints_at hcell (by omega)
        refine .inr ⟨b, off, rfl, fun i hi => ?_⟩
        have hi' : i < len := by simp at hi; omega
        rw [hc i (by omega)]
        have e : nth (zs.take len) i = zs.getD i 0 := by simp [nth, List.getD, hi']
        rw [e]
    · by_cases hi : i < (zs.take len).length
      · have e : nth (zs.take len) i = (zs.take len)[i] := by unfold nth; rw [List.getD_eq_getElem?_getD, List.getElem?_eq_getElem hi]; rfl
        rw [e]
        exact wf_i64 (hwz _ (List.mem_of_mem_take (List.getElem_mem hi)))
      · rw [nth_out _ _ (by omega)]; omega
end Go.Proofs.YtgmccpimpbnnpaaDoor
