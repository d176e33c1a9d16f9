import Derived.Test.YtflienghgobmoaaGreatDoorKFrame
import Derived.OwnWalk
import Derived.Deep.OwnRows
import Derived.WalkSpells
import Derived.Lib.BufferMore
import Derived.Laws.StructEq
namespace Go.Proofs.YtflienghgobmoaaGreatDoor
open Go.RowKit
open Crc (W)

/-- a word as the model has it -/
def U (x : W) : Int := (x.toNat : Int)
theorem U_lo (x : W) : 0 ≤ U x := Int.natCast_nonneg _
theorem U_hi (x : W) : U x < 4294967296 := by unfold U; have := x.isLt; omega
theorem U_ofInt (x : Int) (h0 : 0 ≤ x) (h1 : x < 4294967296) : U (BitVec.ofInt 32 x) = x := by
  obtain ⟨X, rfl⟩ := Int.eq_ofNat_of_zero_le h0
  unfold U
  rw [BitVec.ofInt_natCast, BitVec.toNat_ofNat, Nat.mod_eq_of_lt (by omega)]
theorem bits_xor (x y : W) : bits .xor .u32 (U x) (U y) = U (x ^^^ y) := by
  have := u32_xor_nat x.toNat y.toNat (by have := x.isLt; omega) (by have := y.isLt; omega)
  unfold U
  rw [this, BitVec.toNat_xor]
theorem bits_and15 (x : W) : bits .and .u32 (U x) 15 = U x % 16 := by
  have := u32_and_nat x.toNat 15 (by have := x.isLt; omega) (by omega)
  unfold U
  rw [show (15 : Int) = ((15 : Nat) : Int) from rfl, this, show (15 : Nat) = 2 ^ 4 - 1 from rfl, Nat.and_two_pow_sub_one_eq_mod]; omega
theorem shr4 (x : W) : U x / (16 : Int) = U (x >>> (4 : Nat)) := by
  unfold U
  rw [BitVec.toNat_ushiftRight, Nat.shiftRight_eq_div_pow]; omega
theorem half_int (x : W) : bits .xor .u32 (U x / 16) ((Crc.tab.getD ((U x % 16).toNat) 0 : Nat) : Int) = U (Crc.half x) := by
  have e1 : (U x % 16).toNat = x.toNat % 16 := by unfold U; omega
  have hlt : ∀ k, k < 16 → Crc.tab.getD k 0 < 4294967296 := by decide +kernel
  have e2 : ((Crc.tab.getD (x.toNat % 16) 0 : Nat) : Int) = U (BitVec.ofNat 32 (Crc.tab.getD (x.toNat % 16) 0)) := by
    unfold U
    rw [BitVec.toNat_ofNat, Nat.mod_eq_of_lt (hlt _ (by omega))]
  rw [e1, e2, shr4, bits_xor]; rfl

set_option maxRecDepth 100000 in
theorem eight_core (w : World) (x y z t1 t2 : Int) (_h0 : 0 ≤ x) (_h1 : x < 4294967296) (_h2 : 0 ≤ y) (_h3 : y < 4294967296)
    (a1 : bits .and .u32 x 15 = x % 16) (c1 : w.cell? ⟨1, (x % 16).toNat, none⟩ = some (.int .u32 t1)) (e1 : bits .xor .u32 (x / 16) t1 = y)
    (a2 : bits .and .u32 y 15 = y % 16) (c2 : w.cell? ⟨1, (y % 16).toNat, none⟩ = some (.int .u32 t2)) (e2 : bits .xor .u32 (y / 16) t2 = z) :
    Calls Tryz.prog 206 #[.int .u32 x] w fun e w' => e = .returned (.int .u32 z) ∧ w = w' := by
  have b1 : 0 ≤ x % 16 ∧ x % 16 < 16 := by omega
  have b2 : 0 ≤ y % 16 ∧ y % 16 < 16 := by omega
  go_enter Tryz.func206, Tryz.ntmps206
  go_wp2
  go_ret
  exact ⟨rfl, rfl⟩

theorem eight_any (w : World) (x : W) (hT : TabAt w) :
    Calls Tryz.prog 206 #[.int .u32 (U x)] w fun e w' => e = .returned (.int .u32 (U (Crc.e8 x))) ∧ w = w' := by
  have lo := U_lo x
  have lo2 := U_lo (Crc.half x)
  rw [← Crc.half_half]
  exact eight_core w (U x) (U (Crc.half x)) _ _ _ lo (U_hi x) lo2 (U_hi _) (bits_and15 x) (hT.hal _ (by omega)) (half_int x) (bits_and15 _) (hT.hal _ (by omega)) (half_int _)
end Go.Proofs.YtflienghgobmoaaGreatDoor

namespace Go.Proofs.YtflienghgobmoaaGreatDoor
open Go.RowKit Rec
open Crc (W)

theorem xor_byte (x : W) (c : Int) (h : 0 ≤ c ∧ c < 256) : bits .xor .u32 (U x) c = U (x ^^^ BitVec.ofInt 32 c) := by
  rw [← bits_xor, U_ofInt c h.1 (by omega)]
theorem not_word (x : W) : bits .xor .u32 IntKind.u32.max (U x) = U (x ^^^ Crc.ones) := by
  rw [BitVec.xor_comm, ← bits_xor]; rfl
theorem take_snoc (l : List Int) (k : Nat) (h : k < l.length) : l.take (k + 1) = l.take k ++ [nth l k] := by
  rw [List.take_succ_eq_append_getElem h]; simp [nth, List.getD, h]

set_option maxRecDepth 100000 in
set_option maxHeartbeats 400000 in
theorem of_some (w : World) (b off cap : Nat) (l : List Int) (hT : TabAt w) (hlen : l.length ≤ 1000000000000000) (hwf : ∀ i, 0 ≤ nth l i ∧ nth l i < 256)
    (hc : ∀ i, i < l.length → w.cell? ⟨b, off + i, none⟩ = some (.int .u8 (nth l i))) :
    Calls Tryz.prog 200 #[.slice (some ⟨b, off, none⟩) l.length cap] w fun e w' => e = .returned (.int .u32 (U (Crc.crc l))) ∧ w = w' := by
  have HT : Hid (TabAt w) := hT
  have HC : Hid (∀ i, i < l.length → w.cell? ⟨b, off + i, none⟩ = some (.int .u8 (nth l i))) := hc
  have HW : Hid (∀ i, 0 ≤ nth l i ∧ nth l i < 256) := hwf
  clear hT hc hwf
  generalize hn : l.length = n at *
  have HN : Hid (l.length = n) := hn
  clear hn
  go_enter Tryz.func200, Tryz.ntmps200
  go_wp2
  go_loop [3, 8] (fun t i => ∃ k : Nat, k ≤ n ∧ i = .int .i64 k ∧ t = .int .u32 (U (Crc.fold Crc.ones (l.take k)))) (fun _ i => n - (intOf i).toNat)
  case atStart => exact ⟨0, Nat.zero_le _, rfl, rfl⟩
  case round =>
    obtain ⟨k, hk, rfl, rfl⟩ := hrel
    by_cases hlt : k < n
    · have c := HC.out k hlt
      have cb := HW.out k
      have hx := xor_byte (Crc.fold Crc.ones (l.take k)) (nth l k) cb
      have hs : Hid (Crc.fold Crc.ones (l.take (k + 1)) = Crc.e8 (Crc.fold Crc.ones (l.take k) ^^^ BitVec.ofInt 32 (nth l k))) := by
        rw [take_snoc l k (by rw [HN.out]; exact hlt)]; exact Crc.fold_snoc _ _ _
      go_wp2_with fail
      refine (eight_any _ _ HT.out).mono ?_
      rintro e w' ⟨rfl, rfl⟩
      go_wp2
      go_round
      case rel => exact ⟨k + 1, by omega, by go_num, by rw [hs.out]⟩
      case measure => simp [intOf]; omega
    · go_wp2
      go_ret
      refine ⟨?_, rfl⟩
      show Ending.returned (.int .u32 (bits .xor .u32 IntKind.u32.max (U (Crc.fold Crc.ones (l.take k))))) = _
      rw [List.take_of_length_le (by rw [HN.out]; omega), not_word]; rfl

set_option maxRecDepth 100000 in
theorem of_none (w : World) (a : Option Addr) (cap : Nat) :
    Calls Tryz.prog 200 #[.slice a 0 cap] w fun e w' => e = .returned (.int .u32 (U (Crc.crc []))) ∧ w = w' := by
  go_enter Tryz.func200, Tryz.ntmps200
  go_wp2
  go_loop [3, 8] (fun t i => i = .int .i64 0 ∧ t = .int .u32 4294967295) (fun _ _ => 0)
  case atStart => exact ⟨rfl, rfl⟩
  case round =>
    obtain ⟨rfl, rfl⟩ := hrel
    go_wp2
    go_ret
    exact ⟨rfl, rfl⟩

theorem of_any (w : World) (a : Option Addr) (n cap : Nat) (l : List Int) (hn : l.length = n) (hT : TabAt w) (hB : Bytes w a l) :
    Calls Tryz.prog 200 #[.slice a n cap] w fun e w' => e = .returned (.int .u32 (U (Crc.crc l))) ∧ w = w' := by
  subst hn
  rcases hB.at_ with h | ⟨b, off, rfl, hc⟩
  · subst h; exact of_none w a cap
  · exact of_some w b off cap l hT hB.len hB.wf hc
end Go.Proofs.YtflienghgobmoaaGreatDoor

namespace Go.Proofs.YtflienghgobmoaaGreatDoor
open Go.RowKit Rec

/-- numbers in memory -/
structure Ints (w : World) (a : Option Addr) (l : List Int) : Prop where
  len : l.length ≤ 1000000000000000
  at_ : l = [] ∨ ∃ b off, a = some ⟨b, off, none⟩ ∧ ∀ i, i < l.length → w.cell? ⟨b, off + i, none⟩ = some (.int .i64 (nth l i))
theorem Ints.on {w w' : World} {a : Option Addr} {l : List Int} (h : Ints w a l) (hb : Below w.heap.size w w') : Ints w' a l := by
  refine ⟨h.len, ?_⟩
  rcases h.at_ with e | ⟨b, off, rfl, hc⟩
  · exact .inl e
  · exact .inr ⟨b, off, rfl, fun i hi => by rw [hb.cell (block_lt_of_cell (hc i hi))]; exact hc i hi⟩
/-- one of the rows -/
def row (ds : List (List Int)) (i : Nat) : List Int := ds.getD i []
/-- rows in memory -/
structure Data (w : World) (a : Option Addr) (ds : List (List Int)) : Prop where
  len : ds.length ≤ 1000000000000000
  at_ : ds = [] ∨ ∃ b off, a = some ⟨b, off, none⟩ ∧ ∀ i, i < ds.length → ∃ a' c, w.cell? ⟨b, off + i, none⟩ = some (.slice a' (row ds i).length c) ∧ Bytes w a' (row ds i) ∧ (a' = none → c = 0)
theorem Data.on {w w' : World} {a : Option Addr} {ds : List (List Int)} (h : Data w a ds) (hb : Below w.heap.size w w') : Data w' a ds := by
  refine ⟨h.len, ?_⟩
  rcases h.at_ with e | ⟨b, off, rfl, hc⟩
  · exact .inl e
  · refine .inr ⟨b, off, rfl, fun i hi => ?_⟩
    obtain ⟨a', c, h1, h2, h3⟩ := hc i hi
    exact ⟨a', c, by rw [hb.cell (block_lt_of_cell h1)]; exact h1, h2.on hb, h3⟩
/-- a number in a row of its own -/
def Box (w : World) (p : Nat) (v : Int) : Prop := w.heap[p]? = some (.cells #[.int .i64 v] 3 (0, 0))
theorem Box.cell {w : World} {p : Nat} {v : Int} (h : Box w p v) : w.cell? ⟨p, 0, none⟩ = some (.int .i64 v) := by rw [cell_of_row _ _ _ _ _ _ h]; rfl
theorem Box.frozen {w : World} {p : Nat} {v : Int} (h : Box w p v) : w.frozen? ⟨p, 0, none⟩ = false := frozen_of_row _ _ _ _ _ h
theorem Box.set {w : World} {p : Nat} {v : Int} (h : Box w p v) (u : Int) : Box (w.setCell ⟨p, 0, none⟩ (.int .i64 u)) p u := by
  exact heap_setCell_same _ _ _ _ _ _ h
theorem Box.fr {S : Nat → Prop} {w w' : World} {p : Nat} {v : Int} (h : Box w p v) (x : Fr S w w') (hp : ¬ S p) : Box w' p v := x.heap h hp

set_option maxRecDepth 100000 in
theorem notBlock_any (w : World) (a : Option Addr) (n c : Nat) : Calls Tryz.prog 197 #[.slice a n c] w fun e w' => e = .returned (.bool (decide (n ≠ 512))) ∧ w = w' := by
  by_cases h : n = 512
  · subst h
    go_enter Tryz.func197, Tryz.ntmps197
    go_wp2
    go_ret
    exact ⟨rfl, rfl⟩
  · have h' : ¬ (n : Int) = 512 := by omega
    go_enter Tryz.func197, Tryz.ntmps197
    go_wp2
    go_ret
    refine ⟨?_, rfl⟩
    show Ending.returned (.bool ((n : Int) != 512)) = _
    have e : ((n : Int) != 512) = decide (n ≠ 512) := by rw [decide_eq_true h]; simp [h']
    rw [e]
set_option maxRecDepth 100000 in
theorem isCount_any (w : World) (n : Int) : Calls Tryz.prog 178 #[.int .i64 n] w fun e w' => e = .returned (.bool (decide (1 ≤ n) && decide (n ≤ 96))) ∧ w = w' := by
  by_cases h1 : 1 ≤ n
  · by_cases h2 : n ≤ 96
    · go_enter Tryz.func178, Tryz.ntmps178
      go_wp2
      go_ret
      exact ⟨by simp [h2]; omega, rfl⟩
    · go_enter Tryz.func178, Tryz.ntmps178
      go_wp2
      go_ret
      exact ⟨by simp; omega, rfl⟩
  · go_enter Tryz.func178, Tryz.ntmps178
    go_wp2
    go_ret
    exact ⟨by simp; omega, rfl⟩
set_option maxRecDepth 100000 in
theorem numAt_any (w : World) (i : Nat) (h : i ≤ 100) : Calls Tryz.prog 182 #[.int .i64 i] w fun e w' => e = .returned (.int .i64 ((16 + 4 * i : Nat) : Int)) ∧ w = w' := by
  go_enter Tryz.func182, Tryz.ntmps182
  go_wp2
  go_ret
  exact ⟨by go_num, rfl⟩
set_option maxRecDepth 100000 in
set_option maxHeartbeats 800000 in
theorem wrong_any (w : World) (p q : Nat) (bef n num : Int) (hp : Box w p bef) (hq : Box w q n) :
    Calls Tryz.prog 203 #[.int .i64 num, .pointer (some ⟨p, 0, none⟩), .pointer (some ⟨q, 0, none⟩)] w fun e w' => e = .returned (.bool (!(decide (bef < num ∧ num < n)))) ∧ w' = w.setCell ⟨p, 0, none⟩ (.int .i64 num) := by
  have c1 := hp.cell
  have f1 := hp.frozen
  have c2 := hq.cell
  clear hp hq
  by_cases h1 : bef < num
  · by_cases h2 : num < n
    · go_enter Tryz.func203, Tryz.ntmps203
      go_wp2
      go_ret
      exact ⟨by simp [h1, h2], rfl⟩
    · go_enter Tryz.func203, Tryz.ntmps203
      go_wp2
      go_ret
      exact ⟨by simp [h2], rfl⟩
  · go_enter Tryz.func203, Tryz.ntmps203
    go_wp2
    go_ret
    exact ⟨by simp [h1], rfl⟩
end Go.Proofs.YtflienghgobmoaaGreatDoor

namespace Go.Proofs.YtflienghgobmoaaGreatDoor
open Go.RowKit Rec

theorem Ints.cell {w : World} {b off i : Nat} {l : List Int} (h : Ints w (some ⟨b, off, none⟩) l) (hi : i < l.length) : w.cell? ⟨b, off + i, none⟩ = some (.int .i64 (nth l i)) := by
  rcases h.at_ with e | ⟨b', off', e, hc⟩
  · subst e; exact absurd hi (by simp)
  · cases e; exact hc i hi
theorem may_false {ns : List Int} {n : Int} (k : Nat) (hk : k < ns.length) (h : ¬ (pre ns k < nth ns k ∧ nth ns k < n)) : may ns n = false := decide_eq_false (fun e => h (e k hk))
theorem may_true {ns : List Int} {n : Int} (h : ∀ i, i < ns.length → pre ns i < nth ns i ∧ nth ns i < n) : may ns n = true := decide_eq_true h

set_option maxRecDepth 100000 in
set_option maxHeartbeats 800000 in
theorem idx_some (w : World) (b off k c p q : Nat) (ns : List Int) (n : Int) (hn : ns.length = k) (hI : Ints w (some ⟨b, off, none⟩) ns) (hp : Box w p 97) (hq : Box w q n) (hpq : p ≠ q) (hbp : k = 0 ∨ b ≠ p) :
    Calls Tryz.prog 202 #[.slice (some ⟨b, off, none⟩) k c, .func (.func 203) #[] #[.pointer (some ⟨p, 0, none⟩), .pointer (some ⟨q, 0, none⟩)]] w fun e w' => ∃ r : Int, (decide (0 ≤ r)) = (!(may ns n)) ∧ e = .returned (.int .i64 r) ∧ Fr (fun i => i = p) w w' := by
  have hlen := hI.len
  rw [hn] at hlen
  have HC : Hid (∀ wr : World, Fr (fun i => i = p) w wr → ∀ i, i < k → wr.cell? ⟨b, off + i, none⟩ = some (.int .i64 (nth ns i))) := fun wr hf i hi => hf.cell (hI.cell (by omega)) (by intro e; change b = p at e; omega)
  have HQ : Hid (∀ wr : World, Fr (fun i => i = p) w wr → Box wr q n) := fun wr hf => hq.fr hf (fun e => hpq e.symm)
  have HP : Hid (Box w p 97) := hp
  have HN : Hid (ns.length = k) := hn
  clear hI hp hq hn hpq hbp
  go_enter Tryz.func202, Tryz.ntmps202
  go_wp2
  go_loopw [8] (fun i wr => ∃ j : Nat, j ≤ k ∧ i = .int .i64 j ∧ (∀ i, i < j → pre ns i < nth ns i ∧ nth ns i < n) ∧ Box wr p (pre ns j) ∧ Fr (fun i => i = p) w wr) (fun i _ => k - (intOf i).toNat)
  case atStart => exact ⟨0, Nat.zero_le _, rfl, fun j hj => absurd hj (by omega), HP.out, Fr.refl _ _⟩
  case round =>
    obtain ⟨j, hj, rfl, hz, hb, hf⟩ := hrel
    have HZ : Hid (∀ i, i < j → pre ns i < nth ns i ∧ nth ns i < n) := hz
    have HB : Hid (Box wr p (pre ns j)) := hb
    have HF : Hid (Fr (fun i => i = p) w wr) := hf
    clear hz hb hf
    by_cases hlt : j < k
    · have d1 := HC.out _ HF.out j hlt
      by_cases h0 : pre ns j < nth ns j ∧ nth ns j < n
      · have H0 : Hid (pre ns j < nth ns j ∧ nth ns j < n) := h0
        clear h0
        go_wp2_with (go_at_call 203; refine (wrong_any _ p q (pre ns j) n (nth ns j) HB.out (HQ.out _ HF.out)).mono ?_; rintro e w' ⟨rfl, rfl⟩; rw [decide_eq_true H0.out])
        go_round
        case rel =>
          refine ⟨j + 1, by omega, by go_num, fun i hi => (Nat.lt_succ_iff_lt_or_eq.1 hi).elim (fun h => HZ.out i h) (fun h => by subst h; exact H0.out), ?_, HF.out.trans Fr.set (fun i h => .inl h)⟩
          have := HB.out.set (nth ns j)
          exact this
        case measure => simp [intOf]; omega
      · have H0 : Hid (¬ (pre ns j < nth ns j ∧ nth ns j < n)) := h0
        clear h0
        go_wp2_with (go_at_call 203; refine (wrong_any _ p q (pre ns j) n (nth ns j) HB.out (HQ.out _ HF.out)).mono ?_; rintro e w' ⟨rfl, rfl⟩; rw [decide_eq_false H0.out])
        go_ret
        refine ⟨j, ?_, rfl, HF.out.trans Fr.set (fun i h => .inl h)⟩
        rw [may_false j (by rw [HN.out]; exact hlt) H0.out]
        exact decide_eq_true (by omega)
    · go_wp2
      go_ret
      refine ⟨-1, ?_, rfl, HF.out⟩
      rw [may_true (fun i hi => HZ.out i (by rw [HN.out] at hi; omega))]
      rfl
set_option maxRecDepth 100000 in
theorem idx_none (w : World) (a : Option Addr) (c : Nat) (f : Value) :
    Calls Tryz.prog 202 #[.slice a 0 c, f] w fun e w' => e = .returned (.int .i64 (-1)) ∧ w = w' := by
  go_enter Tryz.func202, Tryz.ntmps202
  go_wp2
  go_loop [8] (fun i => i = .int .i64 0) (fun _ => 0)
  case atStart => exact rfl
  case round =>
    obtain rfl := hrel
    go_wp2
    go_ret
    exact ⟨rfl, rfl⟩
theorem idx_any (w : World) (a : Option Addr) (k c p q : Nat) (ns : List Int) (n : Int) (hn : ns.length = k) (hI : Ints w a ns) (hp : Box w p 97) (hq : Box w q n) (hpq : p ≠ q) (hbp : ∀ x, a = some x → k = 0 ∨ x.block ≠ p) :
    Calls Tryz.prog 202 #[.slice a k c, .func (.func 203) #[] #[.pointer (some ⟨p, 0, none⟩), .pointer (some ⟨q, 0, none⟩)]] w fun e w' => ∃ r : Int, (decide (0 ≤ r)) = (!(may ns n)) ∧ e = .returned (.int .i64 r) ∧ Fr (fun i => i = p) w w' := by
  rcases hI.at_ with h | ⟨b, off, rfl, hc⟩
  · subst h; simp at hn; subst hn
    refine (idx_none w a c _).mono ?_
    rintro e w' ⟨rfl, rfl⟩
    exact ⟨-1, by rw [may_true (fun i hi => absurd hi (by simp))]; rfl, rfl, Fr.refl _ _⟩
  · exact idx_some w b off k c p q ns n hn hI hp hq hpq (hbp _ rfl)
set_option maxRecDepth 100000 in
set_option maxHeartbeats 800000 in
theorem cont_any (w : World) (a : Option Addr) (k c p q : Nat) (ns : List Int) (n : Int) (hn : ns.length = k) (hI : Ints w a ns) (hp : Box w p 97) (hq : Box w q n) (hpq : p ≠ q) (hbp : ∀ x, a = some x → k = 0 ∨ x.block ≠ p) :
    Calls Tryz.prog 194 #[.slice a k c, .func (.func 203) #[] #[.pointer (some ⟨p, 0, none⟩), .pointer (some ⟨q, 0, none⟩)]] w fun e w' => e = .returned (.bool (!(may ns n))) ∧ Fr (fun i => i = p) w w' := by
  have HC := idx_any w a k c p q ns n hn hI hp hq hpq hbp
  have HC : Hid (Calls Tryz.prog 202 #[.slice a k c, .func (.func 203) #[] #[.pointer (some ⟨p, 0, none⟩), .pointer (some ⟨q, 0, none⟩)]] w fun e w' => ∃ r : Int, (decide (0 ≤ r)) = (!(may ns n)) ∧ e = .returned (.int .i64 r) ∧ Fr (fun i => i = p) w w') := HC
  clear hn hI hp hq hpq hbp
  go_enter Tryz.func194, Tryz.ntmps194
  go_wp2_with (go_at_call 202; refine HC.out.mono ?_; rintro e w' ⟨r, hr, rfl, hf⟩; have HR : Hid (decide (0 ≤ r) = (!(may ns n)) ∧ Fr (fun i => i = p) w w') := ⟨hr, hf⟩; clear hr hf)
  go_ret
  refine ⟨?_, HR.out.2⟩
  rw [← HR.out.1]; rfl
set_option maxRecDepth 100000 in
set_option maxHeartbeats 800000 in
theorem wrongOn_any (w : World) (n : Int) :
    Calls Tryz.prog 195 #[.int .i64 n] w fun e w' => ∃ p q, e = .returned (.func (.func 203) #[] #[.pointer (some ⟨p, 0, none⟩), .pointer (some ⟨q, 0, none⟩)]) ∧ Box w' p 97 ∧ Box w' q n ∧ p ≠ q ∧ w.heap.size ≤ p ∧ w.heap.size ≤ q ∧ Below w.heap.size w w' := by
  have hmf : ∀ (fn : Fn) (first cap : Array Value) (w : World), (Instr.makeFunc fn first cap).run Tryz.prog w = .ok (.func fn first cap) w := fun _ _ _ _ => rfl
  go_enter Tryz.func195, Tryz.ntmps195
  go_wp2
  go_ret
  have s1 : (w.alloc (.cells #[.int .i64 n] 3)).heap.size = w.heap.size + 1 := by show (w.heap.push _).size = _; exact Array.size_push ..
  have b1 : Below (w.heap.size + 1) (w.alloc (.cells #[.int .i64 n] 3)) ((w.alloc (.cells #[.int .i64 n] 3)).alloc (.cells #[.int .i64 97] 3)) := (Below.refl _ _).alloc (by omega) _
  refine ⟨w.heap.size + 1, w.heap.size, rfl, ?_, ?_, by omega, by omega, Nat.le_refl _, ((Below.refl _ _).alloc (Nat.le_refl _) _).alloc (by omega) _⟩
  · rw [← s1]; exact heap_alloc_new _ _
  · unfold Box
    rw [b1.block _ (by omega)]; exact heap_alloc_new _ _
theorem Ints.far {w : World} {a : Option Addr} {ns : List Int} {k p : Nat} (h : Ints w a ns) (hn : ns.length = k) (hp : w.heap.size ≤ p) : ∀ x, a = some x → k = 0 ∨ x.block ≠ p := by
  intro x hx
  rcases h.at_ with e | ⟨b, off, e, hc⟩
  · subst e; simp at hn; omega
  · subst e
    cases hx
    by_cases h0 : k = 0
    · exact .inl h0
    · have := block_lt_of_cell (hc 0 (by omega))
      have t : b < w.heap.size := this
      exact .inr (fun e => by change b = p at e; omega)
set_option maxRecDepth 100000 in
set_option maxHeartbeats 800000 in
/-- the numbers are asked -/
theorem mayBe_any (w : World) (a : Option Addr) (k c : Nat) (ns : List Int) (n : Int) (hn : ns.length = k) (hI : Ints w a ns) :
    Calls Tryz.prog 179 #[.slice a k c, .int .i64 n] w fun e w' => e = .returned (.bool (may ns n)) ∧ Below w.heap.size w w' := by
  have HI : Hid (Ints w a ns) := hI
  have HN : Hid (ns.length = k) := hn
  clear hI hn
  go_enter Tryz.func179, Tryz.ntmps179
  go_wp2_with (first
    | (go_at_call 195; refine (wrongOn_any _ _).mono ?_; rintro e w1 ⟨p, q, rfl, hp, hq, hpq, hp1, hq1, hb⟩; have H1 : Hid (Box w1 p 97 ∧ Box w1 q n ∧ p ≠ q ∧ w.heap.size ≤ p ∧ w.heap.size ≤ q ∧ Below w.heap.size w w1) := ⟨hp, hq, hpq, hp1, hq1, hb⟩; clear hp hq hpq hp1 hq1 hb)
    | (go_at_call 194; refine (cont_any w1 a k c p q ns n HN.out (HI.out.on H1.out.2.2.2.2.2) H1.out.1 H1.out.2.1 H1.out.2.2.1 (HI.out.far HN.out H1.out.2.2.2.1)).mono ?_; rintro e w2 ⟨rfl, hf⟩; have H2 : Hid (Fr (fun i => i = p) w1 w2) := hf; clear hf))
  go_ret
  refine ⟨?_, H1.out.2.2.2.2.2.trans (H2.out.below _ (fun k hk => by rw [hk]; exact H1.out.2.2.2.1) H1.out.2.2.2.2.2.size)⟩
  rfl

/-- blocks -/
theorem mem_row (ds : List (List Int)) : (∀ b, b ∈ ds → b.length = 512) ↔ ∀ i, i < ds.length → (row ds i).length = 512 := by
  constructor
  · intro h i hi
    have e : row ds i = ds[i] := by simp [row, List.getD, hi]
    rw [e]; exact h _ (List.getElem_mem hi)
  · intro h b hb
    obtain ⟨i, hi, rfl⟩ := List.mem_iff_getElem.1 hb
    have e : row ds i = ds[i] := by simp [row, List.getD, hi]
    rw [← e]; exact h i hi
set_option maxRecDepth 100000 in
set_option maxHeartbeats 800000 in
theorem idb_some (w : World) (b off k c : Nat) (ds : List (List Int)) (hn : ds.length = k) (hk : k ≤ 1000000000000000) (hc : ∀ i, i < ds.length → ∃ a' c, w.cell? ⟨b, off + i, none⟩ = some (.slice a' (row ds i).length c)) :
    Calls Tryz.prog 204 #[.slice (some ⟨b, off, none⟩) k c, .func (.func 197) #[] #[]] w fun e w' => ∃ r : Int, decide (0 ≤ r) = (!(decide (∀ b, b ∈ ds → b.length = 512))) ∧ e = .returned (.int .i64 r) ∧ w = w' := by
  have HC : Hid (∀ i, i < ds.length → ∃ a' c, w.cell? ⟨b, off + i, none⟩ = some (.slice a' (row ds i).length c)) := hc
  have HN : Hid (ds.length = k) := hn
  clear hc hn
  go_enter Tryz.func204, Tryz.ntmps204
  go_wp2
  go_loop [8] (fun i => ∃ j : Nat, j ≤ k ∧ i = .int .i64 j ∧ (∀ i, i < j → (row ds i).length = 512)) (fun i => k - (intOf i).toNat)
  case atStart => exact ⟨0, Nat.zero_le _, rfl, fun j hj => absurd hj (by omega)⟩
  case round =>
    obtain ⟨j, hj, rfl, hz⟩ := hrel
    have HZ : Hid (∀ i, i < j → (row ds i).length = 512) := hz
    clear hz
    by_cases hlt : j < k
    · obtain ⟨a', c', d1⟩ := HC.out j (by rw [HN.out]; exact hlt)
      by_cases h0 : (row ds j).length = 512
      · have H0 : Hid ((row ds j).length = 512) := h0
        rw [h0] at d1
        clear h0
        go_wp2_with (go_at_call 197; refine (notBlock_any _ _ _ _).mono ?_; rintro e w' ⟨rfl, rfl⟩)
        go_round
        case rel => exact ⟨j + 1, by omega, by go_num, fun i hi => (Nat.lt_succ_iff_lt_or_eq.1 hi).elim (fun h => HZ.out i h) (fun h => by subst h; exact H0.out)⟩
        case measure => simp [intOf]; omega
      · have H0 : Hid (¬ (row ds j).length = 512) := h0
        clear h0
        go_wp2_with (go_at_call 197; refine (notBlock_any _ _ _ _).mono ?_; rintro e w' ⟨rfl, rfl⟩; rw [decide_eq_true H0.out])
        go_ret
        refine ⟨j, ?_, rfl, rfl⟩
        rw [decide_eq_false (fun h => H0.out ((mem_row ds).1 h j (by rw [HN.out]; exact hlt)))]
        exact decide_eq_true (by omega)
    · go_wp2
      go_ret
      refine ⟨-1, ?_, rfl, rfl⟩
      rw [decide_eq_true ((mem_row ds).2 (fun i hi => HZ.out i (by rw [HN.out] at hi; omega)))]
      rfl
set_option maxRecDepth 100000 in
theorem idb_none (w : World) (a : Option Addr) (c : Nat) (f : Value) :
    Calls Tryz.prog 204 #[.slice a 0 c, f] w fun e w' => e = .returned (.int .i64 (-1)) ∧ w = w' := by
  go_enter Tryz.func204, Tryz.ntmps204
  go_wp2
  go_loop [8] (fun i => i = .int .i64 0) (fun _ => 0)
  case atStart => exact rfl
  case round =>
    obtain rfl := hrel
    go_wp2
    go_ret
    exact ⟨rfl, rfl⟩
theorem idb_any (w : World) (a : Option Addr) (k c : Nat) (ds : List (List Int)) (hn : ds.length = k) (hD : Data w a ds) :
    Calls Tryz.prog 204 #[.slice a k c, .func (.func 197) #[] #[]] w fun e w' => ∃ r : Int, decide (0 ≤ r) = (!(decide (∀ b, b ∈ ds → b.length = 512))) ∧ e = .returned (.int .i64 r) ∧ w = w' := by
  rcases hD.at_ with h | ⟨b, off, rfl, hc⟩
  · subst h; simp at hn; subst hn
    refine (idb_none w a c _).mono ?_
    rintro e w' ⟨rfl, rfl⟩
    exact ⟨-1, by simp, rfl, rfl⟩
  · exact idb_some w b off k c ds hn (by have := hD.len; omega) (fun i hi => by obtain ⟨a', c, h1, _⟩ := hc i hi; exact ⟨a', c, h1⟩)
set_option maxRecDepth 100000 in
set_option maxHeartbeats 800000 in
theorem conb_any (w : World) (a : Option Addr) (k c : Nat) (ds : List (List Int)) (hn : ds.length = k) (hD : Data w a ds) :
    Calls Tryz.prog 196 #[.slice a k c, .func (.func 197) #[] #[]] w fun e w' => e = .returned (.bool (!(decide (∀ b, b ∈ ds → b.length = 512)))) ∧ w = w' := by
  have HC : Hid (Calls Tryz.prog 204 #[.slice a k c, .func (.func 197) #[] #[]] w fun e w' => ∃ r : Int, decide (0 ≤ r) = (!(decide (∀ b, b ∈ ds → b.length = 512))) ∧ e = .returned (.int .i64 r) ∧ w = w') := idb_any w a k c ds hn hD
  clear hn hD
  go_enter Tryz.func196, Tryz.ntmps196
  go_wp2_with (go_at_call 204; refine HC.out.mono ?_; rintro e w' ⟨r, hr, rfl, rfl⟩; have HR : Hid (decide (0 ≤ r) = (!(decide (∀ b, b ∈ ds → b.length = 512)))) := hr; clear hr)
  go_ret
  refine ⟨?_, rfl⟩
  rw [← HR.out]; rfl
set_option maxRecDepth 100000 in
set_option maxHeartbeats 800000 in
theorem areBlocks_any (w : World) (a : Option Addr) (k c m : Nat) (ds : List (List Int)) (hn : ds.length = k) (hD : Data w a ds) :
    Calls Tryz.prog 180 #[.slice a k c, .int .i64 m] w fun e w' => e = .returned (.bool (blk ds m)) ∧ w = w' := by
  have HC : Hid (Calls Tryz.prog 196 #[.slice a k c, .func (.func 197) #[] #[]] w fun e w' => e = .returned (.bool (!(decide (∀ b, b ∈ ds → b.length = 512)))) ∧ w = w') := conb_any w a k c ds hn hD
  have HN : Hid (ds.length = k) := hn
  clear hn hD
  by_cases h : k = m
  · subst h
    go_enter Tryz.func180, Tryz.ntmps180
    go_wp2_with (go_at_call 196; refine HC.out.mono ?_; rintro e w' ⟨rfl, rfl⟩)
    go_ret
    refine ⟨?_, rfl⟩
    unfold blk
    rw [decide_eq_true HN.out, Bool.true_and]
    rfl
  · have h' : ¬ (k : Int) = (m : Int) := by omega
    go_enter Tryz.func180, Tryz.ntmps180
    go_wp2
    go_ret
    refine ⟨?_, rfl⟩
    unfold blk
    rw [decide_eq_false (fun e => h (by rw [← HN.out, e])), Bool.false_and]; rfl
end Go.Proofs.YtflienghgobmoaaGreatDoor

namespace Go.Proofs.YtflienghgobmoaaGreatDoor
open Go.RowKit Rec

def zn (m : Nat) : List Int := List.replicate m 0
theorem zn_length (m : Nat) : (zn m).length = m := by simp [zn]
theorem nth_rep (m : Nat) (x : Int) (i : Nat) (h : i < m) : nth (List.replicate m x) i = x := by simp [nth, List.getD, h]
theorem wf_rep (m : Nat) (x : Int) (hx : 0 ≤ x ∧ x < 256) : ∀ i, 0 ≤ nth (List.replicate m x) i ∧ nth (List.replicate m x) i < 256 := fun i => by
  by_cases h : i < m
  · rw [nth_rep m x i h]; exact hx
  · rw [nth_out _ _ (by simp; omega)]; omega
theorem made_list (z : Value) (n : Nat) : (madeCells #[z] n).toList = List.replicate n z := toList_madeCells_one z n
/-- 'make([]byte, n)' -/
theorem wp_makeB {ops : Array Oper} {rest : List Oper} {o : Oper} {a : Act} {Q : Exit → Act → World → Prop} {w : World} (hg : o.guard = none) (l c : Operand) (hop : o.op = Op.makeSlice 22 l c)
    (kl kc : IntKind) (L C : Int) (n : Nat) (hl : a.eval l = .int kl L) (hc : a.eval c = .int kc C) (hL : L = (n : Int)) (hC : C = (n : Int)) (hn : n ≤ 281474976710656)
    (hK : ∀ w', OwnB w' w.heap.size n (zn n) → Below w.heap.size w w' → wpList Tryz.prog ops Q rest (a.put o.dst (.slice (some ⟨w.heap.size, 0, none⟩) n n)) w') :
    wpList Tryz.prog ops Q (o :: rest) a w := by
  obtain ⟨i0, hi, hz0, hz1, hz2⟩ := info_parts info5
  subst hL hC
  refine wpList_make_row w hg l c 22 hop 5 i0 _ Tryz.underlying22 hi hz0 hz1 rfl kl kc n hl hc (by rw [hz2]; omega) (by omega) ?_
  refine hK _ ⟨⟨_, heap_alloc_new _ _, ?_, ?_⟩, ?_, ?_, ?_, wf_rep n 0 (by omega)⟩ ((Below.refl _ _).alloc (Nat.le_refl _) _)
  · rw [← Array.length_toList, made_list, List.length_replicate]
  · rw [made_list, zn_length, zn, List.map_replicate, List.take_replicate, Nat.min_self]
  · rw [zn_length]; omega
  · rw [zn_length]; omega
  · unfold maxLen; omega
theorem info3 : (Tryz.prog.info? 3).map (fun i => (i.zero, i.size, i.bytes)) = some (some (.int .i64 0), 1, 8) := by kernel_rfl
/-- 'make([]int, n)' -/
theorem wp_makeI {ops : Array Oper} {rest : List Oper} {o : Oper} {a : Act} {Q : Exit → Act → World → Prop} {w : World} (hg : o.guard = none) (l c : Operand) (hop : o.op = Op.makeSlice 82 l c)
    (kl kc : IntKind) (L C : Int) (n : Nat) (hl : a.eval l = .int kl L) (hc : a.eval c = .int kc C) (hL : L = (n : Int)) (hC : C = (n : Int)) (hn : n ≤ 4294967296)
    (hK : ∀ w', w'.ownsRow 0 3 1 (.slice (some ⟨w.heap.size, 0, none⟩) n n) n ((zn n).map (Value.int .i64)) → Below w.heap.size w w' → wpList Tryz.prog ops Q rest (a.put o.dst (.slice (some ⟨w.heap.size, 0, none⟩) n n)) w') :
    wpList Tryz.prog ops Q (o :: rest) a w := by
  obtain ⟨i0, hi, hz0, hz1, hz2⟩ := info_parts info3
  subst hL hC
  refine wpList_make_row w hg l c 82 hop 3 i0 _ Tryz.underlying82 hi hz0 hz1 rfl kl kc n hl hc (by rw [hz2]; omega) (by omega) ?_
  refine hK _ ⟨by simp [zn], .inr ⟨_, _, _, rfl, Nat.zero_le _, heap_alloc_new _ _, Nat.le_refl _, by unfold maxLen; omega, ?_, ?_⟩⟩ ((Below.refl _ _).alloc (Nat.le_refl _) _)
  · rw [← Array.length_toList, made_list, List.length_replicate, Nat.mul_one]
  · rw [made_list, zn, List.map_replicate, List.take_replicate, Nat.mul_one, Nat.min_self]

theorem nth_app {a b : List Int} (i : Nat) : nth (a ++ b) i = if i < a.length then nth a i else nth b (i - a.length) := by
  unfold nth
  by_cases h : i < a.length
  · rw [if_pos h]; simp [List.getD, List.getElem?_append, h]
  · rw [if_neg h]; simp [List.getD, List.getElem?_append, h]
theorem ownB_of {w : World} {g n cap : Nat} {l : List Int} (h : w.ownsRow 0 5 1 (.slice (some ⟨g, 0, none⟩) n cap) n (l.map (Value.int .u8))) (hl : l.length = n) (hn : n ≤ 1000000000000000) (hw : ∀ i, 0 ≤ nth l i ∧ nth l i < 256) : OwnB w g cap l := by
  subst hl
  rcases h.2 with ⟨hv, _⟩ | ⟨g', cap', cur, hv, h1, hg, h2, h3, h4, h5⟩
  · cases hv
  · cases hv
    exact ⟨⟨cur, hg, by omega, by simpa using h5⟩, hn, h2, h3, hw⟩
/-- append of bytes to nil or one's own -/
theorem wp_bown {ops : Array Oper} {rest : List Oper} {o : Oper} {a : Act} {Q : Exit → Act → World → Prop} {w : World} (hgd : o.guard = none) (s x : Operand)
    (ho : o.op = .call { callee := .builtin .append, args := #[s, x], argTypes := #[22, 22] }) (v : Value) (k : Nat) (l : List Int) (hs : a.eval s = v) (hown : w.ownsRow 0 5 1 v k (l.map (Value.int .u8)))
    (ad : Addr) (m c : Nat) (y : List Int) (hx : a.eval x = .slice (some ad) m c) (hm : 0 < m) (hl : y.length = m) (hb : Bytes w (some ad) y) (h47 : k + m ≤ 140737488355328)
    (h : ∀ g cap w', w'.ownsRow 0 5 1 (.slice (some ⟨g, 0, none⟩) (k + m) cap) (k + m) ((l ++ y).map (Value.int .u8)) → Fr (fun k => v.ownBlock = some k) w w' → (v.ownBlock = some g ∨ w.heap.size ≤ g) → wpList Tryz.prog ops Q rest (a.put o.dst (.slice (some ⟨g, 0, none⟩) (k + m) cap)) w') :
    wpList Tryz.prog ops Q (o :: rest) a w := by
  obtain ⟨i0, hi, hz0, hz1, hz2⟩ := info_parts info5
  refine wp_own hgd s x 22 ho 5 i0 _ 1 1 Tryz.underlying22 hi hz0 hz1 hz2 rfl (by decide) v k _ hs hown ad m c (y.map (Value.int .u8)) hx hm (by rw [List.length_map, hl, Nat.mul_one]) hb.news (cells_u8 y) (by unfold maxLen; omega) (by omega) ?_
  intro g cap w' h1 h2 h3
  rw [← List.map_append] at h1
  exact h g cap w' h1 h2 h3
theorem str_opt {w : World} {a : Option Addr} {n c : Nat} {l : List Int} (hB : Bytes w a l) (hn : l.length = n) : (convert 22 9 (.slice a n c)).run Tryz.prog w = .ok (.string (strOfNums l)) w := by
  cases a with
  | none =>
    have hl := hB.nil
    subst hl
    simp at hn
    subst hn
    exact run_convert_bytes_nil (P := Tryz.prog) w 22 5 Tryz.underlying22 Tryz.underlying5 0 c 9 Tryz.underlying9
  | some p =>
    rcases hB.at_ with e | ⟨b, off, e, hc⟩
    · subst e
      simp at hn
      subst hn
      rw [run_convert_bytes_string w 22 9 5 _ 0 c Tryz.underlying22 Tryz.underlying5 Tryz.underlying9]
      have hl : (loadCells p 0).run Tryz.prog w = .ok ((([] : List Int).map (Value.int .u8)).toArray) w := by
        have := run_loadCells_list (P := Tryz.prog) w p [] (fun j v h => by simp at h)
        simpa using this
      rw [run_bytesToString w p 0 c [] hl]
      rfl
    · cases e
      exact run_convert_bytes_arg (P := Tryz.prog) w 22 5 Tryz.underlying22 Tryz.underlying5 b off n c l hn (fun i hi => hc i (by omega)) 9 Tryz.underlying9
theorem owns_set {w : World} {g n cap e : Nat} {xs : List Value} (h : w.ownsRow 0 e 1 (.slice (some ⟨g, 0, none⟩) n cap) n xs) (k : Nat) (v : Value) : (w.setCell ⟨g, k, none⟩ v).ownsRow 0 e 1 (.slice (some ⟨g, 0, none⟩) n cap) n (xs.set k v) := by
  refine ⟨by rw [List.length_set]; exact h.1, ?_⟩
  rcases h.2 with ⟨h1, _⟩ | ⟨g', cap', cur, h1, h2, h3, h4, h5, h6, h7⟩
  · cases h1
  · cases h1
    exact .inr ⟨_, _, _, rfl, h2, heap_setCell_same _ _ _ _ _ _ h3, h4, h5, by simpa using h6, by rw [Array.toList_setIfInBounds, List.take_set, h7]⟩

set_option maxRecDepth 100000 in
set_option maxHeartbeats 800000 in
theorem clone_any (w : World) (p : Addr) (n c : Nat) (l : List Int) (hb : Bytes w (some p) l) (hn : l.length = n) (h47 : n ≤ 140737488355328) :
    Calls Tryz.prog 199 #[.slice (some p) n c] w fun e w' => ∃ g cap, e = .returned (.slice (some ⟨g, 0, none⟩) n cap) ∧ w.heap.size ≤ g ∧ OwnB w' g cap l ∧ Below w.heap.size w w' := by
  have HB : Hid (Bytes w (some p) l) := hb
  have HN : Hid (l.length = n) := hn
  clear hb hn
  go_enter Tryz.func199, Tryz.ntmps199
  have E1 : ∀ w : World, (binOp .eql 22 (.slice (some p) n c) (.slice none 0 0)).run Tryz.prog w = .ok (.bool false) w := fun w => Go.Lib.run_eql_slice_some_nil w p n c Tryz.underlying22
  have HA : Hid (Below w.heap.size w (w.alloc (.cells #[] 5))) := (Below.refl _ _).alloc (Nat.le_refl _) _
  have HE : Hid (OwnB (w.alloc (.cells #[] 5)) w.heap.size 0 []) := own_empty (heap_alloc_new _ _)
  go_wp2_with (at_builtin; refine wp_app rfl (.tmp 5) (.tmp 6) rfl w.heap.size w.heap.size 0 0 [] l rfl rfl HE.out (Nat.le_refl _) HA.out.size (some p) n c rfl HN.out (HB.out.on HA.out) (fun h => by cases h) (by omega) ?_; intro g cap w2 hg ho hgr; have HG : Hid (w.heap.size ≤ g ∧ OwnB w2 g cap l ∧ Below w.heap.size w w2) := ⟨hg, ho, HA.out.grown hgr HA.out.size (by intro k hk; cases hk; exact Nat.le_refl _)⟩; clear hg ho hgr)
  go_ret
  exact ⟨_, _, rfl, HG.out.1, HG.out.2.1, HG.out.2.2⟩
theorem make512 : ∃ o : Obj, (∀ w : World, (Instr.makeSlice 22 (.int .i64 512) (.int .i64 512)).run Tryz.prog w = .ok (.slice (some ⟨w.heap.size, 0, none⟩) 512 512) (w.alloc o)) ∧ ∀ w : World, OwnB (w.alloc o) w.heap.size 512 (zn 512) := by
  obtain ⟨i0, hi, hz0, hz1, hz2⟩ := info_parts info5
  refine ⟨.cells (madeCells #[.int .u8 0] 512) 5, fun w => run_make_row (P := Tryz.prog) 22 5 i0 _ Tryz.underlying22 hi hz0 hz1 rfl .i64 .i64 512 (by rw [hz2]; omega) (by omega) w, fun w => ?_⟩
  refine ⟨⟨_, heap_alloc_new _ _, ?_, ?_⟩, ?_, ?_, ?_, wf_rep 512 0 (by omega)⟩
  · rw [← Array.length_toList, made_list, List.length_replicate]
  · rw [made_list, zn_length, zn, List.map_replicate, List.take_replicate, Nat.min_self]
  · rw [zn_length]; omega
  · rw [zn_length]; omega
  · unfold maxLen; omega
end Go.Proofs.YtflienghgobmoaaGreatDoor

namespace Go.Proofs.YtflienghgobmoaaGreatDoor
open Go.RowKit Rec

/-- the text of the first eight bytes -/
def magS : ByteArray := { data := #[66, 79, 76, 69, 76, 79, 71, 49] }
theorem magS_nums : sb magS = mag := by decide
end Go.Proofs.YtflienghgobmoaaGreatDoor
