import Derived.Test.YtgkgcocpkammfaaOwn
import Derived.Test.YtgkgcocpkammfaaKZero
namespace Go.Proofs.Ytgkgcocpkammfaa
open Go.RowKit
open Crc (W)

/-- a word as the model has it -/
def U (x : W) : Int := (x.toNat : Int)
theorem U_lo (x : W) : 0 ≤ U x := Int.natCast_nonneg _
theorem U_hi (x : W) : U x < 4294967296 := by unfold U; have := x.isLt; omega
theorem U_inj {x y : W} (h : U x = U y) : x = y := by unfold U at h; exact BitVec.eq_of_toNat_eq (by omega)
theorem U_ofInt (x : Int) (h0 : 0 ≤ x) (h1 : x < 4294967296) : U (BitVec.ofInt 32 x) = x := by
  obtain ⟨X, rfl⟩ := Int.eq_ofNat_of_zero_le h0
  unfold U
  rw [BitVec.ofInt_natCast, BitVec.toNat_ofNat, Nat.mod_eq_of_lt (by omega)]
theorem of_word (x : Int) (h0 : 0 ≤ x) (h1 : x < 4294967296) : ∃ X : W, x = U X := ⟨_, (U_ofInt x h0 h1).symm⟩
theorem ofInt_U (x : W) : BitVec.ofInt 32 (U x) = x := U_inj (U_ofInt _ (U_lo x) (U_hi x))

theorem bits_xor (x y : W) : bits .xor .u32 (U x) (U y) = U (x ^^^ y) := by
  have := u32_xor_nat x.toNat y.toNat (by have := x.isLt; omega) (by have := y.isLt; omega)
  unfold U
  rw [this, BitVec.toNat_xor]
theorem bits_and15 (x : W) : bits .and .u32 (U x) 15 = U x % 16 := by
  have := u32_and_nat x.toNat 15 (by have := x.isLt; omega) (by omega)
  unfold U
  rw [show (15 : Int) = ((15 : Nat) : Int) from rfl, this, show (15 : Nat) = 2 ^ 4 - 1 from rfl, Nat.and_two_pow_sub_one_eq_mod]; omega
theorem shr4 (x : W) : U x / (16 : Int) = U (x >>> (4 : Nat)) := by
  unfold U
  rw [BitVec.toNat_ushiftRight, Nat.shiftRight_eq_div_pow]; omega
theorem half_int (x : W) : bits .xor .u32 (U x / 16) ((Crc.tab.getD ((U x % 16).toNat) 0 : Nat) : Int) = U (Crc.half x) := by
  have e1 : (U x % 16).toNat = x.toNat % 16 := by unfold U; omega
  have hlt : ∀ k, k < 16 → Crc.tab.getD k 0 < 4294967296 := by decide +kernel
  have e2 : ((Crc.tab.getD (x.toNat % 16) 0 : Nat) : Int) = U (BitVec.ofNat 32 (Crc.tab.getD (x.toNat % 16) 0)) := by
    unfold U
    rw [BitVec.toNat_ofNat, Nat.mod_eq_of_lt (hlt _ (by omega))]
  rw [e1, e2, shr4, bits_xor]; rfl

end Go.Proofs.Ytgkgcocpkammfaa

namespace Go.Proofs.Ytgkgcocpkammfaa
open Go.RowKit Rec
open Crc (W)

theorem xor_byte (x : W) (c : Int) (h : 0 ≤ c ∧ c < 256) : bits .xor .u32 (U x) c = U (x ^^^ BitVec.ofInt 32 c) := by
  rw [← bits_xor, U_ofInt c h.1 (by omega)]
theorem not_word (x : W) : bits .xor .u32 IntKind.u32.max (U x) = U (x ^^^ Crc.ones) := by
  rw [BitVec.xor_comm, ← bits_xor]; rfl
theorem take_snoc (l : List Int) (k : Nat) (h : k < l.length) : l.take (k + 1) = l.take k ++ [nth l k] := by
  rw [List.take_succ_eq_append_getElem h]; simp [nth, List.getD, h]

end Go.Proofs.Ytgkgcocpkammfaa

namespace Go.Proofs.Ytgkgcocpkammfaa
open Go.RowKit Rec

/-- numbers in memory -/
structure Ints (w : World) (a : Option Addr) (l : List Int) : Prop where
  len : l.length ≤ 1000000000000000
  at_ : l = [] ∨ ∃ b off, a = some ⟨b, off, none⟩ ∧ ∀ i, i < l.length → w.cell? ⟨b, off + i, none⟩ = some (.int .i64 (nth l i))
theorem Ints.on {w w' : World} {a : Option Addr} {l : List Int} (h : Ints w a l) (hb : Below w.heap.size w w') : Ints w' a l := by
  refine ⟨h.len, ?_⟩
  rcases h.at_ with e | ⟨b, off, rfl, hc⟩
  · exact .inl e
  · exact .inr ⟨b, off, rfl, fun i hi => by rw [hb.cell (block_lt_of_cell (hc i hi))]; exact hc i hi⟩
/-- one of the rows -/
def row (ds : List (List Int)) (i : Nat) : List Int := ds.getD i []
/-- rows in memory -/
structure Data (w : World) (a : Option Addr) (ds : List (List Int)) : Prop where
  len : ds.length ≤ 1000000000000000
  at_ : ds = [] ∨ ∃ b off, a = some ⟨b, off, none⟩ ∧ ∀ i, i < ds.length → ∃ a' c, w.cell? ⟨b, off + i, none⟩ = some (.slice a' (row ds i).length c) ∧ Bytes w a' (row ds i) ∧ (a' = none → c = 0)
theorem Data.on {w w' : World} {a : Option Addr} {ds : List (List Int)} (h : Data w a ds) (hb : Below w.heap.size w w') : Data w' a ds := by
  refine ⟨h.len, ?_⟩
  rcases h.at_ with e | ⟨b, off, rfl, hc⟩
  · exact .inl e
  · refine .inr ⟨b, off, rfl, fun i hi => ?_⟩
    obtain ⟨a', c, h1, h2, h3⟩ := hc i hi
    exact ⟨a', c, by rw [hb.cell (block_lt_of_cell h1)]; exact h1, h2.on hb, h3⟩
/-- a number in a row of its own -/
def Box (w : World) (p : Nat) (v : Int) : Prop := w.heap[p]? = some (.cells #[.int .i64 v] 3 (0, 0))
theorem Box.cell {w : World} {p : Nat} {v : Int} (h : Box w p v) : w.cell? ⟨p, 0, none⟩ = some (.int .i64 v) := by rw [cell_of_row _ _ _ _ _ _ h]; rfl
theorem Box.frozen {w : World} {p : Nat} {v : Int} (h : Box w p v) : w.frozen? ⟨p, 0, none⟩ = false := frozen_of_row _ _ _ _ _ h
theorem Box.set {w : World} {p : Nat} {v : Int} (h : Box w p v) (u : Int) : Box (w.setCell ⟨p, 0, none⟩ (.int .i64 u)) p u := by
  exact heap_setCell_same _ _ _ _ _ _ h
theorem Box.fr {S : Nat → Prop} {w w' : World} {p : Nat} {v : Int} (h : Box w p v) (x : Fr S w w') (hp : ¬ S p) : Box w' p v := x.heap h hp

end Go.Proofs.Ytgkgcocpkammfaa
