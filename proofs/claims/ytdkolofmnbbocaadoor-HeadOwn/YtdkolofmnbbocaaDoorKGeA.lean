import Derived.Test.YtdkolofmnbbocaaDoorKEight
import Derived.Test.YtdkolofmnbbocaaDoorGeM
import Derived.Laws.ResultCell
namespace Go.Proofs.YtdkolofmnbbocaaDoor
open Go.RowKit Rec

theorem results_row_tmp7 {fn : Func} {p u : Tmp} {ty : TypeId} (h : fn.results = #[.cell p ty, .tmp u]) (tmps : Array Value) (w : World) (g : Nat) (cs : Array Value)
    (hp : tmps.getD p undef = .pointer (some ⟨g, 0, none⟩)) (hl : (loadVar ty ⟨g, 0, none⟩).run Tryd.prog w = .ok (.agg cs) w) :
    (results fn tmps).run Tryd.prog w = .ok (.tuple #[.agg cs, tmps.getD u undef]) w := by
  rw [results_cell_tmp h, hp]
  simp [asAddr, hl]
/-- a Geo -/
def geoV (n : Int) : Value := .agg #[.int .i64 n, .int .i64 98, .int .i64 (gI n), .int .i64 (gD n), .int .i64 (gC n)]
def geo0 : Value := .agg #[.int .i64 0, .int .i64 0, .int .i64 0, .int .i64 0, .int .i64 0]
/-- what Bit answers, and Record -/
def bitA (n i : Int) : Array Value := if 0 ≤ i ∧ i < n then #[.int .i64 (98 + i / 4096), .int .i64 (i % 4096), .int .i64 0] else #[.int .i64 0, .int .i64 0, .int .i64 31]
def recA (n i : Int) : Array Value := if 1 ≤ i ∧ i < gC n then #[.int .i64 (gI n + i / 8), .int .i64 (i % 8 * 64), .int .i64 0] else #[.int .i64 0, .int .i64 0, .int .i64 110]
theorem bitA_in {n i : Int} (h : 0 ≤ i ∧ i < n) : bitA n i = #[.int .i64 (98 + i / 4096), .int .i64 (i % 4096), .int .i64 0] := if_pos h
theorem bitA_out {n i : Int} (h : ¬ (0 ≤ i ∧ i < n)) : bitA n i = #[.int .i64 0, .int .i64 0, .int .i64 31] := if_neg h
theorem recA_in {n i : Int} (h : 1 ≤ i ∧ i < gC n) : recA n i = #[.int .i64 (gI n + i / 8), .int .i64 (i % 8 * 64), .int .i64 0] := if_pos h
theorem recA_out {n i : Int} (h : ¬ (1 ≤ i ∧ i < gC n)) : recA n i = #[.int .i64 0, .int .i64 0, .int .i64 110] := if_neg h
end Go.Proofs.YtdkolofmnbbocaaDoor

namespace Go.Proofs.YtdkolofmnbbocaaDoor
open Go.RowKit Rec
open Crc (W)

theorem sb_mg : sb { data := #[66, 79, 76, 69, 70, 83, 48, 49] } = mg := by decide +kernel
theorem mg_nz : ¬ ∃ i, i < (⟨#[66, 79, 76, 69, 70, 83, 48, 49]⟩ : ByteArray).size ∧ nth (sb ⟨#[66, 79, 76, 69, 70, 83, 48, 49]⟩) i = 0 := by
  rw [sb_mg]
  have : ∀ i, i < 8 → ¬ nth mg i = 0 := by decide
  rintro ⟨i, h1, h2⟩
  exact this i h1 h2
theorem zn_zs : zn 512 = zs := rfl
theorem hasn (n : Int) (h : isLen n = true) : has n (4 : Nat) = true := by
  have := isLen_bd h
  exact decide_eq_true (by show n < 256 ^ 4; simp only [Int.reducePow]; omega)
theorem hass (n : Int) (h : n < 4294967296) : has n (4 : Nat) = true := decide_eq_true (by show n < 256 ^ 4; simp only [Int.reducePow]; omega)
end Go.Proofs.YtdkolofmnbbocaaDoor

namespace Go.Proofs.YtdkolofmnbbocaaDoor
open Go.RowKit Rec

theorem str_inj {l m : List Int} (h1 : ∀ i, 0 ≤ nth l i ∧ nth l i < 256) (h2 : ∀ i, 0 ≤ nth m i ∧ nth m i < 256) : (strOfNums l = strOfNums m) ↔ l = m :=
  ⟨fun h => by rw [← sb_str h1, h, sb_str h2], fun h => by rw [h]⟩
theorem str_same {l m : List Int} (h1 : ∀ i, 0 ≤ nth l i ∧ nth l i < 256) (h2 : ∀ i, 0 ≤ nth m i ∧ nth m i < 256) : ((strOfNums l).toList == (strOfNums m).toList) = decide (l = m) := by
  by_cases h : l = m
  · subst h; simp
  · rw [decide_eq_false h]
    rw [beq_eq_false_iff_ne]
    intro e
    apply h
    apply (str_inj h1 h2).1
    rw [ByteArray.ext_iff]
    have e2 : (strOfNums l).data.toList = (strOfNums m).data.toList := by
      rw [← ByteArray.toList_eq, ← ByteArray.toList_eq, e]
    exact Array.ext' e2
theorem str_beq {l m : List Int} (h1 : ∀ i, 0 ≤ nth l i ∧ nth l i < 256) (h2 : ∀ i, 0 ≤ nth m i ∧ nth m i < 256) : decide (strOfNums l = strOfNums m) = decide (l = m) := by
  by_cases h : l = m
  · rw [decide_eq_true h, decide_eq_true ((str_inj h1 h2).2 h)]
  · rw [decide_eq_false h, decide_eq_false (fun e => h ((str_inj h1 h2).1 e))]
end Go.Proofs.YtdkolofmnbbocaaDoor
