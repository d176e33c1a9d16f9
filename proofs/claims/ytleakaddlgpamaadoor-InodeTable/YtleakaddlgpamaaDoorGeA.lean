import Derived.Test.YtleakaddlgpamaaDoorKEight
import Derived.Test.YtleakaddlgpamaaDoorGeM
import Derived.Laws.ResultCell
namespace Go.Proofs.YtleakaddlgpamaaDoor
open Go.RowKit Rec

theorem results_row_tmp7 {fn : Func} {p u : Tmp} {ty : TypeId} (h : fn.results = #[.cell p ty, .tmp u]) (tmps : Array Value) (w : World) (g : Nat) (cs : Array Value)
    (hp : tmps.getD p undef = .pointer (some ⟨g, 0, none⟩)) (hl : (loadVar ty ⟨g, 0, none⟩).run Tryd.prog w = .ok (.agg cs) w) :
    (results fn tmps).run Tryd.prog w = .ok (.tuple #[.agg cs, tmps.getD u undef]) w := by
  rw [results_cell_tmp h, hp]
  simp [asAddr, hl]
/-- a Geo -/
def geoV (n : Int) : Value := .agg #[.int .i64 n, .int .i64 98, .int .i64 (gI n), .int .i64 (gD n), .int .i64 (gC n)]
def geo0 : Value := .agg #[.int .i64 0, .int .i64 0, .int .i64 0, .int .i64 0, .int .i64 0]
/-- what Bit answers, and Record -/
def bitA (n i : Int) : Array Value := if 0 ≤ i ∧ i < n then #[.int .i64 (98 + i / 4096), .int .i64 (i % 4096), .int .i64 0] else #[.int .i64 0, .int .i64 0, .int .i64 31]
def recA (n i : Int) : Array Value := if 1 ≤ i ∧ i < gC n then #[.int .i64 (gI n + i / 8), .int .i64 (i % 8 * 64), .int .i64 0] else #[.int .i64 0, .int .i64 0, .int .i64 110]
theorem bitA_in {n i : Int} (h : 0 ≤ i ∧ i < n) : bitA n i = #[.int .i64 (98 + i / 4096), .int .i64 (i % 4096), .int .i64 0] := if_pos h
theorem bitA_out {n i : Int} (h : ¬ (0 ≤ i ∧ i < n)) : bitA n i = #[.int .i64 0, .int .i64 0, .int .i64 31] := if_neg h
theorem recA_in {n i : Int} (h : 1 ≤ i ∧ i < gC n) : recA n i = #[.int .i64 (gI n + i / 8), .int .i64 (i % 8 * 64), .int .i64 0] := if_pos h
theorem recA_out {n i : Int} (h : ¬ (1 ≤ i ∧ i < gC n)) : recA n i = #[.int .i64 0, .int .i64 0, .int .i64 110] := if_neg h
set_option maxRecDepth 100000 in
set_option maxHeartbeats 1600000 in
theorem grec_any (w : World) (n i : Int) (h : isLen n = true) (hi : -9223372036854775808 ≤ i ∧ i ≤ 9223372036854775807) : Calls Tryd.prog 34 #[geoV n, .int .i64 i] w fun e w' =>
    e = .returned (.tuple (recA n i)) ∧ Below w.heap.size w w' := by
  have hb := isLen_bd h
  have hc : 16 ≤ gC n ∧ gC n ≤ 2048 := by unfold gC; omega
  have hd : 98 ≤ gI n ∧ gI n ≤ 200 := by unfold gI; omega
  go_enter Tryd.func34, Tryd.ntmps34
  unfold geoV
  have HR : Hid ((1 ≤ i ∧ i < gC n → recA n i = #[.int .i64 (gI n + i / 8), .int .i64 (i % 8 * 64), .int .i64 0]) ∧ (¬ (1 ≤ i ∧ i < gC n) → recA n i = #[.int .i64 0, .int .i64 0, .int .i64 110])) := ⟨recA_in, recA_out⟩
  generalize recA n i = R at *
  generalize gD n = D
  generalize gC n = C at *
  generalize gI n = I at *
  have hA : Hid (∀ o, Below w.heap.size w (w.alloc o)) := fun o => (Below.refl _ _).alloc (Nat.le_refl _) o
  by_cases h1 : i < 1
  · go_wp2
    go_ret3
    exact ⟨by rw [HR.out.2 (by omega)]; rfl, hA.out _⟩
  · by_cases h2 : C ≤ i
    · go_wp2
      go_ret3
      exact ⟨by rw [HR.out.2 (by omega)]; rfl, hA.out _⟩
    · go_wp2
      go_ret3
      exact ⟨by rw [HR.out.1 (by omega)]; rfl, hA.out _⟩
end Go.Proofs.YtleakaddlgpamaaDoor
