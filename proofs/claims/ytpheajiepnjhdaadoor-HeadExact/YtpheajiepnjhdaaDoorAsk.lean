import Derived.Test.YtpheajiepnjhdaaDoorPTxt
import Derived.Test.YtpheajiepnjhdaaDoorOf
namespace Go.Proofs.YtpheajiepnjhdaaDoor
open Go.RowKit Rec

/-- numbers in memory -/
structure Ints (w : World) (a : Option Addr) (l : List Int) : Prop where
  len : l.length ≤ 1000000000000000
  at_ : l = [] ∨ ∃ b off, a = some ⟨b, off, none⟩ ∧ ∀ i, i < l.length → w.cell? ⟨b, off + i, none⟩ = some (.int .i64 (nth l i))
theorem Ints.on {w w' : World} {a : Option Addr} {l : List Int} (h : Ints w a l) (hb : Below w.heap.size w w') : Ints w' a l := by
  refine ⟨h.len, ?_⟩
  rcases h.at_ with e | ⟨b, off, rfl, hc⟩
  · exact .inl e
  · exact .inr ⟨b, off, rfl, fun i hi => by rw [hb.cell (block_lt_of_cell (hc i hi))]; exact hc i hi⟩
/-- one of the rows -/
def row (ds : List (List Int)) (i : Nat) : List Int := ds.getD i []
/-- rows in memory -/
structure Data (w : World) (a : Option Addr) (ds : List (List Int)) : Prop where
  len : ds.length ≤ 1000000000000000
  at_ : ds = [] ∨ ∃ b off, a = some ⟨b, off, none⟩ ∧ ∀ i, i < ds.length → ∃ a' c, w.cell? ⟨b, off + i, none⟩ = some (.slice a' (row ds i).length c) ∧ Bytes w a' (row ds i) ∧ (a' = none → c = 0)
theorem Data.on {w w' : World} {a : Option Addr} {ds : List (List Int)} (h : Data w a ds) (hb : Below w.heap.size w w') : Data w' a ds := by
  refine ⟨h.len, ?_⟩
  rcases h.at_ with e | ⟨b, off, rfl, hc⟩
  · exact .inl e
  · refine .inr ⟨b, off, rfl, fun i hi => ?_⟩
    obtain ⟨a', c, h1, h2, h3⟩ := hc i hi
    exact ⟨a', c, by rw [hb.cell (block_lt_of_cell h1)]; exact h1, h2.on hb, h3⟩
/-- a number in a row of its own -/
def Box (w : World) (p : Nat) (v : Int) : Prop := w.heap[p]? = some (.cells #[.int .i64 v] 3 (0, 0))
theorem Box.cell {w : World} {p : Nat} {v : Int} (h : Box w p v) : w.cell? ⟨p, 0, none⟩ = some (.int .i64 v) := by rw [cell_of_row _ _ _ _ _ _ h]; rfl
theorem Box.frozen {w : World} {p : Nat} {v : Int} (h : Box w p v) : w.frozen? ⟨p, 0, none⟩ = false := frozen_of_row _ _ _ _ _ h
theorem Box.set {w : World} {p : Nat} {v : Int} (h : Box w p v) (u : Int) : Box (w.setCell ⟨p, 0, none⟩ (.int .i64 u)) p u := by
  exact heap_setCell_same _ _ _ _ _ _ h
theorem Box.fr {S : Nat → Prop} {w w' : World} {p : Nat} {v : Int} (h : Box w p v) (x : Fr S w w') (hp : ¬ S p) : Box w' p v := x.heap h hp

set_option maxRecDepth 100000 in
theorem notBlock_any (w : World) (a : Option Addr) (n c : Nat) : Calls Tryd.prog 45 #[.slice a n c] w fun e w' => e = .returned (.bool (decide (n ≠ 512))) ∧ w = w' := by
  by_cases h : n = 512
  · subst h
    go_enter Tryd.func45, Tryd.ntmps45
    go_wp2
    go_ret
    exact ⟨rfl, rfl⟩
  · have h' : ¬ (n : Int) = 512 := by omega
    go_enter Tryd.func45, Tryd.ntmps45
    go_wp2
    go_ret
    refine ⟨?_, rfl⟩
    show Ending.returned (.bool ((n : Int) != 512)) = _
    have e : ((n : Int) != 512) = decide (n ≠ 512) := by rw [decide_eq_true h]; simp [h']
    rw [e]
set_option maxRecDepth 100000 in
theorem isCount_any (w : World) (n : Int) : Calls Tryd.prog 38 #[.int .i64 n] w fun e w' => e = .returned (.bool (decide (1 ≤ n) && decide (n ≤ 96))) ∧ w = w' := by
  by_cases h1 : 1 ≤ n
  · by_cases h2 : n ≤ 96
    · go_enter Tryd.func38, Tryd.ntmps38
      go_wp2
      go_ret
      exact ⟨by simp [h2]; omega, rfl⟩
    · go_enter Tryd.func38, Tryd.ntmps38
      go_wp2
      go_ret
      exact ⟨by simp; omega, rfl⟩
  · go_enter Tryd.func38, Tryd.ntmps38
    go_wp2
    go_ret
    exact ⟨by simp; omega, rfl⟩
set_option maxRecDepth 100000 in
theorem numAt_any (w : World) (i : Nat) (h : i ≤ 100) : Calls Tryd.prog 43 #[.int .i64 i] w fun e w' => e = .returned (.int .i64 ((16 + 4 * i : Nat) : Int)) ∧ w = w' := by
  go_enter Tryd.func43, Tryd.ntmps43
  go_wp2
  go_ret
  exact ⟨by go_num, rfl⟩
set_option maxRecDepth 100000 in
set_option maxHeartbeats 800000 in
theorem zeroFrom_any (w : World) (b off c A : Nat) (l : List Int) (hn : l.length = 512) (hO : Bytes w (some ⟨b, off, none⟩) l) (hc : 512 ≤ c) (hA : A ≤ 512) :
    Calls Tryd.prog 46 #[.slice (some ⟨b, off, none⟩) 512 c, .int .i64 A] w fun e w' => e = .returned (.bool (zr l A (512 - A))) ∧ w = w' := by
  have HC : Hid (∀ N : Nat, A + N ≤ 512 → Calls Tryd.prog 85 #[.slice (some ⟨b, off, none⟩) 512 c, .int .i64 A, .int .i64 N] w fun e w' => e = .returned (.tuple #[.bool (zr l A N), .int .i64 0]) ∧ w = w') := fun N hN => zero_in w b off 512 c A N l hn hO hc hN
  clear hn hO
  obtain ⟨N, hN⟩ : ∃ N : Nat, 512 - A = N := ⟨_, rfl⟩
  have e : (512 : Int) - (A : Int) = (N : Int) := by omega
  have HN : Hid (512 - A = N) := hN
  have hN2 : A + N ≤ 512 := by omega
  clear hN
  go_enter Tryd.func46, Tryd.ntmps46
  go_wp2_with (go_at_call 85; refine (HC.out N hN2).mono ?_; rintro e w' ⟨rfl, rfl⟩)
  go_ret
  exact ⟨by rw [HN.out]; rfl, rfl⟩
set_option maxRecDepth 100000 in
set_option maxHeartbeats 800000 in
theorem wrong_any (w : World) (p q : Nat) (bef n num : Int) (hp : Box w p bef) (hq : Box w q n) :
    Calls Tryd.prog 98 #[.int .i64 num, .pointer (some ⟨p, 0, none⟩), .pointer (some ⟨q, 0, none⟩)] w fun e w' => e = .returned (.bool (!(decide (bef < num ∧ num < n)))) ∧ w' = w.setCell ⟨p, 0, none⟩ (.int .i64 num) := by
  have c1 := hp.cell
  have f1 := hp.frozen
  have c2 := hq.cell
  clear hp hq
  by_cases h1 : bef < num
  · by_cases h2 : num < n
    · go_enter Tryd.func98, Tryd.ntmps98
      go_wp2
      go_ret
      exact ⟨by simp [h1, h2], rfl⟩
    · go_enter Tryd.func98, Tryd.ntmps98
      go_wp2
      go_ret
      exact ⟨by simp [h2], rfl⟩
  · go_enter Tryd.func98, Tryd.ntmps98
    go_wp2
    go_ret
    exact ⟨by simp [h1], rfl⟩
end Go.Proofs.YtpheajiepnjhdaaDoor
