import Derived.Test.YtaaeahpmnfifiaaDoorSnP
namespace Go.Proofs.YtaaeahpmnfifiaaDoor
open Go.RowKit Rec Sc
/-- a cell's value -/
abbrev eV (p : Int) (s : ByteArray) (i : Int) : Value := .agg #[.int .i64 p, .string s, .int .i64 i]
theorem isBlock_yes (w : World) (a : Option Addr) (c : Nat) : Calls Tryd.prog 23 #[.slice a 512 c] w fun e w' => e = .returned (.bool true) ∧ w = w' := by
  go_enter Tryd.func23, Tryd.ntmps23
  go_wp2
  go_ret
  exact ⟨rfl, rfl⟩
theorem isBlock_no (w : World) (a : Option Addr) (n c : Nat) (h : n ≠ 512) : Calls Tryd.prog 23 #[.slice a n c] w fun e w' => e = .returned (.bool false) ∧ w = w' := by
  go_enter Tryd.func23, Tryd.ntmps23
  go_wp2
  go_ret
  refine ⟨?_, rfl⟩
  congr 2
  simp
  omega
/-- may a place be? -/
def plc (p : Int) : Bool := decide (0 ≤ p) && decide (p < 16)
theorem isPlace_any (w : World) (p : Int) : Calls Tryd.prog 28 #[.int .i64 p] w fun e w' => e = .returned (.bool (plc p)) ∧ w = w' := by
  unfold plc
  by_cases h : 0 ≤ p
  · go_enter Tryd.func28, Tryd.ntmps28
    go_wp2
    go_ret
    exact ⟨by simp [h], rfl⟩
  · go_enter Tryd.func28, Tryd.ntmps28
    go_wp2
    go_ret
    exact ⟨by simp; omega, rfl⟩
theorem isFree_any (w : World) (p : Int) (s : ByteArray) (i : Int) : Calls Tryd.prog 31 #[eV p s i] w fun e w' => e = .returned (.bool (decide (i = 0))) ∧ w' = w.alloc (.cells #[.int .i64 p, .string s, .int .i64 i] 27 (0, 0)) := by
  go_enter Tryd.func31, Tryd.ntmps31
  go_wp2
  go_ret
  exact ⟨rfl, rfl⟩
/-- may a cell be? -/
def mst (p : Int) (s : ByteArray) (i : Int) : Bool := plc p && (decide (1 ≤ i) && (decide (i ≤ 4294967295) && Pa.name s.data.toList))
set_option maxHeartbeats 1000000 in
theorem mayStand_any (w : World) (p : Int) (s : ByteArray) (i : Int) (hs : s.size ≤ 9223372036854775807) : Calls Tryd.prog 24 #[eV p s i] w fun e w' => e = .returned (.bool (mst p s i)) ∧ Below w.heap.size w w' := by
  unfold mst
  have hb : Below w.heap.size w (w.alloc (.cells #[.int .i64 p, .string s, .int .i64 i] 27 (0, 0))) := (Below.refl _ w).alloc (Nat.le_refl _) _
  cases hp : plc p with
  | false =>
    go_enter Tryd.func24, Tryd.ntmps24
    go_wp2_with (go_at_call 28; refine (isPlace_any _ _).mono ?_; rintro e w' ⟨rfl, rfl⟩; rw [hp])
    go_ret
    exact ⟨rfl, (Below.refl _ w).alloc (Nat.le_refl _) _⟩
  | true =>
    by_cases h1 : 1 ≤ i
    · by_cases h2 : i ≤ 4294967295
      · go_enter Tryd.func24, Tryd.ntmps24
        go_wp2_with (first | (go_at_call 28; refine (isPlace_any _ _).mono ?_; rintro e w' ⟨rfl, rfl⟩; rw [hp]) | (go_at_call 37; refine (name_any _ _ hs).mono ?_; rintro e w' ⟨rfl, hb⟩; have HB : Hid _ := hb; clear hb))
        go_ret
        refine ⟨?_, (((Below.refl _ w).alloc (Nat.le_refl _) _).trans (HB.out.mono (by simp)))⟩
        simp [h1, h2]; rfl
      · go_enter Tryd.func24, Tryd.ntmps24
        go_wp2_with (first | (go_at_call 28; refine (isPlace_any _ _).mono ?_; rintro e w' ⟨rfl, rfl⟩; rw [hp]))
        go_ret
        exact ⟨by simp; intro h; exact absurd h2 (by omega), (Below.refl _ w).alloc (Nat.le_refl _) _⟩
    · go_enter Tryd.func24, Tryd.ntmps24
      go_wp2_with (first | (go_at_call 28; refine (isPlace_any _ _).mono ?_; rintro e w' ⟨rfl, rfl⟩; rw [hp]))
      go_ret
      exact ⟨by simp; intro h; exact absurd h1 (by omega), (Below.refl _ w).alloc (Nat.le_refl _) _⟩
theorem cut_any (w : World) (g o c : Nat) (k : Nat) (hk : k < 16) (hc : 512 ≤ c) : Calls Tryd.prog 25 #[.slice (some ⟨g, o, none⟩) 512 c, .int .i64 k] w fun e w' => e = .returned (.slice (some ⟨g, o + 32 * k, none⟩) 32 32) ∧ w = w' := by
  go_enter Tryd.func25, Tryd.ntmps25
  go_wp2
  go_ret
  refine ⟨?_, rfl⟩
  show Ending.returned (Value.slice (some ⟨g, o + k * 32, none⟩) ((k + 1) * 32 - k * 32) ((k + 1) * 32 - k * 32)) = _
  rw [show (k + 1) * 32 - k * 32 = 32 by omega, Nat.mul_comm]
theorem nameRoom_any (w : World) (g o : Nat) : Calls Tryd.prog 50 #[.slice (some ⟨g, o, none⟩) 32 32] w fun e w' => e = .returned (.slice (some ⟨g, o + 5, none⟩) 27 27) ∧ w = w' := by
  go_enter Tryd.func50, Tryd.ntmps50
  go_wp2
  go_ret
  exact ⟨rfl, rfl⟩
theorem field_any (w : World) (b off A W : Nat) (l : List Int) (hn : l.length = 32) (hO : Bytes w (some ⟨b, off, none⟩) l) (hT : TabAt w) (hw : isW W = true) (hA : A + W ≤ 32) (h4 : W ≤ 4) :
    Calls Tryd.prog 48 #[.slice (some ⟨b, off, none⟩) 32 32, .int .i64 A, .int .i64 W] w fun e w' => e = .returned (.int .i64 (num l A W)) ∧ w = w' := by
  have hb := num_bd l A W hO.wf
  have hp : (256 : Int) ^ W ≤ 4294967296 := by
    rcases isW_cases hw with h | h | h | h
    · obtain rfl : W = 1 := by omega
      decide
    · obtain rfl : W = 2 := by omega
      decide
    · obtain rfl : W = 4 := by omega
      decide
    · omega
  have HO : Hid (Bytes w (some ⟨b, off, none⟩) l) := hO
  clear hO
  generalize hq : (256 : Int) ^ W = q at hb hp
  clear hq
  go_enter Tryd.func48, Tryd.ntmps48
  go_wp2_with (go_at_call 56; refine (get_in _ _ _ _ _ _ _ _ hn HO.out (by omega) hT hw hA).mono ?_; rintro e w' ⟨rfl, rfl⟩)
  go_ret
  exact ⟨rfl, rfl⟩
set_option maxHeartbeats 1000000 in
theorem textLen_any (w : World) (b off : Nat) (l : List Int) (hn : l.length = 27) (hO : Bytes w (some ⟨b, off, none⟩) l) :
    Calls Tryd.prog 51 #[.slice (some ⟨b, off, none⟩) 27 27] w fun e w' => e = .returned (.int .i64 (tl (nth l) 27 : Nat)) ∧ w = w' := by
  have HC : Hid (∀ i, i < 27 → w.cell? ⟨b, off + i, none⟩ = some (.int .u8 (nth l i))) := fun i hi => hO.cell (by omega)
  clear hO
  go_enter Tryd.func51, Tryd.ntmps51
  go_wp2
  go_loop [3, 7] (fun n i => ∃ k : Nat, k ≤ 27 ∧ i = .int .i64 k ∧ n = .int .i64 (tl (nth l) k : Nat)) (fun _ i => 27 - (intOf i).toNat)
  case atStart => exact ⟨0, Nat.zero_le _, rfl, rfl⟩
  case round =>
    obtain ⟨k, hk, rfl, rfl⟩ := hrel
    have ht := tl_le (nth l) k
    by_cases hlt : k < 27
    · have c := HC.out k hlt
      have hs : tl (nth l) (k + 1) = if nth l k ≠ 0 then k + 1 else tl (nth l) k := rfl
      have Hs : Hid _ := hs
      clear hs
      by_cases h0 : nth l k = 0
      · go_wp2
        refine ⟨⟨k + 1, by omega, by simp, ?_⟩, by simp [intOf]; omega⟩
        rw [Hs.out, if_neg (by simp [h0])]
      · go_wp2
        refine ⟨⟨k + 1, by omega, by simp, ?_⟩, by simp [intOf]; omega⟩
        rw [Hs.out, if_pos h0]; simp
    · go_wp2
      obtain rfl : k = 27 := by omega
      go_ret
      exact ⟨rfl, rfl⟩
end Go.Proofs.YtaaeahpmnfifiaaDoor
