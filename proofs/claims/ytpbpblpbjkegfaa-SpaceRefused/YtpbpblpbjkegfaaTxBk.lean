import Derived.Test.YtpbpblpbjkegfaaTxT
import Derived.Shelf.Abstract
import Derived.Shelf.RegionOpen
import Derived.OwnWalkIn
import Derived.TacticsInMore
import Derived.LoopNIn
import Derived.LoopIn
namespace Go.Proofs.Ytpbpblpbjkegfaa
open Go.RowKit Go.Maps Go.Shelf Rec
attribute [local go_sem] Oper.semAt_some

/-- what a round keeps: all that lay, but for the map -/
def KpM (n₀ mb : Nat) (W W' : World) : Prop := ∀ k, k < n₀ → k ≠ mb → W'.heap[k]? = W.heap[k]?
theorem KpM.trans {n₀ mb : Nat} {A B C : World} (h : KpM n₀ mb A B) (k : KpM n₀ mb B C) : KpM n₀ mb A C := fun i h1 h2 => (k i h1 h2).trans (h i h1 h2)
theorem KpM.refl (n₀ mb : Nat) (A : World) : KpM n₀ mb A A := fun _ _ _ => rfl
theorem KpM.cell {n₀ mb : Nat} {A B : World} (h : KpM n₀ mb A B) {p : Addr} {v : Value} (hc : A.cell? p = some v) (h1 : p.block < n₀) (h2 : p.block ≠ mb) : B.cell? p = some v := by
  rw [World.cell?] at hc ⊢
  rw [h _ h1 h2]
  exact hc
/-- the indices of a list from the last one down to k -/
def des (L : Nat) : (k : Nat) → List (Fin L) := fun k => ((List.finRange L).drop k).reverse
theorem des_full (L : Nat) : des L L = [] := by
  unfold des
  rw [List.drop_eq_nil_of_le (by simp)]; rfl
theorem des_succ {L k : Nat} (h : k < L) : des L k = des L (k + 1) ++ [⟨k, h⟩] := by
  unfold des
  rw [List.drop_eq_getElem_cons (by simpa using h), List.reverse_cons]
  simp
theorem des_length (L k : Nat) : (des L k).length = L - k := by simp [des]
set_option maxRecDepth 100000 in
set_option maxHeartbeats 4000000 in
theorem back1_in (F : Fence) (n : Nat) (h8 : F.fn 45) (hro : F.round = none) (hn : 1 ≤ n) (l Bs n₀ mb b off L cap : Nat) (vs : Fin L → Value) (hL : L ≤ 1000000) (hb : b < n₀) (hbm : b ≠ mb) (hBn : Bs < n₀) (hBm : Bs ≠ mb) (J Jx : List (Fin L) → World → Prop)
    (hY : ∀ pre x W, J pre W → pre.length < L → YieldAt F (n - 1) Try.prog l #[.int .i64 (x.1 : Int), vs x] W fun e W' => (e = .returned (.bool true) ∧ J (pre ++ [x]) W' ∧ KpM n₀ mb W W') ∨ (e = .returned (.bool false) ∧ Jx (pre ++ [x]) W'))
    (W : World) (hBs : W.cell? ⟨Bs, 0, none⟩ = some (.slice (some ⟨b, off, none⟩) L cap)) (hc : ∀ j : Fin L, W.cell? ⟨b, off + j.1, none⟩ = some (vs j)) (h0 : J [] W) :
    CallsIn F n Try.prog 45 #[.func (.yield l) #[] #[], .pointer (some ⟨Bs, 0, none⟩)] W fun e W' => (∃ v, e = .returned v) ∧ ((∃ ys, ys = des L 0 ∧ J ys W') ∨ (∃ pre, True ∧ Jx pre W')) := by
  have hw1 : wrap64 ((L : Int) - 1) = (L : Int) - 1 := by rw [wrap64]; omega
  refine callsIn_of_wp Try.func45 rfl h8 ?_ hro
  simp only [Try.ntmps45, List.size_toArray, List.length_cons, List.length_nil, Nat.reduceAdd, Nat.reduceSub, Array.replicate_succ, Array.replicate_zero, List.push_toArray, List.append_toArray, List.nil_append, List.cons_append]
  gi_wp2
  gi_loopw [3] (fun s wr => ∃ (k : Nat) (i : Int), k ≤ L ∧ i = (k : Int) - 1 ∧ s = .int .i64 i ∧ J (des L k) wr ∧ KpM n₀ mb W wr) (fun s _ => (intOf s + 1).toNat)
  case atStart => exact ⟨L, _, Nat.le_refl _, rfl, by simp, by rw [des_full]; exact h0, KpM.refl _ _ _⟩
  case round =>
    obtain ⟨k, i, hk, hik, rfl, hJs, hnx⟩ := hrel
    have hBs' := hnx.cell hBs hBn hBm
    cases k with
    | zero =>
      have hi : i < 0 := by omega
      have hJ0 := hJs
      clear hik hJs
      gi_wp2
      go_end0
      exact ⟨⟨_, rfl⟩, .inl ⟨_, rfl, hJ0⟩⟩
    | succ j =>
      obtain rfl : i = (j : Int) := by omega
      have hj : j < L := by omega
      have hcx : wr.cell? ⟨b, off + j, none⟩ = some (vs ⟨j, hj⟩) := hnx.cell (hc ⟨j, hj⟩) hb hbm
      obtain ⟨fn, tmps, assign, body, hy, hR⟩ := hY _ ⟨j, hj⟩ wr hJs (by rw [des_length]; omega)
      dsimp only at hy
      have hw2 : wrap64 ((j : Int) - 1) = (j : Int) - 1 := by rw [wrap64]; omega
      generalize hv : vs ⟨j, hj⟩ = vj at hcx hy
      clear hik
      gi_wp2
      refine hR.mono ?_
      rintro e W3 (⟨rfl, hJ3, hk3⟩ | ⟨rfl, hJx3⟩)
      · gi_wp2
        go_roundw
        case rel => exact ⟨j, _, by omega, rfl, by simp, by rw [des_succ hj]; exact hJ3, hnx.trans hk3⟩
        case measure => first | (simp [intOf]; done) | (simp [intOf]; omega)
      · gi_wp2
        refine bodyPost_ret (results_none rfl _ _ _) rfl ?_
        exact ⟨⟨_, rfl⟩, .inr ⟨_, trivial, hJx3⟩⟩
set_option maxRecDepth 100000 in
set_option maxHeartbeats 4000000 in
/-- .. of no steps: no round -/
theorem back0_in (F : Fence) (n : Nat) (h8 : F.fn 45) (hro : F.round = none) (l Bs : Nat) (a : Option Addr) (c : Nat) (J : List (Fin 0) → World → Prop) (W : World) (hBs : W.cell? ⟨Bs, 0, none⟩ = some (.slice a 0 c)) (h0 : J [] W) :
    CallsIn F n Try.prog 45 #[.func (.yield l) #[] #[], .pointer (some ⟨Bs, 0, none⟩)] W fun e W' => (∃ v, e = .returned v) ∧ J [] W' := by
  refine callsIn_of_wp Try.func45 rfl h8 ?_ hro
  simp only [Try.ntmps45, List.size_toArray, List.length_cons, List.length_nil, Nat.reduceAdd, Nat.reduceSub, Array.replicate_succ, Array.replicate_zero, List.push_toArray, List.append_toArray, List.nil_append, List.cons_append]
  gi_wp2
  gi_loopw [3] (fun s wr => s = .int .i64 (-1) ∧ J [] wr) (fun _ _ => 0)
  case atStart => exact ⟨rfl, h0⟩
  case round =>
    obtain ⟨rfl, hJs⟩ := hrel
    gi_wp2
    go_end0
    exact ⟨⟨_, rfl⟩, hJs⟩
theorem back_in (F : Fence) (n : Nat) (h6 : F.fn 27) (hro : F.round = none) (a : Option Addr) (len cap : Nat) (w : World) :
    CallsIn F n Try.prog 27 #[.slice a len cap] w fun e w' => e = .returned (.func (.func 45) #[] #[.pointer (some ⟨w.heap.size, 0, none⟩)]) ∧ w' = w.alloc (.cells #[.slice a len cap] 61) := by
  refine callsIn_of_wp Try.func27 rfl h6 ?_ hro
  simp only [Try.ntmps27, List.size_toArray, List.length_cons, List.length_nil, Nat.reduceAdd, Nat.reduceSub, Array.replicate_succ, Array.replicate_zero, List.push_toArray, List.append_toArray, List.nil_append, List.cons_append]
  gi_wp2
  go_ret
  exact ⟨rfl, rfl⟩
/-- slices.Backward(s): the last one first -/
theorem back_stops (F : Fence) (n : Nat) (h8 : F.fn 45) (hro : F.round = none) (hn : 1 ≤ n) (Bs n₀ mb L cap : Nat) (a : Option Addr) (vs : Fin L → Value) (hL : L ≤ 1000000) (w : World) (hBn : Bs < n₀) (hBm : Bs ≠ mb) (hn0 : n₀ ≤ w.heap.size)
    (hc : w.cell? ⟨Bs, 0, none⟩ = some (.slice a L cap)) (hI : L = 0 ∨ ∃ b off, a = some ⟨b, off, none⟩ ∧ b < n₀ ∧ b ≠ mb ∧ ∀ j : Fin L, w.cell? ⟨b, off + j.1, none⟩ = some (vs j)) :
    SeqStopsK F n Try.prog 45 #[.pointer (some ⟨Bs, 0, none⟩)] (fun x : Fin L => #[Value.int .i64 (x.1 : Int), vs x]) (KpM n₀ mb) (fun ys => ys = des L 0) (fun _ => True) L w := fun l J Jx W hW _ _ hY h0 => by
  have hc' := (hW.cell (p := ⟨Bs, 0, none⟩) (by show Bs < _; omega)).trans hc
  rcases hI with rfl | ⟨b, off, rfl, hb, hbm, hcs⟩
  · refine (back0_in F n h8 hro l Bs a cap J W hc' h0).mono fun e W' ⟨he, hj⟩ => ⟨he, .inl ⟨_, ?_, hj⟩⟩
    rw [des_full]
  · exact back1_in F n h8 hro hn l Bs n₀ mb b off L cap vs hL hb hbm hBn hBm J Jx hY W hc' (fun j => (hW.cell (p := ⟨b, off + j.1, none⟩) (by show b < _; omega)).trans (hcs j)) h0
end Go.Proofs.Ytpbpblpbjkegfaa
