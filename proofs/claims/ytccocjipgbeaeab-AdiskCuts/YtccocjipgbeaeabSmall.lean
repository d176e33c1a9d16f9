import Derived.Test.YtccocjipgbeaeabRep
import Derived.OwnWalk
import Derived.Deep.OwnRows
namespace Go.Proofs.Ytccocjipgbeaeab
open Go.RowKit Adk

def zs (m : Nat) : List Int := List.replicate m 0
theorem zs_length (m : Nat) : (zs m).length = m := by simp [zs]
theorem nth_rep (m : Nat) (x : Int) (i : Nat) (h : i < m) : nth (List.replicate m x) i = x := by simp [nth, List.getD, h]
theorem wf_rep (m : Nat) (x : Int) (hx : 0 ≤ x ∧ x < 256) : ∀ i, 0 ≤ nth (List.replicate m x) i ∧ nth (List.replicate m x) i < 256 := fun i => by
  by_cases h : i < m
  · rw [nth_rep m x i h]; exact hx
  · rw [nth_out _ _ (by simp; omega)]; omega
theorem made_list (z : Value) (n : Nat) : (madeCells #[z] n).toList = List.replicate n z := toList_madeCells_one z n
/-- 'make([]byte, n)' -/
theorem wp_makeB {ops : Array Oper} {rest : List Oper} {o : Oper} {a : Act} {Q : Exit → Act → World → Prop} {w : World} (hg : o.guard = none) (l c : Operand) (hop : o.op = Op.makeSlice 25 l c)
    (kl kc : IntKind) (L C : Int) (n : Nat) (hl : a.eval l = .int kl L) (hc : a.eval c = .int kc C) (hL : L = (n : Int)) (hC : C = (n : Int)) (hn : n ≤ 281474976710656)
    (hK : ∀ w', OwnB w' w.heap.size n (zs n) → Below w.heap.size w w' → wpList Try.prog ops Q rest (a.put o.dst (.slice (some ⟨w.heap.size, 0, none⟩) n n)) w') :
    wpList Try.prog ops Q (o :: rest) a w := by
  obtain ⟨i0, hi, hz0, hz1, hz2⟩ := info_parts info5
  subst hL hC
  refine wpList_make_row w hg l c 25 hop 5 i0 _ Try.underlying25 hi hz0 hz1 rfl kl kc n hl hc (by rw [hz2]; omega) (by omega) ?_
  refine hK _ ⟨⟨_, heap_alloc_new _ _, ?_, ?_⟩, ?_, ?_, ?_, wf_rep n 0 (by omega)⟩ ((Below.refl _ _).alloc (Nat.le_refl _) _)
  · rw [← Array.length_toList, made_list, List.length_replicate]
  · rw [made_list, zs_length, zs, List.map_replicate, List.take_replicate, Nat.min_self]
  · rw [zs_length]; omega
  · rw [zs_length]; omega
  · unfold maxLen; omega
theorem info3 : (Try.prog.info? 3).map (fun i => (i.zero, i.size, i.bytes)) = some (some (.int .i64 0), 1, 8) := by kernel_rfl
/-- 'make([]int, n)' -/
theorem wp_makeI {ops : Array Oper} {rest : List Oper} {o : Oper} {a : Act} {Q : Exit → Act → World → Prop} {w : World} (hg : o.guard = none) (l c : Operand) (hop : o.op = Op.makeSlice 73 l c)
    (kl kc : IntKind) (L C : Int) (n : Nat) (hl : a.eval l = .int kl L) (hc : a.eval c = .int kc C) (hL : L = (n : Int)) (hC : C = (n : Int)) (hn : n ≤ 4294967296)
    (hK : ∀ w', w'.ownsRow 0 3 1 (.slice (some ⟨w.heap.size, 0, none⟩) n n) n ((zs n).map (Value.int .i64)) → Below w.heap.size w w' → wpList Try.prog ops Q rest (a.put o.dst (.slice (some ⟨w.heap.size, 0, none⟩) n n)) w') :
    wpList Try.prog ops Q (o :: rest) a w := by
  obtain ⟨i0, hi, hz0, hz1, hz2⟩ := info_parts info3
  subst hL hC
  refine wpList_make_row w hg l c 73 hop 3 i0 _ Try.underlying73 hi hz0 hz1 rfl kl kc n hl hc (by rw [hz2]; omega) (by omega) ?_
  refine hK _ ⟨by simp [zs], .inr ⟨_, _, _, rfl, Nat.zero_le _, heap_alloc_new _ _, Nat.le_refl _, by unfold maxLen; omega, ?_, ?_⟩⟩ ((Below.refl _ _).alloc (Nat.le_refl _) _)
  · rw [← Array.length_toList, made_list, List.length_replicate, Nat.mul_one]
  · rw [made_list, zs, List.map_replicate, List.take_replicate, Nat.mul_one, Nat.min_self]

theorem tmod_split (v : Int) (n : Nat) : v % n = (v.tmod n) % n := by
  have e := Int.mul_tdiv_add_tmod v n
  have e2 := Int.add_mul_emod_self_left (v.tmod n) n (v.tdiv n)
  rw [Int.add_comm, e] at e2
  exact e2
theorem tmod_pos (v : Int) (n : Nat) (h0 : 0 < n) (h : 0 ≤ v.tmod n) : v.tmod n = v % n := by
  rw [tmod_split, Int.emod_eq_of_lt h]
  have := Int.tmod_lt_of_pos v (b := n) (by omega)
  exact this
theorem tmod_neg (v : Int) (n : Nat) (h0 : 0 < n) (h : v.tmod n < 0) : v.tmod n + n = v % n := by
  have h2 : -(n : Int) < v.tmod n := by
    have := Int.tmod_lt_of_pos (-v) (b := n) (by omega)
    rw [Int.neg_tmod] at this
    omega
  rw [tmod_split, ← Int.add_emod_right, Int.emod_eq_of_lt (by omega) (by omega)]
set_option maxRecDepth 100000 in
set_option maxHeartbeats 800000 in
theorem mod_any (w : World) (v : Int) (n : Nat) (h0 : 0 < n) (h1 : n ≤ 1000000000) :
    Calls Try.prog 6 #[.int .i64 v, .int .i64 n] w fun e w' => e = .returned (.int .i64 (v % n)) ∧ w = w' := by
  go_enter Try.func6, Try.ntmps6
  by_cases h : v.tmod n < 0
  · have h2 : -(n : Int) ≤ v.tmod n := by
      have := tmod_neg v n h0 h
      have := Int.emod_nonneg v (b := n) (by omega)
      omega
    go_wp2
    go_ret
    refine ⟨?_, rfl⟩
    show Ending.returned (Value.int IntKind.i64 (v.tmod n + n)) = _
    rw [tmod_neg v n h0 h]
  · go_wp2
    go_ret
    refine ⟨?_, rfl⟩
    show Ending.returned (Value.int IntKind.i64 (v.tmod n)) = _
    rw [tmod_pos v n h0 (by omega)]
/-- a block of one value -/
def one (x : Int) : List Int := List.replicate 512 x
set_option maxRecDepth 100000 in
set_option maxHeartbeats 800000 in
theorem lblock_any (w : World) (x : Int) (hx : 0 ≤ x ∧ x < 256) :
    Calls Try.prog 24 #[.int .u8 x] w fun e w' => e = .returned (.slice (some ⟨w.heap.size, 0, none⟩) 512 512) ∧ OwnB w' w.heap.size 512 (one x) ∧ Below w.heap.size w w' := by
  go_enter Try.func24, Try.ntmps24
  go_wp2_with (at_make; refine wp_makeB rfl _ _ rfl _ _ _ _ 512 rfl rfl rfl rfl (by omega) ?_; intro w1 ho hb; have HO : Hid (OwnB w1 w.heap.size 512 (zs 512)) := ho; have HB : Hid (Below w.heap.size w w1) := hb; clear ho hb)
  go_loopw [4, 8, 9, 10, 11, 12, 13, 14, 15] (fun _ i _ _ _ _ _ _ _ wr => ∃ k : Nat, k ≤ 512 ∧ i = .int .i64 k ∧ OwnB wr w.heap.size 512 (ov (zs 512) 0 k (fun _ => x)) ∧ Below w.heap.size w wr) (fun _ i _ _ _ _ _ _ _ _ => 512 - (intOf i).toNat)
  case atStart => exact ⟨0, Nat.zero_le _, rfl, by rw [ov_zero]; exact HO.out, HB.out⟩
  case round =>
    obtain ⟨k, hk, rfl, how, hgr⟩ := hrel
    have HP : Hid (OwnB wr w.heap.size 512 (ov (zs 512) 0 k (fun _ => x))) := how
    have HG : Hid (Below w.heap.size w wr) := hgr
    clear how hgr HO HB
    by_cases hlt : k < 512
    · have d := HP.out.cell k (by rw [ov_length, zs_length]; exact hlt)
      have f := HP.out.frozen k
      have HQ : Hid (OwnB (wr.setCell ⟨w.heap.size, k, none⟩ (.int .u8 x)) w.heap.size 512 (ov (zs 512) 0 (k + 1) (fun _ => x))) := by
        have e := HP.out.set k x (by rw [ov_length, zs_length]; exact hlt) hx
        have e2 := ov_set (zs 512) 0 k (fun _ => x) (by rw [zs_length]; omega)
        rw [Nat.zero_add] at e2
        rwa [e2] at e
      go_wp2
      exact ⟨⟨_, hlt, rfl, HQ.out, HG.out.grown grown_set HG.out.size (by intro k hk; cases hk; exact Nat.le_refl _)⟩, by simp [intOf]; omega⟩
    · go_wp2
      obtain rfl : k = 512 := by omega
      go_ret
      refine ⟨rfl, ?_, HG.out⟩
      have e : ov (zs 512) 0 512 (fun _ => x) = one x := ext_nth (by rw [ov_length, zs_length, one, List.length_replicate]) fun i hi => by
        rw [ov_length, zs_length] at hi
        rw [nth_ov _ _ _ _ _ (by rw [zs_length]; exact hi), if_pos (by omega), one, nth_rep _ _ _ hi]
      rw [← e]; exact HP.out
end Go.Proofs.Ytccocjipgbeaeab
