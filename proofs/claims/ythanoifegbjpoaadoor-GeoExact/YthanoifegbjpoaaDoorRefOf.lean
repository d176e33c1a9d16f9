import Derived.Test.YthanoifegbjpoaaDoorKMake
namespace Go.Proofs.YthanoifegbjpoaaDoor
open Go.RowKit Rec
open Crc (W)

theorem shr1 (x : W) : U x / (2 : Int) = U (x >>> (1 : Nat)) := by
  unfold U
  rw [BitVec.toNat_ushiftRight, Nat.shiftRight_eq_div_pow]; omega
theorem lsb (x : W) : x.getLsbD 0 = decide (x.toNat % 2 = 1) := by
  simp [BitVec.getLsbD]
theorem pl_odd (x : W) (h : (U x % 2 == 1) = true) : bits .xor .u32 (U x / 2) 3988292384 = U (Crc.pl x) := by
  have hb : x.getLsbD 0 = true := by rw [lsb]; unfold U at h; simp at h; simp; omega
  have e : (3988292384 : Int) = U 3988292384#32 := by decide
  rw [shr1, e, bits_xor]; unfold Crc.pl; rw [if_pos hb]
theorem pl_evn (x : W) (h : (U x % 2 == 1) = false) : U x / 2 = U (Crc.pl x) := by
  have hb : ¬ x.getLsbD 0 = true := by rw [lsb]; unfold U at h; simp at h; simp; omega
  rw [shr1]; unfold Crc.pl; rw [if_neg hb]
set_option maxRecDepth 100000 in
theorem one_ref (w : World) (x : W) : Calls Tryd.prog 35 #[.int .u32 (U x)] w fun e w' => e = .returned (.int .u32 (U (Crc.pl x))) ∧ w = w' := by
  have lo := U_lo x
  have hi := U_hi x
  cases h : (U x % 2 == 1) with
  | true =>
    have e := pl_odd x h
    go_enter Tryd.func35, Tryd.ntmps35
    go_wp2
    go_ret
    exact ⟨rfl, rfl⟩
  | false =>
    go_enter Tryd.func35, Tryd.ntmps35
    go_wp2
    go_ret
    exact ⟨congrArg (fun n => Ending.returned (Value.int .u32 n)) (pl_evn x h), rfl⟩
theorem pw_succ (k : Nat) (x : W) : Crc.pw Crc.pl (k + 1) x = Crc.pl (Crc.pw Crc.pl k x) := by rw [Crc.pw_add]; rfl
theorem xor_ones (x : W) : bits .xor .u32 (U x) 4294967295 = U (x ^^^ Crc.ones) := by
  rw [← bits_xor]; rfl

set_option maxRecDepth 100000 in
set_option maxHeartbeats 400000 in
theorem refOf_some (w : World) (b off cap : Nat) (l : List Int) (hlen : l.length ≤ 1000000000000000) (hwf : ∀ i, 0 ≤ nth l i ∧ nth l i < 256)
    (hc : ∀ i, i < l.length → w.cell? ⟨b, off + i, none⟩ = some (.int .u8 (nth l i))) :
    Calls Tryd.prog 29 #[.slice (some ⟨b, off, none⟩) l.length cap] w fun e w' => e = .returned (.int .u32 (U (Crc.crc l))) ∧ w = w' := by
  have HC : Hid (∀ i, i < l.length → w.cell? ⟨b, off + i, none⟩ = some (.int .u8 (nth l i))) := hc
  have HW : Hid (∀ i, 0 ≤ nth l i ∧ nth l i < 256) := hwf
  clear hc hwf
  generalize hn : l.length = n at *
  have HN : Hid (l.length = n) := hn
  clear hn
  go_enter Tryd.func29, Tryd.ntmps29
  go_wp2
  go_loop [3, 4, 5] (fun t i _ => ∃ k : Nat, k ≤ n ∧ i = .int .i64 k ∧ t = .int .u32 (U (Crc.fold Crc.ones (l.take k)))) (fun _ i _ => n - (intOf i).toNat)
  case atStart => exact ⟨0, Nat.zero_le _, rfl, rfl⟩
  case round =>
    obtain ⟨k, hk, rfl, rfl⟩ := hrel
    by_cases hlt : k < n
    · have c := HC.out k hlt
      have cb := HW.out k
      have hx := xor_byte (Crc.fold Crc.ones (l.take k)) (nth l k) cb
      have hs : Hid (Crc.fold Crc.ones (l.take (k + 1)) = Crc.pw Crc.pl 8 (Crc.fold Crc.ones (l.take k) ^^^ BitVec.ofInt 32 (nth l k))) := by
        rw [take_snoc l k (by rw [HN.out]; exact hlt)]; exact Crc.fold_snoc _ _ _
      generalize hy : Crc.fold Crc.ones (l.take k) ^^^ BitVec.ofInt 32 (nth l k) = y at hs hx
      clear hy
      go_wp2
      go_loop [3, 5] (fun t i => ∃ m : Nat, m ≤ 8 ∧ i = .int .i64 m ∧ t = .int .u32 (U (Crc.pw Crc.pl m y))) (fun _ i => 8 - (intOf i).toNat)
      case atStart => exact ⟨0, Nat.zero_le _, rfl, rfl⟩
      case round =>
        obtain ⟨m, hm, rfl, rfl⟩ := hrel
        by_cases hmt : m < 8
        · have hp : Hid (Crc.pl (Crc.pw Crc.pl m y) = Crc.pw Crc.pl (m + 1) y) := (pw_succ m y).symm
          go_wp2_with (go_at_call 35; refine (one_ref _ _).mono ?_; rintro e w' ⟨rfl, rfl⟩)
          go_round
          case rel => exact ⟨m + 1, by omega, by go_num, by rw [hp.out]⟩
          case measure => simp [intOf]; omega
        · obtain rfl : m = 8 := by omega
          go_wp2
          go_round
          case rel => exact ⟨k + 1, by omega, by go_num, by rw [hs.out]⟩
          case measure => simp [intOf]; omega
    · have hx := xor_ones (Crc.fold Crc.ones (l.take k))
      go_wp2
      go_ret
      refine ⟨?_, rfl⟩
      show Ending.returned (.int .u32 (U (Crc.fold Crc.ones (l.take k) ^^^ Crc.ones))) = _
      rw [List.take_of_length_le (by rw [HN.out]; omega)]; rfl
set_option maxRecDepth 100000 in
theorem refOf_none (w : World) (a : Option Addr) (cap : Nat) :
    Calls Tryd.prog 29 #[.slice a 0 cap] w fun e w' => e = .returned (.int .u32 (U (Crc.crc []))) ∧ w = w' := by
  go_enter Tryd.func29, Tryd.ntmps29
  go_wp2
  go_loop [3, 4] (fun t i => i = .int .i64 0 ∧ t = .int .u32 4294967295) (fun _ _ => 0)
  case atStart => exact ⟨rfl, rfl⟩
  case round =>
    obtain ⟨rfl, rfl⟩ := hrel
    go_wp2
    go_ret
    exact ⟨rfl, rfl⟩
theorem refOf_any (w : World) (a : Option Addr) (n cap : Nat) (l : List Int) (hn : l.length = n) (hB : Bytes w a l) :
    Calls Tryd.prog 29 #[.slice a n cap] w fun e w' => e = .returned (.int .u32 (U (Crc.crc l))) ∧ w = w' := by
  subst hn
  rcases hB.at_ with h | ⟨b, off, rfl, hc⟩
  · subst h; exact refOf_none w a cap
  · exact refOf_some w b off cap l hB.len hB.wf hc
end Go.Proofs.YthanoifegbjpoaaDoor
