import Derived.Test.YtpheajiepnjhdaaDoorEight
namespace Go.Proofs.YtpheajiepnjhdaaDoor
open Go.RowKit Rec
open Crc (W)

theorem xor_byte (x : W) (c : Int) (h : 0 ≤ c ∧ c < 256) : bits .xor .u32 (U x) c = U (x ^^^ BitVec.ofInt 32 c) := by
  rw [← bits_xor, U_ofInt c h.1 (by omega)]
theorem not_word (x : W) : bits .xor .u32 IntKind.u32.max (U x) = U (x ^^^ Crc.ones) := by
  rw [BitVec.xor_comm, ← bits_xor]; rfl
theorem take_snoc (l : List Int) (k : Nat) (h : k < l.length) : l.take (k + 1) = l.take k ++ [nth l k] := by
  rw [List.take_succ_eq_append_getElem h]; simp [nth, List.getD, h]

set_option maxRecDepth 100000 in
set_option maxHeartbeats 400000 in
theorem of_some (w : World) (b off cap : Nat) (l : List Int) (hT : TabAt w) (hlen : l.length ≤ 1000000000000000) (hwf : ∀ i, 0 ≤ nth l i ∧ nth l i < 256)
    (hc : ∀ i, i < l.length → w.cell? ⟨b, off + i, none⟩ = some (.int .u8 (nth l i))) :
    Calls Tryd.prog 84 #[.slice (some ⟨b, off, none⟩) l.length cap] w fun e w' => e = .returned (.int .u32 (U (Crc.crc l))) ∧ w = w' := by
  have HT : Hid (TabAt w) := hT
  have HC : Hid (∀ i, i < l.length → w.cell? ⟨b, off + i, none⟩ = some (.int .u8 (nth l i))) := hc
  have HW : Hid (∀ i, 0 ≤ nth l i ∧ nth l i < 256) := hwf
  clear hT hc hwf
  generalize hn : l.length = n at *
  have HN : Hid (l.length = n) := hn
  clear hn
  go_enter Tryd.func84, Tryd.ntmps84
  go_wp2
  go_loop [3, 8] (fun t i => ∃ k : Nat, k ≤ n ∧ i = .int .i64 k ∧ t = .int .u32 (U (Crc.fold Crc.ones (l.take k)))) (fun _ i => n - (intOf i).toNat)
  case atStart => exact ⟨0, Nat.zero_le _, rfl, rfl⟩
  case round =>
    obtain ⟨k, hk, rfl, rfl⟩ := hrel
    by_cases hlt : k < n
    · have c := HC.out k hlt
      have cb := HW.out k
      have hx := xor_byte (Crc.fold Crc.ones (l.take k)) (nth l k) cb
      have hs : Hid (Crc.fold Crc.ones (l.take (k + 1)) = Crc.e8 (Crc.fold Crc.ones (l.take k) ^^^ BitVec.ofInt 32 (nth l k))) := by
        rw [take_snoc l k (by rw [HN.out]; exact hlt)]; exact Crc.fold_snoc _ _ _
      go_wp2_with fail
      refine (eight_any _ _ HT.out).mono ?_
      rintro e w' ⟨rfl, rfl⟩
      go_wp2
      go_round
      case rel => exact ⟨k + 1, by omega, by go_num, by rw [hs.out]⟩
      case measure => simp [intOf]; omega
    · go_wp2
      go_ret
      refine ⟨?_, rfl⟩
      show Ending.returned (.int .u32 (bits .xor .u32 IntKind.u32.max (U (Crc.fold Crc.ones (l.take k))))) = _
      rw [List.take_of_length_le (by rw [HN.out]; omega), not_word]; rfl

set_option maxRecDepth 100000 in
theorem of_none (w : World) (a : Option Addr) (cap : Nat) :
    Calls Tryd.prog 84 #[.slice a 0 cap] w fun e w' => e = .returned (.int .u32 (U (Crc.crc []))) ∧ w = w' := by
  go_enter Tryd.func84, Tryd.ntmps84
  go_wp2
  go_loop [3, 8] (fun t i => i = .int .i64 0 ∧ t = .int .u32 4294967295) (fun _ _ => 0)
  case atStart => exact ⟨rfl, rfl⟩
  case round =>
    obtain ⟨rfl, rfl⟩ := hrel
    go_wp2
    go_ret
    exact ⟨rfl, rfl⟩

theorem of_any (w : World) (a : Option Addr) (n cap : Nat) (l : List Int) (hn : l.length = n) (hT : TabAt w) (hB : Bytes w a l) :
    Calls Tryd.prog 84 #[.slice a n cap] w fun e w' => e = .returned (.int .u32 (U (Crc.crc l))) ∧ w = w' := by
  subst hn
  rcases hB.at_ with h | ⟨b, off, rfl, hc⟩
  · subst h; exact of_none w a cap
  · exact of_some w b off cap l hT hB.len hB.wf hc
end Go.Proofs.YtpheajiepnjhdaaDoor
