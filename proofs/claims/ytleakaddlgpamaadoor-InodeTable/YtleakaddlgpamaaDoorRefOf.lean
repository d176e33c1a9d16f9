import Derived.Test.YtleakaddlgpamaaDoorKMake
namespace Go.Proofs.YtleakaddlgpamaaDoor
open Go.RowKit Rec
open Crc (W)

theorem shr1 (x : W) : U x / (2 : Int) = U (x >>> (1 : Nat)) := by
  unfold U
  rw [BitVec.toNat_ushiftRight, Nat.shiftRight_eq_div_pow]; omega
theorem lsb (x : W) : x.getLsbD 0 = decide (x.toNat % 2 = 1) := by
  simp [BitVec.getLsbD]
theorem pl_odd (x : W) (h : (U x % 2 == 1) = true) : bits .xor .u32 (U x / 2) 3988292384 = U (Crc.pl x) := by
  have hb : x.getLsbD 0 = true := by rw [lsb]; unfold U at h; simp at h; simp; omega
  have e : (3988292384 : Int) = U 3988292384#32 := by decide
  rw [shr1, e, bits_xor]; unfold Crc.pl; rw [if_pos hb]
theorem pl_evn (x : W) (h : (U x % 2 == 1) = false) : U x / 2 = U (Crc.pl x) := by
  have hb : ¬ x.getLsbD 0 = true := by rw [lsb]; unfold U at h; simp at h; simp; omega
  rw [shr1]; unfold Crc.pl; rw [if_neg hb]
theorem pw_succ (k : Nat) (x : W) : Crc.pw Crc.pl (k + 1) x = Crc.pl (Crc.pw Crc.pl k x) := by rw [Crc.pw_add]; rfl
theorem xor_ones (x : W) : bits .xor .u32 (U x) 4294967295 = U (x ^^^ Crc.ones) := by
  rw [← bits_xor]; rfl

end Go.Proofs.YtleakaddlgpamaaDoor
