import Derived.Test.YtklffjagdhbjcaaDoorOne
namespace Go.Proofs.YtklffjagdhbjcaaDoor
open Go.RowKit
open Crc (W)

/-- what p zero bytes do to each bit -/
def zz (p : Nat) : Nat → W := fun i => Crc.pw Crc.e8 p (1#32 <<< i)
theorem zz_app (p : Nat) (y : W) : Crc.app (zz p) y 32 = Crc.pw Crc.e8 p y := Crc.app_all (Crc.e8_lin.pw p) _ _ (fun _ _ => rfl)
theorem zz_sq (p : Nat) : (zarr fun i => Crc.app (zz p) (zz p i) 32) = zarr (zz (p * 2)) := by
  apply zarr_congr
  intro i _
  rw [zz_app]
  unfold zz
  rw [← Crc.pw_add, Nat.mul_two]
theorem put_none (a : Act) (v : Value) : a.put none v = a := rfl
structure ZRel (w wr : World) (B p : Nat) : Prop where
  below : Below w.heap.size w wr
  z : wr.heap[B]? = some (.cells (zarr (zz p)) 50)
  lo : w.heap.size ≤ B

theorem z_step {w wr : World} {B p : Nat} (h : ZRel w wr B p) : ZRel w (wr.setRow B (zarr fun i => Crc.app (zz p) (zz p i) 32)) B (p * 2) :=
  ⟨below_setRow h.below h.lo _, by rw [← zz_sq]; exact setRow_heap _ _ _ _ _ _ h.z, h.lo⟩
theorem z_odd (p m : Nat) (y : W) (h : m % 2 = 1) : Crc.pw Crc.e8 (p * 2 * (m / 2)) (Crc.pw Crc.e8 p y) = Crc.pw Crc.e8 (p * m) y := by
  rw [← Crc.pw_add]
  congr 1
  have e : m = 2 * (m / 2) + 1 := by omega
  conv => rhs; rw [e, Nat.mul_succ, ← Nat.mul_assoc, Nat.add_comm]
theorem z_even (p m : Nat) (y : W) (h : m % 2 = 0) : Crc.pw Crc.e8 (p * 2 * (m / 2)) y = Crc.pw Crc.e8 (p * m) y := by
  congr 1
  have e : m = 2 * (m / 2) := by omega
  conv => rhs; rw [e, ← Nat.mul_assoc]
theorem heap_lt {w : World} {B : Nat} {o : Obj} (h : w.heap[B]? = some o) : B < w.heap.size := by
  by_cases hb : B < w.heap.size
  · exact hb
  · rw [Array.getElem?_eq_none (by omega)] at h; exact absurd h (by simp)
theorem i64_and1 (n : Int) : bits .and .i64 n 1 = n % 2 := by
  have h1 : (BitVec.ofInt 64 1).toNat = 2 ^ 1 - 1 := by decide
  have key : (BitVec.ofInt 64 n &&& BitVec.ofInt 64 1).toNat = (n % ((2 ^ 64 : Nat) : Int)).toNat % 2 ^ 1 := by
    rw [BitVec.toNat_and, BitVec.toNat_ofInt, h1, Nat.and_two_pow_sub_one_eq_mod]
  show IntKind.i64.wrap ((BitVec.ofInt 64 n &&& BitVec.ofInt 64 1).toNat : Nat) = n % 2
  rw [key, IntKind.wrap_i64]
  omega

set_option maxRecDepth 100000 in
set_option maxHeartbeats 400000 in
theorem zeros_any (w : World) (x : W) (n : Nat) (hn : n ≤ 1099511627776) (hT : TabAt w) :
    Calls Tryd.prog 15 #[.int .u32 (U x), .int .i64 n] w fun e w' => e = .returned (.int .u32 (U (Crc.pw Crc.e8 n x))) ∧ Below w.heap.size w w' := by
  have HT : Hid (TabAt w) := hT
  clear hT
  go_enter Tryd.func15, Tryd.ntmps15
  go_wp2_with fail
  refine (one_any _ HT.out).mono ?_
  rintro e w1 ⟨rfl, hb⟩
  go_wp2_with (refine wpList_store_row rfl 50 _ _ rfl (w1.heap.size) (zarr fun i => Crc.e8 (1#32 <<< i)) rfl rfl 50 (zarr fun _ => 0#32) (by rw [← zarr_zero]; exact heap_alloc_new _ _) (size50 _) (by rw [zarr_size, zarr_size]) (zarr_one _) ?_)
  rw [put_none]
  have hs := World.setRow_alloc_new w1 (zarr fun _ => 0#32) (zarr fun i => Crc.e8 (1#32 <<< i)) 50
  rw [zarr_zero, hs]
  clear hs
  have hR : Hid (ZRel w (w1.alloc (.cells (zarr fun i => Crc.e8 (1#32 <<< i)) 50)) w1.heap.size 1) :=
    ⟨hb.alloc hb.size _, heap_alloc_new _ _, hb.size⟩
  generalize w1.heap.size = B at *
  generalize w1.alloc (.cells (zarr fun i => Crc.e8 (1#32 <<< i)) 50) = w2 at *
  generalize (zarr fun i => Crc.e8 (1#32 <<< i)) = zz6 at *
  go_loopw [0, 1] (fun t i wr => ∃ (m p : Nat) (y : W), m ≤ n ∧ i = .int .i64 m ∧ t = .int .u32 (U y) ∧ ZRel w wr B p ∧ Crc.pw Crc.e8 (p * m) y = Crc.pw Crc.e8 n x) (fun _ i _ => (intOf i).toNat)
  case atStart => exact ⟨n, 1, x, Nat.le_refl _, rfl, rfl, hR.out, by rw [Nat.one_mul]⟩
  case round =>
    obtain ⟨m, p, y, hm, rfl, rfl, hr, he⟩ := hrel
    have HE : Hid (Crc.pw Crc.e8 (p * m) y = Crc.pw Crc.e8 n x) := he
    clear he
    by_cases hlt : 0 < m
    · have hz := hr.z
      have hbl := hr.below
      have hlo := hr.lo
      clear hr
      have hBlt : B < wr.heap.size := heap_lt hz
      by_cases hodd : m % 2 = 1
      · have hbit : (bits .and .i64 (m : Int) 1 == 1) = true := by rw [i64_and1]; simp; omega
        have hz1 : (wr.alloc (.cells (zarr (zz p)) 50)).heap[B]? = some (.cells (zarr (zz p)) 50) := by rw [Below.heap_alloc _ _ _ hBlt]; exact hz
        go_wp2_with (refine wpList_load_row rfl 50 _ rfl B rfl 50 (zarr (zz p)) (0, 0) _ hz Tryd.underlying50 rfl (size50 _) ?_)
        refine (apply_any _ _ _).mono ?_
        rintro e w' ⟨rfl, rfl⟩
        go_wp2_with (refine wpList_load_row rfl 50 _ rfl B rfl 50 (zarr (zz p)) (0, 0) _ hz1 Tryd.underlying50 rfl (size50 _) ?_)
        refine (square_any _ _).mono ?_
        rintro e w3 ⟨rfl, hb3⟩
        have hR3 : Hid (ZRel w w3 B p) := ⟨(hbl.alloc (by omega) _).trans (hb3.mono (by simp; omega)), by rw [hb3.block B (by simp; omega)]; exact hz1, hlo⟩
        have hz3 := hR3.out.z
        go_wp2_with (refine wpList_store_row rfl 50 _ _ rfl B (zarr fun i => Crc.app (zz p) (zz p i) 32) rfl rfl 50 (zarr (zz p)) hz3 (size50 _) (by rw [zarr_size, zarr_size]) (zarr_one _) ?_)
        go_roundw
        case rel => exact ⟨m / 2, p * 2, Crc.pw Crc.e8 p y, by omega, by go_num, by rw [zz_app], z_step hR3.out, by rw [← HE.out]; exact z_odd p m y hodd⟩
        case measure => simp [intOf]; omega
      · have hbit : (bits .and .i64 (m : Int) 1 == 1) = false := by rw [i64_and1]; simp; omega
        go_wp2_with (refine wpList_load_row rfl 50 _ rfl B rfl 50 (zarr (zz p)) (0, 0) _ hz Tryd.underlying50 rfl (size50 _) ?_)
        refine (square_any _ _).mono ?_
        rintro e w3 ⟨rfl, hb3⟩
        have hR3 : Hid (ZRel w w3 B p) := ⟨hbl.trans (hb3.mono hbl.size), by rw [hb3.block B hBlt]; exact hz, hlo⟩
        have hz3 := hR3.out.z
        go_wp2_with (refine wpList_store_row rfl 50 _ _ rfl B (zarr fun i => Crc.app (zz p) (zz p i) 32) rfl rfl 50 (zarr (zz p)) hz3 (size50 _) (by rw [zarr_size, zarr_size]) (zarr_one _) ?_)
        go_roundw
        case rel => exact ⟨m / 2, p * 2, y, by omega, by go_num, rfl, z_step hR3.out, by rw [← HE.out]; exact z_even p m y (by omega)⟩
        case measure => simp [intOf]; omega
    · obtain rfl : m = 0 := by omega
      go_wp2
      go_ret
      exact ⟨by rw [← HE.out]; rfl, hr.below⟩
end Go.Proofs.YtklffjagdhbjcaaDoor
