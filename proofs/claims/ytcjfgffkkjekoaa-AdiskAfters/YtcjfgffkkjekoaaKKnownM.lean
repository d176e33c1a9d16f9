import Derived.Test.YtcjfgffkkjekoaaKMake
namespace Go.Proofs.Ytcjfgffkkjekoaa
open Go.RowKit Rec

/-- 512 times this one -/
def one (c : Int) : List Int := List.replicate 512 c
theorem one_length (c : Int) : (one c).length = 512 := List.length_replicate
theorem nth_one (c : Int) (i : Nat) (h : i < 512) : nth (one c) i = c := nth_rep 512 c i h
theorem wf_one (c : Int) (h : 0 ≤ c ∧ c < 256) : ∀ i, 0 ≤ nth (one c) i ∧ nth (one c) i < 256 := wf_rep 512 c h
theorem crc_same_iff (x p q : List Int) (h : p.length = q.length) : Crc.crc (x ++ p) = Crc.crc (x ++ q) ↔ Crc.crc p = Crc.crc q := by
  have t := Crc.turn x p q [] h
  simp only [List.append_nil, List.length_nil, Crc.pw] at t
  rw [← t]
  constructor
  · intro e
    have e2 : Crc.crc (x ++ p) ^^^ Crc.crc (x ++ p) = Crc.crc (x ++ p) ^^^ (Crc.crc (x ++ p) ^^^ (Crc.crc p ^^^ Crc.crc q)) := by rw [← e]
    rw [← BitVec.xor_assoc, BitVec.xor_self, BitVec.zero_xor] at e2
    have e3 : Crc.crc p ^^^ (Crc.crc p ^^^ Crc.crc q) = Crc.crc p ^^^ 0#32 := by rw [← e2]
    rw [← BitVec.xor_assoc, BitVec.xor_self, BitVec.zero_xor, BitVec.xor_zero] at e3
    exact e3.symm
  · intro e
    rw [e, BitVec.xor_self, BitVec.xor_zero]
set_option maxRecDepth 100000 in
theorem crc_01 : Crc.crc (one 0) ≠ Crc.crc (one 1) := by decide +kernel
theorem sumV_eq (h : List Int) (ds es : List (List Int)) : sumV h ds = sumV h es ↔ Crc.crc (ov h 12 4 (fun _ => 0) ++ ds.flatten) = Crc.crc (ov h 12 4 (fun _ => 0) ++ es.flatten) := by
  unfold sumV
  constructor
  · intro e; exact BitVec.eq_of_toNat_eq (by omega)
  · intro e; rw [e]
/-- a made header with some blocks -/
theorem good_made (ns : List Int) (ds es : List (List Int)) (n : Int) (h1 : 1 ≤ ns.length) (h96 : ns.length ≤ 96) (hm : may ns 16384 = true) :
    good (made ns ds) n es = (may ns n && blk es ns.length && decide (sumV (hd ns 0) ds = sumV (hd ns 0) es)) := by
  have hb0 : ∀ i, i < ns.length → 0 ≤ nth ns i ∧ nth ns i < 4294967296 := fun i hi => by have := pre_bd ns _ hm i hi; omega
  unfold good made
  rw [numsL_hd ns _ n h1 h96 hb0, num_sum ns _ (sumV_bd _ _), sumV_hd ns _ es]
  cases hy : may ns n with
  | true =>
    have : ns ≠ [] := fun e => by rw [e] at h1; simp at h1
    simp [this]
  | false => simp
theorem may_one (v n : Int) (h : 98 ≤ v) (h2 : v < n) : may [v] n = true := may_true (fun i hi => by
  have : i = 0 := by simpa using hi
  subst this
  exact ⟨by show (97 : Int) < v; omega, h2⟩)
theorem blk_one (l : List Int) (h : l.length = 512) : blk [l] 1 = true := by simp [blk, h]
theorem made12 (s : Int) : (hd [98] s).take 12 = [66, 79, 76, 69, 76, 79, 71, 49, 1, 0, 0, 0] := by
  refine ext_nth (by rw [List.length_take, hd_length]; rfl) fun i hi => ?_
  have hi : i < 12 := by rw [List.length_take, hd_length] at hi; omega
  have e : nth ((hd [98] s).take 12) i = hb [98] s i := by rw [nth_take _ _ _ hi, nth_hd _ _ _ (by omega)]
  rw [e]
  have : i = 0 ∨ i = 1 ∨ i = 2 ∨ i = 3 ∨ i = 4 ∨ i = 5 ∨ i = 6 ∨ i = 7 ∨ i = 8 ∨ i = 9 ∨ i = 10 ∨ i = 11 := by omega
  rcases this with rfl | rfl | rfl | rfl | rfl | rfl | rfl | rfl | rfl | rfl | rfl | rfl <;> rfl
theorem ints1 (w : World) (v : Int) : Ints (w.alloc (.cells #[.int .i64 v] 3)) (some ⟨w.heap.size, 0, none⟩) [v] :=
  ⟨by simp, .inr ⟨_, _, rfl, fun i hi => by
    have : i = 0 := by simpa using hi
    subst this
    rw [cell_of_row _ _ _ _ _ _ (heap_alloc_new _ _)]; rfl⟩⟩
theorem data1 (w : World) (a : Option Addr) (n c : Nat) (l : List Int) (hn : l.length = n) (h : Bytes w a l) (hz : a = none → c = 0) : Data (w.alloc (.cells #[.slice a n c] 22)) (some ⟨w.heap.size, 0, none⟩) [l] :=
  ⟨by simp, .inr ⟨_, _, rfl, fun i hi => by
    have : i = 0 := by simpa using hi
    subst this
    subst hn
    exact ⟨a, c, by rw [cell_of_row _ _ _ _ _ _ (heap_alloc_new _ _)]; rfl, h.on ((Below.refl _ _).alloc (Nat.le_refl _) _), hz⟩⟩⟩
end Go.Proofs.Ytcjfgffkkjekoaa

namespace Go.Proofs.Ytcjfgffkkjekoaa
open Go.RowKit Rec

def s12 : ByteArray := { data := #[66, 79, 76, 69, 76, 79, 71, 49, 1, 0, 0, 0] }
theorem str12 : strOfNums [66, 79, 76, 69, 76, 79, 71, 49, 1, 0, 0, 0] = s12 := by decide +kernel
theorem known_h (s : Int) : nth (hd [98] s) 16 = 98 := by rw [nth_hd _ _ _ (by omega)]; rfl
theorem known_b : ∀ i, i < [(98 : Int)].length → 0 ≤ nth [98] i ∧ nth [98] i < 4294967296 := fun i hi => by
  have : i = 0 := by simpa using hi
  subst this
  decide
theorem known_e : numsE (made [98] [one 0]) 99 = 0 := by
  unfold made
  rw [numsE_hd [98] _ 99 (by simp) (by simp) known_b, may_one 98 99 (by decide) (by decide)]; rfl
theorem known_l : numsL (made [98] [one 0]) 99 = [98] := by
  unfold made
  rw [numsL_hd [98] _ 99 (by simp) (by simp) known_b, may_one 98 99 (by decide) (by decide)]; rfl
theorem known_g0 : good (made [98] [one 0]) 99 [one 0] = true := by
  rw [good_made [98] [one 0] [one 0] 99 (by simp) (by simp) (may_one 98 16384 (by decide) (by decide)), may_one 98 99 (by decide) (by decide)]
  show (true && blk [one 0] 1 && decide _) = true
  rw [blk_one _ (one_length 0)]
  simp
theorem known_g1 : good (made [98] [one 0]) 99 [one 1] = false := by
  rw [good_made [98] [one 0] [one 1] 99 (by simp) (by simp) (may_one 98 16384 (by decide) (by decide))]
  have : ¬ sumV (hd [98] 0) [one 0] = sumV (hd [98] 0) [one 1] := by
    rw [sumV_eq]
    simp only [List.flatten_cons, List.flatten_nil, List.append_nil]
    rw [crc_same_iff _ _ _ (by rw [one_length, one_length])]
    exact crc_01
  rw [decide_eq_false this, Bool.and_false]
theorem zs_bd : ∀ i, 0 ≤ nth zs i ∧ nth zs i < 256 := fun i => by rw [nth_zs]; omega
theorem zr_zs : zr zs 0 512 = true := zr_true _ _ _ (fun _ _ => nth_zs _)
theorem zs_e (n : Int) : numsE zs n = 0 := by unfold numsE; rw [if_pos zs_length, zr_zs]; rfl
theorem zs_l (n : Int) : numsL zs n = [] := by unfold numsL; rw [if_neg (by rw [zr_zs]; simp)]

end Go.Proofs.Ytcjfgffkkjekoaa
