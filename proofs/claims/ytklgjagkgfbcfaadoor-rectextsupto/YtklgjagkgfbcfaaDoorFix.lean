import Derived.Test.YtklgjagkgfbcfaaDoorPTxt
namespace Go.Proofs.YtklgjagkgfbcfaaDoor
open Go.RowKit Rec

def b8 : List Int := [1, 2, 3, 4, 0, 0, 255, 128]
def d8 : List Int := [1, 205, 171, 4, 97, 98, 0, 128]
theorem own_new {w : World} (l : List Int) (h1 : l.length ≤ 1000000000000000) (h2 : ∀ i, 0 ≤ nth l i ∧ nth l i < 256) : OwnB (w.alloc (.cells (l.map (Value.int .u8)).toArray 5)) w.heap.size l.length l :=
  ⟨⟨_, heap_alloc_new _ _, by simp, by rw [List.take_of_length_le (by simp)]⟩, h1, Nat.le_refl _, by unfold maxLen; omega, h2⟩
theorem ab_size : (⟨#[97, 98]⟩ : ByteArray).size = 2 := rfl
theorem fx_ab : ptxE (putL b8 1 2 43981) 4 3 ⟨#[97, 98]⟩ = 0 ∧ ptxL (putL b8 1 2 43981) 4 3 ⟨#[97, 98]⟩ = d8 := by decide +kernel
set_option maxRecDepth 100000 in
set_option maxHeartbeats 1000000 in
theorem fixed_any (w : World) (hT : TabAt w) : Calls Tryd.prog 7 #[] w fun e w' => e = .returned (.bool true) ∧ Below w.heap.size w w' := by
  have e1 : getV b8 0 4 = 67305985 := by decide +kernel
  have e2 : getE b8 0 4 = 0 := by decide +kernel
  have e3 : texS b8 0 6 = ⟨#[1, 2, 3, 4]⟩ := by decide +kernel
  have e4 : texE b8 0 6 = 0 := by decide +kernel
  have e5 : zerV b8 4 2 = true := by decide +kernel
  have e6 : zerE b8 4 2 = 0 := by decide +kernel
  have e7 : putE b8 1 2 43981 = 0 := by decide +kernel
  have HT : Hid (TabAt w) := hT
  clear hT
  go_enter Tryd.func7, Tryd.ntmps7
  go_wp2_with fail
  have HO : Hid (OwnB (w.alloc (.cells (b8.map (Value.int .u8)).toArray 5)) w.heap.size 8 (b8 ++ [])) := own_new b8 (by decide) (wf_list (by decide))
  have HB : Hid (Below w.heap.size w (w.alloc (.cells (b8.map (Value.int .u8)).toArray 5))) := (Below.refl _ _).alloc (Nat.le_refl _) _
  change Calls Tryd.prog 10 _ (w.alloc (.cells (b8.map (Value.int .u8)).toArray 5)) _
  generalize w.alloc (.cells (b8.map (Value.int .u8)).toArray 5) = w1 at *
  have HT1 : Hid (TabAt w1) := HT.out.on HB.out
  refine (get_any w1 w.heap.size 8 8 8 0 4 b8 [] rfl HO.out (by omega) HT1.out (by omega)).mono ?_
  rintro e w' ⟨rfl, rfl⟩
  rw [e1, e2]
  go_wp2_with fail
  refine (text_any w' w.heap.size 8 8 8 0 6 b8 [] rfl HO.out (by omega) (by omega)).mono ?_
  rintro e w1 ⟨rfl, rfl⟩
  rw [e3, e4]
  go_wp2_with fail
  refine (zero_any w1 w.heap.size 8 8 8 4 2 b8 [] rfl HO.out (by omega) (by omega)).mono ?_
  rintro e w2 ⟨rfl, rfl⟩
  rw [e5, e6]
  go_wp2_with fail
  refine (put_any w2 w.heap.size 8 8 8 1 2 43981 b8 [] rfl HO.out (by omega) HT1.out (by omega) (by omega)).mono ?_
  rintro e w3 ⟨rfl, ho, hg⟩
  rw [e7]
  have HO3 : Hid (OwnB w3 w.heap.size 8 (putL b8 1 2 43981 ++ [])) := ho
  have HG3 : Hid (w2.grownBy w3 (some w.heap.size)) := hg
  clear ho hg
  go_wp2_with fail
  refine (ptx_any w3 w.heap.size 8 8 8 4 3 ⟨#[97, 98]⟩ (putL b8 1 2 43981) [] (by decide) HO3.out (by omega) (by omega) (by rw [ab_size]; omega)).mono ?_
  rintro e w4 ⟨rfl, ho, hg⟩
  rw [fx_ab.1]
  rw [fx_ab.2] at ho
  have HO4 : Hid (OwnB w4 w.heap.size 8 (d8 ++ [])) := ho
  have HB4 : Hid (Below w.heap.size w w4) := HB.out.trans (below_of (grown_trans HG3.out hg) (Nat.le_refl _) HB.out.size)
  clear ho hg
  go_wp2_with fail
  change Calls Tryd.prog 11 _ (w4.alloc (.cells (d8.map (Value.int .u8)).toArray 5)) _
  have HB5 : Hid (Below w4.heap.size w4 (w4.alloc (.cells (d8.map (Value.int .u8)).toArray 5))) := (Below.refl _ _).alloc (Nat.le_refl _) _
  have HN : Hid (OwnB (w4.alloc (.cells (d8.map (Value.int .u8)).toArray 5)) w4.heap.size 8 d8) := own_new d8 (by decide) (wf_list (by decide))
  generalize w4.alloc (.cells (d8.map (Value.int .u8)).toArray 5) = w5 at *
  refine (same_any w5 _ _ 8 8 8 8 d8 d8 rfl rfl (HO4.out.on HB5.out).bytes HN.out.bytes).mono ?_
  rintro e w6 ⟨rfl, hb⟩
  rw [decide_eq_true rfl]
  have HB6 : Hid (Below w.heap.size w w6) := (HB4.out.trans (HB5.out.mono HB4.out.size)).trans (hb.mono (Nat.le_trans HB4.out.size HB5.out.size))
  clear hb
  go_wp2
  go_ret
  exact ⟨rfl, HB6.out⟩
end Go.Proofs.YtklgjagkgfbcfaaDoor
