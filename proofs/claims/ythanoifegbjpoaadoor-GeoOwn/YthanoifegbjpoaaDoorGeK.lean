import Derived.Test.YthanoifegbjpoaaDoorKGeA
namespace Go.Proofs.YthanoifegbjpoaaDoor
open Go.RowKit Rec

theorem drew7 (w : World) (n : Nat) : Below w.heap.size w (w.drewN n) := ⟨rfl, rfl, rfl, Nat.le_refl _, fun _ _ => rfl⟩
theorem sup9 : (sup 128).take 9 = [66, 79, 76, 69, 70, 83, 48, 49, 128] := by
  have e : (sup 128).take 9 = ((sup 128).take 16).take 9 := by rw [List.take_take]; rfl
  rw [e, sup_sixteen, supA_twelve (n := 128) (by decide)]
  rfl
theorem str9 : strOfNums [66, 79, 76, 69, 70, 83, 48, 49, 128] = { data := #[66, 79, 76, 69, 70, 83, 48, 49, 128] } := by decide +kernel
set_option maxRecDepth 100000 in
set_option maxHeartbeats 4000000 in
theorem known7 (w : World) (hT : TabAt w) : Calls Tryd.prog 8 #[] w fun e w' => e = .returned (.bool true) ∧ Below w.heap.size w w' := by
  have HT : Hid (TabAt w) := hT
  clear hT
  have L1 : isLen 4097 = true := by decide
  have L2 : isLen 128 = true := by decide
  go_enter Tryd.func8, Tryd.ntmps8
  go_wp2_with (first
    | (go_at_call 9; refine (gof_ok _ _ L1).mono ?_; rintro e w1 ⟨rfl, hb⟩; have HB1 : Hid (Below w.heap.size w w1) := hb; clear hb; rw [show geoV 4097 = .agg #[.int .i64 4097, .int .i64 98, .int .i64 100, .int .i64 164, .int .i64 512] from rfl])
    | (go_at_call 10; refine (gsuper_ok _ _ L2 (HT.out.on (HB1.out.alloc HB1.out.size _))).mono ?_; rintro e w2 ⟨g, rfl, hg, ho, hb⟩; have HO : Hid (OwnB w2 g 512 (sup 128)) := ho; have HB2 : Hid (Below w.heap.size w w2) := (HB1.out.alloc HB1.out.size _).trans (hb.mono (HB1.out.alloc HB1.out.size _).size); have HBx := hb; clear ho hb)
    | (go_at_call 12; refine (gread_any _ _ 512 512 (sup 128) (sup_len _) HO.out.bytes (by omega) (HT.out.on HB2.out)).mono ?_; rintro e w3 ⟨rfl, hb⟩; rw [rdV_sup L2, rdE_sup L2]; have HB3 : Hid (Below w.heap.size w w3) := HB2.out.trans (hb.mono HB2.out.size); have HO3 : Hid (OwnB w3 g 512 (sup 128)) := HO.out.on hb; have HR : w3.heap[w1.heap.size]? = some (.cells #[.int .i64 4097, .int .i64 98, .int .i64 100, .int .i64 164, .int .i64 512] 24 (0, 0)) := (below_fr (HBx.trans (hb.mono HBx.size)) (fun _ => False)).heap (heap_alloc_new _ _) (fun e => e); have C0 : w3.cell? ⟨w1.heap.size, 0, none⟩ = some (.int .i64 4097) := cell_of_row _ _ _ _ _ _ HR; have C1 : w3.cell? ⟨w1.heap.size, 1, none⟩ = some (.int .i64 98) := cell_of_row _ _ _ _ _ _ HR; have C2 : w3.cell? ⟨w1.heap.size, 2, none⟩ = some (.int .i64 100) := cell_of_row _ _ _ _ _ _ HR; have C3 : w3.cell? ⟨w1.heap.size, 3, none⟩ = some (.int .i64 164) := cell_of_row _ _ _ _ _ _ HR; have C4 : w3.cell? ⟨w1.heap.size, 4, none⟩ = some (.int .i64 512) := cell_of_row _ _ _ _ _ _ HR; have S9 := str_opt (n := 9) (c := 512) (HO3.out.bytes.take 9) (by rw [List.length_take, sup_len]; rfl); rw [sup9, str9] at S9; clear hb HBx HR)
    | (go_at_call 11; refine (num7_any _ _).mono ?_; rintro e w' ⟨rfl, rfl⟩))
  go_ret
  exact ⟨rfl, HB3.out⟩
end Go.Proofs.YthanoifegbjpoaaDoor
