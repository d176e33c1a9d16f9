import Derived.Test.YthanoifegbjpoaaDoorGeK
namespace Go.Proofs.YthanoifegbjpoaaDoor
open Go.RowKit Rec

/-- a number of blocks that may be -/
def nOf (x : Int) : Int := 128 + IntKind.u64.wrap x % 16257
theorem nOf_ok (x : Int) : isLen (nOf x) = true := isLen_yes (by unfold nOf; omega)
theorem wrap_bd (x : Int) : 0 ≤ IntKind.u64.wrap x ∧ IntKind.u64.wrap x < 18446744073709551616 := by
  unfold IntKind.wrap
  simp only [IntKind.signed, IntKind.bits]
  simp
  omega
theorem keepL {w w' : World} {k : Nat} {o : Obj} (hb : Below w.heap.size w w') (h : w.heap[k]? = some o) : w'.heap[k]? = some o := (below_fr hb (fun _ => False)).heap h (fun e => e)

set_option maxRecDepth 100000 in
set_option maxHeartbeats 4000000 in
theorem lays_any (w : World) (x : Int) (hT : TabAt w) (_hx : -9223372036854775808 ≤ x ∧ x ≤ 9223372036854775807) : Calls Tryd.prog 6 #[.int .i64 x] w fun e w' => e = .returned (.bool true) ∧ Below w.heap.size w w' := by
  have HT : Hid (TabAt w) := hT
  clear hT
  obtain ⟨u, hu, hub⟩ : ∃ u, IntKind.u64.wrap x = u ∧ 0 ≤ u ∧ u < 18446744073709551616 := ⟨_, rfl, wrap_bd x⟩
  have HL0 : Hid (isLen (128 + u % 16257) = true) := hu ▸ nOf_ok x
  go_enter Tryd.func6, Tryd.ntmps6
  go_upto_region 4 with (go_at_call 8; refine (known7 _ HT.out).mono ?_; rintro e w1 ⟨rfl, hb⟩; have HB1 : Hid (Below w.heap.size w w1) := hb; clear hb)
  have hN := isLen_bd HL0.out
  have HL : Hid (isLen (128 + u % 16257) = true) := HL0.out
  clear hu HL0
  generalize 128 + u % 16257 = N at *
  obtain ⟨g1, g2, g3, g4, g5, g6, g7, g8, g9⟩ := geo_lays HL.out
  have gc : gC N ≤ 2048 := by unfold gC; omega
  go_upto_region 9 with (first
    | (go_at_call 9; refine (gof_ok _ N HL.out).mono ?_; rintro e w2 ⟨rfl, hb⟩; rw [show geoV N = .agg #[.int .i64 N, .int .i64 98, .int .i64 (gI N), .int .i64 (gD N), .int .i64 (gC N)] from rfl]; have HB2 : Hid (Below w.heap.size w w2) := HB1.out.trans (hb.mono HB1.out.size); clear hb)
    | (go_at_call 11; refine (num7_any _ _).mono ?_; rintro e w' ⟨rfl, rfl⟩))
  have HR0 : Hid ((w2.alloc (.cells #[.int .i64 N, .int .i64 98, .int .i64 (gI N), .int .i64 (gD N), .int .i64 (gC N)] 24 (0, 0))).heap[w2.heap.size]? = some (.cells #[.int .i64 N, .int .i64 98, .int .i64 (gI N), .int .i64 (gD N), .int .i64 (gC N)] 24 (0, 0))) := heap_alloc_new _ _
  have HB3 : Hid (Below w.heap.size w (w2.alloc (.cells #[.int .i64 N, .int .i64 98, .int .i64 (gI N), .int .i64 (gD N), .int .i64 (gC N)] 24 (0, 0)))) := HB2.out.alloc HB2.out.size _
  generalize w2.alloc (.cells #[.int .i64 N, .int .i64 98, .int .i64 (gI N), .int .i64 (gD N), .int .i64 (gC N)] 24 (0, 0)) = wa at *
  generalize w2.heap.size = gA at *
  clear HB1 HB2 HT
  go_wp2_with fail
  go_loopw [5] (fun i wr => ∃ k : Nat, (k : Int) ≤ N ∧ i = .int .i64 k ∧ Below w.heap.size w wr ∧ wr.heap[gA]? = some (.cells #[.int .i64 N, .int .i64 98, .int .i64 (gI N), .int .i64 (gD N), .int .i64 (gC N)] 24 (0, 0))) (fun i _ => (N - intOf i).toNat)
  case atStart => exact ⟨0, by omega, rfl, HB3.out, HR0.out⟩
  case round =>
    obtain ⟨k, hk, rfl, hbw, hr⟩ := hrel
    have HBw : Hid (Below w.heap.size w wr) := hbw
    have HR : Hid (wr.heap[gA]? = some (.cells #[.int .i64 N, .int .i64 98, .int .i64 (gI N), .int .i64 (gD N), .int .i64 (gC N)] 24 (0, 0))) := hr
    clear hbw HB3 HR0
    have C0 : wr.cell? ⟨gA, 0, none⟩ = some (.int .i64 N) := cell_of_row _ _ _ _ _ _ hr
    have C1 : wr.cell? ⟨gA, 1, none⟩ = some (.int .i64 98) := cell_of_row _ _ _ _ _ _ hr
    have C2 : wr.cell? ⟨gA, 2, none⟩ = some (.int .i64 (gI N)) := cell_of_row _ _ _ _ _ _ hr
    have C3 : wr.cell? ⟨gA, 3, none⟩ = some (.int .i64 (gD N)) := cell_of_row _ _ _ _ _ _ hr
    have C4 : wr.cell? ⟨gA, 4, none⟩ = some (.int .i64 (gC N)) := cell_of_row _ _ _ _ _ _ hr
    clear hr
    by_cases hlt : (k : Int) < N
    · obtain ⟨q, r, hq, hr, h1, h2, h3, h4⟩ : ∃ q r : Int, (k : Int) / 4096 = q ∧ (k : Int) % 4096 = r ∧ 0 ≤ r ∧ r < 4096 ∧ q * 4096 + r = k ∧ 98 + q < gI N := ⟨_, _, rfl, rfl, by omega, by omega, by omega, by omega⟩
      have hq0 : 0 ≤ q ∧ q ≤ 4 := by omega
      go_wp2_with (first
        | (go_at_call 13; refine (gbit_any _ N k HL.out (by omega)).mono ?_; rintro e w4 ⟨rfl, hb⟩; rw [bitA_in ⟨by omega, hlt⟩, hq, hr]; have HBx : Hid (Below w.heap.size w w4) := HBw.out.trans (hb.mono HBw.out.size); have HRx := keepL hb HR.out; clear C0 C1 C2 C3 C4 hb; have C0 : w4.cell? ⟨gA, 0, none⟩ = some (.int .i64 N) := cell_of_row _ _ _ _ _ _ HRx; have C1 : w4.cell? ⟨gA, 1, none⟩ = some (.int .i64 98) := cell_of_row _ _ _ _ _ _ HRx; have C2 : w4.cell? ⟨gA, 2, none⟩ = some (.int .i64 (gI N)) := cell_of_row _ _ _ _ _ _ HRx; have C3 : w4.cell? ⟨gA, 3, none⟩ = some (.int .i64 (gD N)) := cell_of_row _ _ _ _ _ _ HRx; have C4 : w4.cell? ⟨gA, 4, none⟩ = some (.int .i64 (gC N)) := cell_of_row _ _ _ _ _ _ HRx; have HRy : Hid (w4.heap[gA]? = some (.cells #[.int .i64 N, .int .i64 98, .int .i64 (gI N), .int .i64 (gD N), .int .i64 (gC N)] 24 (0, 0))) := HRx; clear HRx)
        | (go_at_call 11; refine (num7_any _ _).mono ?_; rintro e w' ⟨rfl, rfl⟩))
      case roundEnd => exact ⟨⟨k + 1, by omega, by go_num, HBx.out, HRy.out⟩, by simp [intOf]; omega⟩
      all_goals (exfalso; rename_i hz; simp only [bne_iff_ne, ne_eq] at hz; omega)
    · go_wp2_with fail
      go_loopw [9] (fun i wr => ∃ k : Nat, 1 ≤ k ∧ (k : Int) ≤ gC N ∧ i = .int .i64 k ∧ Below w.heap.size w wr ∧ wr.heap[gA]? = some (.cells #[.int .i64 N, .int .i64 98, .int .i64 (gI N), .int .i64 (gD N), .int .i64 (gC N)] 24 (0, 0))) (fun i _ => (gC N - intOf i).toNat)
      case atStart => exact ⟨1, by omega, by omega, rfl, HBw.out, HR.out⟩
      case round =>
        clear C0 C1 C2 C3 C4 HBw HR
        rename World => wq
        obtain ⟨k2, hk1, hk2, rfl, hbw, hr⟩ := hrel
        have HBw : Hid (Below w.heap.size w wq) := hbw
        have HR : Hid (wq.heap[gA]? = some (.cells #[.int .i64 N, .int .i64 98, .int .i64 (gI N), .int .i64 (gD N), .int .i64 (gC N)] 24 (0, 0))) := hr
        clear hbw
        have C0 : wq.cell? ⟨gA, 0, none⟩ = some (.int .i64 N) := cell_of_row _ _ _ _ _ _ hr
        have C1 : wq.cell? ⟨gA, 1, none⟩ = some (.int .i64 98) := cell_of_row _ _ _ _ _ _ hr
        have C2 : wq.cell? ⟨gA, 2, none⟩ = some (.int .i64 (gI N)) := cell_of_row _ _ _ _ _ _ hr
        have C3 : wq.cell? ⟨gA, 3, none⟩ = some (.int .i64 (gD N)) := cell_of_row _ _ _ _ _ _ hr
        have C4 : wq.cell? ⟨gA, 4, none⟩ = some (.int .i64 (gC N)) := cell_of_row _ _ _ _ _ _ hr
        clear hr
        by_cases hlt2 : (k2 : Int) < gC N
        · obtain ⟨q, r, hq, hr, h1, h2, h3, h4⟩ : ∃ q r : Int, (k2 : Int) / 8 = q ∧ (k2 : Int) % 8 = r ∧ 0 ≤ r ∧ r < 8 ∧ q * 8 + r = k2 ∧ gI N + q < gD N := ⟨_, _, rfl, rfl, by omega, by omega, by omega, by omega⟩
          have hq0 : 0 ≤ q ∧ q ≤ 256 := by omega
          go_wp2_with (first
            | (go_at_call 14; refine (grec_any _ N k2 HL.out (by omega)).mono ?_; rintro e w4 ⟨rfl, hb⟩; rw [recA_in ⟨by omega, hlt2⟩, hq, hr]; have HBx : Hid (Below w.heap.size w w4) := HBw.out.trans (hb.mono HBw.out.size); have HRx := keepL hb HR.out; clear C0 C1 C2 C3 C4 hb; have C0 : w4.cell? ⟨gA, 0, none⟩ = some (.int .i64 N) := cell_of_row _ _ _ _ _ _ HRx; have C1 : w4.cell? ⟨gA, 1, none⟩ = some (.int .i64 98) := cell_of_row _ _ _ _ _ _ HRx; have C2 : w4.cell? ⟨gA, 2, none⟩ = some (.int .i64 (gI N)) := cell_of_row _ _ _ _ _ _ HRx; have C3 : w4.cell? ⟨gA, 3, none⟩ = some (.int .i64 (gD N)) := cell_of_row _ _ _ _ _ _ HRx; have C4 : w4.cell? ⟨gA, 4, none⟩ = some (.int .i64 (gC N)) := cell_of_row _ _ _ _ _ _ HRx; have HRy : Hid (w4.heap[gA]? = some (.cells #[.int .i64 N, .int .i64 98, .int .i64 (gI N), .int .i64 (gD N), .int .i64 (gC N)] 24 (0, 0))) := HRx; clear HRx)
            | (go_at_call 11; refine (num7_any _ _).mono ?_; rintro e w' ⟨rfl, rfl⟩))
          case roundEnd => exact ⟨⟨k2 + 1, by omega, by omega, by go_num, HBx.out, HRy.out⟩, by simp [intOf]; omega⟩
          all_goals (exfalso; rename_i hz; simp only [bne_iff_ne, ne_eq] at hz; omega)
        · have K0 : Hid (0 = 0) := rfl
          go_wp2_with (first
            | (go_at_call 13; have hh := K0.out; clear hh K0; refine (gbit_any _ N (-1) HL.out (by omega)).mono ?_; rintro e w5 ⟨rfl, hb⟩; rw [bitA_out (by omega)]; have HBw5 : Hid (Below w.heap.size w w5) := HBw.out.trans (hb.mono HBw.out.size); have HRx := keepL hb HR.out; clear C0 C1 C2 C3 C4 hb; have C0 : w5.cell? ⟨gA, 0, none⟩ = some (.int .i64 N) := cell_of_row _ _ _ _ _ _ HRx; have C1 : w5.cell? ⟨gA, 1, none⟩ = some (.int .i64 98) := cell_of_row _ _ _ _ _ _ HRx; have C2 : w5.cell? ⟨gA, 2, none⟩ = some (.int .i64 (gI N)) := cell_of_row _ _ _ _ _ _ HRx; have C3 : w5.cell? ⟨gA, 3, none⟩ = some (.int .i64 (gD N)) := cell_of_row _ _ _ _ _ _ HRx; have C4 : w5.cell? ⟨gA, 4, none⟩ = some (.int .i64 (gC N)) := cell_of_row _ _ _ _ _ _ HRx; have HRw5 : Hid (w5.heap[gA]? = some (.cells #[.int .i64 N, .int .i64 98, .int .i64 (gI N), .int .i64 (gD N), .int .i64 (gC N)] 24 (0, 0))) := HRx; have K1 : Hid (0 = 0) := rfl; clear HRx)
            | (go_at_call 13; have hh := K1.out; clear hh K1; refine (gbit_any _ N N HL.out (by omega)).mono ?_; rintro e w6 ⟨rfl, hb⟩; rw [bitA_out (by omega)]; have HBw6 : Hid (Below w.heap.size w w6) := HBw5.out.trans (hb.mono HBw5.out.size); have HRx := keepL hb HRw5.out; clear C0 C1 C2 C3 C4 hb; have C0 : w6.cell? ⟨gA, 0, none⟩ = some (.int .i64 N) := cell_of_row _ _ _ _ _ _ HRx; have C1 : w6.cell? ⟨gA, 1, none⟩ = some (.int .i64 98) := cell_of_row _ _ _ _ _ _ HRx; have C2 : w6.cell? ⟨gA, 2, none⟩ = some (.int .i64 (gI N)) := cell_of_row _ _ _ _ _ _ HRx; have C3 : w6.cell? ⟨gA, 3, none⟩ = some (.int .i64 (gD N)) := cell_of_row _ _ _ _ _ _ HRx; have C4 : w6.cell? ⟨gA, 4, none⟩ = some (.int .i64 (gC N)) := cell_of_row _ _ _ _ _ _ HRx; have HRw6 : Hid (w6.heap[gA]? = some (.cells #[.int .i64 N, .int .i64 98, .int .i64 (gI N), .int .i64 (gD N), .int .i64 (gC N)] 24 (0, 0))) := HRx; have K2 : Hid (0 = 0) := rfl; clear HRx)
            | (go_at_call 14; have hh := K2.out; clear hh K2; refine (grec_any _ N 0 HL.out (by omega)).mono ?_; rintro e w7 ⟨rfl, hb⟩; rw [recA_out (by omega)]; have HBw7 : Hid (Below w.heap.size w w7) := HBw6.out.trans (hb.mono HBw6.out.size); have HRx := keepL hb HRw6.out; clear C0 C1 C2 C3 C4 hb; have C0 : w7.cell? ⟨gA, 0, none⟩ = some (.int .i64 N) := cell_of_row _ _ _ _ _ _ HRx; have C1 : w7.cell? ⟨gA, 1, none⟩ = some (.int .i64 98) := cell_of_row _ _ _ _ _ _ HRx; have C2 : w7.cell? ⟨gA, 2, none⟩ = some (.int .i64 (gI N)) := cell_of_row _ _ _ _ _ _ HRx; have C3 : w7.cell? ⟨gA, 3, none⟩ = some (.int .i64 (gD N)) := cell_of_row _ _ _ _ _ _ HRx; have C4 : w7.cell? ⟨gA, 4, none⟩ = some (.int .i64 (gC N)) := cell_of_row _ _ _ _ _ _ HRx; have HRw7 : Hid (w7.heap[gA]? = some (.cells #[.int .i64 N, .int .i64 98, .int .i64 (gI N), .int .i64 (gD N), .int .i64 (gC N)] 24 (0, 0))) := HRx; have K3 : Hid (0 = 0) := rfl; clear HRx)
            | (go_at_call 14; have hh := K3.out; clear hh K3; refine (grec_any _ N (gC N) HL.out (by omega)).mono ?_; rintro e w8 ⟨rfl, hb⟩; rw [recA_out (by omega)]; have HBw8 : Hid (Below w.heap.size w w8) := HBw7.out.trans (hb.mono HBw7.out.size); have HRx := keepL hb HRw7.out; clear C0 C1 C2 C3 C4 hb; have C0 : w8.cell? ⟨gA, 0, none⟩ = some (.int .i64 N) := cell_of_row _ _ _ _ _ _ HRx; have C1 : w8.cell? ⟨gA, 1, none⟩ = some (.int .i64 98) := cell_of_row _ _ _ _ _ _ HRx; have C2 : w8.cell? ⟨gA, 2, none⟩ = some (.int .i64 (gI N)) := cell_of_row _ _ _ _ _ _ HRx; have C3 : w8.cell? ⟨gA, 3, none⟩ = some (.int .i64 (gD N)) := cell_of_row _ _ _ _ _ _ HRx; have C4 : w8.cell? ⟨gA, 4, none⟩ = some (.int .i64 (gC N)) := cell_of_row _ _ _ _ _ _ HRx; have HRw8 : Hid (w8.heap[gA]? = some (.cells #[.int .i64 N, .int .i64 98, .int .i64 (gI N), .int .i64 (gD N), .int .i64 (gC N)] 24 (0, 0))) := HRx; have K4 : Hid (0 = 0) := rfl; clear HRx)
            | (go_at_call 11; refine (num7_any _ _).mono ?_; rintro e w' ⟨rfl, rfl⟩))
          go_ret
          exact ⟨rfl, HBw8.out⟩
end Go.Proofs.YthanoifegbjpoaaDoor
