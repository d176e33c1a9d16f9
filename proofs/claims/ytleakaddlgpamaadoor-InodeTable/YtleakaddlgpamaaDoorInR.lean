import Derived.Test.YtleakaddlgpamaaDoorInY
import Derived.Deep.RegionHeld3
import Derived.Deep.CutBlock
namespace Go.Proofs.YtleakaddlgpamaaDoor
open Go.RowKit Go.Maps Rec

set_option maxRecDepth 100000 in
set_option maxHeartbeats 16000000 in
theorem table_any (w : World) (hT : TabAt w) (N : Int) (la : Option Addr) (ll lc : Nat) (Ls : Nat → Nat → Int) (hLb : ∀ i j, -9223372036854775808 ≤ Ls i j ∧ Ls i j ≤ 9223372036854775807) (hLc : ∀ i, i < ll → ∃ b o, (∀ w, (Instr.indexAt 38 (.slice la ll lc) (.int .i64 (i : Int))).run Tryd.prog w = .ok (.pointer (some ⟨b, o + i * 15, none⟩)) w) ∧ ∀ j, j < 15 → w.cell? ⟨b, o + i * 15 + j, none⟩ = some (.int .i64 (Ls i j))) (_hll : ll ≤ 1000000000000000)
    (aa : Option Addr) (al ac : Nat) (As : Nat → Int) (hAc : ∀ i, i < al → ∃ b o, (∀ w, (Instr.indexAt 39 (.slice aa al ac) (.int .i64 (i : Int))).run Tryd.prog w = .ok (.pointer (some ⟨b, o + i, none⟩)) w) ∧ w.cell? ⟨b, o + i, none⟩ = some (.int .i64 (As i))) (hal : al ≤ 1000000000000000) :
    Calls Tryd.prog 5 #[.int .i64 N, .slice la ll lc, .slice aa al ac] w fun e w' => e = .returned (.bool true) ∧ Below w.heap.size w w' := by
  have HFx : Hid (Calls Tryd.prog 6 #[] w fun e w' => e = .returned (.bool true) ∧ Below w.heap.size w w') := jfixed_any w hT
  have HMd : Hid (∀ wx, Calls Tryd.prog 11 #[.int .i64 N, .int .i64 300] wx fun e w' => e = .returned (.int .i64 ((N % 300).toNat : Int)) ∧ wx = w') := fun wx => by
    have := imod_any wx N 300 (by omega) (by omega)
    rw [show N % ((300 : Nat) : Int) = ((N % 300).toNat : Int) by omega] at this
    exact this
  obtain ⟨m, hm, hm3⟩ : ∃ m, (N % 300).toNat = m ∧ m < 300 := ⟨_, rfl, by omega⟩
  rw [hm] at HMd
  obtain ⟨n, hn⟩ : ∃ n, 128 + m = n := ⟨_, rfl⟩
  have HSt : Hid (∀ wx, Below w.heap.size w wx → Calls Tryd.prog 13 #[.int .i64 (m : Int), .slice none 0 0] wx fun e w' => ∃ p d r rt D T, e = .returned (.tuple #[.pointer (some ⟨p, 0, none⟩), .bool true]) ∧ Tb wx w' D T n (fun _ => z15) 0 ∧ PlAt w' p n d r T.t rt ∧ (¬ T.all p) ∧ (¬ D.all p) ∧ wx.heap.size ≤ p) := fun wx hb => by
    rw [← hn]; exact start0 wx (hT.on hb) m hm3
  have hn1 : 128 ≤ n ∧ n ≤ 427 := by omega
  clear hT hm hm3 hn
  have hC := gC_nat n
  have hC0 : 16 ≤ nC n ∧ nC n ≤ 48 := by unfold nC; omega
  obtain ⟨C, hCC⟩ : ∃ C, nC n = C := ⟨_, rfl⟩
  rw [hCC] at hC hC0
  have HC : Hid (gC (n : Int) = (C : Int) ∧ nC n = C) := ⟨hC, hCC⟩
  clear hC hCC
  have HPc : Hid (∀ wx p d r t rt, PlAt wx p n d r t rt → wx.cell? ⟨p, 0, none⟩ = some (.int .i64 (n : Int)) ∧ wx.cell? ⟨p, 1, none⟩ = some (.int .i64 98) ∧ wx.cell? ⟨p, 2, none⟩ = some (.int .i64 (gI n)) ∧ wx.cell? ⟨p, 3, none⟩ = some (.int .i64 (gD n)) ∧ wx.cell? ⟨p, 4, none⟩ = some (.int .i64 (C : Int)) ∧ wx.cell? ⟨p, 7, none⟩ = some (.pointer (some ⟨t, 0, none⟩))) := fun wx p d r t rt h => by
    rw [← HC.out.1]; exact h.cells
  obtain ⟨o, E2, ho⟩ := make15 C (by omega)
  have HO : Hid (∀ w : World, (w.alloc o).rowIs w.heap.size 24 (C * 15) (fun _ => .int .i64 0)) := ho
  have HLc : Hid ((∀ i j, -9223372036854775808 ≤ Ls i j ∧ Ls i j ≤ 9223372036854775807) ∧ ∀ i, i < ll → ∃ b o, (∀ w, (Instr.indexAt 38 (.slice la ll lc) (.int .i64 (i : Int))).run Tryd.prog w = .ok (.pointer (some ⟨b, o + i * 15, none⟩)) w) ∧ ∀ j, j < 15 → w.cell? ⟨b, o + i * 15 + j, none⟩ = some (.int .i64 (Ls i j))) := ⟨hLb, hLc⟩
  have HAc : Hid (∀ i, i < al → ∃ b o, (∀ w, (Instr.indexAt 39 (.slice aa al ac) (.int .i64 (i : Int))).run Tryd.prog w = .ok (.pointer (some ⟨b, o + i, none⟩)) w) ∧ w.cell? ⟨b, o + i, none⟩ = some (.int .i64 (As i))) := hAc
  clear hLb hLc hAc ho
  go_enter Tryd.func5, Tryd.ntmps5
  go_upto_region 6 with (first
    | (go_at_call 6; refine HFx.out.mono ?_; rintro e w1 ⟨rfl, h1⟩; have H1 : Hid (Below w.heap.size w w1) := h1; clear h1 HFx)
    | (go_at_call 11; refine (HMd.out _).mono ?_; rintro e w' ⟨rfl, rfl⟩; clear HMd)
    | (go_at_call 13; refine (HSt.out _ H1.out).mono ?_; rintro e w2 ⟨p, d, r, rt, D, T, rfl, h1, h2, h3, h4, h5⟩; have H2 : Hid (Tb w1 w2 D T n (fun _ => z15) 0 ∧ PlAt w2 p n d r T.t rt ∧ (¬ T.all p) ∧ (¬ D.all p) ∧ w1.heap.size ≤ p) := ⟨h1, h2, h3, h4, h5⟩; clear h1 h2 h3 h4 h5 HSt))
  obtain ⟨c0, c1, c2, c3, c4, c7⟩ := HPc.out _ _ _ _ _ _ H2.out.2.1
  go_upto_region 7 with (fail)
  obtain ⟨hb, hhb⟩ : ∃ hb, w2.heap.size = hb := ⟨_, rfl⟩
  obtain ⟨t, ht⟩ : ∃ t, T.t = t := ⟨_, rfl⟩
  obtain ⟨w3, hw3⟩ : ∃ w3, w2.alloc o = w3 := ⟨_, rfl⟩
  have H3 : Hid (Tq w1 w3 D T n (fun _ => z15) (fun _ => z15) p hb d r t rt 0) := by
    have hB : Below w2.heap.size w2 w3 := by rw [← hw3]; exact (Below.refl _ _).alloc (Nat.le_refl _) _
    have hrow : w3.rowIs hb 24 (nC n * 15) (fun _ => .int .i64 0) := by rw [HC.out.2, ← hw3, ← hhb]; exact HO.out _
    have l1 := heap_lt H2.out.2.1
    refine ⟨H2.out.1.on hB, (by rw [← ht]; exact H2.out.2.1.on hB), ht, hrow.congr (fun i _ => rfl), H2.out.2.2.1, fun e => ?_, H2.out.2.2.2.1, fun e => ?_, by omega, H2.out.2.2.2.2, ?_⟩
    · have := H2.out.1.spc.ses.tx.lt e
      omega
    · have := H2.out.1.spc.ses.dk.disk.allLt e
      omega
    · have := H2.out.1.spc.ses.bel.size
      omega
  rw [hw3, hhb]
  clear hw3 E2 HO c0 c1 c2 c3 c4 c7
  have HB0 : Hid (∀ wx D T H G U, Tq w1 wx D T n H G p hb d r t rt U → Below w.heap.size w wx) := fun wx D T H G U h => H1.out.trans (h.tb.spc.ses.bel.mono H1.out.size)
  go_upto_block 0 with (fail)
  go_cut [10] (fun _ wx => ∃ (k : Nat) (T : Tx) (H : Nat → Nat → Int), k ≤ 40 ∧ Tq w1 wx D T n H H p hb d r t rt k ∧ H 0 = z15)
  case first => as_aux_lemma =>
    go_wp2
    go_loopw [10] (fun i wr => ∃ (k : Nat) (T : Tx) (H : Nat → Nat → Int), k ≤ 40 ∧ k ≤ al ∧ i = .int .i64 k ∧ Tq w1 wr D T n H H p hb d r t rt k ∧ H 0 = z15) (fun i _ => al - (intOf i).toNat)
    case atStart => exact ⟨0, T, _, Nat.zero_le _, Nat.zero_le _, rfl, H3.out, rfl⟩
    case round =>
      obtain ⟨k, T1, H, hk4, hk, rfl, hI, hH0⟩ := hrel
      have HI : Hid (Tq w1 wr D T1 n H H p hb d r t rt k ∧ H 0 = z15) := ⟨hI, hH0⟩
      clear hI hH0
      by_cases hlt : k < al ∧ k < 40
      · obtain ⟨hlt, hlt4⟩ := hlt
        obtain ⟨ab, ao, EA, hac⟩ := HAc.out k hlt
        go_upto_region 11 with (fail)
        obtain ⟨X, hX⟩ : ∃ X, wr.heap.size = X := ⟨_, rfl⟩
        obtain ⟨w4, hw4⟩ : ∃ w4, wr.alloc (.cells #[.int .i64 0, .int .i64 0, .int .i64 0, .int .i64 0, .int .i64 0, .int .i64 0, .int .i64 0, .int .i64 0, .int .i64 0, .int .i64 0, .int .i64 0, .int .i64 0, .int .i64 0, .int .i64 0, .int .i64 0] 24) = w4 := ⟨_, rfl⟩
        have HBw : Hid (∀ wx, Below w4.heap.size w4 wx → Below wr.heap.size wr wx) := fun wx h => by
          have h0 : Below wr.heap.size wr w4 := by rw [← hw4]; exact (Below.refl _ _).alloc (Nat.le_refl _) _
          exact h0.trans (h.mono h0.size)
        have H4 : Hid (Tq w1 w4 D T1 n H H p hb d r t rt k ∧ w4.heap[X]? = some (.cells #[.int .i64 0, .int .i64 0, .int .i64 0, .int .i64 0, .int .i64 0, .int .i64 0, .int .i64 0, .int .i64 0, .int .i64 0, .int .i64 0, .int .i64 0, .int .i64 0, .int .i64 0, .int .i64 0, .int .i64 0] 24 (0, 0))) := by
          rw [← hw4, ← hX]
          exact ⟨HI.out.1.on ((Below.refl _ _).alloc (Nat.le_refl _) _), heap_alloc_new _ _⟩
        rw [hw4, hX]
        clear hw4
        by_cases hl : k < ll
        · as_aux_lemma =>
          obtain ⟨lb, lo, EL, hlc⟩ := HLc.out.2 k hl
          have HBr : Hid (∀ wx, Calls Tryd.prog 7 #[.agg #[.int .i64 (Ls k 0), .int .i64 (Ls k 1), .int .i64 (Ls k 2), .int .i64 (Ls k 3), .int .i64 (Ls k 4), .int .i64 (Ls k 5), .int .i64 (Ls k 6), .int .i64 (Ls k 7), .int .i64 (Ls k 8), .int .i64 (Ls k 9), .int .i64 (Ls k 10), .int .i64 (Ls k 11), .int .i64 (Ls k 12), .int .i64 (Ls k 13), .int .i64 (Ls k 14)]] wx fun e w' => e = .returned (inV (brR (Ls k))) ∧ Below wx.heap.size wx w') := fun wx => brought_any wx (Ls k) (HLc.out.1 k)
          have HRm : Hid ((rMay (brR (Ls k)) = true ∧ ∀ i, -9223372036854775808 ≤ brR (Ls k) i ∧ brR (Ls k) i ≤ 9223372036854775807)) := ⟨brR_may _, brR_bd _⟩
          generalize brR (Ls k) = x at *
          unfold inV at HBr
          have HLl : Hid (∀ j, j < 15 → w4.cell? ⟨lb, lo + k * 15 + j, none⟩ = some (.int .i64 (Ls k j))) := fun j hj => by
            have h9 := hlc j hj
            exact ((HB0.out _ _ _ _ _ _ H4.out.1).cell (block_lt_of_cell h9)).trans h9
          clear hlc
          have a0 : w4.cell? ⟨lb, lo + k * 15, none⟩ = some (.int .i64 (Ls k 0)) := HLl.out 0 (by omega)
          have a1 := HLl.out 1 (by omega)
          have a2 := HLl.out 2 (by omega)
          have a3 := HLl.out 3 (by omega)
          have a4 := HLl.out 4 (by omega)
          have a5 := HLl.out 5 (by omega)
          have a6 := HLl.out 6 (by omega)
          have a7 := HLl.out 7 (by omega)
          have a8 := HLl.out 8 (by omega)
          have a9 := HLl.out 9 (by omega)
          have a10 := HLl.out 10 (by omega)
          have a11 := HLl.out 11 (by omega)
          have a12 := HLl.out 12 (by omega)
          have a13 := HLl.out 13 (by omega)
          have a14 := HLl.out 14 (by omega)
          go_upto_region 13 with (go_at_call 7; refine (HBr.out _).mono ?_; rintro e w5 ⟨rfl, h1⟩; have H5 : Hid (Tq w1 w5 D T1 n H H p hb d r t rt k ∧ w5.heap[X]? = some (.cells #[.int .i64 0, .int .i64 0, .int .i64 0, .int .i64 0, .int .i64 0, .int .i64 0, .int .i64 0, .int .i64 0, .int .i64 0, .int .i64 0, .int .i64 0, .int .i64 0, .int .i64 0, .int .i64 0, .int .i64 0] 24 (0, 0))) := ⟨H4.out.1.on h1, (h1.block _ (heap_lt H4.out.2)).trans H4.out.2⟩; obtain ⟨q1, q2, q3, q4, q5, q6, q7, q8, q9, q10, q11, q12, q13, q14, q15, d0, e0, y0, d1, e1, y1, d2, e2, y2, d3, e3, y3, d4, e4, y4, d5, e5, y5, d6, e6, y6, d7, e7, y7, d8, e8, y8, d9, e9, y9, d10, e10, y10, d11, e11, y11, d12, e12, y12, d13, e13, y13, d14, e14, y14, h8, h9⟩ := chain15 wr w5 X x H5.out.2 (HBw.out _ h1) hX; have HC5 : Hid (Tq w1 q15 D T1 n H H p hb d r t rt k ∧ q15.heap[X]? = some (.cells (inC x) 24 (0, 0))) := ⟨HI.out.1.on h8, h9⟩; clear h8 h9 h1)
          have H6 : Hid ((rMay x = true ∧ ∀ i, -9223372036854775808 ≤ x i ∧ x i ≤ 9223372036854775807) ∧ Tq w1 q15 D T1 n H H p hb d r t rt k ∧ q15.heap[X]? = some (.cells (inC x) 24 (0, 0))) := ⟨HRm.out, HC5.out⟩
          clear HC5 H5 H4 HRm HBr EL HLl a0 d0 e0 y0 a1 d1 e1 y1 a2 d2 e2 y2 a3 d3 e3 y3 a4 d4 e4 y4 a5 d5 e5 y5 a6 d6 e6 y6 a7 d7 e7 y7 a8 d8 e8 y8 a9 d9 e9 y9 a10 d10 e10 y10 a11 d11 e11 y11 a12 d12 e12 y12 a13 d13 e13 y13 a14 d14 e14 y14
          generalize q15 = wc at *
          have H5 := H6
          clear H6
          obtain ⟨c0, c1, c2, c3, c4, c7⟩ := HPc.out _ _ _ _ _ _ H5.out.2.1.pl
          have hac5 : wc.cell? ⟨ab, ao + k, none⟩ = some (.int .i64 (As k)) := ((HB0.out _ _ _ _ _ _ H5.out.2.1).cell (block_lt_of_cell hac)).trans hac
          obtain ⟨a, ha, ha1⟩ : ∃ a : Nat, As k % ((C - 1 : Nat) : Int) = (a : Int) ∧ a < C - 1 := by
            have h1 := Int.emod_nonneg (As k) (b := ((C - 1 : Nat) : Int)) (by omega)
            have h2 := Int.emod_lt_of_pos (As k) (b := ((C - 1 : Nat) : Int)) (by omega)
            exact ⟨(As k % ((C - 1 : Nat) : Int)).toNat, by omega, by omega⟩
          have HMa : Hid (∀ wx, Calls Tryd.prog 11 #[.int .i64 (As k), .int .i64 ((C - 1 : Nat) : Int)] wx fun e w' => e = .returned (.int .i64 (a : Int)) ∧ wx = w') := fun wx => by
            have := imod_any wx (As k) (C - 1) (by omega) (by omega)
            rw [ha] at this
            exact this
          have hC1 : (C : Int) - 1 = ((C - 1 : Nat) : Int) := by omega
          clear ha
          as_aux_lemma =>
          go_quiet (first | (go_at_call 11; refine Calls.quiet_of_same ((HMa.out _).mono fun _ _ h => ⟨h.1, h.2.symm⟩)))
          go_upto_region 14 with (fail)
          obtain ⟨wd, hwd⟩ : ∃ wd, wc.drewN nq = wd := ⟨_, rfl⟩
          have H6 : Hid (Tq w1 wd D T1 n H H p hb d r t rt k ∧ wd.heap[X]? = some (.cells (inC x) 24 (0, 0))) := by
            rw [← hwd]
            exact ⟨H5.out.2.1.on (drew7 wc nq), ((drew7 wc nq).block _ (heap_lt H5.out.2.2)).trans H5.out.2.2⟩
          rw [hwd]
          clear hwd c0 c1 c2 c3 c4 c7 hac5 HMa
          obtain ⟨K1, hK1⟩ : ∃ K1, 1 + a = K1 := ⟨_, rfl⟩
          have hK2 : (1 : Int) + (a : Int) = (K1 : Int) := by omega
          have hK3 : 1 ≤ K1 ∧ K1 < C := by omega
          have HPut : Hid (∀ wx, Below wd.heap.size wd wx → Calls Tryd.prog 14 #[.pointer (some ⟨t, 0, none⟩), .agg #[.int .i64 (n : Int), .int .i64 98, .int .i64 (gI n), .int .i64 (gD n), .int .i64 (C : Int)], .int .i64 (K1 : Int), .agg #[.int .i64 (x 0), .int .i64 (x 1), .int .i64 (x 2), .int .i64 (x 3), .int .i64 (x 4), .int .i64 (x 5), .int .i64 (x 6), .int .i64 (x 7), .int .i64 (x 8), .int .i64 (x 9), .int .i64 (x 10), .int .i64 (x 11), .int .i64 (x 12), .int .i64 (x 13), .int .i64 (x 14)]] wx fun e w' => e = .returned (.int .i64 0) ∧ ∃ T', Tq w1 w' D T' n (upR H K1 x) H p hb d r t rt (k + 1) ∧ w'.heap[X]? = some (.cells (inC x) 24 (0, 0))) := fun wx hB => by
            have q := H6.out.1.on hB
            have h9 := tput w1 wx D T1 n k H q.tb K1 hK3.1 (by rw [HC.out.2]; exact hK3.2) x H5.out.1.2 H5.out.1.1 (by omega) (by omega)
            unfold geoV at h9
            rw [HC.out.1, q.t] at h9
            refine h9.mono ?_
            rintro e w' ⟨rfl, T', ht', hb', hm'⟩
            refine ⟨rfl, T', q.mv (ht'.trans q.t.symm) hb' hm', hm'.fr.heap ((hB.block _ (heap_lt H6.out.2)).trans H6.out.2) (fun e => ?_)⟩
            have := HI.out.1.tb.spc.ses.tx.lt (.inl e)
            omega
          clear hK1
          obtain ⟨c0, c1, c2, c3, c4, c7⟩ := HPc.out _ _ _ _ _ _ H6.out.1.pl
          have hrx := H6.out.2
          have x0 : wd.cell? ⟨X, 0, none⟩ = some (.int .i64 (x 0)) := cell_of_row _ _ 0 _ _ _ hrx; have x1 : wd.cell? ⟨X, 1, none⟩ = some (.int .i64 (x 1)) := cell_of_row _ _ 1 _ _ _ hrx; have x2 : wd.cell? ⟨X, 2, none⟩ = some (.int .i64 (x 2)) := cell_of_row _ _ 2 _ _ _ hrx; have x3 : wd.cell? ⟨X, 3, none⟩ = some (.int .i64 (x 3)) := cell_of_row _ _ 3 _ _ _ hrx; have x4 : wd.cell? ⟨X, 4, none⟩ = some (.int .i64 (x 4)) := cell_of_row _ _ 4 _ _ _ hrx; have x5 : wd.cell? ⟨X, 5, none⟩ = some (.int .i64 (x 5)) := cell_of_row _ _ 5 _ _ _ hrx; have x6 : wd.cell? ⟨X, 6, none⟩ = some (.int .i64 (x 6)) := cell_of_row _ _ 6 _ _ _ hrx; have x7 : wd.cell? ⟨X, 7, none⟩ = some (.int .i64 (x 7)) := cell_of_row _ _ 7 _ _ _ hrx; have x8 : wd.cell? ⟨X, 8, none⟩ = some (.int .i64 (x 8)) := cell_of_row _ _ 8 _ _ _ hrx; have x9 : wd.cell? ⟨X, 9, none⟩ = some (.int .i64 (x 9)) := cell_of_row _ _ 9 _ _ _ hrx; have x10 : wd.cell? ⟨X, 10, none⟩ = some (.int .i64 (x 10)) := cell_of_row _ _ 10 _ _ _ hrx; have x11 : wd.cell? ⟨X, 11, none⟩ = some (.int .i64 (x 11)) := cell_of_row _ _ 11 _ _ _ hrx; have x12 : wd.cell? ⟨X, 12, none⟩ = some (.int .i64 (x 12)) := cell_of_row _ _ 12 _ _ _ hrx; have x13 : wd.cell? ⟨X, 13, none⟩ = some (.int .i64 (x 13)) := cell_of_row _ _ 13 _ _ _ hrx; have x14 : wd.cell? ⟨X, 14, none⟩ = some (.int .i64 (x 14)) := cell_of_row _ _ 14 _ _ _ hrx
          clear hrx
          have HDd : Hid (Below wd.heap.size wd wd.drew) := (Below.refl _ _).drew
          as_aux_lemma =>
          go_region_held3 (fun w' => w'.cell? ⟨p, 0, none⟩ = some (.int .i64 (n : Int)) ∧ w'.cell? ⟨p, 1, none⟩ = some (.int .i64 98) ∧ w'.cell? ⟨p, 2, none⟩ = some (.int .i64 (gI n)) ∧ w'.cell? ⟨p, 3, none⟩ = some (.int .i64 (gD n)) ∧ w'.cell? ⟨p, 4, none⟩ = some (.int .i64 (C : Int)) ∧ w'.cell? ⟨p, 7, none⟩ = some (.pointer (some ⟨t, 0, none⟩)) ∧ w'.cell? ⟨X, 0, none⟩ = some (.int .i64 (x 0)) ∧ w'.cell? ⟨X, 1, none⟩ = some (.int .i64 (x 1)) ∧ w'.cell? ⟨X, 2, none⟩ = some (.int .i64 (x 2)) ∧ w'.cell? ⟨X, 3, none⟩ = some (.int .i64 (x 3)) ∧ w'.cell? ⟨X, 4, none⟩ = some (.int .i64 (x 4)) ∧ w'.cell? ⟨X, 5, none⟩ = some (.int .i64 (x 5)) ∧ w'.cell? ⟨X, 6, none⟩ = some (.int .i64 (x 6)) ∧ w'.cell? ⟨X, 7, none⟩ = some (.int .i64 (x 7)) ∧ w'.cell? ⟨X, 8, none⟩ = some (.int .i64 (x 8)) ∧ w'.cell? ⟨X, 9, none⟩ = some (.int .i64 (x 9)) ∧ w'.cell? ⟨X, 10, none⟩ = some (.int .i64 (x 10)) ∧ w'.cell? ⟨X, 11, none⟩ = some (.int .i64 (x 11)) ∧ w'.cell? ⟨X, 12, none⟩ = some (.int .i64 (x 12)) ∧ w'.cell? ⟨X, 13, none⟩ = some (.int .i64 (x 13)) ∧ w'.cell? ⟨X, 14, none⟩ = some (.int .i64 (x 14))) (go_keep)
            (first | (go_at_call 14; refine (HPut.out _ (by first | exact HDd.out | exact Below.refl _ _)).mono ?_; rintro e w8 ⟨rfl, T2, h1, h2⟩; have H8 : Hid (Tq w1 w8 D T2 n (upR H K1 x) H p hb d r t rt (k + 1) ∧ w8.heap[X]? = some (.cells (inC x) 24 (0, 0))) := ⟨h1, h2⟩; obtain ⟨m0, m1, m2, m3, m4, m7⟩ := HPc.out _ _ _ _ _ _ h1.pl; have hrx := h2; have z0 : w8.cell? ⟨X, 0, none⟩ = some (.int .i64 (x 0)) := cell_of_row _ _ 0 _ _ _ hrx; have z1 : w8.cell? ⟨X, 1, none⟩ = some (.int .i64 (x 1)) := cell_of_row _ _ 1 _ _ _ hrx; have z2 : w8.cell? ⟨X, 2, none⟩ = some (.int .i64 (x 2)) := cell_of_row _ _ 2 _ _ _ hrx; have z3 : w8.cell? ⟨X, 3, none⟩ = some (.int .i64 (x 3)) := cell_of_row _ _ 3 _ _ _ hrx; have z4 : w8.cell? ⟨X, 4, none⟩ = some (.int .i64 (x 4)) := cell_of_row _ _ 4 _ _ _ hrx; have z5 : w8.cell? ⟨X, 5, none⟩ = some (.int .i64 (x 5)) := cell_of_row _ _ 5 _ _ _ hrx; have z6 : w8.cell? ⟨X, 6, none⟩ = some (.int .i64 (x 6)) := cell_of_row _ _ 6 _ _ _ hrx; have z7 : w8.cell? ⟨X, 7, none⟩ = some (.int .i64 (x 7)) := cell_of_row _ _ 7 _ _ _ hrx; have z8 : w8.cell? ⟨X, 8, none⟩ = some (.int .i64 (x 8)) := cell_of_row _ _ 8 _ _ _ hrx; have z9 : w8.cell? ⟨X, 9, none⟩ = some (.int .i64 (x 9)) := cell_of_row _ _ 9 _ _ _ hrx; have z10 : w8.cell? ⟨X, 10, none⟩ = some (.int .i64 (x 10)) := cell_of_row _ _ 10 _ _ _ hrx; have z11 : w8.cell? ⟨X, 11, none⟩ = some (.int .i64 (x 11)) := cell_of_row _ _ 11 _ _ _ hrx; have z12 : w8.cell? ⟨X, 12, none⟩ = some (.int .i64 (x 12)) := cell_of_row _ _ 12 _ _ _ hrx; have z13 : w8.cell? ⟨X, 13, none⟩ = some (.int .i64 (x 13)) := cell_of_row _ _ 13 _ _ _ hrx; have z14 : w8.cell? ⟨X, 14, none⟩ = some (.int .i64 (x 14)) := cell_of_row _ _ 14 _ _ _ hrx; clear h1 h2 hrx))
          all_goals
            have HV : Hid (HvAt w8 hb C H) := (by have := H8.out.1.hv; rw [HC.out.2] at this; exact this)
            obtain ⟨q1, q2, q3, q4, q5, q6, q7, q8, q9, q10, q11, q12, q13, q14, q15, v0, f0, y0, v1, f1, y1, v2, f2, y2, v3, f3, y3, v4, f4, y4, v5, f5, y5, v6, f6, y6, v7, f7, y7, v8, f8, y8, v9, f9, y9, v10, f10, y10, v11, f11, y11, v12, f12, y12, v13, f13, y13, v14, f14, y14, h8, h9⟩ := chainHv w8 hb C H K1 x HV.out hK3.2
            have H9 : Hid (Tq w1 q15 D T2 n (upR H K1 x) (upR H K1 x) p hb d r t rt (k + 1)) := H8.out.1.lay h8 (by rw [HC.out.2]; exact h9)
            clear h8 h9
            go_wp2
            exact ⟨⟨k + 1, T2, upR H K1 x, by omega, hlt, rfl, H9.out, by rw [upR_other _ _ (by omega)]; exact HI.out.2⟩, by simp [intOf]; omega⟩
        · as_aux_lemma =>
          have hl2 : ¬ (k : Int) < (ll : Int) := by omega
          go_upto_region 13 with (fail)
          obtain ⟨x, hx⟩ : ∃ x, z15 = x := ⟨_, rfl⟩
          have H5 : Hid ((rMay x = true ∧ ∀ i, -9223372036854775808 ≤ x i ∧ x i ≤ 9223372036854775807) ∧ Tq w1 w4 D T1 n H H p hb d r t rt k ∧ w4.heap[X]? = some (.cells (inC x) 24 (0, 0))) := by
            rw [← hx]
            exact ⟨⟨rMay_z15, fun i => by unfold z15; omega⟩, H4.out.1, H4.out.2⟩
          clear H4 hx
          generalize w4 = wc at *
          obtain ⟨c0, c1, c2, c3, c4, c7⟩ := HPc.out _ _ _ _ _ _ H5.out.2.1.pl
          have hac5 : wc.cell? ⟨ab, ao + k, none⟩ = some (.int .i64 (As k)) := ((HB0.out _ _ _ _ _ _ H5.out.2.1).cell (block_lt_of_cell hac)).trans hac
          obtain ⟨a, ha, ha1⟩ : ∃ a : Nat, As k % ((C - 1 : Nat) : Int) = (a : Int) ∧ a < C - 1 := by
            have h1 := Int.emod_nonneg (As k) (b := ((C - 1 : Nat) : Int)) (by omega)
            have h2 := Int.emod_lt_of_pos (As k) (b := ((C - 1 : Nat) : Int)) (by omega)
            exact ⟨(As k % ((C - 1 : Nat) : Int)).toNat, by omega, by omega⟩
          have HMa : Hid (∀ wx, Calls Tryd.prog 11 #[.int .i64 (As k), .int .i64 ((C - 1 : Nat) : Int)] wx fun e w' => e = .returned (.int .i64 (a : Int)) ∧ wx = w') := fun wx => by
            have := imod_any wx (As k) (C - 1) (by omega) (by omega)
            rw [ha] at this
            exact this
          have hC1 : (C : Int) - 1 = ((C - 1 : Nat) : Int) := by omega
          clear ha
          as_aux_lemma =>
          go_quiet (first | (go_at_call 11; refine Calls.quiet_of_same ((HMa.out _).mono fun _ _ h => ⟨h.1, h.2.symm⟩)))
          go_upto_region 14 with (fail)
          obtain ⟨wd, hwd⟩ : ∃ wd, wc.drewN nq = wd := ⟨_, rfl⟩
          have H6 : Hid (Tq w1 wd D T1 n H H p hb d r t rt k ∧ wd.heap[X]? = some (.cells (inC x) 24 (0, 0))) := by
            rw [← hwd]
            exact ⟨H5.out.2.1.on (drew7 wc nq), ((drew7 wc nq).block _ (heap_lt H5.out.2.2)).trans H5.out.2.2⟩
          rw [hwd]
          clear hwd c0 c1 c2 c3 c4 c7 hac5 HMa
          obtain ⟨K1, hK1⟩ : ∃ K1, 1 + a = K1 := ⟨_, rfl⟩
          have hK2 : (1 : Int) + (a : Int) = (K1 : Int) := by omega
          have hK3 : 1 ≤ K1 ∧ K1 < C := by omega
          have HPut : Hid (∀ wx, Below wd.heap.size wd wx → Calls Tryd.prog 14 #[.pointer (some ⟨t, 0, none⟩), .agg #[.int .i64 (n : Int), .int .i64 98, .int .i64 (gI n), .int .i64 (gD n), .int .i64 (C : Int)], .int .i64 (K1 : Int), .agg #[.int .i64 (x 0), .int .i64 (x 1), .int .i64 (x 2), .int .i64 (x 3), .int .i64 (x 4), .int .i64 (x 5), .int .i64 (x 6), .int .i64 (x 7), .int .i64 (x 8), .int .i64 (x 9), .int .i64 (x 10), .int .i64 (x 11), .int .i64 (x 12), .int .i64 (x 13), .int .i64 (x 14)]] wx fun e w' => e = .returned (.int .i64 0) ∧ ∃ T', Tq w1 w' D T' n (upR H K1 x) H p hb d r t rt (k + 1) ∧ w'.heap[X]? = some (.cells (inC x) 24 (0, 0))) := fun wx hB => by
            have q := H6.out.1.on hB
            have h9 := tput w1 wx D T1 n k H q.tb K1 hK3.1 (by rw [HC.out.2]; exact hK3.2) x H5.out.1.2 H5.out.1.1 (by omega) (by omega)
            unfold geoV at h9
            rw [HC.out.1, q.t] at h9
            refine h9.mono ?_
            rintro e w' ⟨rfl, T', ht', hb', hm'⟩
            refine ⟨rfl, T', q.mv (ht'.trans q.t.symm) hb' hm', hm'.fr.heap ((hB.block _ (heap_lt H6.out.2)).trans H6.out.2) (fun e => ?_)⟩
            have := HI.out.1.tb.spc.ses.tx.lt (.inl e)
            omega
          clear hK1
          obtain ⟨c0, c1, c2, c3, c4, c7⟩ := HPc.out _ _ _ _ _ _ H6.out.1.pl
          have hrx := H6.out.2
          have x0 : wd.cell? ⟨X, 0, none⟩ = some (.int .i64 (x 0)) := cell_of_row _ _ 0 _ _ _ hrx; have x1 : wd.cell? ⟨X, 1, none⟩ = some (.int .i64 (x 1)) := cell_of_row _ _ 1 _ _ _ hrx; have x2 : wd.cell? ⟨X, 2, none⟩ = some (.int .i64 (x 2)) := cell_of_row _ _ 2 _ _ _ hrx; have x3 : wd.cell? ⟨X, 3, none⟩ = some (.int .i64 (x 3)) := cell_of_row _ _ 3 _ _ _ hrx; have x4 : wd.cell? ⟨X, 4, none⟩ = some (.int .i64 (x 4)) := cell_of_row _ _ 4 _ _ _ hrx; have x5 : wd.cell? ⟨X, 5, none⟩ = some (.int .i64 (x 5)) := cell_of_row _ _ 5 _ _ _ hrx; have x6 : wd.cell? ⟨X, 6, none⟩ = some (.int .i64 (x 6)) := cell_of_row _ _ 6 _ _ _ hrx; have x7 : wd.cell? ⟨X, 7, none⟩ = some (.int .i64 (x 7)) := cell_of_row _ _ 7 _ _ _ hrx; have x8 : wd.cell? ⟨X, 8, none⟩ = some (.int .i64 (x 8)) := cell_of_row _ _ 8 _ _ _ hrx; have x9 : wd.cell? ⟨X, 9, none⟩ = some (.int .i64 (x 9)) := cell_of_row _ _ 9 _ _ _ hrx; have x10 : wd.cell? ⟨X, 10, none⟩ = some (.int .i64 (x 10)) := cell_of_row _ _ 10 _ _ _ hrx; have x11 : wd.cell? ⟨X, 11, none⟩ = some (.int .i64 (x 11)) := cell_of_row _ _ 11 _ _ _ hrx; have x12 : wd.cell? ⟨X, 12, none⟩ = some (.int .i64 (x 12)) := cell_of_row _ _ 12 _ _ _ hrx; have x13 : wd.cell? ⟨X, 13, none⟩ = some (.int .i64 (x 13)) := cell_of_row _ _ 13 _ _ _ hrx; have x14 : wd.cell? ⟨X, 14, none⟩ = some (.int .i64 (x 14)) := cell_of_row _ _ 14 _ _ _ hrx
          clear hrx
          have HDd : Hid (Below wd.heap.size wd wd.drew) := (Below.refl _ _).drew
          as_aux_lemma =>
          go_region_held3 (fun w' => w'.cell? ⟨p, 0, none⟩ = some (.int .i64 (n : Int)) ∧ w'.cell? ⟨p, 1, none⟩ = some (.int .i64 98) ∧ w'.cell? ⟨p, 2, none⟩ = some (.int .i64 (gI n)) ∧ w'.cell? ⟨p, 3, none⟩ = some (.int .i64 (gD n)) ∧ w'.cell? ⟨p, 4, none⟩ = some (.int .i64 (C : Int)) ∧ w'.cell? ⟨p, 7, none⟩ = some (.pointer (some ⟨t, 0, none⟩)) ∧ w'.cell? ⟨X, 0, none⟩ = some (.int .i64 (x 0)) ∧ w'.cell? ⟨X, 1, none⟩ = some (.int .i64 (x 1)) ∧ w'.cell? ⟨X, 2, none⟩ = some (.int .i64 (x 2)) ∧ w'.cell? ⟨X, 3, none⟩ = some (.int .i64 (x 3)) ∧ w'.cell? ⟨X, 4, none⟩ = some (.int .i64 (x 4)) ∧ w'.cell? ⟨X, 5, none⟩ = some (.int .i64 (x 5)) ∧ w'.cell? ⟨X, 6, none⟩ = some (.int .i64 (x 6)) ∧ w'.cell? ⟨X, 7, none⟩ = some (.int .i64 (x 7)) ∧ w'.cell? ⟨X, 8, none⟩ = some (.int .i64 (x 8)) ∧ w'.cell? ⟨X, 9, none⟩ = some (.int .i64 (x 9)) ∧ w'.cell? ⟨X, 10, none⟩ = some (.int .i64 (x 10)) ∧ w'.cell? ⟨X, 11, none⟩ = some (.int .i64 (x 11)) ∧ w'.cell? ⟨X, 12, none⟩ = some (.int .i64 (x 12)) ∧ w'.cell? ⟨X, 13, none⟩ = some (.int .i64 (x 13)) ∧ w'.cell? ⟨X, 14, none⟩ = some (.int .i64 (x 14))) (go_keep)
            (first | (go_at_call 14; refine (HPut.out _ (by first | exact HDd.out | exact Below.refl _ _)).mono ?_; rintro e w8 ⟨rfl, T2, h1, h2⟩; have H8 : Hid (Tq w1 w8 D T2 n (upR H K1 x) H p hb d r t rt (k + 1) ∧ w8.heap[X]? = some (.cells (inC x) 24 (0, 0))) := ⟨h1, h2⟩; obtain ⟨m0, m1, m2, m3, m4, m7⟩ := HPc.out _ _ _ _ _ _ h1.pl; have hrx := h2; have z0 : w8.cell? ⟨X, 0, none⟩ = some (.int .i64 (x 0)) := cell_of_row _ _ 0 _ _ _ hrx; have z1 : w8.cell? ⟨X, 1, none⟩ = some (.int .i64 (x 1)) := cell_of_row _ _ 1 _ _ _ hrx; have z2 : w8.cell? ⟨X, 2, none⟩ = some (.int .i64 (x 2)) := cell_of_row _ _ 2 _ _ _ hrx; have z3 : w8.cell? ⟨X, 3, none⟩ = some (.int .i64 (x 3)) := cell_of_row _ _ 3 _ _ _ hrx; have z4 : w8.cell? ⟨X, 4, none⟩ = some (.int .i64 (x 4)) := cell_of_row _ _ 4 _ _ _ hrx; have z5 : w8.cell? ⟨X, 5, none⟩ = some (.int .i64 (x 5)) := cell_of_row _ _ 5 _ _ _ hrx; have z6 : w8.cell? ⟨X, 6, none⟩ = some (.int .i64 (x 6)) := cell_of_row _ _ 6 _ _ _ hrx; have z7 : w8.cell? ⟨X, 7, none⟩ = some (.int .i64 (x 7)) := cell_of_row _ _ 7 _ _ _ hrx; have z8 : w8.cell? ⟨X, 8, none⟩ = some (.int .i64 (x 8)) := cell_of_row _ _ 8 _ _ _ hrx; have z9 : w8.cell? ⟨X, 9, none⟩ = some (.int .i64 (x 9)) := cell_of_row _ _ 9 _ _ _ hrx; have z10 : w8.cell? ⟨X, 10, none⟩ = some (.int .i64 (x 10)) := cell_of_row _ _ 10 _ _ _ hrx; have z11 : w8.cell? ⟨X, 11, none⟩ = some (.int .i64 (x 11)) := cell_of_row _ _ 11 _ _ _ hrx; have z12 : w8.cell? ⟨X, 12, none⟩ = some (.int .i64 (x 12)) := cell_of_row _ _ 12 _ _ _ hrx; have z13 : w8.cell? ⟨X, 13, none⟩ = some (.int .i64 (x 13)) := cell_of_row _ _ 13 _ _ _ hrx; have z14 : w8.cell? ⟨X, 14, none⟩ = some (.int .i64 (x 14)) := cell_of_row _ _ 14 _ _ _ hrx; clear h1 h2 hrx))
          all_goals
            have HV : Hid (HvAt w8 hb C H) := (by have := H8.out.1.hv; rw [HC.out.2] at this; exact this)
            obtain ⟨q1, q2, q3, q4, q5, q6, q7, q8, q9, q10, q11, q12, q13, q14, q15, v0, f0, y0, v1, f1, y1, v2, f2, y2, v3, f3, y3, v4, f4, y4, v5, f5, y5, v6, f6, y6, v7, f7, y7, v8, f8, y8, v9, f9, y9, v10, f10, y10, v11, f11, y11, v12, f12, y12, v13, f13, y13, v14, f14, y14, h8, h9⟩ := chainHv w8 hb C H K1 x HV.out hK3.2
            have H9 : Hid (Tq w1 q15 D T2 n (upR H K1 x) (upR H K1 x) p hb d r t rt (k + 1)) := H8.out.1.lay h8 (by rw [HC.out.2]; exact h9)
            clear h8 h9
            go_wp2
            exact ⟨⟨k + 1, T2, upR H K1 x, by omega, hlt, rfl, H9.out, by rw [upR_other _ _ (by omega)]; exact HI.out.2⟩, by simp [intOf]; omega⟩
      · rcases (show al ≤ k ∨ (k < al ∧ k = 40) by omega) with h9 | ⟨h9, h8⟩
        · have h7 : ¬ (k : Int) < (al : Int) := by omega
          go_wp2
          go_meet
          case rel => exact ⟨k, T1, H, hk4, HI.out.1, HI.out.2⟩
        · subst h8
          have h7 : (40 : Int) < (al : Int) := by omega
          go_wp2
          go_meet
          case rel => exact ⟨40, T1, H, hk4, HI.out.1, HI.out.2⟩
  case rest =>
  obtain ⟨kk, T1, H, hk4, hq, hH0⟩ := hcut
  generalize wc = wL at *
  have HQ : Hid (Tq w1 wL D T1 n H H p hb d r t rt (kk) ∧ H 0 = z15) := ⟨hq, hH0⟩
  clear hq hH0 H3
  obtain ⟨f, hf⟩ : ∃ f : Nat → Bool, f = fun k => isFr (H k) := ⟨_, rfl⟩
  have HFf : Hid (f = fun k => isFr (H k)) := hf
  clear hf
  have hcf : cf f C ≤ C := cf_le f C
  have hC1 : (C : Int) - 1 = ((C - 1 : Nat) : Int) := by omega
  have HGe : Hid (∀ (k : Nat) (wx : World), 1 ≤ k → k < C → Below wL.heap.size wL wx → Calls Tryd.prog 15 #[.pointer (some ⟨t, 0, none⟩), .agg #[.int .i64 (n : Int), .int .i64 98, .int .i64 (gI n), .int .i64 (gD n), .int .i64 (C : Int)], .int .i64 (k : Int)] wx fun e w' => e = .returned (.tuple #[.agg #[.int .i64 (H k 0), .int .i64 (H k 1), .int .i64 (H k 2), .int .i64 (H k 3), .int .i64 (H k 4), .int .i64 (H k 5), .int .i64 (H k 6), .int .i64 (H k 7), .int .i64 (H k 8), .int .i64 (H k 9), .int .i64 (H k 10), .int .i64 (H k 11), .int .i64 (H k 12), .int .i64 (H k 13), .int .i64 (H k 14)], .int .i64 0]) ∧ Below wx.heap.size wx w') := fun k wx h1 h2 hB => by
    have q := HQ.out.1.on hB
    have h9 := tget w1 wx D T1 n (kk) H q.tb k h1 (by rw [HC.out.2]; exact h2)
    unfold geoV at h9
    rw [HC.out.1, q.t] at h9
    exact h9
  have HKd : Hid (∀ k, 1 ≤ k → k < C → f k = decide (H k 0 = 0)) := fun k h1 h2 => by
    rw [HFf.out]
    exact kind_free (HQ.out.1.tb.tbl k h1 (by rw [HC.out.2]; exact h2)).1
  obtain ⟨c0, c1, c2, c3, c4, c7⟩ := HPc.out _ _ _ _ _ _ HQ.out.1.pl
  go_upto_block 2 with (fail)
  clear c0 c1 c2 c3 c4 c7
  go_cut [13, 14] (fun s13 s14 wx => s13 = .int .i64 ((cf f C : Nat) : Int) ∧ (∃ low : Nat, s14 = .int .i64 (low : Int) ∧ Lw f C low) ∧ Below wL.heap.size wL wx)
  case first => as_aux_lemma =>
    go_wp2
    go_loopw [13, 14, 15] (fun s13 s14 s15 wr => ∃ (k low : Nat), k ≤ C - 1 ∧ s15 = .int .i64 (k : Int) ∧ s13 = .int .i64 ((cg f C k : Nat) : Int) ∧ s14 = .int .i64 (low : Int) ∧ LwK f C k low ∧ Below wL.heap.size wL wr) (fun _ _ s15 _ => (intOf s15).toNat)
    case atStart => exact ⟨C - 1, 0, Nat.le_refl _, rfl, by rw [cg_top f C (by omega)]; rfl, rfl, LwK.start f C, Below.refl _ _⟩
    case round =>
      obtain ⟨k, low, hk, rfl, rfl, rfl, hL, hI⟩ := hrel
      have HI : Hid (Below wL.heap.size wL wr ∧ LwK f C k low) := ⟨hI, hL⟩
      clear hI hL
      by_cases hk0 : k = 0
      · subst hk0
        go_wp2
        go_meet
        case rel => exact ⟨by rw [cg_zero], ⟨low, rfl, HI.out.2.low⟩, HI.out.1⟩
      · obtain ⟨k', rfl⟩ : ∃ k', k = k' + 1 := ⟨k - 1, by omega⟩
        obtain ⟨K, hK⟩ : ∃ K, k' + 1 = K := ⟨_, rfl⟩
        have HKk : Hid (k' + 1 = K) := hK
        have hK1 : (K : Int) - 1 = (k' : Int) := by omega
        have hK2 : (0 : Int) < (K : Int) := by omega
        have hK3 : 1 ≤ K ∧ K < C := by omega
        rw [hK]
        rw [hK] at HI
        clear hK hk hk0
        have HGk : Hid (∀ wx, Below wr.heap.size wr wx → Calls Tryd.prog 15 #[.pointer (some ⟨t, 0, none⟩), .agg #[.int .i64 (n : Int), .int .i64 98, .int .i64 (gI n), .int .i64 (gD n), .int .i64 (C : Int)], .int .i64 (K : Int)] wx fun e w' => e = .returned (.tuple #[.agg #[.int .i64 (H K 0), .int .i64 (H K 1), .int .i64 (H K 2), .int .i64 (H K 3), .int .i64 (H K 4), .int .i64 (H K 5), .int .i64 (H K 6), .int .i64 (H K 7), .int .i64 (H K 8), .int .i64 (H K 9), .int .i64 (H K 10), .int .i64 (H K 11), .int .i64 (H K 12), .int .i64 (H K 13), .int .i64 (H K 14)], .int .i64 0]) ∧ Below wx.heap.size wx w') := fun wx hB => HGe.out K wx hK3.1 hK3.2 (HI.out.1.trans (hB.mono HI.out.1.size))
        have hfK := HKd.out K hK3.1 hK3.2
        have hcg : cg f C K ≤ C := cg_le f C K
        obtain ⟨cc, hcc⟩ : ∃ cc, cg f C K = cc := ⟨_, rfl⟩
        have HCc : Hid (cg f C K = cc) := hcc
        rw [hcc] at hcg
        rw [hcc]
        clear hcc
        have HCy : Hid (f K = true → cg f C k' = cc + 1) := fun h => by rw [← HCc.out, ← HKk.out]; rw [← HKk.out] at h; exact cg_yes (by have := HKk.out; omega) h
        have HCn : Hid (f K = false → cg f C k' = cc) := fun h => by rw [← HCc.out, ← HKk.out]; rw [← HKk.out] at h; exact cg_no h
        have HVr : Hid (∀ wx, Below wr.heap.size wr wx → HvAt wx hb C H) := fun wx hB => by
          have := (HQ.out.1.on (HI.out.1.trans (hB.mono HI.out.1.size))).hv
          rw [HC.out.2] at this
          exact this
        have HPr : Hid (∀ wx, Below wr.heap.size wr wx → PlAt wx p n d r t rt) := fun wx hB => (HQ.out.1.on (HI.out.1.trans (hB.mono HI.out.1.size))).pl
        have HLy : Hid (f K = true → LwK f C k' K) := fun h => (by have := HI.out.2; rw [← HKk.out] at this h ⊢; exact this.yes (by omega) h)
        have HLn : Hid (f K = false → LwK f C k' low) := fun h => (by have := HI.out.2; rw [← HKk.out] at this h; exact this.no h)
        obtain ⟨c0, c1, c2, c3, c4, c7⟩ := HPc.out _ _ _ _ _ _ (HPr.out _ (Below.refl _ _))
        have HDd : Hid (Below wr.heap.size wr wr.drew) := (Below.refl _ _).drew
        go_upto_region 22 with (fail)
        go_cut [16, 17] from 99 to 131 (fun s16 s17 wx => ∃ X : Nat, s16 = .pointer (some ⟨X, 0, none⟩) ∧ s17 = .int .i64 0 ∧ Below wr.heap.size wr wx ∧ wx.heap[X]? = some (.cells (inC (H K)) 24 (0, 0)))
        case first => as_aux_lemma =>
          clear hfK HLy HLn HVr HCy HCn HCc
          have hpX1 : ¬ wr.heap.size = p := by have := heap_lt (HPr.out _ (Below.refl _ _)); omega
          have hpX2 : ¬ p = wr.heap.size := fun e => hpX1 e.symm
          have HDA : Hid (∀ o, Below wr.heap.size wr (wr.alloc o).drew) := fun o => ((Below.refl _ _).alloc (Nat.le_refl _) o).drew
          have HDB : Hid (∀ o, Below wr.heap.size wr (wr.drew.alloc o)) := fun o => HDd.out.alloc HDd.out.size o
          have HDC : Hid (∀ o, Below wr.heap.size wr (wr.alloc o)) := fun o => (Below.refl _ _).alloc (Nat.le_refl _) o
          have HS : Hid (∀ wx, Below wr.heap.size wr wx → (fun w' => w'.cell? ⟨p, 0, none⟩ = some (.int .i64 (n : Int)) ∧ w'.cell? ⟨p, 1, none⟩ = some (.int .i64 98) ∧ w'.cell? ⟨p, 2, none⟩ = some (.int .i64 (gI n)) ∧ w'.cell? ⟨p, 3, none⟩ = some (.int .i64 (gD n)) ∧ w'.cell? ⟨p, 4, none⟩ = some (.int .i64 (C : Int)) ∧ w'.cell? ⟨p, 7, none⟩ = some (.pointer (some ⟨t, 0, none⟩))) wx) := fun wx hB => HPc.out _ _ _ _ _ _ (HPr.out _ hB)
          have HG2 : Hid (∀ wx, Below wr.heap.size wr wx → Calls Tryd.prog 15 #[.pointer (some ⟨t, 0, none⟩), .agg #[.int .i64 (n : Int), .int .i64 98, .int .i64 (gI n), .int .i64 (gD n), .int .i64 (C : Int)], .int .i64 (K : Int)] wx fun e w' => e = .returned (.tuple #[.agg #[.int .i64 (H K 0), .int .i64 (H K 1), .int .i64 (H K 2), .int .i64 (H K 3), .int .i64 (H K 4), .int .i64 (H K 5), .int .i64 (H K 6), .int .i64 (H K 7), .int .i64 (H K 8), .int .i64 (H K 9), .int .i64 (H K 10), .int .i64 (H K 11), .int .i64 (H K 12), .int .i64 (H K 13), .int .i64 (H K 14)], .int .i64 0]) ∧ Below wr.heap.size wr w' ∧ ∀ b, b < wx.heap.size → w'.heap[b]? = wx.heap[b]?) := fun wx hB => (HGk.out wx hB).mono fun e w' h => ⟨h.1, hB.trans (h.2.mono hB.size), fun b hb => h.2.block b hb⟩
          have HGa : Hid (Calls Tryd.prog 15 #[.pointer (some ⟨t, 0, none⟩), .agg #[.int .i64 (n : Int), .int .i64 98, .int .i64 (gI n), .int .i64 (gD n), .int .i64 (C : Int)], .int .i64 (K : Int)] wr.drew fun e w' => e = .returned (.tuple #[.agg #[.int .i64 (H K 0), .int .i64 (H K 1), .int .i64 (H K 2), .int .i64 (H K 3), .int .i64 (H K 4), .int .i64 (H K 5), .int .i64 (H K 6), .int .i64 (H K 7), .int .i64 (H K 8), .int .i64 (H K 9), .int .i64 (H K 10), .int .i64 (H K 11), .int .i64 (H K 12), .int .i64 (H K 13), .int .i64 (H K 14)], .int .i64 0]) ∧ Below wr.heap.size wr w') := (HG2.out _ HDd.out).mono fun e w' h => ⟨h.1, h.2.1⟩
          have HGb : Hid (∀ o : Unit, Calls Tryd.prog 15 #[.pointer (some ⟨t, 0, none⟩), .agg #[.int .i64 (n : Int), .int .i64 98, .int .i64 (gI n), .int .i64 (gD n), .int .i64 (C : Int)], .int .i64 (K : Int)] (wr.alloc (.cells #[.int .i64 0, .int .i64 0, .int .i64 0, .int .i64 0, .int .i64 0, .int .i64 0, .int .i64 0, .int .i64 0, .int .i64 0, .int .i64 0, .int .i64 0, .int .i64 0, .int .i64 0, .int .i64 0, .int .i64 0] 24)).drew fun e w' => e = .returned (.tuple #[.agg #[.int .i64 (H K 0), .int .i64 (H K 1), .int .i64 (H K 2), .int .i64 (H K 3), .int .i64 (H K 4), .int .i64 (H K 5), .int .i64 (H K 6), .int .i64 (H K 7), .int .i64 (H K 8), .int .i64 (H K 9), .int .i64 (H K 10), .int .i64 (H K 11), .int .i64 (H K 12), .int .i64 (H K 13), .int .i64 (H K 14)], .int .i64 0]) ∧ Below wr.heap.size wr w' ∧ w'.heap[wr.heap.size]? = some (.cells #[.int .i64 0, .int .i64 0, .int .i64 0, .int .i64 0, .int .i64 0, .int .i64 0, .int .i64 0, .int .i64 0, .int .i64 0, .int .i64 0, .int .i64 0, .int .i64 0, .int .i64 0, .int .i64 0, .int .i64 0] 24 (0, 0))) := fun _ => (HG2.out _ (HDA.out _)).mono fun e w' h => ⟨h.1, h.2.1, (h.2.2 wr.heap.size (by simp)).trans (heap_alloc_new wr _)⟩
          clear HGk HPr HPc HB0 HGe HKd
          go_region_held3 (fun w' => w'.cell? ⟨p, 0, none⟩ = some (.int .i64 (n : Int)) ∧ w'.cell? ⟨p, 1, none⟩ = some (.int .i64 98) ∧ w'.cell? ⟨p, 2, none⟩ = some (.int .i64 (gI n)) ∧ w'.cell? ⟨p, 3, none⟩ = some (.int .i64 (gD n)) ∧ w'.cell? ⟨p, 4, none⟩ = some (.int .i64 (C : Int)) ∧ w'.cell? ⟨p, 7, none⟩ = some (.pointer (some ⟨t, 0, none⟩))) (with_reducible (first
            | exact HS.out _ H6.out.1
            | exact HS.out _ H5.out
            | exact HS.out _ (Below.refl _ _)
            | exact HS.out _ HDd.out
            | exact HS.out _ (HDA.out _)
            | exact HS.out _ (HDB.out _)
            | exact HS.out _ (HDC.out _)
            | exact HS.out _ (H5.out.alloc H5.out.size _)
            | exact HS.out _ H5.out.drew))
            (first
              | (go_at_call 15; (with_reducible show Calls _ _ _ (World.drew wr) _); refine HGa.out.mono ?_; rintro e w5 ⟨rfl, h1⟩; have H5 : Hid (Below wr.heap.size wr w5) := h1; clear h1)
              | (go_at_call 15; (with_reducible show Calls _ _ _ (World.drew (World.alloc _ _)) _); refine (HGb.out ()).mono ?_; rintro e w5 ⟨rfl, h1, hr9⟩; have H5 : Hid (Below wr.heap.size wr w5) := h1; clear h1; obtain ⟨X, hX⟩ : ∃ X, wr.heap.size = X := ⟨_, rfl⟩; rw [hX] at hr9; rw [hX]; obtain ⟨q1, q2, q3, q4, q5, q6, q7, q8, q9, q10, q11, q12, q13, q14, q15, d0, e0, y0, d1, e1, y1, d2, e2, y2, d3, e3, y3, d4, e4, y4, d5, e5, y5, d6, e6, y6, d7, e7, y7, d8, e8, y8, d9, e9, y9, d10, e10, y10, d11, e11, y11, d12, e12, y12, d13, e13, y13, d14, e14, y14, h1, h2⟩ := chain15 wr w5 X (H K) hr9 H5.out hX; have H6 : Hid (Below wr.heap.size wr q15 ∧ q15.heap[X]? = some (.cells (inC (H K)) 24 (0, 0))) := ⟨h1, h2⟩; clear hr9 h1 h2 hX)
              | fail)
          all_goals
            go_wp2
            first
              | (have H6q := H6.out
                 go_meet
                 case rel => exact ⟨_, rfl, rfl, H6q.1, H6q.2⟩)
              | (obtain ⟨w6, hw6⟩ : ∃ w6, w5.alloc (.cells #[.int .i64 (H K 0), .int .i64 (H K 1), .int .i64 (H K 2), .int .i64 (H K 3), .int .i64 (H K 4), .int .i64 (H K 5), .int .i64 (H K 6), .int .i64 (H K 7), .int .i64 (H K 8), .int .i64 (H K 9), .int .i64 (H K 10), .int .i64 (H K 11), .int .i64 (H K 12), .int .i64 (H K 13), .int .i64 (H K 14)] 24) = w6 := ⟨_, rfl⟩
                 obtain ⟨X, hX⟩ : ∃ X, w5.heap.size = X := ⟨_, rfl⟩
                 have H6 : Hid (Below wr.heap.size wr w6 ∧ w6.heap[X]? = some (.cells (inC (H K)) 24 (0, 0))) := (by rw [← hw6, ← hX]; exact ⟨H5.out.alloc H5.out.size _, heap_alloc_new _ _⟩)
                 rw [hw6, hX]
                 clear hw6 hX
                 go_meet
                 case rel => exact ⟨X, rfl, rfl, H6.out.1, H6.out.2⟩)
        case rest =>
        obtain ⟨X, rfl, rfl, hc1, hc2⟩ := hcut
        have H6 : Hid (Below wr.heap.size wr wc ∧ wc.heap[X]? = some (.cells (inC (H K)) 24 (0, 0))) := ⟨hc1, hc2⟩
        clear hc1 hc2 HGk HPr c0 c1 c2 c3 c4 c7 HDd
        generalize wc = w6 at *
        have HV6 : Hid (HvAt w6 hb C H) := HVr.out _ H6.out.1
        have EN : ∀ w, (binOp .neq 24 (.agg #[.int .i64 (H K 0), .int .i64 (H K 1), .int .i64 (H K 2), .int .i64 (H K 3), .int .i64 (H K 4), .int .i64 (H K 5), .int .i64 (H K 6), .int .i64 (H K 7), .int .i64 (H K 8), .int .i64 (H K 9), .int .i64 (H K 10), .int .i64 (H K 11), .int .i64 (H K 12), .int .i64 (H K 13), .int .i64 (H K 14)]) (.agg #[.int .i64 (H K 0), .int .i64 (H K 1), .int .i64 (H K 2), .int .i64 (H K 3), .int .i64 (H K 4), .int .i64 (H K 5), .int .i64 (H K 6), .int .i64 (H K 7), .int .i64 (H K 8), .int .i64 (H K 9), .int .i64 (H K 10), .int .i64 (H K 11), .int .i64 (H K 12), .int .i64 (H K 13), .int .i64 (H K 14)])).run Tryd.prog w = .ok (.bool false) w := fun w => by
          have := neqI w (H K) (H K)
          rw [smB_iff.2 Sm.rfl] at this
          exact this
        have x0 : w6.cell? ⟨X, 0, none⟩ = some (.int .i64 (H K 0)) := cell_of_row _ _ 0 _ _ _ H6.out.2; have x1 : w6.cell? ⟨X, 1, none⟩ = some (.int .i64 (H K 1)) := cell_of_row _ _ 1 _ _ _ H6.out.2; have x2 : w6.cell? ⟨X, 2, none⟩ = some (.int .i64 (H K 2)) := cell_of_row _ _ 2 _ _ _ H6.out.2; have x3 : w6.cell? ⟨X, 3, none⟩ = some (.int .i64 (H K 3)) := cell_of_row _ _ 3 _ _ _ H6.out.2; have x4 : w6.cell? ⟨X, 4, none⟩ = some (.int .i64 (H K 4)) := cell_of_row _ _ 4 _ _ _ H6.out.2; have x5 : w6.cell? ⟨X, 5, none⟩ = some (.int .i64 (H K 5)) := cell_of_row _ _ 5 _ _ _ H6.out.2; have x6 : w6.cell? ⟨X, 6, none⟩ = some (.int .i64 (H K 6)) := cell_of_row _ _ 6 _ _ _ H6.out.2; have x7 : w6.cell? ⟨X, 7, none⟩ = some (.int .i64 (H K 7)) := cell_of_row _ _ 7 _ _ _ H6.out.2; have x8 : w6.cell? ⟨X, 8, none⟩ = some (.int .i64 (H K 8)) := cell_of_row _ _ 8 _ _ _ H6.out.2; have x9 : w6.cell? ⟨X, 9, none⟩ = some (.int .i64 (H K 9)) := cell_of_row _ _ 9 _ _ _ H6.out.2; have x10 : w6.cell? ⟨X, 10, none⟩ = some (.int .i64 (H K 10)) := cell_of_row _ _ 10 _ _ _ H6.out.2; have x11 : w6.cell? ⟨X, 11, none⟩ = some (.int .i64 (H K 11)) := cell_of_row _ _ 11 _ _ _ H6.out.2; have x12 : w6.cell? ⟨X, 12, none⟩ = some (.int .i64 (H K 12)) := cell_of_row _ _ 12 _ _ _ H6.out.2; have x13 : w6.cell? ⟨X, 13, none⟩ = some (.int .i64 (H K 13)) := cell_of_row _ _ 13 _ _ _ H6.out.2; have x14 : w6.cell? ⟨X, 14, none⟩ = some (.int .i64 (H K 14)) := cell_of_row _ _ 14 _ _ _ H6.out.2
        have v0 : w6.cell? ⟨hb, K * 15, none⟩ = some (.int .i64 (H K 0)) := HV6.out.cell K 0 hK3.2 (by omega); have v1 : w6.cell? ⟨hb, K * 15 + 1, none⟩ = some (.int .i64 (H K 1)) := HV6.out.cell K 1 hK3.2 (by omega); have v2 : w6.cell? ⟨hb, K * 15 + 2, none⟩ = some (.int .i64 (H K 2)) := HV6.out.cell K 2 hK3.2 (by omega); have v3 : w6.cell? ⟨hb, K * 15 + 3, none⟩ = some (.int .i64 (H K 3)) := HV6.out.cell K 3 hK3.2 (by omega); have v4 : w6.cell? ⟨hb, K * 15 + 4, none⟩ = some (.int .i64 (H K 4)) := HV6.out.cell K 4 hK3.2 (by omega); have v5 : w6.cell? ⟨hb, K * 15 + 5, none⟩ = some (.int .i64 (H K 5)) := HV6.out.cell K 5 hK3.2 (by omega); have v6 : w6.cell? ⟨hb, K * 15 + 6, none⟩ = some (.int .i64 (H K 6)) := HV6.out.cell K 6 hK3.2 (by omega); have v7 : w6.cell? ⟨hb, K * 15 + 7, none⟩ = some (.int .i64 (H K 7)) := HV6.out.cell K 7 hK3.2 (by omega); have v8 : w6.cell? ⟨hb, K * 15 + 8, none⟩ = some (.int .i64 (H K 8)) := HV6.out.cell K 8 hK3.2 (by omega); have v9 : w6.cell? ⟨hb, K * 15 + 9, none⟩ = some (.int .i64 (H K 9)) := HV6.out.cell K 9 hK3.2 (by omega); have v10 : w6.cell? ⟨hb, K * 15 + 10, none⟩ = some (.int .i64 (H K 10)) := HV6.out.cell K 10 hK3.2 (by omega); have v11 : w6.cell? ⟨hb, K * 15 + 11, none⟩ = some (.int .i64 (H K 11)) := HV6.out.cell K 11 hK3.2 (by omega); have v12 : w6.cell? ⟨hb, K * 15 + 12, none⟩ = some (.int .i64 (H K 12)) := HV6.out.cell K 12 hK3.2 (by omega); have v13 : w6.cell? ⟨hb, K * 15 + 13, none⟩ = some (.int .i64 (H K 13)) := HV6.out.cell K 13 hK3.2 (by omega); have v14 : w6.cell? ⟨hb, K * 15 + 14, none⟩ = some (.int .i64 (H K 14)) := HV6.out.cell K 14 hK3.2 (by omega)
        go_upto_region 23 with (fail)
        go_quiet (fail)
        go_upto_region 25 with (fail)
        obtain ⟨w7, hw7⟩ : ∃ w7, w6.drewN nq = w7 := ⟨_, rfl⟩
        have H7 : Hid (Below wr.heap.size wr w7 ∧ w7.heap[X]? = some (.cells (inC (H K)) 24 (0, 0))) := by
          rw [← hw7]
          exact ⟨H6.out.1.trans ((drew7 w6 _).mono H6.out.1.size), ((drew7 w6 _).block _ (heap_lt H6.out.2)).trans H6.out.2⟩
        rw [hw7]
        have y0 : w7.cell? ⟨X, 0, none⟩ = some (.int .i64 (H K 0)) := cell_of_row _ _ 0 _ _ _ H7.out.2
        clear hw7 EN HV6 HVr H6 x0 v0 x1 v1 x2 v2 x3 v3 x4 v4 x5 v5 x6 v6 x7 v7 x8 v8 x9 v9 x10 v10 x11 v11 x12 v12 x13 v13 x14 v14
        obtain ⟨hk0v, hhk⟩ : ∃ z, H K 0 = z := ⟨_, rfl⟩
        rw [hhk] at y0 hfK
        clear hhk
        by_cases hfk : f K = true
        · rw [hfk] at hfK
          have hz0 : (hk0v == 0) = true := by rw [of_decide_eq_true hfK.symm]; rfl
          have H9 : Hid (LwK f C k' K ∧ cg f C k' = cc + 1) := ⟨HLy.out hfk, HCy.out hfk⟩
          clear hfK hfk HLn HLy HCn HCy
          have hcc3 : (cc : Int) ≤ 1000 := by omega
          go_wp2
          exact ⟨⟨k', K, by omega, rfl, by rw [H9.out.2]; rfl, rfl, H9.out.1, HI.out.1.trans (H7.out.1.mono HI.out.1.size)⟩, by simp [intOf]; omega⟩
        · have hfk : f K = false := Bool.eq_false_iff.2 hfk
          rw [hfk] at hfK
          have hz0 : (hk0v == 0) = false := by have := of_decide_eq_false hfK.symm; simp [this]
          have H9 : Hid (LwK f C k' low ∧ cg f C k' = cc) := ⟨HLn.out hfk, HCn.out hfk⟩
          clear hfK hfk HLn HLy HCn HCy
          go_wp2
          exact ⟨⟨k', low, by omega, rfl, by rw [H9.out.2], rfl, H9.out.1, HI.out.1.trans (H7.out.1.mono HI.out.1.size)⟩, by simp [intOf]; omega⟩
  case rest =>
  obtain ⟨rfl, ⟨low0, rfl, hLw⟩, hB2⟩ := hcut
  generalize wc = wM at *
  have HQ2 : Hid (Tq w1 wM D T1 n H H p hb d r t rt (kk) ∧ H 0 = z15 ∧ Lw (fun k => isFr (H k)) C low0) := ⟨HQ.out.1.on hB2, HQ.out.2, by rw [← HFf.out]; exact hLw⟩
  obtain ⟨N0, hN0⟩ : ∃ N0, cf f C = N0 := ⟨_, rfl⟩
  have HN0 : Hid (cf (fun k => isFr (H k)) C = N0) := by rw [← HFf.out]; exact hN0
  rw [hN0]
  rw [hN0] at hcf
  clear hN0 hLw hB2 HQ HGe HKd HFf
  have HFr : Hid (∀ wx, Below wM.heap.size wM wx → Calls Tryd.prog 16 #[.pointer (some ⟨t, 0, none⟩), .agg #[.int .i64 (n : Int), .int .i64 98, .int .i64 (gI n), .int .i64 (gD n), .int .i64 (C : Int)]] wx fun e w' => e = .returned (.tuple #[.int .i64 (N0 : Int), .int .i64 0]) ∧ Below wx.heap.size wx w') := fun wx hB => by
    have q := HQ2.out.1.on hB
    have h9 := tfree w1 wx D T1 n kk H q.tb
    unfold geoV at h9
    rw [HC.out.2, HC.out.1, q.t, HN0.out] at h9
    exact h9
  obtain ⟨c0, c1, c2, c3, c4, c7⟩ := HPc.out _ _ _ _ _ _ HQ2.out.1.pl
  have HDd : Hid (Below wM.heap.size wM wM.drew) := (Below.refl _ _).drew
  go_upto_region 28 with (fail)
  go_cut [18, 19] (fun s18 s19 wx => s18 = .int .i64 (N0 : Int) ∧ s19 = .int .i64 0 ∧ Below wM.heap.size wM wx)
  case first => as_aux_lemma =>
    go_region_held3 (fun w' => w'.cell? ⟨p, 0, none⟩ = some (.int .i64 (n : Int)) ∧ w'.cell? ⟨p, 1, none⟩ = some (.int .i64 98) ∧ w'.cell? ⟨p, 2, none⟩ = some (.int .i64 (gI n)) ∧ w'.cell? ⟨p, 3, none⟩ = some (.int .i64 (gD n)) ∧ w'.cell? ⟨p, 4, none⟩ = some (.int .i64 (C : Int)) ∧ w'.cell? ⟨p, 7, none⟩ = some (.pointer (some ⟨t, 0, none⟩))) (go_keep)
      ((go_at_call 16; refine (HFr.out _ (by first | exact HDd.out | exact Below.refl _ _)).mono ?_; rintro e w5 ⟨rfl, h1⟩; have H5 : Hid (Below wM.heap.size wM w5) := (by first | exact HDd.out.trans (h1.mono HDd.out.size) | exact h1); obtain ⟨m0, m1, m2, m3, m4, m7⟩ := HPc.out _ _ _ _ _ _ (HQ2.out.1.on H5.out).pl; clear h1))
    all_goals
      go_wp2
      go_meet
      case rel => exact ⟨rfl, rfl, H5.out⟩
  case rest =>
  obtain ⟨rfl, rfl, hB2⟩ := hcut
  generalize wc = wN at *
  have HQ3 : Hid (Tq w1 wN D T1 n H H p hb d r t rt (kk) ∧ H 0 = z15 ∧ Lw (fun k => isFr (H k)) C low0) := ⟨HQ2.out.1.on hB2, HQ2.out.2⟩
  clear hB2 HQ2 HFr HDd c0 c1 c2 c3 c4 c7
  go_wp2
  go_loopw [14, 20] (fun s14 s20 wr => ∃ (i low : Nat) (T2 : Tx) (H2 : Nat → Nat → Int), i ≤ N0 ∧ s20 = .int .i64 (i : Int) ∧ s14 = .int .i64 (low : Int) ∧ Tq w1 wr D T2 n H2 H2 p hb d r t rt (kk + i) ∧ H2 0 = z15 ∧ Lw (fun k => isFr (H2 k)) C low ∧ cf (fun k => isFr (H2 k)) C = N0 - i) (fun _ s20 _ => N0 + 1 - (intOf s20).toNat)
  case atStart => exact ⟨0, low0, T1, H, Nat.zero_le _, rfl, rfl, HQ3.out.1, HQ3.out.2.1, HQ3.out.2.2, by rw [HN0.out]; rfl⟩
  case round =>
    obtain ⟨i, low, T2, H2, hi, rfl, rfl, hq, hH0, hL, hc⟩ := hrel
    have HI : Hid (Tq w1 wr D T2 n H2 H2 p hb d r t rt (kk + i) ∧ H2 0 = z15 ∧ Lw (fun k => isFr (H2 k)) C low ∧ cf (fun k => isFr (H2 k)) C = N0 - i) := ⟨hq, hH0, hL, hc⟩
    clear hq hH0 hL hc HQ3 HN0
    have hile : (i : Int) ≤ (N0 : Int) := by omega
    go_upto_region 34 with (fail)
    go_cut [21] from 151 to 258 (fun s21 wx => ∃ (X : Nat) (x : Nat → Int), s21 = .pointer (some ⟨X, 0, none⟩) ∧ (inUs x = true ∧ ∀ i, -9223372036854775808 ≤ x i ∧ x i ≤ 9223372036854775807) ∧ wr.heap.size ≤ X ∧ Tq w1 wx D T2 n H2 H2 p hb d r t rt (kk + i) ∧ wx.heap[X]? = some (.cells (inC x) 24 (0, 0)))
    case first => as_aux_lemma =>
      have HBr : Hid (∀ wx, Calls Tryd.prog 7 #[.agg #[.int .i64 (i : Int), .int .i64 (i : Int), .int .i64 (i : Int), .int .i64 0, .int .i64 0, .int .i64 0, .int .i64 0, .int .i64 0, .int .i64 0, .int .i64 0, .int .i64 0, .int .i64 0, .int .i64 0, .int .i64 0, .int .i64 0]] wx fun e w' => e = .returned (inV (brR (tri i))) ∧ Below wx.heap.size wx w') := fun wx => brought_any wx (tri i) (tri_bd (by omega))
      have HRm : Hid (inUs (brR (tri i)) = true ∧ ∀ j, -9223372036854775808 ≤ brR (tri i) j ∧ brR (tri i) j ≤ 9223372036854775807) := ⟨brR_use _, brR_bd _⟩
      generalize brR (tri i) = x at *
      unfold inV at HBr
      go_wp2_with (go_at_call 7; refine (HBr.out _).mono ?_; rintro e w5 ⟨rfl, h1⟩; have H5 : Hid (Below wr.heap.size wr w5) := h1; clear h1)
      obtain ⟨w6, hw6⟩ : ∃ w6, w5.alloc (.cells #[.int .i64 (x 0), .int .i64 (x 1), .int .i64 (x 2), .int .i64 (x 3), .int .i64 (x 4), .int .i64 (x 5), .int .i64 (x 6), .int .i64 (x 7), .int .i64 (x 8), .int .i64 (x 9), .int .i64 (x 10), .int .i64 (x 11), .int .i64 (x 12), .int .i64 (x 13), .int .i64 (x 14)] 24) = w6 := ⟨_, rfl⟩
      have H6 : Hid (wr.heap.size ≤ w5.heap.size ∧ Tq w1 w6 D T2 n H2 H2 p hb d r t rt (kk + i) ∧ w6.heap[w5.heap.size]? = some (.cells (inC x) 24 (0, 0))) := (by rw [← hw6]; exact ⟨H5.out.size, HI.out.1.on (H5.out.alloc H5.out.size _), heap_alloc_new _ _⟩)
      rw [hw6]
      go_meet
      case rel => exact ⟨_, x, rfl, HRm.out, H6.out.1, H6.out.2.1, H6.out.2.2⟩
    case rest =>
    obtain ⟨X, x, rfl, hx, hX, hq, hr⟩ := hcut
    generalize wc = w5 at *
    have H5 : Hid ((inUs x = true ∧ ∀ i, -9223372036854775808 ≤ x i ∧ x i ≤ 9223372036854775807) ∧ wr.heap.size ≤ X ∧ Tq w1 w5 D T2 n H2 H2 p hb d r t rt (kk + i) ∧ w5.heap[X]? = some (.cells (inC x) 24 (0, 0))) := ⟨hx, hX, hq, hr⟩
    clear hx hX hq hr
    obtain ⟨c0, c1, c2, c3, c4, c7⟩ := HPc.out _ _ _ _ _ _ H5.out.2.2.1.pl
    have hrx := H5.out.2.2.2
    have x0 : w5.cell? ⟨X, 0, none⟩ = some (.int .i64 (x 0)) := cell_of_row _ _ 0 _ _ _ hrx; have x1 : w5.cell? ⟨X, 1, none⟩ = some (.int .i64 (x 1)) := cell_of_row _ _ 1 _ _ _ hrx; have x2 : w5.cell? ⟨X, 2, none⟩ = some (.int .i64 (x 2)) := cell_of_row _ _ 2 _ _ _ hrx; have x3 : w5.cell? ⟨X, 3, none⟩ = some (.int .i64 (x 3)) := cell_of_row _ _ 3 _ _ _ hrx; have x4 : w5.cell? ⟨X, 4, none⟩ = some (.int .i64 (x 4)) := cell_of_row _ _ 4 _ _ _ hrx; have x5 : w5.cell? ⟨X, 5, none⟩ = some (.int .i64 (x 5)) := cell_of_row _ _ 5 _ _ _ hrx; have x6 : w5.cell? ⟨X, 6, none⟩ = some (.int .i64 (x 6)) := cell_of_row _ _ 6 _ _ _ hrx; have x7 : w5.cell? ⟨X, 7, none⟩ = some (.int .i64 (x 7)) := cell_of_row _ _ 7 _ _ _ hrx; have x8 : w5.cell? ⟨X, 8, none⟩ = some (.int .i64 (x 8)) := cell_of_row _ _ 8 _ _ _ hrx; have x9 : w5.cell? ⟨X, 9, none⟩ = some (.int .i64 (x 9)) := cell_of_row _ _ 9 _ _ _ hrx; have x10 : w5.cell? ⟨X, 10, none⟩ = some (.int .i64 (x 10)) := cell_of_row _ _ 10 _ _ _ hrx; have x11 : w5.cell? ⟨X, 11, none⟩ = some (.int .i64 (x 11)) := cell_of_row _ _ 11 _ _ _ hrx; have x12 : w5.cell? ⟨X, 12, none⟩ = some (.int .i64 (x 12)) := cell_of_row _ _ 12 _ _ _ hrx; have x13 : w5.cell? ⟨X, 13, none⟩ = some (.int .i64 (x 13)) := cell_of_row _ _ 13 _ _ _ hrx; have x14 : w5.cell? ⟨X, 14, none⟩ = some (.int .i64 (x 14)) := cell_of_row _ _ 14 _ _ _ hrx
    clear hrx
    have HDd : Hid (Below w5.heap.size w5 w5.drew) := (Below.refl _ _).drew
    go_upto_region 35 with (fail)
    by_cases hi0 : i = N0
    · as_aux_lemma =>
      subst hi0
      have HTk : Hid (∀ wx, Below w5.heap.size w5 wx → Calls Tryd.prog 17 #[.pointer (some ⟨t, 0, none⟩), .agg #[.int .i64 (n : Int), .int .i64 98, .int .i64 (gI n), .int .i64 (gD n), .int .i64 (C : Int)], .agg #[.int .i64 (x 0), .int .i64 (x 1), .int .i64 (x 2), .int .i64 (x 3), .int .i64 (x 4), .int .i64 (x 5), .int .i64 (x 6), .int .i64 (x 7), .int .i64 (x 8), .int .i64 (x 9), .int .i64 (x 10), .int .i64 (x 11), .int .i64 (x 12), .int .i64 (x 13), .int .i64 (x 14)]] wx fun e w' => e = .returned (.tuple #[.int .i64 0, .int .i64 90]) ∧ Below wx.heap.size wx w') := fun wx hB => by
        have q := H5.out.2.2.1.on hB
        have h0 : low = 0 := HI.out.2.2.1.zero (by rw [HI.out.2.2.2]; omega)
        have h9 := ttake_no w1 wx D T2 n (kk + i) H2 q.tb (by rw [HC.out.2, ← h0]; exact HI.out.2.2.1) x H5.out.1.2 H5.out.1.1
        unfold geoV at h9
        rw [HC.out.1, q.t] at h9
        exact h9
      go_cut [22, 23] from 151 to 258 (fun s22 s23 wx => s22 = .int .i64 0 ∧ s23 = .int .i64 90 ∧ Tq w1 wx D T2 n H2 H2 p hb d r t rt (kk + i))
      case first => as_aux_lemma =>
        go_region_held3 (fun w' => w'.cell? ⟨p, 0, none⟩ = some (.int .i64 (n : Int)) ∧ w'.cell? ⟨p, 1, none⟩ = some (.int .i64 98) ∧ w'.cell? ⟨p, 2, none⟩ = some (.int .i64 (gI n)) ∧ w'.cell? ⟨p, 3, none⟩ = some (.int .i64 (gD n)) ∧ w'.cell? ⟨p, 4, none⟩ = some (.int .i64 (C : Int)) ∧ w'.cell? ⟨p, 7, none⟩ = some (.pointer (some ⟨t, 0, none⟩)) ∧ w'.cell? ⟨X, 0, none⟩ = some (.int .i64 (x 0)) ∧ w'.cell? ⟨X, 1, none⟩ = some (.int .i64 (x 1)) ∧ w'.cell? ⟨X, 2, none⟩ = some (.int .i64 (x 2)) ∧ w'.cell? ⟨X, 3, none⟩ = some (.int .i64 (x 3)) ∧ w'.cell? ⟨X, 4, none⟩ = some (.int .i64 (x 4)) ∧ w'.cell? ⟨X, 5, none⟩ = some (.int .i64 (x 5)) ∧ w'.cell? ⟨X, 6, none⟩ = some (.int .i64 (x 6)) ∧ w'.cell? ⟨X, 7, none⟩ = some (.int .i64 (x 7)) ∧ w'.cell? ⟨X, 8, none⟩ = some (.int .i64 (x 8)) ∧ w'.cell? ⟨X, 9, none⟩ = some (.int .i64 (x 9)) ∧ w'.cell? ⟨X, 10, none⟩ = some (.int .i64 (x 10)) ∧ w'.cell? ⟨X, 11, none⟩ = some (.int .i64 (x 11)) ∧ w'.cell? ⟨X, 12, none⟩ = some (.int .i64 (x 12)) ∧ w'.cell? ⟨X, 13, none⟩ = some (.int .i64 (x 13)) ∧ w'.cell? ⟨X, 14, none⟩ = some (.int .i64 (x 14))) (go_keep)
          ((go_at_call 17; refine (HTk.out _ (by first | exact HDd.out | exact Below.refl _ _)).mono ?_; rintro e w6 ⟨rfl, h1⟩; have H6 : Hid (Below w5.heap.size w5 w6) := (by first | exact HDd.out.trans (h1.mono HDd.out.size) | exact h1); obtain ⟨m0, m1, m2, m3, m4, m7⟩ := HPc.out _ _ _ _ _ _ (H5.out.2.2.1.on H6.out).pl; have hrx := (H6.out.block _ (heap_lt H5.out.2.2.2)).trans H5.out.2.2.2; have z0 : w6.cell? ⟨X, 0, none⟩ = some (.int .i64 (x 0)) := cell_of_row _ _ 0 _ _ _ hrx; have z1 : w6.cell? ⟨X, 1, none⟩ = some (.int .i64 (x 1)) := cell_of_row _ _ 1 _ _ _ hrx; have z2 : w6.cell? ⟨X, 2, none⟩ = some (.int .i64 (x 2)) := cell_of_row _ _ 2 _ _ _ hrx; have z3 : w6.cell? ⟨X, 3, none⟩ = some (.int .i64 (x 3)) := cell_of_row _ _ 3 _ _ _ hrx; have z4 : w6.cell? ⟨X, 4, none⟩ = some (.int .i64 (x 4)) := cell_of_row _ _ 4 _ _ _ hrx; have z5 : w6.cell? ⟨X, 5, none⟩ = some (.int .i64 (x 5)) := cell_of_row _ _ 5 _ _ _ hrx; have z6 : w6.cell? ⟨X, 6, none⟩ = some (.int .i64 (x 6)) := cell_of_row _ _ 6 _ _ _ hrx; have z7 : w6.cell? ⟨X, 7, none⟩ = some (.int .i64 (x 7)) := cell_of_row _ _ 7 _ _ _ hrx; have z8 : w6.cell? ⟨X, 8, none⟩ = some (.int .i64 (x 8)) := cell_of_row _ _ 8 _ _ _ hrx; have z9 : w6.cell? ⟨X, 9, none⟩ = some (.int .i64 (x 9)) := cell_of_row _ _ 9 _ _ _ hrx; have z10 : w6.cell? ⟨X, 10, none⟩ = some (.int .i64 (x 10)) := cell_of_row _ _ 10 _ _ _ hrx; have z11 : w6.cell? ⟨X, 11, none⟩ = some (.int .i64 (x 11)) := cell_of_row _ _ 11 _ _ _ hrx; have z12 : w6.cell? ⟨X, 12, none⟩ = some (.int .i64 (x 12)) := cell_of_row _ _ 12 _ _ _ hrx; have z13 : w6.cell? ⟨X, 13, none⟩ = some (.int .i64 (x 13)) := cell_of_row _ _ 13 _ _ _ hrx; have z14 : w6.cell? ⟨X, 14, none⟩ = some (.int .i64 (x 14)) := cell_of_row _ _ 14 _ _ _ hrx; clear hrx h1))
        all_goals
          go_wp2
          go_meet
          case rel => exact ⟨rfl, rfl, H5.out.2.2.1.on H6.out⟩
      case rest =>
      obtain ⟨rfl, rfl, hq⟩ := hcut
      generalize wc = w6 at *
      have H6 : Hid (Tq w1 w6 D T2 n H2 H2 p hb d r t rt (kk + i)) := hq
      clear hq HTk c0 c1 c2 c3 c4 c7 x0 x1 x2 x3 x4 x5 x6 x7 x8 x9 x10 x11 x12 x13 x14
      go_wp2_with (go_at_call 18; refine (inside_any w1 _ D T2 n (kk + i) H2 H6.out.tb p d r rt (by rw [H6.out.t]; exact H6.out.pl)).mono ?_; rintro e w7 ⟨rfl, h1⟩; have H7 : Hid (Below w6.heap.size w6 w7) := h1; clear h1)
      (try go_ret)
      exact ⟨rfl, HB0.out _ _ _ _ _ _ (H6.out.on H7.out)⟩
    · as_aux_lemma =>
      have hil : i < N0 := by omega
      have hne : ((i : Int) == (N0 : Int)) = false := by simp; omega
      have hlow := HI.out.2.2.1.pos (by rw [HI.out.2.2.2]; omega)
      have hlow1 : 1 ≤ low ∧ low < C := ⟨hlow.1, hlow.2.1⟩
      obtain ⟨M, hM⟩ : ∃ M, N0 - (i + 1) = M := ⟨_, rfl⟩
      have hM2 : (N0 : Int) - (i : Int) - 1 = (M : Int) := by omega
      have HCf : Hid (cf (fun k => isFr (upR H2 low x k)) C = M) := by
        have := cf_up (H := H2) hlow.1 hlow.2.2 (inUs_ne H5.out.1.1) C hlow.2.1
        rw [HI.out.2.2.2] at this
        show _ = _
        omega
      have HMi : Hid (N0 - (i + 1) = M) := hM
      have HTk : Hid (∀ wx, Below w5.heap.size w5 wx → Calls Tryd.prog 17 #[.pointer (some ⟨t, 0, none⟩), .agg #[.int .i64 (n : Int), .int .i64 98, .int .i64 (gI n), .int .i64 (gD n), .int .i64 (C : Int)], .agg #[.int .i64 (x 0), .int .i64 (x 1), .int .i64 (x 2), .int .i64 (x 3), .int .i64 (x 4), .int .i64 (x 5), .int .i64 (x 6), .int .i64 (x 7), .int .i64 (x 8), .int .i64 (x 9), .int .i64 (x 10), .int .i64 (x 11), .int .i64 (x 12), .int .i64 (x 13), .int .i64 (x 14)]] wx fun e w' => e = .returned (.tuple #[.int .i64 (low : Int), .int .i64 0]) ∧ ∃ T3, Tq w1 w' D T3 n (upR H2 low x) H2 p hb d r t rt (kk + i + 1) ∧ w'.heap[X]? = some (.cells (inC x) 24 (0, 0))) := fun wx hB => by
        have q := H5.out.2.2.1.on hB
        have h9 := ttake_ok w1 wx D T2 n (kk + i) H2 q.tb low (by rw [HC.out.2]; exact HI.out.2.2.1) hlow1.1 (by rw [HC.out.2]; exact hlow1.2) x H5.out.1.2 H5.out.1.1 (by omega) (by omega)
        unfold geoV at h9
        rw [HC.out.1, q.t] at h9
        refine h9.mono ?_
        rintro e w' ⟨rfl, T', ht', hb', hm'⟩
        refine ⟨rfl, T', q.mv (ht'.trans q.t.symm) hb' hm', hm'.fr.heap ((hB.block _ (heap_lt H5.out.2.2.2)).trans H5.out.2.2.2) (fun e => ?_)⟩
        have h8 := HI.out.1.tb.spc.ses.tx.lt (.inl e)
        have h7 := H5.out.2.1
        omega
      clear hlow hM
      go_cut [22, 23] from 151 to 258 (fun s22 s23 wx => s22 = .int .i64 (low : Int) ∧ s23 = .int .i64 0 ∧ ∃ T3, Tq w1 wx D T3 n (upR H2 low x) H2 p hb d r t rt (kk + i + 1) ∧ wx.heap[X]? = some (.cells (inC x) 24 (0, 0)))
      case first => as_aux_lemma =>
        go_region_held3 (fun w' => w'.cell? ⟨p, 0, none⟩ = some (.int .i64 (n : Int)) ∧ w'.cell? ⟨p, 1, none⟩ = some (.int .i64 98) ∧ w'.cell? ⟨p, 2, none⟩ = some (.int .i64 (gI n)) ∧ w'.cell? ⟨p, 3, none⟩ = some (.int .i64 (gD n)) ∧ w'.cell? ⟨p, 4, none⟩ = some (.int .i64 (C : Int)) ∧ w'.cell? ⟨p, 7, none⟩ = some (.pointer (some ⟨t, 0, none⟩)) ∧ w'.cell? ⟨X, 0, none⟩ = some (.int .i64 (x 0)) ∧ w'.cell? ⟨X, 1, none⟩ = some (.int .i64 (x 1)) ∧ w'.cell? ⟨X, 2, none⟩ = some (.int .i64 (x 2)) ∧ w'.cell? ⟨X, 3, none⟩ = some (.int .i64 (x 3)) ∧ w'.cell? ⟨X, 4, none⟩ = some (.int .i64 (x 4)) ∧ w'.cell? ⟨X, 5, none⟩ = some (.int .i64 (x 5)) ∧ w'.cell? ⟨X, 6, none⟩ = some (.int .i64 (x 6)) ∧ w'.cell? ⟨X, 7, none⟩ = some (.int .i64 (x 7)) ∧ w'.cell? ⟨X, 8, none⟩ = some (.int .i64 (x 8)) ∧ w'.cell? ⟨X, 9, none⟩ = some (.int .i64 (x 9)) ∧ w'.cell? ⟨X, 10, none⟩ = some (.int .i64 (x 10)) ∧ w'.cell? ⟨X, 11, none⟩ = some (.int .i64 (x 11)) ∧ w'.cell? ⟨X, 12, none⟩ = some (.int .i64 (x 12)) ∧ w'.cell? ⟨X, 13, none⟩ = some (.int .i64 (x 13)) ∧ w'.cell? ⟨X, 14, none⟩ = some (.int .i64 (x 14))) (go_keep)
          ((go_at_call 17; refine (HTk.out _ (by first | exact HDd.out | exact Below.refl _ _)).mono ?_; rintro e w6 ⟨rfl, T3, h1, h2⟩; have H6 : Hid (Tq w1 w6 D T3 n (upR H2 low x) H2 p hb d r t rt (kk + i + 1) ∧ w6.heap[X]? = some (.cells (inC x) 24 (0, 0))) := ⟨h1, h2⟩; obtain ⟨m0, m1, m2, m3, m4, m7⟩ := HPc.out _ _ _ _ _ _ h1.pl; have hrx := h2; have z0 : w6.cell? ⟨X, 0, none⟩ = some (.int .i64 (x 0)) := cell_of_row _ _ 0 _ _ _ hrx; have z1 : w6.cell? ⟨X, 1, none⟩ = some (.int .i64 (x 1)) := cell_of_row _ _ 1 _ _ _ hrx; have z2 : w6.cell? ⟨X, 2, none⟩ = some (.int .i64 (x 2)) := cell_of_row _ _ 2 _ _ _ hrx; have z3 : w6.cell? ⟨X, 3, none⟩ = some (.int .i64 (x 3)) := cell_of_row _ _ 3 _ _ _ hrx; have z4 : w6.cell? ⟨X, 4, none⟩ = some (.int .i64 (x 4)) := cell_of_row _ _ 4 _ _ _ hrx; have z5 : w6.cell? ⟨X, 5, none⟩ = some (.int .i64 (x 5)) := cell_of_row _ _ 5 _ _ _ hrx; have z6 : w6.cell? ⟨X, 6, none⟩ = some (.int .i64 (x 6)) := cell_of_row _ _ 6 _ _ _ hrx; have z7 : w6.cell? ⟨X, 7, none⟩ = some (.int .i64 (x 7)) := cell_of_row _ _ 7 _ _ _ hrx; have z8 : w6.cell? ⟨X, 8, none⟩ = some (.int .i64 (x 8)) := cell_of_row _ _ 8 _ _ _ hrx; have z9 : w6.cell? ⟨X, 9, none⟩ = some (.int .i64 (x 9)) := cell_of_row _ _ 9 _ _ _ hrx; have z10 : w6.cell? ⟨X, 10, none⟩ = some (.int .i64 (x 10)) := cell_of_row _ _ 10 _ _ _ hrx; have z11 : w6.cell? ⟨X, 11, none⟩ = some (.int .i64 (x 11)) := cell_of_row _ _ 11 _ _ _ hrx; have z12 : w6.cell? ⟨X, 12, none⟩ = some (.int .i64 (x 12)) := cell_of_row _ _ 12 _ _ _ hrx; have z13 : w6.cell? ⟨X, 13, none⟩ = some (.int .i64 (x 13)) := cell_of_row _ _ 13 _ _ _ hrx; have z14 : w6.cell? ⟨X, 14, none⟩ = some (.int .i64 (x 14)) := cell_of_row _ _ 14 _ _ _ hrx; clear hrx h1 h2))
        all_goals
          go_wp2
          go_meet
          case rel => exact ⟨rfl, rfl, T3, H6.out.1, H6.out.2⟩
      case rest =>
      obtain ⟨rfl, rfl, T3, hq, hr⟩ := hcut
      generalize wc = w6 at *
      obtain ⟨H3, hH3⟩ : ∃ H3, upR H2 low x = H3 := ⟨_, rfl⟩
      have HH3 : Hid (upR H2 low x = H3) := hH3
      rw [hH3] at hq HCf
      clear hH3
      have H6 : Hid (Tq w1 w6 D T3 n H3 H2 p hb d r t rt (kk + i + 1) ∧ w6.heap[X]? = some (.cells (inC x) 24 (0, 0))) := ⟨hq, hr⟩
      clear hq hr HTk c0 c1 c2 c3 c4 c7 x0 x1 x2 x3 x4 x5 x6 x7 x8 x9 x10 x11 x12 x13 x14 HDd
      have HFr : Hid (∀ wx, Below w6.heap.size w6 wx → Calls Tryd.prog 16 #[.pointer (some ⟨t, 0, none⟩), .agg #[.int .i64 (n : Int), .int .i64 98, .int .i64 (gI n), .int .i64 (gD n), .int .i64 (C : Int)]] wx fun e w' => e = .returned (.tuple #[.int .i64 (M : Int), .int .i64 0]) ∧ Below wx.heap.size wx w') := fun wx hB => by
        have q := H6.out.1.on hB
        have h9 := tfree w1 wx D T3 n (kk + i + 1) H3 q.tb
        unfold geoV at h9
        rw [HC.out.2, HC.out.1, q.t, HCf.out] at h9
        exact h9
      obtain ⟨c0, c1, c2, c3, c4, c7⟩ := HPc.out _ _ _ _ _ _ H6.out.1.pl
      have HDd : Hid (Below w6.heap.size w6 w6.drew) := (Below.refl _ _).drew
      as_aux_lemma =>
      go_upto_region 38 with (fail)
      go_cut [24, 25] from 151 to 258 (fun s24 s25 wx => s24 = .int .i64 (M : Int) ∧ s25 = .int .i64 0 ∧ Below w6.heap.size w6 wx)
      case first => as_aux_lemma =>
        go_region_held3 (fun w' => w'.cell? ⟨p, 0, none⟩ = some (.int .i64 (n : Int)) ∧ w'.cell? ⟨p, 1, none⟩ = some (.int .i64 98) ∧ w'.cell? ⟨p, 2, none⟩ = some (.int .i64 (gI n)) ∧ w'.cell? ⟨p, 3, none⟩ = some (.int .i64 (gD n)) ∧ w'.cell? ⟨p, 4, none⟩ = some (.int .i64 (C : Int)) ∧ w'.cell? ⟨p, 7, none⟩ = some (.pointer (some ⟨t, 0, none⟩))) (go_keep)
          ((go_at_call 16; refine (HFr.out _ (by first | exact HDd.out | exact Below.refl _ _)).mono ?_; rintro e w7 ⟨rfl, h1⟩; have H7 : Hid (Below w6.heap.size w6 w7) := (by first | exact HDd.out.trans (h1.mono HDd.out.size) | exact h1); obtain ⟨m0, m1, m2, m3, m4, m7⟩ := HPc.out _ _ _ _ _ _ (H6.out.1.on H7.out).pl; clear h1))
        all_goals
          go_wp2
          go_meet
          case rel => exact ⟨rfl, rfl, H7.out⟩
      case rest =>
      obtain ⟨rfl, rfl, hB7⟩ := hcut
      generalize wc = w7 at *
      have H7 : Hid (Tq w1 w7 D T3 n H3 H2 p hb d r t rt (kk + i + 1) ∧ w7.heap[X]? = some (.cells (inC x) 24 (0, 0))) := ⟨H6.out.1.on hB7, (hB7.block _ (heap_lt H6.out.2)).trans H6.out.2⟩
      clear hB7 HFr HDd H6 c0 c1 c2 c3 c4 c7
      as_aux_lemma =>
      go_upto_region 41 with (fail)
      have HV : Hid (HvAt w7 hb C H2) := (by have := H7.out.1.hv; rw [HC.out.2] at this; exact this)
      have hrx := H7.out.2
      have x0 : w7.cell? ⟨X, 0, none⟩ = some (.int .i64 (x 0)) := cell_of_row _ _ 0 _ _ _ hrx; have x1 : w7.cell? ⟨X, 1, none⟩ = some (.int .i64 (x 1)) := cell_of_row _ _ 1 _ _ _ hrx; have x2 : w7.cell? ⟨X, 2, none⟩ = some (.int .i64 (x 2)) := cell_of_row _ _ 2 _ _ _ hrx; have x3 : w7.cell? ⟨X, 3, none⟩ = some (.int .i64 (x 3)) := cell_of_row _ _ 3 _ _ _ hrx; have x4 : w7.cell? ⟨X, 4, none⟩ = some (.int .i64 (x 4)) := cell_of_row _ _ 4 _ _ _ hrx; have x5 : w7.cell? ⟨X, 5, none⟩ = some (.int .i64 (x 5)) := cell_of_row _ _ 5 _ _ _ hrx; have x6 : w7.cell? ⟨X, 6, none⟩ = some (.int .i64 (x 6)) := cell_of_row _ _ 6 _ _ _ hrx; have x7 : w7.cell? ⟨X, 7, none⟩ = some (.int .i64 (x 7)) := cell_of_row _ _ 7 _ _ _ hrx; have x8 : w7.cell? ⟨X, 8, none⟩ = some (.int .i64 (x 8)) := cell_of_row _ _ 8 _ _ _ hrx; have x9 : w7.cell? ⟨X, 9, none⟩ = some (.int .i64 (x 9)) := cell_of_row _ _ 9 _ _ _ hrx; have x10 : w7.cell? ⟨X, 10, none⟩ = some (.int .i64 (x 10)) := cell_of_row _ _ 10 _ _ _ hrx; have x11 : w7.cell? ⟨X, 11, none⟩ = some (.int .i64 (x 11)) := cell_of_row _ _ 11 _ _ _ hrx; have x12 : w7.cell? ⟨X, 12, none⟩ = some (.int .i64 (x 12)) := cell_of_row _ _ 12 _ _ _ hrx; have x13 : w7.cell? ⟨X, 13, none⟩ = some (.int .i64 (x 13)) := cell_of_row _ _ 13 _ _ _ hrx; have x14 : w7.cell? ⟨X, 14, none⟩ = some (.int .i64 (x 14)) := cell_of_row _ _ 14 _ _ _ hrx
      clear hrx
      obtain ⟨q1, q2, q3, q4, q5, q6, q7, q8, q9, q10, q11, q12, q13, q14, q15, v0, f0, y0, v1, f1, y1, v2, f2, y2, v3, f3, y3, v4, f4, y4, v5, f5, y5, v6, f6, y6, v7, f7, y7, v8, f8, y8, v9, f9, y9, v10, f10, y10, v11, f11, y11, v12, f12, y12, v13, f13, y13, v14, f14, y14, h8, h9⟩ := chainHv w7 hb C H2 low x HV.out hlow1.2
      have HQ9 : Hid (Tq w1 q15 D T3 n H3 H3 p hb d r t rt (kk + i + 1) ∧ H3 0 = z15) := by
        refine ⟨H7.out.1.lay h8 (by rw [HC.out.2, ← HH3.out]; exact h9), ?_⟩
        rw [← HH3.out, upR_other _ _ (by omega)]
        exact HI.out.2.1
      clear h8 h9
      go_upto_region 42 with (fail)
      clear HV H7 H5 x0 v0 f0 y0 x1 v1 f1 y1 x2 v2 f2 y2 x3 v3 f3 y3 x4 v4 f4 y4 x5 v5 f5 y5 x6 v6 f6 y6 x7 v7 f7 y7 x8 v8 f8 y8 x9 v9 f9 y9 x10 v10 f10 y10 x11 v11 f11 y11 x12 v12 f12 y12 x13 v13 f13 y13 x14 v14 f14 y14
      generalize q15 = w9 at *
      obtain ⟨f, hf⟩ : ∃ f : Nat → Bool, f = fun k => isFr (H3 k) := ⟨_, rfl⟩
      have HFf : Hid (f = fun k => isFr (H3 k)) := hf
      clear hf
      have hC1 : (C : Int) - 1 = ((C - 1 : Nat) : Int) := by omega
      have HGe : Hid (∀ (k : Nat) (wx : World), 1 ≤ k → k < C → Below w9.heap.size w9 wx → Calls Tryd.prog 15 #[.pointer (some ⟨t, 0, none⟩), .agg #[.int .i64 (n : Int), .int .i64 98, .int .i64 (gI n), .int .i64 (gD n), .int .i64 (C : Int)], .int .i64 (k : Int)] wx fun e w' => e = .returned (.tuple #[.agg #[.int .i64 (H3 k 0), .int .i64 (H3 k 1), .int .i64 (H3 k 2), .int .i64 (H3 k 3), .int .i64 (H3 k 4), .int .i64 (H3 k 5), .int .i64 (H3 k 6), .int .i64 (H3 k 7), .int .i64 (H3 k 8), .int .i64 (H3 k 9), .int .i64 (H3 k 10), .int .i64 (H3 k 11), .int .i64 (H3 k 12), .int .i64 (H3 k 13), .int .i64 (H3 k 14)], .int .i64 0]) ∧ Below wx.heap.size wx w') := fun k wx h1 h2 hB => by
        have q := HQ9.out.1.on hB
        have h9 := tget w1 wx D T3 n (kk + i + 1) H3 q.tb k h1 (by rw [HC.out.2]; exact h2)
        unfold geoV at h9
        rw [HC.out.1, q.t] at h9
        exact h9
      have HKd : Hid (∀ k, 1 ≤ k → k < C → f k = decide (H3 k 0 = 0)) := fun k h1 h2 => by
        rw [HFf.out]
        exact kind_free (HQ9.out.1.tb.tbl k h1 (by rw [HC.out.2]; exact h2)).1
      obtain ⟨c0, c1, c2, c3, c4, c7⟩ := HPc.out _ _ _ _ _ _ HQ9.out.1.pl
      go_upto_block 6 with (fail)
      clear c0 c1 c2 c3 c4 c7
      go_wp2
      go_loopw [14, 26] (fun s14 s15 wr => ∃ (k low : Nat), k ≤ C - 1 ∧ s15 = .int .i64 (k : Int) ∧ s14 = .int .i64 (low : Int) ∧ LwK f C k low ∧ Below w9.heap.size w9 wr) (fun _ s15 _ => (intOf s15).toNat)
      case atStart => exact ⟨C - 1, 0, Nat.le_refl _, rfl, rfl, LwK.start f C, Below.refl _ _⟩
      case round =>
        obtain ⟨k, low, hk, rfl, rfl, hL, hI⟩ := hrel
        have HI : Hid (Below w9.heap.size w9 wr ∧ LwK f C k low) := ⟨hI, hL⟩
        clear hI hL
        by_cases hk0 : k = 0
        · subst hk0
          have HQA : Hid (Tq w1 wr D T3 n H3 H3 p hb d r t rt (kk + (i + 1)) ∧ H3 0 = z15 ∧ Lw (fun k => isFr (H3 k)) C low ∧ cf (fun k => isFr (H3 k)) C = N0 - (i + 1)) := ⟨HQ9.out.1.on HI.out.1, HQ9.out.2, by rw [← HFf.out]; exact HI.out.2.low, HCf.out.trans HMi.out.symm⟩
          go_wp2
          exact ⟨⟨i + 1, low, T3, H3, by omega, rfl, rfl, HQA.out.1, HQA.out.2.1, HQA.out.2.2.1, HQA.out.2.2.2⟩, by simp [intOf]; omega⟩
        · as_aux_lemma =>
          obtain ⟨k', rfl⟩ : ∃ k', k = k' + 1 := ⟨k - 1, by omega⟩
          obtain ⟨K, hK⟩ : ∃ K, k' + 1 = K := ⟨_, rfl⟩
          have HKk : Hid (k' + 1 = K) := hK
          have hK1 : (K : Int) - 1 = (k' : Int) := by omega
          have hK2 : (0 : Int) < (K : Int) := by omega
          have hK3 : 1 ≤ K ∧ K < C := by omega
          rw [hK]
          rw [hK] at HI
          clear hK hk hk0
          have HGk : Hid (∀ wx, Below wr.heap.size wr wx → Calls Tryd.prog 15 #[.pointer (some ⟨t, 0, none⟩), .agg #[.int .i64 (n : Int), .int .i64 98, .int .i64 (gI n), .int .i64 (gD n), .int .i64 (C : Int)], .int .i64 (K : Int)] wx fun e w' => e = .returned (.tuple #[.agg #[.int .i64 (H3 K 0), .int .i64 (H3 K 1), .int .i64 (H3 K 2), .int .i64 (H3 K 3), .int .i64 (H3 K 4), .int .i64 (H3 K 5), .int .i64 (H3 K 6), .int .i64 (H3 K 7), .int .i64 (H3 K 8), .int .i64 (H3 K 9), .int .i64 (H3 K 10), .int .i64 (H3 K 11), .int .i64 (H3 K 12), .int .i64 (H3 K 13), .int .i64 (H3 K 14)], .int .i64 0]) ∧ Below wx.heap.size wx w') := fun wx hB => HGe.out K wx hK3.1 hK3.2 (HI.out.1.trans (hB.mono HI.out.1.size))
          have hfK := HKd.out K hK3.1 hK3.2
          have HVr : Hid (∀ wx, Below wr.heap.size wr wx → HvAt wx hb C H3) := fun wx hB => by
            have := (HQ9.out.1.on (HI.out.1.trans (hB.mono HI.out.1.size))).hv
            rw [HC.out.2] at this
            exact this
          have HPr : Hid (∀ wx, Below wr.heap.size wr wx → PlAt wx p n d r t rt) := fun wx hB => (HQ9.out.1.on (HI.out.1.trans (hB.mono HI.out.1.size))).pl
          have HLy : Hid (f K = true → LwK f C k' K) := fun h => (by have := HI.out.2; rw [← HKk.out] at this h ⊢; exact this.yes (by omega) h)
          have HLn : Hid (f K = false → LwK f C k' low) := fun h => (by have := HI.out.2; rw [← HKk.out] at this h; exact this.no h)
          obtain ⟨c0, c1, c2, c3, c4, c7⟩ := HPc.out _ _ _ _ _ _ (HPr.out _ (Below.refl _ _))
          have HDd : Hid (Below wr.heap.size wr wr.drew) := (Below.refl _ _).drew
          go_upto_region 46 with (fail)
          go_cut [27, 28] from 228 to 258 (fun s16 s17 wx => ∃ X : Nat, s16 = .pointer (some ⟨X, 0, none⟩) ∧ s17 = .int .i64 0 ∧ Below wr.heap.size wr wx ∧ wx.heap[X]? = some (.cells (inC (H3 K)) 24 (0, 0)))
          case first => as_aux_lemma =>
            clear hfK HLy HLn HVr 
            have hpX1 : ¬ wr.heap.size = p := by have := heap_lt (HPr.out _ (Below.refl _ _)); omega
            have hpX2 : ¬ p = wr.heap.size := fun e => hpX1 e.symm
            have HDA : Hid (∀ o, Below wr.heap.size wr (wr.alloc o).drew) := fun o => ((Below.refl _ _).alloc (Nat.le_refl _) o).drew
            have HDB : Hid (∀ o, Below wr.heap.size wr (wr.drew.alloc o)) := fun o => HDd.out.alloc HDd.out.size o
            have HDC : Hid (∀ o, Below wr.heap.size wr (wr.alloc o)) := fun o => (Below.refl _ _).alloc (Nat.le_refl _) o
            have HS : Hid (∀ wx, Below wr.heap.size wr wx → (fun w' => w'.cell? ⟨p, 0, none⟩ = some (.int .i64 (n : Int)) ∧ w'.cell? ⟨p, 1, none⟩ = some (.int .i64 98) ∧ w'.cell? ⟨p, 2, none⟩ = some (.int .i64 (gI n)) ∧ w'.cell? ⟨p, 3, none⟩ = some (.int .i64 (gD n)) ∧ w'.cell? ⟨p, 4, none⟩ = some (.int .i64 (C : Int)) ∧ w'.cell? ⟨p, 7, none⟩ = some (.pointer (some ⟨t, 0, none⟩))) wx) := fun wx hB => HPc.out _ _ _ _ _ _ (HPr.out _ hB)
            have HG2 : Hid (∀ wx, Below wr.heap.size wr wx → Calls Tryd.prog 15 #[.pointer (some ⟨t, 0, none⟩), .agg #[.int .i64 (n : Int), .int .i64 98, .int .i64 (gI n), .int .i64 (gD n), .int .i64 (C : Int)], .int .i64 (K : Int)] wx fun e w' => e = .returned (.tuple #[.agg #[.int .i64 (H3 K 0), .int .i64 (H3 K 1), .int .i64 (H3 K 2), .int .i64 (H3 K 3), .int .i64 (H3 K 4), .int .i64 (H3 K 5), .int .i64 (H3 K 6), .int .i64 (H3 K 7), .int .i64 (H3 K 8), .int .i64 (H3 K 9), .int .i64 (H3 K 10), .int .i64 (H3 K 11), .int .i64 (H3 K 12), .int .i64 (H3 K 13), .int .i64 (H3 K 14)], .int .i64 0]) ∧ Below wr.heap.size wr w' ∧ ∀ b, b < wx.heap.size → w'.heap[b]? = wx.heap[b]?) := fun wx hB => (HGk.out wx hB).mono fun e w' h => ⟨h.1, hB.trans (h.2.mono hB.size), fun b hb => h.2.block b hb⟩
            have HGa : Hid (Calls Tryd.prog 15 #[.pointer (some ⟨t, 0, none⟩), .agg #[.int .i64 (n : Int), .int .i64 98, .int .i64 (gI n), .int .i64 (gD n), .int .i64 (C : Int)], .int .i64 (K : Int)] wr.drew fun e w' => e = .returned (.tuple #[.agg #[.int .i64 (H3 K 0), .int .i64 (H3 K 1), .int .i64 (H3 K 2), .int .i64 (H3 K 3), .int .i64 (H3 K 4), .int .i64 (H3 K 5), .int .i64 (H3 K 6), .int .i64 (H3 K 7), .int .i64 (H3 K 8), .int .i64 (H3 K 9), .int .i64 (H3 K 10), .int .i64 (H3 K 11), .int .i64 (H3 K 12), .int .i64 (H3 K 13), .int .i64 (H3 K 14)], .int .i64 0]) ∧ Below wr.heap.size wr w') := (HG2.out _ HDd.out).mono fun e w' h => ⟨h.1, h.2.1⟩
            have HGb : Hid (∀ o : Unit, Calls Tryd.prog 15 #[.pointer (some ⟨t, 0, none⟩), .agg #[.int .i64 (n : Int), .int .i64 98, .int .i64 (gI n), .int .i64 (gD n), .int .i64 (C : Int)], .int .i64 (K : Int)] (wr.alloc (.cells #[.int .i64 0, .int .i64 0, .int .i64 0, .int .i64 0, .int .i64 0, .int .i64 0, .int .i64 0, .int .i64 0, .int .i64 0, .int .i64 0, .int .i64 0, .int .i64 0, .int .i64 0, .int .i64 0, .int .i64 0] 24)).drew fun e w' => e = .returned (.tuple #[.agg #[.int .i64 (H3 K 0), .int .i64 (H3 K 1), .int .i64 (H3 K 2), .int .i64 (H3 K 3), .int .i64 (H3 K 4), .int .i64 (H3 K 5), .int .i64 (H3 K 6), .int .i64 (H3 K 7), .int .i64 (H3 K 8), .int .i64 (H3 K 9), .int .i64 (H3 K 10), .int .i64 (H3 K 11), .int .i64 (H3 K 12), .int .i64 (H3 K 13), .int .i64 (H3 K 14)], .int .i64 0]) ∧ Below wr.heap.size wr w' ∧ w'.heap[wr.heap.size]? = some (.cells #[.int .i64 0, .int .i64 0, .int .i64 0, .int .i64 0, .int .i64 0, .int .i64 0, .int .i64 0, .int .i64 0, .int .i64 0, .int .i64 0, .int .i64 0, .int .i64 0, .int .i64 0, .int .i64 0, .int .i64 0] 24 (0, 0))) := fun _ => (HG2.out _ (HDA.out _)).mono fun e w' h => ⟨h.1, h.2.1, (h.2.2 wr.heap.size (by simp)).trans (heap_alloc_new wr _)⟩
            clear HGk HPr HPc HB0 HGe HKd
            go_region_held3 (fun w' => w'.cell? ⟨p, 0, none⟩ = some (.int .i64 (n : Int)) ∧ w'.cell? ⟨p, 1, none⟩ = some (.int .i64 98) ∧ w'.cell? ⟨p, 2, none⟩ = some (.int .i64 (gI n)) ∧ w'.cell? ⟨p, 3, none⟩ = some (.int .i64 (gD n)) ∧ w'.cell? ⟨p, 4, none⟩ = some (.int .i64 (C : Int)) ∧ w'.cell? ⟨p, 7, none⟩ = some (.pointer (some ⟨t, 0, none⟩))) (with_reducible (first
              | exact HS.out _ H6.out.1
              | exact HS.out _ H5.out
              | exact HS.out _ (Below.refl _ _)
              | exact HS.out _ HDd.out
              | exact HS.out _ (HDA.out _)
              | exact HS.out _ (HDB.out _)
              | exact HS.out _ (HDC.out _)
              | exact HS.out _ (H5.out.alloc H5.out.size _)
              | exact HS.out _ H5.out.drew))
              (first
                | (go_at_call 15; (with_reducible show Calls _ _ _ (World.drew wr) _); refine HGa.out.mono ?_; rintro e w5 ⟨rfl, h1⟩; have H5 : Hid (Below wr.heap.size wr w5) := h1; clear h1)
                | (go_at_call 15; (with_reducible show Calls _ _ _ (World.drew (World.alloc _ _)) _); refine (HGb.out ()).mono ?_; rintro e w5 ⟨rfl, h1, hr9⟩; have H5 : Hid (Below wr.heap.size wr w5) := h1; clear h1; obtain ⟨X, hX⟩ : ∃ X, wr.heap.size = X := ⟨_, rfl⟩; rw [hX] at hr9; rw [hX]; obtain ⟨q1, q2, q3, q4, q5, q6, q7, q8, q9, q10, q11, q12, q13, q14, q15, d0, e0, y0, d1, e1, y1, d2, e2, y2, d3, e3, y3, d4, e4, y4, d5, e5, y5, d6, e6, y6, d7, e7, y7, d8, e8, y8, d9, e9, y9, d10, e10, y10, d11, e11, y11, d12, e12, y12, d13, e13, y13, d14, e14, y14, h1, h2⟩ := chain15 wr w5 X (H3 K) hr9 H5.out hX; have H6 : Hid (Below wr.heap.size wr q15 ∧ q15.heap[X]? = some (.cells (inC (H3 K)) 24 (0, 0))) := ⟨h1, h2⟩; clear hr9 h1 h2 hX)
                | fail)
            all_goals
              go_wp2
              first
                | (have H6q := H6.out
                   go_meet
                   case rel => exact ⟨_, rfl, rfl, H6q.1, H6q.2⟩)
                | (obtain ⟨w6, hw6⟩ : ∃ w6, w5.alloc (.cells #[.int .i64 (H3 K 0), .int .i64 (H3 K 1), .int .i64 (H3 K 2), .int .i64 (H3 K 3), .int .i64 (H3 K 4), .int .i64 (H3 K 5), .int .i64 (H3 K 6), .int .i64 (H3 K 7), .int .i64 (H3 K 8), .int .i64 (H3 K 9), .int .i64 (H3 K 10), .int .i64 (H3 K 11), .int .i64 (H3 K 12), .int .i64 (H3 K 13), .int .i64 (H3 K 14)] 24) = w6 := ⟨_, rfl⟩
                   obtain ⟨X, hX⟩ : ∃ X, w5.heap.size = X := ⟨_, rfl⟩
                   have H6 : Hid (Below wr.heap.size wr w6 ∧ w6.heap[X]? = some (.cells (inC (H3 K)) 24 (0, 0))) := (by rw [← hw6, ← hX]; exact ⟨H5.out.alloc H5.out.size _, heap_alloc_new _ _⟩)
                   rw [hw6, hX]
                   clear hw6 hX
                   go_meet
                   case rel => exact ⟨X, rfl, rfl, H6.out.1, H6.out.2⟩)
          case rest =>
          obtain ⟨X, rfl, rfl, hc1, hc2⟩ := hcut
          have H6 : Hid (Below wr.heap.size wr wc ∧ wc.heap[X]? = some (.cells (inC (H3 K)) 24 (0, 0))) := ⟨hc1, hc2⟩
          clear hc1 hc2 HGk HPr c0 c1 c2 c3 c4 c7 HDd
          generalize wc = w6 at *
          have HV6 : Hid (HvAt w6 hb C H3) := HVr.out _ H6.out.1
          have EN : ∀ w, (binOp .neq 24 (.agg #[.int .i64 (H3 K 0), .int .i64 (H3 K 1), .int .i64 (H3 K 2), .int .i64 (H3 K 3), .int .i64 (H3 K 4), .int .i64 (H3 K 5), .int .i64 (H3 K 6), .int .i64 (H3 K 7), .int .i64 (H3 K 8), .int .i64 (H3 K 9), .int .i64 (H3 K 10), .int .i64 (H3 K 11), .int .i64 (H3 K 12), .int .i64 (H3 K 13), .int .i64 (H3 K 14)]) (.agg #[.int .i64 (H3 K 0), .int .i64 (H3 K 1), .int .i64 (H3 K 2), .int .i64 (H3 K 3), .int .i64 (H3 K 4), .int .i64 (H3 K 5), .int .i64 (H3 K 6), .int .i64 (H3 K 7), .int .i64 (H3 K 8), .int .i64 (H3 K 9), .int .i64 (H3 K 10), .int .i64 (H3 K 11), .int .i64 (H3 K 12), .int .i64 (H3 K 13), .int .i64 (H3 K 14)])).run Tryd.prog w = .ok (.bool false) w := fun w => by
            have := neqI w (H3 K) (H3 K)
            rw [smB_iff.2 Sm.rfl] at this
            exact this
          have x0 : w6.cell? ⟨X, 0, none⟩ = some (.int .i64 (H3 K 0)) := cell_of_row _ _ 0 _ _ _ H6.out.2; have x1 : w6.cell? ⟨X, 1, none⟩ = some (.int .i64 (H3 K 1)) := cell_of_row _ _ 1 _ _ _ H6.out.2; have x2 : w6.cell? ⟨X, 2, none⟩ = some (.int .i64 (H3 K 2)) := cell_of_row _ _ 2 _ _ _ H6.out.2; have x3 : w6.cell? ⟨X, 3, none⟩ = some (.int .i64 (H3 K 3)) := cell_of_row _ _ 3 _ _ _ H6.out.2; have x4 : w6.cell? ⟨X, 4, none⟩ = some (.int .i64 (H3 K 4)) := cell_of_row _ _ 4 _ _ _ H6.out.2; have x5 : w6.cell? ⟨X, 5, none⟩ = some (.int .i64 (H3 K 5)) := cell_of_row _ _ 5 _ _ _ H6.out.2; have x6 : w6.cell? ⟨X, 6, none⟩ = some (.int .i64 (H3 K 6)) := cell_of_row _ _ 6 _ _ _ H6.out.2; have x7 : w6.cell? ⟨X, 7, none⟩ = some (.int .i64 (H3 K 7)) := cell_of_row _ _ 7 _ _ _ H6.out.2; have x8 : w6.cell? ⟨X, 8, none⟩ = some (.int .i64 (H3 K 8)) := cell_of_row _ _ 8 _ _ _ H6.out.2; have x9 : w6.cell? ⟨X, 9, none⟩ = some (.int .i64 (H3 K 9)) := cell_of_row _ _ 9 _ _ _ H6.out.2; have x10 : w6.cell? ⟨X, 10, none⟩ = some (.int .i64 (H3 K 10)) := cell_of_row _ _ 10 _ _ _ H6.out.2; have x11 : w6.cell? ⟨X, 11, none⟩ = some (.int .i64 (H3 K 11)) := cell_of_row _ _ 11 _ _ _ H6.out.2; have x12 : w6.cell? ⟨X, 12, none⟩ = some (.int .i64 (H3 K 12)) := cell_of_row _ _ 12 _ _ _ H6.out.2; have x13 : w6.cell? ⟨X, 13, none⟩ = some (.int .i64 (H3 K 13)) := cell_of_row _ _ 13 _ _ _ H6.out.2; have x14 : w6.cell? ⟨X, 14, none⟩ = some (.int .i64 (H3 K 14)) := cell_of_row _ _ 14 _ _ _ H6.out.2
          have v0 : w6.cell? ⟨hb, K * 15, none⟩ = some (.int .i64 (H3 K 0)) := HV6.out.cell K 0 hK3.2 (by omega); have v1 : w6.cell? ⟨hb, K * 15 + 1, none⟩ = some (.int .i64 (H3 K 1)) := HV6.out.cell K 1 hK3.2 (by omega); have v2 : w6.cell? ⟨hb, K * 15 + 2, none⟩ = some (.int .i64 (H3 K 2)) := HV6.out.cell K 2 hK3.2 (by omega); have v3 : w6.cell? ⟨hb, K * 15 + 3, none⟩ = some (.int .i64 (H3 K 3)) := HV6.out.cell K 3 hK3.2 (by omega); have v4 : w6.cell? ⟨hb, K * 15 + 4, none⟩ = some (.int .i64 (H3 K 4)) := HV6.out.cell K 4 hK3.2 (by omega); have v5 : w6.cell? ⟨hb, K * 15 + 5, none⟩ = some (.int .i64 (H3 K 5)) := HV6.out.cell K 5 hK3.2 (by omega); have v6 : w6.cell? ⟨hb, K * 15 + 6, none⟩ = some (.int .i64 (H3 K 6)) := HV6.out.cell K 6 hK3.2 (by omega); have v7 : w6.cell? ⟨hb, K * 15 + 7, none⟩ = some (.int .i64 (H3 K 7)) := HV6.out.cell K 7 hK3.2 (by omega); have v8 : w6.cell? ⟨hb, K * 15 + 8, none⟩ = some (.int .i64 (H3 K 8)) := HV6.out.cell K 8 hK3.2 (by omega); have v9 : w6.cell? ⟨hb, K * 15 + 9, none⟩ = some (.int .i64 (H3 K 9)) := HV6.out.cell K 9 hK3.2 (by omega); have v10 : w6.cell? ⟨hb, K * 15 + 10, none⟩ = some (.int .i64 (H3 K 10)) := HV6.out.cell K 10 hK3.2 (by omega); have v11 : w6.cell? ⟨hb, K * 15 + 11, none⟩ = some (.int .i64 (H3 K 11)) := HV6.out.cell K 11 hK3.2 (by omega); have v12 : w6.cell? ⟨hb, K * 15 + 12, none⟩ = some (.int .i64 (H3 K 12)) := HV6.out.cell K 12 hK3.2 (by omega); have v13 : w6.cell? ⟨hb, K * 15 + 13, none⟩ = some (.int .i64 (H3 K 13)) := HV6.out.cell K 13 hK3.2 (by omega); have v14 : w6.cell? ⟨hb, K * 15 + 14, none⟩ = some (.int .i64 (H3 K 14)) := HV6.out.cell K 14 hK3.2 (by omega)
          go_upto_region 47 with (fail)
          go_quiet (fail)
          go_upto_region 49 with (fail)
          obtain ⟨w7, hw7⟩ : ∃ w7, w6.drewN nq = w7 := ⟨_, rfl⟩
          have H7 : Hid (Below wr.heap.size wr w7 ∧ w7.heap[X]? = some (.cells (inC (H3 K)) 24 (0, 0))) := by
            rw [← hw7]
            exact ⟨H6.out.1.trans ((drew7 w6 _).mono H6.out.1.size), ((drew7 w6 _).block _ (heap_lt H6.out.2)).trans H6.out.2⟩
          rw [hw7]
          have y0 : w7.cell? ⟨X, 0, none⟩ = some (.int .i64 (H3 K 0)) := cell_of_row _ _ 0 _ _ _ H7.out.2
          clear hw7 EN HV6 HVr H6 x0 v0 x1 v1 x2 v2 x3 v3 x4 v4 x5 v5 x6 v6 x7 v7 x8 v8 x9 v9 x10 v10 x11 v11 x12 v12 x13 v13 x14 v14
          obtain ⟨hk0v, hhk⟩ : ∃ z, H3 K 0 = z := ⟨_, rfl⟩
          rw [hhk] at y0 hfK
          clear hhk
          by_cases hfk : f K = true
          · rw [hfk] at hfK
            have hz0 : (hk0v == 0) = true := by rw [of_decide_eq_true hfK.symm]; rfl
            have H9 : Hid (LwK f C k' K ∧ True) := ⟨HLy.out hfk, trivial⟩
            clear hfK hfk HLn HLy 
            skip
            go_wp2
            exact ⟨⟨k', K, by omega, rfl, rfl, H9.out.1, HI.out.1.trans (H7.out.1.mono HI.out.1.size)⟩, by simp [intOf]; omega⟩
          · have hfk : f K = false := Bool.eq_false_iff.2 hfk
            rw [hfk] at hfK
            have hz0 : (hk0v == 0) = false := by have := of_decide_eq_false hfK.symm; simp [this]
            have H9 : Hid (LwK f C k' low ∧ True) := ⟨HLn.out hfk, trivial⟩
            clear hfK hfk HLn HLy 
            go_wp2
            exact ⟨⟨k', low, by omega, rfl, rfl, H9.out.1, HI.out.1.trans (H7.out.1.mono HI.out.1.size)⟩, by simp [intOf]; omega⟩

end Go.Proofs.YtleakaddlgpamaaDoor
