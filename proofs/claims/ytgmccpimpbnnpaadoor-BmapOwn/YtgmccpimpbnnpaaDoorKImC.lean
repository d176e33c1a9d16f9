import Derived.Test.YtgmccpimpbnnpaaDoorKAlE
import Derived.Deep.LoopGhost
import Derived.Test.YtgmccpimpbnnpaaDoorKTxY
import Derived.Test.YtgmccpimpbnnpaaDoorKSmall
import Derived.Test.YtgmccpimpbnnpaaDoorBpS
import Derived.Deep.OwnRows
namespace Go.Proofs.YtgmccpimpbnnpaaDoor
open Go.RowKit Go.Maps Rec
structure RawAt (w : World) (ra : Option Addr) (rl : Nat) (rs : List (Int × Option Addr × Nat × Nat × List Int)) : Prop where
  len : rs.length = rl
  at_ : rl = 0 ∨ ∃ b off, ra = some ⟨b, off, none⟩ ∧ ∀ j q, rs[j]? = some q → w.cell? ⟨b, off + j * 2, none⟩ = some (.int .i64 q.1) ∧ w.cell? ⟨b, off + j * 2 + 1, none⟩ = some (.slice q.2.1 q.2.2.1 q.2.2.2.1) ∧ Bytes w q.2.1 q.2.2.2.2 ∧ q.2.2.2.2.length = q.2.2.1 ∧ (q.2.1 = none → q.2.2.2.1 = 0)
theorem RawAt.on {w w' : World} {ra : Option Addr} {rl : Nat} {rs : List (Int × Option Addr × Nat × Nat × List Int)} (h : RawAt w ra rl rs) (hb : Below w.heap.size w w') : RawAt w' ra rl rs := by
  refine ⟨h.len, h.at_.imp id (fun ⟨b, off, e, hc⟩ => ⟨b, off, e, fun j q hj => ?_⟩)⟩
  obtain ⟨c1, c2, c3, c4⟩ := hc j q hj
  exact ⟨(hb.cell (block_lt_of_cell c1)).trans c1, (hb.cell (block_lt_of_cell c2)).trans c2, c3.on hb, c4⟩
set_option maxRecDepth 100000 in
set_option maxHeartbeats 16000000 in
theorem imageQ (w : World) (M : Int) (ta : Option Addr) (tl tc : Nat) (ra : Option Addr) (rl rc : Nat) (ts : List Int) (ht : Ints w ta ts) (htl : ts.length = tl) (rs : List (Int × Option Addr × Nat × Nat × List Int)) (hr : RawAt w ra rl rs) (hrl : rl ≤ 1000000000000000) :
    Calls Tryd.prog 12 #[stuV M ta tl tc ra rl rc] w fun e w' => ∃ g l, e = .returned (.tuple #[.slice (some ⟨g, 0, none⟩) (512 * nBq M) (512 * nBq M), geoV (nBq M : Nat)]) ∧ w.heap.size ≤ g ∧ Below w.heap.size w w' ∧ OwnB w' g (512 * nBq M) l ∧ l.length = 512 * nBq M ∧ (tl = 0 → rl = 0 → ImB l (nBq M) (fBase (nBq M))) := by
  have HB : Hid (∀ wx, Calls Tryd.prog 33 #[stuV M ta tl tc ra rl rc] wx fun e w' => e = .returned (.int .i64 (nBq M : Nat)) ∧ Below wx.heap.size wx w') := fun wx => blocksQ wx M ta tl tc ra rl rc
  have hnb := nBq_bd M
  obtain ⟨n, hn⟩ : ∃ n, nBq M = n := ⟨_, rfl⟩
  rw [hn] at HB hnb
  rw [hn]
  clear hn
  have hNm := nM_bd hnb.1 (by omega)
  have HG : Hid (∀ wx, Calls Tryd.prog 34 #[.int .i64 (n : Int)] wx fun e w' => e = .returned (geoV n) ∧ Below wx.heap.size wx w') := fun wx => geo9 wx n hnb.1 (by omega)
  obtain ⟨K, hK⟩ : ∃ K, 512 * n = K := ⟨_, rfl⟩
  have hK' : (512 : Int) * (n : Int) = (K : Int) := by omega
  have hKw : IntKind.i64.wrap (K : Int) = (K : Int) := by rw [IntKind.wrap_i64]; omega
  obtain ⟨o, E2, ho⟩ := makeN K (by omega)
  have HO : Hid (∀ w : World, OwnB (w.alloc o) w.heap.size K (zn K)) := ho
  unfold stuV at HB
  unfold stuV
  unfold geoV at HG
  obtain ⟨P, hP⟩ : ∃ P, w.heap.size = P := ⟨_, rfl⟩
  obtain ⟨wz, hwz⟩ : ∃ wz, (w.alloc (.cells #[.int .i64 M, .slice ta tl tc, .slice ra rl rc] 25)).alloc (.cells #[.int .i64 0, .int .i64 0, .int .i64 0, .int .i64 0, .int .i64 0] 29) = wz := ⟨_, rfl⟩
  have HZ : Hid (Below w.heap.size w wz ∧ StuAt wz P M ta tl tc ra rl rc ∧ wz.heap[P + 1]? = some (.cells #[.int .i64 0, .int .i64 0, .int .i64 0, .int .i64 0, .int .i64 0] 29 (0, 0)) ∧ wz.heap.size = P + 2 ∧ w.heap.size = P) := by
    rw [← hwz, ← hP]
    refine ⟨(below_new _).alloc (by simp) _, (Below.heap_alloc _ _ _ (by simp)).trans (heap_alloc_new _ _), ?_, by simp, rfl⟩
    have := heap_alloc_new (w.alloc (.cells #[.int .i64 M, .slice ta tl tc, .slice ra rl rc] 25)) (.cells #[.int .i64 0, .int .i64 0, .int .i64 0, .int .i64 0, .int .i64 0] 29)
    rw [World.size_alloc] at this
    exact this
  obtain ⟨z0, z1, z2⟩ := HZ.out.2.1.cells
  rw [hK]
  have HKn : Hid (512 * n = K) := hK
  have HIn : Hid (Ints w ta ts ∧ ts.length = tl ∧ RawAt w ra rl rs) := ⟨ht, htl, hr⟩
  have HRl : Hid (rl ≤ 1000000000000000) := hrl
  clear hK ho ht htl hr hrl
  go_enter Tryd.func12, Tryd.ntmps12
  go_upto_region 4 with (first
    | (go_at_call 33; refine (HB.out _).mono ?_; rintro e w1 ⟨rfl, h1⟩; have H1 : Hid (Below wz.heap.size wz w1) := h1; clear h1 HB)
    | (go_at_call 34; refine (HG.out _).mono ?_; rintro e w2 ⟨rfl, h1⟩; have H2 : Hid (Below w1.heap.size w1 w2) := h1; clear h1 HG))
  obtain ⟨P4, hP4⟩ : ∃ P4, w2.heap.size = P4 := ⟨_, rfl⟩
  obtain ⟨w3, hw3⟩ : ∃ w3, (w2.alloc (.cells #[.int .i64 (n : Int), .int .i64 98, .int .i64 (gI n), .int .i64 (gD n), .int .i64 (gC n)] 29)).alloc o = w3 := ⟨_, rfl⟩
  have H3 : Hid (Below w.heap.size w w3 ∧ GeoAt w3 P4 n ∧ StuAt w3 P M ta tl tc ra rl rc ∧ w3.heap[P + 1]? = some (.cells #[.int .i64 0, .int .i64 0, .int .i64 0, .int .i64 0, .int .i64 0] 29 (0, 0)) ∧ OwnB w3 (P4 + 1) K (zn K) ∧ P + 1 < P4 ∧ w3.heap.size = P4 + 2) := by
    have h9 := HZ.out.2.2.2.1
    have h8 := H1.out.size
    have h7 := H2.out.size
    have hb2 : Below wz.heap.size wz w2 := H1.out.trans (H2.out.mono h8)
    have hb3 : Below w2.heap.size w2 w3 := by rw [← hw3]; exact ((Below.refl _ _).alloc (Nat.le_refl _) _).alloc (by simp) _
    refine ⟨(HZ.out.1.trans (hb2.mono HZ.out.1.size)).trans (hb3.mono (Nat.le_trans HZ.out.1.size hb2.size)), ?_, (hb3.block _ (by omega)).trans ((hb2.block _ (by omega)).trans HZ.out.2.1), (hb3.block _ (by omega)).trans ((hb2.block _ (by omega)).trans HZ.out.2.2.1), ?_, by omega, by rw [← hw3, World.size_alloc, World.size_alloc, hP4]⟩
    · rw [← hw3, ← hP4]; exact (Below.heap_alloc _ _ _ (by simp)).trans (heap_alloc_new _ _)
    · have := HO.out (w2.alloc (.cells #[.int .i64 (n : Int), .int .i64 98, .int .i64 (gI n), .int .i64 (gD n), .int .i64 (gC n)] 29))
      rw [World.size_alloc, hP4] at this
      rw [← hw3]
      exact this
  rw [hw3, hP4]
  clear hw3 hwz z0 z1 z2 E2 HO
  obtain ⟨Mn, hM⟩ : ∃ Mn, nM n = Mn := ⟨_, rfl⟩
  obtain ⟨lo, hlo⟩ : ∃ lo, nD n = lo := ⟨_, rfl⟩
  rw [hM, hlo] at hNm
  obtain ⟨GI, hGI⟩ : ∃ GI, 98 + Mn = GI := ⟨_, rfl⟩
  obtain ⟨G5, hG5⟩ : ∃ G5, 512 * GI = G5 := ⟨_, rfl⟩
  obtain ⟨LB, hLB⟩ : ∃ LB, 512 * Mn = LB := ⟨_, rfl⟩
  obtain ⟨Q, hQ⟩ : ∃ Q, 4096 * Mn = Q := ⟨_, rfl⟩
  have eG : (512 : Int) * (GI : Int) = (G5 : Int) := by omega
  have eG2 : IntKind.i64.wrap (G5 : Int) = (G5 : Int) := by rw [IntKind.wrap_i64]; omega
  have hGK : G5 ≤ K := by have := HKn.out; omega
  have hG50 : 50176 ≤ G5 := by omega
  have hgk1 : (50176 : Int) ≤ (G5 : Int) := by omega
  have hgk2 : (G5 : Int) ≤ (K : Int) := by omega
  have eL : G5 - 50176 = LB := by omega
  have eL2 : (G5 : Int) - 50176 = (LB : Int) := by omega
  have eQ : (8 : Int) * (LB : Int) = (Q : Int) := by omega
  have eQ2 : IntKind.i64.wrap (Q : Int) = (Q : Int) := by rw [IntKind.wrap_i64]; omega
  have HN9 : Hid (nM n = Mn ∧ nD n = lo ∧ 98 + Mn = GI ∧ 4096 * Mn = Q ∧ 512 * GI = G5 ∧ 512 * Mn = LB) := ⟨hM, hlo, hGI, hQ, hG5, hLB⟩
  have hg1 : gI (n : Int) = (GI : Int) := by rw [gI_nat, hM, hGI]
  have hg2 : gD (n : Int) = (lo : Int) := by rw [gD_nat, hlo]
  obtain ⟨f0, f1, f2, f3, f4⟩ := H3.out.2.1.cells
  rw [hg1] at f2
  rw [hg2] at f3
  clear hM hlo hGI hQ hG5 hLB f0 f4
  rw [hg1, hg2]
  clear hg1 hg2
  have HF : Hid (∀ wr, Fr (fun k => k = P4 + 1) w3 wr → wr.cell? ⟨P4, 1, none⟩ = some (.int .i64 98) ∧ wr.cell? ⟨P4, 2, none⟩ = some (.int .i64 (GI : Int)) ∧ wr.cell? ⟨P4, 3, none⟩ = some (.int .i64 (lo : Int)) ∧ wr.cell? ⟨P, 1, none⟩ = some (.slice ta tl tc) ∧ wr.cell? ⟨P, 2, none⟩ = some (.slice ra rl rc) ∧ Below w.heap.size w wr) := fun wr hf => by
    have h5 := H3.out.2.2.2.2.2
    have hPe := HZ.out.2.2.2.2
    obtain ⟨c0, c1, c2⟩ := H3.out.2.2.1.cells
    have ne : ∀ k, k ≤ P4 → ¬ k = P4 + 1 := fun k hk => by omega
    exact ⟨hf.cell f1 (ne _ (by dsimp only; omega)), hf.cell f2 (ne _ (by dsimp only; omega)), hf.cell f3 (ne _ (by dsimp only; omega)), hf.cell c1 (ne _ (by dsimp only; omega)), hf.cell c2 (ne _ (by dsimp only; omega)), H3.out.1.trans (hf.below _ (fun k hk => by have hk : k = P4 + 1 := hk; omega) (by omega))⟩
  go_wp2
  go_loopw [8] (fun s8 wr => ∃ i l, i ≤ Q ∧ s8 = .int .i64 (i : Int) ∧ OwnB wr (P4 + 1) K l ∧ ImB l n (fun j => decide (j < i) && fBase n j) ∧ Fr (fun k => k = P4 + 1) w3 wr) (fun s8 _ => Q - (intOf s8).toNat)
  case atStart =>
    refine ⟨0, zn K, Nat.zero_le _, rfl, H3.out.2.2.2.2.1, ?_, Fr.refl _ _⟩
    have := imb_start n hnb.1 (by omega)
    rw [HKn.out] at this
    exact this.cong (fun j hj => by simp)
  case round =>
    obtain ⟨i, l, h1, rfl, ho, hm2, hf⟩ := hrel
    have HJ : Hid (OwnB wr (P4 + 1) K l ∧ ImB l n (fun j => decide (j < i) && fBase n j) ∧ Fr (fun k => k = P4 + 1) w3 wr) := ⟨ho, hm2, hf⟩
    obtain ⟨f1, f2, f3, c1, c2, hbel⟩ := HF.out _ hf
    have HBel : Hid (Below w.heap.size w wr) := hbel
    clear hbel ho hm2 hf
    by_cases hlt : i < Q
    · have hlt' : (i : Int) < (Q : Int) := by omega
      have hK5 := HKn.out
      have h95 := HN9.out
      obtain ⟨d8, hd8⟩ : ∃ d8, i / 8 = d8 := ⟨_, rfl⟩
      obtain ⟨m8, hm8⟩ : ∃ m8, i % 8 = m8 := ⟨_, rfl⟩
      have hdL : (d8 : Int) < (LB : Int) := by omega
      have e1 : (i : Int) / 8 = (d8 : Int) := by omega
      have e2 : (i : Int) % 8 = (m8 : Int) := by omega
      obtain ⟨q, hq⟩ : ∃ q, 50176 + d8 = q := ⟨_, rfl⟩
      have hll := HJ.out.2.1.len
      have hqK : q < K := by omega
      have hc := HJ.out.1.cell q (by omega)
      have hfz := HJ.out.1.frozen q
      obtain ⟨x, hx⟩ : ∃ x, nth l q = x := ⟨_, rfl⟩
      rw [hx] at hc
      have hxb : 0 ≤ x ∧ x < 256 := by rw [← hx]; exact HJ.out.1.wf q
      have hmb : m8 < 8 := by omega
      obtain ⟨y, hy⟩ : ∃ y, byt x m8 true = y := ⟨_, rfl⟩
      have hor : bits .or .u8 x (2 ^ m8) = y := by rw [or_u8 x m8 hxb hmb, hy]
      have hpw : ((2 : Int) ^ m8) % 256 = 2 ^ m8 := by rw [← hm8]; exact pow_256 i
      have hyb : 0 ≤ y ∧ y < 256 := by rw [← hy]; exact byt_bd x m8 true hmb hxb
      have HD : Hid (fBase n i = true → OwnB (wr.setCell ⟨P4 + 1, q, none⟩ (.int .u8 y)) (P4 + 1) K (bput l (401408 + i) true) ∧ ImB (bput l (401408 + i) true) n (fun j => decide (j < i + 1) && fBase n j) ∧ Fr (fun k => k = P4 + 1) w3 (wr.setCell ⟨P4 + 1, q, none⟩ (.int .u8 y))) := fun hfi => by
        refine ⟨?_, (HJ.out.2.1.put (i := i) HJ.out.1.wf hnb.1 (by omega) (by omega)).cong (fun j hj => ?_), HJ.out.2.2.trans Fr.set (fun k hk => .inl hk)⟩
        · rw [bput, show (401408 + i) / 8 = q by omega, show (401408 + i) % 8 = m8 by omega, hx, hy]
          exact HJ.out.1.set q y (by omega) hyb
        · by_cases e : j = i
          · subst e; rw [upN_same, hfi, decide_eq_true (by omega)]; rfl
          · rw [upN_other _ _ e]
            show (decide (j < i) && fBase n j) = (decide (j < i + 1) && fBase n j)
            by_cases e2 : j < i
            · rw [decide_eq_true e2, decide_eq_true (by omega)]
            · rw [decide_eq_false e2, decide_eq_false (by omega)]
      have HSk : Hid (fBase n i = false → ImB l n (fun j => decide (j < i + 1) && fBase n j)) := fun hfi => HJ.out.2.1.cong (fun j hj => by
        show (decide (j < i) && fBase n j) = (decide (j < i + 1) && fBase n j)
        by_cases e : j = i
        · subst e; rw [hfi, Bool.and_false, Bool.and_false]
        · by_cases e2 : j < i
          · rw [decide_eq_true e2, decide_eq_true (by omega)]
          · rw [decide_eq_false e2, decide_eq_false (by omega)])
      clear hd8 hm8 hx hy hK5 h95 hll
      by_cases cA : i < lo
      · have cA' : (i : Int) < (lo : Int) := by omega
        have HT : Hid (fBase n i = true) := by
          have h95 := HN9.out
          show _ = _
          rw [fBase, h95.2.1, decide_eq_true cA]; rfl
        go_upto_region 9 with (fail)
        go_region
        all_goals go_wp2
        all_goals (
          go_roundw
          case rel =>
            obtain ⟨r1, r2, r3⟩ := HD.out HT.out
            exact ⟨i + 1, _, by omega, by go_num, r1.on (by repeat (first | exact Below.refl _ _ | apply Below.drew)), r2, r3.trans (below_fr (by repeat (first | exact Below.refl _ _ | apply Below.drew)) (fun _ => False)) (fun _ e => e.elim)⟩
          case measure => simp [intOf]; omega)
      · have cA' : ¬ (i : Int) < (lo : Int) := by omega
        by_cases cB : n ≤ i
        · have cB' : (n : Int) ≤ (i : Int) := by omega
          have HT : Hid (fBase n i = true) := by
            show _ = _
            rw [fBase, decide_eq_true cB, Bool.or_true]
          go_upto_region 9 with (fail)
          go_region
          all_goals go_wp2
          all_goals (
            go_roundw
            case rel =>
              obtain ⟨r1, r2, r3⟩ := HD.out HT.out
              exact ⟨i + 1, _, by omega, by go_num, r1.on (by repeat (first | exact Below.refl _ _ | apply Below.drew)), r2, r3.trans (below_fr (by repeat (first | exact Below.refl _ _ | apply Below.drew)) (fun _ => False)) (fun _ e => e.elim)⟩
            case measure => simp [intOf]; omega)
        · have cB' : ¬ (n : Int) ≤ (i : Int) := by omega
          have HT : Hid (fBase n i = false) := by
            have h95 := HN9.out
            show _ = _
            rw [fBase, h95.2.1, decide_eq_false cA, decide_eq_false cB]; rfl
          go_wp2
          go_roundw
          case rel => exact ⟨i + 1, l, by omega, by go_num, HJ.out.1, HSk.out HT.out, HJ.out.2.2⟩
          case measure => simp [intOf]; omega
    · have hlt' : ¬ (i : Int) < (Q : Int) := by omega
      have HL1 : Hid (OwnB wr (P4 + 1) K l ∧ l.length = K ∧ ImB l n (fBase n) ∧ Fr (fun k => k = P4 + 1) w3 wr) := by
        have h95 := HN9.out
        refine ⟨HJ.out.1, by rw [HJ.out.2.1.len]; exact HKn.out, HJ.out.2.1.cong (fun j hj => ?_), HJ.out.2.2⟩
        show (decide (j < i) && fBase n j) = fBase n j
        rw [decide_eq_true (by omega), Bool.true_and]
      clear HJ h1 hlt
      go_wp2
      go_loopw [61] (fun s61 wq => ∃ (j : Nat) (l' : List Int), j ≤ tl ∧ s61 = .int .i64 (j : Int) ∧ OwnB wq (P4 + 1) K l' ∧ l'.length = K ∧ (j = 0 → l' = l) ∧ Fr (fun k => k = P4 + 1) w3 wq) (fun s61 _ => tl - (intOf s61).toNat)
      case atStart => exact ⟨0, l, Nat.zero_le _, rfl, HL1.out.1, HL1.out.2.1, fun _ => rfl, HL1.out.2.2.2⟩
      case round =>
        obtain ⟨j, l2, hj, rfl, ho, hl2, hz, hf⟩ := hrel
        have HJ : Hid (OwnB wr (P4 + 1) K l2 ∧ l2.length = K ∧ (j = 0 → l2 = l) ∧ Fr (fun k => k = P4 + 1) w3 wr) := ⟨ho, hl2, hz, hf⟩
        clear f1 f2 f3 c1 c2
        obtain ⟨f1, f2, f3, c1, c2, hbel⟩ := HF.out _ hf
        have HBel2 : Hid (Below w.heap.size w wr) := hbel
        clear hbel ho hz hf
        by_cases hlt : j < tl
        · have hlt' : (j : Int) < (tl : Int) := by omega
          obtain ⟨bb, off, rfl, hcv⟩ : ∃ bb off, ta = some ⟨bb, off, none⟩ ∧ wr.cell? ⟨bb, off + j, none⟩ = some (.int .i64 (nth ts j)) := by
            rcases (HIn.out.1.on HBel2.out).at_ with e | ⟨bb, off, e, hc⟩
            · have := HIn.out.2.1; rw [e] at this; simp at this; omega
            · exact ⟨bb, off, e, hc j (by rw [HIn.out.2.1]; exact hlt)⟩
          obtain ⟨v, hv⟩ : ∃ v, nth ts j = v := ⟨_, rfl⟩
          rw [hv] at hcv
          clear hv
          obtain ⟨U, hU⟩ : ∃ U, v % 18446744073709551616 = U := ⟨_, rfl⟩
          have u0 : IntKind.u64.wrap v = U := by rw [← hU]; simp [IntKind.wrap, IntKind.bits, IntKind.signed]
          have hU0 : 0 ≤ U := by omega
          obtain ⟨Dn, hDn⟩ : ∃ Dn, n - lo = Dn := ⟨_, rfl⟩
          have hDp : 0 < Dn := by omega
          have eD : (n : Int) - (lo : Int) = (Dn : Int) := by omega
          have eDw : IntKind.i64.wrap (Dn : Int) = (Dn : Int) := by rw [IntKind.wrap_i64]; omega
          have eDu : IntKind.u64.wrap (Dn : Int) = (Dn : Int) := by simp [IntKind.wrap, IntKind.bits, IntKind.signed]; omega
          have hDz : ¬ (Dn : Int) = 0 := by omega
          obtain ⟨V, hV⟩ : ∃ V : Nat, U % (Dn : Int) = (V : Int) := ⟨(U % (Dn : Int)).toNat, by have := Int.emod_nonneg U hDz; omega⟩
          have hVb : V < Dn := by have := Int.emod_lt_of_pos U (show (0 : Int) < (Dn : Int) by omega); omega
          have u1 : IntKind.u64.wrap (V : Int) = (V : Int) := by simp [IntKind.wrap, IntKind.bits, IntKind.signed]; omega
          have u2 : IntKind.i64.wrap (V : Int) = (V : Int) := by rw [IntKind.wrap_i64]; omega
          obtain ⟨I, hI⟩ : ∃ I, lo + V = I := ⟨_, rfl⟩
          have eI : (lo : Int) + (V : Int) = (I : Int) := by omega
          have eIw : IntKind.i64.wrap (I : Int) = (I : Int) := by rw [IntKind.wrap_i64]; omega
          have hK5 := HKn.out
          have h95 := HN9.out
          have hIQ : I < Q := by have := hNm; omega
          obtain ⟨d8, hd8⟩ : ∃ d8, I / 8 = d8 := ⟨_, rfl⟩
          obtain ⟨m8, hm8⟩ : ∃ m8, I % 8 = m8 := ⟨_, rfl⟩
          have hdL : (d8 : Int) < (LB : Int) := by omega
          have e1 : (I : Int) / 8 = (d8 : Int) := by omega
          have e2 : (I : Int) % 8 = (m8 : Int) := by omega
          obtain ⟨q, hq⟩ : ∃ q, 50176 + d8 = q := ⟨_, rfl⟩
          have hqK : q < K := by omega
          have hc := HJ.out.1.cell q (by omega)
          have hfz := HJ.out.1.frozen q
          obtain ⟨x, hx⟩ : ∃ x, nth l2 q = x := ⟨_, rfl⟩
          rw [hx] at hc
          have hxb : 0 ≤ x ∧ x < 256 := by rw [← hx]; exact HJ.out.1.wf q
          have hmb : m8 < 8 := by omega
          obtain ⟨y, hy⟩ : ∃ y, byt x m8 true = y := ⟨_, rfl⟩
          have hor : bits .or .u8 x (2 ^ m8) = y := by rw [or_u8 x m8 hxb hmb, hy]
          have hpw : ((2 : Int) ^ m8) % 256 = 2 ^ m8 := by rw [← hm8]; exact pow_256 I
          have hyb : 0 ≤ y ∧ y < 256 := by rw [← hy]; exact byt_bd x m8 true hmb hxb
          have HD : Hid (∀ wx, Below wr.heap.size wr wx → OwnB (wx.setCell ⟨P4 + 1, q, none⟩ (.int .u8 y)) (P4 + 1) K (l2.set q y) ∧ (l2.set q y).length = K ∧ Fr (fun k => k = P4 + 1) w3 (wx.setCell ⟨P4 + 1, q, none⟩ (.int .u8 y))) := fun wx hbx => ⟨(HJ.out.1.on hbx).set q y (by omega) hyb, by rw [List.length_set]; exact HJ.out.2.1, (HJ.out.2.2.2.trans (below_fr hbx (fun _ => False)) (fun _ e => e.elim)).trans Fr.set (fun k hk => .inl hk)⟩
          have hTl : tl ≤ 1000000000000000 := by have := HIn.out.1.len; rw [HIn.out.2.1] at this; exact this
          clear hd8 hm8 hx hy hK5 h95 hl2 hU hDn hI hIQ
          go_upto_region 13 with (fail)
          go_quiet (fail)
          go_upto_region 14 with (fail)
          go_region
          all_goals go_wp2
          all_goals (
            go_roundw
            case rel =>
              obtain ⟨r1, r2, r3⟩ := HD.out (wr.drewN (nq + 1)) (drewN_below wr (nq + 1))
              exact ⟨j + 1, _, by omega, by go_num, r1, r2, fun e => by omega, r3⟩
            case measure => simp [intOf]; go_num)
        · have hlt' : ¬ (j : Int) < (tl : Int) := by omega
          have HL2 : Hid (OwnB wr (P4 + 1) K l2 ∧ l2.length = K ∧ (tl = 0 → l2 = l) ∧ Fr (fun k => k = P4 + 1) w3 wr) := ⟨HJ.out.1, HJ.out.2.1, fun e => HJ.out.2.2.1 (by omega), HJ.out.2.2.2⟩
          clear HJ hj hlt
          go_wp2
          go_loopw [94] (fun s94 wq => ∃ (j : Nat) (l' : List Int), j ≤ rl ∧ s94 = .int .i64 (j : Int) ∧ OwnB wq (P4 + 1) K l' ∧ l'.length = K ∧ (j = 0 → l' = l2) ∧ Fr (fun k => k = P4 + 1) w3 wq) (fun s94 _ => rl - (intOf s94).toNat)
          case atStart => exact ⟨0, l2, Nat.zero_le _, rfl, HL2.out.1, HL2.out.2.1, fun _ => rfl, HL2.out.2.2.2⟩
          case round =>
            obtain ⟨j, l3, hj, rfl, ho, hl3, hz, hf⟩ := hrel
            have HJ : Hid (OwnB wr (P4 + 1) K l3 ∧ l3.length = K ∧ (j = 0 → l3 = l2) ∧ Fr (fun k => k = P4 + 1) w3 wr) := ⟨ho, hl3, hz, hf⟩
            clear f1 f2 f3 c1 c2
            obtain ⟨f1, f2, f3, c1, c2, hbel⟩ := HF.out _ hf
            have HBel3 : Hid (Below w.heap.size w wr) := hbel
            clear hbel ho hz hf hl2
            by_cases hlt : j < rl
            · have hlt' : (j : Int) < (rl : Int) := by omega
              obtain ⟨q, hq⟩ : ∃ q, rs[j]? = some q := ⟨_, List.getElem?_eq_getElem (by rw [HIn.out.2.2.len]; exact hlt)⟩
              obtain ⟨num, ba, bn, bc, bs⟩ := q
              obtain ⟨bb, off, rfl, hc1, hc2, hbs, hbl, hbc⟩ : ∃ bb off, ra = some ⟨bb, off, none⟩ ∧ wr.cell? ⟨bb, off + j * 2, none⟩ = some (.int .i64 num) ∧ wr.cell? ⟨bb, off + j * 2 + 1, none⟩ = some (.slice ba bn bc) ∧ Bytes wr ba bs ∧ bs.length = bn ∧ (ba = none → bc = 0) := by
                rcases (HIn.out.2.2.on HBel3.out).at_ with e | ⟨bb, off, e, hc⟩
                · omega
                · obtain ⟨d1, d2, d3, d4, d5⟩ := hc j _ hq
                  exact ⟨bb, off, e, d1, d2, d3, d4, d5⟩
              have hRl : rl ≤ 1000000000000000 := by have := HRl.out; omega
              obtain ⟨wb, hwb⟩ : ∃ wb, wr.alloc (.cells #[.int .i64 num, .slice ba bn bc] 88) = wb := ⟨_, rfl⟩
              have HB : Hid (Below wr.heap.size wr wb ∧ wb.heap[wr.heap.size]? = some (.cells #[.int .i64 num, .slice ba bn bc] 88 (0, 0)) ∧ Bytes wr ba bs ∧ bs.length = bn ∧ (ba = none → bc = 0)) := by rw [← hwb]; exact ⟨below_new _, heap_alloc_new _ _, hbs, hbl, hbc⟩
              have n0 : wb.cell? ⟨wr.heap.size, 0, none⟩ = some (.int .i64 num) := by rw [cell_of_row _ _ _ _ _ _ HB.out.2.1]; rfl
              have n1 : wb.cell? ⟨wr.heap.size, 1, none⟩ = some (.slice ba bn bc) := by rw [cell_of_row _ _ _ _ _ _ HB.out.2.1]; rfl
              have F3 : wb.cell? ⟨P4, 3, none⟩ = some (.int .i64 (lo : Int)) := (HB.out.1.cell (p := ⟨P4, 3, none⟩) (block_lt_of_cell f3)).trans f3
              clear hbs hbl hbc hq hl3
              have HNo : Hid (OwnB wb (P4 + 1) K l3 ∧ Fr (fun k => k = P4 + 1) w3 wb) := ⟨HJ.out.1.on HB.out.1, HJ.out.2.2.2.trans (below_fr HB.out.1 (fun _ => False)) (fun _ e => e.elim)⟩
              by_cases cA : (lo : Int) ≤ num
              · by_cases cB : num < (n : Int)
                · obtain ⟨u, rfl⟩ : ∃ u : Nat, num = (u : Int) := ⟨num.toNat, by omega⟩
                  obtain ⟨A, hA⟩ : ∃ A, 512 * u = A := ⟨_, rfl⟩
                  have eA : (512 : Int) * (u : Int) = (A : Int) := by omega
                  have hK5 := HKn.out
                  have hAK : A + 512 ≤ K := by omega
                  have eAw : IntKind.i64.wrap (A : Int) = (A : Int) := by rw [IntKind.wrap_i64]; omega
                  obtain ⟨B, hB⟩ : ∃ B, A + 512 = B := ⟨_, rfl⟩
                  have eB : (A : Int) + 512 = (B : Int) := by omega
                  have eBw : IntKind.i64.wrap (B : Int) = (B : Int) := by rw [IntKind.wrap_i64]; omega
                  have hab1 : (A : Int) ≤ (B : Int) := by omega
                  have hab2 : (B : Int) ≤ (K : Int) := by omega
                  have eBA : B - A = 512 := by omega
                  have eBA2 : (B : Int) - (A : Int) = 512 := by omega
                  have hD9 : Below wb.heap.size wb wb.drew := (Below.refl _ _).drew
                  obtain ⟨kk, w5, E5, ⟨l5, ho5, hl5⟩, hf5⟩ := copy_len (w := wb.drew) (HNo.out.1.on hD9) 3 A 512 (K - A) (by rw [HJ.out.2.1]; exact hAK) ba bn bc bs ((HB.out.2.2.1.on HB.out.1).on hD9) HB.out.2.2.2.1 HB.out.2.2.2.2
                  have H5 : Hid (OwnB w5 (P4 + 1) K l5 ∧ l5.length = K ∧ Fr (fun k => k = P4 + 1) w3 w5) := ⟨ho5, by rw [hl5]; exact HJ.out.2.1, (HNo.out.2.trans (below_fr hD9 (fun _ => False)) (fun _ e => e.elim)).trans hf5 (fun _ e => .inl e)⟩
                  clear ho5 hl5 hf5 hA hB hK5
                  go_upto_region 20 with (fail)
                  go_region
                  all_goals go_wp2
                  all_goals (
                    go_roundw
                    case rel => exact ⟨j + 1, l5, by omega, by go_num, H5.out.1, H5.out.2.1, fun e => by omega, H5.out.2.2⟩
                    case measure => simp [intOf]; omega)
                · go_wp2
                  go_roundw
                  case rel => exact ⟨j + 1, l3, by omega, by go_num, HNo.out.1, HJ.out.2.1, fun e => by omega, HNo.out.2⟩
                  case measure => simp [intOf]; omega
              · go_wp2
                go_roundw
                case rel => exact ⟨j + 1, l3, by omega, by go_num, HNo.out.1, HJ.out.2.1, fun e => by omega, HNo.out.2⟩
                case measure => simp [intOf]; omega
            · have hlt' : ¬ (j : Int) < (rl : Int) := by omega
              have HL3 : Hid (OwnB wr (P4 + 1) K l3 ∧ l3.length = K ∧ (tl = 0 → rl = 0 → ImB l3 n (fBase n)) ∧ Fr (fun k => k = P4 + 1) w3 wr) := ⟨HJ.out.1, HJ.out.2.1, fun e e2 => by rw [HJ.out.2.2.1 (by omega), HL2.out.2.2.1 e]; exact HL1.out.2.2.1, HJ.out.2.2.2⟩
              clear HJ hj hlt f1 f2 f3 c1 c2
              have h5 := H3.out.2.2.2.2.2
              have hge := HL3.out.2.2.2.heap H3.out.2.1 (show ¬ P4 = P4 + 1 by omega)
              have hgr := HL3.out.2.2.2.heap H3.out.2.2.2.1 (show ¬ P + 1 = P4 + 1 by omega)
              have HGr : Hid (wr.heap[P + 1]? = some (.cells #[.int .i64 0, .int .i64 0, .int .i64 0, .int .i64 0, .int .i64 0] 29 (0, 0)) ∧ P + 1 < P4) := ⟨hgr, by omega⟩
              obtain ⟨f0, f1, f2, f3, f4⟩ := (show GeoAt wr P4 n from hge).cells
              have g0 : wr.cell? ⟨P + 1, 0, none⟩ = some (.int .i64 0) := cell_of_row _ _ 0 _ _ _ hgr
              have g1 : wr.cell? ⟨P + 1, 1, none⟩ = some (.int .i64 0) := cell_of_row _ _ 1 _ _ _ hgr
              have g2 : wr.cell? ⟨P + 1, 2, none⟩ = some (.int .i64 0) := cell_of_row _ _ 2 _ _ _ hgr
              have g3 : wr.cell? ⟨P + 1, 3, none⟩ = some (.int .i64 0) := cell_of_row _ _ 3 _ _ _ hgr
              have g4 : wr.cell? ⟨P + 1, 4, none⟩ = some (.int .i64 0) := cell_of_row _ _ 4 _ _ _ hgr
              have k0 : wr.frozen? ⟨P + 1, 0, none⟩ = false := frozen_of_row _ _ _ _ _ hgr
              have k1 : wr.frozen? ⟨P + 1, 1, none⟩ = false := frozen_of_row _ _ _ _ _ hgr
              have k2 : wr.frozen? ⟨P + 1, 2, none⟩ = false := frozen_of_row _ _ _ _ _ hgr
              have k3 : wr.frozen? ⟨P + 1, 3, none⟩ = false := frozen_of_row _ _ _ _ _ hgr
              have k4 : wr.frozen? ⟨P + 1, 4, none⟩ = false := frozen_of_row _ _ _ _ _ hgr
              clear hge hgr h5
              go_upto_region 22 with (fail)
              go_region
              all_goals go_wp2
              all_goals (
                have hG1 : (((((wr.setCell ⟨P + 1, 0, none⟩ (.int .i64 (n : Int))).setCell ⟨P + 1, 1, none⟩ (.int .i64 98)).setCell ⟨P + 1, 2, none⟩ (.int .i64 (gI n))).setCell ⟨P + 1, 3, none⟩ (.int .i64 (gD n))).setCell ⟨P + 1, 4, none⟩ (.int .i64 (gC n))).heap[P + 1]? = some (.cells #[.int .i64 (n : Int), .int .i64 98, .int .i64 (gI n), .int .i64 (gD n), .int .i64 (gC n)] 29 (0, 0)) := by
                  have a1 := heap_setCell_same _ _ 0 _ _ (.int .i64 (n : Int)) HGr.out.1
                  have a2 := heap_setCell_same _ _ 1 _ _ (.int .i64 98) a1
                  have a3 := heap_setCell_same _ _ 2 _ _ (.int .i64 (gI n)) a2
                  have a4 := heap_setCell_same _ _ 3 _ _ (.int .i64 (gD n)) a3
                  exact heap_setCell_same _ _ 4 _ _ (.int .i64 (gC n)) a4
                have hfr : Fr (fun k => k = P + 1) wr (((((wr.setCell ⟨P + 1, 0, none⟩ (.int .i64 (n : Int))).setCell ⟨P + 1, 1, none⟩ (.int .i64 98)).setCell ⟨P + 1, 2, none⟩ (.int .i64 (gI n))).setCell ⟨P + 1, 3, none⟩ (.int .i64 (gD n))).setCell ⟨P + 1, 4, none⟩ (.int .i64 (gC n))) := ((((Fr.set (g := P + 1)).trans (Fr.set (g := P + 1)) (fun _ h => .inl h)).trans (Fr.set (g := P + 1)) (fun _ h => .inl h)).trans (Fr.set (g := P + 1)) (fun _ h => .inl h)).trans (Fr.set (g := P + 1)) (fun _ h => .inl h)
                obtain ⟨wl, hwl⟩ : ∃ wl, ((((wr.setCell ⟨P + 1, 0, none⟩ (.int .i64 (n : Int))).setCell ⟨P + 1, 1, none⟩ (.int .i64 98)).setCell ⟨P + 1, 2, none⟩ (.int .i64 (gI n))).setCell ⟨P + 1, 3, none⟩ (.int .i64 (gD n))).setCell ⟨P + 1, 4, none⟩ (.int .i64 (gC n)) = wl := ⟨_, rfl⟩
                rw [hwl] at hG1 hfr ⊢
                have hGd : GeoAt wl.drew (P + 1) n := heap_drew hG1
                obtain ⟨u0, u1, u2, u3, u4⟩ := hGd.cells
                refine bodyPost_ret (v := .tuple #[.slice (some ⟨P4 + 1, 0, none⟩) K K, geoV n]) (res_tmp_row (fn := Tryd.f12) (p := 3) (u := 2) (ty := 29) rfl _ _ (P + 1) #[.int .i64 (n : Int), .int .i64 98, .int .i64 (gI n), .int .i64 (gD n), .int .i64 (gC n)] rfl ?_) rfl ?_
                · simp [go_sem, u0, u1, u2, u3, u4]
                · have hd : Below wl.heap.size wl wl.drew := (Below.refl _ _).drew
                  have hbl : Below w.heap.size w wl := (HF.out _ HL3.out.2.2.2).2.2.2.2.2.trans (hfr.below _ (fun k hk => by have hk : k = P + 1 := hk; have := HZ.out.2.2.2.2; omega) (HF.out _ HL3.out.2.2.2).2.2.2.2.2.size)
                  have hbd := hbl.trans (hd.mono hbl.size)
                  rw [HZ.out.2.2.2.2] at hbd
                  exact ⟨P4 + 1, rfl, by have := HGr.out.2; omega, hbd, l3, (HL3.out.1.fr hfr (by have := HGr.out.2; show ¬ P4 + 1 = P + 1; omega)).on hd, HL3.out.2.1, HL3.out.2.2.1⟩)
end Go.Proofs.YtgmccpimpbnnpaaDoor

namespace Go.Proofs.YtgmccpimpbnnpaaDoor
open Rec Go.ChangeShapes Go.WideShapes Go.ChangeAt Go.RowKit
theorem weightsAll_memS {H : Type} (P : Program) (e : TypeId) : ∀ (l : List (DataW H)) (d : DataW H), d ∈ l → ∀ n ∈ d.weights P e, n ∈ DataW.weightsAll P e l
  | x :: r, d, hd, n, hn => by
    rw [DataW.weightsAll]
    rcases List.mem_cons.1 hd with rfl | h
    · exact List.mem_append_left _ hn
    · exact List.mem_append_right _ (weightsAll_memS P e r d h n hn)
theorem list2s {α : Type} (l : List α) (h : l.length = 2) : ∃ a b, l = [a, b] := by
  match l, h with
  | [a, b], _ => exact ⟨a, b, rfl⟩
theorem list3s {α : Type} (l : List α) (h : l.length = 3) : ∃ a b c, l = [a, b, c] := by
  match l, h with
  | [a, b, c], _ => exact ⟨a, b, c, rfl⟩
theorem cellsBlk : Tryd.prog.cellsOf 88 = 2 := by kernel_rfl
theorem cellsByS : Tryd.prog.cellsOf 52 = 1 := by kernel_rfl
theorem cellsNS : Tryd.prog.cellsOf 3 = 1 := by kernel_rfl
theorem cellsStu : Tryd.prog.cellsOf 25 = 3 := by kernel_rfl
theorem cellsInS : Tryd.prog.cellsOf 22 = 1 := by kernel_rfl
theorem cellsBkS : Tryd.prog.cellsOf 23 = 1 := by kernel_rfl
theorem bytesBlk : Tryd.prog.bytesOf 88 = 32 := by kernel_rfl
abbrev RawR := Int × Option Addr × Nat × Nat × List Int
def RawOk (W : World) (q : RawR) : Prop := Bytes W q.2.1 q.2.2.2.2 ∧ q.2.2.2.2.length = q.2.2.1 ∧ (q.2.1 = none → q.2.2.2.1 = 0)
theorem open_blk {H : Type} {enc : TypeId × Value → H} {W : World} {cs : List Value} {D : DataW H} {Pl : List MemPlace} {fuel : Nat}
    (hf : DataW.trod enc Tryd.prog W 0 (fun _ => true) true fuel 88 cs = some (D, Pl)) (hz : ∀ n ∈ D.weights Tryd.prog 88, n ≤ reachBytes) :
    ∃ q : RawR, RawOk W q ∧ cs = [.int .i64 q.1, .slice q.2.1 q.2.2.1 q.2.2.2.1] := by
  obtain ⟨xs, m, hm, hx, hlen, hxl, hel⟩ := DataW.trod_struct Tryd.underlying88 hf
  rw [cellsBlk] at hlen
  obtain ⟨v0, v1, rfl⟩ := list2s cs hlen
  obtain ⟨x0, x1, rfl⟩ := list2s xs hxl
  have e0 := hel 0 _ rfl
  have e1 := hel 1 _ rfl
  clear hel
  simp [cellsNS, cellsByS] at e0 e1
  obtain ⟨b, z0, _, _⟩ := DataW.trod_int Tryd.underlying3 e0
  have h2 : ∃ a len cap, [v1] = [Value.slice a len cap] := by
    rcases open_ints Tryd.underlying52 Tryd.underlying5 cells5 e1 with ⟨hcs, _⟩ | ⟨x, l, c, zs, hcs, _⟩
    · exact ⟨_, _, _, hcs⟩
    · exact ⟨_, _, _, hcs⟩
  obtain ⟨a2, n2, c2, h2⟩ := h2
  simp at z0 h2
  subst z0 h2
  have hD : D = .agg [x0.1, x1.1] := (Prod.mk.inj hx).1
  subst hD
  have w2 : ∀ n ∈ x1.1.weights Tryd.prog 52, n ≤ reachBytes := fun n hn => hz n (by
    simp only [DataW.weights, Tryd.underlying88, List.map_cons, List.map_nil, DataW.weightsEach]
    exact List.mem_append_right _ (List.mem_append_left _ hn))
  have hb := open_bytes e1 w2
  obtain ⟨bs, t1, t2, t3⟩ := hb
  refine ⟨⟨b, a2, n2, c2, bs⟩, ⟨t2, t1, ?_⟩, rfl⟩
  first | exact t3.1 | exact t3
theorem open_blks {H : Type} {enc : TypeId × Value → H} {W : World} {a : Option Addr} {len cap : Nat} {d : DataW H} {p : List MemPlace} {fuel : Nat}
    (hf : DataW.trod enc Tryd.prog W 0 (fun _ => true) true fuel 23 [.slice a len cap] = some (d, p)) (hz : ∀ n ∈ d.weights Tryd.prog 23, n ≤ reachBytes) :
    ∃ L : List RawR, RawAt W a len L ∧ len ≤ 1000000000000000 := by
  rcases Deep.open_slice Tryd.underlying23 hf with ⟨hcs, _⟩ | ⟨x, len', cap', m, n, D, Pl, hcs, _, hl, hm, hmm, hx, hel⟩
  · simp at hcs
    obtain ⟨rfl, rfl, rfl⟩ := hcs
    exact ⟨[], ⟨rfl, .inl rfl⟩, by omega⟩
  · simp only [List.cons.injEq, Value.slice.injEq, and_true] at hcs
    obtain ⟨rfl, rfl, rfl⟩ := hcs
    simp only [Prod.mk.injEq] at hx
    obtain ⟨rfl, _⟩ := hx
    simp only [if_true] at hmm
    subst hmm
    have hlen : len ≤ 1000000000000000 := by
      have h2 := hz ((((List.range len).map D).length + ((List.range (m - len)).map fun j => D (len + j)).length) * Tryd.prog.bytesOf 88) (by simp [DataW.weights, Tryd.underlying23])
      rw [bytesBlk] at h2
      simp [reachBytes] at h2
      omega
    have hw : ∀ i, i < len → ∀ k ∈ (D i).weights Tryd.prog 88, k ≤ reachBytes := by
      intro i hi k hk
      refine hz k ?_
      have := weightsAll_memS Tryd.prog 88 ((List.range len).map D) (D i) (List.mem_map.2 ⟨i, List.mem_range.2 hi, rfl⟩) k hk
      simp only [DataW.weights, Tryd.underlying23]
      exact List.mem_cons_of_mem _ (List.mem_append_left _ this)
    have hex : ∀ i, i < len → ∃ q : RawR, RawOk W q ∧ ∀ j, j < 2 → W.cell? ((x.add (i * 2)).add j) = [Value.int .i64 q.1, .slice q.2.1 q.2.2.1 q.2.2.2.1][j]? := by
      intro i hi
      obtain ⟨cs', hc1, hc2⟩ := hel i (by omega)
      rw [cellsBlk] at hc1
      obtain ⟨q, q1, rfl⟩ := open_blk hc2 (hw i hi)
      obtain ⟨_, _, hcell⟩ := World.cells?_some hc1
      exact ⟨q, q1, hcell⟩
    obtain ⟨L, hL, h1, h2⟩ := recs_list 2 (fun q : RawR => [Value.int .i64 q.1, .slice q.2.1 q.2.2.1 q.2.2.2.1]) (RawOk W) W x len hex len (Nat.le_refl _)
    refine ⟨L, ⟨hL, ?_⟩, hlen⟩
    by_cases h0 : len = 0
    · exact .inl h0
    · obtain ⟨q, _, q1⟩ := hex 0 (by omega)
      have c0 := q1 0 (by omega)
      obtain ⟨b, off, spot⟩ := x
      have hspot : spot = none := by
        have := World.cell?_spot (w := W) (show W.cell? _ = some _ from c0)
        simpa [Addr.add] using this
      subst hspot
      refine .inr ⟨b, off, rfl, fun i q hq => ?_⟩
      have hh := h2 i q hq
      have ad : ∀ j, ((⟨b, off, none⟩ : Addr).add (i * 2)).add j = ⟨b, off + i * 2 + j, none⟩ := fun j => by rw [Addr.add_lit, Addr.add_lit]
      refine ⟨?_, ?_, h1 q (List.mem_of_getElem? hq)⟩
      · have := hh 0 (by omega); rw [ad] at this; exact this
      · have := hh 1 (by omega); rw [ad] at this; exact this
set_option maxRecDepth 100000 in
theorem okWide_stu {W : World} {base : Nat} {v : Value} (h : Value.okWide Tryd.prog W .any base 25 v) : ∃ cs, v = .agg cs := by
  obtain ⟨cs, h1, _⟩ := okWide_struct Tryd.underlying25 h
  exact ⟨cs, h1⟩
theorem open_stu {H : Type} {enc : TypeId × Value → H} {W : World} {v : Value} {D : DataW H} {Pl : List MemPlace} {fuel : Nat} (hv : ∃ cs, v = .agg cs)
    (hf : DataW.trod enc Tryd.prog W 0 (fun _ => true) true fuel 25 v.cells.toList = some (D, Pl)) (hz : ∀ n ∈ D.weights Tryd.prog 25, n ≤ reachBytes) :
    ∃ (M : Int) (ta : Option Addr) (tl tc : Nat) (ra : Option Addr) (rl rc : Nat) (ts : List Int) (rs : List RawR), v = stuV M ta tl tc ra rl rc ∧ Ints W ta ts ∧ ts.length = tl ∧ RawAt W ra rl rs ∧ rl ≤ 1000000000000000 := by
  obtain ⟨cs, rfl⟩ := hv
  obtain ⟨xs, m, hm, hx, hlen, hxl, hel⟩ := DataW.trod_struct Tryd.underlying25 hf
  rw [cellsStu] at hlen
  obtain ⟨v0, v1, v2, hcs⟩ := list3s _ hlen
  obtain ⟨x0, x1, x2, rfl⟩ := list3s xs hxl
  rw [hcs] at hel
  have e0 := hel 0 _ rfl
  have e1 := hel 1 _ rfl
  have e2 := hel 2 _ rfl
  clear hel
  simp [cellsNS, cellsInS, cellsBkS] at e0 e1 e2
  obtain ⟨M, z0, _, w0⟩ := DataW.trod_int Tryd.underlying3 e0
  have h1 : ∃ a len cap, [v1] = [Value.slice a len cap] := by
    rcases Deep.open_slice Tryd.underlying22 e1 with ⟨hcs, _⟩ | ⟨x, l, c, m, n, D, Pl, hcs, _⟩
    · exact ⟨_, _, _, hcs⟩
    · exact ⟨_, _, _, hcs⟩
  have h2 : ∃ a len cap, [v2] = [Value.slice a len cap] := by
    rcases Deep.open_slice Tryd.underlying23 e2 with ⟨hcs, _⟩ | ⟨x, l, c, m, n, D, Pl, hcs, _⟩
    · exact ⟨_, _, _, hcs⟩
    · exact ⟨_, _, _, hcs⟩
  obtain ⟨a1, n1, c1, h1⟩ := h1
  obtain ⟨a2, n2, c2, h2⟩ := h2
  simp at z0 h1 h2
  subst z0 h1 h2
  have hD : D = .agg [x0.1, x1.1, x2.1] := (Prod.mk.inj hx).1
  subst hD
  have w1 : ∀ n ∈ x1.1.weights Tryd.prog 22, n ≤ reachBytes := fun n hn => hz n (by
    simp only [DataW.weights, Tryd.underlying25, List.map_cons, List.map_nil, DataW.weightsEach]
    exact List.mem_append_right _ (List.mem_append_left _ hn))
  have w2 : ∀ n ∈ x2.1.weights Tryd.prog 23, n ≤ reachBytes := fun n hn => hz n (by
    simp only [DataW.weights, Tryd.underlying25, List.map_cons, List.map_nil, DataW.weightsEach]
    exact List.mem_append_right _ (List.mem_append_right _ (List.mem_append_left _ hn)))
  obtain ⟨ts, t1, t2, _⟩ := open_nums e1 w1
  obtain ⟨rs, r1, r2⟩ := open_blks e2 w2
  have hc : cs = #[.int .i64 M, .slice a1 n1 c1, .slice a2 n2 c2] := by
    cases cs with
    | mk l =>
      have : l = [.int .i64 M, .slice a1 n1 c1, .slice a2 n2 c2] := hcs
      rw [this]
  exact ⟨M, a1, n1, c1, a2, n2, c2, ts, rs, by rw [hc]; rfl, t2, t1, r1, r2⟩
end Go.Proofs.YtgmccpimpbnnpaaDoor

namespace Go.Proofs.YtgmccpimpbnnpaaDoor
open Go.RowKit Go.Maps Rec
set_option maxRecDepth 100000 in
set_option maxHeartbeats 1600000 in
theorem copied3_any (w : World) (p : Addr) (n c : Nat) (l : List Int) (hb : Bytes w (some p) l) (hl : l.length = n) (h0 : 0 < n) (h1 : n ≤ 100000000) : Calls Tryd.prog 38 #[.slice (some p) n c] w fun e w' => ∃ g cap, e = .returned (.slice (some ⟨g, 0, none⟩) n cap) ∧ Below w.heap.size w w' := by
  have HB : Hid (Bytes w (some p) l ∧ l.length = n) := ⟨hb, hl⟩
  clear hb hl
  go_enter Tryd.func38, Tryd.ntmps38
  go_wp2_with (at_builtin; refine wp_bown rfl (.tmp 4) (.tmp 5) rfl (.slice none 0 0) 0 [] rfl ⟨rfl, .inl ⟨rfl, rfl⟩⟩ p n c l rfl h0 HB.out.2 HB.out.1 (by omega) ?_; intro g cap w1 h1 h2 h3; have H1 : Hid (Below w.heap.size w w1) := h2.below _ (fun k hk => by cases hk) (Nat.le_refl _); clear h1 h2 h3)
  go_ret
  exact ⟨g, cap, rfl, H1.out⟩
set_option maxRecDepth 100000 in
set_option maxHeartbeats 1600000 in
theorem r3of_any (w : World) (p : Addr) (n c : Nat) (l : List Int) (hb : Bytes w (some p) l) (hl : l.length = 512 * n) (h0 : 1 ≤ n) (h1 : n ≤ 16384) : Calls Tryd.prog 14 #[.slice (some p) (512 * n : Nat) c] w fun e w' => ∃ r, e = .returned (.tuple #[.pointer (some ⟨r, 0, none⟩), .int .i64 0]) ∧ Below w.heap.size w w' := by
  obtain ⟨K, hK⟩ : ∃ K, 512 * n = K := ⟨_, rfl⟩
  rw [hK]
  have HC : Hid (Calls Tryd.prog 38 #[.slice (some p) K c] w fun e w' => ∃ g cap, e = .returned (.slice (some ⟨g, 0, none⟩) K cap) ∧ Below w.heap.size w w') := copied3_any w p K c l hb (by omega) (by omega) (by omega)
  have k0 : ¬ (K : Int) = 0 := by omega
  have k0' : 0 < K := by omega
  have k1 : (K : Int) % 512 = 0 := by omega
  have k2 : (K : Int) / 512 = (n : Int) := by omega
  have k3 : (K : Int) ≤ 100000000 := by omega
  have k4 : ((K : Int) == 0) = false := by simp; omega
  have k5 : ¬ (16384 : Int) < (n : Int) := by omega
  have k6 : decide ((n : Int) > 16384) = false := by simp; omega
  have k7 : decide ((16384 : Int) < (n : Int)) = false := by simp; omega
  clear hb hl hK
  go_enter Tryd.func14, Tryd.ntmps14
  go_wp2_with (go_at_call 38; refine HC.out.mono ?_; rintro e w1 ⟨g, cap, rfl, h2⟩; have H2 : Hid (Below w.heap.size w w1) := h2; clear h2)
  go_ret2
  exact ⟨_, rfl, H2.out.alloc H2.out.size _⟩
set_option maxRecDepth 100000 in
theorem r6begin_any (w : World) (r : Nat) : Calls Tryd.prog 16 #[.pointer (some ⟨r, 0, none⟩)] w fun e w' => ∃ t, e = .returned (.pointer (some ⟨t, 0, none⟩)) ∧ Below w.heap.size w w' := by
  go_enter Tryd.func16, Tryd.ntmps16
  go_wp2
  go_ret
  exact ⟨_, rfl, (Below.refl _ _).alloc (Nat.le_refl _) _⟩
end Go.Proofs.YtgmccpimpbnnpaaDoor
