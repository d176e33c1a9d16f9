import Derived.Test.YtflienghgobmoaaGreatDoorKYsC
namespace Go.Proofs.YtflienghgobmoaaGreatDoor
open Go.RowKit Go.Maps Rec

/-- a case in a box -/
def CsAt (w : World) (p : Nat) (N : Int) (bits : Value) (rest : Int) (sc : Value) : Prop := w.heap[p]? = some (.cells #[.int .i64 N, bits, .int .u8 rest, sc] 25 (0, 0))
theorem CsAt.cells {w : World} {p : Nat} {N : Int} {bits : Value} {rest : Int} {sc : Value} (h : CsAt w p N bits rest sc) : w.cell? ⟨p, 0, none⟩ = some (.int .i64 N) ∧ w.cell? ⟨p, 1, none⟩ = some bits ∧ w.cell? ⟨p, 2, none⟩ = some (.int .u8 rest) ∧ w.cell? ⟨p, 3, none⟩ = some sc := by
  have hc := fun j => cell_of_row _ _ j _ _ _ h
  exact ⟨hc 0, hc 1, hc 2, hc 3⟩
theorem CsAt.on {w w' : World} {p : Nat} {N : Int} {bits : Value} {rest : Int} {sc : Value} (h : CsAt w p N bits rest sc) (hb : Below w.heap.size w w') : CsAt w' p N bits rest sc := (hb.block p (heap_lt h)).trans h
theorem or_u8 (x : Int) (k : Nat) (hx : 0 ≤ x ∧ x < 256) (hk : k < 8) : bits .or .u8 x (2 ^ k) = byt x k true := (bits_u8 x k hx hk).2.1
theorem and1 (v : Int) (k : Nat) (hv : 0 ≤ v ∧ v < 256) : (bits BinOp.and IntKind.u8 (v / 2 ^ k) 1 == 1) = (v / 2 ^ k % 2 == 1) := by
  have h2 : (0 : Int) < 2 ^ k := Int.pow_pos (by omega)
  have h0 : 0 ≤ v / 2 ^ k := Int.ediv_nonneg hv.1 (Int.le_of_lt h2)
  have h1 : v / 2 ^ k ≤ v := Int.ediv_le_self _ hv.1
  have := (bits_u8 (v / 2 ^ k) 0 ⟨h0, by omega⟩ (by omega)).1
  simp only [Int.pow_zero, Int.ediv_one, Int.mul_one] at this
  rw [this]
set_option maxRecDepth 100000 in
set_option maxHeartbeats 16000000 in
theorem image9 (w : World) (N : Int) (hN : -9223372036854775808 ≤ N ∧ N ≤ 9223372036854775807) (ba : Option Addr) (bl bc : Nat) (rest : Int) (hr : 0 ≤ rest ∧ rest < 256) (sa : Option Addr) (sl sc : Nat) (bs : List Int) (hb : Bytes w ba bs) (hl : bs.length = bl) :
    Calls Tryz.prog 5 #[csV N (.slice ba bl bc) rest (.slice sa sl sc)] w fun e w' => ∃ g, e = .returned (.slice (some ⟨g, 0, none⟩) (512 * nBl N) (512 * nBl N)) ∧ w.heap.size ≤ g ∧ Below w.heap.size w w' ∧ ∃ l, OwnB w' g (512 * nBl N) l ∧ Img l (nBl N) (fB (nBl N) bs rest) := by
  have HB : Hid (∀ wx, Calls Tryz.prog 9 #[csV N (.slice ba bl bc) rest (.slice sa sl sc)] wx fun e w' => e = .returned (.int .i64 (nBl N : Nat)) ∧ Below wx.heap.size wx w') := fun wx => blocks9 wx N hN ba bl bc rest sa sl sc
  have hnb := nBl_bd N
  obtain ⟨n, hn⟩ : ∃ n, nBl N = n := ⟨_, rfl⟩
  rw [hn] at HB hnb
  rw [hn]
  clear hn hN
  have hNm := nM_bd hnb.1 (by omega)
  have HG : Hid (∀ wx, Calls Tryz.prog 8 #[.int .i64 (n : Int)] wx fun e w' => e = .returned (geoV n) ∧ Below wx.heap.size wx w') := fun wx => geo9 wx n hnb.1 (by omega)
  obtain ⟨K, hK⟩ : ∃ K, 512 * n = K := ⟨_, rfl⟩
  have hK' : (n : Int) * 512 = (K : Int) := by omega
  obtain ⟨o, E2, ho⟩ := makeN K (by omega)
  have HO : Hid (∀ w : World, OwnB (w.alloc o) w.heap.size K (zn K)) := ho
  have HA : Hid (∀ o, Below w.heap.size w (w.alloc o)) := fun o => (Below.refl _ _).alloc (Nat.le_refl _) o
  unfold csV at HB
  unfold csV
  unfold geoV at HG
  obtain ⟨wz, hwz⟩ : ∃ wz, w.alloc (.cells #[.int .i64 N, .slice ba bl bc, .int .u8 rest, .slice sa sl sc] 25) = wz := ⟨_, rfl⟩
  have HZ : Hid (Below w.heap.size w wz ∧ CsAt wz w.heap.size N (.slice ba bl bc) rest (.slice sa sl sc)) := by
    rw [← hwz]; exact ⟨HA.out _, heap_alloc_new _ _⟩
  obtain ⟨z0, z1, z2, z3⟩ := HZ.out.2.cells
  rw [hK]
  have HKn : Hid (512 * n = K) := hK
  clear hK ho HA
  go_enter Tryz.func5, Tryz.ntmps5
  go_upto_region 4 with (first
    | (go_at_call 9; refine (HB.out _).mono ?_; rintro e w1 ⟨rfl, h1⟩; have H1 : Hid (Below wz.heap.size wz w1) := h1; clear h1 HB)
    | (go_at_call 8; refine (HG.out _).mono ?_; rintro e w2 ⟨rfl, h1⟩; have H2 : Hid (Below w1.heap.size w1 w2) := h1; clear h1 HG))
  obtain ⟨P4, hP4⟩ : ∃ P4, w2.heap.size = P4 := ⟨_, rfl⟩
  obtain ⟨w3, hw3⟩ : ∃ w3, (w2.alloc (.cells #[.int .i64 (n : Int), .int .i64 98, .int .i64 (gI n), .int .i64 (gD n), .int .i64 (gC n)] 36)).alloc o = w3 := ⟨_, rfl⟩
  have H3 : Hid (Below w.heap.size w w3 ∧ GeoAt w3 P4 n ∧ CsAt w3 w.heap.size N (.slice ba bl bc) rest (.slice sa sl sc) ∧ OwnB w3 (P4 + 1) K (zn K) ∧ w.heap.size < P4 ∧ w3.heap.size = P4 + 2) := by
    have h9 := heap_lt HZ.out.2
    have h8 := H1.out.size
    have h7 := H2.out.size
    have hb2 : Below wz.heap.size wz w2 := H1.out.trans (H2.out.mono h8)
    have hb3 : Below w2.heap.size w2 w3 := by rw [← hw3]; exact ((Below.refl _ _).alloc (Nat.le_refl _) _).alloc (by simp) _
    refine ⟨(HZ.out.1.trans (hb2.mono HZ.out.1.size)).trans (hb3.mono (Nat.le_trans HZ.out.1.size hb2.size)), ?_, (HZ.out.2.on hb2).on hb3, ?_, by omega, by rw [← hw3, World.size_alloc, World.size_alloc, hP4]⟩
    · rw [← hw3, ← hP4]; exact (Below.heap_alloc _ _ _ (by simp)).trans (heap_alloc_new _ _)
    · have := HO.out (w2.alloc (.cells #[.int .i64 (n : Int), .int .i64 98, .int .i64 (gI n), .int .i64 (gD n), .int .i64 (gC n)] 36))
      rw [World.size_alloc, hP4] at this
      rw [← hw3]
      exact this
  rw [hw3, hP4]
  clear hw3 hwz z0 z1 z2 z3 E2 HO
  obtain ⟨M, hM⟩ : ∃ M, nM n = M := ⟨_, rfl⟩
  obtain ⟨lo, hlo⟩ : ∃ lo, nD n = lo := ⟨_, rfl⟩
  rw [hM, hlo] at hNm
  obtain ⟨GI, hGI⟩ : ∃ GI, 98 + M = GI := ⟨_, rfl⟩
  obtain ⟨Q, hQ⟩ : ∃ Q, 4096 * M = Q := ⟨_, rfl⟩
  have eG : (GI : Int) - 98 = (M : Int) := by omega
  have eQ : (M : Int) * 4096 = (Q : Int) := by omega
  obtain ⟨L5, hL5⟩ : ∃ L5, 512 * lo = L5 := ⟨_, rfl⟩
  have eL : (lo : Int) * 512 = (L5 : Int) := by omega
  have hLK : L5 ≤ K := by have := HKn.out; omega
  have HN9 : Hid (nM n = M ∧ nD n = lo ∧ 98 + M = GI ∧ 4096 * M = Q ∧ 512 * lo = L5) := ⟨hM, hlo, hGI, hQ, hL5⟩
  have hg1 : gI (n : Int) = (GI : Int) := by rw [gI_nat, hM, hGI]
  have hg2 : gD (n : Int) = (lo : Int) := by rw [gD_nat, hlo]
  obtain ⟨f0, f1, f2, f3, f4⟩ := H3.out.2.1.cells
  obtain ⟨c0, c1, c2, c3⟩ := H3.out.2.2.1.cells
  rw [hg1] at f2
  rw [hg2] at f3
  clear hM hlo hGI hQ hL5 f0 f4 c0 c3
  rw [hg1, hg2]
  clear hg1 hg2
  have hQK : 50176 * 8 + Q ≤ 8 * L5 := by have := HN9.out; omega
  have HF : Hid (∀ wr, Fr (fun k => k = P4 + 1) w3 wr → wr.cell? ⟨P4, 1, none⟩ = some (.int .i64 98) ∧ wr.cell? ⟨P4, 2, none⟩ = some (.int .i64 (GI : Int)) ∧ wr.cell? ⟨P4, 3, none⟩ = some (.int .i64 (lo : Int)) ∧ wr.cell? ⟨w.heap.size, 1, none⟩ = some (.slice ba bl bc) ∧ wr.cell? ⟨w.heap.size, 2, none⟩ = some (.int .u8 rest) ∧ Bytes wr ba bs) := fun wr hf => by
    have h5 := H3.out.2.2.2.2.1
    have ne : ∀ k, k ≤ P4 → ¬ k = P4 + 1 := fun k hk => by omega
    refine ⟨hf.cell f1 (ne _ (by dsimp only; omega)), hf.cell f2 (ne _ (by dsimp only; omega)), hf.cell f3 (ne _ (by dsimp only; omega)), hf.cell c1 (ne _ (by dsimp only; omega)), hf.cell c2 (ne _ (by dsimp only; omega)), ?_⟩
    have hs3 := H3.out.2.2.2.2.2
    exact hb.on (H3.out.1.trans (hf.below _ (fun k hk => by have hk : k = P4 + 1 := hk; omega) (by omega)))
  go_wp2
  go_loopw [6] (fun s6 wr => ∃ i l, L5 ≤ i ∧ i ≤ K ∧ s6 = .int .i64 (i : Int) ∧ OwnB wr (P4 + 1) K l ∧ l.length = K ∧ (∀ p, p < K → nth l p = if L5 ≤ p ∧ p < i then 7 else 0) ∧ Fr (fun k => k = P4 + 1) w3 wr) (fun s6 _ => K - (intOf s6).toNat)
  case atStart =>
    exact ⟨L5, zn K, Nat.le_refl _, hLK, rfl, H3.out.2.2.2.1, zn_length _, fun p hp => by rw [zn, nth_rep _ _ _ hp, if_neg (by omega)], Fr.refl _ _⟩
  case round =>
    obtain ⟨i, l, h0, h1, rfl, ho, hll, hv, hf⟩ := hrel
    have HI : Hid (OwnB wr (P4 + 1) K l ∧ l.length = K ∧ (∀ p, p < K → nth l p = if L5 ≤ p ∧ p < i then 7 else 0) ∧ Fr (fun k => k = P4 + 1) w3 wr) := ⟨ho, hll, hv, hf⟩
    by_cases hlt : i < K
    · have hlt' : (i : Int) < (K : Int) := by omega
      have hc := ho.cell i (by omega)
      have hfz := ho.frozen i
      clear ho hv hf
      go_wp2
      go_roundw
      case rel =>
        refine ⟨i + 1, l.set i 7, by omega, by omega, (by go_num), HI.out.1.set i 7 (by omega) (by omega), by rw [List.length_set, hll], fun p hp => ?_, HI.out.2.2.2.trans Fr.set (fun k hk => .inl hk)⟩
        rw [nth_set _ _ _ _ (by omega)]
        by_cases e : p = i
        · rw [if_pos e, if_pos (by omega)]
        · rw [if_neg e, HI.out.2.2.1 p hp]
          by_cases e2 : L5 ≤ p ∧ p < i
          · rw [if_pos e2, if_pos (by omega)]
          · rw [if_neg e2, if_neg (by omega)]
      case measure => simp [intOf]; omega
    · have hlt' : ¬ (i : Int) < (K : Int) := by omega
      clear ho hv hf
      have HS2 : Hid (Im2 l n (fB n bs rest) 0) := im2_start _ hnb.1 (by omega) (by rw [hll]; exact HKn.out.symm) (fun p hp => by
        have h5 := HN9.out
        rw [HI.out.2.2.1 p (by have := HKn.out; omega), h5.2.1]
        by_cases e : 512 * lo ≤ p
        · rw [if_pos e, if_pos (by have := HKn.out; omega)]
        · rw [if_neg e, if_neg (by omega)])
      go_wp2
      go_loopw [7] (fun s7 wq => ∃ i l, i ≤ Q ∧ s7 = .int .i64 (i : Int) ∧ OwnB wq (P4 + 1) K l ∧ Im2 l n (fB n bs rest) i ∧ Fr (fun k => k = P4 + 1) w3 wq) (fun s7 _ => Q - (intOf s7).toNat)
      case atStart => exact ⟨0, l, Nat.zero_le _, rfl, HI.out.1, HS2.out, HI.out.2.2.2⟩
      case round =>
        obtain ⟨i, l, h1, rfl, ho, hm2, hf⟩ := hrel
        have HJ : Hid (OwnB wr (P4 + 1) K l ∧ Im2 l n (fB n bs rest) i ∧ Fr (fun k => k = P4 + 1) w3 wr) := ⟨ho, hm2, hf⟩
        obtain ⟨f1, f2, f3, c1, c2, hbb⟩ := HF.out _ hf
        have HBB : Hid (Bytes wr ba bs) := hbb
        clear hbb ho hm2 hf
        by_cases hlt : i < Q
        · have hlt' : (i : Int) < (Q : Int) := by omega
          have hK5 := HKn.out
          have h95 := HN9.out
          obtain ⟨q, hq⟩ : ∃ q, 50176 + i / 8 = q := ⟨_, rfl⟩
          have hqK : q < K := by omega
          have hqK' : (q : Int) < (K : Int) := by omega
          obtain ⟨d8, hd8⟩ : ∃ d8, i / 8 = d8 := ⟨_, rfl⟩
          obtain ⟨m8, hm8⟩ : ∃ m8, i % 8 = m8 := ⟨_, rfl⟩
          have e1 : (i : Int) / 8 = (d8 : Int) := by omega
          have e2 : (i : Int) % 8 = (m8 : Int) := by omega
          have e3 : (50176 : Int) + (d8 : Int) = (q : Int) := by omega
          have hll := HJ.out.2.1.len
          have hc := HJ.out.1.cell q (by omega)
          have hfz := HJ.out.1.frozen q
          obtain ⟨x, hx⟩ : ∃ x, nth l q = x := ⟨_, rfl⟩
          rw [hx] at hc
          have hxb : 0 ≤ x ∧ x < 256 := by rw [← hx]; exact HJ.out.1.wf q
          have hmb : m8 < 8 := by omega
          obtain ⟨y, hy⟩ : ∃ y, byt x m8 true = y := ⟨_, rfl⟩
          have hor : bits .or .u8 x (2 ^ m8) = y := by rw [or_u8 x m8 hxb hmb, hy]
          have hpw : ((2 : Int) ^ m8) % 256 = 2 ^ m8 := by rw [← hm8]; exact pow_256 i
          have hyb : 0 ≤ y ∧ y < 256 := by rw [← hy]; exact byt_bd x m8 true hmb hxb
          have HD : Hid (fB n bs rest i = true → OwnB (wr.setCell ⟨P4 + 1, q, none⟩ (.int .u8 y)) (P4 + 1) K (bput l (401408 + i) true) ∧ Im2 (bput l (401408 + i) true) n (fB n bs rest) (i + 1) ∧ Fr (fun k => k = P4 + 1) w3 (wr.setCell ⟨P4 + 1, q, none⟩ (.int .u8 y))) := fun hfi => by
            refine ⟨?_, HJ.out.2.1.put HJ.out.1.wf hfi hnb.1 (by omega) (by omega), HJ.out.2.2.trans Fr.set (fun k hk => .inl hk)⟩
            rw [bput, show (401408 + i) / 8 = q by omega, show (401408 + i) % 8 = m8 by omega, hx, hy]
            exact HJ.out.1.set q y (by omega) hyb
          clear hq hd8 hm8 hx hy hK5 h95 hll
          by_cases cA : i < lo
          · have cA' : (i : Int) < (lo : Int) := by omega
            have HT : Hid (fB n bs rest i = true) := by
              have h95 := HN9.out
              show _ = _
              rw [fB, h95.2.1, decide_eq_true (.inl cA)]; rfl
            go_upto_region 19 with (fail)
            go_region
            all_goals go_wp2
            all_goals
              go_roundw
              case rel =>
                obtain ⟨r1, r2, r3⟩ := HD.out HT.out
                exact ⟨i + 1, _, by omega, by go_num, r1.on (by repeat (first | exact Below.refl _ _ | apply Below.drew)), r2, r3.trans (below_fr (by repeat (first | exact Below.refl _ _ | apply Below.drew)) (fun _ => False)) (fun _ e => e.elim)⟩
              case measure => simp [intOf]; omega
          · have cA' : ¬ (i : Int) < (lo : Int) := by omega
            by_cases cB : n ≤ i
            · have cB' : (n : Int) ≤ (i : Int) := by omega
              have HT : Hid (fB n bs rest i = true) := by
                show _ = _
                rw [fB, decide_eq_true (.inr cB)]; rfl
              go_upto_region 19 with (fail)
              go_region
              all_goals go_wp2
              all_goals
                go_roundw
                case rel =>
                  obtain ⟨r1, r2, r3⟩ := HD.out HT.out
                  exact ⟨i + 1, _, by omega, by go_num, r1.on (by repeat (first | exact Below.refl _ _ | apply Below.drew)), r2, r3.trans (below_fr (by repeat (first | exact Below.refl _ _ | apply Below.drew)) (fun _ => False)) (fun _ e => e.elim)⟩
                case measure => simp [intOf]; omega
            · have cB' : ¬ (n : Int) ≤ (i : Int) := by omega
              obtain ⟨k, hk⟩ : ∃ k, i - lo = k := ⟨_, rfl⟩
              have ek : (i : Int) - (lo : Int) = (k : Int) := by omega
              obtain ⟨kd, hkd⟩ : ∃ kd, k / 8 = kd := ⟨_, rfl⟩
              obtain ⟨km, hkm⟩ : ∃ km, k % 8 = km := ⟨_, rfl⟩
              have ed : (k : Int) / 8 = (kd : Int) := by omega
              have em : (k : Int) % 8 = (km : Int) := by omega
              have hkm8 : km < 8 := by omega
              by_cases cD : kd < bl
              · have cD' : (kd : Int) < (bl : Int) := by omega
                obtain ⟨bb, off, rfl, hcb⟩ : ∃ bb off, ba = some ⟨bb, off, none⟩ ∧ ∀ j, j < bs.length → wr.cell? ⟨bb, off + j, none⟩ = some (.int .u8 (nth bs j)) := by
                  rcases HBB.out.at_ with e | ⟨bb, off, e, hc⟩
                  · rw [e] at hl; simp at hl; omega
                  · exact ⟨bb, off, e, hc⟩
                have hcv := hcb kd (by omega)
                obtain ⟨v, hv⟩ : ∃ v, nth bs kd = v := ⟨_, rfl⟩
                have hvb : 0 ≤ v ∧ v < 256 := by rw [← hv]; exact HBB.out.wf kd
                rw [hv] at hcv
                clear hcb
                obtain ⟨b9, hb9⟩ : ∃ b9, fB n bs rest i = b9 := ⟨_, rfl⟩
                have hbe : (bits BinOp.and IntKind.u8 (v / 2 ^ km) 1 == 1) = b9 := by
                  have h95 := HN9.out
                  rw [← hb9, fB, h95.2.1, hk, hkd, hkm, decide_eq_false (by omega), Bool.false_or, if_pos (by omega), hv, and1 v km hvb]
                cases b9 with
                | true =>
                  have HT : Hid (fB n bs rest i = true) := hb9
                  clear hb9
                  go_upto_region 19 with (fail)
                  go_region
                  all_goals go_wp2
                  all_goals
                    go_roundw
                    case rel =>
                      obtain ⟨r1, r2, r3⟩ := HD.out HT.out
                      exact ⟨i + 1, _, by omega, by go_num, r1.on (by repeat (first | exact Below.refl _ _ | apply Below.drew)), r2, r3.trans (below_fr (by repeat (first | exact Below.refl _ _ | apply Below.drew)) (fun _ => False)) (fun _ e => e.elim)⟩
                    case measure => simp [intOf]; omega
                | false =>
                  have HT : Hid (fB n bs rest i = false) := hb9
                  clear hb9
                  go_wp2
                  go_roundw
                  case rel => exact ⟨i + 1, l, by omega, by go_num, HJ.out.1, HJ.out.2.1.skip HT.out, HJ.out.2.2⟩
                  case measure => simp [intOf]; omega
              · have cD' : ¬ (kd : Int) < (bl : Int) := by omega
                obtain ⟨v, hv⟩ : ∃ v, rest = v := ⟨_, rfl⟩
                have hvb : 0 ≤ v ∧ v < 256 := by rw [← hv]; exact hr
                subst hv
                obtain ⟨b9, hb9⟩ : ∃ b9, fB n bs rest i = b9 := ⟨_, rfl⟩
                have hbe : (bits BinOp.and IntKind.u8 (rest / 2 ^ km) 1 == 1) = b9 := by
                  have h95 := HN9.out
                  rw [← hb9, fB, h95.2.1, hk, hkd, hkm, decide_eq_false (by omega), Bool.false_or, if_neg (by omega), and1 rest km hvb]
                cases b9 with
                | true =>
                  have HT : Hid (fB n bs rest i = true) := hb9
                  clear hb9
                  go_upto_region 19 with (fail)
                  go_region
                  all_goals go_wp2
                  all_goals
                    go_roundw
                    case rel =>
                      obtain ⟨r1, r2, r3⟩ := HD.out HT.out
                      exact ⟨i + 1, _, by omega, by go_num, r1.on (by repeat (first | exact Below.refl _ _ | apply Below.drew)), r2, r3.trans (below_fr (by repeat (first | exact Below.refl _ _ | apply Below.drew)) (fun _ => False)) (fun _ e => e.elim)⟩
                    case measure => simp [intOf]; omega
                | false =>
                  have HT : Hid (fB n bs rest i = false) := hb9
                  clear hb9
                  go_wp2
                  go_roundw
                  case rel => exact ⟨i + 1, l, by omega, by go_num, HJ.out.1, HJ.out.2.1.skip HT.out, HJ.out.2.2⟩
                  case measure => simp [intOf]; omega
        · have hlt' : ¬ (i : Int) < (Q : Int) := by omega
          go_wp2
          go_ret
          have e : i = 4096 * nM n := by have := HN9.out; omega
          subst e
          have hs3 := H3.out.2.2.2.2
          exact ⟨P4 + 1, rfl, by omega, H3.out.1.trans (HJ.out.2.2.below _ (fun k hk => by have hk : k = P4 + 1 := hk; omega) (by omega)), l, HJ.out.1, ⟨HJ.out.2.1.len, HJ.out.1.wf, HJ.out.2.1.top, fun j hj => by rw [HJ.out.2.1.bit j hj]; simp [hj], HJ.out.2.1.low⟩⟩
end Go.Proofs.YtflienghgobmoaaGreatDoor

namespace Go.Proofs.YtflienghgobmoaaGreatDoor
open Go.RowKit Go.Maps Rec
variable {w0 w w1 wx w2 w' : World} {P j j' : Nat} {D D' : Dk} {R R' : RDk} {T T' : Tx} {U U' : RTx} {K K' : Kb}
theorem Img.one {l : List Int} {n : Nat} {f : Nat → Bool} (h : Img l n f) (hn : 128 ≤ n) : bck l 1 = zs := by
  have hl : (bck l 1).length = 512 := bck_length l 1 n h.len (by omega)
  refine ext_nth (by rw [hl, zs_length]) (fun i hi => ?_)
  rw [nth_bck _ _ _ (by omega), nth_zs, h.low _ (by omega)]
theorem rs_newZ (d L nw capL nb : Nat) (l : List Int) (hn : l.length = 512 * nb) (h1 : bck l 1 = zs) : Rs (newDk d L nw capL nb l).abs := ⟨hn, rfl, fun _ => h1, fun e => by cases e⟩
abbrev sdZ (D : Dk) (R : RDk) (K : Kb) : Array Value := #[.pointer (some ⟨D.d, 0, none⟩), .pointer (some ⟨R.r, 0, none⟩), .pointer none, .pointer none, .int .i64 (K.n : Int), .int .i64 98, .int .i64 (gI K.n), .int .i64 (gD K.n), .int .i64 (gC K.n)]
theorem zstart {w4 : World} (n : NewW w w4 D R 0) (hrs : Rs D.abs) (h0 : 128 ≤ K.n) (h1 : K.n ≤ 16384) : XB w (w4.alloc (.cells (sdZ D R K) 42)) w4.heap.size D R K 0 (.pointer none) (.pointer none) := by
  have hA : Below w4.heap.size w4 (w4.alloc (.cells (sdZ D R K) 42)) := (Below.refl _ _).alloc (Nat.le_refl _) _
  have lD : ∀ k, D.all k → k < w4.heap.size := fun k e => n.d.ltAll e
  have lR : ∀ k, R.all k → k < w4.heap.size := fun k e => n.t.r.lt e
  classical
  refine ⟨⟨n.d.on hA, n.t.on hA, n.ap, n.nd, n.be.trans (hA.mono n.be.size), n.kd⟩, hrs, ⟨h0, h1⟩, Nat.zero_le _, Nat.zero_le _, heap_alloc_new _ _, ⟨fun k => if D.all k then 0 else if R.all k then 1 else 5, fun i k e => ?_⟩, fun i k e => ?_⟩
  · match i, e with
    | 0, e => exact if_pos e
    | 1, e => show (if D.all k then 0 else if R.all k then 1 else 5) = 1; have e' : R.all k := e; rw [if_neg (fun e2 => n.ap k e2 e), if_pos e']
    | 5, e =>
      have e : k = w4.heap.size := e
      show (if D.all k then 0 else if R.all k then 1 else 5) = 5
      rw [if_neg (fun e2 => by have := lD k e2; omega), if_neg (fun e2 => by have := lR k e2; omega)]
    | 2, e => exact e.elim
    | 3, e => exact e.elim
    | 4, e => exact e.elim
    | _ + 6, e => exact e.elim
  · match i, e with
    | 0, e => exact n.nd k (.inl e)
    | 1, e => exact n.nd k (.inr e)
    | 5, e => have e : k = w4.heap.size := e; rw [e]; exact n.be.size
    | 2, e => exact e.elim
    | 3, e => exact e.elim
    | 4, e => exact e.elim
    | _ + 6, e => exact e.elim
/-- a step among the arguments -/
structure OpZ where
  k : Int
  n : Int
  x : Int
abbrev OpZ.cs (q : OpZ) : Array Value := #[.int .i64 q.k, .int .i64 q.n, .int .u8 q.x]
def OpZIn (q : OpZ) : Prop := (-9223372036854775808 ≤ q.n ∧ q.n ≤ 9223372036854775807) ∧ (0 ≤ q.x ∧ q.x < 256)
structure SrZ (w : World) (a : Option Addr) (L : List OpZ) : Prop where
  at_ : L = [] ∨ ∃ b off, a = some ⟨b, off, none⟩ ∧ ∀ i q, L[i]? = some q → ∀ j, j < 3 → w.cell? ⟨b, off + i * 3 + j, none⟩ = q.cs[j]?
  each : ∀ q ∈ L, OpZIn q
theorem SrZ.cells {b off : Nat} {L : List OpZ} (h : SrZ w (some ⟨b, off, none⟩) L) (hb : Below w.heap.size w wx) {i : Nat} {q : OpZ} (hq : L[i]? = some q) : wx.cell? ⟨b, off + i * 3, none⟩ = some (.int .i64 q.k) ∧ wx.cell? ⟨b, off + i * 3 + 1, none⟩ = some (.int .i64 q.n) ∧ wx.cell? ⟨b, off + i * 3 + 2, none⟩ = some (.int .u8 q.x) := by
  rcases h.at_ with e | ⟨b', off', e, hc⟩
  · rw [e] at hq; simp at hq
  · cases e
    have t : ∀ t, t < 3 → ∀ v, q.cs[t]? = some v → wx.cell? ⟨b, off + i * 3 + t, none⟩ = some v := fun t ht v hv => (below_fr hb (fun _ => False)).cell ((hc i q hq t ht).trans hv) (fun e => e)
    exact ⟨t 0 (by omega) _ rfl, t 1 (by omega) _ rfl, t 2 (by omega) _ rfl⟩
end Go.Proofs.YtflienghgobmoaaGreatDoor
