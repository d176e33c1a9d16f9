import Derived.Test.YtflienghgobmoaaGreatDoorKYpA
namespace Go.Proofs.YtflienghgobmoaaGreatDoor
open Go.RowKit Rec
theorem bn_div (l : List Int) (i : Nat) : bn l i = nth l (i / 8) / 2 ^ (i % 8) % 2 := rfl
theorem ct_step (lo hi : Nat) (B : Nat → List Int) (k i : Nat) (h : i < 4096) : ct (fd lo hi B) (4096 * k + (i + 1)) = ct (fd lo hi B) (4096 * k + i) + if nth (B k) (i / 8) / 2 ^ (i % 8) % 2 = 0 ∧ lo ≤ 4096 * k + i ∧ 4096 * k + i < hi then 1 else 0 := by
  show ct (fd lo hi B) (4096 * k + i + 1) = _
  rw [ct]
  congr 1
  rw [fd_at _ _ _ _ _ h]
  unfold fb
  rw [bn_div]
  have e : ((decide (lo ≤ 4096 * k + i ∧ 4096 * k + i < hi) && (nth (B k) (i / 8) / 2 ^ (i % 8) % 2 == 0)) = true) ↔ (nth (B k) (i / 8) / 2 ^ (i % 8) % 2 = 0 ∧ lo ≤ 4096 * k + i ∧ 4096 * k + i < hi) := by
    rw [Bool.and_eq_true, decide_eq_true_eq, beq_iff_eq]
    exact and_comm
  by_cases h0 : nth (B k) (i / 8) / 2 ^ (i % 8) % 2 = 0 ∧ lo ≤ 4096 * k + i ∧ 4096 * k + i < hi
  · rw [if_pos h0, if_pos (e.2 h0)]
  · rw [if_neg h0, if_neg (fun x => h0 (e.1 x))]
set_option maxRecDepth 100000 in
set_option maxHeartbeats 8000000 in
theorem rfree_any {w : World} {u n : Nat} {E : Nat → Int} {B : Nat → List Int} (h : RR w u n E B) (K : Nat) (hK : K ≤ nM n) (h1 : ∀ k, k < K → E (98 + k) = 0) (h2 : K < nM n → E (98 + K) ≠ 0) :
    Calls Tryz.prog 32 #[.pointer (some ⟨u, 0, none⟩), geoV n] w fun e w' => e = .returned (.tuple #[.int .i64 (if K = nM n then ct (fd (nD n) n (fun k => B (98 + k))) (4096 * nM n) else 0 : Nat), .int .i64 (if K = nM n then 0 else E (98 + K))]) ∧ Below w.heap.size w w' := by
  have HN := nM_bd h.lo h.hi
  have hnl := h.lo
  have hnh := h.hi
  have HR : Hid (RR w u n E B) := h
  have HK : Hid ((∀ k, k < K → E (98 + k) = 0) ∧ (K < nM n → E (98 + K) ≠ 0)) := ⟨h1, h2⟩
  obtain ⟨wz, hwz⟩ : ∃ wz, w.alloc (.cells #[.int .i64 (n : Int), .int .i64 98, .int .i64 (gI n), .int .i64 (gD n), .int .i64 (gC n)] 36) = wz := ⟨_, rfl⟩
  have HZ : Hid (Below w.heap.size w wz ∧ GeoAt wz w.heap.size n) := by rw [← hwz]; exact ⟨(Below.refl _ _).alloc (Nat.le_refl _) _, heap_alloc_new _ _⟩
  obtain ⟨f, hf⟩ : ∃ f, fd (nD n) n (fun k => B (98 + k)) = f := ⟨_, rfl⟩
  have HCt : Hid (∀ k i, i < 4096 → ct f (4096 * k + (i + 1)) = ct f (4096 * k + i) + if nth (B (98 + k)) (i / 8) / 2 ^ (i % 8) % 2 = 0 ∧ nD n ≤ 4096 * k + i ∧ 4096 * k + i < n then 1 else 0) := fun k i hi => by rw [← hf]; exact ct_step _ _ (fun k => B (98 + k)) k i hi
  rw [hf]
  obtain ⟨lo, hlo⟩ : ∃ lo, nD n = lo := ⟨_, rfl⟩
  obtain ⟨M, hM⟩ : ∃ M, nM n = M := ⟨_, rfl⟩
  rw [hlo] at HCt HN
  rw [hM] at HK HN hK
  rw [hM]
  have HMe : Hid (nM n = M ∧ nD n = lo) := ⟨hM, hlo⟩
  have HGc : Hid (∀ wx, Below wz.heap.size wz wx → wx.cell? ⟨w.heap.size, 0, none⟩ = some (.int .i64 (n : Int)) ∧ wx.cell? ⟨w.heap.size, 1, none⟩ = some (.int .i64 98) ∧ wx.cell? ⟨w.heap.size, 2, none⟩ = some (.int .i64 ((98 + M : Nat) : Int)) ∧ wx.cell? ⟨w.heap.size, 3, none⟩ = some (.int .i64 (lo : Int))) := fun wx hb => by
    obtain ⟨y0, y1, y2, y3, _⟩ := (HZ.out.2.on hb).cells
    rw [gI_nat, hM] at y2
    rw [gD_nat, hlo] at y3
    exact ⟨y0, y1, y2, y3⟩
  clear h h1 h2 hf hlo hM
  have HctB : Hid (∀ m, ct f m ≤ m) := fun m => ct_le f m
  obtain ⟨vR, hvR⟩ : ∃ v : Nat, (if K = M then ct f (4096 * M) else 0) = v := ⟨_, rfl⟩
  obtain ⟨eR, heR⟩ : ∃ e : Int, (if K = M then 0 else E (98 + K)) = e := ⟨_, rfl⟩
  have HV : Hid ((K = M → vR = ct f (4096 * M) ∧ eR = 0) ∧ (¬ K = M → vR = 0 ∧ eR = E (98 + K))) := ⟨fun e => ⟨by rw [← hvR, if_pos e], by rw [← heR, if_pos e]⟩, fun e => ⟨by rw [← hvR, if_neg e], by rw [← heR, if_neg e]⟩⟩
  rw [hvR, heR]
  clear hvR heR
  obtain ⟨x0, x1, x2, x3⟩ := HGc.out wz (Below.refl _ _)
  go_enter Tryz.func32, Tryz.ntmps32
  unfold geoV
  go_upto_region 3 with fail
  go_loopw [6, 7] (fun s6 s7 wr => ∃ k : Nat, k ≤ K ∧ s7 = .int .i64 ((98 + k : Nat) : Int) ∧ s6 = .int .i64 (ct f (4096 * k) : Nat) ∧ Below wz.heap.size wz wr) (fun _ s7 _ => 98 + M - (intOf s7).toNat)
  case atStart => exact ⟨0, Nat.zero_le _, rfl, rfl, Below.refl _ _⟩
  case round =>
    obtain ⟨k, hk, rfl, rfl, hb⟩ := hrel
    have HB : Hid (Below wz.heap.size wz wr) := hb
    obtain ⟨y0, y1, y2, y3⟩ := HGc.out wr hb
    clear hb
    obtain ⟨C, hC⟩ : ∃ C, ct f (4096 * k) = C := ⟨_, rfl⟩
    have HC : Hid (ct f (4096 * k) = C ∧ C ≤ 4096 * k) := ⟨hC, by rw [← hC]; exact HctB.out _⟩
    rw [hC]
    obtain ⟨K9, hK9⟩ : ∃ K9, 98 + k = K9 := ⟨_, rfl⟩
    have HK9 : Hid (98 + k = K9) := hK9
    rw [hK9]
    by_cases hlt : k < M
    · have hlt' : (K9 : Int) < ((98 + M : Nat) : Int) := by omega
      have HRd : Hid (Calls Tryz.prog 66 #[.pointer (some ⟨u, 0, none⟩), .int .i64 (K9 : Int)] wr (RxQ wr (E K9) (B K9))) := by
        rw [← hK9]; exact HR.out.rd wr (HZ.out.1.trans (HB.out.mono HZ.out.1.size)) (98 + k) (by have := HMe.out; omega)
      have HLn : Hid (E K9 = 0 → (B K9).length = 512) := by rw [← hK9]; exact HR.out.len (98 + k) (by have := HMe.out; omega)
      clear hC hK9
      go_upto_region 6 with (go_at_call 66; refine HRd.out.mono ?_; rintro e w2 ⟨pa, nn, c, rfl, h1, h2, h3⟩; have H2 : Hid ((B K9).length = nn ∧ Below wr.heap.size wr w2 ∧ (E K9 = 0 → ∃ g, pa = some ⟨g, 0, none⟩ ∧ wr.heap.size ≤ g ∧ WB w2 g (B K9))) := ⟨h1, h2, h3⟩; clear h1 h2 h3 y0 y1 y2 y3)
      have HB2 : Hid (Below wz.heap.size wz w2) := HB.out.trans (H2.out.2.1.mono HB.out.size)
      have HW2 : Hid (Below w.heap.size w w2) := HZ.out.1.trans (HB2.out.mono HZ.out.1.size)
      by_cases hkK : k < K
      · have hE0 : E K9 = 0 := by rw [← HK9.out]; exact HK.out.1 k hkK
        obtain ⟨h1, h2, h3⟩ := H2.out
        obtain ⟨g, rfl, hg, hW⟩ := h3 hE0
        rw [HLn.out hE0] at h1
        subst h1
        rw [hE0]
        obtain ⟨l, hl⟩ : ∃ l, B K9 = l := ⟨_, rfl⟩
        rw [hl] at hW
        have HLl : Hid (WB w2 g l ∧ l.length = 512 ∧ k < K ∧ k < M ∧ M ≤ 4) := ⟨hW, by rw [← hl]; exact HLn.out hE0, hkK, hlt, by omega⟩
        have HCi : Hid (∀ i, i < 4096 → ct f (4096 * k + (i + 1)) = ct f (4096 * k + i) + if nth l (i / 8) / 2 ^ (i % 8) % 2 = 0 ∧ lo ≤ 4096 * k + i ∧ 4096 * k + i < n then 1 else 0) := fun i hi => by
          have := HCt.out k i hi
          rw [HK9.out, hl] at this
          exact this
        obtain ⟨y0, y1, y2, y3⟩ := HGc.out w2 HB2.out
        have e98 : (K9 : Int) - 98 = (k : Int) := by have := HK9.out; omega
        clear h2 h3 hg hW hl H2 HRd HLn hE0
        go_upto_region 9 with fail
        go_loopw [6, 10] (fun s6 s10 wr => ∃ i : Nat, i ≤ 4096 ∧ s10 = .int .i64 (i : Int) ∧ s6 = .int .i64 (ct f (4096 * k + i) : Nat) ∧ wr = w2) (fun _ s10 _ => 4096 - (intOf s10).toNat)
        case atStart => exact ⟨0, Nat.zero_le _, rfl, by rw [Nat.add_zero, HC.out.1], rfl⟩
        case round =>
          obtain ⟨i, hi, rfl, rfl, rfl⟩ := hrel
          obtain ⟨C2, hC2⟩ : ∃ C2, ct f (4096 * k + i) = C2 := ⟨_, rfl⟩
          have HC2 : Hid (ct f (4096 * k + i) = C2 ∧ C2 ≤ 4096 * k + i) := ⟨hC2, by rw [← hC2]; exact HctB.out _⟩
          rw [hC2]
          clear hC2
          by_cases hi2 : i < 4096
          · have hi3 : (i : Int) < 4096 := by omega
            have eQ : (i : Int) / 8 = ((i / 8 : Nat) : Int) := by omega
            have eK : (i : Int) % 8 = ((i % 8 : Nat) : Int) := by omega
            have hq : i / 8 < 512 := by omega
            have HCs := HCi.out i hi2
            have HCs : Hid (ct f (4096 * k + (i + 1)) = ct f (4096 * k + i) + if nth l (i / 8) / 2 ^ (i % 8) % 2 = 0 ∧ lo ≤ 4096 * k + i ∧ 4096 * k + i < n then 1 else 0) := HCs
            have hm8 : i % 8 < 8 := by omega
            obtain ⟨q, hqe⟩ : ∃ q, i / 8 = q := ⟨_, rfl⟩
            obtain ⟨m, hm⟩ : ∃ m, i % 8 = m := ⟨_, rfl⟩
            rw [hqe] at eQ hq HCs
            rw [hm] at eK hm8 HCs
            clear hqe hm
            have cq : wr.cell? ⟨g, q, none⟩ = some (.int .u8 (nth l q)) := HLl.out.1.cell q (by rw [HLl.out.2.1]; exact hq)
            have hxw := HLl.out.1.wf q
            obtain ⟨x, hx⟩ : ∃ x, nth l q = x := ⟨_, rfl⟩
            rw [hx] at cq hxw HCs
            clear hx
            have hk4 : k ≤ 3 := by have := HLl.out; omega
            obtain ⟨bl, hbl⟩ : ∃ bl, 4096 * k + i = bl := ⟨_, rfl⟩
            have ebl : (k : Int) * 4096 + (i : Int) = (bl : Int) := by omega
            have hbl2 : bl ≤ 20000 := by omega
            have HBl : Hid (4096 * k + i = bl ∧ 4096 * k + (i + 1) = bl + 1) := ⟨hbl, by omega⟩
            rw [hbl] at HCs
            clear hbl
            go_upto_region 14 with fail
            go_loopw [12, 13] (fun s12 s13 wy => ∃ j : Nat, s13 = .int .i64 (j : Int) ∧ j ≤ m ∧ s12 = .int .i64 (x / 2 ^ j) ∧ wy = wr) (fun _ s13 _ => m - (intOf s13).toNat)
            case atStart => exact ⟨0, rfl, Nat.zero_le _, by rw [Int.pow_zero, Int.ediv_one], rfl⟩
            case round =>
              obtain ⟨j, rfl, hj, rfl, rfl⟩ := hrel
              have hv0 : 0 ≤ x / 2 ^ j := Int.ediv_nonneg hxw.1 (Int.le_of_lt (Int.pow_pos (by decide)))
              have hv1 : x / 2 ^ j ≤ x := Int.ediv_le_self _ hxw.1
              have HVh : Hid (x / 2 ^ j / 2 = x / 2 ^ (j + 1)) := half_pow x j
              by_cases hjm : j < m
              · have hjm' : (j : Int) < (m : Int) := by omega
                obtain ⟨v, hv⟩ : ∃ v, x / 2 ^ j = v := ⟨_, rfl⟩
                rw [hv] at hv0 hv1 HVh ⊢
                have hv2 : v < 256 := by omega
                clear hv hj
                go_wp2
                exact ⟨⟨j + 1, by go_num, hjm, by rw [← HVh.out], trivial⟩, by simp [intOf]; omega⟩
              · have hjm2 : j = m := by omega
                subst hjm2
                have hjm' : ¬ (j : Int) < (j : Int) := by omega
                obtain ⟨v, hv⟩ : ∃ v, x / 2 ^ j = v := ⟨_, rfl⟩
                rw [hv] at hv0 hv1 HCs ⊢
                clear hv HVh hj
                have hv2 : v % 2 = 0 ∨ v % 2 = 1 := by omega
                have HCq : Hid (C2 = ct f (4096 * k + i) ∧ C2 ≤ 20000) := ⟨HC2.out.1.symm, by have := HC2.out.2; have := HBl.out; omega⟩
                obtain ⟨d, hd⟩ : ∃ d, (if v % 2 = 0 ∧ lo ≤ bl ∧ bl < n then 1 else 0) = d := ⟨_, rfl⟩
                have HD : Hid (ct f (4096 * k + (i + 1)) = C2 + d) := by rw [← hd, HCq.out.1, HBl.out.1]; exact HCs.out
                have hC9 : (C2 : Int) ≤ 20000 := by have := HCq.out.2; omega
                by_cases hc : v % 2 = 0 ∧ lo ≤ bl ∧ bl < n
                · rw [if_pos hc] at hd
                  have HD1 : Hid (ct f (4096 * k + (i + 1)) = C2 + 1) := by rw [HD.out, ← hd]; rfl
                  clear hd
                  obtain ⟨c1, c2, c3⟩ := hc
                  have c1' : ((v % 2 : Int) == 0) = true := by simp; exact c1
                  have c2' : (lo : Int) ≤ (bl : Int) := by omega
                  have c3' : (bl : Int) < (n : Int) := by omega
                  clear c1 hv2
                  go_wp2
                  exact ⟨⟨i + 1, hi2, by go_num, by rw [HD1.out]; rfl, trivial⟩, by simp [intOf]; omega⟩
                · rw [if_neg hc] at hd
                  have HD1 : Hid (ct f (4096 * k + (i + 1)) = C2) := by rw [HD.out, ← hd]; rfl
                  clear hd
                  by_cases c1 : v % 2 = 0
                  · have c1' : ((v % 2 : Int) == 0) = true := by simp; exact c1
                    by_cases c2 : lo ≤ bl
                    · have c2' : (lo : Int) ≤ (bl : Int) := by omega
                      have c3' : ¬ (bl : Int) < (n : Int) := by have : ¬ bl < n := fun e => hc ⟨c1, c2, e⟩; omega
                      clear c1 hv2 hc
                      go_wp2
                      exact ⟨⟨i + 1, hi2, by go_num, by rw [HD1.out], trivial⟩, by simp [intOf]; omega⟩
                    · have c2' : ¬ (lo : Int) ≤ (bl : Int) := by omega
                      clear c1 hv2 hc
                      go_wp2
                      exact ⟨⟨i + 1, hi2, by go_num, by rw [HD1.out], trivial⟩, by simp [intOf]; omega⟩
                  · have c1' : ((v % 2 : Int) == 0) = false := by simp; omega
                    clear c1 hv2 hc
                    go_wp2
                    exact ⟨⟨i + 1, hi2, by go_num, by rw [HD1.out], trivial⟩, by simp [intOf]; omega⟩
          · have hi3 : ¬ (i : Int) < 4096 := by omega
            go_wp2
            have hi4 : i = 4096 := by omega
            exact ⟨⟨k + 1, by have := HLl.out.2.2.1; omega, by have := HK9.out; go_num, by rw [← HC2.out.1, hi4]; rfl, HB2.out⟩, by simp [intOf]; omega⟩
      · have hkK2 : k = K := by omega
        subst hkK2
        have hE0 : E K9 ≠ 0 := by rw [← HK9.out]; exact HK.out.2 hlt
        obtain ⟨er, her⟩ : ∃ er, E K9 = er := ⟨_, rfl⟩
        rw [her] at hE0 ⊢
        have hE' : ((er : Int) == 0) = false := by simp; exact hE0
        have HErr : Hid (E (98 + k) = er ∧ ¬ k = M) := ⟨by rw [HK9.out]; exact her, by omega⟩
        clear her hE0
        go_wp2
        go_ret2
        refine ⟨?_, HW2.out⟩
        show Ending.returned (.tuple #[.int .i64 0, .int .i64 er]) = _
        rw [(HV.out.2 HErr.out.2).1, (HV.out.2 HErr.out.2).2, HErr.out.1]
        rfl
    · have hkM : k = M := by omega
      have hlt' : ¬ (K9 : Int) < ((98 + M : Nat) : Int) := by omega
      clear hC hK9
      go_wp2
      go_ret2
      have hKM : K = M := by omega
      refine ⟨?_, HZ.out.1.trans (HB.out.mono HZ.out.1.size)⟩
      show Ending.returned (.tuple #[.int .i64 (C : Nat), .int .i64 0]) = _
      rw [(HV.out.1 hKM).1, (HV.out.1 hKM).2, ← HC.out.1, hkM]
end Go.Proofs.YtflienghgobmoaaGreatDoor
