import Derived.Test.YtcbebalakdkgnaaGreatDoorKTxE2
namespace Go.Proofs.YtcbebalakdkgnaaGreatDoor
open Go.RowKit Rec

/-- the document's word on an act -/
theorem rfault_any (w : World) (nb : Nat) (q : ActR) (_ : nb ≤ 16384) (hx : q.x.length ≤ 1000000000000000) : Calls Tryz.prog 94 #[.int .i64 (nb : Int), .agg #[.int .i64 q.kind, .int .i64 q.b, .slice q.a q.x.length q.c]] w fun e w' => e = .returned (.int .i64 (actE nb q)) ∧ Below w.heap.size w w' := by
  obtain ⟨kd, b, a, c, x⟩ := q
  dsimp only at hx ⊢
  obtain ⟨n, hn⟩ : ∃ n, x.length = n := ⟨_, rfl⟩
  have hE : actE nb ⟨kd, b, a, c, x⟩ = if kd = 1 then (if 0 ≤ b ∧ b < nb then (if n = 512 then 0 else 32) else 31) else if kd = 2 then 0 else 1 := by rw [← hn]; rfl
  rw [hE]
  rw [hn] at hx ⊢
  clear hE hn
  have HW : Hid (Below w.heap.size w (w.alloc (.cells #[.int .i64 kd, .int .i64 b, .slice a n c] 114))) := (Below.refl _ _).alloc (Nat.le_refl _) _
  go_enter Tryz.func94, Tryz.ntmps94
  by_cases k2 : kd = 2
  · subst k2
    go_wp2
    go_ret
    exact ⟨rfl, HW.out⟩
  · have e2 : (kd == 2) = false := beq_eq_false_iff_ne.2 k2
    by_cases k1 : kd = 1
    · subst k1
      clear k2
      by_cases b0 : b < 0
      · go_wp2
        go_ret
        refine ⟨?_, HW.out⟩
        first | rfl | (rw [if_pos rfl, if_neg (by omega)]; rfl)
      · by_cases b1 : (nb : Int) ≤ b
        · go_wp2
          go_ret
          refine ⟨?_, HW.out⟩
          first | rfl | (rw [if_pos rfl, if_neg (by omega)]; rfl)
        · by_cases h5 : n = 512
          · subst h5
            go_wp2
            go_ret
            refine ⟨?_, HW.out⟩
            first | rfl | (rw [if_pos rfl, if_pos (by omega), if_pos rfl]; rfl)
          · have h5' : ((n : Int) == 512) = false := beq_eq_false_iff_ne.2 (by omega)
            go_wp2
            go_ret
            refine ⟨?_, HW.out⟩
            first | rfl | (rw [if_pos rfl, if_pos (by omega), if_neg h5]; rfl)
    · have e1 : (kd == 1) = false := beq_eq_false_iff_ne.2 k1
      go_wp2
      go_ret
      refine ⟨?_, HW.out⟩
      first | rfl | (rw [if_neg k1, if_neg k2]; rfl)
theorem actN_some {L : List ActR} {i : Nat} (h : i < L.length) : L[i]? = some (actN L i) := by
  unfold actN
  rw [List.getD, List.getElem?_eq_getElem h]; rfl
theorem Acts.cellsAt {w : World} {a0 : Option Addr} {L : List ActR} (h : Acts w a0 L) (h0 : 0 < L.length) : ∃ b off, a0 = some ⟨b, off, none⟩ ∧ ∀ i, i < L.length → ActAt w b (off + i * 3) (actN L i) := by
  rcases h.at_ with e | ⟨b, off, e, hc⟩
  · rw [e] at h0; simp at h0
  · exact ⟨b, off, e, fun i hi => hc i _ (actN_some hi)⟩
set_option maxRecDepth 100000 in
set_option maxHeartbeats 2000000 in
/-- does it last? -/
theorem rlasts_any (w : World) (a0 : Option Addr) (n c : Nat) (L : List ActR) (hA : Acts w a0 L) (hn : L.length = n) (i : Nat) (hi : i < n) (ka : Option Addr) (kn kc : Nat) (keep : List Bool) (hk : Bools w (.slice ka kn kc) keep) (hkn : keep.length = kn) (hkb : kn ≤ 1000000000000000) :
    Calls Tryz.prog 63 #[.slice a0 n c, .int .i64 (i : Int), .slice ka kn kc] w fun e w' => e = .returned (.bool (lastsB L i keep)) ∧ w = w' := by
  have hn4 : n ≤ 3518437208780 := by rw [← hn]; exact hA.len
  obtain ⟨b, off, rfl, hc⟩ := hA.cellsAt (by omega)
  have HC : Hid (∀ i, i < n → ActAt w b (off + i * 3) (actN L i)) := fun j hj => hc j (by omega)
  have HL : Hid (L.length = n) := hn
  have HK : Hid (Bools w (.slice ka kn kc) keep ∧ keep.length = kn) := ⟨hk, hkn⟩
  clear hA hc hn hk hkn
  go_enter Tryz.func63, Tryz.ntmps63
  go_wp2
  go_loop [7] (fun s => ∃ j : Nat, s = .int .i64 (j : Int) ∧ i < j ∧ j ≤ n ∧ ∀ q, i < q → q < j → ¬ (actN L q).kind = 2) (fun s => n - (intOf s).toNat)
  case atStart => exact ⟨i + 1, by go_num, by omega, by omega, fun q h1 h2 => by omega⟩
  case round =>
    obtain ⟨j, rfl, hij, hj, hno⟩ := hrel
    have HNo : Hid (∀ q, i < q → q < j → ¬ (actN L q).kind = 2) := hno
    clear hno
    by_cases hlt : j < n
    · have hlt' : (j : Int) < (n : Int) := by omega
      have hf := (HC.out j hlt).f0
      by_cases k2 : (actN L j).kind = 2
      · rw [k2] at hf
        go_wp2
        go_ret
        refine ⟨?_, rfl⟩
        have : lastsB L i keep = true := by
          unfold lastsB
          rw [decide_eq_true (⟨j, by rw [HL.out]; exact hlt, hij, k2⟩ : ∃ j, j < L.length ∧ i < j ∧ (actN L j).kind = 2), Bool.true_or]
        rw [this]; rfl
      · obtain ⟨kd, hkd⟩ : ∃ kd, (actN L j).kind = kd := ⟨_, rfl⟩
        rw [hkd] at hf
        have e2 : (kd == 2) = false := beq_eq_false_iff_ne.2 (by rw [← hkd]; exact k2)
        have HK2 : Hid (¬ (actN L j).kind = 2) := k2
        clear hkd k2
        go_wp2
        go_round
        case rel => exact ⟨j + 1, by go_num, by omega, by omega, fun q h1 h2 => by
          by_cases e : q = j
          · subst e; exact HK2.out
          · exact HNo.out q h1 (by omega)⟩
        case measure => simp [intOf]; omega
    · have hlt' : ¬ ((j : Int) < (n : Int)) := by omega
      have HE : Hid (lastsB L i keep = kpOf keep (numA L i)) := by
        show _ = _
        unfold lastsB
        have : ¬ ∃ j, j < L.length ∧ i < j ∧ (actN L j).kind = 2 := by
          rintro ⟨q, q1, q2, q3⟩
          rw [HL.out] at q1
          exact HNo.out q q2 (by omega) q3
        rw [decide_eq_false this, Bool.false_or]
      go_wp2
      go_loop [8, 9] (fun s8 s9 => ∃ (z u : Nat), u ≤ i ∧ s9 = .int .i64 ((u : Int) - 1) ∧ s8 = .int .i64 (z : Int) ∧ z + u = i ∧ numA L i = z + numA L u) (fun _ s => (intOf s + 1).toNat)
      case atStart => exact ⟨0, i, Nat.le_refl _, rfl, rfl, by omega, by omega⟩
      case round =>
        obtain ⟨z, u, hu, rfl, rfl, hzu, hnum⟩ := hrel
        have HM : Hid (numA L i = z + numA L u) := hnum
        clear hnum
        cases u with
        | zero =>
          have HZ : Hid (numA L i = z) := HM.out
          have hu0 : ((0 : Nat) : Int) - 1 = -1 := by omega
          rw [hu0]
          by_cases hzk : z < kn
          · have hzk' : (z : Int) < (kn : Int) := by omega
            obtain ⟨kb, ko, rfl, hkc⟩ : ∃ kb ko, ka = some ⟨kb, ko, none⟩ ∧ w.cell? ⟨kb, ko + z, none⟩ = some (.bool (kpOf keep z)) := by
              obtain ⟨a', c', e, h | ⟨kb, ko, e2, hc⟩⟩ := HK.out.1
              · have := HK.out.2; rw [h] at this; simp at this; omega
              · cases e
                refine ⟨kb, ko, e2, hc z _ ?_⟩
                rw [List.getElem?_eq_getElem (by rw [HK.out.2]; exact hzk)]
                simp [kpOf, List.getD, List.getElem?_eq_getElem (show z < keep.length by rw [HK.out.2]; exact hzk)]
            obtain ⟨bb, hbb⟩ : ∃ bb, kpOf keep z = bb := ⟨_, rfl⟩
            rw [hbb] at hkc
            go_wp2
            go_ret
            exact ⟨by rw [HE.out, HZ.out, hbb]; rfl, rfl⟩
          · have hzk' : ¬ ((z : Int) < (kn : Int)) := by omega
            have hbb : kpOf keep z = false := by simp [kpOf, List.getD, List.getElem?_eq_none (show keep.length ≤ z by rw [HK.out.2]; omega)]
            go_wp2
            go_ret
            exact ⟨by rw [HE.out, HZ.out, hbb]; rfl, rfl⟩
        | succ u =>
          have hu1 : ((u + 1 : Nat) : Int) - 1 = (u : Int) := by omega
          have hu2 : (0 : Int) ≤ (u : Int) := by omega
          rw [hu1]
          have hf := (HC.out u (by omega)).f0
          by_cases k1 : (actN L u).kind = 1
          · rw [k1] at hf
            have HM2 : Hid (numA L i = (z + 1) + numA L u) := by
              show _ = _
              rw [HM.out, numA, if_pos k1]; omega
            go_wp2
            go_round
            case rel => exact ⟨z + 1, u, by omega, by go_num, by go_num, by omega, HM2.out⟩
            case measure => simp [intOf]
          · obtain ⟨kd, hkd⟩ : ∃ kd, (actN L u).kind = kd := ⟨_, rfl⟩
            rw [hkd] at hf
            have e1 : (kd == 1) = false := beq_eq_false_iff_ne.2 (by rw [← hkd]; exact k1)
            have HZ : Hid (numA L i = z) := by
              show _ = _
              rw [HM.out, numA, if_neg k1]; rfl
            clear hkd k1
            by_cases hzk : z < kn
            · have hzk' : (z : Int) < (kn : Int) := by omega
              obtain ⟨kb, ko, rfl, hkc⟩ : ∃ kb ko, ka = some ⟨kb, ko, none⟩ ∧ w.cell? ⟨kb, ko + z, none⟩ = some (.bool (kpOf keep z)) := by
                obtain ⟨a', c', e, h | ⟨kb, ko, e2, hc⟩⟩ := HK.out.1
                · have := HK.out.2; rw [h] at this; simp at this; omega
                · cases e
                  refine ⟨kb, ko, e2, hc z _ ?_⟩
                  rw [List.getElem?_eq_getElem (by rw [HK.out.2]; exact hzk)]
                  simp [kpOf, List.getD, List.getElem?_eq_getElem (show z < keep.length by rw [HK.out.2]; exact hzk)]
              obtain ⟨bb, hbb⟩ : ∃ bb, kpOf keep z = bb := ⟨_, rfl⟩
              rw [hbb] at hkc
              go_wp2
              go_ret
              exact ⟨by rw [HE.out, HZ.out, hbb]; rfl, rfl⟩
            · have hzk' : ¬ ((z : Int) < (kn : Int)) := by omega
              have hbb : kpOf keep z = false := by simp [kpOf, List.getD, List.getElem?_eq_none (show keep.length ≤ z by rw [HK.out.2]; omega)]
              go_wp2
              go_ret
              exact ⟨by rw [HE.out, HZ.out, hbb]; rfl, rfl⟩
set_option maxRecDepth 100000 in
set_option maxHeartbeats 4000000 in
/-- the document's image -/
theorem rleft_any (w : World) (p : Addr) (ic nb : Nat) (l : List Int) (hb : Bytes w (some p) l) (hl : l.length = 512 * nb) (h0 : 1 ≤ nb) (h1 : nb ≤ 16384) (a0 : Option Addr) (n c : Nat) (L : List ActR) (hA : Acts w a0 L) (hn : L.length = n) (hok : ∀ q ∈ L, actE nb q = 0)
    (ka : Option Addr) (kn kc : Nat) (keep : List Bool) (hk : Bools w (.slice ka kn kc) keep) (hkn : keep.length = kn) (hkb : kn ≤ 1000000000000000) :
    Calls Tryz.prog 40 #[.slice (some p) (512 * nb : Nat) ic, .slice a0 n c, .slice ka kn kc] w fun e w' => ∃ g cap, e = .returned (.slice (some ⟨g, 0, none⟩) (512 * nb : Nat) cap) ∧ w.heap.size ≤ g ∧ OwnB w' g cap (lft l L keep n) ∧ Below w.heap.size w w' := by
  have hn4 : n ≤ 3518437208780 := by rw [← hn]; exact hA.len
  have cC := copied_any w p (512 * nb) ic l hb hl (by omega) (by omega)
  obtain ⟨N, hN⟩ : ∃ N, 512 * nb = N := ⟨_, rfl⟩
  rw [hN] at cC hl ⊢
  have HA : Hid (Acts w a0 L ∧ L.length = n ∧ (∀ q ∈ L, actE nb q = 0) ∧ Bools w (.slice ka kn kc) keep ∧ keep.length = kn ∧ l.length = N ∧ 512 * nb = N) := ⟨hA, hn, hok, hk, hkn, hl, hN⟩
  have hNb : N ≤ 8388608 := by omega
  clear hb hl hA hn hok hk hkn hN
  go_enter Tryz.func40, Tryz.ntmps40
  go_upto_region 2 with (go_at_call 62; refine cC.mono ?_; rintro e w1 ⟨g, cap, rfl, hg, ho, hb1⟩; have H1 : Hid (w.heap.size ≤ g ∧ OwnB w1 g cap l ∧ Below w.heap.size w w1) := ⟨hg, ho, hb1⟩; clear hg ho hb1)
  go_wp2
  go_loopw [8] (fun s wr => ∃ i : Nat, s = .int .i64 (i : Int) ∧ i ≤ n ∧ OwnB wr g cap (lft l L keep i) ∧ (lft l L keep i).length = N ∧ Below w.heap.size w wr) (fun s _ => n - (intOf s).toNat)
  case atStart => exact ⟨0, rfl, Nat.zero_le _, H1.out.2.1, HA.out.2.2.2.2.2.1, H1.out.2.2⟩
  case round =>
    obtain ⟨i, rfl, hi, hox, hlx, hbw⟩ := hrel
    have HR : Hid (OwnB wr g cap (lft l L keep i) ∧ (lft l L keep i).length = N ∧ Below w.heap.size w wr) := ⟨hox, hlx, hbw⟩
    clear hox hlx hbw
    by_cases hlt : i < n
    · have hlt' : (i : Int) < (n : Int) := by omega
      obtain ⟨b, off, rfl, hc⟩ := (HA.out.1.on HR.out.2.2).cellsAt (by rw [HA.out.2.1]; omega)
      have hq := hc i (by rw [HA.out.2.1]; exact hlt)
      have hmem : actN L i ∈ L := List.mem_of_getElem? (actN_some (by rw [HA.out.2.1]; exact hlt))
      have he := HA.out.2.2.1 _ hmem
      have hby := (HA.out.1.on HR.out.2.2).each _ hmem
      obtain ⟨q, hqe⟩ : ∃ q, actN L i = q := ⟨_, rfl⟩
      rw [hqe] at hq he hby
      have HQ : Hid (actN L i = q) := hqe
      clear hc hmem hqe
      have f0 := hq.f0
      have f1 := hq.f1
      have f2 := hq.f2
      clear hq
      obtain ⟨kd, qb, qa, qc, qx⟩ := q
      dsimp only at f0 f1 f2 hby
      have HW2 : Hid (Below w.heap.size w (wr.alloc (.cells #[.int .i64 kd, .int .i64 qb, .slice qa qx.length qc] 114)) ∧ OwnB (wr.alloc (.cells #[.int .i64 kd, .int .i64 qb, .slice qa qx.length qc] 114)) g cap (lft l L keep i)) := ⟨HR.out.2.2.alloc HR.out.2.2.size _, HR.out.1.on ((Below.refl _ _).alloc (Nat.le_refl _) _)⟩
      by_cases k1 : kd = 1
      · subst k1
        obtain ⟨hqb, hqx⟩ : (0 ≤ qb ∧ qb < (nb : Int)) ∧ qx.length = 512 := by
          unfold actE at he
          dsimp only at he
          rw [if_pos rfl] at he
          by_cases h1 : 0 ≤ qb ∧ qb < (nb : Int)
          · rw [if_pos h1] at he
            by_cases h2 : qx.length = 512
            · exact ⟨h1, h2⟩
            · rw [if_neg h2] at he; omega
          · rw [if_neg h1] at he; omega
        obtain ⟨bn, rfl⟩ : ∃ bn : Nat, qb = (bn : Int) := ⟨qb.toNat, by omega⟩
        obtain ⟨wq, hwq⟩ : ∃ wq, wr.alloc (.cells #[.int .i64 1, .int .i64 (bn : Int), .slice qa qx.length qc] 114) = wq := ⟨_, rfl⟩
        obtain ⟨B2, hB2⟩ : ∃ B2, wr.heap.size = B2 := ⟨_, rfl⟩
        rw [hwq] at HW2
        have hrow : wq.heap[B2]? = some (.cells #[.int .i64 1, .int .i64 (bn : Int), .slice qa 512 qc] 114 (0, 0)) := by rw [← hwq, ← hB2, hqx]; exact heap_alloc_new _ _
        have HRow : Hid (wq.heap[B2]? = some (.cells #[.int .i64 1, .int .i64 (bn : Int), .slice qa 512 qc] 114 (0, 0)) ∧ g ≠ B2) := ⟨hrow, by have := HR.out.1.lt; omega⟩
        have g0 : wq.cell? ⟨B2, 0, none⟩ = some (.int .i64 1) := by rw [cell_of_row _ _ _ _ _ _ hrow]; rfl
        have HBy : Hid (Bytes w qa qx ∨ True) := .inr trivial
        have hbyq : Bytes wq qa qx := by rw [← hwq]; exact hby.on ((Below.refl _ _).alloc (Nat.le_refl _) _)
        have hqlt : ∀ p, qa = some p → p.block < w.heap.size := fun p hp => by
          have hm : actN L i ∈ L := List.mem_of_getElem? (actN_some (by rw [HA.out.2.1]; exact hlt))
          have h1 := HA.out.1.each _ hm
          rw [HQ.out] at h1
          rcases h1.at_ with e | ⟨b', o', e, hc⟩
          · have e : qx = [] := e
            rw [e] at hqx; simp at hqx
          · have e : qa = some ⟨b', o', none⟩ := e
            rw [hp] at e
            cases e
            exact block_lt_of_cell (hc 0 (by show 0 < qx.length; omega))
        have HBq : Hid (∀ wx, Below w.heap.size w wx → Bytes wx qa qx) := fun wx hx => by
          have hm : actN L i ∈ L := List.mem_of_getElem? (actN_some (by rw [HA.out.2.1]; exact hlt))
          have h1 := HA.out.1.each _ hm
          rw [HQ.out] at h1
          exact h1.on hx
        have cLa := rlasts_any wq (some ⟨b, off, none⟩) n c L (HA.out.1.on HW2.out.1) HA.out.2.1 i hlt ka kn kc keep (by
          obtain ⟨a', c', e, h⟩ := HA.out.2.2.2.1
          refine ⟨a', c', e, h.imp id ?_⟩
          rintro ⟨kb, ko, e2, hc⟩
          exact ⟨kb, ko, e2, fun j x hj => (below_fr HW2.out.1 (fun _ => False)).cell (hc j x hj) (fun e => e)⟩) HA.out.2.2.2.2.1 hkb
        rw [hqx] at f2
        clear hby hbyq hqlt HBy hrow he
        obtain ⟨ok, hoke⟩ : ∃ ok, lastsB L i keep = ok := ⟨_, rfl⟩
        rw [hoke] at cLa
        have HK2 : Hid (lastsB L i keep = ok ∧ qx.length = 512) := ⟨hoke, hqx⟩
        rw [hqx] at hwq
        clear hoke hqx
        cases ok with
        | false =>
          have HX : Hid (lft l L keep (i + 1) = lft l L keep i) := by
            show _ = _
            rw [lft, if_neg (fun h => by rw [HK2.out.1] at h; exact absurd h.2 (by decide))]
          go_wp2_with (go_at_call 63; refine cLa.mono ?_; rintro e w' ⟨rfl, rfl⟩)
          go_loopw [11] (fun s w2 => s = .int .i64 0 ∧ wq = w2) (fun _ _ => 0)
          case atStart => exact ⟨rfl, rfl⟩
          case round =>
            obtain ⟨rfl, rfl⟩ := hrel
            go_wp2
            go_round
            case rel => exact ⟨i + 1, by go_num, by omega, by rw [HX.out]; exact HW2.out.2, by rw [HX.out]; exact HR.out.2.1, HW2.out.1⟩
            case measure => simp [intOf]; omega
        | true =>
          obtain ⟨X, hX⟩ : ∃ X, lft l L keep i = X := ⟨_, rfl⟩
          have HX : Hid (lft l L keep (i + 1) = ov X (512 * bn) 512 (nth qx) ∧ X.length = N) := by
            refine ⟨?_, by rw [← hX]; exact HR.out.2.1⟩
            rw [lft, if_pos ⟨by rw [HQ.out], HK2.out.1⟩, HQ.out, hX]
            rfl
          have hbN : 512 * bn + 512 ≤ N := by have := HA.out.2.2.2.2.2.2; omega
          rw [hX] at HW2
          clear hX
          go_wp2_with (go_at_call 63; refine cLa.mono ?_; rintro e w' ⟨rfl, rfl⟩)
          go_loopw [11] (fun s w2 => ∃ k : Nat, s = .int .i64 (k : Int) ∧ k ≤ 512 ∧ OwnB w2 g cap (ov X (512 * bn) k (nth qx)) ∧ Below w.heap.size w w2 ∧ w2.heap[B2]? = some (.cells #[.int .i64 1, .int .i64 (bn : Int), .slice qa 512 qc] 114 (0, 0))) (fun s _ => 512 - (intOf s).toNat)
          case atStart => exact ⟨0, rfl, by omega, by rw [ov_zero]; exact HW2.out.2, HW2.out.1, HRow.out.1⟩
          case round =>
            obtain ⟨k, rfl, hk5, hox, hbx, hrx⟩ := hrel
            have HI : Hid (OwnB wr g cap (ov X (512 * bn) k (nth qx)) ∧ Below w.heap.size w wr ∧ wr.heap[B2]? = some (.cells #[.int .i64 1, .int .i64 (bn : Int), .slice qa 512 qc] 114 (0, 0))) := ⟨hox, hbx, hrx⟩
            have m1 : wr.cell? ⟨B2, 1, none⟩ = some (.int .i64 (bn : Int)) := by rw [cell_of_row _ _ _ _ _ _ hrx]; rfl
            have m2 : wr.cell? ⟨B2, 2, none⟩ = some (.slice qa 512 qc) := by rw [cell_of_row _ _ _ _ _ _ hrx]; rfl
            clear hox hbx hrx
            by_cases hk : k < 512
            · have hk' : (k : Int) < 512 := by omega
              obtain ⟨vb, vo, rfl, hcv⟩ : ∃ vb vo, qa = some ⟨vb, vo, none⟩ ∧ wr.cell? ⟨vb, vo + k, none⟩ = some (.int .u8 (nth qx k)) := by
                rcases (HBq.out wr HI.out.2.1).at_ with e | ⟨vb, vo, e, hc⟩
                · have := HK2.out.2; rw [e] at this; simp at this
                · exact ⟨vb, vo, e, hc k (by rw [HK2.out.2]; exact hk)⟩
              have hvb := (HBq.out wr HI.out.2.1).wf k
              have hct := HI.out.1.cell (512 * bn + k) (by rw [ov_length, HX.out.2]; omega)
              have hft := HI.out.1.frozen (512 * bn + k)
              obtain ⟨T, hT⟩ : ∃ T, 512 * bn + k = T := ⟨_, rfl⟩
              rw [hT] at hct hft
              have hTi : (bn : Int) * 512 + (k : Int) = (T : Int) := by omega
              have hwb : IntKind.i64.wrap ((bn : Int) * 512) = (bn : Int) * 512 := by rw [IntKind.wrap_i64]; omega
              have hwT : IntKind.i64.wrap (T : Int) = (T : Int) := by rw [IntKind.wrap_i64]; omega
              have hTN : T < N := by omega
              have hTN' : (T : Int) < (N : Int) := by omega
              obtain ⟨v, hv⟩ : ∃ v, nth qx k = v := ⟨_, rfl⟩
              obtain ⟨u, hu⟩ : ∃ u, nth (ov X (512 * bn) k (nth qx)) T = u := ⟨_, rfl⟩
              rw [hv] at hcv hvb
              rw [hu] at hct
              have HV : Hid (nth qx k = v ∧ 512 * bn + k = T) := ⟨hv, hT⟩
              clear hv hu hT
              go_upto_region 11 with (fail)
              go_region_with (fail)
              all_goals (try go_wp2)
              all_goals
                have o2 := (HI.out.1.set T v (by rw [ov_length, HX.out.2]; exact hTN) hvb)
                rw [← HV.out.2, ← HV.out.1, ov_set _ _ _ _ (by rw [HX.out.2]; omega), HV.out.2, HV.out.1] at o2
                have d1 : ∀ W : World, Below W.heap.size W W.drew := fun W => (Below.refl _ _).drew
                refine ⟨⟨k + 1, by go_num, by omega, o2.on (d1 _), ((HI.out.2.1.setCell (p := ⟨g, T, none⟩) H1.out.1 _)).drew, ?_⟩, by simp [intOf]; omega⟩
                exact (Below.heap_setCell wr ⟨g, T, none⟩ (.int .u8 v) B2 (fun e => HRow.out.2 e.symm)).trans HI.out.2.2
            · have hk' : ¬ ((k : Int) < 512) := by omega
              obtain rfl : k = 512 := by omega
              go_wp2
              go_round
              case rel => exact ⟨i + 1, by go_num, by omega, by rw [HX.out.1]; exact HI.out.1, by rw [HX.out.1, ov_length]; exact HX.out.2, HI.out.2.1⟩
              case measure => simp [intOf]; omega
      · have e1 : (kd == 1) = false := beq_eq_false_iff_ne.2 k1
        have HX : Hid (lft l L keep (i + 1) = lft l L keep i) := by
          show _ = _
          rw [lft, HQ.out, if_neg (fun h => k1 h.1)]
        go_wp2
        go_round
        case rel => exact ⟨i + 1, by go_num, by omega, by rw [HX.out]; exact HW2.out.2, by rw [HX.out]; exact HR.out.2.1, HW2.out.1⟩
        case measure => simp [intOf]; omega
    · have hlt' : ¬ ((i : Int) < (n : Int)) := by omega
      obtain rfl : i = n := by omega
      go_wp2
      go_ret
      exact ⟨g, cap, rfl, H1.out.1, HR.out.1, HR.out.2.2⟩
end Go.Proofs.YtcbebalakdkgnaaGreatDoor

namespace Go.Proofs.YtcbebalakdkgnaaGreatDoor
open Go.RowKit Rec

end Go.Proofs.YtcbebalakdkgnaaGreatDoor

namespace Go.Proofs.YtcbebalakdkgnaaGreatDoor
open Go.RowKit Rec

end Go.Proofs.YtcbebalakdkgnaaGreatDoor

namespace Go.Proofs.YtcbebalakdkgnaaGreatDoor
open Go.RowKit Rec

theorem infoBo : (Tryz.prog.info? 4).map (fun i => (i.zero, i.size, i.bytes)) = some (some (.bool false), 1, 1) := by kernel_rfl
/-- bools in a row of one's own -/
def OwnZ (w : World) (g cap : Nat) (l : List Bool) : Prop := w.ownsRow 0 4 1 (.slice (some ⟨g, 0, none⟩) l.length cap) l.length (l.map Value.bool)
theorem OwnZ.cell {w : World} {g cap : Nat} {l : List Bool} (h : OwnZ w g cap l) (i : Nat) (hi : i < l.length) : w.cell? ⟨g, i, none⟩ = some (.bool (l.getD i false)) := by
  rcases h.2 with ⟨e, _⟩ | ⟨g', cap', cur, e, _, hg, _, _, _, h5⟩
  · cases e
  · cases e
    rw [cell_of_row _ _ _ _ _ _ hg]
    have h6 : (l.map Value.bool)[i]? = cur.toList[i]? := by rw [← h5, List.getElem?_take, if_pos (by omega)]
    have h7 : cur[i]? = cur.toList[i]? := by simp
    rw [h7, ← h6]
    simp [List.getD, hi]
theorem OwnZ.on {w w' : World} {g cap : Nat} {l : List Bool} (h : OwnZ w g cap l) (hb : Below w.heap.size w w') : OwnZ w' g cap l := owns_fr h (below_fr hb (fun _ => False)) (fun _ _ h => h)
theorem OwnZ.frozen {w : World} {g cap : Nat} {l : List Bool} (h : OwnZ w g cap l) (i : Nat) : w.frozen? ⟨g, i, none⟩ = false := by
  rcases h.2 with ⟨e, _⟩ | ⟨g', cap', cur, e, _, hg, _⟩
  · cases e
  · cases e; exact frozen_of_row _ _ _ _ _ hg
theorem OwnZ.set {w : World} {g cap : Nat} {l : List Bool} (h : OwnZ w g cap l) (i : Nat) (b : Bool) : OwnZ (w.setCell ⟨g, i, none⟩ (.bool b)) g cap (l.set i b) := by
  have h1 := owns_set h i (.bool b)
  unfold OwnZ
  rw [List.length_set, List.map_set]
  exact h1
end Go.Proofs.YtcbebalakdkgnaaGreatDoor

namespace Go.Proofs.YtcbebalakdkgnaaGreatDoor
open Go.RowKit Rec

/-- a function with another value at one place -/
def up {α : Type} (f : Nat → α) (n : Nat) (v : α) : Nat → α := fun i => if i = n then v else f i
theorem up_at {α : Type} (f : Nat → α) (n : Nat) (v : α) : up f n v n = v := if_pos rfl
theorem up_off {α : Type} (f : Nat → α) {n i : Nat} (v : α) (h : i ≠ n) : up f n v i = f i := if_neg h
/-- the slices of a row of rows -/
def hdrs (n : Nat) (g c : Nat → Nat) (C : Nat → List Int) : List Value := (List.range n).map fun i => .slice (some ⟨g i, 0, none⟩) (C i).length (c i)
theorem hdrs_at (n : Nat) (g c : Nat → Nat) (C : Nat → List Int) (i : Nat) (h : i < n) : (hdrs n g c C)[i]? = some (.slice (some ⟨g i, 0, none⟩) (C i).length (c i)) := by
  simp [hdrs, h]
theorem hdrs_set (n : Nat) (g c : Nat → Nat) (C : Nat → List Int) (k : Nat) (l : List Int) (h : l.length = (C k).length) : hdrs n g c (up C k l) = hdrs n g c C := by
  unfold hdrs
  refine List.map_congr_left fun i _ => ?_
  by_cases e : i = k
  · subst e; rw [up_at, h]
  · rw [up_off C l e]
/-- a row of rows of bytes, all one's own -/
structure RowsAt (w0 wr : World) (s : Value) (n : Nat) (g c : Nat → Nat) (C : Nat → List Int) : Prop where
  own : wr.ownsRow 0 42 1 s n (hdrs n g c C)
  top : ∀ k, s.ownBlock = some k → w0.heap.size ≤ k
  els : ∀ i, i < n → OwnB wr (g i) (c i) (C i) ∧ w0.heap.size ≤ g i
  apart : ∀ i j, i < n → j < n → g i = g j → i = j
theorem ownB_fr {S : Nat → Prop} {w w' : World} {g cap : Nat} {l : List Int} (h : OwnB w g cap l) (x : Fr S w w') (hg : ¬ S g) : OwnB w' g cap l := by
  obtain ⟨cur, h1, h2⟩ := h.row
  exact ⟨⟨cur, x.heap h1 hg, h2⟩, h.len, h.room, h.top, h.wf⟩
theorem own_apart7 {w : World} {B e size n g cap : Nat} {v : Value} {xs : List Value} {l : List Int} (h : w.ownsRow B e size v n xs) (h' : OwnB w g cap l) (hne : e ≠ 5) : ¬ v.ownBlock = some g := by
  intro hk
  rcases h.2 with ⟨hv, _⟩ | ⟨g', cap', cur, hv, _, hg, _⟩
  · rw [hv] at hk; cases hk
  · rw [hv] at hk
    have e1 : g' = g := Option.some.inj hk
    subst e1
    obtain ⟨cur', h1, _⟩ := h'.row
    rw [hg] at h1
    injection h1 with h1
    injection h1 with _ h2 _
    exact hne h2
theorem RowsAt.fr {w0 wr wq : World} {s : Value} {n : Nat} {g c : Nat → Nat} {C : Nat → List Int} {S : Nat → Prop} (h : RowsAt w0 wr s n g c C) (x : Fr S wr wq) (h1 : ∀ k, s.ownBlock = some k → ¬ S k) (h2 : ∀ i, i < n → ¬ S (g i)) : RowsAt w0 wq s n g c C :=
  ⟨owns_fr h.own x h1, h.top, fun i hi => ⟨ownB_fr (h.els i hi).1 x (h2 i hi), (h.els i hi).2⟩, h.apart⟩
theorem RowsAt.on {w0 wr wq : World} {s : Value} {n : Nat} {g c : Nat → Nat} {C : Nat → List Int} (h : RowsAt w0 wr s n g c C) (hb : Below wr.heap.size wr wq) : RowsAt w0 wq s n g c C :=
  h.fr (below_fr hb (fun _ => False)) (fun _ _ e => e) (fun _ _ e => e)
/-- one byte of one row is written -/
theorem RowsAt.set {w0 wr : World} {s : Value} {n : Nat} {g c : Nat → Nat} {C : Nat → List Int} (h : RowsAt w0 wr s n g c C) (i : Nat) (hi : i < n) (k : Nat) (v : Int) (hk : k < (C i).length) (hv : 0 ≤ v ∧ v < 256) :
    RowsAt w0 (wr.setCell ⟨g i, k, none⟩ (.int .u8 v)) s n g c (up C i ((C i).set k v)) := by
  refine ⟨?_, h.top, fun j hj => ?_, h.apart⟩
  · rw [hdrs_set _ _ _ _ _ _ (by rw [List.length_set])]
    exact owns_fr h.own Fr.set fun q hq e => own_apart7 h.own (h.els i hi).1 (by decide) (e ▸ hq)
  · by_cases e : j = i
    · subst e
      rw [up_at]
      exact ⟨(h.els j hj).1.set k v hk hv, (h.els j hj).2⟩
    · rw [up_off C _ e]
      exact ⟨ownB_fr (h.els j hj).1 Fr.set (fun e' => e (h.apart j i hj hi e')), (h.els j hj).2⟩
theorem RowsAt.is {w0 wr : World} {b n cap : Nat} {g c : Nat → Nat} {C : Nat → List Int} (h : RowsAt w0 wr (.slice (some ⟨b, 0, none⟩) n cap) n g c C) (i : Nat) (hi : i < n) : wr.cell? ⟨b, i, none⟩ = some (.slice (some ⟨g i, 0, none⟩) (C i).length (c i)) := by
  rcases h.own.2 with ⟨hv, _⟩ | ⟨g', cap', cur, hv, _, hg, _, _, _, h5⟩
  · cases hv
  · cases hv
    rw [cell_of_row _ _ _ _ _ _ hg]
    have := hdrs_at n g c C i hi
    rw [Nat.mul_one] at h5
    rw [← h5, List.getElem?_take, if_pos hi] at this
    simpa using this
theorem own_apartX {w : World} {B e size n p : Nat} {v : Value} {xs : List Value} {cs : Array Value} {t : Nat} {f : Nat × Nat} (h : w.ownsRow B e size v n xs) (h' : w.heap[p]? = some (.cells cs t f)) (hne : e ≠ t) : ¬ v.ownBlock = some p := by
  intro hk
  rcases h.2 with ⟨hv, _⟩ | ⟨g', cap', cur, hv, _, hg, _⟩
  · rw [hv] at hk; cases hk
  · rw [hv] at hk
    have e1 : g' = p := Option.some.inj hk
    subst e1
    rw [hg] at h'
    injection h' with h1
    injection h1 with _ h2 _
    exact hne h2
theorem own_apartO {w : World} {B B' e e' size size' n n' : Nat} {v v' : Value} {xs xs' : List Value} (h : w.ownsRow B e size v n xs) (h' : w.ownsRow B' e' size' v' n' xs') (hne : e ≠ e') (k : Nat) (hk : v.ownBlock = some k) : ¬ v'.ownBlock = some k := by
  rcases h.2 with ⟨hv, _⟩ | ⟨g', cap', cur, hv, _, hg, _⟩
  · rw [hv] at hk; cases hk
  · rw [hv] at hk
    have e1 : g' = k := Option.some.inj hk
    subst e1
    exact own_apartX h' hg (fun e => hne e.symm)
theorem info36 : (Tryz.prog.info? 114).map (fun i => (i.zero, i.size, i.bytes)) = some (some (.agg #[.int .i64 0, .int .i64 0, .slice none 0 0]), 3, 40) := by kernel_rfl
theorem RowsAt.cong {w0 wr : World} {s : Value} {n : Nat} {g c : Nat → Nat} {C C' : Nat → List Int} (h : RowsAt w0 wr s n g c C) (e : ∀ i, i < n → C i = C' i) : RowsAt w0 wr s n g c C' := by
  have hh : hdrs n g c C = hdrs n g c C' := by
    unfold hdrs
    refine List.map_congr_left fun i hi => ?_
    rw [e i (List.mem_range.1 hi)]
  exact ⟨hh ▸ h.own, h.top, fun i hi => by rw [← e i hi]; exact h.els i hi, h.apart⟩
end Go.Proofs.YtcbebalakdkgnaaGreatDoor

namespace Go.Proofs.YtcbebalakdkgnaaGreatDoor
open Go.RowKit Rec
/-- bytes in a row of one's own, or none -/
def RwA (B : Nat) (w : World) (a : Option Addr) (cap : Nat) (R : List Int) : Prop := (R = [] ∧ a = none ∧ cap = 0) ∨ ∃ g, a = some ⟨g, 0, none⟩ ∧ OwnB w g cap R ∧ B ≤ g
theorem RwA.bytes {B : Nat} {w : World} {a : Option Addr} {cap : Nat} {R : List Int} (h : RwA B w a cap R) : Bytes w a R := by
  rcases h with ⟨rfl, rfl, _⟩ | ⟨g, rfl, h, _⟩
  · exact ⟨by simp, fun i => by simp [nth], .inl rfl⟩
  · exact h.bytes
theorem RwA.on {B : Nat} {w w' : World} {a : Option Addr} {cap : Nat} {R : List Int} (h : RwA B w a cap R) (hb : Below w.heap.size w w') : RwA B w' a cap R := by
  rcases h with h | ⟨g, e, h, hB⟩
  · exact .inl h
  · exact .inr ⟨g, e, h.on hb, hB⟩
theorem RwA.owns {B : Nat} {w : World} {a : Option Addr} {cap : Nat} {R : List Int} (h : RwA B w a cap R) : w.ownsRow 0 5 1 (.slice a R.length cap) R.length (R.map (Value.int .u8)) := by
  rcases h with ⟨rfl, rfl, rfl⟩ | ⟨g, rfl, h, _⟩
  · exact ⟨rfl, .inl ⟨rfl, rfl⟩⟩
  · exact owns_of (B := 0) h (Nat.zero_le _)
theorem RwA.far {B : Nat} {w : World} {a : Option Addr} {cap n : Nat} {R : List Int} (h : RwA B w a cap R) {b : Nat} (hb : (Value.slice a n cap).ownBlock = some b) : B ≤ b := by
  rcases h with ⟨_, rfl, _⟩ | ⟨g, rfl, _, hB⟩
  · cases hb
  · cases hb; exact hB
end Go.Proofs.YtcbebalakdkgnaaGreatDoor
