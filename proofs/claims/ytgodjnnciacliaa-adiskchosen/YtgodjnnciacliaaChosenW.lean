import Derived.Test.YtgodjnnciacliaaChosen
namespace Go.Proofs.Ytgodjnnciacliaa
open Go.RowKit Adk

/-- within Chosen's second loop -/
structure ChW (w wr : World) (d gw m : Nat) (L : List PutR) (keep : List Bool) (k : Nat) (D : Dk) : Prop where
  disk : Disk wr D
  ab : ChI D.abs m L k
  dd : D.d = d
  own : OwnB wr gw m (wantL m L keep k)
  nh : ¬ D.all gw
  core : ∀ j, D.has j → w.heap.size ≤ j
  gw : w.heap.size ≤ gw
  bel : Below w.heap.size w wr
theorem wrap_small {x : Int} {k : Nat} (h : x = k) (h2 : k < 9223372036854775808) : IntKind.i64.wrap x = (k : Int) := by
  rw [h]; simp [IntKind.wrap, IntKind.bits, IntKind.signed]; omega
theorem ChW.on {w wr wx : World} {d gw m k : Nat} {L : List PutR} {keep : List Bool} {D : Dk} (h : ChW w wr d gw m L keep k D) (x : Below wr.heap.size wr wx) : ChW w wx d gw m L keep k D :=
  ⟨h.disk.on x, h.ab, h.dd, h.own.on x, h.nh, h.core, h.gw, h.bel.trans (x.mono h.bel.size)⟩
theorem ChW.next {w wr wx : World} {d gw m k : Nat} {L : List PutR} {keep : List Bool} {D D' : Dk} {q : PutR} (h : ChW w wr d gw m L keep k D) (hq : L[k]? = some q) (h1 : Disk wx D') (h2 : Mv wr D wx D') (h4 : Al wr.heap.size D D') (h3 : D'.abs = D.abs.do q.b q.x false) :
    Disk wx D' ∧ ChI D'.abs m L (k + 1) ∧ D'.d = d ∧ OwnB wx gw m (wantL m L keep k) ∧ ¬ D'.all gw ∧ (∀ j, D'.has j → w.heap.size ≤ j) ∧ Below w.heap.size w wx ∧ w.heap.size ≤ gw :=
  ⟨h1, by rw [h3]; exact (h.ab.next hq).1, h2.d.trans h.dd, h.own.fr h2.fr (fun e => h.nh (.inl e)), fun e => (h4 _ e).elim h.nh (fun e => absurd h.own.lt (by omega)), (h2.below w.heap.size h.bel.size h.core).2, h.bel.trans (h2.below w.heap.size h.bel.size h.core).1, h.gw⟩
theorem ChW.kept {w w2 : World} {d gw m k i : Nat} {L : List PutR} {keep : List Bool} {D' : Dk} {q : PutR} (h : Disk w2 D' ∧ ChI D'.abs m L (k + 1) ∧ D'.d = d ∧ OwnB w2 gw m (wantL m L keep k) ∧ ¬ D'.all gw ∧ (∀ j, D'.has j → w.heap.size ≤ j) ∧ Below w.heap.size w w2 ∧ w.heap.size ≤ gw)
    (hq : L.getD k ⟨0, 0, false⟩ = q) (hi : q.b % (m : Int) = (i : Int)) (hk : kpOf keep k = true) (hin : i < m) (hx : 0 ≤ q.x ∧ q.x < 256) : ChW w (w2.setCell ⟨gw, i, none⟩ (.int .u8 q.x)).drew d gw m L keep (k + 1) D' := by
  obtain ⟨h1, h2, h3, h4, h5, h6, h7, h8⟩ := h
  have hdr := (Below.refl (w2.setCell ⟨gw, i, none⟩ (.int .u8 q.x)).heap.size (w2.setCell ⟨gw, i, none⟩ (.int .u8 q.x))).drew
  refine ChW.on (wr := w2.setCell ⟨gw, i, none⟩ (.int .u8 q.x)) ⟨h1.fr Fr.set (fun k hk e => h5 (e ▸ hk)), h2, h3, ?_, h5, h6, h8, h7.grown grown_set h7.size (by intro k hk; cases hk; exact h8)⟩ hdr
  have e := h4.set i q.x (by rw [wantL_length]; exact hin) hx
  rw [wantL, if_pos hk, hq, hi]
  exact e
theorem ChW.passed {w w2 : World} {d gw m k : Nat} {L : List PutR} {keep : List Bool} {D' : Dk} (h : Disk w2 D' ∧ ChI D'.abs m L (k + 1) ∧ D'.d = d ∧ OwnB w2 gw m (wantL m L keep k) ∧ ¬ D'.all gw ∧ (∀ j, D'.has j → w.heap.size ≤ j) ∧ Below w.heap.size w w2 ∧ w.heap.size ≤ gw)
    (hk : kpOf keep k = false) : ChW w w2 d gw m L keep (k + 1) D' := by
  obtain ⟨h1, h2, h3, h4, h5, h6, h7, h8⟩ := h
  exact ⟨h1, h2, h3, by rw [wantL, if_neg (by rw [hk]; decide)]; exact h4, h5, h6, h8, h7⟩
set_option maxRecDepth 100000 in
set_option maxHeartbeats 8000000 in
theorem chosen_any (w : World) (n : Int) (pa : Option Addr) (pc : Nat) (kv : Value) (L : List PutR) (keep : List Bool) (hP : Puts w pa L) (hK : Bools w kv keep) (hkl : keep.length ≤ 9223372036854775807) :
    Calls Try.prog 5 #[.int .i64 n, .slice pa L.length pc, kv] w fun e w' => e = .returned (.bool true) ∧ Below w.heap.size w w' := by
  have hll := hP.len
  have HP : Hid (Puts w pa L) := hP
  have HK : Hid (Bools w kv keep) := hK
  obtain ⟨ka, kc, rfl, hkk⟩ := hK
  clear hP
  go_enter Try.func5, Try.ntmps5
  go_wp2_with (first
    | (go_at_call 15; refine (fresh_any _ n).mono ?_; rintro e w1 ⟨d, L0, nw, capL, g, cap, m, rfl, hm, hm1, hm9, q1, q2, q3, q4, q5, hD, hO, hb⟩; have H1 : Hid (Disk w1 (newDk d L0 nw capL m (frs m)) ∧ Below w.heap.size w w1) := ⟨hD, hb⟩; clear hD hO hb q5 hm)
    | (go_at_call 11; refine (blocks_any _ (newDk d L0 nw capL m (frs m)) H1.out.1).mono ?_; rintro e w' ⟨rfl, rfl⟩; rw [show ((newDk d L0 nw capL m (frs m)).nb : Int) = (m : Int) from rfl])
    | (at_make; refine wp_makeB rfl _ _ rfl _ _ _ _ m rfl rfl (by omega) (by omega) (by omega) ?_; intro w2 ho hb; have H2 : Hid (OwnB w2 w1.heap.size m (zs m) ∧ Below w1.heap.size w1 w2) := ⟨ho, hb⟩; clear ho hb))
  go_loopw [11, 30, 31, 32, 33, 34, 35, 36, 37, 38] (fun _ i _ _ _ _ _ _ _ _ wr => ∃ k : Nat, k ≤ m ∧ i = .int .i64 k ∧ OwnB wr w1.heap.size m (ov (zs m) 0 k (fun i => (i : Int))) ∧ Below w1.heap.size w1 wr) (fun _ i _ _ _ _ _ _ _ _ _ => m - (intOf i).toNat)
  case atStart => exact ⟨0, Nat.zero_le _, rfl, by rw [ov_zero]; exact H2.out.1, H2.out.2⟩
  case round =>
    obtain ⟨M, hk, rfl, how, hgr⟩ := hrel
    have HP2 : Hid (OwnB wr w1.heap.size m (ov (zs m) 0 M (fun i => (i : Int)))) := how
    have HG : Hid (Below w1.heap.size w1 wr) := hgr
    clear how hgr H2
    by_cases hlt : M < m
    · have dd := HP2.out.cell M (by rw [ov_length, zs_length]; exact hlt)
      have f := HP2.out.frozen M
      have HQ : Hid (OwnB (wr.setCell ⟨w1.heap.size, M, none⟩ (.int .u8 (M : Int))) w1.heap.size m (ov (zs m) 0 (M + 1) (fun i => (i : Int)))) := by
        have e := HP2.out.set M (M : Int) (by rw [ov_length, zs_length]; exact hlt) (by omega)
        have e2 := ov_set (zs m) 0 M (fun i => (i : Int)) (by rw [zs_length]; omega)
        rw [Nat.zero_add] at e2
        rwa [e2] at e
      have hu8 : IntKind.u8.wrap (M : Int) = (M : Int) := by simp [IntKind.wrap, IntKind.bits]; omega
      go_wp2
      exact ⟨⟨_, hlt, rfl, HQ.out, HG.out.grown grown_set HG.out.size (by intro k hk; cases hk; exact Nat.le_refl _)⟩, by simp [intOf]; omega⟩
    · obtain rfl : M = m := by omega
      have HW : Hid (ChW w wr d w1.heap.size M L keep 0 (newDk d L0 nw capL M (frs M))) := by
        refine ⟨H1.out.1.on HG.out, ⟨rfl, rfl, rfl, rfl, rfl, rfl, rfl, rfl, rfl⟩, rfl, ?_, fun e => absurd (H1.out.1.allLt e) (by omega), ?_, H1.out.2.size, H1.out.2.trans (HG.out.mono H1.out.2.size)⟩
        · have e : ov (zs M) 0 M (fun i => (i : Int)) = wantL M L keep 0 := ext_nth (by rw [ov_length, zs_length, wantL_length]) fun i hi => by
            rw [ov_length, zs_length] at hi
            rw [nth_ov _ _ _ _ _ (by rw [zs_length]; exact hi), if_pos (by omega)]
            simp [wantL, nth, List.getD, hi]
          rw [← e]; exact HP2.out
        · rintro j (e | e | e | e | e)
          · have e : j = d := e; omega
          · have e : j = L0 := e; omega
          · have e : j = nw := e; omega
          · cases e
          · cases e
      clear HP2 HG H1
      generalize hgw : w1.heap.size = gw at *
      go_wp2
      go_loopw [12, 13, 14, 41, 42, 43, 44, 45, 46, 47, 48, 49, 50, 51, 52, 53, 54, 55, 56, 57, 58, 59, 60, 61, 62, 63, 64, 65, 66, 67, 68, 69, 70, 71, 72, 73] (fun c _ _ i _ _ _ _ _ _ _ _ _ _ _ _ _ _ _ _ _ _ _ _ _ _ _ _ _ _ _ _ _ _ _ _ wr => ∃ k : Nat, k ≤ L.length ∧ k ≤ 200 ∧ i = .int .i64 k ∧ c = .int .i64 k ∧ ∃ D, ChW w wr d gw M L keep k D) (fun _ _ _ i _ _ _ _ _ _ _ _ _ _ _ _ _ _ _ _ _ _ _ _ _ _ _ _ _ _ _ _ _ _ _ _ _ => L.length - (intOf i).toNat)
      case atStart => exact ⟨0, Nat.zero_le _, Nat.zero_le _, rfl, rfl, _, HW.out⟩
      case round =>
        obtain ⟨k, hk, hk2, rfl, rfl, D, hW⟩ := hrel
        have hdd := hW.dd
        subst hdd
        clear HW
        have HW : Hid (ChW w wr D.d gw M L keep k D) := hW
        clear hW
        by_cases hgo : k < L.length ∧ k < 200
        · obtain ⟨hlt, hbr⟩ := hgo
          have hPr := HP.out.on HW.out.bel
          obtain ⟨b, off, rfl, hc⟩ := hPr.at_.resolve_left (by intro e; rw [e] at hlt; simp at hlt)
          obtain ⟨q, hq⟩ : ∃ q, L[k]? = some q := ⟨L[k], by simp [hlt]⟩
          have hqx := hPr.each q (List.mem_of_getElem? hq)
          obtain ⟨c0, c1, c2⟩ := hc k q hq
          have HQ : Hid (L[k]? = some q) := hq
          clear hPr hc hq
          have HA : Hid (Below wr.heap.size wr (wr.alloc (.cells #[.int .i64 q.b, .int .u8 q.x, .bool false] 42))) := (Below.refl _ _).alloc (Nat.le_refl _) _
          have HR := heap_alloc_new wr (.cells #[.int .i64 q.b, .int .u8 q.x, .bool false] 42)
          have HC : Hid (∀ j, (wr.alloc (.cells #[.int .i64 q.b, .int .u8 q.x, .bool false] 42)).cell? ⟨wr.heap.size, j, none⟩ = (#[Value.int .i64 q.b, .int .u8 q.x, .bool false])[j]?) := fun j => cell_of_row _ _ _ _ _ _ HR
          clear HR
          go_upto_region 17 with fail
          generalize hwa : wr.alloc (.cells #[.int .i64 q.b, .int .u8 q.x, .bool false] 42) = wa at *
          have HWa : Hid (ChW w wa D.d gw M L keep k D) := HW.out.on HA.out
          have S0 : wa.cell? ⟨wr.heap.size, 0, none⟩ = some (.int .i64 q.b) := HC.out 0
          have S1 : wa.cell? ⟨wr.heap.size, 1, none⟩ = some (.int .u8 q.x) := HC.out 1
          have S2 : wa.cell? ⟨wr.heap.size, 2, none⟩ = some (.bool false) := HC.out 2
          have HS : Hid (¬ D.has wr.heap.size ∧ wr.heap.size < wa.heap.size) := ⟨fun e => absurd (HW.out.disk.hasLt e) (by omega), block_lt_of_cell S0⟩
          have hdn : D.down = false := HW.out.ab.down
          clear hwa HC c0 c1 c2 HA HW
          go_upto_region 19 with (go_at_call 16; refine (do_write _ D HWa.out.disk q.b q.x hqx hdn (HWa.out.ab.room hk2)).mono ?_; rintro e w2 ⟨rfl, D', h1, h2, h4, h3⟩; rw [(HWa.out.ab.next HQ.out).2]; have HN : Hid (Disk w2 D' ∧ ChI D'.abs M L (k + 1) ∧ D'.d = D.d ∧ OwnB w2 gw M (wantL M L keep k) ∧ ¬ D'.all gw ∧ (∀ j, D'.has j → w.heap.size ≤ j) ∧ Below w.heap.size w w2 ∧ w.heap.size ≤ gw) := HWa.out.next HQ.out h1 h2 h4 h3; have T0 : w2.cell? ⟨wr.heap.size, 0, none⟩ = some (.int .i64 q.b) := h2.fr.cell S0 HS.out.1; have T1 : w2.cell? ⟨wr.heap.size, 1, none⟩ = some (.int .u8 q.x) := h2.fr.cell S1 HS.out.1; clear h1 h2 h3 h4)
          clear S0 S1 S2
          have hKb := (HK.out.on HN.out.2.2.2.2.2.2.1)
          have HE : Hid (L.getD k ⟨0, 0, false⟩ = q) := by
            have := HQ.out
            show _ = _
            simp [List.getD, this]
          by_cases hkp : kpOf keep k = true
          · obtain ⟨i, hi⟩ : ∃ i : Nat, q.b % (M : Int) = (i : Int) := ⟨(q.b % (M : Int)).toNat, by have := Int.emod_nonneg q.b (b := (M : Int)) (by omega); omega⟩
            have hin : i < M := by have := Int.emod_lt_of_pos q.b (b := (M : Int)) (by omega); omega
            have HI : Hid (q.b % (M : Int) = (i : Int)) := hi
            clear hi
            have hkn : k < keep.length := by
              by_cases hh : k < keep.length
              · exact hh
              · simp [kpOf, List.getD, Nat.le_of_not_lt hh] at hkp
            obtain ⟨ka', kc', hv, hb2⟩ := hKb
            cases hv
            obtain ⟨kb, ko, rfl, hbc⟩ := hb2.resolve_left (by intro e; rw [e] at hkn; simp at hkn)
            have kd : w2.cell? ⟨kb, ko + k, none⟩ = some (.bool true) := by
              rw [hbc k true (by rw [← hkp]; simp [kpOf, List.getD, hkn])]
            have HK1 : Hid (kpOf keep k = true) := hkp
            clear hbc hb2 hkp
            have R1 := HN.out.2.2.2.1.cell i (by rw [wantL_length]; exact hin)
            have R2 := HN.out.2.2.2.1.frozen i
            go_wp2
            go_region_law (go_simp; go_at_call 17; refine (mod_any _ q.b M (by omega) (by omega)).mono ?_; rintro e w' ⟨rfl, rfl⟩; rw [HI.out])
            all_goals
              go_wp2
              refine ⟨⟨k + 1, hlt, hbr, rfl, rfl, D', ?_⟩, by simp [intOf]; omega⟩
              exact ChW.kept HN.out HE.out HI.out HK1.out hin hqx
          · have HK1 : Hid (kpOf keep k = false) := Bool.eq_false_iff.2 hkp
            clear hkp
            have HRes : Hid (ChW w w2 D.d gw M L keep (k + 1) D') := ChW.passed HN.out HK1.out
            by_cases hkn : k < keep.length
            · obtain ⟨ka', kc', hv, hb2⟩ := hKb
              cases hv
              obtain ⟨kb, ko, rfl, hbc⟩ := hb2.resolve_left (by intro e; rw [e] at hkn; simp at hkn)
              have kd : w2.cell? ⟨kb, ko + k, none⟩ = some (.bool false) := by
                rw [hbc k false (by rw [← HK1.out]; simp [kpOf, List.getD, hkn])]
              clear hbc hb2
              go_wp2
              exact ⟨⟨k + 1, hlt, hbr, rfl, rfl, D', HRes.out⟩, by simp [intOf]; omega⟩
            · clear hKb
              go_wp2
              exact ⟨⟨k + 1, hlt, hbr, rfl, rfl, D', HRes.out⟩, by simp [intOf]; omega⟩
        · have HT : Hid (D.pen.length = k) := by rw [← abs_len, HW.out.ab.P, List.length_map, List.length_take, Nat.min_eq_left hk]; exact rfl
          by_cases hlt : k < L.length
          case' pos =>
            have hPr := HP.out.on HW.out.bel
            obtain ⟨b, off, rfl, hc⟩ := hPr.at_.resolve_left (by intro e; rw [e] at hlt; simp at hlt)
            obtain ⟨q, hq⟩ : ∃ q, L[k]? = some q := ⟨L[k], by simp [hlt]⟩
            obtain ⟨c0, c1, c2⟩ := hc k q hq
            clear hPr hc hq
            have h200 : ¬ k < 200 := by omega
            have HA : Hid (Below wr.heap.size wr (wr.alloc (.cells #[.int .i64 q.b, .int .u8 q.x, .bool q.fl] 42))) := (Below.refl _ _).alloc (Nat.le_refl _) _
            have HX : Hid (ChW w (wr.alloc (.cells #[.int .i64 q.b, .int .u8 q.x, .bool q.fl] 42)) D.d gw M L keep k D) := HW.out.on HA.out
            clear HW hgo
            go_upto_region 23 with fail
            generalize wr.alloc (.cells #[.int .i64 q.b, .int .u8 q.x, .bool q.fl] 42) = wx at *
          case' neg =>
            have HX : Hid (ChW w wr D.d gw M L keep k D) := HW.out
            clear HW hgo
            go_upto_region 23 with fail
          all_goals
            have HM : Hid (D.nb = M) := HX.out.ab.nb
            go_wp2_with (first
              | (go_at_call 19; refine (pending_any _ D HX.out.disk).mono ?_; rintro e w4 ⟨g4, c4, rfl, hg4, ho4, hb4⟩; rw [HT.out]; have HX4 : Hid (ChW w w4 D.d gw M L keep k D) := HX.out.on hb4; clear hg4 ho4 hb4)
              | (go_at_call 20; refine (crash_any _ D HX4.out.disk _ keep (HK.out.on HX4.out.bel) (fun hl j hj e => absurd (HX4.out.core j e) (Nat.not_le.2 (HK.out.lt hl hj))) hkl).mono ?_; rintro e w5 ⟨rfl, hd5, hm5⟩; have H5 : Hid (Disk w5 (D.cut (kpOf keep)) ∧ OwnB w5 gw M (wantL M L keep k) ∧ Below w.heap.size w w5) := ⟨hd5, HX4.out.own.fr hm5.fr (fun e => HX4.out.nh (.inl e)), HX4.out.bel.trans (hm5.below _ HX4.out.bel.size HX4.out.core).1⟩; clear hd5 hm5)
              | (go_at_call 14; refine (image_any _ (D.cut (kpOf keep)) H5.out.1).mono ?_; rintro e w6 ⟨g6, c6, rfl, hg6, ho6, hb6⟩; rw [show (D.cut (kpOf keep)).nb = M from HM.out]; have H6 : Hid (OwnB w6 g6 c6 (lay (kpOf keep) D.f D.X D.las k) ∧ OwnB w6 gw M (wantL M L keep k) ∧ Below w.heap.size w w6) := ⟨by rw [← HT.out]; exact ho6, H5.out.2.1.on hb6, H5.out.2.2.trans (hb6.mono H5.out.2.2.size)⟩; clear hg6 ho6 hb6))
            have HB : Hid (∀ j, j < M → blk (lay (kpOf keep) D.f D.X D.las k) j = one (nth (wantL M L keep k) j)) := fun j hj => by
              have hl : D.las = frs M := HX.out.ab.las
              rw [hl]
              refine chosen_math M L keep (by omega) D.f D.X k (fun i hi => ?_) j hj
              rw [← abs_f, ← abs_X, AD.f, AD.X, HX.out.ab.P]
              have hiL : i < L.length := by omega
              simp [List.getD, hi, hiL]
            have HLn : Hid ((lay (kpOf keep) D.f D.X D.las k).length = 512 * M) := by
              have hl : D.las = frs M := HX.out.ab.las
              rw [lay_length, hl, frs_length]; exact rfl
            have HWf : Hid (∀ i, 0 ≤ nth (wantL M L keep k) i ∧ nth (wantL M L keep k) i < 256) := H6.out.2.1.wf
            have hc6 : 512 * M ≤ c6 := by have := H6.out.1.room; rw [HLn.out] at this; exact this
            clear HX HX4 H5 HT
            go_loopw [16, 91, 92, 93, 94, 95, 96, 97, 98, 99, 100, 101, 102, 103, 104, 105, 106, 107, 108, 109] (fun _ i _ _ _ _ _ _ _ _ _ _ _ _ _ _ _ _ _ _ wr => ∃ j : Nat, j ≤ M ∧ i = .int .i64 j ∧ Below w6.heap.size w6 wr) (fun _ i _ _ _ _ _ _ _ _ _ _ _ _ _ _ _ _ _ _ _ => M - (intOf i).toNat)
            case atStart => exact ⟨0, Nat.zero_le _, rfl, Below.refl _ _⟩
            case round =>
              obtain ⟨j, hj, rfl, hbj⟩ := hrel
              have HBj : Hid (Below w6.heap.size w6 wr) := hbj
              clear hbj
              by_cases hlj : j < M
              · have HD : Hid (Below wr.heap.size wr wr.drew) := (Below.refl _ wr).drew
                have v1 := (H6.out.2.1.on HBj.out).cell j (by rw [wantL_length]; exact hlj)
                have hsub : Bytes wr (some ⟨g6, 512 * j, none⟩) (one (nth (wantL M L keep k) j)) := by
                  have := (H6.out.1.on HBj.out).sub (512 * j) 512 (by rw [HLn.out]; omega)
                  rw [← HB.out j hlj]; exact this
                obtain ⟨A, hA⟩ : ∃ A, A = 512 * j := ⟨_, rfl⟩
                have HS : Hid (Bytes wr (some ⟨g6, A, none⟩) (one (nth (wantL M L keep k) j))) := by rw [hA]; exact hsub
                have p0 : IntKind.i64.wrap ((j : Int) * 512) = (A : Int) := by rw [wrap_small (k := A) (by omega) (by omega)]
                have p1 : IntKind.i64.wrap ((A : Int) + 512) = (A : Int) + 512 := by rw [wrap_small (k := A + 512) (by omega) (by omega)]; rfl
                have p2 : 0 ≤ (A : Int) + 512 := by omega
                have p3 : (A : Int) + 512 ≤ (c6 : Int) := by omega
                have p4 : (A : Int) ≤ max ((A : Int) + 512) 0 := by omega
                have p5 : ((A : Int) + 512).toNat = A + 512 := by omega
                have p6 : ¬ c6 = A := by omega
                clear hA
                have HV := HWf.out j
                clear hsub
                generalize nth (wantL M L keep k) j = y at *
                have e1 : ∀ c, (convert 22 9 (.slice (some ⟨g6, A, none⟩) 512 c)).run Try.prog wr.drew = .ok (.string (strOfNums (one y))) wr.drew := fun c => str_opt (HS.out.on HD.out) (one_length _)
                go_wp2
                go_region_law (go_simp; go_at_call 18; refine (lblock_any _ y HV).mono ?_; rintro e w8 ⟨rfl, ho, hb⟩; have H8 : Hid (OwnB w8 wr.heap.size 512 (one y) ∧ Below wr.heap.size wr w8) := ⟨ho, HD.out.trans hb⟩; have e2 : (convert 22 9 (.slice (some ⟨wr.heap.size, 0, none⟩) 512 512)).run Try.prog w8 = .ok (.string (strOfNums (one y))) w8 := str_opt H8.out.1.bytes (one_length _); have e3 : ∀ c, (convert 22 9 (.slice (some ⟨g6, A, none⟩) 512 c)).run Try.prog w8 = .ok (.string (strOfNums (one y))) w8 := fun c => str_opt (HS.out.on H8.out.2) (one_length _); clear ho hb)
                all_goals
                  go_wp2
                  exact ⟨⟨j + 1, hlj, rfl, HBj.out.trans (H8.out.2.mono HBj.out.size)⟩, by simp [intOf]; omega⟩
              · go_wp2
                go_ret
                exact ⟨rfl, H6.out.2.2.trans (HBj.out.mono H6.out.2.2.size)⟩
end Go.Proofs.Ytgodjnnciacliaa
