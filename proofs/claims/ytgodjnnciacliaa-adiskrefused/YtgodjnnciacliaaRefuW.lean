import Derived.Test.YtgodjnnciacliaaArm
namespace Go.Proofs.Ytgodjnnciacliaa
open Go.RowKit Adk

structure RfW (w wr : World) (d m k : Nat) (D : Dk) : Prop where
  disk : Disk wr D
  ab : LaI D.abs m k
  dd : D.d = d
  core : ∀ j, D.has j → w.heap.size ≤ j
  bel : Below w.heap.size w wr
theorem RfW.on {w wr wx : World} {d m k : Nat} {D : Dk} (h : RfW w wr d m k D) (x : Below wr.heap.size wr wx) : RfW w wx d m k D :=
  ⟨h.disk.on x, h.ab, h.dd, h.core, h.bel.trans (x.mono h.bel.size)⟩
theorem RfW.mv {w wa w2 : World} {d m k : Nat} {D D' : Dk} {b x : Int} {fl : Bool} (h : RfW w wa d m k D) (h1 : Disk w2 D') (h2 : Mv wa D w2 D') (h3 : D'.abs = D.abs.do b x fl) : RfW w w2 d m (k + 1) D' := by
  refine ⟨h1, ?_, h2.d.trans h.dd, (h2.below w.heap.size h.bel.size h.core).2, h.bel.trans (h2.below w.heap.size h.bel.size h.core).1⟩
  rw [h3]
  cases fl with
  | true => exact (h.ab.next_f b x).1
  | false => exact (h.ab.next_w b x).1
theorem make_run (S : Nat) (hS : S ≤ 1500) (w : World) : (Instr.makeSlice 22 (.int .i64 (S : Int)) (.int .i64 (S : Int))).run Try.prog w = .ok (.slice (some ⟨w.heap.size, 0, none⟩) S S) (w.alloc (.cells (madeCells #[.int .u8 0] S) 5)) := by
  obtain ⟨i0, hi, hz0, hz1, hz2⟩ := info_parts info5
  exact run_make_row (P := Try.prog) 22 5 i0 _ Try.underlying22 hi hz0 hz1 rfl .i64 .i64 S (by rw [hz2]; omega) (by omega) w
set_option maxRecDepth 100000 in
set_option maxHeartbeats 8000000 in
theorem refused_any (w : World) (n : Int) (pa : Option Addr) (pc : Nat) (I More : Int) (L : List PutR) (hP : Puts w pa L) (hI : -9223372036854775808 ≤ I ∧ I ≤ 9223372036854775807) :
    Calls Try.prog 7 #[.int .i64 n, .slice pa L.length pc, .int .i64 I, .int .i64 More] w fun e w' => e = .returned (.bool true) ∧ Below w.heap.size w w' := by
  have hll := hP.len
  have HP : Hid (Puts w pa L) := hP
  clear hP
  go_enter Try.func7, Try.ntmps7
  go_upto_region 5 with (go_at_call 15; refine (fresh_any _ n).mono ?_; rintro e w1 ⟨d, L0, nw, capL, g, cap, m, rfl, hm, hm1, hm9, q1, q2, q3, q4, q5, hD, hO, hb⟩; have HW : Hid (RfW w w1 d m 0 (newDk d L0 nw capL m (frs m))) := ⟨hD, ⟨rfl, frs_length m, Nat.le_refl _, Nat.le_refl _, Nat.le_refl _, Nat.le_refl _, rfl, rfl, rfl⟩, rfl, (by rintro j (e | e | e | e | e) <;> first | (cases e; done) | (have e : j = d := e; omega) | (have e : j = L0 := e; omega) | (have e : j = nw := e; omega)), hb⟩; clear hD hO hb q5 hm)
  go_loopw [11, 12, 32, 33, 34, 35, 36, 37, 38, 39, 40, 41, 42, 43] (fun _ _ i _ _ _ _ _ _ _ _ _ _ _ wr => ∃ k : Nat, k ≤ L.length ∧ k ≤ 30 ∧ i = .int .i64 k ∧ ∃ D, RfW w wr d m k D) (fun _ _ i _ _ _ _ _ _ _ _ _ _ _ _ => L.length - (intOf i).toNat)
  case atStart => exact ⟨0, Nat.zero_le _, Nat.zero_le _, rfl, _, HW.out⟩
  case round =>
    obtain ⟨k, hk, hk2, rfl, D, hW⟩ := hrel
    have hdd := hW.dd
    subst hdd
    clear HW
    have HW : Hid (RfW w wr D.d m k D) := hW
    clear hW
    by_cases hgo : k < L.length ∧ k < 30
    · obtain ⟨hlt, hbr⟩ := hgo
      have hPr := HP.out.on HW.out.bel
      obtain ⟨b, off, rfl, hc⟩ := hPr.at_.resolve_left (by intro e; rw [e] at hlt; simp at hlt)
      obtain ⟨q, hq⟩ : ∃ q, L[k]? = some q := ⟨L[k], by simp [hlt]⟩
      have hqx := hPr.each q (List.mem_of_getElem? hq)
      obtain ⟨c0, c1, c2⟩ := hc k q hq
      clear hPr hc hq
      obtain ⟨qb, qx, qf⟩ := q
      simp only at c0 c1 c2 hqx
      have HA : Hid (Below wr.heap.size wr (wr.alloc (.cells #[.int .i64 qb, .int .u8 qx, .bool qf] 42))) := (Below.refl _ _).alloc (Nat.le_refl _) _
      have HR := heap_alloc_new wr (.cells #[.int .i64 qb, .int .u8 qx, .bool qf] 42)
      have HC : Hid (∀ j, (wr.alloc (.cells #[.int .i64 qb, .int .u8 qx, .bool qf] 42)).cell? ⟨wr.heap.size, j, none⟩ = (#[Value.int .i64 qb, .int .u8 qx, .bool qf])[j]?) := fun j => cell_of_row _ _ _ _ _ _ HR
      clear HR
      go_upto_region 8 with fail
      generalize hwa : wr.alloc (.cells #[.int .i64 qb, .int .u8 qx, .bool qf] 42) = wa at *
      have HWa : Hid (RfW w wa D.d m k D) := HW.out.on HA.out
      have S0 : wa.cell? ⟨wr.heap.size, 0, none⟩ = some (.int .i64 qb) := HC.out 0
      have S1 : wa.cell? ⟨wr.heap.size, 1, none⟩ = some (.int .u8 qx) := HC.out 1
      have S2 : wa.cell? ⟨wr.heap.size, 2, none⟩ = some (.bool qf) := HC.out 2
      have hdn : D.down = false := HW.out.ab.down
      clear hwa HC c0 c1 c2 HA HW
      cases qf with
      | true =>
        go_wp2_with (go_at_call 16; refine (do_flush _ D HWa.out.disk qb qx hdn (HWa.out.ab.room (by omega))).mono ?_; rintro e w2 ⟨rfl, D', h1, h2, h4, h3⟩; rw [HWa.out.ab.step]; have HN : Hid (RfW w w2 D.d m (k + 1) D') := HWa.out.mv h1 h2 h3; clear h1 h2 h3 h4)
        exact ⟨⟨k + 1, hlt, hbr, rfl, D', HN.out⟩, by simp [intOf]; omega⟩
      | false =>
        go_wp2_with (go_at_call 16; refine (do_write _ D HWa.out.disk qb qx hqx hdn (HWa.out.ab.room (by omega))).mono ?_; rintro e w2 ⟨rfl, D', h1, h2, h4, h3⟩; rw [HWa.out.ab.step]; have HN : Hid (RfW w w2 D.d m (k + 1) D') := HWa.out.mv h1 h2 h3; clear h1 h2 h3 h4)
        exact ⟨⟨k + 1, hlt, hbr, rfl, D', HN.out⟩, by simp [intOf]; omega⟩
    · by_cases hlt : k < L.length
      case' pos =>
        have hPr := HP.out.on HW.out.bel
        obtain ⟨b, off, rfl, hc⟩ := hPr.at_.resolve_left (by intro e; rw [e] at hlt; simp at hlt)
        obtain ⟨q, hq⟩ : ∃ q, L[k]? = some q := ⟨L[k], by simp [hlt]⟩
        obtain ⟨c0, c1, c2⟩ := hc k q hq
        clear hPr hc hq
        have h30 : decide (30 ≤ (k : Int)) = true := by rw [decide_eq_true_eq]; omega
        have hltd : decide ((k : Int) < (L.length : Int)) = true := by rw [decide_eq_true_eq]; omega
        have HA : Hid (Below wr.heap.size wr (wr.alloc (.cells #[.int .i64 q.b, .int .u8 q.x, .bool q.fl] 42))) := (Below.refl _ _).alloc (Nat.le_refl _) _
        have HX : Hid (RfW w (wr.alloc (.cells #[.int .i64 q.b, .int .u8 q.x, .bool q.fl] 42)) D.d m k D) := HW.out.on HA.out
        clear HW hgo
        go_upto_region 11 with fail
        generalize wr.alloc (.cells #[.int .i64 q.b, .int .u8 q.x, .bool q.fl] 42) = w6 at *
      case' neg =>
        have HX : Hid (RfW w wr D.d m k D) := HW.out
        clear HW hgo
        go_upto_region 11 with fail
        generalize wr = w6 at *
      all_goals
        have hdn : D.down = false := HX.out.ab.down
        go_upto_region 13 with (go_at_call 24; refine (arm_yes _ D HX.out.disk 2 none 0 [] ⟨none, 0, rfl, .inl rfl⟩ (fun _ => rfl) (Nat.zero_le _) (by omega) hdn).mono ?_; rintro e w7 ⟨rfl, E, h1, h2, h4, h3⟩; have H7 : Hid (Disk w7 E ∧ E.d = D.d ∧ E.abs = D.abs.arm 2 [] ∧ (∀ j, E.has j → w.heap.size ≤ j) ∧ Below w.heap.size w w7) := ⟨h1, h2.d, h3, (h2.below w.heap.size HX.out.bel.size HX.out.core).2, HX.out.bel.trans (h2.below w.heap.size HX.out.bel.size HX.out.core).1⟩; clear h1 h2 h3 h4)
        have HEd := H7.out.2.1
        have HLa : Hid (LaI D.abs m k) := HX.out.ab
        clear HX
        generalize D.d = d0 at *
        subst HEd
        have HM : Hid (E.nb = m) := by
          have : E.abs.nb = m := by rw [H7.out.2.2.1]; exact HLa.out.nb
          exact this
        have hEdn : E.down = false := by
          have : E.abs.down = false := by rw [H7.out.2.2.1]; exact HLa.out.down
          exact this
        have HEl : Hid (E.las.length = 512 * m) := by
          have : E.abs.las.length = 512 * m := by rw [H7.out.2.2.1]; exact HLa.out.len
          exact this
        obtain ⟨s0, hs0⟩ : ∃ s0 : Nat, More % 1500 = (s0 : Int) := ⟨(More % 1500).toNat, by omega⟩
        have hs1 : s0 < 1500 := by omega
        have HS0 : Hid (More % 1500 = (s0 : Int)) := hs0
        clear hs0
        go_upto_if 62 with (first
          | (go_at_call 25; refine (steps_any _ E H7.out.1).mono ?_; rintro e wa ⟨rfl, hb⟩; have Ha : Hid (Below w7.heap.size w7 wa) := hb; clear hb)
          | (go_at_call 14; refine (image_any _ E (H7.out.1.on Ha.out)).mono ?_; rintro e wb ⟨gb, cb, rfl, hgb, hob, hbb⟩; rw [HM.out]; have Hb : Hid (Below w7.heap.size w7 wb) := Ha.out.trans (hbb.mono Ha.out.size); have e1 : (convert 22 9 (.slice (some ⟨gb, 0, none⟩) (512 * m) cb)).run Try.prog wb = .ok (.string (strOfNums E.las)) wb := str_opt hob.bytes HEl.out; clear hgb hob hbb)
          | (go_at_call 19; refine (pending_any _ E (H7.out.1.on Hb.out)).mono ?_; rintro e wc ⟨gc, cc, rfl, hgc, hoc, hbc⟩; have Hc : Hid (Below w7.heap.size w7 wc) := Hb.out.trans (hbc.mono Hb.out.size); clear hgc hoc hbc)
          | (go_at_call 17; refine (mod_any _ More 1500 (by omega) (by omega)).mono ?_; rintro e w' ⟨rfl, rfl⟩; rw [show More % ((1500 : Nat) : Int) = (s0 : Int) from HS0.out]))
        clear e1 Ha Hb
        have HDc : Hid (Disk wc E) := H7.out.1.on Hc.out
        obtain ⟨J, hJ⟩ : ∃ J : Nat, I % (m : Int) = (J : Int) := ⟨(I % (m : Int)).toNat, by have := Int.emod_nonneg I (b := (m : Int)) (by omega); omega⟩
        have hJm : J < m := by have := Int.emod_lt_of_pos I (b := (m : Int)) (by omega); omega
        have HJ : Hid (I % (m : Int) = (J : Int)) := hJ
        have HTJ : Hid (touchE E (J : Int) = 0) := by unfold touchE; rw [hEdn, HM.out, if_neg (by decide), if_pos (by omega)]; exact rfl
        clear hJ
        go_cut [17] (fun s17 wx => wx = wc ∧ ∃ S : Nat, S ≠ 512 ∧ S < 1500 ∧ s17 = .int .i64 S)
        case first =>
          by_cases h512 : s0 = 512
          · have h512' : (s0 : Int) = 512 := by omega
            go_wp2
            go_meet
            case rel => exact ⟨rfl, 0, by decide, by decide, rfl⟩
          · have h512' : ¬ (s0 : Int) = 512 := by omega
            go_wp2
            go_meet
            case rel => exact ⟨rfl, s0, h512, hs1, rfl⟩
        case rest =>
        obtain ⟨rfl, S, hS5, hS15, rfl⟩ := hcut
        have HSn : Hid (S ≠ 512) := hS5
        have hmk : ∀ w : World, (Instr.makeSlice 22 (.int .i64 (S : Int)) (.int .i64 (S : Int))).run Try.prog w = .ok (.slice (some ⟨w.heap.size, 0, none⟩) S S) (w.alloc (.cells (madeCells #[.int .u8 0] S) 5)) := fun w => make_run S (by omega) w
        obtain ⟨hI0, hI1⟩ := hI
        go_upto_region 20 with fail
        go_cut [71] (fun s71 wx => wx = wc ∧ s71 = .bool (decide (0 ≤ I ∧ I < (m : Int))))
        case first =>
          have h3 : (0 ≤ I ∧ I < (m : Int)) ∨ (0 ≤ I ∧ ¬ I < (m : Int)) ∨ ¬ 0 ≤ I := by omega
          rcases h3 with ⟨hp, hq⟩ | ⟨hp, hq⟩ | hp
          · go_wp2_with (go_at_call 11; refine (blocks_any _ E HDc.out).mono ?_; rintro e w' ⟨rfl, rfl⟩; rw [HM.out])
            go_meet
            case rel => exact ⟨rfl, by simp [hp, hq]⟩
          · go_wp2_with (go_at_call 11; refine (blocks_any _ E HDc.out).mono ?_; rintro e w' ⟨rfl, rfl⟩; rw [HM.out])
            go_meet
            case rel => exact ⟨rfl, by simp; omega⟩
          · go_wp2
            go_meet
            case rel => exact ⟨rfl, by simp; omega⟩
        case rest =>
        obtain ⟨rfl, rfl⟩ := hcut
        go_upto_if 71 with fail
        go_cut [18] (fun s18 wx => wx = wc ∧ ∃ O : Int, touchE E O = 31 ∧ s18 = .int .i64 O)
        case first =>
          by_cases hp : 0 ≤ I ∧ I < (m : Int)
          · have hpd : decide (0 ≤ I ∧ I < (m : Int)) = true := decide_eq_true hp
            go_wp2
            go_meet
            case rel => exact ⟨rfl, -1 - I, by unfold touchE; rw [hEdn, HM.out, if_neg (by decide), if_neg (by omega)], rfl⟩
          · have hpd : decide (0 ≤ I ∧ I < (m : Int)) = false := decide_eq_false hp
            go_wp2
            go_meet
            case rel => exact ⟨rfl, I, by unfold touchE; rw [hEdn, HM.out, if_neg (by decide), if_neg hp], rfl⟩
        case rest =>
        obtain ⟨rfl, O, hO, rfl⟩ := hcut
        have HO : Hid (touchE E O = 31) := hO
        clear hO
        rename_i wc
        go_wp2_with (go_at_call 10; refine (read_no _ E HDc.out _ (by rw [HO.out]; decide)).mono ?_; rintro e w' ⟨rfl, rfl⟩; rw [HO.out])
        have HB0 : Hid (Below wc.heap.size wc wc.drew) := (Below.refl _ wc).drew
        go_cut [107] (fun s107 wx => s107 = .bool false ∧ Below wc.heap.size wc wx)
        case first =>
          go_region_law (go_simp; first
            | (go_at_call 18; refine (lblock_any _ 1 (by omega)).mono ?_; rintro e wd ⟨rfl, ho, hb⟩; have HB1 : Hid (Below wc.heap.size wc wd) := HB0.out.trans hb; have HB2 : Hid (∀ o, Below wc.heap.size wc (wd.alloc o)) := fun o => HB1.out.alloc HB1.out.size o; have HB3 : Hid (∀ o o', Below wc.heap.size wc ((wd.alloc o).alloc o')) := fun o o' => (HB2.out o).alloc (HB2.out o).size o'; clear ho hb)
            | (go_at_call 26; refine (write_no _ E (HDc.out.on (by first | exact HB1.out | exact HB2.out _ | exact HB3.out _ _)) _ _ _ _ (by rw [HO.out]; decide)).mono ?_; rintro e w' ⟨rfl, rfl⟩; rw [HO.out])
            | (go_at_call 26; refine (write_size _ E (HDc.out.on (by first | exact HB1.out | exact HB2.out _ | exact HB3.out _ _)) _ _ _ _ HTJ.out HSn.out).mono ?_; rintro e w' ⟨rfl, rfl⟩)
            | (go_at_call 11; refine (blocks_any _ E (HDc.out.on (by first | exact HB1.out | exact HB2.out _ | exact HB3.out _ _))).mono ?_; rintro e w' ⟨rfl, rfl⟩; rw [HM.out])
            | (go_at_call 17; refine (mod_any _ I m (by omega) (by omega)).mono ?_; rintro e w' ⟨rfl, rfl⟩; rw [HJ.out]))
          all_goals
            (try go_wp2)
            go_meet
            case rel => first | exact ⟨rfl, HB3.out _ _⟩ | exact ⟨rfl, (HB3.out _ _).drew⟩
        case rest =>
        obtain ⟨rfl, hbx⟩ := hcut
        have HDe : Hid (Disk wc E) := HDc.out.on hbx
        have HBe : Hid (Below w.heap.size w wc) := (H7.out.2.2.2.2.trans (Hc.out.mono H7.out.2.2.2.2.size)).trans (hbx.mono (Nat.le_trans H7.out.2.2.2.2.size Hc.out.size))
        have HE2 : Hid (E.abs = D.abs.arm 2 [] ∧ (∀ j, E.has j → w.heap.size ≤ j)) := ⟨H7.out.2.2.1, H7.out.2.2.2.1⟩
        have HSt : Hid (E.abs.stepE = 0) := by rw [HE2.out.1]; rfl
        have HRo : Hid (Room E.abs) := by
          rw [HE2.out.1]
          exact ⟨by have := HLa.out.P; show D.abs.P.length + 1 ≤ _; omega, by have := HLa.out.T; show D.abs.T.length + 1 ≤ _; omega, by have := HLa.out.wr; show D.abs.wr + 1 ≤ _; omega, by have := HLa.out.fl; show D.abs.fl + 1 ≤ _; omega, by show ([] : List Bool).length ≤ _; simp⟩
        have HFl : Hid (Room E.abs.flush ∧ E.abs.flush.at_ = 1 ∧ E.abs.flush.down = false ∧ E.abs.flush.stepE = 30 ∧ E.abs.flush.flush.down = true) := by
          have e : E.abs.flush = { E.abs with fl := E.abs.fl + 1, at_ := 1, T := E.abs.T ++ [(2, 0, [])], las := E.abs.full, P := [] } := by
            rw [HE2.out.1]; rfl
          refine ⟨?_, by rw [e], by rw [e, HE2.out.1]; exact HLa.out.down, by rw [e]; rfl, by rw [e]; rfl⟩
          rw [e, HE2.out.1]
          exact ⟨by show 0 + 1 ≤ _; omega, by have := HLa.out.T; show (D.abs.T ++ _).length + 1 ≤ _; simp; omega, by have := HLa.out.wr; show D.abs.wr + 1 ≤ _; omega, by have := HLa.out.fl; show D.abs.fl + 1 + 1 ≤ _; omega, by show ([] : List Bool).length ≤ _; simp⟩
        clear HDc H7 Hc hbx hmk HO HTJ HJ HB0
        go_wp2_with (first
          | (go_at_call 25; refine (steps_any _ E HDe.out).mono ?_; rintro e wa ⟨rfl, hb⟩; have Ha : Hid (Disk wa E ∧ Below w.heap.size w wa) := ⟨HDe.out.on hb, HBe.out.trans (hb.mono HBe.out.size)⟩; clear hb)
          | (go_at_call 14; refine (image_any _ E Ha.out.1).mono ?_; rintro e wb ⟨gb, cb, rfl, hgb, hob, hbb⟩; rw [HM.out]; have Hb : Hid (Disk wb E ∧ Below w.heap.size w wb) := ⟨Ha.out.1.on hbb, Ha.out.2.trans (hbb.mono Ha.out.2.size)⟩; have e1 : (convert 22 9 (.slice (some ⟨gb, 0, none⟩) (512 * m) cb)).run Try.prog wb = .ok (.string (strOfNums E.las)) wb := str_opt hob.bytes HEl.out; clear hgb hob hbb)
          | (go_at_call 19; refine (pending_any _ E Hb.out.1).mono ?_; rintro e wp ⟨gp, cp, rfl, hgc, hoc, hbc⟩; have Hp : Hid (Disk wp E ∧ Below w.heap.size w wp) := ⟨Hb.out.1.on hbc, Hb.out.2.trans (hbc.mono Hb.out.2.size)⟩; clear hgc hoc hbc)
          | (go_at_call 27; refine (flush_yes _ E Hp.out.1 hEdn HRo.out).mono ?_; rintro e wq ⟨rfl, E2, z1, z2, z3, z4⟩; rw [HSt.out]; have Hq : Hid (Disk wq E2 ∧ E2.d = E.d ∧ E2.abs = E.abs.flush ∧ (∀ j, E2.has j → w.heap.size ≤ j) ∧ Below w.heap.size w wq) := ⟨z1, z2.d, z4, (z2.below w.heap.size Hp.out.2.size HE2.out.2).2, Hp.out.2.trans (z2.below w.heap.size Hp.out.2.size HE2.out.2).1⟩; have HdC : Hid (∀ wx D, Disk wx D → D.d = E.d → Calls Try.prog 21 #[.pointer (some ⟨E.d, 0, none⟩)] wx fun e w' => e = .returned (.bool D.down) ∧ wx = w') := fun wx D h e => (by rw [← e]; exact down_any wx D h); have HfC : Hid (Calls Try.prog 27 #[.pointer (some ⟨E.d, 0, none⟩)] wq fun e w' => e = .returned (.int .i64 30) ∧ ∃ D', Disk w' D' ∧ D'.d = E.d ∧ D'.down = true ∧ Below w.heap.size w w') := (by rw [← Hq.out.2.1]; refine (flush_yes wq E2 Hq.out.1 (show E2.abs.down = false from by rw [Hq.out.2.2.1]; exact HFl.out.2.2.1) (by rw [Hq.out.2.2.1]; exact HFl.out.1)).mono ?_; rintro e w' ⟨rfl, D', y1, y2, y3, y4⟩; exact ⟨by rw [Hq.out.2.2.1, HFl.out.2.2.2.1], D', y1, y2.d.trans rfl, (show D'.abs.down = true from by rw [y4, Hq.out.2.2.1]; exact HFl.out.2.2.2.2), Hq.out.2.2.2.2.trans (y2.below w.heap.size Hq.out.2.2.2.2.size Hq.out.2.2.2.1).1⟩); clear z1 z2 z3 z4)
          | (go_at_call 27; refine HfC.out.mono ?_; rintro e wz ⟨rfl, E3, y1, y2, y3, y4⟩; have Hz : Hid (Disk wz E3 ∧ E3.d = E.d ∧ E3.down = true ∧ Below w.heap.size w wz) := ⟨y1, y2, y3, y4⟩; clear y1 y2 y3 y4)
          | (go_at_call 21; refine (HdC.out _ E3 Hz.out.1 Hz.out.2.1).mono ?_; rintro e w' ⟨rfl, rfl⟩; rw [Hz.out.2.2.1])
          | (go_at_call 21; refine (HdC.out _ E2 Hq.out.1 Hq.out.2.1).mono ?_; rintro e w' ⟨rfl, rfl⟩; rw [show E2.down = false from (show E2.abs.down = false from by rw [Hq.out.2.2.1]; exact HFl.out.2.2.1)])
          | (go_at_call 21; refine (down_any _ E Hp.out.1).mono ?_; rintro e w' ⟨rfl, rfl⟩; rw [hEdn]))
        go_ret
        exact ⟨rfl, Hz.out.2.2.2⟩
end Go.Proofs.Ytgodjnnciacliaa
