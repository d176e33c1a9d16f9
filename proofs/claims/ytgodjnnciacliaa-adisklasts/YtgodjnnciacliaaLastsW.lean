import Derived.Test.YtgodjnnciacliaaLasts
namespace Go.Proofs.Ytgodjnnciacliaa
open Go.RowKit Adk

/-- within Lasts' first loop -/
structure LaW (w wr : World) (d gn cn m k : Nat) (D : Dk) : Prop where
  disk : Disk wr D
  ab : LaI D.abs m k
  dd : D.d = d
  own : OwnB wr gn cn D.abs.full
  nh : ¬ D.has gn
  core : ∀ j, D.has j → w.heap.size ≤ j
  bel : Below w.heap.size w wr
theorem LaW.on {w wr wx : World} {d gn cn m k : Nat} {D : Dk} (h : LaW w wr d gn cn m k D) (x : Below wr.heap.size wr wx) : LaW w wx d gn cn m k D :=
  ⟨h.disk.on x, h.ab, h.dd, h.own.on x, h.nh, h.core, h.bel.trans (x.mono h.bel.size)⟩
theorem LaW.flen {w wr : World} {d gn cn m k : Nat} {D : Dk} (h : LaW w wr d gn cn m k D) : D.abs.full.length = 512 * m := by
  unfold AD.full; rw [lay_length]; exact h.ab.len
theorem LaW.wrote {w wa w2 : World} {d gn cn m k : Nat} {D D' : Dk} {b x : Int} (h : LaW w wa d gn cn m k D) (h1 : Disk w2 D') (h2 : Mv wa D w2 D') (h3 : D'.abs = D.abs.do b x false) :
    Disk w2 D' ∧ LaI D'.abs m (k + 1) ∧ D'.d = d ∧ D'.abs.las = D.abs.las ∧ D'.abs.full = Adk.wr D.abs.full (b % (m : Int)).toNat (one x) ∧ OwnB w2 gn cn D.abs.full ∧ (∀ j, D'.has j → w.heap.size ≤ j) ∧ Below w.heap.size w w2 := by
  have e := h.ab.next_w b x
  rw [← h3] at e
  exact ⟨h1, e.1, h2.d.trans h.dd, e.2.1, e.2.2, h.own.fr h2.fr h.nh, (h2.below w.heap.size h.bel.size h.core).2, h.bel.trans (h2.below w.heap.size h.bel.size h.core).1⟩
/-- a copy of what is now, with the block in it -/
theorem LaW.copied {w w2 w3 w4 w5 : World} {d g' c' m k i : Nat} {D' : Dk} {F : List Int} {x : Int} (h : Disk w2 D' ∧ LaI D'.abs m (k + 1) ∧ D'.d = d ∧ D'.abs.full = Adk.wr F i (one x) ∧ (∀ j, D'.has j → w.heap.size ≤ j) ∧ Below w.heap.size w w2)
    (b3 : Below w2.heap.size w2 w3) (hg : w2.heap.size ≤ g') (b4 : Below w3.heap.size w3 w4) (ho : OwnB w5 g' c' (ov F (512 * i) 512 (nth (one x)))) (hf : Fr (fun k => k = g') w4 w5) : LaW w w5 d g' c' m (k + 1) D' := by
  obtain ⟨h1, h2, h3, h4, h5, h6⟩ := h
  have b24 := b3.trans (b4.mono b3.size)
  refine ⟨(h1.on b24).fr hf (fun j hj e => absurd (h1.allLt hj) (by omega)), h2, h3, ?_, fun e => absurd (h1.hasLt e) (by omega), h5, ?_⟩
  · rw [h4]; exact ho
  · exact (h6.trans (b24.mono h6.size)).trans (hf.below _ (fun k hk => by rw [hk]; exact Nat.le_trans h6.size hg) (Nat.le_trans h6.size b24.size))
theorem wrap_small {x : Int} {k : Nat} (h : x = k) (h2 : k < 9223372036854775808) : IntKind.i64.wrap x = (k : Int) := by
  rw [IntKind.wrap_i64]; omega
theorem infoB : (Try.prog.info? 4).map (fun i => (i.zero, i.size, i.bytes)) = some (some (.bool false), 1, 1) := by kernel_rfl
set_option maxRecDepth 100000 in
set_option maxHeartbeats 8000000 in
theorem lasts_any (w : World) (n : Int) (pa : Option Addr) (pc : Nat) (all : Bool) (L : List PutR) (hP : Puts w pa L) :
    Calls Try.prog 4 #[.int .i64 n, .slice pa L.length pc, .bool all] w fun e w' => e = .returned (.bool true) ∧ Below w.heap.size w w' := by
  have hll := hP.len
  have HP : Hid (Puts w pa L) := hP
  clear hP
  go_enter Try.func4, Try.ntmps4
  go_upto_region 6 with (first
    | (go_at_call 15; refine (fresh_any _ n).mono ?_; rintro e w1 ⟨d, L0, nw, capL, g, cap, m, rfl, hm, hm1, hm9, q1, q2, q3, q4, q5, hD, hO, hb⟩; have H1 : Hid (Disk w1 (newDk d L0 nw capL m (frs m)) ∧ Below w.heap.size w w1) := ⟨hD, hb⟩; have HW : Hid (LaW w w1 d g cap m 0 (newDk d L0 nw capL m (frs m))) := ⟨hD, ⟨rfl, frs_length m, Nat.le_refl _, Nat.le_refl _, Nat.le_refl _, Nat.le_refl _, rfl, rfl, rfl⟩, rfl, hO, q5, (by rintro j (e | e | e | e | e) <;> first | (cases e; done) | (have e : j = d := e; omega) | (have e : j = L0 := e; omega) | (have e : j = nw := e; omega)), hb⟩; clear hD hO hb q5 hm)
    | (go_at_call 11; refine (blocks_any _ (newDk d L0 nw capL m (frs m)) H1.out.1).mono ?_; rintro e w' ⟨rfl, rfl⟩; rw [show ((newDk d L0 nw capL m (frs m)).nb : Int) = (m : Int) from rfl]))
  have e1 : (convert 22 9 (.slice (some ⟨g, 0, none⟩) (512 * m) cap)).run Try.prog w1 = .ok (.string (strOfNums (frs m))) w1 := str_opt HW.out.own.bytes (frs_length m)
  go_wp2
  clear e1 H1
  go_loopw [10, 11, 12, 13, 14, 35, 36, 37, 38, 39, 40, 41, 42, 43, 44, 45, 46, 47, 48, 49, 50, 51, 52, 53, 54, 55, 56, 57, 58, 59, 60, 61, 62, 63, 64, 65] (fun now last _ _ _ i _ _ _ _ _ _ _ _ _ _ _ _ _ _ _ _ _ _ _ _ _ _ _ _ _ _ _ _ _ _ wr => ∃ k : Nat, k ≤ L.length ∧ k ≤ 200 ∧ i = .int .i64 k ∧ ∃ gn cn D, now = .slice (some ⟨gn, 0, none⟩) (512 * m) cn ∧ last = .string (strOfNums D.abs.las) ∧ LaW w wr d gn cn m k D) (fun _ _ _ _ _ i _ _ _ _ _ _ _ _ _ _ _ _ _ _ _ _ _ _ _ _ _ _ _ _ _ _ _ _ _ _ _ => L.length - (intOf i).toNat)
  case atStart => exact ⟨0, Nat.zero_le _, Nat.zero_le _, rfl, _, _, _, rfl, rfl, HW.out⟩
  case round =>
    obtain ⟨k, hk, hk2, rfl, gn, cn, D, rfl, rfl, hW⟩ := hrel
    have hdd := hW.dd
    subst hdd
    clear HW
    have HW : Hid (LaW w wr D.d gn cn m k D) := hW
    clear hW
    by_cases hgo : k < L.length ∧ k < 200
    · obtain ⟨hlt, hbr⟩ := hgo
      have hPr := HP.out.on HW.out.bel
      obtain ⟨b, off, rfl, hc⟩ := hPr.at_.resolve_left (by intro e; rw [e] at hlt; simp at hlt)
      obtain ⟨q, hq⟩ : ∃ q, L[k]? = some q := ⟨L[k], by simp [hlt]⟩
      have hqx := hPr.each q (List.mem_of_getElem? hq)
      obtain ⟨c0, c1, c2⟩ := hc k q hq
      clear hPr hc hq
      obtain ⟨qb, qx, qf⟩ := q
      simp only at c0 c1 c2 hqx
      have HA : Hid (Below wr.heap.size wr (wr.alloc (.cells #[.int .i64 qb, .int .u8 qx, .bool qf] 42))) := (Below.refl _ _).alloc (Nat.le_refl _) _
      have HR := heap_alloc_new wr (.cells #[.int .i64 qb, .int .u8 qx, .bool qf] 42)
      have HC : Hid (∀ j, (wr.alloc (.cells #[.int .i64 qb, .int .u8 qx, .bool qf] 42)).cell? ⟨wr.heap.size, j, none⟩ = (#[Value.int .i64 qb, .int .u8 qx, .bool qf])[j]?) := fun j => cell_of_row _ _ _ _ _ _ HR
      clear HR
      go_upto_region 11 with fail
      generalize hwa : wr.alloc (.cells #[.int .i64 qb, .int .u8 qx, .bool qf] 42) = wa at *
      have HWa : Hid (LaW w wa D.d gn cn m k D) := HW.out.on HA.out
      have S0 : wa.cell? ⟨wr.heap.size, 0, none⟩ = some (.int .i64 qb) := HC.out 0
      have S1 : wa.cell? ⟨wr.heap.size, 1, none⟩ = some (.int .u8 qx) := HC.out 1
      have S2 : wa.cell? ⟨wr.heap.size, 2, none⟩ = some (.bool qf) := HC.out 2
      have HS : Hid (¬ D.has wr.heap.size ∧ wr.heap.size < wa.heap.size) := ⟨fun e => absurd (HW.out.disk.hasLt e) (by omega), block_lt_of_cell S0⟩
      have hdn : D.down = false := HW.out.ab.down
      clear hwa HC c0 c1 c2 HA HW
      cases qf with
      | true =>
        go_upto_region 14 with (go_at_call 16; refine (do_flush _ D HWa.out.disk qb qx hdn (HWa.out.ab.room hk2)).mono ?_; rintro e w2 ⟨rfl, D', h1, h2, h4, h3⟩; rw [HWa.out.ab.step]; have HN : Hid (LaW w w2 D.d gn cn m (k + 1) D' ∧ D'.abs.full = D'.abs.las) := ⟨⟨h1, by rw [h3]; exact (HWa.out.ab.next_f qb qx).1, h2.d, by rw [h3, (HWa.out.ab.next_f qb qx).2.2]; exact HWa.out.own.fr h2.fr HWa.out.nh, fun e => (h2.has _ e).elim HWa.out.nh (fun e => absurd HWa.out.own.lt (by omega)), (h2.below w.heap.size HWa.out.bel.size HWa.out.core).2, HWa.out.bel.trans (h2.below w.heap.size HWa.out.bel.size HWa.out.core).1⟩, by rw [h3, (HWa.out.ab.next_f qb qx).2.1, (HWa.out.ab.next_f qb qx).2.2]⟩; have T2 : w2.cell? ⟨wr.heap.size, 2, none⟩ = some (.bool true) := h2.fr.cell S2 HS.out.1; clear h1 h2 h3 h4)
        have e1 : (convert 22 9 (.slice (some ⟨gn, 0, none⟩) (512 * m) cn)).run Try.prog w2 = .ok (.string (strOfNums D'.abs.full)) w2 := str_opt HN.out.1.own.bytes HN.out.1.flen
        go_wp2
        exact ⟨⟨k + 1, hlt, hbr, rfl, gn, cn, D', rfl, by rw [HN.out.2], HN.out.1⟩, by simp [intOf]; omega⟩
      | false =>
        go_upto_region 15 with (go_at_call 16; refine (do_write _ D HWa.out.disk qb qx hqx hdn (HWa.out.ab.room hk2)).mono ?_; rintro e w2 ⟨rfl, D', h1, h2, h4, h3⟩; rw [HWa.out.ab.step]; have HN : Hid (Disk w2 D' ∧ LaI D'.abs m (k + 1) ∧ D'.d = D.d ∧ D'.abs.las = D.abs.las ∧ D'.abs.full = Adk.wr D.abs.full (qb % (m : Int)).toNat (one qx) ∧ OwnB w2 gn cn D.abs.full ∧ (∀ j, D'.has j → w.heap.size ≤ j) ∧ Below w.heap.size w w2) := HWa.out.wrote h1 h2 h3; have T0 : w2.cell? ⟨wr.heap.size, 0, none⟩ = some (.int .i64 qb) := h2.fr.cell S0 HS.out.1; have T1 : w2.cell? ⟨wr.heap.size, 1, none⟩ = some (.int .u8 qx) := h2.fr.cell S1 HS.out.1; have T2 : w2.cell? ⟨wr.heap.size, 2, none⟩ = some (.bool false) := h2.fr.cell S2 HS.out.1; clear h1 h2 h3 h4)
        have HFl : Hid (D.abs.full.length = 512 * m) := HWa.out.flen
        clear S0 S1 S2 HWa hdn
        obtain ⟨i, hi⟩ : ∃ i : Nat, qb % (m : Int) = (i : Int) := ⟨(qb % (m : Int)).toNat, by have := Int.emod_nonneg qb (b := (m : Int)) (by omega); omega⟩
        have hin : i < m := by have := Int.emod_lt_of_pos qb (b := (m : Int)) (by omega); omega
        have HI : Hid (qb % (m : Int) = (i : Int)) := hi
        clear hi
        go_upto_region 17 with (at_builtin; refine wp_bown rfl (.tmp 50) (.tmp 51) rfl (.slice none 0 0) 0 [] rfl ⟨rfl, .inl ⟨rfl, rfl⟩⟩ ⟨gn, 0, none⟩ (512 * m) cn D.abs.full rfl (by omega) HFl.out HN.out.2.2.2.2.2.1.bytes (by omega) ?_; intro g' c' w3 ho hf hg; have H3 : Hid (OwnB w3 g' c' D.abs.full ∧ w2.heap.size ≤ g' ∧ Below w2.heap.size w2 w3) := ⟨ownB_of (n := 512 * m) (by simpa using ho) HFl.out (by omega) HN.out.2.2.2.2.2.1.wf, hg.elim (fun e => by cases e) id, hf.below _ (fun j hj => by cases hj) (Nat.le_refl _)⟩; have U0 : w3.cell? ⟨wr.heap.size, 0, none⟩ = some (.int .i64 qb) := hf.cell T0 (fun e => by cases e); have U1 : w3.cell? ⟨wr.heap.size, 1, none⟩ = some (.int .u8 qx) := hf.cell T1 (fun e => by cases e); clear ho hf hg)
        have HB3 : Hid (Below w3.heap.size w3 w3.drew) := (Below.refl _ w3).drew
        obtain ⟨A, hA⟩ : ∃ A, A = 512 * i := ⟨_, rfl⟩
        have HAe : Hid (A = 512 * i) := hA
        have hc' : 512 * m ≤ c' := by have := H3.out.1.room; rw [HFl.out] at this; exact this
        have p0 : IntKind.i64.wrap ((i : Int) * 512) = (A : Int) := by rw [wrap_small (k := A) (by omega) (by omega)]
        have p3 : (A : Int) ≤ ((512 * m : Nat) : Int) := by omega
        have p3' : (A : Int) ≤ 512 * (m : Int) := by omega
        have p6 : ¬ c' = A := by omega
        have p7 : A + 512 ≤ 512 * m := by omega
        clear hA T0 T1 T2
        go_region_law (first
          | (refine step_copyB rfl (.tmp 59) (.tmp 62) rfl g' c' A (512 * m - A) (c' - A) D.abs.full ⟨w3.heap.size, 0, none⟩ 512 512 (one qx) (by simp [Act.eval]) (by simp [Act.eval]) (H3.out.1.on H4.out.2) H4.out.1.bytes (one_length _) (by omega) (by rw [HFl.out]; exact p7) ?_; intro w5 ho hf; have H5 : Hid (LaW w w5 D.d g' c' m (k + 1) D') := LaW.copied (i := i) (x := qx) (F := D.abs.full) ⟨HN.out.1, HN.out.2.1, HN.out.2.2.1, by rw [HN.out.2.2.2.2.1, HI.out]; rfl, HN.out.2.2.2.2.2.2.1, HN.out.2.2.2.2.2.2.2⟩ H3.out.2.2 H3.out.2.1 H4.out.2 (by rw [← HAe.out]; exact ho) hf; clear ho hf)
          | (go_simp; go_at_call 17; refine (mod_any _ qb m (by omega) (by omega)).mono ?_; rintro e w' ⟨rfl, rfl⟩; rw [HI.out])
          | (go_simp; go_at_call 18; refine (lblock_any _ qx hqx).mono ?_; rintro e w4 ⟨rfl, ho, hb⟩; have H4 : Hid (OwnB w4 w3.heap.size 512 (one qx) ∧ Below w3.heap.size w3 w4) := ⟨ho, HB3.out.trans hb⟩; have V0 : w4.cell? ⟨wr.heap.size, 0, none⟩ = some (.int .i64 qb) := (below_fr H4.out.2 (fun _ => False)).cell U0 (fun e => e); clear ho hb))
        all_goals
          go_wp2
          exact ⟨⟨k + 1, hlt, hbr, rfl, g', c', D', rfl, by rw [HN.out.2.2.2.1], H5.out⟩, by simp [intOf]; omega⟩
    · by_cases hlt : k < L.length
      case' pos =>
        have hPr := HP.out.on HW.out.bel
        obtain ⟨b, off, rfl, hc⟩ := hPr.at_.resolve_left (by intro e; rw [e] at hlt; simp at hlt)
        obtain ⟨q, hq⟩ : ∃ q, L[k]? = some q := ⟨L[k], by simp [hlt]⟩
        obtain ⟨c0, c1, c2⟩ := hc k q hq
        clear hPr hc hq
        have h200 : decide (200 ≤ (k : Int)) = true := by rw [decide_eq_true_eq]; omega
        have hltd : decide ((k : Int) < (L.length : Int)) = true := by rw [decide_eq_true_eq]; omega
        have HA : Hid (Below wr.heap.size wr (wr.alloc (.cells #[.int .i64 q.b, .int .u8 q.x, .bool q.fl] 42))) := (Below.refl _ _).alloc (Nat.le_refl _) _
        have HX : Hid (LaW w (wr.alloc (.cells #[.int .i64 q.b, .int .u8 q.x, .bool q.fl] 42)) D.d gn cn m k D) := HW.out.on HA.out
        clear HW hgo
        go_upto_region 21 with fail
        generalize wr.alloc (.cells #[.int .i64 q.b, .int .u8 q.x, .bool q.fl] 42) = w6 at *
      case' neg =>
        have HX : Hid (LaW w wr D.d gn cn m k D) := HW.out
        clear HW hgo
        go_upto_region 21 with fail
        generalize wr = w6 at *
      all_goals
        have HM : Hid (D.nb = m) := HX.out.ab.nb
        have hdn : D.down = false := HX.out.ab.down
        have HF : Hid (D.abs.full.length = 512 * m) := HX.out.flen
        have hcn : 512 * m ≤ cn := by have := HX.out.own.room; rw [HF.out] at this; exact this
        go_loopw [15, 16, 17, 66, 67, 68, 69, 70, 71, 72, 73, 74, 75, 76, 77, 78, 79, 80, 81, 82, 83, 84, 85, 86, 87, 88, 89, 90, 91] (fun i _ _ _ _ _ _ _ _ _ _ _ _ _ _ _ _ _ _ _ _ _ _ _ _ _ _ _ _ wr => ∃ j : Nat, j ≤ m ∧ i = .int .i64 j ∧ Below w6.heap.size w6 wr) (fun i _ _ _ _ _ _ _ _ _ _ _ _ _ _ _ _ _ _ _ _ _ _ _ _ _ _ _ _ _ => m - (intOf i).toNat)
        case atStart => exact ⟨0, Nat.zero_le _, rfl, Below.refl _ _⟩
        case round =>
          obtain ⟨j, hj, rfl, hbj⟩ := hrel
          have HBj : Hid (Below w6.heap.size w6 wr) := hbj
          clear hbj
          by_cases hlj : j < m
          · obtain ⟨A, hA⟩ : ∃ A, A = 512 * j := ⟨_, rfl⟩
            have HAe : Hid (A = 512 * j) := hA
            have p0 : IntKind.i64.wrap ((j : Int) * 512) = (A : Int) := by rw [wrap_small (k := A) (by omega) (by omega)]
            have p1 : IntKind.i64.wrap ((A : Int) + 512) = (A : Int) + 512 := by rw [wrap_small (k := A + 512) (by omega) (by omega)]; rfl
            have p2 : 0 ≤ (A : Int) + 512 := by omega
            have p3 : (A : Int) + 512 ≤ (cn : Int) := by omega
            have p4 : (A : Int) ≤ max ((A : Int) + 512) 0 := by omega
            have p5 : ((A : Int) + 512).toNat = A + 512 := by omega
            have p6 : ¬ cn = A := by omega
            have hAm : A + 512 ≤ 512 * m := by omega
            clear hA
            go_upto_region 24 with (go_at_call 10; refine (read_yes _ D (HX.out.disk.on HBj.out) j (by rw [HM.out]; exact hlj) hdn).mono ?_; rintro e w7 ⟨g7, c7, rfl, hg7, ho7, hb7⟩; have H7 : Hid (OwnB w7 g7 c7 (blk D.abs.full j) ∧ Below w6.heap.size w6 w7) := ⟨by rw [← abs_full]; exact ho7, HBj.out.trans (hb7.mono HBj.out.size)⟩; clear hg7 ho7 hb7)
            have HD : Hid (Below w7.heap.size w7 w7.drew) := (Below.refl _ w7).drew
            have HS : Hid (Bytes w7.drew (some ⟨gn, A, none⟩) (blk D.abs.full j)) := by
              have := ((HX.out.own.on H7.out.2).on HD.out).sub A 512 (by rw [HF.out]; exact hAm)
              rw [blk, ← HAe.out]; exact this
            have HBl : Hid ((blk D.abs.full j).length = 512) := blk_length HF.out hlj
            have e1 : (convert 22 9 (.slice (some ⟨g7, 0, none⟩) 512 c7)).run Try.prog w7.drew = .ok (.string (strOfNums (blk D.abs.full j))) w7.drew := str_opt (H7.out.1.bytes.on HD.out) HBl.out
            have e2 : ∀ c, (convert 22 9 (.slice (some ⟨gn, A, none⟩) 512 c)).run Try.prog w7.drew = .ok (.string (strOfNums (blk D.abs.full j))) w7.drew := fun c => str_opt HS.out HBl.out
            go_region
            all_goals
              go_wp2
              first
                | exact ⟨⟨j + 1, hlj, rfl, H7.out.2.trans (HD.out.mono H7.out.2.size)⟩, by simp [intOf]; omega⟩
                | (refine ⟨?_, by simp [intOf]; omega⟩; (repeat apply Exists.intro); exact ⟨⟨j + 1, hlj, rfl, H7.out.2.trans (HD.out.mono H7.out.2.size)⟩, rfl⟩)
          · have H6 : Hid (LaW w wr D.d gn cn m k D) := HX.out.on HBj.out
            clear HX HBj
            go_upto_region 30 with (first
              | (go_at_call 14; refine (image_any _ D H6.out.disk).mono ?_; rintro e w7 ⟨g7, c7, rfl, hg7, ho7, hb7⟩; rw [HM.out]; have H7 : Hid (LaW w w7 D.d gn cn m k D) := H6.out.on hb7; have e1 : (convert 22 9 (.slice (some ⟨g7, 0, none⟩) (512 * m) c7)).run Try.prog w7 = .ok (.string (strOfNums D.abs.las)) w7 := str_opt ho7.bytes H6.out.ab.len; clear hg7 ho7 hb7)
              | (go_at_call 19; refine (pending_any _ D H7.out.disk).mono ?_; rintro e w8 ⟨g8, c8, rfl, hg8, ho8, hb8⟩; have H8 : Hid (LaW w w8 D.d gn cn m k D) := H7.out.on hb8; clear hg8 ho8 hb8))
            clear e1 H7 H6
            have hN : D.pen.length ≤ 200 := by have := H8.out.ab.P; rw [abs_len] at this; omega
            have HNe : Hid (D.abs.P.length = D.pen.length) := abs_len D
            obtain ⟨i1, j1, j2, j3, j4⟩ := info_parts infoB
            generalize D.pen.length = N at *
            go_loopw [18, 100, 101, 102, 103, 104, 105, 106] (fun v i _ _ _ _ _ _ wr => ∃ j : Nat, j ≤ N ∧ i = .int .i64 j ∧ wr.ownsRow 0 4 1 v j ((List.replicate j all).map Value.bool) ∧ (∀ b, v.ownBlock = some b → w8.heap.size ≤ b) ∧ Below w8.heap.size w8 wr) (fun _ i _ _ _ _ _ _ _ => N - (intOf i).toNat)
            case atStart => exact ⟨0, Nat.zero_le _, rfl, ⟨rfl, .inl ⟨rfl, rfl⟩⟩, (fun b hb => by cases hb), Below.refl _ _⟩
            case round =>
              obtain ⟨t, ht, rfl, ho, hg, hb⟩ := hrel
              have HO : Hid (wr.ownsRow 0 4 1 u18 t ((List.replicate t all).map Value.bool) ∧ (∀ b, u18.ownBlock = some b → w8.heap.size ≤ b) ∧ Below w8.heap.size w8 wr) := ⟨ho, hg, hb⟩
              clear ho hg hb
              by_cases hlt2 : t < N
              · have HA : Hid (Below wr.heap.size wr (wr.alloc (.cells #[.bool all] 4))) := (Below.refl _ _).alloc (Nat.le_refl _) _
                have HR := heap_alloc_new wr (.cells #[.bool all] 4)
                have HNw : Hid (∀ j u, [Value.bool all][j]? = some u → (wr.alloc (.cells #[.bool all] 4)).cell? ((⟨wr.heap.size, 0, none⟩ : Addr).add j) = some u) := news_of HR _ rfl
                have HW2 : Hid ((wr.alloc (.cells #[.bool all] 4)).ownsRow 0 4 1 u18 t ((List.replicate t all).map Value.bool)) := owns_fr HO.out.1 (below_fr HA.out (fun j => wr.heap.size ≤ j)) (fun j hj => Nat.not_le.2 (owns_block HO.out.1 hj))
                clear HR
                go_wp2_with (at_builtin; refine wp_own rfl (.tmp 102) (.tmp 104) 46 rfl 4 i1 _ 1 1 Try.underlying46 j1 j2 j3 j4 rfl (by decide) u18 t ((List.replicate t all).map Value.bool) rfl HW2.out ⟨wr.heap.size, 0, none⟩ 1 1 [Value.bool all] rfl (by decide) rfl HNw.out (by intro u hu; simp at hu; subst hu; rfl) (by unfold maxLen; omega) (by omega) ?_; intro g' c' w9 ho hf hg; have HZ : Hid (w9.ownsRow 0 4 1 (.slice (some ⟨g', 0, none⟩) (t + 1) c') (t + 1) ((List.replicate (t + 1) all).map Value.bool) ∧ w8.heap.size ≤ g' ∧ Below w8.heap.size w8 w9) := ⟨by rw [List.replicate_succ', List.map_append]; exact ho, hg.elim (HO.out.2.1 g') (fun e => Nat.le_trans HO.out.2.2.size (Nat.le_trans HA.out.size e)), (HO.out.2.2.trans (HA.out.mono HO.out.2.2.size)).trans (hf.below _ HO.out.2.1 (Nat.le_trans HO.out.2.2.size HA.out.size))⟩; clear ho hf hg)
                first
                  | exact ⟨⟨t + 1, hlt2, rfl, HZ.out.1, (fun b hb => by cases hb; exact HZ.out.2.1), HZ.out.2.2⟩, by simp [intOf]; omega⟩
                  | (refine ⟨?_, by simp [intOf]; omega⟩; (repeat apply Exists.intro); exact ⟨⟨t + 1, hlt2, rfl, HZ.out.1, (fun b hb => by cases hb; exact HZ.out.2.1), HZ.out.2.2⟩, rfl⟩)
              · obtain rfl : t = N := by omega
                have HBo : Hid (Bools wr u18 (List.replicate t all)) := bools_of (by rw [List.length_replicate]; exact HO.out.1)
                have HXr : Hid (LaW w wr D.d gn cn m k D) := H8.out.on HO.out.2.2
                have HVb : Hid (∀ b, u18.ownBlock = some b → ¬ D.has b) := fun b hb e => absurd (H8.out.disk.hasLt e) (Nat.not_lt.2 (HO.out.2.1 b hb))
                have HLas : Hid ((D.cut (kpOf (List.replicate t all))).las = if all then D.abs.full else D.abs.las) := by
                  have := cut_all (a := D.abs) all
                  rw [HNe.out, ← abs_cut] at this
                  exact this
                obtain ⟨va, vc, rfl⟩ : ∃ va vc, u18 = .slice va t vc := by
                  obtain ⟨a, c, hv, _⟩ := owns_slice HO.out.1
                  exact ⟨a, c, hv⟩
                have HC : Hid (List.length (D.abs.full) = 512 * m ∧ D.abs.las.length = 512 * m) := ⟨HF.out, HXr.out.ab.len⟩
                have HT : Hid (touchE (D.cut (kpOf (List.replicate t all))) 0 = 30) := rfl
                have hrl : (List.replicate t all).length ≤ 9223372036854775807 := by rw [List.length_replicate]; omega
                cases all with
                | true =>
                  go_upto_region 35 with (go_at_call 20; refine (crash_any _ D HXr.out.disk _ (List.replicate t true) HBo.out (fun _ => HVb.out) hrl).mono ?_; rintro e w9 ⟨rfl, hd9, hm9⟩; have H9 : Hid (Disk w9 (D.cut (kpOf (List.replicate t true))) ∧ OwnB w9 gn cn D.abs.full ∧ Below w.heap.size w w9) := ⟨hd9, HXr.out.own.fr hm9.fr HXr.out.nh, HXr.out.bel.trans (hm9.below _ HXr.out.bel.size HXr.out.core).1⟩; clear hd9 hm9)
                  have e1 : (convert 22 9 (.slice (some ⟨gn, 0, none⟩) (512 * m) cn)).run Try.prog w9 = .ok (.string (strOfNums D.abs.full)) w9 := str_opt H9.out.2.1.bytes HC.out.1
                  go_wp2_with (first
                    | (go_at_call 10; refine (read_no _ (D.cut (kpOf (List.replicate t true))) H9.out.1 0 (by rw [HT.out]; decide)).mono ?_; rintro e w' ⟨rfl, rfl⟩; rw [HT.out])
                    | (go_at_call 14; refine (image_any _ (D.cut (kpOf (List.replicate t true))) H9.out.1).mono ?_; rintro e w10 ⟨g10, c10, rfl, hg10, ho10, hb10⟩; rw [show (D.cut (kpOf (List.replicate t true))).nb = m from HM.out]; have H10 : Hid (Disk w10 (D.cut (kpOf (List.replicate t true))) ∧ Below w.heap.size w w10) := ⟨H9.out.1.on hb10, H9.out.2.2.trans (hb10.mono H9.out.2.2.size)⟩; rw [HLas.out, if_pos trivial] at ho10; have e2 : (convert 22 9 (.slice (some ⟨g10, 0, none⟩) (512 * m) c10)).run Try.prog w10 = .ok (.string (strOfNums D.abs.full)) w10 := str_opt ho10.bytes HC.out.1; clear hg10 ho10 hb10)
                    | (go_at_call 21; refine (down_any _ (D.cut (kpOf (List.replicate t true))) H10.out.1).mono ?_; rintro e w' ⟨rfl, rfl⟩; rw [show (D.cut (kpOf (List.replicate t true))).down = true from rfl])
                    | (go_at_call 19; refine (pending_any _ (D.cut (kpOf (List.replicate t true))) H10.out.1).mono ?_; rintro e w11 ⟨g11, c11, rfl, hg11, ho11, hb11⟩; rw [show (D.cut (kpOf (List.replicate t true))).pen.length = 0 from rfl]; have H11 : Hid (Below w.heap.size w w11) := H10.out.2.trans (hb11.mono H10.out.2.size); clear hg11 ho11 hb11))
                  go_ret
                  exact ⟨rfl, H11.out⟩
                | false =>
                  go_wp2_with (first
                    | (go_at_call 20; refine (crash_any _ D HXr.out.disk _ (List.replicate t false) HBo.out (fun _ => HVb.out) hrl).mono ?_; rintro e w9 ⟨rfl, hd9, hm9⟩; have H9 : Hid (Disk w9 (D.cut (kpOf (List.replicate t false))) ∧ Below w.heap.size w w9) := ⟨hd9, HXr.out.bel.trans (hm9.below _ HXr.out.bel.size HXr.out.core).1⟩; clear hd9 hm9)
                    | (go_at_call 10; refine (read_no _ (D.cut (kpOf (List.replicate t false))) H9.out.1 0 (by rw [HT.out]; decide)).mono ?_; rintro e w' ⟨rfl, rfl⟩; rw [HT.out])
                    | (go_at_call 14; refine (image_any _ (D.cut (kpOf (List.replicate t false))) H9.out.1).mono ?_; rintro e w10 ⟨g10, c10, rfl, hg10, ho10, hb10⟩; rw [show (D.cut (kpOf (List.replicate t false))).nb = m from HM.out]; have H10 : Hid (Disk w10 (D.cut (kpOf (List.replicate t false))) ∧ Below w.heap.size w w10) := ⟨H9.out.1.on hb10, H9.out.2.trans (hb10.mono H9.out.2.size)⟩; rw [HLas.out, if_neg (by decide)] at ho10; have e2 : (convert 22 9 (.slice (some ⟨g10, 0, none⟩) (512 * m) c10)).run Try.prog w10 = .ok (.string (strOfNums D.abs.las)) w10 := str_opt ho10.bytes HC.out.2; clear hg10 ho10 hb10)
                    | (go_at_call 21; refine (down_any _ (D.cut (kpOf (List.replicate t false))) H10.out.1).mono ?_; rintro e w' ⟨rfl, rfl⟩; rw [show (D.cut (kpOf (List.replicate t false))).down = true from rfl])
                    | (go_at_call 19; refine (pending_any _ (D.cut (kpOf (List.replicate t false))) H10.out.1).mono ?_; rintro e w11 ⟨g11, c11, rfl, hg11, ho11, hb11⟩; rw [show (D.cut (kpOf (List.replicate t false))).pen.length = 0 from rfl]; have H11 : Hid (Below w.heap.size w w11) := H10.out.2.trans (hb11.mono H10.out.2.size); clear hg11 ho11 hb11))
                  go_ret
                  exact ⟨rfl, H11.out⟩
end Go.Proofs.Ytgodjnnciacliaa
