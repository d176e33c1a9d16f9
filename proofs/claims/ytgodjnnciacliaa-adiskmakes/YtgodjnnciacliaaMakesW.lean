import Derived.Test.YtgodjnnciacliaaOpened
namespace Go.Proofs.Ytgodjnnciacliaa
open Go.RowKit Adk

/-- a new row of 512 zeros -/
theorem make512 : ∃ o : Obj, (∀ w : World, (Instr.makeSlice 22 (.int .i64 512) (.int .i64 512)).run Try.prog w = .ok (.slice (some ⟨w.heap.size, 0, none⟩) 512 512) (w.alloc o)) ∧ ∀ w : World, OwnB (w.alloc o) w.heap.size 512 (zs 512) := by
  obtain ⟨i0, hi, hz0, hz1, hz2⟩ := info_parts info5
  refine ⟨.cells (madeCells #[.int .u8 0] 512) 5, fun w => run_make_row (P := Try.prog) 22 5 i0 _ Try.underlying22 hi hz0 hz1 rfl .i64 .i64 512 (by rw [hz2]; omega) (by omega) w, fun w => ?_⟩
  refine ⟨⟨_, heap_alloc_new _ _, ?_, ?_⟩, ?_, ?_, ?_, wf_rep 512 0 (by omega)⟩
  · rw [← Array.length_toList, made_list, List.length_replicate]
  · rw [made_list, zs_length, zs, List.map_replicate, List.take_replicate, Nat.min_self]
  · rw [zs_length]; omega
  · rw [zs_length]; omega
  · unfold maxLen; omega
theorem blk_zs (nb i : Nat) (hi : i < nb) : blk (zs (512 * nb)) i = zs 512 := by
  unfold blk zs
  rw [List.drop_replicate, List.take_replicate]
  congr 1
  omega
theorem eql_ptr0 (w : World) : (binOp .eql 23 (.pointer none) (.pointer none)).run Try.prog w = .ok (.bool true) w := by
  have h : ∀ d : Nat, (Op.equalIn (d + 1) 23 (.pointer none) (.pointer none)).run Try.prog w = .ok true w := fun d => by
    simp [Op.equalIn, run_underlying Try.underlying23]
  simp only [binOp]
  simp [Op.equal, Op.maxDepth, h 9999]
set_option maxRecDepth 100000 in
set_option maxHeartbeats 8000000 in
theorem makes_any (w : World) (N : Int) (a : Option Addr) (n c : Nat) (l : List Int) (hb : Bytes w a l) (hl : l.length = n) (hn : a = none → c = 0) (h47 : n ≤ 140737488351232) :
    Calls Try.prog 3 #[.int .i64 N, .slice a n c] w fun e w' => e = .returned (.bool true) ∧ Below w.heap.size w w' := by
  have HB : Hid (Bytes w a l) := hb
  have HL : Hid (l.length = n) := hl
  clear hb hl
  have E1 := eql_ptr1
  obtain ⟨mk512, E2, hown5⟩ := make512
  have HOw5 : Hid (∀ w : World, OwnB (w.alloc mk512) w.heap.size 512 (zs 512)) := hown5
  clear hown5
  have E3 := eql_ptr0
  go_enter Try.func3, Try.ntmps3
  by_cases hf : 1 ≤ N ∧ N ≤ 16384
  case' pos =>
    obtain ⟨nb, rfl⟩ := Int.eq_ofNat_of_zero_le (show 0 ≤ N by omega)
    obtain ⟨hf1, hf2⟩ := hf
    have g1 : 1 ≤ nb := by omega
    have g2 : nb ≤ 16384 := by omega
    have hw1 : IntKind.i64.wrap ((nb : Int) - 1) = (nb : Int) - 1 := by rw [IntKind.wrap_i64]; omega
    go_upto_region 6 with (go_at_call 9; refine (new_yes _ nb g1 g2).mono ?_; rintro e w1 ⟨d, nw, L, capL, rfl, z1, z2, z3, hD, hb1⟩; have H1 : Hid (Disk w1 (newDk d L nw capL nb (zs (512 * nb))) ∧ Below w.heap.size w w1) := ⟨hD, hb1⟩; clear hD hb1 z1 z2 z3)
    have HRd : Hid (Calls Try.prog 10 #[.pointer (some ⟨d, 0, none⟩), .int .i64 ((nb : Int) - 1)] w1 fun e w' => ∃ g cap, e = .returned (.tuple #[.slice (some ⟨g, 0, none⟩) 512 cap, .int .i64 0]) ∧ Disk w' (newDk d L nw capL nb (zs (512 * nb))) ∧ OwnB w' g cap (zs 512) ∧ Below w.heap.size w w') := by
      have e : (nb : Int) - 1 = ((nb - 1 : Nat) : Int) := by omega
      rw [e]
      refine (read_yes w1 (newDk d L nw capL nb (zs (512 * nb))) H1.out.1 (nb - 1) (by show nb - 1 < nb; omega) rfl).mono ?_
      rintro e w2 ⟨g2', c2, rfl, hg2, ho2, hb2⟩
      exact ⟨_, _, rfl, H1.out.1.on hb2, by rw [← blk_zs nb (nb - 1) (by omega)]; exact ho2, H1.out.2.trans (hb2.mono H1.out.2.size)⟩
    have HTc : Hid (touchE (newDk d L nw capL nb (zs (512 * nb))) (nb : Int) = 31) := by
      unfold touchE
      rw [if_neg (by show ¬ false = true; decide), if_neg (by show ¬ (0 ≤ (nb : Int) ∧ (nb : Int) < (nb : Int)); omega)]
      exact rfl
    go_upto_region 7 with (go_at_call 10; refine HRd.out.mono ?_; rintro e w2 ⟨gr, cr, rfl, z1, z2, z3⟩; have H2 : Hid (Disk w2 (newDk d L nw capL nb (zs (512 * nb))) ∧ OwnB w2 gr cr (zs 512) ∧ Below w.heap.size w w2) := ⟨z1, z2, z3⟩; clear z1 z2 z3)
    go_upto_region 8 with (go_at_call 10; refine (read_no _ (newDk d L nw capL nb (zs (512 * nb))) H2.out.1 _ (by rw [HTc.out]; decide)).mono ?_; rintro e w' ⟨rfl, rfl⟩; rw [HTc.out])
    have HDr : Hid (Below w2.heap.size w2 w2.drew) := (Below.refl _ w2).drew
    have HAd : Hid (Below w2.heap.size w2 (w2.alloc mk512).drew) := ((Below.refl _ _).alloc (Nat.le_refl _) _).drew
    have e1 : (convert 22 9 (.slice (some ⟨gr, 0, none⟩) 512 cr)).run Try.prog w2.drew = .ok (.string (strOfNums (zs 512))) w2.drew := str_opt (H2.out.2.1.bytes.on HDr.out) (zs_length _)
    have e2 : (convert 22 9 (.slice (some ⟨gr, 0, none⟩) 512 cr)).run Try.prog (w2.alloc mk512).drew = .ok (.string (strOfNums (zs 512))) (w2.alloc mk512).drew := str_opt (H2.out.2.1.bytes.on HAd.out) (zs_length _)
    have e3 : (convert 22 9 (.slice (some ⟨w2.heap.size, 0, none⟩) 512 512)).run Try.prog (w2.alloc mk512).drew = .ok (.string (strOfNums (zs 512))) (w2.alloc mk512).drew := str_opt ((HOw5.out w2).on ((Below.refl _ _).drew)).bytes (zs_length _)
    go_cut [75] (fun s75 wx => s75 = .bool false ∧ Below w.heap.size w wx)
    case first =>
      go_region_law (go_simp; go_at_call 11; refine (blocks_any _ (newDk d L nw capL nb (zs (512 * nb))) (H2.out.1.on HDr.out)).mono ?_; rintro e w' ⟨rfl, rfl⟩; rw [show ((newDk d L nw capL nb (zs (512 * nb))).nb : Int) = (nb : Int) from rfl])
      all_goals
        (try go_wp2)
        go_meet
        case rel => exact ⟨rfl, H2.out.2.2.trans (HAd.out.mono H2.out.2.2.size)⟩
    case' rest =>
      obtain ⟨rfl, hbc⟩ := hcut
      have HBw : Hid (Below w.heap.size w wc) := hbc
      clear hbc e1 e2 e3 H1 H2 HDr HAd HRd HTc hw1
      go_upto_region 10 with fail
  case' neg =>
    have h3 : N < 1 ∨ (1 ≤ N ∧ 16384 < N) := by omega
    have HS : Hid (isz N = false) := by
      rcases h3 with h | h
      · rw [isz, decide_eq_false (by omega)]; exact rfl
      · rw [isz, decide_eq_false (p := N ≤ 16384) (by omega), Bool.and_false]; exact rfl
    have HBw : Hid (Below w.heap.size w w) := Below.refl _ _
    clear hf
    rcases h3 with h3 | ⟨h3, h4⟩
  case' neg.inl =>
    go_upto_region 10 with (go_at_call 9; refine (new_no _ N HS.out).mono ?_; rintro e w' ⟨rfl, rfl⟩)
  case' neg.inr =>
    go_upto_region 10 with (go_at_call 9; refine (new_no _ N HS.out).mono ?_; rintro e w' ⟨rfl, rfl⟩)
  all_goals
    by_cases himg : n % 512 = 0 ∧ 1 ≤ n / 512 ∧ n / 512 ≤ 16384
    · obtain ⟨k1, k2, k3⟩ := himg
      obtain ⟨m2, hm2⟩ : ∃ m2, n = 512 * m2 := ⟨n / 512, by omega⟩
      subst hm2
      have k4 : 1 ≤ m2 := by omega
      have k5 : m2 ≤ 16384 := by omega
      obtain ⟨p, hp⟩ : ∃ p, a = some p := by
        cases a with
        | none => have := HB.out.nil; have := HL.out; rename_i h; rw [h] at this; simp at this; omega
        | some p => exact ⟨p, rfl⟩
      subst hp
      clear k1 k2 k3
      go_upto_region 10 with fail
      go_upto_region 11 with (go_at_call 12; refine (opened_yes _ p c m2 l (HB.out.on HBw.out) HL.out k4 k5).mono ?_; rintro e w6 ⟨d6, nw6, L6, capL6, r6, g6, cap6, rfl, _, hD6, hR6, hb6⟩; have H6 : Hid (Disk w6 (newDk d6 L6 nw6 capL6 m2 l) ∧ RefAt w6 r6 g6 cap6 m2 ∧ Below w.heap.size w w6) := ⟨hD6, hR6, HBw.out.trans (hb6.mono HBw.out.size)⟩; clear hD6 hR6 hb6)
      have HA : Hid (Below w6.heap.size w6 (w6.alloc (.cells #[.pointer (some ⟨d6, 0, none⟩), .pointer (some ⟨r6, 0, none⟩)] 32))) := (Below.refl _ _).alloc (Nat.le_refl _) _
      have HC : Hid (∀ j, (w6.alloc (.cells #[.pointer (some ⟨d6, 0, none⟩), .pointer (some ⟨r6, 0, none⟩)] 32)).cell? ⟨w6.heap.size, j, none⟩ = (#[Value.pointer (some ⟨d6, 0, none⟩), .pointer (some ⟨r6, 0, none⟩)])[j]?) := fun j => cell_of_row _ _ _ _ _ _ (heap_alloc_new w6 _)
      generalize w6.alloc (.cells #[.pointer (some ⟨d6, 0, none⟩), .pointer (some ⟨r6, 0, none⟩)] 32) = w7 at *
      have S0 : w7.cell? ⟨w6.heap.size, 0, none⟩ = some (.pointer (some ⟨d6, 0, none⟩)) := HC.out 0
      have S1 : w7.cell? ⟨w6.heap.size, 1, none⟩ = some (.pointer (some ⟨r6, 0, none⟩)) := HC.out 1
      have HD7 : Hid (Below w6.heap.size w6 w7.drew) := HA.out.drew
      have HDr : Hid (Below w7.heap.size w7 w7.drew) := (Below.refl _ w7).drew
      go_upto_region 13 with fail
      go_region_law (go_simp; first
        | (go_at_call 13; refine (asks_any _ d6 L6 nw6 capL6 m2 r6 g6 cap6 l (H6.out.1.on HD7.out) ((below_fr HD7.out (fun _ => False)).heap H6.out.2.1 (fun e => e))).mono ?_; rintro e w8 ⟨rfl, hb8⟩; have H8 : Hid (Below w6.heap.size w6 w8) := HD7.out.trans (hb8.mono HD7.out.size); have T0 : w8.cell? ⟨w6.heap.size, 0, none⟩ = some (.pointer (some ⟨d6, 0, none⟩)) := (below_fr (HDr.out.trans hb8) (fun _ => False)).cell S0 (fun e => e); have e8 : (convert 22 9 (.slice (some p) (512 * m2) c)).run Try.prog w8 = .ok (.string (strOfNums l)) w8 := str_opt (HB.out.on (H6.out.2.2.trans (H8.out.mono H6.out.2.2.size))) HL.out; clear hb8)
        | (go_at_call 14; refine (image_any _ (newDk d6 L6 nw6 capL6 m2 l) (H6.out.1.on H8.out)).mono ?_; rintro e w9 ⟨g9, c9, rfl, hg9, ho9, hb9⟩; rw [show (newDk d6 L6 nw6 capL6 m2 l).nb = m2 from rfl]; have H9 : Hid (Below w.heap.size w w9) := H6.out.2.2.trans ((H8.out.trans (hb9.mono H8.out.size)).mono H6.out.2.2.size); have e9 : (convert 22 9 (.slice (some p) (512 * m2) c)).run Try.prog w9 = .ok (.string (strOfNums l)) w9 := str_opt (HB.out.on H9.out) HL.out; have e10 : (convert 22 9 (.slice (some ⟨g9, 0, none⟩) (512 * m2) c9)).run Try.prog w9 = .ok (.string (strOfNums l)) w9 := str_opt ho9.bytes HL.out; clear hg9 ho9 hb9))
      all_goals
        go_wp2
        go_ret
        exact ⟨rfl, H9.out⟩
    · have HH : Hid (n % 512 ≠ 0 ∨ isz ((n / 512 : Nat) : Int) = false) := by
        by_cases hm : n % 512 = 0
        · right
          unfold isz
          by_cases h1 : 1 ≤ n / 512
          · rw [decide_eq_false (p := ((n / 512 : Nat) : Int) ≤ 16384) (by omega), Bool.and_false]
          · rw [decide_eq_false (by omega)]; rfl
        · exact .inl hm
      clear himg
      go_wp2_with (go_at_call 12; refine (opened_no _ a n c l (HB.out.on HBw.out) HL.out hn h47 HH.out).mono ?_; rintro e w6 ⟨rfl, hb6⟩; have H6 : Hid (Below w.heap.size w w6) := HBw.out.trans (hb6.mono HBw.out.size); clear hb6)
      go_ret
      exact ⟨rfl, H6.out.alloc H6.out.size _⟩
end Go.Proofs.Ytgodjnnciacliaa
