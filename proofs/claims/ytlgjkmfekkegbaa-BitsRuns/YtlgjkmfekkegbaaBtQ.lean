import Derived.Test.YtlgjkmfekkegbaaBtL
import Derived.Laws.OwnMore
namespace Go.Proofs.Ytlgjkmfekkegbaa
open Go.RowKit Rec

theorem info3q : (Try.prog.info? 3).map (fun i => (i.zero, i.size, i.bytes)) = some (some (.int .i64 0), 1, 8) := by kernel_rfl
theorem info42 : (Try.prog.info? 42).map (fun i => (i.zero, i.size, i.bytes)) = some (some (.agg #[.int .i64 0, .int .i64 0]), 2, 16) := by kernel_rfl
/-- the first k bits, as ints -/
def btl (l : List Int) (k : Nat) : List Value := (List.range k).map fun i => .int .i64 (bn l i)
theorem btl_succ (l : List Int) (k : Nat) : btl l (k + 1) = btl l k ++ [.int .i64 (bn l k)] := by simp [btl, List.range_succ]
theorem btl_length (l : List Int) (k : Nat) : (btl l k).length = k := by simp [btl]
theorem btl_get (l : List Int) (k i : Nat) (h : i < k) : (btl l k)[i]? = some (.int .i64 (bn l i)) := by simp [btl, h]
/-- a row of one's own, nil or not: its slice -/
theorem own_sl {w : World} {e size n : Nat} {v : Value} {xs : List Value} (h : w.ownsRow 0 e size v n xs) : ∃ a c, v = .slice a n c := by
  rcases h.2 with ⟨rfl, rfl⟩ | ⟨g, cap, _, rfl, _⟩
  · exact ⟨none, 0, rfl⟩
  · exact ⟨_, cap, rfl⟩
theorem own_at {w : World} {e size n : Nat} {a : Option Addr} {c : Nat} {xs : List Value} (h : w.ownsRow 0 e size (.slice a n c) n xs) (hn : 0 < n) : ∃ g, a = some ⟨g, 0, none⟩ := by
  rcases h.2 with ⟨e, h0⟩ | ⟨g, cap, cur, e, _⟩
  · omega
  · cases e; exact ⟨g, rfl⟩
theorem owns_setS {w : World} {g n cap e size : Nat} {xs : List Value} (h : w.ownsRow 0 e size (.slice (some ⟨g, 0, none⟩) n cap) n xs) (k : Nat) (v : Value) : (w.setCell ⟨g, k, none⟩ v).ownsRow 0 e size (.slice (some ⟨g, 0, none⟩) n cap) n (xs.set k v) := by
  refine ⟨by rw [List.length_set]; exact h.1, ?_⟩
  rcases h.2 with ⟨h1, _⟩ | ⟨g', cap', cur, h1, h2, h3, h4, h5, h6, h7⟩
  · cases h1
  · cases h1
    exact .inr ⟨_, _, _, rfl, h2, heap_setCell_same _ _ _ _ _ _ h3, h4, h5, by simpa using h6, by rw [Array.toList_setIfInBounds, List.take_set, h7]⟩
/-- the document's list of bits -/
theorem rbits_any (w : World) (a : Option Addr) (n c : Nat) (l : List Int) (hb : Bytes w a l) (hn : l.length = n) (hs : n ≤ 10000000) : Calls Try.prog 25 #[.slice a n c] w fun e w' => ∃ v, e = .returned v ∧ w'.ownsRow 0 3 1 v (8 * n) (btl l (8 * n)) ∧ Below w.heap.size w w' := by
  have HB : Hid (Bytes w a l ∧ l.length = n) := ⟨hb, hn⟩
  clear hb hn
  obtain ⟨i0, hi0, hz0, hz1, hz2⟩ := info_parts info3q
  go_enter Try.func25, Try.ntmps25
  go_wp2
  go_loopw [3, 4] (fun s3 s4 wr => ∃ (j : Nat) (v : Value), j ≤ n ∧ s4 = .int .i64 (j : Int) ∧ v = s3 ∧ wr.ownsRow 0 3 1 v (8 * j) (btl l (8 * j)) ∧ Below w.heap.size w wr ∧ (∀ k, v.ownBlock = some k → w.heap.size ≤ k)) (fun _ s _ => n - (intOf s).toNat)
  case atStart => exact ⟨0, _, Nat.zero_le _, rfl, rfl, World.ownsRow_nil _ _ _ _, Below.refl _ _, fun k h => by cases h⟩
  case round =>
    obtain ⟨j, v, hj, rfl, rfl, hown, hbw, hvb⟩ := hrel
    have HV : Hid (wr.ownsRow 0 3 1 v (8 * j) (btl l (8 * j)) ∧ Below w.heap.size w wr ∧ (∀ k, v.ownBlock = some k → w.heap.size ≤ k)) := ⟨hown, hbw, hvb⟩
    clear hown hbw hvb
    by_cases hlt : j < n
    · have hlt' : (j : Int) < (n : Int) := by omega
      obtain ⟨b, off, rfl, hc⟩ : ∃ b off, a = some ⟨b, off, none⟩ ∧ wr.cell? ⟨b, off + j, none⟩ = some (.int .u8 (nth l j)) := by
        rcases (HB.out.1.on HV.out.2.1).at_ with e | ⟨b, off, e, hc⟩
        · have := HB.out.2; rw [e] at this; simp at this; omega
        · exact ⟨b, off, e, hc j (by rw [HB.out.2]; exact hlt)⟩
      have hx := HB.out.1.wf j
      obtain ⟨x, hxe⟩ : ∃ x, nth l j = x := ⟨_, rfl⟩
      rw [hxe] at hc hx
      have HX : Hid (nth l j = x) := hxe
      clear hxe
      go_wp2
      go_loopw [3, 5, 6] (fun s3 s5 s6 wr => ∃ (k : Nat) (v : Value) (z : Int), k ≤ 8 ∧ s6 = .int .i64 (k : Int) ∧ v = s3 ∧ s5 = .int .i64 z ∧ z = x / 2 ^ k ∧ wr.ownsRow 0 3 1 v (8 * j + k) (btl l (8 * j + k)) ∧ Below w.heap.size w wr ∧ (∀ k, v.ownBlock = some k → w.heap.size ≤ k)) (fun _ _ s _ => 8 - (intOf s).toNat)
      case atStart => exact ⟨0, v, x, Nat.zero_le _, rfl, rfl, rfl, by simp, HV.out⟩
      case round =>
        obtain ⟨k, v, z, hk, rfl, rfl, rfl, hz, hown, hbw, hvb⟩ := hrel
        have hzb : 0 ≤ z ∧ z < 256 := by rw [hz]; exact div_bd x k hx
        have HV : Hid (z = x / 2 ^ k ∧ wr.ownsRow 0 3 1 v (8 * j + k) (btl l (8 * j + k)) ∧ Below w.heap.size w wr ∧ (∀ k, v.ownBlock = some k → w.heap.size ≤ k)) := ⟨hz, hown, hbw, hvb⟩
        clear hz hown hbw hvb
        by_cases hk8 : k < 8
        · have hk8' : (k : Int) < 8 := by omega
          have HBn : Hid (bn l (8 * j + k) = z % 2) := by
            show bn l (8 * j + k) = z % 2
            unfold bn
            rw [show (8 * j + k) / 8 = j by omega, show (8 * j + k) % 8 = k by omega, HX.out, HV.out.1]
          go_wp2_with (at_builtin; refine wp_own rfl (.tmp 22) (.tmp 25) 34 rfl 3 i0 _ 1 8 Try.underlying34 hi0 hz0 hz1 hz2 rfl (by decide) v (8 * j + k) (btl l (8 * j + k)) rfl (owns_fr HV.out.2.1 (fr_alloc (fun _ => False) wr _) (fun _ _ h => h)) ⟨wr.heap.size, 0, none⟩ 1 1 [.int .i64 (z % 2)] rfl (by decide) rfl (fun i u hu => by match i, hu with | 0, hu => (cases hu; show World.cell? _ ⟨wr.heap.size, 0 + 0, none⟩ = _; rw [cell_of_row _ _ _ _ _ _ (heap_alloc_new wr _)]; rfl)) (by simp [Value.oneCell']) (by unfold maxLen; omega) (by omega) ?_; intro g cap w3 ho hf hgb; have H3 : Hid (w3.ownsRow 0 3 1 (.slice (some ⟨g, 0, none⟩) (8 * j + (k + 1)) cap) (8 * j + (k + 1)) (btl l (8 * j + (k + 1))) ∧ Below w.heap.size w w3 ∧ w.heap.size ≤ g) := ⟨(by rw [← Nat.add_assoc, btl_succ, HBn.out]; exact ho), (HV.out.2.2.1.alloc HV.out.2.2.1.size _).trans (hf.below _ (fun q hq => HV.out.2.2.2 q hq) (Nat.le_trans HV.out.2.2.1.size (by simp))), (by rcases hgb with h | h; exact HV.out.2.2.2 g h; have := HV.out.2.2.1.size; simp at h; omega)⟩; clear ho hf hgb)
          go_round
          case rel => exact ⟨k + 1, _, z / 2, by omega, by go_num, rfl, by go_num, by rw [HV.out.1]; exact div_succ x k, H3.out.1, H3.out.2.1, fun q hq => by cases hq; exact H3.out.2.2⟩
          case measure => simp [intOf]; omega
        · have hk8' : ¬ ((k : Int) < 8) := by omega
          obtain rfl : k = 8 := by omega
          go_wp2
          go_round
          case rel => exact ⟨j + 1, v, by omega, by go_num, rfl, HV.out.2⟩
          case measure => simp [intOf]; omega
    · have hlt' : ¬ ((j : Int) < (n : Int)) := by omega
      obtain rfl : j = n := by omega
      go_wp2
      go_ret
      exact ⟨_, rfl, HV.out.1, HV.out.2.1⟩
/-- rows as they lie -/
def flatP (L : List (Nat × Nat)) : List Value := L.flatMap fun p => [.int .i64 (p.1 : Int), .int .i64 (p.2 : Int)]
theorem flatP_length (L : List (Nat × Nat)) : (flatP L).length = L.length * 2 := by
  induction L with
  | nil => rfl
  | cons p L ih => simp [flatP] at ih ⊢; omega
theorem flatP_snoc (L : List (Nat × Nat)) (p : Nat × Nat) : flatP (L ++ [p]) = flatP L ++ [.int .i64 (p.1 : Int), .int .i64 (p.2 : Int)] := by simp [flatP]
theorem flatP_get (L : List (Nat × Nat)) (j : Nat) (p : Nat × Nat) (h : L[j]? = some p) : (flatP L)[j * 2]? = some (.int .i64 (p.1 : Int)) ∧ (flatP L)[j * 2 + 1]? = some (.int .i64 (p.2 : Int)) := by
  induction L generalizing j with
  | nil => simp at h
  | cons q L ih =>
    cases j with
    | zero => simp at h; subst h; simp [flatP]
    | succ j =>
      have := ih j (by simpa using h)
      rw [show (j + 1) * 2 = j * 2 + 1 + 1 by omega]
      simpa [flatP] using this
theorem flatP_last (L : List (Nat × Nat)) (p : Nat × Nat) (z : Nat) : (flatP (L ++ [p])).set (L.length * 2 + 1) (.int .i64 (z : Int)) = flatP (L ++ [(p.1, z)]) := by
  rw [flatP_snoc, flatP_snoc, List.set_append_right _ _ (by rw [flatP_length]; omega), flatP_length, Nat.add_sub_cancel_left]
  rfl
theorem rowsE_le (l : List Int) (n : Nat) : (rowsE l n).length ≤ n := by
  induction n with
  | zero => simp [rowsE, rows, offs]
  | succ n ih =>
    rw [rowsE_snoc]
    unfold rowsE at ih
    rw [List.length_append] at ih
    split
    · split
      · next h => rw [if_pos h] at ih; simp at ih ⊢; omega
      · next h => rw [if_neg h] at ih; simp at ih ⊢; omega
    · unfold rowsE; rw [List.length_append]; omega
set_option maxRecDepth 100000 in
set_option maxHeartbeats 4000000 in
/-- the document's rows -/
theorem rruns_any (w : World) (a : Option Addr) (n c : Nat) (l : List Int) (hb : Bytes w a l) (hn : l.length = n) (hs : n ≤ 10000000) : Calls Try.prog 15 #[.slice a n c] w fun e w' => ∃ v, e = .returned v ∧ w'.ownsRow 0 42 2 v (runs l).length (flatP (runs l)) ∧ Below w.heap.size w w' := by
  have HN : Hid (l.length = n) := hn
  have cB := rbits_any w a n c l hb hn hs
  clear hb hn
  obtain ⟨i0, hi0, hz0, hz1, hz2⟩ := info_parts info42
  go_enter Try.func15, Try.ntmps15
  go_upto_region 3 with (go_at_call 25; refine cB.mono ?_; rintro e w1 ⟨v4, rfl, ho, hb1⟩; obtain ⟨a4, c4, rfl⟩ := own_sl ho; have H1 : Hid (w1.ownsRow 0 3 1 (.slice a4 (8 * n) c4) (8 * n) (btl l (8 * n)) ∧ Below w.heap.size w w1) := ⟨ho, hb1⟩; clear ho hb1)
  clear cB
  obtain ⟨M, hM⟩ : ∃ M, 8 * n = M := ⟨_, rfl⟩
  rw [hM] at H1 ⊢
  have hMb : M ≤ 80000000 := by omega
  go_wp2
  go_loopw [3, 5] (fun s3 s5 wr => ∃ (j : Nat) (v : Value), j ≤ M ∧ s5 = .int .i64 (j : Int) ∧ v = s3 ∧ wr.ownsRow 0 42 2 v (rowsE l j).length (flatP (rowsE l j)) ∧ Below w1.heap.size w1 wr ∧ (∀ k, v.ownBlock = some k → w1.heap.size ≤ k)) (fun _ s _ => M - (intOf s).toNat)
  case atStart => exact ⟨0, _, Nat.zero_le _, rfl, rfl, World.ownsRow_nil _ _ _ _, Below.refl _ _, fun k h => by cases h⟩
  case round =>
    obtain ⟨j, v, hj, rfl, rfl, hown, hbw, hvb⟩ := hrel
    have HV : Hid (wr.ownsRow 0 42 2 v (rowsE l j).length (flatP (rowsE l j)) ∧ Below w1.heap.size w1 wr ∧ (∀ k, v.ownBlock = some k → w1.heap.size ≤ k)) := ⟨hown, hbw, hvb⟩
    clear hown hbw hvb
    by_cases hlt : j < M
    · have hlt' : (j : Int) < (M : Int) := by omega
      obtain ⟨g4, rfl⟩ := own_at H1.out.1 (by omega)
      have hg4 : g4 < w1.heap.size := owns_block H1.out.1 rfl
      have hcs : ∀ i, i < M → wr.cell? ⟨g4, i, none⟩ = some (.int .i64 (bn l i)) := fun i hi => by
        rw [HV.out.2.1.cell (p := ⟨g4, i, none⟩) hg4, H1.out.1.cellAt i (by omega), btl_get l M i hi]
      have hcj := hcs j hlt
      rcases bn_or l j with hbit | hbit
      · rw [hbit] at hcj
        by_cases hpo : 0 < offs l j
        · obtain ⟨i, rfl⟩ : ∃ i, j = i + 1 := ⟨j - 1, by have := offs_le l j; omega⟩
          have hbp := (offs_pos l i).1 hpo
          have hcp := hcs i (by omega)
          rw [hbp] at hcp
          clear hcs
          obtain ⟨o, ho⟩ : ∃ o, offs l (i + 1) = o := ⟨_, rfl⟩
          obtain ⟨R, hR⟩ : ∃ R, rows l (i + 1) = R := ⟨_, rfl⟩
          have hE : rowsE l (i + 1) = R ++ [(i + 1 - o, o)] := by unfold rowsE; rw [if_pos hpo, ho, hR]
          have hE2 : rowsE l (i + 1 + 1) = R ++ [(i + 1 - o, o + 1)] := by rw [rowsE_snoc, if_pos hbit, if_pos hpo, ho, hR]
          have hol : o ≤ i + 1 := by rw [← ho]; exact offs_le _ _
          have hown := HV.out.1
          have hle := rowsE_le l (i + 1)
          rw [hE] at hown hle
          obtain ⟨q, hq⟩ : ∃ q, R.length = q := ⟨_, rfl⟩
          have hlen : (R ++ [(i + 1 - o, o)]).length = q + 1 := by simp [hq]
          rw [hlen] at hown hle
          obtain ⟨av, cv, rfl⟩ := own_sl hown
          obtain ⟨g, rfl⟩ := own_at hown (by omega)
          have hcl : wr.cell? ⟨g, q * 2 + 1, none⟩ = some (.int .i64 (o : Int)) := by
            rw [hown.cellAt (q * 2 + 1) (by omega)]
            exact (flatP_get _ q (i + 1 - o, o) (by rw [← hq]; simp)).2
          have hfz : wr.frozen? ⟨g, q * 2 + 1, none⟩ = false := hown.frozenAt _
          have HO : Hid (wr.ownsRow 0 42 2 (.slice (some ⟨g, 0, none⟩) (q + 1) cv) (q + 1) (flatP (R ++ [(i + 1 - o, o)])) ∧ R.length = q ∧ rowsE l (i + 1 + 1) = R ++ [(i + 1 - o, o + 1)]) := ⟨hown, hq, hE2⟩
          clear hown hE hE2 hlen hq hR ho
          have hwr : IntKind.i64.wrap (q : Int) = (q : Int) := by rw [IntKind.wrap_i64]; omega
          have hwo : IntKind.i64.wrap ((o : Int) + 1) = (o : Int) + 1 := by rw [IntKind.wrap_i64]; omega
          have hqq : q < q + 1 := by omega
          have hqq' : (q : Int) < (q : Int) + 1 := by omega
          go_upto_region 8 with (fail)
          go_region_with (fail)
          all_goals (try go_wp2)
          all_goals
            refine ⟨⟨i + 1 + 1, _, by omega, by go_num, rfl, ?_, ?_, fun k hk => ?_⟩, by simp [intOf]; omega⟩
            · rw [HO.out.2.2]
              have h1 := owns_setS HO.out.1 (q * 2 + 1) (.int .i64 (((o + 1 : Nat)) : Int))
              rw [← HO.out.2.1, flatP_last, HO.out.2.1] at h1
              rw [show (R ++ [(i + 1 - o, o + 1)]).length = q + 1 by rw [List.length_append, HO.out.2.1]; rfl]
              exact h1
            · exact (HV.out.2.1.setCell (p := ⟨g, q * 2 + 1, none⟩) (HV.out.2.2 g rfl) _).drew
            · exact HV.out.2.2 k hk
        · have ho0 : offs l j = 0 := by omega
          have hE : rowsE l j = rows l j := by unfold rowsE; rw [if_neg hpo, List.append_nil]
          have hE2 : rowsE l (j + 1) = rows l j ++ [(j, 1)] := by rw [rowsE_snoc, if_pos hbit, if_neg hpo]
          have hown := HV.out.1
          have hle := rowsE_le l j
          rw [hE] at hown hle
          obtain ⟨q, hq⟩ : ∃ q, (rows l j).length = q := ⟨_, rfl⟩
          rw [hq] at hown hle
          have HO : Hid (wr.ownsRow 0 42 2 v q (flatP (rows l j)) ∧ (rows l j).length = q ∧ rowsE l (j + 1) = rows l j ++ [(j, 1)]) := ⟨hown, hq, hE2⟩
          have hprev : j = 0 ∨ wr.cell? ⟨g4, j - 1, none⟩ = some (.int .i64 1) := by
            by_cases h0 : j = 0
            · exact .inl h0
            · right
              rw [hcs (j - 1) (by omega)]
              have h1 : ¬ bn l (j - 1) = 0 := fun h => by
                have h2 := (offs_pos l (j - 1)).2 h
                rw [show j - 1 + 1 = j by omega] at h2
                omega
              have h3 := bn_or l (j - 1)
              rw [show bn l (j - 1) = 1 by omega]
          clear hown hE hE2 hq hcs hpo ho0
          rcases hprev with h0 | hcp
          · subst h0
            go_wp2_with (at_builtin; refine wp_own rfl (.tmp 39) (.tmp 42) 38 rfl 42 i0 _ 2 16 Try.underlying38 hi0 hz0 hz1 hz2 rfl (by decide) v q (flatP (rows l 0)) rfl (owns_fr HO.out.1 (fr_alloc (fun _ => False) wr _) (fun _ _ h => h)) ⟨wr.heap.size, 0, none⟩ 1 1 [.int .i64 0, .int .i64 1] rfl (by decide) rfl (fun i u hu => by match i, hu with | 0, hu => (cases hu; show World.cell? _ ⟨wr.heap.size, 0 + 0, none⟩ = _; rw [cell_of_row _ _ _ _ _ _ (heap_alloc_new wr _)]; rfl) | 1, hu => (cases hu; show World.cell? _ ⟨wr.heap.size, 0 + 1, none⟩ = _; rw [cell_of_row _ _ _ _ _ _ (heap_alloc_new wr _)]; rfl)) (by simp [Value.oneCell']) (by unfold maxLen; omega) (by omega) ?_; intro g cap w3 ho hf hgb; have H3 : Hid (w3.ownsRow 0 42 2 (.slice (some ⟨g, 0, none⟩) (q + 1) cap) (rowsE l (0 + 1)).length (flatP (rowsE l (0 + 1))) ∧ Below w1.heap.size w1 w3 ∧ w1.heap.size ≤ g) := ⟨(by rw [HO.out.2.2, flatP_snoc, List.length_append, HO.out.2.1]; exact ho), (HV.out.2.1.alloc HV.out.2.1.size _).trans (hf.below _ (fun q hq => HV.out.2.2 q hq) (Nat.le_trans HV.out.2.1.size (by simp))), (by rcases hgb with h | h; exact HV.out.2.2 g h; have := HV.out.2.1.size; simp at h; omega)⟩; clear ho hf hgb)
            go_round
            case rel => exact ⟨0 + 1, _, by omega, by go_num, rfl, H3.out.1, H3.out.2.1, fun k hk => by cases hk; exact H3.out.2.2⟩
            case measure => simp [intOf]; omega
          · by_cases h0 : j = 0
            · subst h0
              go_wp2_with (at_builtin; refine wp_own rfl (.tmp 39) (.tmp 42) 38 rfl 42 i0 _ 2 16 Try.underlying38 hi0 hz0 hz1 hz2 rfl (by decide) v q (flatP (rows l 0)) rfl (owns_fr HO.out.1 (fr_alloc (fun _ => False) wr _) (fun _ _ h => h)) ⟨wr.heap.size, 0, none⟩ 1 1 [.int .i64 0, .int .i64 1] rfl (by decide) rfl (fun i u hu => by match i, hu with | 0, hu => (cases hu; show World.cell? _ ⟨wr.heap.size, 0 + 0, none⟩ = _; rw [cell_of_row _ _ _ _ _ _ (heap_alloc_new wr _)]; rfl) | 1, hu => (cases hu; show World.cell? _ ⟨wr.heap.size, 0 + 1, none⟩ = _; rw [cell_of_row _ _ _ _ _ _ (heap_alloc_new wr _)]; rfl)) (by simp [Value.oneCell']) (by unfold maxLen; omega) (by omega) ?_; intro g cap w3 ho hf hgb; have H3 : Hid (w3.ownsRow 0 42 2 (.slice (some ⟨g, 0, none⟩) (q + 1) cap) (rowsE l (0 + 1)).length (flatP (rowsE l (0 + 1))) ∧ Below w1.heap.size w1 w3 ∧ w1.heap.size ≤ g) := ⟨(by rw [HO.out.2.2, flatP_snoc, List.length_append, HO.out.2.1]; exact ho), (HV.out.2.1.alloc HV.out.2.1.size _).trans (hf.below _ (fun q hq => HV.out.2.2 q hq) (Nat.le_trans HV.out.2.1.size (by simp))), (by rcases hgb with h | h; exact HV.out.2.2 g h; have := HV.out.2.1.size; simp at h; omega)⟩; clear ho hf hgb)
              go_round
              case rel => exact ⟨0 + 1, _, by omega, by go_num, rfl, H3.out.1, H3.out.2.1, fun k hk => by cases hk; exact H3.out.2.2⟩
              case measure => simp [intOf]; omega
            · obtain ⟨i, rfl⟩ : ∃ i, j = i + 1 := ⟨j - 1, by omega⟩
              rw [Nat.add_sub_cancel] at hcp
              go_wp2_with (at_builtin; refine wp_own rfl (.tmp 39) (.tmp 42) 38 rfl 42 i0 _ 2 16 Try.underlying38 hi0 hz0 hz1 hz2 rfl (by decide) v q (flatP (rows l (i + 1))) rfl (owns_fr HO.out.1 (fr_alloc (fun _ => False) wr _) (fun _ _ h => h)) ⟨wr.heap.size, 0, none⟩ 1 1 [.int .i64 ((i : Int) + 1), .int .i64 1] rfl (by decide) rfl (fun i u hu => by match i, hu with | 0, hu => (cases hu; show World.cell? _ ⟨wr.heap.size, 0 + 0, none⟩ = _; rw [cell_of_row _ _ _ _ _ _ (heap_alloc_new wr _)]; rfl) | 1, hu => (cases hu; show World.cell? _ ⟨wr.heap.size, 0 + 1, none⟩ = _; rw [cell_of_row _ _ _ _ _ _ (heap_alloc_new wr _)]; rfl)) (by simp [Value.oneCell']) (by unfold maxLen; omega) (by omega) ?_; intro g cap w3 ho hf hgb; have H3 : Hid (w3.ownsRow 0 42 2 (.slice (some ⟨g, 0, none⟩) (q + 1) cap) (rowsE l (i + 1 + 1)).length (flatP (rowsE l (i + 1 + 1))) ∧ Below w1.heap.size w1 w3 ∧ w1.heap.size ≤ g) := ⟨(by rw [HO.out.2.2, flatP_snoc, List.length_append, HO.out.2.1]; exact ho), (HV.out.2.1.alloc HV.out.2.1.size _).trans (hf.below _ (fun q hq => HV.out.2.2 q hq) (Nat.le_trans HV.out.2.1.size (by simp))), (by rcases hgb with h | h; exact HV.out.2.2 g h; have := HV.out.2.1.size; simp at h; omega)⟩; clear ho hf hgb)
              go_round
              case rel => exact ⟨i + 1 + 1, _, by omega, by go_num, rfl, H3.out.1, H3.out.2.1, fun k hk => by cases hk; exact H3.out.2.2⟩
              case measure => simp [intOf]; omega
      · rw [hbit] at hcj
        clear hcs
        have HE : Hid (rowsE l (j + 1) = rowsE l j) := by
          show _ = _
          rw [rowsE_snoc, if_neg (by omega)]
        go_wp2
        go_round
        case rel => exact ⟨j + 1, v, by omega, by go_num, rfl, by rw [HE.out]; exact HV.out.1, HV.out.2⟩
        case measure => simp [intOf]; omega
    · have hlt' : ¬ ((j : Int) < (M : Int)) := by omega
      obtain rfl : j = M := by omega
      go_wp2
      go_ret
      refine ⟨_, rfl, ?_, H1.out.2.trans (HV.out.2.1.mono H1.out.2.size)⟩
      unfold runs
      rw [HN.out, hM]
      exact HV.out.1
end Go.Proofs.Ytlgjkmfekkegbaa
