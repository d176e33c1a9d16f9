import Derived.Test.YtaaeahpmnfifiaaDoorR14a
namespace Go.Proofs.YtaaeahpmnfifiaaDoor
open Go.RowKit Rec Sc
abbrev z32 : List Int := List.replicate 32 0
theorem make32 : ∃ o : Obj, (∀ w : World, (Instr.makeSlice 25 (.int .i64 32) (.int .i64 32)).run Tryd.prog w = .ok (.slice (some ⟨w.heap.size, 0, none⟩) 32 32) (w.alloc o)) ∧ ∀ w : World, OwnB (w.alloc o) w.heap.size 32 z32 := by
  obtain ⟨i0, hi, hz0, hz1, hz2⟩ := info_parts info5
  refine ⟨.cells (madeCells #[.int .u8 0] 32) 5, fun w => run_make_row (P := Tryd.prog) 25 5 i0 _ Tryd.underlying25 hi hz0 hz1 rfl .i64 .i64 32 (by rw [hz2]; omega) (by omega) w, fun w => ?_⟩
  have hl : (madeCells #[Value.int .u8 0] 32).toList = List.replicate 32 (Value.int .u8 0) := toList_madeCells_one _ _
  refine ⟨⟨_, heap_alloc_new _ _, ?_, ?_⟩, ?_, ?_, ?_, wf_rep 32 0 (by omega)⟩
  · rw [← Array.length_toList, hl, List.length_replicate]
  · rw [hl, List.length_replicate, List.map_replicate, List.take_replicate, Nat.min_self]
  · rw [List.length_replicate]; omega
  · rw [List.length_replicate]; omega
  · unfold maxLen; omega
/-- a cell's bytes, as a list -/
def cbl (o : Option Ent) : List Int := (List.range 32).map (cbo o)
theorem cbl_len (o : Option Ent) : (cbl o).length = 32 := by simp [cbl]
theorem nth_cbl (o : Option Ent) {i : Nat} (h : i < 32) : nth (cbl o) i = cbo o i := by simp [cbl, nth, List.getD, h]
theorem cbl_none : cbl none = z32 := by
  refine ext_nth (by rw [cbl_len]; simp) fun i hi => ?_
  rw [cbl_len] at hi
  rw [nth_cbl _ hi, nth_rep 32 0 i hi]; rfl
theorem sb_at {s : ByteArray} {k : Nat} (h : k < s.size) : nth (sb s) k = (s[k].toNat : Int) := by
  have h' : k < s.data.toList.length := by rw [← Lib.size_eq]; exact h
  unfold nth sb
  rw [List.getD_eq_getElem?_getD, List.getElem?_map, List.getElem?_eq_getElem h']; rfl
theorem form_eq (s : ByteArray) (ino : Int) (hs : s.size ≤ 27) : ov ((ov z32 0 4 (dig ino)).set 4 (s.size : Int)) 5 s.size (nth (sb s)) = cbl (some ⟨s, ino⟩) := by
  have l1 : ((ov z32 0 4 (dig ino)).set 4 (s.size : Int)).length = 32 := by rw [List.length_set, ov_length]; simp
  refine ext_nth (by rw [ov_length, l1, cbl_len]) fun i hi => ?_
  rw [ov_length, l1] at hi
  rw [nth_cbl _ hi, nth_ov _ _ _ _ _ (by omega), nth_set _ _ _ _ (by rw [ov_length]; simp), nth_ov _ _ _ _ _ (by simp; omega), nth_rep 32 0 i hi]
  show _ = cb ⟨s, ino⟩ i
  unfold cb
  dsimp only
  by_cases c1 : i < 4
  · rw [if_neg (by omega), if_neg (by omega), if_pos (by omega), if_pos c1]; rfl
  · rw [if_neg c1]
    by_cases c2 : i = 4
    · subst c2; rw [if_neg (by omega), if_pos rfl, if_pos rfl]
    · rw [if_neg c2, if_neg c2, if_neg (show ¬ (0 ≤ i ∧ i < 0 + 4) by omega)]
      by_cases c3 : 5 ≤ i ∧ i < 5 + s.size
      · rw [if_pos c3]
      · rw [if_neg c3, nth_out _ _ (by rw [sb_length]; omega)]
theorem form_zero (w : World) (s : ByteArray) : Calls Tryd.prog 35 #[.int .i64 0, .string s] w fun e w' => e = .returned (.slice (some ⟨w.heap.size, 0, none⟩) 32 32) ∧ OwnB w' w.heap.size 32 (cbl none) ∧ Below w.heap.size w w' := by
  obtain ⟨o, E, hO⟩ := make32
  have HO : Hid (OwnB (w.alloc o) w.heap.size 32 (cbl none) ∧ Below w.heap.size w (w.alloc o)) := ⟨by rw [cbl_none]; exact hO w, (Below.refl _ _).alloc (Nat.le_refl _) _⟩
  clear hO
  go_enter Tryd.func35, Tryd.ntmps35
  go_wp2
  go_ret
  exact ⟨rfl, HO.out⟩
set_option maxRecDepth 100000 in
set_option maxHeartbeats 4000000 in
theorem rform_any (w : World) (s : ByteArray) (ino : Int) (hs : s.size ≤ 27) (h1 : 1 ≤ ino) (h2 : ino ≤ 4294967295) : Calls Tryd.prog 35 #[.int .i64 ino, .string s] w fun e w' => e = .returned (.slice (some ⟨w.heap.size, 0, none⟩) 32 32) ∧ OwnB w' w.heap.size 32 (cbl (some ⟨s, ino⟩)) ∧ Below w.heap.size w w' := by
  obtain ⟨o, E, hO⟩ := make32
  obtain ⟨g, hg⟩ : ∃ g, w.heap.size = g := ⟨_, rfl⟩
  have HO : Hid (OwnB (w.alloc o) g 32 (ov z32 0 0 (dig ino)) ∧ Below g w (w.alloc o)) := ⟨by rw [ov_zero, ← hg]; exact hO w, by rw [← hg]; exact (Below.refl _ _).alloc (Nat.le_refl _) _⟩
  have h0 : ¬ ino = 0 := by omega
  clear hO
  go_enter Tryd.func35, Tryd.ntmps35
  go_upto_block 0 with fail
  go_cut [6] (fun _ wx => OwnB wx g 32 (ov z32 0 4 (dig ino)) ∧ Below g w wx)
  case first => as_aux_lemma =>
    go_wp2
    go_loopw [6, 7] (fun v i wr => ∃ k : Nat, k ≤ 4 ∧ i = .int .i64 (k : Int) ∧ v = .int .i64 (ino / 256 ^ k) ∧ OwnB wr g 32 (ov z32 0 k (dig ino)) ∧ Below g w wr) (fun _ i _ => 4 - (intOf i).toNat)
    case atStart => exact ⟨0, Nat.zero_le _, rfl, by simp, HO.out⟩
    case round =>
      obtain ⟨k, hk, rfl, rfl, hI⟩ := hrel
      have HI : Hid (OwnB wr g 32 (ov z32 0 k (dig ino)) ∧ Below g w wr) := hI
      clear hI HO
      by_cases hlt : k < 4
      · have d := HI.out.1.cell k (by rw [ov_length]; simp; omega)
        have f := HI.out.1.frozen k
        have HQ : Hid (OwnB (wr.setCell ⟨g, k, none⟩ (.int .u8 (ino / 256 ^ k % 256))) g 32 (ov z32 0 (k + 1) (dig ino)) ∧ Below g w (wr.setCell ⟨g, k, none⟩ (.int .u8 (ino / 256 ^ k % 256)))) := by
          have := HI.out.1.ovs (A := 0) (by simp; omega) (dig_bd ino k)
          rw [Nat.zero_add] at this
          exact ⟨this, HI.out.2.setCell (Nat.le_refl _) _⟩
        have hkk : k = 0 ∨ k = 1 ∨ k = 2 ∨ k = 3 := by omega
        rcases hkk with rfl | rfl | rfl | rfl
        all_goals
          go_wp2
          have e := HQ.out
          simp only [Int.reducePow, Int.pow_zero, Int.ediv_one] at e ⊢
          refine ⟨⟨_, hlt, rfl, ?_, e⟩, by simp [intOf]⟩
          first
            | rfl
            | (congr 1; simp only [Nat.succ_eq_add_one, Nat.reduceAdd, Int.reducePow]; omega)
            | (congr 1; omega)
      · obtain rfl : k = 4 := by omega
        go_wp2
        go_meet
        exact HI.out
  case rest =>
    have H1 : Hid (OwnB wc g 32 (ov z32 0 4 (dig ino)) ∧ Below g w wc) := hcut
    clear hcut HO
    have d := H1.out.1.cell 4 (by rw [ov_length]; simp)
    have f := H1.out.1.frozen 4
    have H2 : Hid (OwnB (wc.setCell ⟨g, 4, none⟩ (.int .u8 (s.size : Int))) g 32 ((ov z32 0 4 (dig ino)).set 4 (s.size : Int)) ∧ Below g w (wc.setCell ⟨g, 4, none⟩ (.int .u8 (s.size : Int)))) := ⟨H1.out.1.set 4 _ (by rw [ov_length]; simp) (by omega), H1.out.2.setCell (Nat.le_refl _) _⟩
    go_wp2
    go_loopw [8] (fun i wr => ∃ k : Nat, k ≤ s.size ∧ i = .int .i64 (k : Int) ∧ OwnB wr g 32 (ov ((ov z32 0 4 (dig ino)).set 4 (s.size : Int)) 5 k (nth (sb s))) ∧ Below g w wr) (fun i _ => s.size - (intOf i).toNat)
    case atStart => exact ⟨0, Nat.zero_le _, rfl, by rw [ov_zero]; exact H2.out.1, H2.out.2⟩
    case round =>
      obtain ⟨k, hk, rfl, hI⟩ := hrel
      have HI : Hid (OwnB wr g 32 (ov ((ov z32 0 4 (dig ino)).set 4 (s.size : Int)) 5 k (nth (sb s))) ∧ Below g w wr) := hI
      clear hI H1 H2 d f
      by_cases hlt : k < s.size
      · obtain ⟨c, hc⟩ : ∃ c : UInt8, s[k] = c := ⟨_, rfl⟩
        have hcb : nth (sb s) k = (c.toNat : Int) := by rw [sb_at hlt, hc]
        have hl9 : ((ov z32 0 4 (dig ino)).set 4 (s.size : Int)).length = 32 := by rw [List.length_set, ov_length]; simp
        have d := HI.out.1.cell (5 + k) (by rw [ov_length, hl9]; omega)
        have f := HI.out.1.frozen (5 + k)
        have HQ : Hid (OwnB (wr.setCell ⟨g, 5 + k, none⟩ (.int .u8 (c.toNat : Int))) g 32 (ov ((ov z32 0 4 (dig ino)).set 4 (s.size : Int)) 5 (k + 1) (nth (sb s))) ∧ Below g w (wr.setCell ⟨g, 5 + k, none⟩ (.int .u8 (c.toNat : Int)))) := by
          have := HI.out.1.ovs (A := 5) (k := k) (by rw [hl9]; omega) (sb_bd s k)
          rw [hcb] at this
          exact ⟨this, HI.out.2.setCell (Nat.le_refl _) _⟩
        clear hcb hl9
        go_wp2
        refine ⟨⟨k + 1, by omega, rfl, HQ.out⟩, by simp [intOf]; omega⟩
      · obtain rfl : k = s.size := by omega
        have HE : Hid (OwnB wr g 32 (cbl (some ⟨s, ino⟩)) ∧ Below g w wr) := by
          have := HI.out
          rw [form_eq s ino hs] at this
          exact this
        go_wp2
        go_ret
        refine ⟨?_, ?_⟩
        · first | rfl | (rw [hg]; rfl)
        · rw [hg]; exact HE.out
end Go.Proofs.YtaaeahpmnfifiaaDoor
