import Derived.Test.YthanoifegbjpoaaDoorGeF
namespace Go.Proofs.YthanoifegbjpoaaDoor
open Go.RowKit Rec
open Crc (W)

theorem mg_len : mg.length = 8 := rfl
def lenOf7 : Value → Nat
  | .slice _ n _ => n
  | _ => 0
theorem conv_text7 (w : World) (C : Array Value) (n : Nat) (hn : C.size = n) :
    (convert 28 28 (.slice (some ⟨w.heap.size, 0, none⟩) n n)).run Tryd.prog (w.alloc (.cells C 5)) = .ok (.slice (some ⟨w.heap.size, 0, none⟩) n n) (w.alloc (.cells C 5 (n, n + 1))) := by
  subst hn
  have hsh : (w.alloc (.cells C 5)).shape? w.heap.size = some (5, C.size) := by
    unfold World.shape?
    rw [heap_alloc_new]
  have hfr : (w.alloc (.cells C 5)).freeze ⟨w.heap.size, C.size, none⟩ 1 = w.alloc (.cells C 5 (C.size, C.size + 1)) := by
    have hm : ∀ (a : Array Obj) (x : Obj) (f : Obj → Obj), (a.push x).modify a.size f = a.push (f x) := by
      intro a x f
      apply Array.ext
      · simp
      · intro i h1 h2
        simp only [Array.getElem_modify, Array.getElem_push]
        by_cases h : a.size = i
        · subst h
          simp
        · have hi : i < a.size := by simp at h1; omega
          simp [h, hi]
    unfold World.freeze
    rw [if_neg (by decide)]
    show ({ w.alloc (.cells C 5) with heap := (w.heap.push (.cells C 5)).modify w.heap.size _ } : World) = _
    rw [hm]
    rfl
  simp [convert, run_underlying Tryd.underlying28, run_underlying Tryd.underlying5, markStringish, hsh, hfr]
theorem wf47 {a b c d : Int} (ha : 0 ≤ a ∧ a < 256) (hb : 0 ≤ b ∧ b < 256) (hc : 0 ≤ c ∧ c < 256) (hd : 0 ≤ d ∧ d < 256) : ∀ i, 0 ≤ nth [a, b, c, d] i ∧ nth [a, b, c, d] i < 256 := fun i => by
  by_cases h : i < 4
  · have : i = 0 ∨ i = 1 ∨ i = 2 ∨ i = 3 := by omega
    rcases this with rfl | rfl | rfl | rfl
    · exact ha
    · exact hb
    · exact hc
    · exact hd
  · rw [nth_out _ _ (by simp; omega)]; omega
/-- append of four new bytes -/
theorem wp_new47 {ops : Array Oper} {rest : List Oper} {o : Oper} {act : Act} {Q : Exit → Act → World → Prop} {w1 : World} (hgd : o.guard = none) (s x : Operand)
    (ho : o.op = .call { callee := .builtin .append, args := #[s, x], argTypes := #[28, 28] }) (B g n cap : Nat) (l : List Int) (a b c d : Int) (hw : ∀ i, 0 ≤ nth [a, b, c, d] i ∧ nth [a, b, c, d] i < 256) (hs : act.eval s = .slice (some ⟨g, 0, none⟩) n cap) (hx : act.eval x = .slice (some ⟨w1.heap.size, 0, none⟩) 4 4)
    (hown : OwnB w1 g cap l) (hn : l.length = n) (hBg : B ≤ g) (hB : B ≤ w1.heap.size) (hn5 : n ≤ 1000)
    (h : ∀ g' cap' w', B ≤ g' → OwnB w' g' cap' (l ++ [a, b, c, d]) → Below B w1 w' → wpList Tryd.prog ops Q rest (act.put o.dst (.slice (some ⟨g', 0, none⟩) (n + 4) cap')) w') :
    wpList Tryd.prog ops Q (o :: rest) act (w1.alloc (.cells #[.int .u8 a, .int .u8 b, .int .u8 c, .int .u8 d] 5)) := by
  have hA : Below w1.heap.size w1 (w1.alloc (.cells #[.int .u8 a, .int .u8 b, .int .u8 c, .int .u8 d] 5)) := (Below.refl _ _).alloc (Nat.le_refl _) _
  have hO : OwnB (w1.alloc (.cells #[.int .u8 a, .int .u8 b, .int .u8 c, .int .u8 d] 5)) w1.heap.size 4 [a, b, c, d] := bytes7 w1 [a, b, c, d] (by simp) hw
  refine wp_app hgd s x ho B g n cap l [a, b, c, d] hn hs (hown.on hA) hBg (Nat.le_trans hB hA.size) (some ⟨w1.heap.size, 0, none⟩) 4 4 hx rfl hO.bytes (fun e => by cases e) (by omega) ?_
  intro g' cap' w' hg ho' hgr
  have b1 : Below B w1 (w1.alloc (.cells #[.int .u8 a, .int .u8 b, .int .u8 c, .int .u8 d] 5)) := hA.mono hB
  exact h g' cap' w' hg ho' (b1.trans (below_of hgr hBg (Nat.le_trans hB hA.size)))
/-- append of four new bytes to a text's eight -/
theorem wp_grow47 {ops : Array Oper} {rest : List Oper} {o : Oper} {act : Act} {Q : Exit → Act → World → Prop} {w1 : World} (hgd : o.guard = none) (s x : Operand)
    (ho : o.op = .call { callee := .builtin .append, args := #[s, x], argTypes := #[28, 28] }) (B g : Nat) (a b c d : Int) (hw : ∀ i, 0 ≤ nth [a, b, c, d] i ∧ nth [a, b, c, d] i < 256) (hs : act.eval s = .slice (some ⟨g, 0, none⟩) 8 8) (hx : act.eval x = .slice (some ⟨w1.heap.size, 0, none⟩) 4 4)
    (hc : ∀ i, i < 8 → w1.cell? ⟨g, i, none⟩ = some (.int .u8 (nth mg i))) (hB : B ≤ w1.heap.size)
    (h : ∀ g' cap' w', B ≤ g' → OwnB w' g' cap' (mg ++ [a, b, c, d]) → Below B w1 w' → wpList Tryd.prog ops Q rest (act.put o.dst (.slice (some ⟨g', 0, none⟩) 12 cap')) w') :
    wpList Tryd.prog ops Q (o :: rest) act (w1.alloc (.cells #[.int .u8 a, .int .u8 b, .int .u8 c, .int .u8 d] 5)) := by
  have hA : Below w1.heap.size w1 (w1.alloc (.cells #[.int .u8 a, .int .u8 b, .int .u8 c, .int .u8 d] 5)) := (Below.refl _ _).alloc (Nat.le_refl _) _
  have hO : OwnB (w1.alloc (.cells #[.int .u8 a, .int .u8 b, .int .u8 c, .int .u8 d] 5)) w1.heap.size 4 [a, b, c, d] := bytes7 w1 [a, b, c, d] (by simp) hw
  obtain ⟨i0, hi, hz0, hz1, hz2⟩ := info_parts info5
  have hr := run_append_grow (P := Tryd.prog) (w1.alloc (.cells #[.int .u8 a, .int .u8 b, .int .u8 c, .int .u8 d] 5)) 28 o.type 5 i0 (.int .u8 0) Tryd.underlying28 hi hz0 ⟨g, 0, none⟩ 8 8 (mg.map (Value.int .u8)) (by rw [hz1]; rfl) (fun j v hj => by
    have hlt : j < 8 := by
      by_cases hlt : j < 8
      · exact hlt
      · rw [List.getElem?_eq_none (by rw [List.length_map, mg_len]; omega)] at hj; cases hj
    rw [nth_cellL mg j (by rw [mg_len]; exact hlt)] at hj
    cases hj
    rw [Addr.add_lit, Nat.zero_add]
    exact (hA.cell (block_lt_of_cell (hc j hlt))).trans (hc j hlt)) ⟨w1.heap.size, 0, none⟩ 4 4 ([a, b, c, d].map (Value.int .u8)) (by rw [hz1]; rfl) (hO.bytes.news) (by omega) (by decide) (by rw [hz2]; exact growslice_fits (bytes := 1) (by omega) (by omega))
  refine wpList_plain hgd fun K hK => ?_
  unfold Oper.wp execOp
  simp only [ho, resolve, invoke, builtin, Sem.run_bind, Sem.run_pure, Result.andThen_ok, List.map_toArray, List.map_cons, List.map_nil, hs, hx] at hr ⊢
  rw [hr]
  refine hK _ _ (h _ _ _ (Nat.le_trans hB hA.size) ?_ ((hA.mono hB).trans (((Below.refl _ _).drew.alloc (Nat.le_refl _) _).mono (Nat.le_trans hB hA.size))))
  have h1 := grownCap_ge (w1.alloc (.cells #[.int .u8 a, .int .u8 b, .int .u8 c, .int .u8 d] 5)) (8 + 4) 8 5
  have h2 := grownCap_le_maxLen (w1.alloc (.cells #[.int .u8 a, .int .u8 b, .int .u8 c, .int .u8 d] 5)) (8 + 4) 8 5 (by decide)
  generalize grownCap (w1.alloc (.cells #[.int .u8 a, .int .u8 b, .int .u8 c, .int .u8 d] 5)) (8 + 4) 8 5 = C at h1 h2 ⊢
  refine ⟨⟨_, heap_alloc_new _ _, ?_, ?_⟩, by simp [mg_len], by simp [mg_len]; omega, h2, wf_two mg_bd hw⟩
  · rw [Array.size_append, Array.size_append, size_zeroCells]
    show (mg.map (Value.int .u8)).toArray.size + 4 + (C - (8 + 4)) * 1 = C
    rw [List.size_toArray, List.length_map, mg_len]; omega
  · rw [Array.toList_append, Array.toList_append, List.take_append_of_le_length (by simp [mg_len])]
    simp [mg_len, List.take_of_length_le]

theorem rof_no' (w : World) (n : Int) (h : isLen n = false) : Calls Tryd.prog 16 #[.int .i64 n] w fun e w' => e = .returned (.tuple #[.slice none 0 0, .int .i64 70]) ∧ Below w.heap.size w w' := by
  go_enter Tryd.func16, Tryd.ntmps16
  go_wp2_with (go_at_call 15; refine (rof_no _ n h).mono ?_; rintro e w1 ⟨rfl, hb⟩; rw [show geo0 = .agg #[.int .i64 0, .int .i64 0, .int .i64 0, .int .i64 0, .int .i64 0] from rfl]; have HB : Hid (Below w.heap.size w w1) := hb; clear hb)
  go_ret2
  exact ⟨rfl, HB.out.alloc HB.out.size _⟩
set_option maxRecDepth 100000 in
set_option maxHeartbeats 1600000 in
theorem rsuper_ok (w : World) (n : Int) (h : isLen n = true) : Calls Tryd.prog 16 #[.int .i64 n] w fun e w' => ∃ g cap, e = .returned (.tuple #[.slice (some ⟨g, 0, none⟩) 512 cap, .int .i64 0]) ∧ w.heap.size ≤ g ∧ OwnB w' g cap (sup n) ∧ Below w.heap.size w w' := by
  have hb := isLen_bd h
  have HL : Hid (isLen n = true) := h
  have H12 : Hid ((supA n).take 12 = mg ++ [n % 256, n / 256, 0, 0]) := by
    have := supA_twelve h
    rw [show n / 256 % 256 = n / 256 by omega] at this
    exact this
  have H16 := sup_sixteen n
  have hs := supS_bd n
  have HS : Hid (U (Crc.crc ((supA n).take 12)) = supS n) := rfl
  generalize supS n = s at H16 hs HS
  have HT16 : Hid ((sup n).take 16 = (supA n).take 12 ++ [s % 256, s / 256 % 256, s / 65536 % 256, s / 16777216]) := by
    rw [show s / 16777216 % 256 = s / 16777216 by omega] at H16; exact H16
  clear h H16
  have L12 : Hid (((supA n).take 12).length = 12) := by show _ = _; rw [List.length_take, supA_len]; rfl
  go_enter Tryd.func16, Tryd.ntmps16
  go_upto_region 4 with (go_at_call 15; refine (rof_ok _ n HL.out).mono ?_; rintro e w1 ⟨rfl, hb1⟩; rw [show geoV n = .agg #[.int .i64 n, .int .i64 98, .int .i64 (gI n), .int .i64 (gD n), .int .i64 (gC n)] from rfl]; have HB0 : Hid (Below w.heap.size w w1) := hb1; clear hb1)
  have HB1 : Hid (Below w.heap.size w (w1.alloc (.cells #[.int .i64 n, .int .i64 98, .int .i64 (gI n), .int .i64 (gD n), .int .i64 (gC n)] 24))) := HB0.out.alloc HB0.out.size _
  generalize w1.alloc (.cells #[.int .i64 n, .int .i64 98, .int .i64 (gI n), .int .i64 (gD n), .int .i64 (gC n)] 24) = wa at *
  have hcv := conv_text7 wa #[.int .u8 66, .int .u8 79, .int .u8 76, .int .u8 69, .int .u8 70, .int .u8 83, .int .u8 48, .int .u8 49] 8 rfl
  have HA : Hid (Below w.heap.size w (wa.alloc (.cells #[.int .u8 66, .int .u8 79, .int .u8 76, .int .u8 69, .int .u8 70, .int .u8 83, .int .u8 48, .int .u8 49] 5 (8, 9)))) := HB1.out.alloc HB1.out.size _
  have HO : Hid (∀ i, i < 8 → (wa.alloc (.cells #[.int .u8 66, .int .u8 79, .int .u8 76, .int .u8 69, .int .u8 70, .int .u8 83, .int .u8 48, .int .u8 49] 5 (8, 9))).cell? ⟨wa.heap.size, i, none⟩ = some (.int .u8 (nth mg i))) := fun i hi => by
    rw [cell_of_row _ _ _ _ _ _ (heap_alloc_new _ _)]
    have : ∀ i, i < 8 → (#[.int .u8 66, .int .u8 79, .int .u8 76, .int .u8 69, .int .u8 70, .int .u8 83, .int .u8 48, .int .u8 49] : Array Value)[i]? = some (.int .u8 (nth mg i)) := by
      intro i hi
      obtain rfl | rfl | rfl | rfl | rfl | rfl | rfl | rfl : i = 0 ∨ i = 1 ∨ i = 2 ∨ i = 3 ∨ i = 4 ∨ i = 5 ∨ i = 6 ∨ i = 7 := by omega
      all_goals rfl
    exact this i hi
  generalize hwb : wa.alloc (.cells #[.int .u8 66, .int .u8 79, .int .u8 76, .int .u8 69, .int .u8 70, .int .u8 83, .int .u8 48, .int .u8 49] 5 (8, 9)) = wb at *
  have HG : Hid (w.heap.size ≤ wa.heap.size) := HB1.out.size
  go_upto_region 5 with (at_builtin; refine wp_grow47 (w1 := wb) rfl (.tmp 17) (.tmp 23) rfl w.heap.size wa.heap.size _ _ _ _ (wf47 (by omega) (by omega) (by omega) (by omega)) rfl rfl HO.out HA.out.size ?_; intro g2 cap2 w2 hg ho hb2; have H2 : Hid (OwnB w2 g2 cap2 ((supA n).take 12) ∧ w.heap.size ≤ g2 ∧ Below w.heap.size w w2) := ⟨by rw [H12.out]; exact ho, hg, HA.out.trans hb2⟩; clear hg ho hb2)
  clear HO HA hcv hwb HG
  go_upto_region 7 with (first
    | (go_at_call 29; refine (refOf_any _ (some ⟨g2, 0, none⟩) 12 cap2 ((supA n).take 12) L12.out H2.out.1.bytes).mono ?_; rintro e w' ⟨rfl, rfl⟩; rw [HS.out])
    | (at_builtin; refine wp_new47 (w1 := w2) rfl (.tmp 27) (.tmp 39) rfl w.heap.size g2 12 cap2 ((supA n).take 12) _ _ _ _ (wf47 (by omega) (by omega) (by omega) (by omega)) rfl rfl H2.out.1 L12.out H2.out.2.1 H2.out.2.2.size (by omega) ?_; intro g3 cap3 w3 hg ho hb2; have H3 : Hid (OwnB w3 g3 cap3 ((sup n).take 16) ∧ w.heap.size ≤ g3 ∧ Below w.heap.size w w3) := ⟨by rw [HT16.out]; exact ho, hg, H2.out.2.2.trans hb2⟩; clear hg ho hb2))
  clear H2 HT16 H12 L12 HS HL
  go_wp2_with fail
  go_loopw [6] (fun i wr => ∃ (k g cap : Nat), 16 ≤ k ∧ k ≤ 512 ∧ i = .slice (some ⟨g, 0, none⟩) k cap ∧ OwnB wr g cap ((sup n).take k) ∧ w.heap.size ≤ g ∧ Below w.heap.size w wr) (fun i _ => 512 - (lenOf7 i))
  case atStart => exact ⟨16, g3, cap3, by omega, by omega, rfl, H3.out.1, H3.out.2.1, H3.out.2.2⟩
  case round =>
    clear H3
    obtain ⟨k, g, cap, hk1, hk2, rfl, ho, hg, hbw⟩ := hrel
    have HK : Hid (OwnB wr g cap ((sup n).take k) ∧ w.heap.size ≤ g ∧ Below w.heap.size w wr) := ⟨ho, hg, hbw⟩
    have HKl : Hid (((sup n).take k).length = k) := by show _ = _; rw [List.length_take, sup_len]; omega
    clear ho hg hbw
    by_cases hlt : k < 512
    · have hli : (k : Int) < 512 := by omega
      go_wp2_with (at_builtin; have HA := (Below.refl wr.heap.size wr).alloc (Nat.le_refl _) (.cells #[.int .u8 0] 5); have HOb : OwnB (wr.alloc (.cells #[.int .u8 0] 5)) wr.heap.size 1 [0] := bytes7 wr [0] (by simp) (wf_one 0 (by omega)); refine wp_app rfl (.tmp 44) (.tmp 45) rfl w.heap.size g k cap ((sup n).take k) [0] HKl.out rfl (HK.out.1.on HA) HK.out.2.1 (Nat.le_trans HK.out.2.2.size HA.size) (some ⟨wr.heap.size, 0, none⟩) 1 1 rfl rfl HOb.bytes (fun h => by cases h) (by omega) ?_; intro g5 c5 w5 hg ho hgr; have H5 : Hid (OwnB w5 g5 c5 ((sup n).take (k + 1)) ∧ w.heap.size ≤ g5 ∧ Below w.heap.size w w5) := ⟨by rw [sup_more n k hk1 hlt]; exact ho, hg, (HK.out.2.2.trans (HA.mono HK.out.2.2.size)).grown hgr (Nat.le_trans HK.out.2.2.size HA.size) (by intro j hj; cases hj; exact HK.out.2.1)⟩; clear hg ho hgr HA HOb)
      exact ⟨⟨k + 1, g5, c5, by omega, by omega, rfl, H5.out.1, H5.out.2.1, H5.out.2.2⟩, by simp [lenOf7]; omega⟩
    · have hk5 : k = 512 := by omega
      subst hk5
      go_wp2
      go_ret2
      refine ⟨g, cap, rfl, HK.out.2.1, ?_, HK.out.2.2⟩
      have := HK.out.1
      rw [List.take_of_length_le (by rw [sup_len]; omega)] at this
      exact this
end Go.Proofs.YthanoifegbjpoaaDoor
