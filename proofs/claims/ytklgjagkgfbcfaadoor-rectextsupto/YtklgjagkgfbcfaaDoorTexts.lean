import Derived.Test.YtklgjagkgfbcfaaDoorTextL
namespace Go.Proofs.YtklgjagkgfbcfaaDoor
open Go.RowKit Rec

theorem OwnB.lcell {w : World} {g cap : Nat} {l r : List Int} (h : OwnB w g cap (l ++ r)) (i : Nat) (hi : i < l.length) : w.cell? ⟨g, i, none⟩ = some (.int .u8 (nth l i)) := by
  rw [h.cell i (by rw [List.length_append]; omega), nth_left _ _ _ hi]
theorem own_nil {w : World} {g cap : Nat} {l : List Int} (h : OwnB w g cap l) : OwnB w g cap (l ++ []) := by rw [List.append_nil]; exact h
/-- nil, or bytes in a row of one's own -/
def OwnN (w : World) (B : Nat) (v : Value) (l : List Int) : Prop := w.ownsRow B 5 1 v l.length (l.map (Value.int .u8)) ∧ (l ≠ [] → ∃ g cap, v = .slice (some ⟨g, 0, none⟩) l.length cap ∧ B ≤ g ∧ OwnB w g cap l)

theorem OwnN.open {w : World} {B : Nat} {v : Value} {l : List Int} (h : OwnN w B v l) (hl : l.length ≤ 1000000000000000) (hw : ∀ i, 0 ≤ nth l i ∧ nth l i < 256) : ∃ a c, v = .slice a l.length c ∧ Bytes w a l ∧ (a = none → c = 0) ∧ l.length ≤ c ∧ (∀ q, a = some q → q.spot = none) := by
  rcases h.1.2 with ⟨rfl, h0⟩ | ⟨g, cap, cur, rfl, _, _, hc, _, _, _⟩
  · have e : l = [] := List.eq_nil_of_length_eq_zero h0
    subst e
    exact ⟨none, 0, rfl, ⟨by simp, hw, .inl rfl⟩, fun _ => rfl, Nat.le_refl _, fun q h => nomatch h⟩
  · refine ⟨_, cap, rfl, ?_, fun h => (nomatch h), hc, fun q hq => by cases hq; rfl⟩
    by_cases e : l = []
    · subst e; exact ⟨by simp, hw, .inl rfl⟩
    · obtain ⟨g', cap', e', _, ho⟩ := h.2 e
      cases e'
      exact ho.bytes
theorem grown_rows {B : Nat} {w w' : World} {v : Value} {k e : Nat} {xs : List Value} (h : w.grownBy w' v.ownBlock) (ho : w.ownsRow B e 1 v k xs) (hB : B ≤ w.heap.size) : Below B w w' :=
  (Below.refl _ _).grown h hB (fun g hg => (ho.lt g hg).1)

set_option maxRecDepth 100000 in
set_option maxHeartbeats 8000000 in
theorem texts_any (w : World) (a1 a2 : Option Addr) (n1 c1 n2 c2 : Nat) (la lb : List Int) (s : ByteArray) (more : Int) (h1 : la.length = n1) (h2 : lb.length = n2) (B1 : Bytes w a1 la) (B2 : Bytes w a2 lb)
    (z1 : a1 = none → c1 = 0) (z2 : a2 = none → c2 = 0) (hs : n1 + n2 + s.size ≤ 100000000) (hT : TabAt w) (hk : -9223372036854775808 ≤ more ∧ more ≤ 9223372036854775807) :
    Calls Tryd.prog 4 #[.slice a1 n1 c1, .slice a2 n2 c2, .agg #[.string s, .int .i64 more]] w fun e w' => e = .returned (.bool true) ∧ Below w.heap.size w w' := by
  have HT : Hid (TabAt w) := hT
  have HB1 : Hid (Bytes w a1 la) := B1
  have HB2 : Hid (Bytes w a2 lb) := B2
  have HZ : Hid ((a1 = none → c1 = 0) ∧ (a2 = none → c2 = 0)) := ⟨z1, z2⟩
  have HL : Hid (la.length = n1 ∧ lb.length = n2) := ⟨h1, h2⟩
  clear hT B1 B2 z1 z2 h1 h2
  go_enter Tryd.func4, Tryd.ntmps4
  go_wp2_with fail
  have HBa : Hid (Below w.heap.size w (w.alloc (.cells #[.string s, .int .i64 more] 36))) := (Below.refl _ _).alloc (Nat.le_refl _) _
  have HC0 : Hid ((w.alloc (.cells #[.string s, .int .i64 more] 36)).cell? ⟨w.heap.size, 0, none⟩ = some (.string s)) := cell_of_row _ _ _ _ _ _ (heap_alloc_new _ _)
  have HC1 : Hid ((w.alloc (.cells #[.string s, .int .i64 more] 36)).cell? ⟨w.heap.size, 1, none⟩ = some (.int .i64 more)) := cell_of_row _ _ _ _ _ _ (heap_alloc_new _ _)
  generalize w.alloc (.cells #[.string s, .int .i64 more] 36) = w1 at *
  refine (fixed_any w1 (HT.out.on HBa.out)).mono ?_
  rintro e w2 ⟨rfl, hb⟩
  have HD0 : Hid (w2.cell? ⟨w.heap.size, 0, none⟩ = some (.string s)) := (hb.cell (block_lt_of_cell HC0.out)).trans HC0.out
  have HD1 : Hid (w2.cell? ⟨w.heap.size, 1, none⟩ = some (.int .i64 more)) := (hb.cell (block_lt_of_cell HC1.out)).trans HC1.out
  have HB : Hid (Below w.heap.size w w2) := HBa.out.trans (hb.mono HBa.out.size)
  clear hb HC0 HC1 HBa
  go_wp2_with fail
  go_loopw [7, 8] (fun v7 i wr => ∃ j : Nat, j ≤ s.size ∧ i = .int .i64 j ∧ OwnN wr w2.heap.size v7 (fl s j) ∧ Below w2.heap.size w2 wr) (fun _ i _ => s.size - (intOf i).toNat)
  case atStart => exact ⟨0, Nat.zero_le _, rfl, ⟨by rw [fl_zero]; exact World.ownsRow_nil _ _ _ _, fun h => absurd (fl_zero s) h⟩, Below.refl _ _⟩
  case round =>
    obtain ⟨j, hj, rfl, ho, hb⟩ := hrel
    have HO : Hid (OwnN wr w2.heap.size u7 (fl s j)) := ho
    have HR : Hid (Below w2.heap.size w2 wr) := hb
    clear ho hb
    have D0 : wr.cell? ⟨w.heap.size, 0, none⟩ = some (.string s) := (HR.out.cell (block_lt_of_cell HD0.out)).trans HD0.out
    by_cases hlt : j < s.size
    · have hq := sb_nth s j hlt
      by_cases h0 : (s[j].toNat : Int) = 0
      · have HF : Hid (fl s (j + 1) = fl s j) := fl_no s j hlt (by rw [hq]; exact h0)
        clear hq
        go_wp2
        exact ⟨⟨j + 1, by omega, by go_num, by rw [HF.out]; exact HO.out, HR.out⟩, by simp [intOf]; omega⟩
      · have HF : Hid (fl s (j + 1) = fl s j ++ [(s[j].toNat : Int)]) := by rw [← hq]; exact fl_yes s j hlt (by rw [hq]; exact h0)
        have HW : Hid (0 ≤ (s[j].toNat : Int) ∧ (s[j].toNat : Int) < 256) := by rw [← hq]; exact sb_bd s j
        have hfl := fl_len s j
        have HLen : Hid ((fl s (j + 1)).length = (fl s j).length + 1) := by show _ = _; rw [HF.out, List.length_append]; rfl
        clear hq
        go_wp2_with (at_builtin; refine wp_bapp (w := World.alloc wr _) rfl (.tmp 39) (.tmp 44) rfl w2.heap.size u7 (fl s j).length (fl s j) rfl (fl_wf s j) rfl (HO.out.1.alloc _) [(s[j].toNat : Int)] wr.heap.size 1 rfl rfl (own_new [(s[j].toNat : Int)] (by simp) (wf_list (by simpa using HW.out))).bytes (by omega) (Nat.le_trans HR.out.size (by simp)) ?_; intro g cap w3 hg ho hown hgr; have HO3 : Hid (OwnB w3 g cap (fl s j ++ [(s[j].toNat : Int)])) := ho; have HG3 : Hid (w2.heap.size ≤ g) := hg; have HW3 : Hid (w3.ownsRow w2.heap.size 5 1 (.slice (some ⟨g, 0, none⟩) ((fl s j).length + 1) cap) ((fl s j).length + 1) ((fl s j ++ [(s[j].toNat : Int)]).map (Value.int .u8))) := hown; have HGR : Hid (World.grownBy _ w3 u7.ownBlock) := hgr; clear hg ho hown hgr)
        have q1 : Below w2.heap.size wr (wr.alloc (.cells ([(s[j].toNat : Int)].map (Value.int .u8)).toArray 5)) := (Below.refl _ _).alloc HR.out.size _
        have q2 : Below w2.heap.size (wr.alloc (.cells ([(s[j].toNat : Int)].map (Value.int .u8)).toArray 5)) w3 := grown_rows HGR.out (HO.out.1.alloc _) (Nat.le_trans HR.out.size (by simp))
        refine ⟨⟨j + 1, by omega, by go_num, ⟨by rw [HLen.out, HF.out]; exact HW3.out, fun _ => ⟨g, cap, by rw [HLen.out], HG3.out, by rw [HF.out]; exact HO3.out⟩⟩, (HR.out.trans q1).trans q2⟩, by simp [intOf]; omega⟩
    · obtain rfl : j = s.size := by omega
      obtain ⟨a7, c7, e7, hb7, hz7, hc7, hq7⟩ := HO.out.open (Nat.le_trans (fl_len _ _) (by omega)) (fl_wf _ _)
      subst e7
      have hp : (fl s s.size).length ≤ s.size := fl_len _ _
      have HF : Hid (∀ i, i < (fl s s.size).length → nth (fl s s.size) i ≠ 0) := fun i hi => (fl_mem s s.size i hi).1
      have HFw : Hid (∀ i, 0 ≤ nth (fl s s.size) i ∧ nth (fl s s.size) i < 256) := fl_wf s s.size
      have HB7 : Hid (Bytes wr a7 (fl s s.size)) := hb7
      have HZ7 : Hid (a7 = none → c7 = 0) := hz7
      clear hb7 hz7 HO hq7
      generalize hl : fl s s.size = l at *
      clear hl
      have HP : Hid (l.length = l.length) := rfl
      generalize hpl : l.length = p at *
      have HPL : Hid (l.length = p) := hpl
      clear HP hpl
      have D1 : wr.cell? ⟨w.heap.size, 1, none⟩ = some (.int .i64 more) := (HR.out.cell (block_lt_of_cell HD1.out)).trans HD1.out
      obtain ⟨M, hM⟩ : ∃ M : Nat, more % 9 = M := ⟨(more % 9).toNat, by omega⟩
      have hM8 : M ≤ 8 := by omega
      have HWr : Hid (Below w.heap.size w wr) := HB.out.trans (HR.out.mono HB.out.size)
      have HA1 : Hid (Bytes wr a1 la) := HB1.out.on HWr.out
      go_wp2_with (first
        | (go_at_call 8; refine (mod_any _ _ _ (by omega) hk).mono ?_; rintro e wrb ⟨rfl, rfl⟩; rw [hM])
        | (at_builtin; refine wp_app (w := World.alloc wrb _) rfl (.tmp 53) (.tmp 54) rfl wrb.heap.size wrb.heap.size 0 0 [] la rfl rfl (own_empty (heap_alloc_new _ _)) (Nat.le_refl _) (by simp) a1 n1 c1 rfl HL.out.1 (HA1.out.on ((Below.refl _ _).alloc (Nat.le_refl _) _)) HZ.out.1 (by omega) ?_; intro g4 cap4 w4 hg4 ho4 hgr4; have HG4 : Hid (wrb.heap.size ≤ g4) := hg4; have HO4 : Hid (OwnB w4 g4 cap4 la) := ho4; have q1 : Below wrb.heap.size wrb (wrb.alloc (.cells #[] 5)) := (Below.refl _ _).alloc (Nat.le_refl _) _; have q2 : Below wrb.heap.size (wrb.alloc (.cells #[] 5)) w4 := below_of hgr4 (Nat.le_refl _) (by simp); have HB4 : Hid (Below wrb.heap.size wrb w4) := q1.trans q2; clear q1 q2 hg4 ho4 hgr4; simp only [Nat.zero_add])
        | (at_builtin; refine wp_app (w := World.alloc w4 _) rfl (.tmp 55) (.tmp 56) rfl wrb.heap.size g4 n1 cap4 la [9] HL.out.1 rfl (HO4.out.on ((Below.refl _ _).alloc (Nat.le_refl _) _)) HG4.out (Nat.le_trans HB4.out.size (by simp)) _ 1 1 rfl rfl (own_new [9] (by decide) (wf_list (by decide))).bytes (fun h => nomatch h) (by omega) ?_; intro g5 cap5 w5 hg5 ho5 hgr5; have HG5 : Hid (wrb.heap.size ≤ g5) := hg5; have HO5 : Hid (OwnB w5 g5 cap5 (la ++ [9])) := ho5; have q1 : Below wrb.heap.size w4 (w4.alloc (.cells (([9] : List Int).map (Value.int .u8)).toArray 5)) := (Below.refl _ _).alloc HB4.out.size _; have q2 : Below wrb.heap.size (w4.alloc (.cells (([9] : List Int).map (Value.int .u8)).toArray 5)) w5 := below_of hgr5 HG4.out (Nat.le_trans HB4.out.size (by simp)); have HB5 : Hid (Below wrb.heap.size wrb w5) := (HB4.out.trans q1).trans q2; clear q1 q2 hg5 ho5 hgr5))
      go_loopw [11, 12] (fun v11 i wr => ∃ (j g cap : Nat), j ≤ p + M ∧ i = .int .i64 j ∧ v11 = .slice (some ⟨g, 0, none⟩) (n1 + 1 + j) cap ∧ wrb.heap.size ≤ g ∧ OwnB wr g cap (la ++ [9] ++ List.replicate j 200) ∧ Below wrb.heap.size wrb wr) (fun _ i _ => p + M - (intOf i).toNat)
      case atStart => exact ⟨0, g5, cap5, Nat.zero_le _, rfl, rfl, HG5.out, by simpa using HO5.out, HB5.out⟩
      case round =>
        obtain ⟨j, g6, cap6, hj, rfl, rfl, hg, ho, hb⟩ := hrel
        have HG6 : Hid (wrb.heap.size ≤ g6) := hg
        have HO6 : Hid (OwnB wr g6 cap6 (la ++ [9] ++ List.replicate j 200)) := ho
        have HB6 : Hid (Below wrb.heap.size wrb wr) := hb
        have HL6 : Hid ((la ++ [9] ++ List.replicate j (200 : Int)).length = n1 + 1 + j) := by show _ = _; rw [List.length_append, List.length_append, HL.out.1, List.length_replicate]; rfl
        clear hg ho hb
        by_cases hjn : j < p + M
        · go_wp2_with (at_builtin; refine wp_app (w := World.alloc wr _) rfl (.tmp 63) (.tmp 64) rfl wrb.heap.size g6 (n1 + 1 + j) cap6 (la ++ [9] ++ List.replicate j 200) [200] HL6.out rfl (HO6.out.on ((Below.refl _ _).alloc (Nat.le_refl _) _)) HG6.out (Nat.le_trans HB6.out.size (by simp)) _ 1 1 rfl rfl (own_new [200] (by decide) (wf_list (by decide))).bytes (fun h => nomatch h) (by omega) ?_; intro g7 cap7 w7 hg7 ho7 hgr7; have HG7 : Hid (wrb.heap.size ≤ g7) := hg7; have HO7 : Hid (OwnB w7 g7 cap7 (la ++ [9] ++ List.replicate j 200 ++ [200])) := ho7; have q1 : Below wrb.heap.size wr (wr.alloc (.cells (([200] : List Int).map (Value.int .u8)).toArray 5)) := (Below.refl _ _).alloc HB6.out.size _; have q2 : Below wrb.heap.size (wr.alloc (.cells (([200] : List Int).map (Value.int .u8)).toArray 5)) w7 := below_of hgr7 HG6.out (Nat.le_trans HB6.out.size (by simp)); have HB7' : Hid (Below wrb.heap.size wrb w7) := (HB6.out.trans q1).trans q2; clear q1 q2 hg7 ho7 hgr7)
          have HE : Hid (la ++ [9] ++ List.replicate j (200 : Int) ++ [200] = la ++ [9] ++ List.replicate (j + 1) 200) := by show _ = _; rw [List.append_assoc, ← List.replicate_succ']
          exact ⟨⟨j + 1, g7, cap7, by omega, by go_num, rfl, HG7.out, by rw [← HE.out]; exact HO7.out, HB7'.out⟩, by simp [intOf]; omega⟩
        · obtain rfl : j = p + M := by omega
          have HX0 := tx_mk la lb l n1 n2 p M HL.out.1 HL.out.2 HPL.out HFw.out HF.out
          have HCV : Hid (∀ wx, Below wrb.heap.size wrb wx → ∀ k, k ≤ p → (convert 22 9 (.slice a7 k c7)).run Tryd.prog wx = .ok (.string (strOfNums (l.take k))) wx) := fun wx hx k hk => str_opt ((HB7.out.on hx).take k) (by rw [List.length_take, HPL.out]; omega)
          have HS0 : Hid (strOfNums (l.take p) = strOfNums l) := by show _ = _; rw [List.take_of_length_le (by rw [HPL.out]; exact Nat.le_refl _)]
          generalize hS : strOfNums l = S at *
          generalize hTT : t1 la lb l M = T at *
          clear hS hTT
          have HX : Hid (Tx la lb l n1 n2 p M S T) := HX0
          clear HX0
          have HWx : Hid (Below w.heap.size w wr) := HWr.out.trans (HB6.out.mono HWr.out.size)
          have HA2 : Hid (Bytes wr a2 lb) := HB2.out.on HWx.out
          generalize hw6 : wr = w6 at *
          clear hw6
          go_wp2_with (first
            | (at_builtin; refine wp_app (w := World.alloc w6 _) rfl (.tmp 69) (.tmp 70) rfl wrb.heap.size g6 (n1 + 1 + (p + M)) cap6 (la ++ [9] ++ List.replicate (p + M) 200) [9] HL6.out rfl (HO6.out.on ((Below.refl _ _).alloc (Nat.le_refl _) _)) HG6.out (Nat.le_trans HB6.out.size (by simp)) _ 1 1 rfl rfl (own_new [9] (by decide) (wf_list (by decide))).bytes (fun h => nomatch h) (by omega) ?_; intro g8 cap8 w8 hg8 ho8 hgr8; have HG8 : Hid (wrb.heap.size ≤ g8) := hg8; have HO8 : Hid (OwnB w8 g8 cap8 (la ++ [9] ++ List.replicate (p + M) 200 ++ [9])) := ho8; have q1 : Below wrb.heap.size w6 (w6.alloc (.cells (([9] : List Int).map (Value.int .u8)).toArray 5)) := (Below.refl _ _).alloc HB6.out.size _; have q2 : Below wrb.heap.size (w6.alloc (.cells (([9] : List Int).map (Value.int .u8)).toArray 5)) w8 := below_of hgr8 HG6.out (Nat.le_trans HB6.out.size (by simp)); have HB8 : Hid (Below wrb.heap.size wrb w8) := (HB6.out.trans q1).trans q2; clear q1 q2 hg8 ho8 hgr8; have HL8 : Hid ((la ++ [9] ++ List.replicate (p + M) (200 : Int) ++ [9]).length = n1 + 1 + (p + M) + 1) := by rw [List.length_append, HL6.out]; exact rfl)
            | (at_builtin; refine wp_app rfl (.tmp 71) (.tmp 72) rfl wrb.heap.size g8 (n1 + 1 + (p + M) + 1) cap8 (la ++ [9] ++ List.replicate (p + M) 200 ++ [9]) lb HL8.out rfl HO8.out HG8.out HB8.out.size a2 n2 c2 rfl HL.out.2 (HB2.out.on (HWr.out.trans (HB8.out.mono HWr.out.size))) HZ.out.2 (by omega) ?_; intro g9 cap9 w9 hg9 ho9 hgr9; have HG9 : Hid (wrb.heap.size ≤ g9) := hg9; have HO9 : Hid (OwnB w9 g9 cap9 (t0 la lb (p + M) ++ [])) := own_nil (l := t0 la lb (p + M)) ho9; have HB9 : Hid (Below wrb.heap.size wrb w9) := HB8.out.trans (below_of hgr9 HG8.out HB8.out.size); clear hg9 ho9 hgr9; have hcv := HCV.out w9 HB9.out p (Nat.le_refl _); rw [HS0.out] at hcv))
          have HL9 : Hid ((t0 la lb (p + M)).length = n1 + 1 + (p + M) + 1 + n2) := by show _ = _; unfold t0; rw [List.length_append, HL8.out, HL.out.2]
          have hroom : n1 + 1 + (p + M) + 1 + n2 ≤ cap9 := by have := HO9.out.room; rw [List.append_nil, HL9.out] at this; exact this
          have HLT : Hid (T.length = n1 + 1 + (p + M) + 1 + n2) := HX.out.len
          have hSz : S.size ≤ 9223372036854775807 := by rw [HX.out.size]; omega
          clear HO8 HO6 HO5 HO4 HB8 HB5 HB4 HG8 HG6 HG5 HG4 HA1 HA2 HL6 HL8 hcv D0 D1 HD0 HD1
          refine (ptx_any w9 g9 cap9 (n1 + 1 + (p + M) + 1 + n2) cap9 ((n1 : Int) + 1) ((p : Int) + M) S (t0 la lb (p + M)) [] HL9.out HO9.out hroom (by omega) hSz).mono ?_
          rintro e w10 ⟨rfl, ho, hg⟩
          rw [(HX.out.put _ _ rfl rfl).1]
          rw [(HX.out.put _ _ rfl rfl).2] at ho
          have HO10 : Hid (OwnB w10 g9 cap9 (T ++ [])) := ho
          have HB10 : Hid (Below wrb.heap.size wrb w10) := HB9.out.trans (below_of hg HG9.out HB9.out.size)
          clear ho hg HO9 HB9
          go_wp2_with fail
          refine (text_any w10 g9 cap9 (n1 + 1 + (p + M) + 1 + n2) cap9 ((n1 : Int) + 1) ((p : Int) + M) T [] HLT.out HO10.out hroom (by omega)).mono ?_
          rintro e w10b ⟨rfl, rfl⟩
          rw [(HX.out.get _ _ rfl rfl).1, (HX.out.get _ _ rfl rfl).2]
          go_wp2_with fail
          refine (zero_any w10b g9 cap9 (n1 + 1 + (p + M) + 1 + n2) cap9 ((n1 : Int) + 1 + p) M T [] HLT.out HO10.out hroom (by omega)).mono ?_
          rintro e w10c ⟨rfl, rfl⟩
          rw [(HX.out.zer _ _ rfl rfl).1, (HX.out.zer _ _ rfl rfl).2]
          go_upto_region 21 with fail
          have HFo : Hid (∀ wx, OwnB wx g9 cap9 (T ++ []) → Bytes wx (some ⟨g9, 0, none⟩) la) := fun wx hx => by
            have := hx.bytes.take n1
            rw [List.append_nil, HX.out.fore] at this
            exact this
          have HAf : Hid (∀ wx B, OwnB wx g9 cap9 (T ++ []) → B = n1 + 1 + (p + M) + 1 ∨ n2 = 0 → Bytes wx (some ⟨g9, B, none⟩) lb) := fun wx B hx hB => by
            have := hx.field (A := n1 + 1 + (p + M) + 1) (N := n2) (by rw [HLT.out]; exact Nat.le_refl _) hB
            unfold fld at this
            rw [HX.out.aft, List.take_of_length_le (by rw [HL.out.2]; exact Nat.le_refl _)] at this
            exact this
          have HMd : Hid (∀ wx, OwnB wx g9 cap9 (T ++ []) → wx.cell? ⟨g9, n1, none⟩ = some (.int .u8 9) ∧ wx.cell? ⟨g9, n1 + 1 + (p + M), none⟩ = some (.int .u8 9)) := fun wx hx => by
            have x1 := hx.lcell n1 (by rw [HLT.out]; omega)
            have x2 := hx.lcell (n1 + 1 + (p + M)) (by rw [HLT.out]; omega)
            rw [HX.out.mid1] at x1
            rw [HX.out.mid2] at x2
            exact ⟨x1, x2⟩
          go_cut [153] (fun s153 wx => s153 = .bool false ∧ Below wrb.heap.size wrb wx ∧ OwnB wx g9 cap9 (T ++ []))
          case first =>
            have hcv := HCV.out w10c HB10.out p (Nat.le_refl _)
            rw [HS0.out] at hcv
            go_wp2_with (go_at_call_of 11 (a1); refine (same_any w10c _ _ n1 cap9 n1 c1 la la HL.out.1 HL.out.1 (HFo.out _ HO10.out) (HB1.out.on (HWr.out.trans (HB10.out.mono HWr.out.size)))).mono ?_; rintro e w11 ⟨rfl, hb⟩; rw [decide_eq_true rfl]; have HB11 : Hid (Below wrb.heap.size wrb w11) := HB10.out.trans (hb.mono HB10.out.size); have HO11 : Hid (OwnB w11 g9 cap9 (T ++ [])) := HO10.out.on hb; clear hb; obtain ⟨x1, x2⟩ := HMd.out w11 HO11.out)
            all_goals
              try subst h
              refine (same_any w11 _ _ n2 _ n2 c2 lb lb HL.out.2 HL.out.2 (HAf.out _ _ HO11.out (by omega)) (HB2.out.on (HWr.out.trans (HB11.out.mono HWr.out.size)))).mono ?_
              rintro e w12 ⟨rfl, hb⟩
              rw [decide_eq_true rfl]
              have HB12 : Hid (Below wrb.heap.size wrb w12) := HB11.out.trans (hb.mono HB11.out.size)
              have HO12 : Hid (OwnB w12 g9 _ (T ++ [])) := HO11.out.on hb
              clear hb
              go_wp2_with fail
              go_meet
              exact ⟨rfl, HB12.out, HO12.out⟩
          case rest =>
            obtain ⟨rfl, hb13, ho13⟩ := hcut
            have HB13 : Hid (Below wrb.heap.size wrb wc) := hb13
            have HO13 : Hid (OwnB wc g9 cap9 (T ++ [])) := ho13
            clear hb13 ho13 HB10 HO10
            go_wp2_with fail
            go_loop [19] (fun i => ∃ k : Nat, k ≤ p + 1 ∧ k ≤ 40 ∧ i = .int .i64 k) (fun i => 40 - (intOf i).toNat)
            case atStart => exact ⟨0, by omega, by omega, rfl⟩
            case round =>
              obtain ⟨k, hk1, hk2, rfl⟩ := hrel
              by_cases hkk : k ≤ p ∧ k < 40
              · obtain ⟨hkp, hk40⟩ := hkk
                have hcv := HCV.out wc HB13.out k hkp
                go_wp2_with (go_at_call 13; refine (text_any wc g9 cap9 (n1 + 1 + (p + M) + 1 + n2) cap9 ((n1 : Int) + 1) k T [] HLT.out HO13.out hroom (by omega)).mono ?_; rintro e wd ⟨rfl, rfl⟩; rw [(HX.out.cut _ _ k rfl rfl hkp).1, (HX.out.cut _ _ k rfl rfl hkp).2])
                exact ⟨⟨k + 1, by omega, by omega, by go_num⟩, by simp [intOf]; omega⟩
              · have hor : (k ≤ p ∧ ¬ k < 40) ∨ ¬ k ≤ p := by omega
                have HX5 : Hid (g9 < wc.heap.size) := HO13.out.lt
                have HBL : Hid (Bytes wc (some ⟨g9, 0, none⟩) T) := by have := HO13.out.bytes; rw [List.append_nil] at this; exact this
                generalize hw14 : wc = w14 at *
                clear hw14 hkk
                have HB14 : Hid (Below wrb.heap.size wrb w14) := HB13.out
                have HO14 : Hid (OwnB w14 g9 cap9 (T ++ [])) := HO13.out
                clear HB13 HO13
                have HB14s : Hid (wrb.heap.size ≤ w14.heap.size) := HB14.out.size
                rcases hor with ⟨hkp, h40⟩ | hkp
                all_goals
                  go_upto_region 30 with (at_builtin; refine wp_app (w := World.alloc w14 _) rfl (.tmp 181) (.tmp 182) rfl w14.heap.size w14.heap.size 0 0 [] T rfl rfl (own_empty (heap_alloc_new _ _)) (Nat.le_refl _) (by simp) (some ⟨g9, 0, none⟩) (n1 + 1 + (p + M) + 1 + n2) cap9 rfl HLT.out (HBL.out.on ((Below.refl _ _).alloc (Nat.le_refl _) _)) (fun h => nomatch h) (by omega) ?_; intro g15 cap15 w15 hg15 ho15 hgr15; have hne : g15 ≠ g9 := Nat.ne_of_gt (Nat.lt_of_lt_of_le HX5.out hg15); have HO15 : Hid (OwnB w15 g15 cap15 T) := ho15; have q1 : Below w14.heap.size w14 (w14.alloc (.cells #[] 5)) := (Below.refl _ _).alloc (Nat.le_refl _) _; have q2 : Below w14.heap.size (w14.alloc (.cells #[] 5)) w15 := below_of hgr15 (Nat.le_refl _) (by simp); have HB15 : Hid (Below w14.heap.size w14 w15) := q1.trans q2; have HG15 : Hid (w14.heap.size ≤ g15) := hg15; clear q1 q2 hg15 ho15 hgr15; simp only [Nat.zero_add])
                  have HB16 : Hid (Below wrb.heap.size wrb w15) := HB14.out.trans (HB15.out.mono HB14.out.size)
                  have HO16 : Hid (OwnB w15 g9 cap9 (T ++ [])) := HO14.out.on HB15.out
                  clear HBL HB14 HO14 HX5
                  go_cut [197] (fun s197 wx => s197 = .bool false ∧ Below wrb.heap.size wrb wx ∧ OwnB wx g9 cap9 (T ++ []) ∧ OwnB wx g15 cap15 T)
                  case first =>
                    by_cases h0 : p = 0
                    · have h0' : decide ((0 : Int) < (p : Int)) = false := decide_eq_false (by omega)
                      have h0'' : decide (0 < p) = false := decide_eq_false (by omega)
                      clear h0
                      go_wp2_with fail
                      go_meet
                      exact ⟨rfl, HB16.out, HO16.out, HO15.out⟩
                    · have hcv := HCV.out w15 HB16.out p (Nat.le_refl _)
                      rw [HS0.out] at hcv
                      go_wp2_with fail
                      refine (ptx_any w15 g9 cap9 (n1 + 1 + (p + M) + 1 + n2) cap9 ((n1 : Int) + 1) _ S T [] HLT.out HO16.out hroom (by omega) hSz).mono ?_
                      rintro e w16 ⟨rfl, ho, hg⟩
                      rw [(HX.out.less _ _ (by omega)).1]
                      rw [(HX.out.less _ _ (by omega)).2] at ho
                      have HO17 : Hid (OwnB w16 g9 cap9 (T ++ [])) := ho
                      have HR17 : Hid (OwnB w16 g15 cap15 T) := HO15.out.grown hg (fun e => hne (Option.some.inj e))
                      have HB17 : Hid (Below wrb.heap.size wrb w16) := HB16.out.trans (below_of hg HG9.out HB16.out.size)
                      clear ho hg
                      go_wp2_with fail
                      go_meet
                      exact ⟨rfl, HB17.out, HO17.out, HR17.out⟩
                  case rest =>
                    obtain ⟨rfl, hb, ho, hr⟩ := hcut
                    generalize hw17 : wc = w17 at *
                    clear hw17
                    have HB18 : Hid (Below wrb.heap.size wrb w17) := hb
                    have HO18 : Hid (OwnB w17 g9 cap9 (T ++ [])) := ho
                    have HR18 : Hid (OwnB w17 g15 cap15 T) := hr
                    clear hb ho hr HB16 HO16 HB15 HO15
                    have hcv := HCV.out w17 HB18.out p (Nat.le_refl _)
                    rw [HS0.out] at hcv
                    have hSp : S.size = p := HX.out.size
                    go_wp2_with fail
                    refine (ptx_any w17 g9 cap9 (n1 + 1 + (p + M) + 1 + n2) cap9 ((n1 : Int) + 1) _ _ T [] HLT.out HO18.out hroom (by omega) (by rw [ByteArray.size_append, hSp]; show p + 1 ≤ _; omega)).mono ?_
                    rintro e w18 ⟨rfl, ho, hg⟩
                    rw [(HX.out.zero _ _ _ (zero_end S)).1]
                    rw [(HX.out.zero _ _ _ (zero_end S)).2] at ho
                    have HO19 : Hid (OwnB w18 g9 cap9 (T ++ [])) := ho
                    have HR19 : Hid (OwnB w18 g15 cap15 T) := HR18.out.grown hg (fun e => hne (Option.some.inj e))
                    have HB19 : Hid (Below wrb.heap.size wrb w18) := HB18.out.trans (below_of hg HG9.out HB18.out.size)
                    clear ho hg HO18 HR18 HB18 hcv
                    go_wp2_with fail
                    refine (ptx_any w18 g9 cap9 (n1 + 1 + (p + M) + 1 + n2) cap9 _ 1 _ T [] HLT.out HO19.out hroom (by omega) (by show 0 ≤ _; omega)).mono ?_
                    rintro e w19 ⟨rfl, ho, hg⟩
                    rw [(HX.out.out _ (by omega)).1]
                    rw [(HX.out.out _ (by omega)).2] at ho
                    have HO20 : Hid (OwnB w19 g9 cap9 (T ++ [])) := ho
                    have HR20 : Hid (OwnB w19 g15 cap15 T) := HR19.out.grown hg (fun e => hne (Option.some.inj e))
                    have HB20 : Hid (Below wrb.heap.size wrb w19) := HB19.out.trans (below_of hg HG9.out HB19.out.size)
                    clear ho hg HO19 HR19 HB19
                    by_cases hM2 : 2 ≤ M
                    · obtain ⟨q, hq⟩ : ∃ q : Nat, q = n1 + (p + M) := ⟨_, rfl⟩
                      have hq' : (n1 : Int) + 1 + ((p : Int) + M) - 1 = (q : Int) := by omega
                      have x1 := HO20.out.lcell q (by rw [HLT.out]; omega)
                      have x2 := HO20.out.frozen q
                      have HO21 : Hid (OwnB (w19.setCell ⟨g9, q, none⟩ (.int .u8 1)) g9 cap9 (T.set q 1 ++ [])) := by
                        have o := HO20.out
                        rw [List.append_nil] at o
                        exact own_nil (o.set q 1 (by rw [HLT.out]; omega) (by decide))
                      have HR21 : Hid (OwnB (w19.setCell ⟨g9, q, none⟩ (.int .u8 1)) g15 cap15 T) := HR20.out.grown grown_set (fun e => hne (Option.some.inj e))
                      have x3 := HR21.out.cell q (by rw [HLT.out]; omega)
                      have x4 := HR21.out.frozen q
                      have HR22 : Hid (OwnB ((w19.setCell ⟨g9, q, none⟩ (.int .u8 1)).setCell ⟨g15, q, none⟩ (.int .u8 1)) g15 cap15 (T.set q 1)) := HR21.out.set q 1 (by rw [HLT.out]; omega) (by decide)
                      have HO22 : Hid (OwnB ((w19.setCell ⟨g9, q, none⟩ (.int .u8 1)).setCell ⟨g15, q, none⟩ (.int .u8 1)) g9 cap9 (T.set q 1 ++ [])) := HO21.out.grown grown_set (fun e => hne (Option.some.inj e).symm)
                      have HB22 : Hid (Below wrb.heap.size wrb ((w19.setCell ⟨g9, q, none⟩ (.int .u8 1)).setCell ⟨g15, q, none⟩ (.int .u8 1))) := (HB20.out.setCell (p := ⟨g9, q, none⟩) HG9.out _).setCell (p := ⟨g15, q, none⟩) (Nat.le_trans HB14s.out HG15.out) _
                      have HLq : Hid ((T.set q 1).length = n1 + 1 + (p + M) + 1 + n2) := by show _ = _; rw [List.length_set]; exact HLT.out
                      have HEq : Hid (texE (T.set q 1) ((n1 : Int) + 1) ((p : Int) + M) = 1) := HX.out.one _ _ q rfl rfl hq hM2
                      clear HO20 HR20 HB20 HO21 HR21 hq
                      go_wp2_with fail
                      generalize hw22 : (w19.setCell ⟨g9, q, none⟩ (.int .u8 1)).setCell ⟨g15, q, none⟩ (.int .u8 1) = w22 at *
                      clear hw22
                      refine (text_any w22 g9 cap9 (n1 + 1 + (p + M) + 1 + n2) cap9 ((n1 : Int) + 1) ((p : Int) + M) (T.set q 1) [] HLq.out HO22.out hroom (by omega)).mono ?_
                      rintro e w22b ⟨rfl, rfl⟩
                      rw [HEq.out]
                      go_wp2_with fail
                      refine (same_any w22b _ _ (n1 + 1 + (p + M) + 1 + n2) _ (n1 + 1 + (p + M) + 1 + n2) _ (T.set q 1) (T.set q 1) HLq.out HLq.out (by have := HO22.out.bytes; rw [List.append_nil] at this; exact this) HR22.out.bytes).mono ?_
                      rintro e w23 ⟨rfl, hb⟩
                      rw [decide_eq_true rfl]
                      have HB23 : Hid (Below wrb.heap.size wrb w23) := HB22.out.trans (hb.mono HB22.out.size)
                      clear hb
                      go_wp2
                      go_ret
                      exact ⟨rfl, HWr.out.trans (HB23.out.mono HWr.out.size)⟩
                    · go_wp2_with fail
                      refine (same_any w19 _ _ (n1 + 1 + (p + M) + 1 + n2) _ (n1 + 1 + (p + M) + 1 + n2) _ T T HLT.out HLT.out (by have := HO20.out.bytes; rw [List.append_nil] at this; exact this) HR20.out.bytes).mono ?_
                      rintro e w23 ⟨rfl, hb⟩
                      rw [decide_eq_true rfl]
                      have HB23 : Hid (Below wrb.heap.size wrb w23) := HB20.out.trans (hb.mono HB20.out.size)
                      clear hb
                      go_wp2
                      go_ret
                      exact ⟨rfl, HWr.out.trans (HB23.out.mono HWr.out.size)⟩
end Go.Proofs.YtklgjagkgfbcfaaDoor
