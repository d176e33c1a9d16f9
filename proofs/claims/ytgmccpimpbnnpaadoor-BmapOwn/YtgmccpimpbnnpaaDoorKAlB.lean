import Derived.Test.YtgmccpimpbnnpaaDoorKSpU
import Derived.Test.YtgmccpimpbnnpaaDoorKWalM
namespace Go.Proofs.YtgmccpimpbnnpaaDoor
open Go.RowKit Go.Maps Rec
structure EaA (L w wr : World) (P tt n P5 g cap : Nat) (ns : List Int) (vb0 vt0 vb vt : Value) (bl : List (Nat × Nat)) (tl : List Nat) : Prop where
  ay : Ay L wr P tt n vb vt bl tl
  am : AyM w wr P vb0 vt0 vb vt
  geo : GeoAt wr P5 n
  row : OwnI wr g cap ns
  ne : P + 6 ≤ P5 ∧ P + 6 ≤ g ∧ g < w.heap.size ∧ ¬ vt0.ownBlock = some g
theorem EaA.on {L w wr wx : World} {P tt n P5 g cap : Nat} {ns : List Int} {vb0 vt0 vb vt : Value} {bl : List (Nat × Nat)} {tl : List Nat} (h : EaA L w wr P tt n P5 g cap ns vb0 vt0 vb vt bl tl) (hb : Below wr.heap.size wr wx) : EaA L w wx P tt n P5 g cap ns vb0 vt0 vb vt bl tl := ⟨h.ay.on hb, h.am.trans (AyM.on hb), h.geo.on hb, h.row.on hb, h.ne⟩
theorem own_apartG {w : World} {e size n g cap : Nat} {v : Value} {xs : List Value} {l : List Int} (h : w.ownsRow 0 e size v n xs) (h' : OwnI w g cap l) (hne : e ≠ 3) : ¬ v.ownBlock = some g := by
  obtain ⟨cur, hg, _, _⟩ := h'.row
  exact own_apartR h hg hne
theorem EaA.next {L w wr w3 : World} {P tt n P5 g cap : Nat} {ns : List Int} {vb0 vt0 vb vt vb' vt' : Value} {bl bl' : List (Nat × Nat)} {tl tl' : List Nat} (h : EaA L w wr P tt n P5 g cap ns vb0 vt0 vb vt bl tl) (ha : Ay L w3 P tt n vb' vt' bl' tl') (hm : AyM wr w3 P vb vt vb' vt') : EaA L w w3 P tt n P5 g cap ns vb0 vt0 vb' vt' bl' tl' := by
  obtain ⟨n1, n2, n3, n4⟩ := h.ne
  refine ⟨ha, h.am.trans hm, hm.fr.heap h.geo (fun e => ?_), h.row.fr hm.fr (fun e => ?_), h.ne⟩
  · rcases e with e | e | e | e
    · omega
    · omega
    · exact own_apartR h.ay.rb h.geo (by decide) e
    · exact own_apartR h.ay.rt h.geo (by decide) e
  · rcases e with e | e | e | e
    · omega
    · omega
    · exact own_apartG h.ay.rb h.row (by decide) e
    · rcases h.am.ot g e with e | e
      · exact n4 e
      · omega
theorem acL_skip {α : Type} {a : Nat → Nat} {p : Nat → List α} {j : Nat} (h : a j = 0) : acL a p (j + 1) = acL a p j := by rw [acL, if_pos h, List.append_nil]
theorem acL_next {α : Type} {a : Nat → Nat} {p : Nat → List α} {j : Nat} (h : a j ≠ 0) : acL a p (j + 1) = acL a p j ++ p j := by rw [acL, if_neg h]
set_option maxRecDepth 100000 in
set_option maxHeartbeats 8000000 in
theorem eacha_own (L w : World) (n P tt tb g len cap M : Nat) (hpos : ∀ j : Nat, 0 < (oS : Nat → Nat) j) (hlen : len ≤ 128) (a : Nat → Nat) (ns : List Int) (hns : ∀ i, i < len → nth ns i = (a i : Int)) (hnl : ns.length = len) (pB : Nat → List (Nat × Nat)) (pT : Nat → List Nat) (vb vt : Value) (bl : List (Nat × Nat)) (tl : List Nat) (hA : Ay L w P tt n vb vt bl tl) (ho : OwnI w g cap ns) (hg6 : P + 6 ≤ g) (hg : ¬ vt.ownBlock = some g) (hbd9 : ∀ j, j ≤ len → (bl ++ acL a pB j).length + (tl ++ acL a pT j).length ≤ M) (hcn : AnH L n P tt len M a oF oS pB pT) :
    Calls Tryd.prog 30 #[geoV n, .agg #[.int .i64 (tb : Int), .slice (some ⟨g, 0, none⟩) len cap], .func (.func 32) #[] #[], .int .i64 0, .func (.func 27) #[] #[.pointer (some ⟨P + 1 + 1 + 1, 0, none⟩), .pointer (some ⟨P + 1 + 1 + 1 + 1, 0, none⟩), .pointer (some ⟨P, 0, none⟩), .pointer (some ⟨P + 1, 0, none⟩), .pointer (some ⟨P + 1 + 1 + 1 + 1 + 1, 0, none⟩)]] w fun e w' => e = .returned (.int .i64 0) ∧ AyE L w P tt n vb vt (bl ++ acL a pB len) (tl ++ acL a pT len) w' := by
  obtain ⟨fst, hfst⟩ : ∃ fst : Nat → Nat, oF = fst := ⟨_, rfl⟩
  obtain ⟨siz, hsiz⟩ : ∃ siz : Nat → Nat, oS = siz := ⟨_, rfl⟩
  have hbd : ∀ j, j < len → fst j ≤ 100000 ∧ siz j ≤ 100000 := fun j hj => by rw [← hfst, ← hsiz]; unfold oF oS; split <;> (try split) <;> omega
  have HTo : Hid (∀ (wx : World) (j : Nat), j < len → Calls Tryd.prog 32 #[.int .i64 (j : Int)] wx fun e w' => e = .returned (.agg #[.int .i64 (j : Int), .int .i64 (fst j : Int), .int .i64 (siz j : Int)]) ∧ Below wx.heap.size wx w') := fun wx j hj => by
    rw [← hfst, ← hsiz]; exact own_any wx j
  rw [hsiz] at hpos
  rw [hfst, hsiz] at hcn
  have HCn : Hid (AnH L n P tt len M a fst siz pB pT ∧ ∀ j, j ≤ len → (bl ++ acL a pB j).length + (tl ++ acL a pT j).length ≤ M) := ⟨hcn, hbd9⟩
  have HNs : Hid ((∀ i, i < len → nth ns i = (a i : Int)) ∧ ns.length = len ∧ ∀ j, 0 < siz j) := ⟨hns, hnl, hpos⟩
  obtain ⟨wa, hwa⟩ : ∃ wa, (w.alloc (.cells #[.int .i64 (n : Int), .int .i64 98, .int .i64 (gI n), .int .i64 (gD n), .int .i64 (gC n)] 29)).alloc (.cells #[.int .i64 (tb : Int), .slice (some ⟨g, 0, none⟩) len cap] 69) = wa := ⟨_, rfl⟩
  have HA : Hid (wa.heap[w.heap.size + 1]? = some (.cells #[.int .i64 (tb : Int), .slice (some ⟨g, 0, none⟩) len cap] 69 (0, 0)) ∧ EaA L w wa P tt n w.heap.size g cap ns vb vt vb vt (bl ++ acL a pB 0) (tl ++ acL a pT 0)) := by
    have hb : Below w.heap.size w wa := by rw [← hwa]; exact (below_new _).alloc (by simp) _
    have hge : GeoAt wa w.heap.size n := by rw [← hwa]; exact (Below.heap_alloc _ _ _ (by simp)).trans (heap_alloc_new _ _)
    have hr : wa.heap[w.heap.size + 1]? = some (.cells #[.int .i64 (tb : Int), .slice (some ⟨g, 0, none⟩) len cap] 69 (0, 0)) := by
      have := heap_alloc_new (w.alloc (.cells #[.int .i64 (n : Int), .int .i64 98, .int .i64 (gI n), .int .i64 (gD n), .int .i64 (gC n)] 29)) (.cells #[.int .i64 (tb : Int), .slice (some ⟨g, 0, none⟩) len cap] 69)
      rw [World.size_alloc] at this
      rw [← hwa]; exact this
    have hP := heap_lt hA.l
    refine ⟨hr, ?_, AyM.on hb, hge, ho.on hb, ⟨by omega, hg6, ho.lt, hg⟩⟩
    show Ay L wa P tt n vb vt (bl ++ []) (tl ++ [])
    rw [List.append_nil, List.append_nil]
    exact hA.on hb
  have b1 : wa.cell? ⟨w.heap.size + 1, 1, none⟩ = some (.slice (some ⟨g, 0, none⟩) len cap) := by rw [cell_of_row _ _ _ _ _ _ HA.out.1]; rfl
  clear hA ho hg6 hg hcn hfst hsiz hbd9 hns hnl hpos
  unfold geoV
  go_enter Tryd.func30, Tryd.ntmps30
  go_wp2
  go_loopw [18] (fun s18 wr => ∃ (j : Nat) (vb' vt' : Value), j ≤ len ∧ s18 = .int .i64 (j : Int) ∧ EaA L w wr P tt n w.heap.size g cap ns vb vt vb' vt' (bl ++ acL a pB j) (tl ++ acL a pT j)) (fun s18 _ => len - (intOf s18).toNat)
  case atStart => exact ⟨0, vb, vt, by omega, rfl, HA.out.2⟩
  case round =>
    clear b1
    obtain ⟨j, vb1, vt1, hj, rfl, hI⟩ := hrel
    have HI : Hid (EaA L w wr P tt n w.heap.size g cap ns vb vt vb1 vt1 (bl ++ acL a pB j) (tl ++ acL a pT j)) := hI
    by_cases hlt : j < len
    · have hlt' : (j : Int) < (len : Int) := by omega
      obtain ⟨N, hN⟩ : ∃ N, a j = N := ⟨_, rfl⟩
      have hc : wr.cell? ⟨g, j, none⟩ = some (.int .i64 (N : Int)) := by
        have := hI.row.cell j (by rw [HNs.out.2.1]; exact hlt)
        rw [HNs.out.1 j hlt, hN] at this
        exact this
      obtain ⟨f, hf⟩ : ∃ f, fst j = f := ⟨_, rfl⟩
      obtain ⟨s, hs⟩ : ∃ s, siz j = s := ⟨_, rfl⟩
      obtain ⟨Q, hQ⟩ : ∃ Q, f + s = Q := ⟨_, rfl⟩
      have hb2 := hbd j hlt
      have eQ : (f : Int) + (s : Int) = (Q : Int) := by omega
      have eQ2 : IntKind.i64.wrap (Q : Int) = (Q : Int) := by rw [IntKind.wrap_i64]; omega
      have hQ0 : ¬ (Q : Int) ≤ 0 := by have := HNs.out.2.2 j; omega
      have HT1 := HTo.out wr j hlt
      rw [hf, hs] at HT1
      have HTc : Hid (Calls Tryd.prog 32 #[.int .i64 (j : Int)] wr fun e w' => e = .returned (.agg #[.int .i64 (j : Int), .int .i64 (f : Int), .int .i64 (s : Int)]) ∧ Below wr.heap.size wr w') := HT1
      have HLt : Hid (j < len ∧ a j = N ∧ fst j = f ∧ siz j = s) := ⟨hlt, hN, hf, hs⟩
      clear HT1 hI hN hf hs hQ hb2
      go_upto_region 5 with (go_at_call 32; refine HTc.out.mono ?_; rintro e w1 ⟨rfl, hb⟩; have H1 : Hid (Below wr.heap.size wr w1) := hb; clear hb HTc)
      obtain ⟨wb, hwb⟩ : ∃ wb, w1.alloc (.cells #[.int .i64 (j : Int), .int .i64 (f : Int), .int .i64 (s : Int)] 80) = wb := ⟨_, rfl⟩
      have HB : Hid (Below wr.heap.size wr wb ∧ StAt wb w1.heap.size j f s) := by rw [← hwb]; exact ⟨H1.out.alloc H1.out.size _, heap_alloc_new _ _⟩
      rw [hwb]
      clear hwb hc
      obtain ⟨y0, y1, y2⟩ := HB.out.2.cells
      have hIb := HI.out.on HB.out.1
      have HIb : Hid (EaA L w wb P tt n w.heap.size g cap ns vb vt vb1 vt1 (bl ++ acL a pB j) (tl ++ acL a pT j)) := hIb
      obtain ⟨Z0, Z1, Z2, Z3, Z4⟩ := hIb.geo.cells
      clear hIb
      by_cases hN0 : N = 0
      · subst hN0
        have HNx : Hid (EaA L w wb P tt n w.heap.size g cap ns vb vt vb1 vt1 (bl ++ acL a pB (j + 1)) (tl ++ acL a pT (j + 1))) := by
          rw [acL_skip HLt.out.2.1, acL_skip HLt.out.2.1]; exact HIb.out
        go_wp2
        go_roundw
        case rel => exact ⟨j + 1, vb1, vt1, by have := HLt.out.1; omega, by go_num, HNx.out⟩
        case measure => simp [intOf]; omega
      · have hN1 : ((N : Int) == 0) = false := by simp; omega
        have HN0 : Hid (N ≠ 0) := hN0
        have hcn := HCn.out.1 j HLt.out.1 (by rw [HLt.out.2.1]; exact hN0)
        have HIs : Hid (∀ wx, Calls Tryd.prog 49 #[.agg #[.int .i64 (n : Int), .int .i64 98, .int .i64 (gI n), .int .i64 (gD n), .int .i64 (gC n)], .int .i64 (N : Int)] wx fun e w' => e = .returned (.bool true) ∧ Below wx.heap.size wx w') := fun wx => by
          have h8 := hcn.1
          rw [HLt.out.2.1] at h8
          have := misData_any wx n (N : Int)
          rw [decide_eq_true ⟨by omega, by omega⟩] at this
          exact this
        have HDo : Hid (∀ wx, Below wb.heap.size wb wx → Calls Tryd.prog 27 #[.agg #[.int .i64 (j : Int), .int .i64 (f : Int), .int .i64 (s : Int)], .int .i64 (N : Int), .pointer (some ⟨P + 1 + 1 + 1, 0, none⟩), .pointer (some ⟨P + 1 + 1 + 1 + 1, 0, none⟩), .pointer (some ⟨P, 0, none⟩), .pointer (some ⟨P + 1, 0, none⟩), .pointer (some ⟨P + 1 + 1 + 1 + 1 + 1, 0, none⟩)] wx fun e w' => e = .returned (.int .i64 0) ∧ AyE L wx P tt n vb1 vt1 (bl ++ acL a pB (j + 1)) (tl ++ acL a pT (j + 1)) w') := fun wx hb => by
          have := hcn.2 wx vb1 vt1 (bl ++ acL a pB j) (tl ++ acL a pT j) (HCn.out.2 j (by have := HLt.out.1; omega)) (HIb.out.on hb).ay
          rw [HLt.out.2.1, HLt.out.2.2.1, HLt.out.2.2.2, List.append_assoc, List.append_assoc, ← acL_next (by rw [HLt.out.2.1]; exact HN0.out), ← acL_next (by rw [HLt.out.2.1]; exact HN0.out)] at this
          exact this
        clear hcn hN0
        go_upto_region 8 with (go_at_call 49; refine (HIs.out _).mono ?_; rintro e w2 ⟨rfl, hb⟩; have H2 : Hid (Below wb.heap.size wb w2) := hb; clear hb HIs)
        clear y0 y1 y2 Z0 Z1 Z2 Z3 Z4
        obtain ⟨y0, y1, y2⟩ := (HB.out.2.on H2.out).cells
        go_wp2_with (go_at_call 27; refine (HDo.out _ H2.out).mono ?_; rintro e w3 ⟨rfl, vb2, vt2, hcr, hcm⟩; have H3 : Hid (EaA L w w3 P tt n w.heap.size g cap ns vb vt vb2 vt2 (bl ++ acL a pB (j + 1)) (tl ++ acL a pT (j + 1))) := (HIb.out.on H2.out).next hcr hcm; clear hcr hcm HDo)
        go_roundw
        case rel => exact ⟨j + 1, vb2, vt2, by have := HLt.out.1; omega, by go_num, H3.out⟩
        case measure => simp [intOf]; omega
    · have hj2 : j = len := by omega
      subst hj2
      have hlt' : ¬ (j : Int) < (j : Int) := by omega
      clear hI
      go_wp2
      go_ret
      exact ⟨rfl, vb1, vt1, HI.out.ay, HI.out.am⟩
set_option maxRecDepth 100000 in
set_option maxHeartbeats 8000000 in
theorem eacha_below (L w : World) (n P tt tb g len cap M : Nat) (a0 f0 s0 : Nat) (hs0 : s0 ≤ 16384) (hf0 : f0 ≤ 20000) (hpos : ∀ j : Nat, 0 < ((fun _ => s0 / 128) : Nat → Nat) j) (hlen : len ≤ 128) (a : Nat → Nat) (ns : List Int) (hns : ∀ i, i < len → nth ns i = (a i : Int)) (hnl : ns.length = len) (pB : Nat → List (Nat × Nat)) (pT : Nat → List Nat) (vb vt : Value) (bl : List (Nat × Nat)) (tl : List Nat) (hA : Ay L w P tt n vb vt bl tl) (ho : OwnI w g cap ns) (hg6 : P + 6 ≤ g) (hg : ¬ vt.ownBlock = some g) (hbd9 : ∀ j, j ≤ len → (bl ++ acL a pB j).length + (tl ++ acL a pT j).length ≤ M) (hcn : AnH L n P tt len M a (fun i => f0 + i * (s0 / 128)) (fun _ => s0 / 128) pB pT) :
    Calls Tryd.prog 30 #[geoV n, .agg #[.int .i64 (tb : Int), .slice (some ⟨g, 0, none⟩) len cap], .func (.func 31) #[stV a0 f0 s0] #[], .int .i64 0, .func (.func 27) #[] #[.pointer (some ⟨P + 1 + 1 + 1, 0, none⟩), .pointer (some ⟨P + 1 + 1 + 1 + 1, 0, none⟩), .pointer (some ⟨P, 0, none⟩), .pointer (some ⟨P + 1, 0, none⟩), .pointer (some ⟨P + 1 + 1 + 1 + 1 + 1, 0, none⟩)]] w fun e w' => e = .returned (.int .i64 0) ∧ AyE L w P tt n vb vt (bl ++ acL a pB len) (tl ++ acL a pT len) w' := by
  obtain ⟨fst, hfst⟩ : ∃ fst : Nat → Nat, (fun i => f0 + i * (s0 / 128)) = fst := ⟨_, rfl⟩
  obtain ⟨siz, hsiz⟩ : ∃ siz : Nat → Nat, (fun _ => s0 / 128) = siz := ⟨_, rfl⟩
  have hbd : ∀ j, j < len → fst j ≤ 100000 ∧ siz j ≤ 100000 := fun j hj => by rw [← hfst, ← hsiz]; (have h1 : s0 / 128 ≤ 128 := by omega); (have h2 : j * (s0 / 128) ≤ 128 * 128 := Nat.mul_le_mul (by omega) h1); exact ⟨by show f0 + j * (s0 / 128) ≤ 100000; omega, by show s0 / 128 ≤ 100000; omega⟩
  have HTo : Hid (∀ (wx : World) (j : Nat), j < len → Calls Tryd.prog 31 #[stV a0 f0 s0, .int .i64 (j : Int)] wx fun e w' => e = .returned (.agg #[.int .i64 (j : Int), .int .i64 (fst j : Int), .int .i64 (siz j : Int)]) ∧ Below wx.heap.size wx w') := fun wx j hj => by
    rw [← hfst, ← hsiz]; exact below_any wx a0 f0 s0 j hs0 (by omega) (by omega)
  rw [hsiz] at hpos
  rw [hfst, hsiz] at hcn
  have HCn : Hid (AnH L n P tt len M a fst siz pB pT ∧ ∀ j, j ≤ len → (bl ++ acL a pB j).length + (tl ++ acL a pT j).length ≤ M) := ⟨hcn, hbd9⟩
  have HNs : Hid ((∀ i, i < len → nth ns i = (a i : Int)) ∧ ns.length = len ∧ ∀ j, 0 < siz j) := ⟨hns, hnl, hpos⟩
  obtain ⟨wa, hwa⟩ : ∃ wa, (w.alloc (.cells #[.int .i64 (n : Int), .int .i64 98, .int .i64 (gI n), .int .i64 (gD n), .int .i64 (gC n)] 29)).alloc (.cells #[.int .i64 (tb : Int), .slice (some ⟨g, 0, none⟩) len cap] 69) = wa := ⟨_, rfl⟩
  have HA : Hid (wa.heap[w.heap.size + 1]? = some (.cells #[.int .i64 (tb : Int), .slice (some ⟨g, 0, none⟩) len cap] 69 (0, 0)) ∧ EaA L w wa P tt n w.heap.size g cap ns vb vt vb vt (bl ++ acL a pB 0) (tl ++ acL a pT 0)) := by
    have hb : Below w.heap.size w wa := by rw [← hwa]; exact (below_new _).alloc (by simp) _
    have hge : GeoAt wa w.heap.size n := by rw [← hwa]; exact (Below.heap_alloc _ _ _ (by simp)).trans (heap_alloc_new _ _)
    have hr : wa.heap[w.heap.size + 1]? = some (.cells #[.int .i64 (tb : Int), .slice (some ⟨g, 0, none⟩) len cap] 69 (0, 0)) := by
      have := heap_alloc_new (w.alloc (.cells #[.int .i64 (n : Int), .int .i64 98, .int .i64 (gI n), .int .i64 (gD n), .int .i64 (gC n)] 29)) (.cells #[.int .i64 (tb : Int), .slice (some ⟨g, 0, none⟩) len cap] 69)
      rw [World.size_alloc] at this
      rw [← hwa]; exact this
    have hP := heap_lt hA.l
    refine ⟨hr, ?_, AyM.on hb, hge, ho.on hb, ⟨by omega, hg6, ho.lt, hg⟩⟩
    show Ay L wa P tt n vb vt (bl ++ []) (tl ++ [])
    rw [List.append_nil, List.append_nil]
    exact hA.on hb
  have b1 : wa.cell? ⟨w.heap.size + 1, 1, none⟩ = some (.slice (some ⟨g, 0, none⟩) len cap) := by rw [cell_of_row _ _ _ _ _ _ HA.out.1]; rfl
  clear hA ho hg6 hg hcn hfst hsiz hbd9 hns hnl hpos
  unfold geoV
  go_enter Tryd.func30, Tryd.ntmps30
  go_wp2
  go_loopw [18] (fun s18 wr => ∃ (j : Nat) (vb' vt' : Value), j ≤ len ∧ s18 = .int .i64 (j : Int) ∧ EaA L w wr P tt n w.heap.size g cap ns vb vt vb' vt' (bl ++ acL a pB j) (tl ++ acL a pT j)) (fun s18 _ => len - (intOf s18).toNat)
  case atStart => exact ⟨0, vb, vt, by omega, rfl, HA.out.2⟩
  case round =>
    clear b1
    obtain ⟨j, vb1, vt1, hj, rfl, hI⟩ := hrel
    have HI : Hid (EaA L w wr P tt n w.heap.size g cap ns vb vt vb1 vt1 (bl ++ acL a pB j) (tl ++ acL a pT j)) := hI
    by_cases hlt : j < len
    · have hlt' : (j : Int) < (len : Int) := by omega
      obtain ⟨N, hN⟩ : ∃ N, a j = N := ⟨_, rfl⟩
      have hc : wr.cell? ⟨g, j, none⟩ = some (.int .i64 (N : Int)) := by
        have := hI.row.cell j (by rw [HNs.out.2.1]; exact hlt)
        rw [HNs.out.1 j hlt, hN] at this
        exact this
      obtain ⟨f, hf⟩ : ∃ f, fst j = f := ⟨_, rfl⟩
      obtain ⟨s, hs⟩ : ∃ s, siz j = s := ⟨_, rfl⟩
      obtain ⟨Q, hQ⟩ : ∃ Q, f + s = Q := ⟨_, rfl⟩
      have hb2 := hbd j hlt
      have eQ : (f : Int) + (s : Int) = (Q : Int) := by omega
      have eQ2 : IntKind.i64.wrap (Q : Int) = (Q : Int) := by rw [IntKind.wrap_i64]; omega
      have hQ0 : ¬ (Q : Int) ≤ 0 := by have := HNs.out.2.2 j; omega
      have HT1 := HTo.out wr j hlt
      rw [hf, hs] at HT1
      have HTc : Hid (Calls Tryd.prog 31 #[stV a0 f0 s0, .int .i64 (j : Int)] wr fun e w' => e = .returned (.agg #[.int .i64 (j : Int), .int .i64 (f : Int), .int .i64 (s : Int)]) ∧ Below wr.heap.size wr w') := HT1
      have HLt : Hid (j < len ∧ a j = N ∧ fst j = f ∧ siz j = s) := ⟨hlt, hN, hf, hs⟩
      clear HT1 hI hN hf hs hQ hb2
      go_upto_region 5 with (go_at_call 31; refine HTc.out.mono ?_; rintro e w1 ⟨rfl, hb⟩; have H1 : Hid (Below wr.heap.size wr w1) := hb; clear hb HTc)
      obtain ⟨wb, hwb⟩ : ∃ wb, w1.alloc (.cells #[.int .i64 (j : Int), .int .i64 (f : Int), .int .i64 (s : Int)] 80) = wb := ⟨_, rfl⟩
      have HB : Hid (Below wr.heap.size wr wb ∧ StAt wb w1.heap.size j f s) := by rw [← hwb]; exact ⟨H1.out.alloc H1.out.size _, heap_alloc_new _ _⟩
      rw [hwb]
      clear hwb hc
      obtain ⟨y0, y1, y2⟩ := HB.out.2.cells
      have hIb := HI.out.on HB.out.1
      have HIb : Hid (EaA L w wb P tt n w.heap.size g cap ns vb vt vb1 vt1 (bl ++ acL a pB j) (tl ++ acL a pT j)) := hIb
      obtain ⟨Z0, Z1, Z2, Z3, Z4⟩ := hIb.geo.cells
      clear hIb
      by_cases hN0 : N = 0
      · subst hN0
        have HNx : Hid (EaA L w wb P tt n w.heap.size g cap ns vb vt vb1 vt1 (bl ++ acL a pB (j + 1)) (tl ++ acL a pT (j + 1))) := by
          rw [acL_skip HLt.out.2.1, acL_skip HLt.out.2.1]; exact HIb.out
        go_wp2
        go_roundw
        case rel => exact ⟨j + 1, vb1, vt1, by have := HLt.out.1; omega, by go_num, HNx.out⟩
        case measure => simp [intOf]; omega
      · have hN1 : ((N : Int) == 0) = false := by simp; omega
        have HN0 : Hid (N ≠ 0) := hN0
        have hcn := HCn.out.1 j HLt.out.1 (by rw [HLt.out.2.1]; exact hN0)
        have HIs : Hid (∀ wx, Calls Tryd.prog 49 #[.agg #[.int .i64 (n : Int), .int .i64 98, .int .i64 (gI n), .int .i64 (gD n), .int .i64 (gC n)], .int .i64 (N : Int)] wx fun e w' => e = .returned (.bool true) ∧ Below wx.heap.size wx w') := fun wx => by
          have h8 := hcn.1
          rw [HLt.out.2.1] at h8
          have := misData_any wx n (N : Int)
          rw [decide_eq_true ⟨by omega, by omega⟩] at this
          exact this
        have HDo : Hid (∀ wx, Below wb.heap.size wb wx → Calls Tryd.prog 27 #[.agg #[.int .i64 (j : Int), .int .i64 (f : Int), .int .i64 (s : Int)], .int .i64 (N : Int), .pointer (some ⟨P + 1 + 1 + 1, 0, none⟩), .pointer (some ⟨P + 1 + 1 + 1 + 1, 0, none⟩), .pointer (some ⟨P, 0, none⟩), .pointer (some ⟨P + 1, 0, none⟩), .pointer (some ⟨P + 1 + 1 + 1 + 1 + 1, 0, none⟩)] wx fun e w' => e = .returned (.int .i64 0) ∧ AyE L wx P tt n vb1 vt1 (bl ++ acL a pB (j + 1)) (tl ++ acL a pT (j + 1)) w') := fun wx hb => by
          have := hcn.2 wx vb1 vt1 (bl ++ acL a pB j) (tl ++ acL a pT j) (HCn.out.2 j (by have := HLt.out.1; omega)) (HIb.out.on hb).ay
          rw [HLt.out.2.1, HLt.out.2.2.1, HLt.out.2.2.2, List.append_assoc, List.append_assoc, ← acL_next (by rw [HLt.out.2.1]; exact HN0.out), ← acL_next (by rw [HLt.out.2.1]; exact HN0.out)] at this
          exact this
        clear hcn hN0
        go_upto_region 8 with (go_at_call 49; refine (HIs.out _).mono ?_; rintro e w2 ⟨rfl, hb⟩; have H2 : Hid (Below wb.heap.size wb w2) := hb; clear hb HIs)
        clear y0 y1 y2 Z0 Z1 Z2 Z3 Z4
        obtain ⟨y0, y1, y2⟩ := (HB.out.2.on H2.out).cells
        go_wp2_with (go_at_call 27; refine (HDo.out _ H2.out).mono ?_; rintro e w3 ⟨rfl, vb2, vt2, hcr, hcm⟩; have H3 : Hid (EaA L w w3 P tt n w.heap.size g cap ns vb vt vb2 vt2 (bl ++ acL a pB (j + 1)) (tl ++ acL a pT (j + 1))) := (HIb.out.on H2.out).next hcr hcm; clear hcr hcm HDo)
        go_roundw
        case rel => exact ⟨j + 1, vb2, vt2, by have := HLt.out.1; omega, by go_num, H3.out⟩
        case measure => simp [intOf]; omega
    · have hj2 : j = len := by omega
      subst hj2
      have hlt' : ¬ (j : Int) < (j : Int) := by omega
      clear hI
      go_wp2
      go_ret
      exact ⟨rfl, vb1, vt1, HI.out.ay, HI.out.am⟩
end Go.Proofs.YtgmccpimpbnnpaaDoor

namespace Go.Proofs.YtgmccpimpbnnpaaDoor
open Go.RowKit Go.Maps Rec
set_option maxRecDepth 100000 in
set_option maxHeartbeats 8000000 in
theorem al_tab (w0 L : World) (D : Dk) (T : Tx) (n : Nat) (hS : Spc w0 L D T n) (hT : TabAt w0) (P tt a0 f0 s0 N : Nat) (htt : T.t = tt) (hs0 : 128 ≤ s0) (hs1 : s0 ≤ 16384) (hf0 : f0 ≤ 20000) (h1 : N < n) (a : Nat → Nat) (hrow : ∀ i, i < 128 → nm (tv D T N) i = (a i : Int)) (pB : Nat → List (Nat × Nat)) (pT : Nat → List Nat) (M : Nat) (hM : M ≤ 80000) (hcn : AnH L n P tt 128 M a (fun i => f0 + i * (s0 / 128)) (fun _ => s0 / 128) pB pT)
    (wx : World) (vb vt : Value) (bl : List (Nat × Nat)) (tl : List Nat) (hbd : ∀ j, j ≤ 128 → (bl ++ acL a pB j).length + ((tl ++ [N]) ++ acL a pT j).length ≤ M) (h : Ay L wx P tt n vb vt bl tl) :
    Calls Tryd.prog 27 #[stV a0 f0 s0, .int .i64 (N : Int), .pointer (some ⟨P + 1 + 1 + 1, 0, none⟩), .pointer (some ⟨P + 1 + 1 + 1 + 1, 0, none⟩), .pointer (some ⟨P, 0, none⟩), .pointer (some ⟨P + 1, 0, none⟩), .pointer (some ⟨P + 1 + 1 + 1 + 1 + 1, 0, none⟩)] wx fun e w' => e = .returned (.int .i64 0) ∧ AyE L wx P tt n vb vt (bl ++ acL a pB 128) ((tl ++ [N]) ++ acL a pT 128) w' := by
  have HT : Hid (∀ wy, Calls Tryd.prog 28 #[.agg #[.int .i64 (a0 : Int), .int .i64 (f0 : Int), .int .i64 (s0 : Int)]] wy fun e w' => e = .returned (.bool true) ∧ Below wy.heap.size wy w') := fun wy => by
    have := isTable_any wy a0 f0 s0
    rw [decide_eq_true (show 1 < s0 by omega)] at this
    exact this
  have HRt : Hid (∀ wy, Below L.heap.size L wy → Calls Tryd.prog 29 #[.pointer (some ⟨tt, 0, none⟩), .int .i64 (N : Int)] wy fun e w' => ∃ g, e = .returned (.tuple #[.agg #[.int .i64 (N : Int), .slice (some ⟨g, 0, none⟩) 128 128], .int .i64 0]) ∧ wy.heap.size ≤ g ∧ OwnI w' g 128 (nms (tv D T N)) ∧ Below wy.heap.size wy w') := fun wy hb => by
    rw [← htt]; exact rtable_any w0 wy D T n (hS.on hb) (hT.on (hS.on hb).ses.bel) N h1
  have HEa : Hid (∀ wy g vb' vt' tl', tl' = tl ++ [N] → Ay L wy P tt n vb' vt' bl tl' → OwnI wy g 128 (nms (tv D T N)) → P + 6 ≤ g → ¬ vt'.ownBlock = some g → Calls Tryd.prog 30 #[geoV n, .agg #[.int .i64 (N : Int), .slice (some ⟨g, 0, none⟩) 128 128], .func (.func 31) #[stV a0 f0 s0] #[], .int .i64 0, .func (.func 27) #[] #[.pointer (some ⟨P + 1 + 1 + 1, 0, none⟩), .pointer (some ⟨P + 1 + 1 + 1 + 1, 0, none⟩), .pointer (some ⟨P, 0, none⟩), .pointer (some ⟨P + 1, 0, none⟩), .pointer (some ⟨P + 1 + 1 + 1 + 1 + 1, 0, none⟩)]] wy fun e w' => e = .returned (.int .i64 0) ∧ AyE L wy P tt n vb' vt' (bl ++ acL a pB 128) ((tl ++ [N]) ++ acL a pT 128) w') := fun wy g vb' vt' tl' e hA ho hg6 hg => by
    subst e
    exact eacha_below L wy n P tt N g 128 128 M a0 f0 s0 hs1 hf0 (fun _ => by show 0 < s0 / 128; omega) (by omega) a (nms (tv D T N)) (fun i hi => by rw [nth_nms _ _ hi, hrow i hi]) (nms_length _) pB pT vb' vt' bl (tl ++ [N]) hA ho hg6 hg hbd hcn
  have hl40 : tl.length ≤ 80000 := by have := hbd 0 (by omega); simp [acL] at this; omega
  obtain ⟨wa, hwa⟩ : ∃ wa, wx.alloc (.cells #[.int .i64 (a0 : Int), .int .i64 (f0 : Int), .int .i64 (s0 : Int)] 80) = wa := ⟨_, rfl⟩
  have HA : Hid (Below wx.heap.size wx wa ∧ StAt wa wx.heap.size a0 f0 s0) := by rw [← hwa]; exact ⟨below_new _, heap_alloc_new _ _⟩
  obtain ⟨y0, y1, y2⟩ := HA.out.2.cells
  have HY : Hid (Ay L wx P tt n vb vt bl tl) := h
  obtain ⟨ba, bc, hvb, hbk⟩ := owns_slice h.rt
  subst hvb
  unfold geoV at HEa
  unfold stV at HEa ⊢
  clear h hS hT htt hs0 hs1 hf0 h1 hrow hcn hbd hbk hM
  go_enter Tryd.func27, Tryd.ntmps27
  go_upto_region 4 with (go_at_call 28; refine (HT.out _).mono ?_; rintro e w1 ⟨rfl, hb⟩; have H1 : Hid (Below wx.heap.size wx w1) := HA.out.1.trans (hb.mono HA.out.1.size); have HS1 : Hid (StAt w1 wx.heap.size a0 f0 s0) := HA.out.2.on hb; clear hb HT)
  clear y0 y1 y2
  have h1 := HY.out.on H1.out
  have HY1 : Hid (Ay L w1 P tt n vb (.slice ba tl.length bc) bl tl) := h1
  have b0 : w1.cell? ⟨P + 1 + 1 + 1 + 1, 0, none⟩ = some (.slice ba tl.length bc) := by rw [cell_of_row _ _ _ _ _ _ h1.c]; rfl
  clear h1
  go_upto_region 5 with (at_builtin; refine wp_intA rfl (.tmp 22) (.tmp 24) rfl (.slice ba tl.length bc) tl.length (natV tl) rfl rfl (N : Int) HY1.out.rt (by omega) ?_; intro b cap w2 g1 g2 g3; have H2 : Hid (w2.ownsRow 0 3 1 (.slice (some ⟨b, 0, none⟩) (tl.length + 1) cap) (tl.length + 1) (natV tl ++ [.int .i64 (N : Int)]) ∧ Fr (fun k => (Value.slice ba tl.length bc).ownBlock = some k) w1 w2 ∧ ((Value.slice ba tl.length bc).ownBlock = some b ∨ w1.heap.size ≤ b)) := ⟨g1, g2, g3⟩; have hbb := g2.heap HY1.out.c (fun e => by have h9 := HY1.out.ft _ e; omega); have v0 : w2.cell? ⟨P + 1 + 1 + 1 + 1, 0, none⟩ = some (.slice ba tl.length bc) := (by rw [cell_of_row _ _ _ _ _ _ hbb]; rfl); have v1 : w2.frozen? ⟨P + 1 + 1 + 1 + 1, 0, none⟩ = false := frozen_of_row _ _ _ _ _ hbb; clear g1 g2 g3 hbb)
  have hp := HY1.out.pushT H2.out.1 H2.out.2.1 H2.out.2.2
  obtain ⟨w3, hw3⟩ : ∃ w3, w2.setCell ⟨P + 1 + 1 + 1 + 1, 0, none⟩ (.slice (some ⟨b, 0, none⟩) (tl.length + 1) cap) = w3 := ⟨_, rfl⟩
  rw [hw3] at hp ⊢
  have H3 : Hid (Ay L w3 P tt n vb (.slice (some ⟨b, 0, none⟩) (tl.length + 1) cap) bl (tl ++ [N]) ∧ AyM w1 w3 P vb (.slice ba tl.length bc) vb (.slice (some ⟨b, 0, none⟩) (tl.length + 1) cap) ∧ StAt w3 wx.heap.size a0 f0 s0) := by
    refine ⟨hp.1, hp.2, hp.2.fr.heap HS1.out (fun e => ?_)⟩
    have hPl := heap_lt HY.out.l
    rcases e with e | e | e | e
    · omega
    · omega
    · exact own_apartR HY1.out.rb HS1.out (by decide) e
    · exact own_apartR HY1.out.rt HS1.out (by decide) e
  clear hp hw3 b0 v0 v1
  have t0 : w3.cell? ⟨P, 0, none⟩ = some (.pointer (some ⟨tt, 0, none⟩)) := by rw [cell_of_row _ _ _ _ _ _ H3.out.1.t]; rfl
  go_upto_region 6 with (go_at_call 29; refine (HRt.out _ H3.out.1.bel).mono ?_; rintro e w4 ⟨g, rfl, e1, e2, e3⟩; have H4 : Hid (w3.heap.size ≤ g ∧ OwnI w4 g 128 (nms (tv D T N)) ∧ Below w3.heap.size w3 w4) := ⟨e1, e2, e3⟩; clear e1 e2 e3 HRt)
  clear t0
  obtain ⟨R, hR⟩ : ∃ R, w4.heap.size = R := ⟨_, rfl⟩
  obtain ⟨w5, hw5⟩ : ∃ w5, w4.alloc (.cells #[.int .i64 (N : Int), .slice (some ⟨g, 0, none⟩) 128 128] 69) = w5 := ⟨_, rfl⟩
  have H5 : Hid (Below w3.heap.size w3 w5 ∧ OwnI w5 g 128 (nms (tv D T N)) ∧ w5.heap[R]? = some (.cells #[.int .i64 (N : Int), .slice (some ⟨g, 0, none⟩) 128 128] 69 (0, 0)) ∧ P + 6 ≤ g ∧ ¬ (Value.slice (some ⟨b, 0, none⟩) (tl.length + 1) cap).ownBlock = some g) := by
    have hb : Below w4.heap.size w4 w5 := by rw [← hw5]; exact below_new _
    have hPl := heap_lt H3.out.1.l
    refine ⟨H4.out.2.2.trans (hb.mono H4.out.2.2.size), H4.out.2.1.on hb, by rw [← hw5, ← hR]; exact heap_alloc_new _ _, by have := H4.out.1; omega, fun e => ?_⟩
    have := owns_ltA H3.out.1.rt e
    have := H4.out.1
    omega
  rw [hw5, hR]
  clear hw5 hR
  have hY5 := H3.out.1.on H5.out.1
  have HY5 : Hid (Ay L w5 P tt n vb (.slice (some ⟨b, 0, none⟩) (tl.length + 1) cap) bl (tl ++ [N])) := hY5
  obtain ⟨Z0, Z1, Z2, Z3, Z4⟩ := hY5.g.cells
  obtain ⟨y0, y1, y2⟩ := (H3.out.2.2.on H5.out.1).cells
  have r0 : w5.cell? ⟨R, 0, none⟩ = some (.int .i64 (N : Int)) := by rw [cell_of_row _ _ _ _ _ _ H5.out.2.2.1]; rfl
  have r1 : w5.cell? ⟨R, 1, none⟩ = some (.slice (some ⟨g, 0, none⟩) 128 128) := by rw [cell_of_row _ _ _ _ _ _ H5.out.2.2.1]; rfl
  have l0 : w5.cell? ⟨P + 1 + 1 + 1 + 1 + 1, 0, none⟩ = some (.func (.func 27) #[] #[.pointer (some ⟨P + 1 + 1 + 1, 0, none⟩), .pointer (some ⟨P + 1 + 1 + 1 + 1, 0, none⟩), .pointer (some ⟨P, 0, none⟩), .pointer (some ⟨P + 1, 0, none⟩), .pointer (some ⟨P + 1 + 1 + 1 + 1 + 1, 0, none⟩)]) := by rw [cell_of_row _ _ _ _ _ _ hY5.l]; rfl
  clear hY5
  go_wp2_with (go_at_call 30; refine (HEa.out _ g _ _ _ rfl HY5.out H5.out.2.1 H5.out.2.2.2.1 H5.out.2.2.2.2).mono ?_; rintro e w6 ⟨rfl, vb2, vt2, hcr, hcm⟩; have H6 : Hid (Ay L w6 P tt n vb2 vt2 (bl ++ acL a pB 128) ((tl ++ [N]) ++ acL a pT 128) ∧ AyM w5 w6 P vb (.slice (some ⟨b, 0, none⟩) (tl.length + 1) cap) vb2 vt2) := ⟨hcr, hcm⟩; clear hcr hcm HEa)
  go_ret
  exact ⟨rfl, vb2, vt2, H6.out.1, (((AyM.on H1.out).trans H3.out.2.1).trans (AyM.on H5.out.1)).trans H6.out.2⟩
end Go.Proofs.YtgmccpimpbnnpaaDoor

namespace Go.Proofs.YtgmccpimpbnnpaaDoor
open Go.RowKit Go.Maps Rec
def t1B (ν : Nat → Nat) (p : Nat) : List (Nat × Nat) := acL (fun i => ν (kid p i)) (fun i => [(fiP (kid p i), ν (kid p i))]) 128
def alB (ν : Nat → Nat) (p : Nat) : List (Nat × Nat) := if p = 11 then acL (fun i => ν (kid 11 i)) (fun i => t1B ν (kid 11 i)) 128 else if isT1 p then t1B ν p else [(fiP p, ν p)]
def t1T (ν : Nat → Nat) (p : Nat) : List Nat := [ν p]
def alT (ν : Nat → Nat) (p : Nat) : List Nat := if p = 11 then ν 11 :: acL (fun i => ν (kid 11 i)) (fun i => t1T ν (kid 11 i)) 128 else if isT1 p then t1T ν p else []
def allB (ν : Nat → Nat) : List (Nat × Nat) := acL ν (alB ν) 12
def allT (ν : Nat → Nat) : List Nat := acL ν (alT ν) 12
theorem acL_len {α : Type} {a : Nat → Nat} {p : Nat → List α} {c j : Nat} (h : ∀ i, i < j → (p i).length ≤ c) : (acL a p j).length ≤ j * c := by
  induction j with
  | zero => simp [acL]
  | succ j ih =>
    have h1 := ih (fun i hi => h i (by omega))
    have h2 := h j (by omega)
    rw [acL, List.length_append, Nat.succ_mul]
    split <;> simp <;> omega
theorem acL_nil {α : Type} (a : Nat → Nat) (j : Nat) : acL a (fun _ => ([] : List α)) j = [] := by
  induction j with
  | zero => rfl
  | succ j ih => rw [acL, ih]; split <;> rfl
theorem t1B_len (ν : Nat → Nat) (p : Nat) : (t1B ν p).length ≤ 128 := acL_len (c := 1) (fun _ _ => Nat.le_refl _)
theorem alB_len (ν : Nat → Nat) (p : Nat) : (alB ν p).length ≤ 16384 ∧ (p ≠ 11 → (alB ν p).length ≤ 128) := by
  unfold alB
  split
  · rename_i e
    exact ⟨acL_len (c := 128) (fun i _ => t1B_len ν _), fun e2 => absurd e e2⟩
  · split
    · have := t1B_len ν p; exact ⟨by omega, fun _ => this⟩
    · simp
theorem alT_len (ν : Nat → Nat) (p : Nat) : (alT ν p).length ≤ 129 := by
  unfold alT
  split
  · have : (acL (fun i => ν (kid 11 i)) (fun i => t1T ν (kid 11 i)) 128).length ≤ 128 * 1 := acL_len (fun _ _ => Nat.le_refl _)
    simp; omega
  · split
    · simp [t1T]
    · simp
set_option maxRecDepth 100000 in
theorem al_t1 (w0 L : World) (D : Dk) (T : Tx) (n : Nat) (hS : Spc w0 L D T n) (hT : TabAt w0) (x : Nat → Int) (ν : Nat → Nat) (hw : Wd D T n x ν) (P tt a0 p : Nat) (htt : T.t = tt) (hp : isT1 p) (h0 : ν p ≠ 0) (wx : World) (vb vt : Value) (bl : List (Nat × Nat)) (tl : List Nat) (hl : bl.length + tl.length ≤ 60000) (h : Ay L wx P tt n vb vt bl tl) :
    Calls Tryd.prog 27 #[stV a0 (fiP p) 128, .int .i64 (ν p : Int), .pointer (some ⟨P + 1 + 1 + 1, 0, none⟩), .pointer (some ⟨P + 1 + 1 + 1 + 1, 0, none⟩), .pointer (some ⟨P, 0, none⟩), .pointer (some ⟨P + 1, 0, none⟩), .pointer (some ⟨P + 1 + 1 + 1 + 1 + 1, 0, none⟩)] wx fun e w' => e = .returned (.int .i64 0) ∧ AyE L wx P tt n vb vt (bl ++ t1B ν p) (tl ++ t1T ν p) w' := by
  have hg := hw.own.good p h0
  have hfi := (kid_leaf hp (i := 0) (by omega)).2.2.2.2.2.1
  have := al_tab w0 L D T n hS hT P tt a0 (fiP p) 128 (ν p) htt (by omega) (by omega) (by omega) hg.2.1 (fun i => ν (kid p i)) (fun i hi => ?_) (fun i => [(fiP (kid p i), ν (kid p i))]) (fun _ => []) 80000 (by omega) (fun j hj hz => ⟨?_, fun wy vb' vt' bl' tl' hl' hA => ?_⟩) wx vb vt bl tl (fun j hj => ?_) h
  · rw [acL_nil, List.append_nil] at this
    exact this
  · obtain ⟨k1, k2, k3, k4⟩ := kid_par (.inr hp) hi
    have := hw.tre.tab (kid p i) k1 k2 (by rw [k3]; exact h0)
    rw [k3, k4] at this
    exact this
  · have := hw.own.good (kid p j) hz
    exact ⟨this.1, this.2.1⟩
  · have := al_leaf L n P tt j (fiP (kid p j)) (ν (kid p j)) wy vb' vt' bl' tl' hl' hA
    have e1 : fiP (kid p j) = fiP p + j * (128 / 128) := by rw [(kid_leaf hp hj).2.2.2.1]; omega
    have e3 : bl' ++ (fun i => [(fiP (kid p i), ν (kid p i))]) j = bl' ++ [(fiP (kid p j), ν (kid p j))] := rfl
    have e4 : tl' ++ (fun _ => ([] : List Nat)) j = tl' := List.append_nil _
    show Calls Tryd.prog 27 #[stV j (fiP p + j * (128 / 128)) 1, _, _, _, _, _, _] wy _
    rw [← e1, e4]
    exact this
  · rw [acL_nil, List.append_nil, List.length_append, List.length_append]
    have : (acL (fun i => ν (kid p i)) (fun i => [(fiP (kid p i), ν (kid p i))]) j).length ≤ j * 1 := acL_len (fun _ _ => Nat.le_refl _)
    simp
    omega
set_option maxRecDepth 100000 in
theorem al_own (w0 L : World) (D : Dk) (T : Tx) (n : Nat) (hS : Spc w0 L D T n) (hT : TabAt w0) (x : Nat → Int) (ν : Nat → Nat) (hw : Wd D T n x ν) (P tt : Nat) (htt : T.t = tt) : AnH L n P tt 12 20000 ν oF oS (alB ν) (alT ν) := fun j hj hz => by
  have hg := hw.own.good j hz
  refine ⟨⟨hg.1, hg.2.1⟩, fun wx vb vt bl tl hl h => ?_⟩
  rw [← (own_fi hj).1, ← (own_fi hj).2]
  by_cases e : j < 10
  · have e1 : ¬ j = 11 ∧ ¬ isT1 j := ⟨by omega, fun e => by rcases e with e | e <;> omega⟩
    have e2 : szP j = 1 := by unfold szP; rw [if_neg (by omega), if_neg (by omega), if_neg (by omega)]
    rw [alB, alT, if_neg e1.1, if_neg e1.1, if_neg e1.2, if_neg e1.2, e2, List.append_nil]
    exact al_leaf L n P tt j (fiP j) (ν j) wx vb vt bl tl (by omega) h
  · by_cases e2 : j = 10
    · subst e2
      have e4 : alB ν 10 = t1B ν 10 := by unfold alB; rw [if_neg (by omega), if_pos (.inl rfl)]
      have e5 : alT ν 10 = t1T ν 10 := by unfold alT; rw [if_neg (by omega), if_pos (.inl rfl)]
      have e6 : szP 10 = 128 := by unfold szP; rw [if_pos rfl]
      rw [e4, e5, e6]
      exact al_t1 w0 L D T n hS hT x ν hw P tt 10 10 htt (.inl rfl) hz wx vb vt bl tl (by omega) h
    · have e3 : j = 11 := by omega
      subst e3
      have := al_tab w0 L D T n hS hT P tt 11 138 16384 (ν 11) htt (by omega) (by omega) (by omega) hg.2.1 (fun i => ν (kid 11 i)) (fun i hi => ?_) (fun i => t1B ν (kid 11 i)) (fun i => t1T ν (kid 11 i)) 60000 (by omega) (fun i hi hz2 => ⟨?_, fun wy vb' vt' bl' tl' hl' hA => ?_⟩) wx vb vt bl tl (fun i hi => ?_) h
      · have e4 : alB ν 11 = acL (fun i => ν (kid 11 i)) (fun i => t1B ν (kid 11 i)) 128 := by unfold alB; rw [if_pos rfl]
        have e5 : alT ν 11 = [ν 11] ++ acL (fun i => ν (kid 11 i)) (fun i => t1T ν (kid 11 i)) 128 := by unfold alT; rw [if_pos rfl, List.singleton_append]
        have e6 : szP 11 = 16384 := by unfold szP; rw [if_neg (by omega), if_pos rfl]
        have e7 : fiP 11 = 138 := by unfold fiP; rw [if_neg (by omega), if_pos rfl]
        rw [List.append_assoc] at this
        rw [e4, e5, e6, e7]
        exact this
      · obtain ⟨k1, k2, k3, k4⟩ := kid_par (.inl rfl) hi
        have := hw.tre.tab (kid 11 i) k1 k2 (by rw [k3]; exact hz)
        rw [k3, k4] at this
        exact this
      · have := hw.own.good (kid 11 i) hz2
        exact ⟨this.1, this.2.1⟩
      · have := al_t1 w0 L D T n hS hT x ν hw P tt i (kid 11 i) htt (kid11 i hi).2.1 hz2 wy vb' vt' bl' tl' hl' hA
        rw [(kid11 i hi).2.2.2.2] at this
        exact this
      · rw [List.length_append, List.length_append, List.length_append]
        have h1 : (acL (fun i => ν (kid 11 i)) (fun i => t1B ν (kid 11 i)) i).length ≤ i * 128 := acL_len (fun k _ => t1B_len ν _)
        have h2 : (acL (fun i => ν (kid 11 i)) (fun i => t1T ν (kid 11 i)) i).length ≤ i * 1 := acL_len (fun _ _ => Nat.le_refl _)
        simp
        omega
theorem all_bd (ν : Nat → Nat) (j : Nat) (hj : j ≤ 12) : (acL ν (alB ν) j).length + (acL ν (alT ν) j).length ≤ 20000 := by
  have h2 : (acL ν (alT ν) j).length ≤ j * 129 := acL_len (fun i _ => alT_len ν i)
  have h11 : ∀ j, j ≤ 11 → (acL ν (alB ν) j).length ≤ j * 128 := fun j hj => acL_len (fun i hi => (alB_len ν i).2 (by omega))
  by_cases e : j ≤ 11
  · have := h11 j e; omega
  · have e2 : j = 12 := by omega
    subst e2
    have h3 := h11 11 (by omega)
    have h4 := (alB_len ν 11).1
    rw [acL, List.length_append]
    split <;> simp <;> omega
end Go.Proofs.YtgmccpimpbnnpaaDoor
