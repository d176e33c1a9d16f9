import Derived.Test.YtccocjipgbeaeaaDoorKnown
namespace Go.Proofs.YtccocjipgbeaeaaDoor
open Go.RowKit Rec

theorem numsL_nil_of_err {h : List Int} {n : Int} (he : numsE h n ≠ 0) : numsL h n = [] := by
  unfold numsL
  rw [if_neg]
  rintro ⟨h1, h2, h3⟩
  apply he
  unfold numsE
  rw [if_pos h1, h2, h3]; rfl
theorem numsL_some {h : List Int} {n : Int} (hl : numsL h n ≠ []) : h.length = 512 ∧ zr h 0 512 = false ∧ isH h n = true ∧ numsL h n = nsOf h ∧ 1 ≤ (nsOf h).length ∧ (nsOf h).length ≤ 96 ∧ may (nsOf h) n = true := by
  by_cases hh : h.length = 512 ∧ zr h 0 512 = false ∧ isH h n = true
  · have hf := hh.2.2
    simp only [isH, form, Bool.and_eq_true, decide_eq_true_eq] at hf
    have hlen : (nsOf h).length = cnt h := by simp [nsOf]
    refine ⟨hh.1, hh.2.1, hh.2.2, ?_, by rw [hlen]; exact hf.1.1.2.1, by rw [hlen]; exact hf.1.1.2.2, hf.1.2⟩
    unfold numsL; rw [if_pos hh]
  · unfold numsL at hl; rw [if_neg hh] at hl; exact absurd rfl hl
/-- the numbers rise -/
theorem rises (ns : List Int) (n : Int) (hm : may ns n = true) : ∀ d i, i + d < ns.length → nth ns i ≤ nth ns (i + d)
  | 0, _, _ => Int.le_refl _
  | d + 1, i, h => by
    have a := rises ns n hm d i (by omega)
    have b := (of_decide_eq_true hm) (i + d + 1) h
    simp only [pre] at b
    rw [if_neg (by omega), Nat.add_sub_cancel] at b
    show nth ns i ≤ nth ns (i + d + 1)
    omega
theorem last_big (ns : List Int) (n : Int) (hm : may ns n = true) (h : may ns 16384 = false) : 16384 ≤ nth ns (ns.length - 1) := by
  have h2 := of_decide_eq_false h
  have ⟨i, hi⟩ : ∃ i, ¬ (i < ns.length → pre ns i < nth ns i ∧ nth ns i < 16384) := Classical.not_forall.1 h2
  have ⟨hi1, hi2⟩ : i < ns.length ∧ ¬ (pre ns i < nth ns i ∧ nth ns i < 16384) := by
    constructor
    · exact Classical.byContradiction fun e => hi (fun x => absurd x e)
    · exact fun e => hi (fun _ => e)
  have h3 := (of_decide_eq_true hm) i hi1
  have h4 := rises ns n hm (ns.length - 1 - i) i (by omega)
  rw [show i + (ns.length - 1 - i) = ns.length - 1 by omega] at h4
  omega
/-- what is good is what Make makes -/
theorem once_made {h : List Int} {n : Int} {ds : List (List Int)} (hw : ∀ i, 0 ≤ nth h i ∧ nth h i < 256) (hl : numsL h n ≠ []) (hg : good h n ds = true) (hm : may (nsOf h) 16384 = true) : makeE (nsOf h) ds = 0 ∧ made (nsOf h) ds = h := by
  obtain ⟨h1, h2, h3, h4, h5, h6, h7⟩ := numsL_some hl
  simp only [good, Bool.and_eq_true, decide_eq_true_eq] at hg
  rw [h4] at hg
  have ho := one_form h n h1 hw h3
  refine ⟨by unfold makeE; rw [if_pos ⟨⟨h5, h6⟩, hm⟩, hg.1.2]; rfl, ?_⟩
  unfold made
  have e : sumV (hd (nsOf h) 0) ds = num h 12 4 := by
    rw [hg.2]
    conv => rhs; rw [ho]
    exact (sumV_hd (nsOf h) (num h 12 4) ds).symm
  rw [e]; exact ho.symm

set_option maxRecDepth 100000 in
set_option maxHeartbeats 1600000 in
theorem once_err (w : World) (a da : Option Addr) (k c m dc : Nat) (h : List Int) (ds : List (List Int)) (n : Int) (hn : h.length = k) (hm : ds.length = m) (hO : Bytes w a h) (hc : k ≤ c) (hD : Data w da ds) (hT : TabAt w) (hl : numsL h n = []) :
    Calls Tryd.prog 3 #[.slice a k c, .int .i64 n, .slice da m dc] w fun e w' => e = .returned (.bool true) ∧ Below w.heap.size w w' := by
  have HK : Hid (Calls Tryd.prog 8 #[] w fun e w' => e = .returned (.bool true) ∧ Below w.heap.size w w') := known_any w hT
  have H1 : Hid (∀ wx, Below w.heap.size w wx → Calls Tryd.prog 9 #[.slice a k c, .int .i64 n] wx fun e w' => ∃ a' c', e = .returned (.tuple #[.slice a' 0 c', .int .i64 (numsE h n)]) ∧ Below wx.heap.size wx w') := fun wx hx => by
    refine (nums_any wx a k c h n hn (hO.on hx) hc (hT.on hx)).mono ?_
    rintro e w' ⟨v, rfl, h2, h3⟩
    rcases h2 with ⟨_, rfl⟩ | ⟨g, cap, rfl, _, _⟩
    · exact ⟨_, _, rfl, h3⟩
    · rw [hl]; exact ⟨_, _, rfl, h3⟩
  have H2 : Hid (∀ wx, Below w.heap.size w wx → Calls Tryd.prog 11 #[.slice a k c, .int .i64 n, .slice da m dc] wx fun e w' => e = .returned (.bool false) ∧ Below wx.heap.size wx w') := fun wx hx => by
    have := good_any wx a da k c m dc h ds n hn hm (hO.on hx) hc (hD.on hx) (hT.on hx)
    have e : good h n ds = false := by unfold good; rw [hl]; rfl
    rw [e] at this
    exact this
  clear hn hm hO hD hT hl
  generalize numsE h n = E at H1
  by_cases hE : E = 0
  · subst hE
    go_enter Tryd.func3, Tryd.ntmps3
    go_wp2_with (first
      | (go_at_call 8; refine HK.out.mono ?_; rintro e w1 ⟨rfl, hb⟩; have B1 : Hid (Below w.heap.size w w1) := hb; clear hb)
      | (go_at_call 9; refine (H1.out _ B1.out).mono ?_; rintro e w2 ⟨a', c', rfl, hb⟩; have B2 : Hid (Below w.heap.size w w2) := B1.out.trans (hb.mono B1.out.size); clear hb)
      | (go_at_call 10; refine (num_any _ _).mono ?_; rintro e w' ⟨rfl, rfl⟩)
      | (go_at_call 11; refine (H2.out _ B2.out).mono ?_; rintro e w3 ⟨rfl, hb⟩; have B3 : Hid (Below w.heap.size w w3) := B2.out.trans (hb.mono B2.out.size); clear hb))
    go_ret
    exact ⟨rfl, B3.out⟩
  · go_enter Tryd.func3, Tryd.ntmps3
    go_wp2_with (first
      | (go_at_call 8; refine HK.out.mono ?_; rintro e w1 ⟨rfl, hb⟩; have B1 : Hid (Below w.heap.size w w1) := hb; clear hb)
      | (go_at_call 9; refine (H1.out _ B1.out).mono ?_; rintro e w2 ⟨a', c', rfl, hb⟩; have B2 : Hid (Below w.heap.size w w2) := B1.out.trans (hb.mono B1.out.size); clear hb)
      | (go_at_call 10; refine (num_any _ _).mono ?_; rintro e w' ⟨rfl, rfl⟩)
      | (go_at_call 11; refine (H2.out _ B2.out).mono ?_; rintro e w3 ⟨rfl, hb⟩; have B3 : Hid (Below w.heap.size w w3) := B2.out.trans (hb.mono B2.out.size); clear hb))
    go_ret
    exact ⟨rfl, B3.out⟩
set_option maxRecDepth 100000 in
set_option maxHeartbeats 3200000 in
theorem once_in (w : World) (b off : Nat) (da : Option Addr) (c m dc K : Nat) (h ns : List Int) (ds : List (List Int)) (n : Int) (hn : h.length = 512) (hm : ds.length = m) (hO : Bytes w (some ⟨b, off, none⟩) h) (hc : 512 ≤ c) (hD : Data w da ds) (hT : TabAt w) (hl : numsL h n ≠ []) (hns : nsOf h = ns) (hK : ns.length = K) :
    Calls Tryd.prog 3 #[.slice (some ⟨b, off, none⟩) 512 c, .int .i64 n, .slice da m dc] w fun e w' => e = .returned (.bool true) ∧ Below w.heap.size w w' := by
  obtain ⟨_, h2, h3, h4, h5, h6, h7⟩ := numsL_some hl
  rw [hns] at h4 h5 h6 h7
  rw [hK] at h5 h6
  have he : numsE h n = 0 := by unfold numsE; rw [if_pos hn, h2, h3]; rfl
  have HK : Hid (Calls Tryd.prog 8 #[] w fun e w' => e = .returned (.bool true) ∧ Below w.heap.size w w') := known_any w hT
  have H1 : Hid (∀ wx, Below w.heap.size w wx → Calls Tryd.prog 9 #[.slice (some ⟨b, off, none⟩) 512 c, .int .i64 n] wx fun e w' => ∃ g c', e = .returned (.tuple #[.slice (some ⟨g, 0, none⟩) K c', .int .i64 0]) ∧ OwnI w' g c' ns ∧ Below wx.heap.size wx w') := fun wx hx => by
    refine (nums_any wx _ 512 c h n hn (hO.on hx) hc (hT.on hx)).mono ?_
    rintro e w' ⟨v, rfl, hv, hb⟩
    unfold NumsAt at hv
    rw [h4, hK] at hv
    rw [he]
    rcases hv with ⟨e, _⟩ | ⟨g, cap, rfl, ho, _⟩
    · exact absurd (h4.trans e) hl
    · exact ⟨_, _, rfl, ho, hb⟩
  have H2 : Hid (∀ wx, Below w.heap.size w wx → Calls Tryd.prog 11 #[.slice (some ⟨b, off, none⟩) 512 c, .int .i64 n, .slice da m dc] wx fun e w' => e = .returned (.bool (good h n ds)) ∧ Below wx.heap.size wx w') := fun wx hx => good_any wx _ da 512 c m dc h ds n hn hm (hO.on hx) hc (hD.on hx) (hT.on hx)
  have hn98 : 98 < n := by have := pre_bd ns n h7 0 (by omega); omega
  have HL : Hid (∀ wx g c', OwnI wx g c' ns → may ns 16384 = false → ∃ v, 16384 ≤ v ∧ wx.cell? ⟨g, K - 1, none⟩ = some (.int .i64 v)) := fun wx g c' ho hf => by
    have := last_big ns n h7 hf
    rw [hK] at this
    exact ⟨_, this, ho.cell _ (by omega)⟩
  have HM : Hid (∀ wx g c', Below w.heap.size w wx → OwnI wx g c' ns → Calls Tryd.prog 12 #[.slice (some ⟨g, 0, none⟩) K c', .slice da m dc] wx fun e w' => ∃ v, e = .returned (.tuple #[v, .int .i64 (makeE ns ds)]) ∧ ((makeE ns ds ≠ 0 ∧ v = .slice none 0 0) ∨ (makeE ns ds = 0 ∧ ∃ g, v = .slice (some ⟨g, 0, none⟩) 512 512 ∧ OwnB w' g 512 (made ns ds) ∧ wx.heap.size ≤ g)) ∧ Below wx.heap.size wx w') := fun wx g c' hx ho => make_any wx _ da K c' m dc ns ds hK hm ho.ints (hD.on hx) (hT.on hx)
  have HS : Hid (∀ wx, Below w.heap.size w wx → (convert 22 9 (.slice (some ⟨b, off, none⟩) 512 c)).run Tryd.prog wx = .ok (.string (strOfNums h)) wx) := fun wx hx => str_opt (hO.on hx) hn
  cases hg : good h n ds with
  | false =>
    rw [hg] at H2
    clear hn hm hO hD hT hl hns hK h2 h3 h4 h7 he hg
    go_enter Tryd.func3, Tryd.ntmps3
    go_wp2_with (first
      | (go_at_call 8; refine HK.out.mono ?_; rintro e w1 ⟨rfl, hb⟩; have B1 : Hid (Below w.heap.size w w1) := hb; clear hb)
      | (go_at_call 9; refine (H1.out _ B1.out).mono ?_; rintro e w2 ⟨g2, c2, rfl, ho, hb⟩; have B2 : Hid (OwnI w2 g2 c2 ns ∧ Below w.heap.size w w2) := ⟨ho, B1.out.trans (hb.mono B1.out.size)⟩; clear ho hb)
      | (go_at_call 10; refine (num_any _ _).mono ?_; rintro e w' ⟨rfl, rfl⟩)
      | (go_at_call 11; refine (H2.out _ B2.out.2).mono ?_; rintro e w3 ⟨rfl, hb⟩; have B3 : Hid (Below w.heap.size w w3) := B2.out.2.trans (hb.mono B2.out.2.size); clear hb))
    go_ret
    exact ⟨rfl, B3.out⟩
  | true =>
    rw [hg] at H2
    cases hy : may ns 16384 with
    | true =>
      have ⟨e1, e2⟩ := once_made hO.wf hl hg (by rw [hns]; exact hy)
      rw [hns] at e1 e2
      have HM2 : Hid (∀ wx g c', Below w.heap.size w wx → OwnI wx g c' ns → Calls Tryd.prog 12 #[.slice (some ⟨g, 0, none⟩) K c', .slice da m dc] wx fun e w' => ∃ g, e = .returned (.tuple #[.slice (some ⟨g, 0, none⟩) 512 512, .int .i64 0]) ∧ OwnB w' g 512 h ∧ Below wx.heap.size wx w') := fun wx g c' hx ho => by
        refine (HM.out wx g c' hx ho).mono ?_
        rintro e w' ⟨v, rfl, hv, hb⟩
        rw [e1] at hv ⊢
        rcases hv with ⟨hv, _⟩ | ⟨_, g', rfl, ho', _⟩
        · exact absurd rfl hv
        · exact ⟨g', rfl, by rw [← e2]; exact ho', hb⟩
      have HN : Hid (h.length = 512) := hn
      clear hn hm hO hD hT hl hns hK h2 h3 h4 h7 he hg hy e1 e2 HM HL
      go_enter Tryd.func3, Tryd.ntmps3
      go_wp2_with (first
        | (go_at_call 8; refine HK.out.mono ?_; rintro e w1 ⟨rfl, hb⟩; have B1 : Hid (Below w.heap.size w w1) := hb; clear hb)
        | (go_at_call 9; refine (H1.out _ B1.out).mono ?_; rintro e w2 ⟨g2, c2, rfl, ho, hb⟩; have B2 : Hid (OwnI w2 g2 c2 ns ∧ Below w.heap.size w w2) := ⟨ho, B1.out.trans (hb.mono B1.out.size)⟩; clear ho hb)
        | (go_at_call 10; refine (num_any _ _).mono ?_; rintro e w' ⟨rfl, rfl⟩)
        | (go_at_call 11; refine (H2.out _ B2.out.2).mono ?_; rintro e w3 ⟨rfl, hb⟩; have B3 : Hid (OwnI w3 g2 c2 ns ∧ Below w.heap.size w w3) := ⟨B2.out.1.on hb, B2.out.2.trans (hb.mono B2.out.2.size)⟩; clear hb)
        | (go_at_call 12; refine (HM2.out _ g2 c2 B3.out.2 B3.out.1).mono ?_; rintro e w4 ⟨g4, rfl, ho, hb⟩; have B4 : Hid (Below w.heap.size w w4) := B3.out.2.trans (hb.mono B3.out.2.size); have e1 := HS.out _ B4.out; have e2 : (convert 22 9 (.slice (some ⟨g4, 0, none⟩) 512 512)).run Tryd.prog w4 = .ok (.string (strOfNums h)) w4 := str_opt ho.bytes HN.out; clear ho hb))
      go_ret
      exact ⟨rfl, B4.out⟩
    | false =>
      have e1 : makeE ns ds = 40 := by unfold makeE; rw [hy, if_neg (by simp)]
      have HM2 : Hid (∀ wx g c', Below w.heap.size w wx → OwnI wx g c' ns → Calls Tryd.prog 12 #[.slice (some ⟨g, 0, none⟩) K c', .slice da m dc] wx fun e w' => e = .returned (.tuple #[.slice none 0 0, .int .i64 40]) ∧ Below wx.heap.size wx w') := fun wx g c' hx ho => by
        refine (HM.out wx g c' hx ho).mono ?_
        rintro e w' ⟨v, rfl, hv, hb⟩
        rw [e1] at hv ⊢
        rcases hv with ⟨_, rfl⟩ | ⟨hv, _⟩
        · exact ⟨rfl, hb⟩
        · exact absurd hv (by decide)
      have HY : Hid (may ns 16384 = false) := hy
      clear hn hm hO hD hT hl hns hK h2 h3 h4 h7 he hg hy e1 HM
      go_enter Tryd.func3, Tryd.ntmps3
      go_wp2_with (first
        | (go_at_call 8; refine HK.out.mono ?_; rintro e w1 ⟨rfl, hb⟩; have B1 : Hid (Below w.heap.size w w1) := hb; clear hb)
        | (go_at_call 9; refine (H1.out _ B1.out).mono ?_; rintro e w2 ⟨g2, c2, rfl, ho, hb⟩; have B2 : Hid (OwnI w2 g2 c2 ns ∧ Below w.heap.size w w2) := ⟨ho, B1.out.trans (hb.mono B1.out.size)⟩; clear ho hb)
        | (go_at_call 10; refine (num_any _ _).mono ?_; rintro e w' ⟨rfl, rfl⟩)
        | (go_at_call 11; refine (H2.out _ B2.out.2).mono ?_; rintro e w3 ⟨rfl, hb⟩; have B3 : Hid (OwnI w3 g2 c2 ns ∧ Below w.heap.size w w3) := ⟨B2.out.1.on hb, B2.out.2.trans (hb.mono B2.out.2.size)⟩; clear hb)
        | (go_at_call 12; refine (HM2.out _ g2 c2 B3.out.2 B3.out.1).mono ?_; rintro e w4 ⟨rfl, hb⟩; have B4 : Hid (Below w.heap.size w w4) := B3.out.2.trans (hb.mono B3.out.2.size); obtain ⟨v, hv, hcell⟩ := HL.out _ g2 c2 (B3.out.1.on hb) HY.out; clear hb))
      go_ret
      exact ⟨rfl, B4.out⟩
/-- HeadOnce -/
theorem once_any (w : World) (a da : Option Addr) (k c m dc : Nat) (h : List Int) (ds : List (List Int)) (n : Int) (hn : h.length = k) (hm : ds.length = m) (hO : Bytes w a h) (hc : k ≤ c) (hD : Data w da ds) (hT : TabAt w) :
    Calls Tryd.prog 3 #[.slice a k c, .int .i64 n, .slice da m dc] w fun e w' => e = .returned (.bool true) ∧ Below w.heap.size w w' := by
  by_cases hl : numsL h n = []
  · exact once_err w a da k c m dc h ds n hn hm hO hc hD hT hl
  · obtain ⟨h1, _⟩ := numsL_some hl
    obtain rfl : k = 512 := by omega
    obtain ⟨b, off, rfl⟩ := hO.some (by omega)
    exact once_in w b off da c m dc _ h _ ds n hn hm hO hc hD hT hl rfl rfl
end Go.Proofs.YtccocjipgbeaeaaDoor
