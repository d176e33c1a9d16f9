import Derived.Test.YtpheajiepnjhdaaDoorMake
namespace Go.Proofs.YtpheajiepnjhdaaDoor
open Go.RowKit Rec

/-- what Nums hands back -/
def NumsAt (w w' : World) (v : Value) (l : List Int) : Prop := (l = [] ∧ v = .slice none 0 0) ∨ ∃ g cap, v = .slice (some ⟨g, 0, none⟩) l.length cap ∧ OwnI w' g cap l ∧ w.heap.size ≤ g

set_option maxRecDepth 100000 in
set_option maxHeartbeats 1600000 in
theorem nums_size (w : World) (a : Option Addr) (k c : Nat) (n : Int) (hk : k ≠ 512) :
    Calls Tryd.prog 10 #[.slice a k c, .int .i64 n] w fun e w' => e = .returned (.tuple #[.slice none 0 0, .int .i64 32]) ∧ w = w' := by
  go_enter Tryd.func10, Tryd.ntmps10
  go_wp2_with (go_at_call 45; refine (notBlock_any _ _ _ _).mono ?_; rintro e w' ⟨rfl, rfl⟩; rw [decide_eq_true hk])
  go_ret2
  exact ⟨rfl, rfl⟩
set_option maxRecDepth 100000 in
set_option maxHeartbeats 1600000 in
theorem nums_zero (w : World) (b off c : Nat) (h : List Int) (n : Int) (hn : h.length = 512) (hO : Bytes w (some ⟨b, off, none⟩) h) (hc : 512 ≤ c) (hz : zr h 0 512 = true) :
    Calls Tryd.prog 10 #[.slice (some ⟨b, off, none⟩) 512 c, .int .i64 n] w fun e w' => e = .returned (.tuple #[.slice none 0 0, .int .i64 0]) ∧ w = w' := by
  have H1 : Hid (Calls Tryd.prog 46 #[.slice (some ⟨b, off, none⟩) 512 c, .int .i64 (0 : Nat)] w fun e w' => e = .returned (.bool true) ∧ w = w') := by
    have := zeroFrom_any w b off c 0 h hn hO hc (by omega)
    rw [Nat.sub_zero, hz] at this
    exact this
  clear hn hO hz
  go_enter Tryd.func10, Tryd.ntmps10
  go_wp2_with (first
    | (go_at_call 45; refine (notBlock_any _ _ _ _).mono ?_; rintro e w' ⟨rfl, rfl⟩)
    | (go_at_call 46; refine H1.out.mono ?_; rintro e w' ⟨rfl, rfl⟩))
  go_ret2
  exact ⟨rfl, rfl⟩
set_option maxRecDepth 100000 in
set_option maxHeartbeats 1600000 in
theorem nums_form (w : World) (b off c : Nat) (h : List Int) (n : Int) (hn : h.length = 512) (hO : Bytes w (some ⟨b, off, none⟩) h) (hc : 512 ≤ c) (hT : TabAt w) (hz : zr h 0 512 = false) (hf : form h = false) :
    Calls Tryd.prog 10 #[.slice (some ⟨b, off, none⟩) 512 c, .int .i64 n] w fun e w' => e = .returned (.tuple #[.slice none 0 0, .int .i64 41]) ∧ w = w' := by
  have H1 : Hid (Calls Tryd.prog 46 #[.slice (some ⟨b, off, none⟩) 512 c, .int .i64 (0 : Nat)] w fun e w' => e = .returned (.bool false) ∧ w = w') := by
    have := zeroFrom_any w b off c 0 h hn hO hc (by omega)
    rw [Nat.sub_zero, hz] at this
    exact this
  have H2 : Hid (Calls Tryd.prog 47 #[.slice (some ⟨b, off, none⟩) 512 c] w fun e w' => e = .returned (.tuple #[.int .i64 (cnt h), .bool false]) ∧ w = w') := by
    have := countOf_any w b off c h hn hO hc hT
    rw [hf] at this
    exact this
  clear hn hO hz hf hT
  go_enter Tryd.func10, Tryd.ntmps10
  go_wp2_with (first
    | (go_at_call 45; refine (notBlock_any _ _ _ _).mono ?_; rintro e w' ⟨rfl, rfl⟩)
    | (go_at_call 46; refine H1.out.mono ?_; rintro e w' ⟨rfl, rfl⟩)
    | (go_at_call 47; refine H2.out.mono ?_; rintro e w' ⟨rfl, rfl⟩))
  go_ret2
  exact ⟨rfl, rfl⟩
set_option maxRecDepth 100000 in
set_option maxHeartbeats 1600000 in
theorem nums_in (w : World) (b off c K : Nat) (h : List Int) (n : Int) (y z : Bool) (hn : h.length = 512) (hO : Bytes w (some ⟨b, off, none⟩) h) (hc : 512 ≤ c) (hT : TabAt w) (hz : zr h 0 512 = false) (hf : form h = true) (hK : cnt h = K) (hK96 : K ≤ 96)
    (hy : may (nsOf h) n = y) (hz2 : zr h (16 + 4 * K) (512 - (16 + 4 * K)) = z) :
    Calls Tryd.prog 10 #[.slice (some ⟨b, off, none⟩) 512 c, .int .i64 n] w fun e w' => ((y && z) = true → ∃ g cap, e = .returned (.tuple #[.slice (some ⟨g, 0, none⟩) K cap, .int .i64 0]) ∧ OwnI w' g cap (nsOf h) ∧ w.heap.size ≤ g) ∧ ((y && z) = false → e = .returned (.tuple #[.slice none 0 0, .int .i64 41])) ∧ Below w.heap.size w w' := by
  have H1 : Hid (Calls Tryd.prog 46 #[.slice (some ⟨b, off, none⟩) 512 c, .int .i64 (0 : Nat)] w fun e w' => e = .returned (.bool false) ∧ w = w') := by
    have := zeroFrom_any w b off c 0 h hn hO hc (by omega)
    rw [Nat.sub_zero, hz] at this
    exact this
  have H2 : Hid (Calls Tryd.prog 47 #[.slice (some ⟨b, off, none⟩) 512 c] w fun e w' => e = .returned (.tuple #[.int .i64 K, .bool true]) ∧ w = w') := by
    have := countOf_any w b off c h hn hO hc hT
    rw [hf, hK] at this
    exact this
  have H3 : Hid (Calls Tryd.prog 48 #[.slice (some ⟨b, off, none⟩) 512 c, .int .i64 K] w fun e w' => ∃ g cap, e = .returned (.slice (some ⟨g, 0, none⟩) K cap) ∧ OwnI w' g cap (nsOf h) ∧ w.heap.size ≤ g ∧ Below w.heap.size w w') := by
    have := numsOf_any w b off c K h hn hO hc hT hK96
    subst hK
    rw [upd_all] at this
    exact this
  have HKl : Hid ((nsOf h).length = K) := by show _ = _; rw [← hK]; simp [nsOf]
  have H4 : Hid (∀ wx g cap, OwnI wx g cap (nsOf h) → Calls Tryd.prog 39 #[.slice (some ⟨g, 0, none⟩) K cap, .int .i64 n] wx fun e w' => e = .returned (.bool y) ∧ Below wx.heap.size wx w') := fun wx g cap ho => by
    have := mayBe_any wx _ K cap (nsOf h) n HKl.out ho.ints
    rw [hy] at this
    exact this
  have H5 : Hid (∀ wx, Below w.heap.size w wx → Calls Tryd.prog 46 #[.slice (some ⟨b, off, none⟩) 512 c, .int .i64 ((16 + 4 * K : Nat) : Int)] wx fun e w' => e = .returned (.bool z) ∧ wx = w') := fun wx hx => by
    have := zeroFrom_any wx b off c (16 + 4 * K) h hn (hO.on hx) hc (by omega)
    rw [hz2] at this
    exact this
  clear hn hO hz hf hT hy hz2 hK
  cases y with
  | true =>
    cases z with
    | true =>
      go_enter Tryd.func10, Tryd.ntmps10
      go_wp2_with (first
        | (go_at_call 45; refine (notBlock_any _ _ _ _).mono ?_; rintro e w' ⟨rfl, rfl⟩)
        | (go_at_call 46; refine (H5.out _ H7.out.2).mono ?_; rintro e w' ⟨rfl, rfl⟩)
        | (go_at_call 46; refine H1.out.mono ?_; rintro e w' ⟨rfl, rfl⟩)
        | (go_at_call 47; refine H2.out.mono ?_; rintro e w' ⟨rfl, rfl⟩)
        | (go_at_call 48; refine H3.out.mono ?_; rintro e w1 ⟨g, cap, rfl, ho, hg, hb⟩; have H6 : Hid (OwnI w1 g cap (nsOf h) ∧ w.heap.size ≤ g ∧ Below w.heap.size w w1) := ⟨ho, hg, hb⟩; clear ho hg hb)
        | (go_at_call 39; refine (H4.out _ g cap H6.out.1).mono ?_; rintro e w2 ⟨rfl, hb⟩; have H7 : Hid (OwnI w2 g cap (nsOf h) ∧ Below w.heap.size w w2) := ⟨H6.out.1.on hb, H6.out.2.2.trans (hb.mono H6.out.2.2.size)⟩; clear hb)
        | (go_at_call 43; refine (numAt_any _ K (by omega)).mono ?_; rintro e w' ⟨rfl, rfl⟩)
        | fail)
      go_ret2
      exact ⟨fun _ => ⟨g, cap, rfl, H7.out.1, H6.out.2.1⟩, (fun e => by cases e), H7.out.2⟩
    | false =>
      go_enter Tryd.func10, Tryd.ntmps10
      go_wp2_with (first
        | (go_at_call 45; refine (notBlock_any _ _ _ _).mono ?_; rintro e w' ⟨rfl, rfl⟩)
        | (go_at_call 46; refine (H5.out _ H7.out.2).mono ?_; rintro e w' ⟨rfl, rfl⟩)
        | (go_at_call 46; refine H1.out.mono ?_; rintro e w' ⟨rfl, rfl⟩)
        | (go_at_call 47; refine H2.out.mono ?_; rintro e w' ⟨rfl, rfl⟩)
        | (go_at_call 48; refine H3.out.mono ?_; rintro e w1 ⟨g, cap, rfl, ho, hg, hb⟩; have H6 : Hid (OwnI w1 g cap (nsOf h) ∧ w.heap.size ≤ g ∧ Below w.heap.size w w1) := ⟨ho, hg, hb⟩; clear ho hg hb)
        | (go_at_call 39; refine (H4.out _ g cap H6.out.1).mono ?_; rintro e w2 ⟨rfl, hb⟩; have H7 : Hid (OwnI w2 g cap (nsOf h) ∧ Below w.heap.size w w2) := ⟨H6.out.1.on hb, H6.out.2.2.trans (hb.mono H6.out.2.2.size)⟩; clear hb)
        | (go_at_call 43; refine (numAt_any _ K (by omega)).mono ?_; rintro e w' ⟨rfl, rfl⟩)
        | fail)
      go_ret2
      exact ⟨(fun e => by cases e), fun _ => rfl, H7.out.2⟩
  | false =>
    go_enter Tryd.func10, Tryd.ntmps10
    go_wp2_with (first
      | (go_at_call 45; refine (notBlock_any _ _ _ _).mono ?_; rintro e w' ⟨rfl, rfl⟩)
      | (go_at_call 46; refine (H5.out _ H7.out.2).mono ?_; rintro e w' ⟨rfl, rfl⟩)
      | (go_at_call 46; refine H1.out.mono ?_; rintro e w' ⟨rfl, rfl⟩)
      | (go_at_call 47; refine H2.out.mono ?_; rintro e w' ⟨rfl, rfl⟩)
      | (go_at_call 48; refine H3.out.mono ?_; rintro e w1 ⟨g, cap, rfl, ho, hg, hb⟩; have H6 : Hid (OwnI w1 g cap (nsOf h) ∧ w.heap.size ≤ g ∧ Below w.heap.size w w1) := ⟨ho, hg, hb⟩; clear ho hg hb)
      | (go_at_call 39; refine (H4.out _ g cap H6.out.1).mono ?_; rintro e w2 ⟨rfl, hb⟩; have H7 : Hid (OwnI w2 g cap (nsOf h) ∧ Below w.heap.size w w2) := ⟨H6.out.1.on hb, H6.out.2.2.trans (hb.mono H6.out.2.2.size)⟩; clear hb))
    go_ret2
    exact ⟨(fun e => by cases e), fun _ => rfl, H7.out.2⟩
/-- Nums: P4.2 -/
theorem nums_any (w : World) (a : Option Addr) (k c : Nat) (h : List Int) (n : Int) (hn : h.length = k) (hO : Bytes w a h) (hc : k ≤ c) (hT : TabAt w) :
    Calls Tryd.prog 10 #[.slice a k c, .int .i64 n] w fun e w' => ∃ v, e = .returned (.tuple #[v, .int .i64 (numsE h n)]) ∧ NumsAt w w' v (numsL h n) ∧ Below w.heap.size w w' := by
  by_cases hk : k = 512
  · subst hk
    obtain ⟨b, off, rfl⟩ := hO.some (by omega)
    cases hz : zr h 0 512 with
    | true =>
      have e1 : numsE h n = 0 := by unfold numsE; rw [if_pos hn, hz]; rfl
      have e2 : numsL h n = [] := by unfold numsL; rw [if_neg (by rw [hz]; simp)]
      refine (nums_zero w b off c h n hn hO hc hz).mono ?_
      rintro e w' ⟨rfl, rfl⟩
      exact ⟨_, by rw [e1], .inl ⟨e2, rfl⟩, Below.refl _ _⟩
    | false =>
      cases hf : form h with
      | false =>
        have e0 : isH h n = false := by unfold isH; rw [hf]; rfl
        have e1 : numsE h n = 41 := by unfold numsE; rw [if_pos hn, hz, e0]; rfl
        have e2 : numsL h n = [] := by unfold numsL; rw [if_neg (by rw [e0]; simp)]
        refine (nums_form w b off c h n hn hO hc hT hz hf).mono ?_
        rintro e w' ⟨rfl, rfl⟩
        exact ⟨_, by rw [e1], .inl ⟨e2, rfl⟩, Below.refl _ _⟩
      | true =>
        have hf' := hf
        simp only [form, Bool.and_eq_true, decide_eq_true_eq] at hf'
        refine (nums_in w b off c (cnt h) h n _ _ hn hO hc hT hz hf rfl hf'.2.2 rfl rfl).mono ?_
        rintro e w' ⟨h1, h2, h3⟩
        cases hy : (may (nsOf h) n && zr h (16 + 4 * cnt h) (512 - (16 + 4 * cnt h))) with
        | true =>
          have e0 : isH h n = true := by unfold isH; rw [hf, Bool.true_and]; exact hy
          have e1 : numsE h n = 0 := by unfold numsE; rw [if_pos hn, hz, e0]; rfl
          have e2 : numsL h n = nsOf h := by unfold numsL; rw [if_pos ⟨hn, hz, e0⟩]
          obtain ⟨g, cap, rfl, h4, h5⟩ := h1 hy
          have hl : (nsOf h).length = cnt h := by simp [nsOf]
          exact ⟨_, by rw [e1], .inr ⟨g, cap, by rw [e2, hl], by rw [e2]; exact h4, h5⟩, h3⟩
        | false =>
          have e0 : isH h n = false := by unfold isH; rw [hf, Bool.true_and]; exact hy
          have e1 : numsE h n = 41 := by unfold numsE; rw [if_pos hn, hz, e0]; rfl
          have e2 : numsL h n = [] := by unfold numsL; rw [if_neg (by rw [e0]; simp)]
          have := h2 hy
          subst this
          exact ⟨_, by rw [e1], .inl ⟨e2, rfl⟩, h3⟩
  · have e1 : numsE h n = 32 := by unfold numsE; rw [if_neg (by omega)]
    have e2 : numsL h n = [] := by unfold numsL; rw [if_neg (by omega)]
    refine (nums_size w a k c n hk).mono ?_
    rintro e w' ⟨rfl, rfl⟩
    exact ⟨_, by rw [e1], .inl ⟨e2, rfl⟩, Below.refl _ _⟩

set_option maxRecDepth 100000 in
set_option maxHeartbeats 1600000 in
theorem good_none (w : World) (a da : Option Addr) (k c m dc : Nat) (h : List Int) (n : Int) (hn : h.length = k) (hO : Bytes w a h) (hc : k ≤ c) (hT : TabAt w) (hl : numsL h n = []) :
    Calls Tryd.prog 21 #[.slice a k c, .int .i64 n, .slice da m dc] w fun e w' => e = .returned (.bool false) ∧ Below w.heap.size w w' := by
  have H1 : Hid (Calls Tryd.prog 10 #[.slice a k c, .int .i64 n] w fun e w' => ∃ a' c', e = .returned (.tuple #[.slice a' 0 c', .int .i64 (numsE h n)]) ∧ Below w.heap.size w w') := by
    refine (nums_any w a k c h n hn hO hc hT).mono ?_
    rintro e w' ⟨v, rfl, h2, h3⟩
    rcases h2 with ⟨_, rfl⟩ | ⟨g, cap, rfl, _, _⟩
    · exact ⟨_, _, rfl, h3⟩
    · rw [hl]; exact ⟨_, _, rfl, h3⟩
  clear hn hO hT hl
  generalize numsE h n = E at H1
  go_enter Tryd.func21, Tryd.ntmps21
  go_wp2_with (go_at_call 10; refine H1.out.mono ?_; rintro e w1 ⟨a', c', rfl, hb⟩; have H2 : Hid (Below w.heap.size w w1) := hb; clear hb)
  go_ret
  exact ⟨rfl, H2.out⟩
set_option maxRecDepth 100000 in
set_option maxHeartbeats 1600000 in
theorem good_some (w : World) (b off : Nat) (da : Option Addr) (c m dc K : Nat) (h : List Int) (ds : List (List Int)) (n : Int) (hn : h.length = 512) (hm : ds.length = m) (hO : Bytes w (some ⟨b, off, none⟩) h) (hc : 512 ≤ c) (hD : Data w da ds) (hT : TabAt w) (hl : (numsL h n).length = K) (hK : 1 ≤ K) (hK96 : K ≤ 96) :
    Calls Tryd.prog 21 #[.slice (some ⟨b, off, none⟩) 512 c, .int .i64 n, .slice da m dc] w fun e w' => e = .returned (.bool (blk ds K && decide (num h 12 4 = sumV h ds))) ∧ Below w.heap.size w w' := by
  have H1 : Hid (Calls Tryd.prog 10 #[.slice (some ⟨b, off, none⟩) 512 c, .int .i64 n] w fun e w' => ∃ a' c', e = .returned (.tuple #[.slice a' K c', .int .i64 (numsE h n)]) ∧ Below w.heap.size w w') := by
    refine (nums_any w _ 512 c h n hn hO hc hT).mono ?_
    rintro e w' ⟨v, rfl, h2, h3⟩
    rcases h2 with ⟨h4, rfl⟩ | ⟨g, cap, rfl, _, _⟩
    · rw [h4] at hl; simp at hl; omega
    · rw [hl]; exact ⟨_, _, rfl, h3⟩
  have H2 : Hid (∀ wx, Below w.heap.size w wx → Calls Tryd.prog 40 #[.slice da m dc, .int .i64 K] wx fun e w' => e = .returned (.bool (blk ds K)) ∧ wx = w') := fun wx hx => areBlocks_any wx _ m dc K ds hm (hD.on hx)
  have H3 : Hid (∀ wx, Below w.heap.size w wx → Calls Tryd.prog 54 #[.slice (some ⟨b, off, none⟩) 512 c, .int .i64 (12 : Nat), .int .i64 (4 : Nat)] wx fun e w' => e = .returned (.tuple #[.int .u64 (num h 12 4), .int .i64 0]) ∧ wx = w') := fun wx hx => get_in wx b off 512 c 12 4 h hn (hO.on hx) hc (hT.on hx) rfl (by omega)
  have hsb := sumV_bd h ds
  have hnb : 0 ≤ num h 12 4 ∧ num h 12 4 < 4294967296 := num_bd h 12 4 hO.wf
  have H4 : Hid (∀ wx, Below w.heap.size w wx → blk ds K = true → Calls Tryd.prog 44 #[.slice (some ⟨b, off, none⟩) 512 c, .slice da m dc] wx fun e w' => e = .returned (.int .u32 (sumV h ds)) ∧ Below wx.heap.size wx w') := fun wx hx hb => by
    simp only [blk, Bool.and_eq_true, decide_eq_true_eq] at hb
    obtain ⟨h1, h2⟩ := hb
    rw [mem_row] at h2
    obtain ⟨db, doff, rfl⟩ := hD.some (by omega)
    exact sumOf_some wx b off c db doff m dc h ds hn (hO.on hx) (hT.on hx) (hD.on hx) hm (by omega) (fun i hi => h2 i (by omega))
  clear hn hO hT hl hm hD
  generalize numsE h n = E at H1
  generalize sumV h ds = s at *
  generalize num h 12 4 = v at *
  cases hb : blk ds K with
  | false =>
    rw [hb] at H2
    clear hb H4
    go_enter Tryd.func21, Tryd.ntmps21
    go_wp2_with (first
      | (go_at_call 10; refine H1.out.mono ?_; rintro e w1 ⟨a', c', rfl, hb⟩; have H5 : Hid (Below w.heap.size w w1) := hb; clear hb)
      | (go_at_call 40; refine (H2.out _ H5.out).mono ?_; rintro e w' ⟨rfl, rfl⟩))
    go_ret
    exact ⟨rfl, H5.out⟩
  | true =>
    rw [hb] at H2
    have HC : Hid (∀ wx, Below w.heap.size w wx → Calls Tryd.prog 44 #[.slice (some ⟨b, off, none⟩) 512 c, .slice da m dc] wx fun e w' => e = .returned (.int .u32 s) ∧ Below wx.heap.size wx w') := fun wx hx => H4.out wx hx hb
    clear hb H4
    go_enter Tryd.func21, Tryd.ntmps21
    go_wp2_with (first
      | (go_at_call 10; refine H1.out.mono ?_; rintro e w1 ⟨a', c', rfl, hb⟩; have H5 : Hid (Below w.heap.size w w1) := hb; clear hb)
      | (go_at_call 40; refine (H2.out _ H5.out).mono ?_; rintro e w' ⟨rfl, rfl⟩)
      | (go_at_call 54; refine (H3.out _ H5.out).mono ?_; rintro e w' ⟨rfl, rfl⟩)
      | (go_at_call 44; refine (HC.out _ H5.out).mono ?_; rintro e w2 ⟨rfl, hb⟩; have H6 : Hid (Below w.heap.size w w2) := H5.out.trans (hb.mono H5.out.size); clear hb))
    go_ret
    refine ⟨?_, H6.out⟩
    rw [Bool.true_and]
    rfl
/-- Good: P4.3 -/
theorem good_any (w : World) (a da : Option Addr) (k c m dc : Nat) (h : List Int) (ds : List (List Int)) (n : Int) (hn : h.length = k) (hm : ds.length = m) (hO : Bytes w a h) (hc : k ≤ c) (hD : Data w da ds) (hT : TabAt w) :
    Calls Tryd.prog 21 #[.slice a k c, .int .i64 n, .slice da m dc] w fun e w' => e = .returned (.bool (good h n ds)) ∧ Below w.heap.size w w' := by
  by_cases hl : numsL h n = []
  · have e : good h n ds = false := by unfold good; rw [hl]; rfl
    rw [e]
    exact good_none w a da k c m dc h n hn hO hc hT hl
  · have hl' := hl
    unfold numsL at hl'
    by_cases hh : h.length = 512 ∧ zr h 0 512 = false ∧ isH h n = true
    · have e2 : numsL h n = nsOf h := by unfold numsL; rw [if_pos hh]
      have hf := hh.2.2
      simp only [isH, form, Bool.and_eq_true, decide_eq_true_eq] at hf
      have hlen : (nsOf h).length = cnt h := by simp [nsOf]
      obtain rfl : k = 512 := by omega
      obtain ⟨b, off, rfl⟩ := hO.some (by omega)
      have := good_some w b off da c m dc (cnt h) h ds n hn hm hO hc hD hT (by rw [e2, hlen]) hf.1.1.2.1 hf.1.1.2.2
      have e : good h n ds = (blk ds (cnt h) && decide (num h 12 4 = sumV h ds)) := by
        unfold good; rw [decide_eq_true hl, Bool.true_and, e2, hlen]
      rw [e]; exact this
    · rw [if_neg hh] at hl'; exact absurd rfl hl'
end Go.Proofs.YtpheajiepnjhdaaDoor
