import Derived.Test.YtamlbpbhlgmcoaaGreatDoorKHead2
namespace Go.Proofs.YtamlbpbhlgmcoaaGreatDoor
open Go.RowKit Rec

/-- what Nums hands back -/
def NumsAt (w w' : World) (v : Value) (l : List Int) : Prop := (l = [] ∧ v = .slice none 0 0) ∨ ∃ g cap, v = .slice (some ⟨g, 0, none⟩) l.length cap ∧ OwnI w' g cap l ∧ w.heap.size ≤ g

set_option maxRecDepth 100000 in
set_option maxHeartbeats 1600000 in
theorem nums_size (w : World) (a : Option Addr) (k c : Nat) (n : Int) (hk : k ≠ 512) :
    Calls Tryz.prog 84 #[.slice a k c, .int .i64 n] w fun e w' => e = .returned (.tuple #[.slice none 0 0, .int .i64 32]) ∧ w = w' := by
  go_enter Tryz.func84, Tryz.ntmps84
  go_wp2_with (go_at_call 104; refine (notBlock_any _ _ _ _).mono ?_; rintro e w' ⟨rfl, rfl⟩; rw [decide_eq_true hk])
  go_ret2
  exact ⟨rfl, rfl⟩
set_option maxRecDepth 100000 in
set_option maxHeartbeats 1600000 in
theorem nums_zero (w : World) (b off c : Nat) (h : List Int) (n : Int) (hn : h.length = 512) (hO : Bytes w (some ⟨b, off, none⟩) h) (hc : 512 ≤ c) (hz : zr h 0 512 = true) :
    Calls Tryz.prog 84 #[.slice (some ⟨b, off, none⟩) 512 c, .int .i64 n] w fun e w' => e = .returned (.tuple #[.slice none 0 0, .int .i64 0]) ∧ w = w' := by
  have H1 : Hid (Calls Tryz.prog 105 #[.slice (some ⟨b, off, none⟩) 512 c, .int .i64 (0 : Nat)] w fun e w' => e = .returned (.bool true) ∧ w = w') := by
    have := zeroFrom_any w b off c 0 h hn hO hc (by omega)
    rw [Nat.sub_zero, hz] at this
    exact this
  clear hn hO hz
  go_enter Tryz.func84, Tryz.ntmps84
  go_wp2_with (first
    | (go_at_call 104; refine (notBlock_any _ _ _ _).mono ?_; rintro e w' ⟨rfl, rfl⟩)
    | (go_at_call 105; refine H1.out.mono ?_; rintro e w' ⟨rfl, rfl⟩))
  go_ret2
  exact ⟨rfl, rfl⟩
set_option maxRecDepth 100000 in
set_option maxHeartbeats 1600000 in
theorem nums_form (w : World) (b off c : Nat) (h : List Int) (n : Int) (hn : h.length = 512) (hO : Bytes w (some ⟨b, off, none⟩) h) (hc : 512 ≤ c) (hT : TabAt w) (hz : zr h 0 512 = false) (hf : form h = false) :
    Calls Tryz.prog 84 #[.slice (some ⟨b, off, none⟩) 512 c, .int .i64 n] w fun e w' => e = .returned (.tuple #[.slice none 0 0, .int .i64 41]) ∧ w = w' := by
  have H1 : Hid (Calls Tryz.prog 105 #[.slice (some ⟨b, off, none⟩) 512 c, .int .i64 (0 : Nat)] w fun e w' => e = .returned (.bool false) ∧ w = w') := by
    have := zeroFrom_any w b off c 0 h hn hO hc (by omega)
    rw [Nat.sub_zero, hz] at this
    exact this
  have H2 : Hid (Calls Tryz.prog 106 #[.slice (some ⟨b, off, none⟩) 512 c] w fun e w' => e = .returned (.tuple #[.int .i64 (cnt h), .bool false]) ∧ w = w') := by
    have := countOf_any w b off c h hn hO hc hT
    rw [hf] at this
    exact this
  clear hn hO hz hf hT
  go_enter Tryz.func84, Tryz.ntmps84
  go_wp2_with (first
    | (go_at_call 104; refine (notBlock_any _ _ _ _).mono ?_; rintro e w' ⟨rfl, rfl⟩)
    | (go_at_call 105; refine H1.out.mono ?_; rintro e w' ⟨rfl, rfl⟩)
    | (go_at_call 106; refine H2.out.mono ?_; rintro e w' ⟨rfl, rfl⟩))
  go_ret2
  exact ⟨rfl, rfl⟩
set_option maxRecDepth 100000 in
set_option maxHeartbeats 1600000 in
theorem nums_in (w : World) (b off c K : Nat) (h : List Int) (n : Int) (y z : Bool) (hn : h.length = 512) (hO : Bytes w (some ⟨b, off, none⟩) h) (hc : 512 ≤ c) (hT : TabAt w) (hz : zr h 0 512 = false) (hf : form h = true) (hK : cnt h = K) (hK96 : K ≤ 96)
    (hy : may (nsOf h) n = y) (hz2 : zr h (16 + 4 * K) (512 - (16 + 4 * K)) = z) :
    Calls Tryz.prog 84 #[.slice (some ⟨b, off, none⟩) 512 c, .int .i64 n] w fun e w' => ((y && z) = true → ∃ g cap, e = .returned (.tuple #[.slice (some ⟨g, 0, none⟩) K cap, .int .i64 0]) ∧ OwnI w' g cap (nsOf h) ∧ w.heap.size ≤ g) ∧ ((y && z) = false → e = .returned (.tuple #[.slice none 0 0, .int .i64 41])) ∧ Below w.heap.size w w' := by
  have H1 : Hid (Calls Tryz.prog 105 #[.slice (some ⟨b, off, none⟩) 512 c, .int .i64 (0 : Nat)] w fun e w' => e = .returned (.bool false) ∧ w = w') := by
    have := zeroFrom_any w b off c 0 h hn hO hc (by omega)
    rw [Nat.sub_zero, hz] at this
    exact this
  have H2 : Hid (Calls Tryz.prog 106 #[.slice (some ⟨b, off, none⟩) 512 c] w fun e w' => e = .returned (.tuple #[.int .i64 K, .bool true]) ∧ w = w') := by
    have := countOf_any w b off c h hn hO hc hT
    rw [hf, hK] at this
    exact this
  have H3 : Hid (Calls Tryz.prog 107 #[.slice (some ⟨b, off, none⟩) 512 c, .int .i64 K] w fun e w' => ∃ g cap, e = .returned (.slice (some ⟨g, 0, none⟩) K cap) ∧ OwnI w' g cap (nsOf h) ∧ w.heap.size ≤ g ∧ Below w.heap.size w w') := by
    have := numsOf_any w b off c K h hn hO hc hT hK96
    subst hK
    rw [upd_all] at this
    exact this
  have HKl : Hid ((nsOf h).length = K) := by show _ = _; rw [← hK]; simp [nsOf]
  have H4 : Hid (∀ wx g cap, OwnI wx g cap (nsOf h) → Calls Tryz.prog 98 #[.slice (some ⟨g, 0, none⟩) K cap, .int .i64 n] wx fun e w' => e = .returned (.bool y) ∧ Below wx.heap.size wx w') := fun wx g cap ho => by
    have := mayBe_any wx _ K cap (nsOf h) n HKl.out ho.ints
    rw [hy] at this
    exact this
  have H5 : Hid (∀ wx, Below w.heap.size w wx → Calls Tryz.prog 105 #[.slice (some ⟨b, off, none⟩) 512 c, .int .i64 ((16 + 4 * K : Nat) : Int)] wx fun e w' => e = .returned (.bool z) ∧ wx = w') := fun wx hx => by
    have := zeroFrom_any wx b off c (16 + 4 * K) h hn (hO.on hx) hc (by omega)
    rw [hz2] at this
    exact this
  clear hn hO hz hf hT hy hz2 hK
  cases y with
  | true =>
    cases z with
    | true =>
      go_enter Tryz.func84, Tryz.ntmps84
      go_wp2_with (first
        | (go_at_call 104; refine (notBlock_any _ _ _ _).mono ?_; rintro e w' ⟨rfl, rfl⟩)
        | (go_at_call 105; refine (H5.out _ H7.out.2).mono ?_; rintro e w' ⟨rfl, rfl⟩)
        | (go_at_call 105; refine H1.out.mono ?_; rintro e w' ⟨rfl, rfl⟩)
        | (go_at_call 106; refine H2.out.mono ?_; rintro e w' ⟨rfl, rfl⟩)
        | (go_at_call 107; refine H3.out.mono ?_; rintro e w1 ⟨g, cap, rfl, ho, hg, hb⟩; have H6 : Hid (OwnI w1 g cap (nsOf h) ∧ w.heap.size ≤ g ∧ Below w.heap.size w w1) := ⟨ho, hg, hb⟩; clear ho hg hb)
        | (go_at_call 98; refine (H4.out _ g cap H6.out.1).mono ?_; rintro e w2 ⟨rfl, hb⟩; have H7 : Hid (OwnI w2 g cap (nsOf h) ∧ Below w.heap.size w w2) := ⟨H6.out.1.on hb, H6.out.2.2.trans (hb.mono H6.out.2.2.size)⟩; clear hb)
        | (go_at_call 102; refine (numAt_any _ K (by omega)).mono ?_; rintro e w' ⟨rfl, rfl⟩)
        | fail)
      go_ret2
      exact ⟨fun _ => ⟨g, cap, rfl, H7.out.1, H6.out.2.1⟩, (fun e => by cases e), H7.out.2⟩
    | false =>
      go_enter Tryz.func84, Tryz.ntmps84
      go_wp2_with (first
        | (go_at_call 104; refine (notBlock_any _ _ _ _).mono ?_; rintro e w' ⟨rfl, rfl⟩)
        | (go_at_call 105; refine (H5.out _ H7.out.2).mono ?_; rintro e w' ⟨rfl, rfl⟩)
        | (go_at_call 105; refine H1.out.mono ?_; rintro e w' ⟨rfl, rfl⟩)
        | (go_at_call 106; refine H2.out.mono ?_; rintro e w' ⟨rfl, rfl⟩)
        | (go_at_call 107; refine H3.out.mono ?_; rintro e w1 ⟨g, cap, rfl, ho, hg, hb⟩; have H6 : Hid (OwnI w1 g cap (nsOf h) ∧ w.heap.size ≤ g ∧ Below w.heap.size w w1) := ⟨ho, hg, hb⟩; clear ho hg hb)
        | (go_at_call 98; refine (H4.out _ g cap H6.out.1).mono ?_; rintro e w2 ⟨rfl, hb⟩; have H7 : Hid (OwnI w2 g cap (nsOf h) ∧ Below w.heap.size w w2) := ⟨H6.out.1.on hb, H6.out.2.2.trans (hb.mono H6.out.2.2.size)⟩; clear hb)
        | (go_at_call 102; refine (numAt_any _ K (by omega)).mono ?_; rintro e w' ⟨rfl, rfl⟩)
        | fail)
      go_ret2
      exact ⟨(fun e => by cases e), fun _ => rfl, H7.out.2⟩
  | false =>
    go_enter Tryz.func84, Tryz.ntmps84
    go_wp2_with (first
      | (go_at_call 104; refine (notBlock_any _ _ _ _).mono ?_; rintro e w' ⟨rfl, rfl⟩)
      | (go_at_call 105; refine (H5.out _ H7.out.2).mono ?_; rintro e w' ⟨rfl, rfl⟩)
      | (go_at_call 105; refine H1.out.mono ?_; rintro e w' ⟨rfl, rfl⟩)
      | (go_at_call 106; refine H2.out.mono ?_; rintro e w' ⟨rfl, rfl⟩)
      | (go_at_call 107; refine H3.out.mono ?_; rintro e w1 ⟨g, cap, rfl, ho, hg, hb⟩; have H6 : Hid (OwnI w1 g cap (nsOf h) ∧ w.heap.size ≤ g ∧ Below w.heap.size w w1) := ⟨ho, hg, hb⟩; clear ho hg hb)
      | (go_at_call 98; refine (H4.out _ g cap H6.out.1).mono ?_; rintro e w2 ⟨rfl, hb⟩; have H7 : Hid (OwnI w2 g cap (nsOf h) ∧ Below w.heap.size w w2) := ⟨H6.out.1.on hb, H6.out.2.2.trans (hb.mono H6.out.2.2.size)⟩; clear hb))
    go_ret2
    exact ⟨(fun e => by cases e), fun _ => rfl, H7.out.2⟩
/-- Nums: P4.2 -/
theorem nums_any (w : World) (a : Option Addr) (k c : Nat) (h : List Int) (n : Int) (hn : h.length = k) (hO : Bytes w a h) (hc : k ≤ c) (hT : TabAt w) :
    Calls Tryz.prog 84 #[.slice a k c, .int .i64 n] w fun e w' => ∃ v, e = .returned (.tuple #[v, .int .i64 (numsE h n)]) ∧ NumsAt w w' v (numsL h n) ∧ Below w.heap.size w w' := by
  by_cases hk : k = 512
  · subst hk
    obtain ⟨b, off, rfl⟩ := hO.some (by omega)
    cases hz : zr h 0 512 with
    | true =>
      have e1 : numsE h n = 0 := by unfold numsE; rw [if_pos hn, hz]; rfl
      have e2 : numsL h n = [] := by unfold numsL; rw [if_neg (by rw [hz]; simp)]
      refine (nums_zero w b off c h n hn hO hc hz).mono ?_
      rintro e w' ⟨rfl, rfl⟩
      exact ⟨_, by rw [e1], .inl ⟨e2, rfl⟩, Below.refl _ _⟩
    | false =>
      cases hf : form h with
      | false =>
        have e0 : isH h n = false := by unfold isH; rw [hf]; rfl
        have e1 : numsE h n = 41 := by unfold numsE; rw [if_pos hn, hz, e0]; rfl
        have e2 : numsL h n = [] := by unfold numsL; rw [if_neg (by rw [e0]; simp)]
        refine (nums_form w b off c h n hn hO hc hT hz hf).mono ?_
        rintro e w' ⟨rfl, rfl⟩
        exact ⟨_, by rw [e1], .inl ⟨e2, rfl⟩, Below.refl _ _⟩
      | true =>
        have hf' := hf
        simp only [form, Bool.and_eq_true, decide_eq_true_eq] at hf'
        refine (nums_in w b off c (cnt h) h n _ _ hn hO hc hT hz hf rfl hf'.2.2 rfl rfl).mono ?_
        rintro e w' ⟨h1, h2, h3⟩
        cases hy : (may (nsOf h) n && zr h (16 + 4 * cnt h) (512 - (16 + 4 * cnt h))) with
        | true =>
          have e0 : isH h n = true := by unfold isH; rw [hf, Bool.true_and]; exact hy
          have e1 : numsE h n = 0 := by unfold numsE; rw [if_pos hn, hz, e0]; rfl
          have e2 : numsL h n = nsOf h := by unfold numsL; rw [if_pos ⟨hn, hz, e0⟩]
          obtain ⟨g, cap, rfl, h4, h5⟩ := h1 hy
          have hl : (nsOf h).length = cnt h := by simp [nsOf]
          exact ⟨_, by rw [e1], .inr ⟨g, cap, by rw [e2, hl], by rw [e2]; exact h4, h5⟩, h3⟩
        | false =>
          have e0 : isH h n = false := by unfold isH; rw [hf, Bool.true_and]; exact hy
          have e1 : numsE h n = 41 := by unfold numsE; rw [if_pos hn, hz, e0]; rfl
          have e2 : numsL h n = [] := by unfold numsL; rw [if_neg (by rw [e0]; simp)]
          have := h2 hy
          subst this
          exact ⟨_, by rw [e1], .inl ⟨e2, rfl⟩, h3⟩
  · have e1 : numsE h n = 32 := by unfold numsE; rw [if_neg (by omega)]
    have e2 : numsL h n = [] := by unfold numsL; rw [if_neg (by omega)]
    refine (nums_size w a k c n hk).mono ?_
    rintro e w' ⟨rfl, rfl⟩
    exact ⟨_, by rw [e1], .inl ⟨e2, rfl⟩, Below.refl _ _⟩

set_option maxRecDepth 100000 in
set_option maxHeartbeats 1600000 in
theorem good_none (w : World) (a da : Option Addr) (k c m dc : Nat) (h : List Int) (n : Int) (hn : h.length = k) (hO : Bytes w a h) (hc : k ≤ c) (hT : TabAt w) (hl : numsL h n = []) :
    Calls Tryz.prog 86 #[.slice a k c, .int .i64 n, .slice da m dc] w fun e w' => e = .returned (.bool false) ∧ Below w.heap.size w w' := by
  have H1 : Hid (Calls Tryz.prog 84 #[.slice a k c, .int .i64 n] w fun e w' => ∃ a' c', e = .returned (.tuple #[.slice a' 0 c', .int .i64 (numsE h n)]) ∧ Below w.heap.size w w') := by
    refine (nums_any w a k c h n hn hO hc hT).mono ?_
    rintro e w' ⟨v, rfl, h2, h3⟩
    rcases h2 with ⟨_, rfl⟩ | ⟨g, cap, rfl, _, _⟩
    · exact ⟨_, _, rfl, h3⟩
    · rw [hl]; exact ⟨_, _, rfl, h3⟩
  clear hn hO hT hl
  generalize numsE h n = E at H1
  go_enter Tryz.func86, Tryz.ntmps86
  go_wp2_with (go_at_call 84; refine H1.out.mono ?_; rintro e w1 ⟨a', c', rfl, hb⟩; have H2 : Hid (Below w.heap.size w w1) := hb; clear hb)
  go_ret
  exact ⟨rfl, H2.out⟩
set_option maxRecDepth 100000 in
set_option maxHeartbeats 1600000 in
theorem good_some (w : World) (b off : Nat) (da : Option Addr) (c m dc K : Nat) (h : List Int) (ds : List (List Int)) (n : Int) (hn : h.length = 512) (hm : ds.length = m) (hO : Bytes w (some ⟨b, off, none⟩) h) (hc : 512 ≤ c) (hD : Data w da ds) (hT : TabAt w) (hl : (numsL h n).length = K) (hK : 1 ≤ K) (hK96 : K ≤ 96) :
    Calls Tryz.prog 86 #[.slice (some ⟨b, off, none⟩) 512 c, .int .i64 n, .slice da m dc] w fun e w' => e = .returned (.bool (blk ds K && decide (num h 12 4 = sumV h ds))) ∧ Below w.heap.size w w' := by
  have H1 : Hid (Calls Tryz.prog 84 #[.slice (some ⟨b, off, none⟩) 512 c, .int .i64 n] w fun e w' => ∃ a' c', e = .returned (.tuple #[.slice a' K c', .int .i64 (numsE h n)]) ∧ Below w.heap.size w w') := by
    refine (nums_any w _ 512 c h n hn hO hc hT).mono ?_
    rintro e w' ⟨v, rfl, h2, h3⟩
    rcases h2 with ⟨h4, rfl⟩ | ⟨g, cap, rfl, _, _⟩
    · rw [h4] at hl; simp at hl; omega
    · rw [hl]; exact ⟨_, _, rfl, h3⟩
  have H2 : Hid (∀ wx, Below w.heap.size w wx → Calls Tryz.prog 99 #[.slice da m dc, .int .i64 K] wx fun e w' => e = .returned (.bool (blk ds K)) ∧ wx = w') := fun wx hx => areBlocks_any wx _ m dc K ds hm (hD.on hx)
  have H3 : Hid (∀ wx, Below w.heap.size w wx → Calls Tryz.prog 108 #[.slice (some ⟨b, off, none⟩) 512 c, .int .i64 (12 : Nat), .int .i64 (4 : Nat)] wx fun e w' => e = .returned (.tuple #[.int .u64 (num h 12 4), .int .i64 0]) ∧ wx = w') := fun wx hx => get_in wx b off 512 c 12 4 h hn (hO.on hx) hc (hT.on hx) rfl (by omega)
  have hsb := sumV_bd h ds
  have hnb : 0 ≤ num h 12 4 ∧ num h 12 4 < 4294967296 := num_bd h 12 4 hO.wf
  have H4 : Hid (∀ wx, Below w.heap.size w wx → blk ds K = true → Calls Tryz.prog 103 #[.slice (some ⟨b, off, none⟩) 512 c, .slice da m dc] wx fun e w' => e = .returned (.int .u32 (sumV h ds)) ∧ Below wx.heap.size wx w') := fun wx hx hb => by
    simp only [blk, Bool.and_eq_true, decide_eq_true_eq] at hb
    obtain ⟨h1, h2⟩ := hb
    rw [mem_row] at h2
    obtain ⟨db, doff, rfl⟩ := hD.some (by omega)
    exact sumOf_some wx b off c db doff m dc h ds hn (hO.on hx) (hT.on hx) (hD.on hx) hm (by omega) (fun i hi => h2 i (by omega))
  clear hn hO hT hl hm hD
  generalize numsE h n = E at H1
  generalize sumV h ds = s at *
  generalize num h 12 4 = v at *
  cases hb : blk ds K with
  | false =>
    rw [hb] at H2
    clear hb H4
    go_enter Tryz.func86, Tryz.ntmps86
    go_wp2_with (first
      | (go_at_call 84; refine H1.out.mono ?_; rintro e w1 ⟨a', c', rfl, hb⟩; have H5 : Hid (Below w.heap.size w w1) := hb; clear hb)
      | (go_at_call 99; refine (H2.out _ H5.out).mono ?_; rintro e w' ⟨rfl, rfl⟩))
    go_ret
    exact ⟨rfl, H5.out⟩
  | true =>
    rw [hb] at H2
    have HC : Hid (∀ wx, Below w.heap.size w wx → Calls Tryz.prog 103 #[.slice (some ⟨b, off, none⟩) 512 c, .slice da m dc] wx fun e w' => e = .returned (.int .u32 s) ∧ Below wx.heap.size wx w') := fun wx hx => H4.out wx hx hb
    clear hb H4
    go_enter Tryz.func86, Tryz.ntmps86
    go_wp2_with (first
      | (go_at_call 84; refine H1.out.mono ?_; rintro e w1 ⟨a', c', rfl, hb⟩; have H5 : Hid (Below w.heap.size w w1) := hb; clear hb)
      | (go_at_call 99; refine (H2.out _ H5.out).mono ?_; rintro e w' ⟨rfl, rfl⟩)
      | (go_at_call 108; refine (H3.out _ H5.out).mono ?_; rintro e w' ⟨rfl, rfl⟩)
      | (go_at_call 103; refine (HC.out _ H5.out).mono ?_; rintro e w2 ⟨rfl, hb⟩; have H6 : Hid (Below w.heap.size w w2) := H5.out.trans (hb.mono H5.out.size); clear hb))
    go_ret
    refine ⟨?_, H6.out⟩
    rw [Bool.true_and]
    rfl
/-- Good: P4.3 -/
theorem good_any (w : World) (a da : Option Addr) (k c m dc : Nat) (h : List Int) (ds : List (List Int)) (n : Int) (hn : h.length = k) (hm : ds.length = m) (hO : Bytes w a h) (hc : k ≤ c) (hD : Data w da ds) (hT : TabAt w) :
    Calls Tryz.prog 86 #[.slice a k c, .int .i64 n, .slice da m dc] w fun e w' => e = .returned (.bool (good h n ds)) ∧ Below w.heap.size w w' := by
  by_cases hl : numsL h n = []
  · have e : good h n ds = false := by unfold good; rw [hl]; rfl
    rw [e]
    exact good_none w a da k c m dc h n hn hO hc hT hl
  · have hl' := hl
    unfold numsL at hl'
    by_cases hh : h.length = 512 ∧ zr h 0 512 = false ∧ isH h n = true
    · have e2 : numsL h n = nsOf h := by unfold numsL; rw [if_pos hh]
      have hf := hh.2.2
      simp only [isH, form, Bool.and_eq_true, decide_eq_true_eq] at hf
      have hlen : (nsOf h).length = cnt h := by simp [nsOf]
      obtain rfl : k = 512 := by omega
      obtain ⟨b, off, rfl⟩ := hO.some (by omega)
      have := good_some w b off da c m dc (cnt h) h ds n hn hm hO hc hD hT (by rw [e2, hlen]) hf.1.1.2.1 hf.1.1.2.2
      have e : good h n ds = (blk ds (cnt h) && decide (num h 12 4 = sumV h ds)) := by
        unfold good; rw [decide_eq_true hl, Bool.true_and, e2, hlen]
      rw [e]; exact this
    · rw [if_neg hh] at hl'; exact absurd rfl hl'
end Go.Proofs.YtamlbpbhlgmcoaaGreatDoor

namespace Go.Proofs.YtamlbpbhlgmcoaaGreatDoor
open Go.RowKit Rec

/-- 512 times this one -/
def one (c : Int) : List Int := List.replicate 512 c
end Go.Proofs.YtamlbpbhlgmcoaaGreatDoor

namespace Go.Proofs.YtamlbpbhlgmcoaaGreatDoor
open Go.RowKit Rec

theorem zs_bd : ∀ i, 0 ≤ nth zs i ∧ nth zs i < 256 := fun i => by rw [nth_zs]; omega
theorem zr_zs : zr zs 0 512 = true := zr_true _ _ _ (fun _ _ => nth_zs _)
end Go.Proofs.YtamlbpbhlgmcoaaGreatDoor

namespace Go.Proofs.YtamlbpbhlgmcoaaGreatDoor
open Go.RowKit Rec

/-- where a plan's numbers stand -/
def atP (st : List Int) : Nat → Int
  | 0 => 97
  | j + 1 => atP st j + 1 + nth st j % 18446744073709551616 % 160
def nsP (st : List Int) (j : Nat) : List Int := (List.range j).map fun i => atP st (i + 1)
/-- the bytes of its blocks -/
def byteP (sd : List Int) (i k : Nat) : Int := if sd.length = 0 then 0 else (nth sd ((k + i) % sd.length) + i) % 256
def blkP (sd : List Int) (i : Nat) : List Int := (List.range 512).map (byteP sd i)
theorem blkP_length (sd : List Int) (i : Nat) : (blkP sd i).length = 512 := by unfold blkP; rw [List.length_map, List.length_range]
def dsP (sd : List Int) (j : Nat) : List (List Int) := (List.range j).map (blkP sd)
theorem dsP_succ (sd : List Int) (j : Nat) : dsP sd (j + 1) = dsP sd j ++ [blkP sd j] := by
  unfold dsP; rw [List.range_succ, List.map_append]; rfl
/-- a plan's memory -/
structure PlanAt (w : World) (sa : Option Addr) (sn : Nat) (ba : Option Addr) (bn : Nat) (st sd : List Int) : Prop where
  sl : st.length = sn
  ints : Ints w sa st
  wf : ∀ i, -9223372036854775808 ≤ nth st i ∧ nth st i ≤ 9223372036854775807
  bl : sd.length = bn
  bytes : Bytes w ba sd
theorem PlanAt.on {w w' : World} {sa ba : Option Addr} {sn bn : Nat} {st sd : List Int} (h : PlanAt w sa sn ba bn st sd) (hb : Below w.heap.size w w') : PlanAt w' sa sn ba bn st sd := ⟨h.sl, h.ints.on hb, h.wf, h.bl, h.bytes.on hb⟩

theorem info22 : (Tryz.prog.info? 37).map (fun i => (i.zero, i.size, i.bytes)) = some (some (.slice none 0 0), 1, 24) := by kernel_rfl
/-- append of numbers to nil or one's own -/
theorem wp_iown {ops : Array Oper} {rest : List Oper} {o : Oper} {a : Act} {Q : Exit → Act → World → Prop} {w : World} (hgd : o.guard = none) (s x : Operand)
    (ho : o.op = .call { callee := .builtin .append, args := #[s, x], argTypes := #[75, 75] }) (v : Value) (k : Nat) (l : List Int) (hs : a.eval s = v) (hown : w.ownsRow 0 3 1 v k (l.map (Value.int .i64)))
    (ad : Addr) (m c : Nat) (y : List Int) (hx : a.eval x = .slice (some ad) m c) (hm : 0 < m) (hl : y.length = m) (hb : ∀ j, j < y.length → w.cell? (ad.add j) = some (.int .i64 (nth y j))) (h47 : k + m ≤ 17592186044416)
    (h : ∀ g cap w', w'.ownsRow 0 3 1 (.slice (some ⟨g, 0, none⟩) (k + m) cap) (k + m) ((l ++ y).map (Value.int .i64)) → Fr (fun k => v.ownBlock = some k) w w' → (v.ownBlock = some g ∨ w.heap.size ≤ g) → wpList Tryz.prog ops Q rest (a.put o.dst (.slice (some ⟨g, 0, none⟩) (k + m) cap)) w') :
    wpList Tryz.prog ops Q (o :: rest) a w := by
  obtain ⟨i0, hi, hz0, hz1, hz2⟩ := info_parts info3
  refine wp_own hgd s x 75 ho 3 i0 _ 1 8 Tryz.underlying75 hi hz0 hz1 hz2 rfl (by decide) v k _ hs hown ad m c (y.map (Value.int .i64)) hx hm (by rw [List.length_map, hl, Nat.mul_one]) ?_ ?_ (by unfold maxLen; omega) (by omega) ?_
  · intro j u hj
    have hlt : j < y.length := by
      by_cases hlt : j < y.length
      · exact hlt
      · rw [List.getElem?_eq_none (by simp; omega)] at hj; cases hj
    have e : (y.map (Value.int .i64))[j]? = some (.int .i64 (nth y j)) := by simp [nth, List.getD, hlt]
    rw [e] at hj
    cases hj
    exact hb j hlt
  · intro u hu
    obtain ⟨c, _, rfl⟩ := List.mem_map.1 hu
    rfl
  intro g cap w' h1 h2 h3
  rw [← List.map_append] at h1
  exact h g cap w' h1 h2 h3
/-- append of slices to nil or one's own -/
theorem wp_sown {ops : Array Oper} {rest : List Oper} {o : Oper} {a : Act} {Q : Exit → Act → World → Prop} {w : World} (hgd : o.guard = none) (s x : Operand)
    (ho : o.op = .call { callee := .builtin .append, args := #[s, x], argTypes := #[33, 33] }) (v : Value) (k : Nat) (l : List Value) (hs : a.eval s = v) (hown : w.ownsRow 0 37 1 v k l)
    (ad : Addr) (m c : Nat) (y : List Value) (hx : a.eval x = .slice (some ad) m c) (hm : 0 < m) (hl : y.length = m) (hb : ∀ j u, y[j]? = some u → w.cell? (ad.add j) = some u) (h1c : ∀ u ∈ y, u.oneCell' = true) (h47 : k + m ≤ 5864062014805)
    (h : ∀ g cap w', w'.ownsRow 0 37 1 (.slice (some ⟨g, 0, none⟩) (k + m) cap) (k + m) (l ++ y) → Fr (fun k => v.ownBlock = some k) w w' → (v.ownBlock = some g ∨ w.heap.size ≤ g) → wpList Tryz.prog ops Q rest (a.put o.dst (.slice (some ⟨g, 0, none⟩) (k + m) cap)) w') :
    wpList Tryz.prog ops Q (o :: rest) a w := by
  obtain ⟨i0, hi, hz0, hz1, hz2⟩ := info_parts info22
  exact wp_own hgd s x 33 ho 37 i0 _ 1 24 Tryz.underlying33 hi hz0 hz1 hz2 rfl (by decide) v k _ hs hown ad m c y hx hm (by rw [hl, Nat.mul_one]) hb h1c (by unfold maxLen; omega) (by omega) h
/-- rows of different kinds are different rows -/
theorem own_type {w : World} {B e size n : Nat} {v : Value} {xs : List Value} (h : w.ownsRow B e size v n xs) {k : Nat} (hk : v.ownBlock = some k) : ∃ cur, w.heap[k]? = some (.cells cur e (0, 0)) := by
  rcases h.2 with ⟨rfl, _⟩ | ⟨g, cap, cur, rfl, _, hg, _⟩
  · cases hk
  · cases hk; exact ⟨cur, hg⟩
theorem own_apart {w : World} {B B' e e' size size' n n' : Nat} {v v' : Value} {xs xs' : List Value} (h : w.ownsRow B e size v n xs) (h' : w.ownsRow B' e' size' v' n' xs') (hne : e ≠ e') (k : Nat) (hk : v.ownBlock = some k) : ¬ v'.ownBlock = some k := by
  intro hk'
  obtain ⟨c1, h1⟩ := own_type h hk
  obtain ⟨c2, h2⟩ := own_type h' hk'
  rw [h1] at h2
  cases h2
  exact hne rfl
theorem own_apartB {w : World} {B e size n g cap : Nat} {v : Value} {xs : List Value} {l : List Int} (h : w.ownsRow B e size v n xs) (h' : OwnB w g cap l) (hne : e ≠ 5) : ¬ v.ownBlock = some g := by
  intro hk
  obtain ⟨c1, h1⟩ := own_type h hk
  obtain ⟨cur, h2, _, _⟩ := h'.row
  rw [h1] at h2
  cases h2
  exact hne rfl
/-- slices of bytes, and what they hold -/
structure SlAt (w : World) (vs : List Value) (ds : List (List Int)) : Prop where
  len : vs.length = ds.length
  at_ : ∀ i, i < ds.length → ∃ b off c, vs[i]? = some (.slice (some ⟨b, off, none⟩) (row ds i).length c) ∧ Bytes w (some ⟨b, off, none⟩) (row ds i)
theorem SlAt.on {w w' : World} {vs : List Value} {ds : List (List Int)} (h : SlAt w vs ds) (hb : Below w.heap.size w w') : SlAt w' vs ds :=
  ⟨h.len, fun i hi => by obtain ⟨b, off, c, h1, h2⟩ := h.at_ i hi; exact ⟨b, off, c, h1, h2.on hb⟩⟩
theorem row_append (ds es : List (List Int)) (i : Nat) : row (ds ++ es) i = if i < ds.length then row ds i else row es (i - ds.length) := by
  unfold row
  by_cases h : i < ds.length
  · rw [if_pos h]; simp [List.getD, List.getElem?_append, h]
  · rw [if_neg h]; simp [List.getD, List.getElem?_append, h]
theorem SlAt.append {w : World} {vs us : List Value} {ds es : List (List Int)} (h : SlAt w vs ds) (k : SlAt w us es) : SlAt w (vs ++ us) (ds ++ es) := by
  refine ⟨by rw [List.length_append, List.length_append, h.len, k.len], fun i hi => ?_⟩
  rw [List.length_append] at hi
  rw [row_append]
  by_cases hlt : i < ds.length
  · rw [if_pos hlt, List.getElem?_append_left (by rw [h.len]; exact hlt)]; exact h.at_ i hlt
  · rw [if_neg hlt, List.getElem?_append_right (by rw [h.len]; omega), h.len]; exact k.at_ _ (by omega)
theorem SlAt.single {w : World} {b off c n : Nat} {l : List Int} (h : Bytes w (some ⟨b, off, none⟩) l) (hn : l.length = n) : SlAt w [.slice (some ⟨b, off, none⟩) n c] [l] :=
  ⟨rfl, fun i hi => by
    have : i = 0 := by simpa using hi
    subst this
    subst hn
    exact ⟨b, off, c, rfl, h⟩⟩
theorem SlAt.data {w : World} {g n cap : Nat} {vs : List Value} {ds : List (List Int)} (h : SlAt w vs ds) (ho : w.ownsRow 0 37 1 (.slice (some ⟨g, 0, none⟩) n cap) n vs) (hl : ds.length ≤ 1000000000000000) : Data w (some ⟨g, 0, none⟩) ds := by
  refine ⟨hl, .inr ⟨g, 0, rfl, fun i hi => ?_⟩⟩
  obtain ⟨b, off, c, h1, h2⟩ := h.at_ i hi
  refine ⟨_, c, ?_, h2, fun e => (nomatch e)⟩
  have := ho.cells (g := g) rfl i _ h1
  rw [Addr.add_lit] at this
  exact this
end Go.Proofs.YtamlbpbhlgmcoaaGreatDoor
