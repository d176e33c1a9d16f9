import Derived.Test.YtcdggcdkjooohaaGreatDoorWMl
namespace Go.Proofs.YtcdggcdkjooohaaGreatDoor
open Go.RowKit Rec

set_option maxRecDepth 100000 in
set_option maxHeartbeats 1600000 in
theorem log_no1 (w : World) (D : Dk) (h : Disk w D) (ht : touchE D 97 ≠ 0) :
    Calls Tryz.prog 60 #[.pointer (some ⟨D.d, 0, none⟩)] w fun e w' => e = gave (touchE D 97) ∧ Below w.heap.size w w' := by
  have HR : Hid (Calls Tryz.prog 87 #[.pointer (some ⟨D.d, 0, none⟩), .int .i64 97] w fun e w' => e = gave (touchE D 97) ∧ w = w') := wread_no w D h 97 ht
  clear h ht
  go_enter Tryz.func60, Tryz.ntmps60
  go_wp2_with (go_at_call 87; refine HR.out.mono ?_; rintro e w1 ⟨rfl, rfl⟩)
  exact ⟨rfl, rfl, Below.refl _ _⟩
set_option maxRecDepth 100000 in
set_option maxHeartbeats 4000000 in
theorem log_no2 (w : World) (D : Dk) (h : Disk w D) (hT : TabAt w) (hd : D.down = false) (hnb : 98 ≤ D.nb) (he : logE D.full D.nb ≠ 0) :
    Calls Tryz.prog 60 #[.pointer (some ⟨D.d, 0, none⟩)] w fun e w' => e = gave (logE D.full D.nb) ∧ Below w.heap.size w w' := by
  have HD : Hid (∀ wx, Below w.heap.size w wx → Disk wx D ∧ TabAt wx) := fun wx hb => ⟨h.on hb, hT.on hb⟩
  have HFl : Hid (D.full.length = 512 * D.nb) := h.full_length
  have hkl := logN_len D.full D.nb
  obtain ⟨k, hk⟩ : ∃ k, (logN D.full D.nb).length = k := ⟨_, rfl⟩
  have HK : Hid ((logN D.full D.nb).length = k) := hk
  rw [hk] at hkl
  have HR1 : Hid (∀ w0, Below w.heap.size w w0 → Calls Tryz.prog 87 #[.pointer (some ⟨D.d, 0, none⟩), .int .i64 97] w0 fun e w' => ∃ v, e = .returned v ∧ Below w.heap.size w w') := fun w0 hb0 => by
    refine (wread_yes w0 D (h.on hb0) 97 (by omega) hd).mono ?_
    rintro e w' ⟨g, cap, rfl, h1, h2, h3⟩
    exact ⟨_, rfl, hb0.trans (h3.mono hb0.size)⟩
  have HR2 : Hid (∀ w0, Below w.heap.size w w0 → Calls Tryz.prog 87 #[.pointer (some ⟨D.d, 0, none⟩), .int .i64 1] w0 fun e w' => ∃ g cap, e = .returned (.slice (some ⟨g, 0, none⟩) 512 cap) ∧ OwnB w' g cap (bck D.full 1) ∧ Below w.heap.size w w') := fun w0 hb0 => read_head w D hd hnb w0 hb0 h
  have HN : Hid (∀ w0 g cap, Below w.heap.size w w0 → OwnB w0 g cap (bck D.full 1) → Calls Tryz.prog 88 #[.slice (some ⟨g, 0, none⟩) 512 cap, .int .i64 D.nb] w0 fun e w' => ∃ a c, e = .returned (.tuple #[.slice a k c, .int .i64 (numsE (bck D.full 1) D.nb)]) ∧ NumsAt w w' (.slice a k c) (logN D.full D.nb) ∧ OwnB w' g cap (bck D.full 1) ∧ Below w.heap.size w w') := fun w0 g cap hb0 ho => by
    refine (nums_any w0 (some ⟨g, 0, none⟩) 512 cap _ D.nb (bck_length _ _ _ HFl.out (by omega)) ho.bytes (by have := ho.room; rw [bck_length _ _ _ HFl.out (by omega)] at this; exact this) (hT.on hb0)).mono ?_
    rintro e w' ⟨v, rfl, hv, hb⟩
    obtain ⟨a, c, rfl⟩ := hv.form
    have hkk : (numsL (bck D.full 1) D.nb).length = k := hk
    rw [hkk] at hv ⊢
    exact ⟨a, c, rfl, hv.from hb0, ho.on hb, hb0.trans (hb.mono hb0.size)⟩
  have hB0 : Hid (Below w.heap.size w w) := Below.refl _ _
  by_cases hE : numsE (bck D.full 1) D.nb = 0
  · have e0 : logE D.full D.nb = if logN D.full D.nb = [] ∨ good (bck D.full 1) D.nb (logD D.full (logN D.full D.nb).length) = true then 0 else 41 := by
      unfold logE
      rw [if_neg (by omega), if_pos hE]
    have c : ¬ (logN D.full D.nb = [] ∨ good (bck D.full 1) D.nb (logD D.full (logN D.full D.nb).length) = true) := fun c => by
      rw [if_pos c] at e0; exact he e0
    rw [if_neg c] at e0
    rw [e0]
    have h0 : 0 < k := by
      rcases Nat.eq_zero_or_pos k with h0 | h0
      · exact absurd (.inl (List.length_eq_zero_iff.1 (by rw [hk, h0]))) c
      · exact h0
    have hg : good (bck D.full 1) D.nb (logD D.full k) = false := by
      rw [hk] at c
      cases hg : good (bck D.full 1) D.nb (logD D.full k) with
      | false => rfl
      | true => exact absurd (.inr hg) c
    have HF : Hid (∀ w0, Below w.heap.size w w0 → Calls Tryz.prog 90 #[.pointer (some ⟨D.d, 0, none⟩), .int .i64 2, .int .i64 k] w0 fun e w' => ∃ a c L, e = .returned (.slice a k c) ∧ ReadAt w w' D.full 2 k (.slice a k c) L ∧ Below w0.heap.size w0 w') := fun w0 hb0 => by
      refine (readFrom_any w0 D (h.on hb0) hd 2 k (by omega)).mono ?_
      rintro e w' ⟨v, L, rfl, hr⟩
      obtain ⟨a, c, rfl⟩ := own_form hr.row
      exact ⟨a, c, L, rfl, hr.from hb0, hr.bel⟩
    have HG : Hid (∀ w0 g cap a c L, Below w.heap.size w w0 → OwnB w0 g cap (bck D.full 1) → ReadAt w w0 D.full 2 k (.slice a k c) L → Calls Tryz.prog 91 #[.slice (some ⟨g, 0, none⟩) 512 cap, .int .i64 D.nb, .slice a k c] w0 fun e w' => e = .returned (.bool false) ∧ Below w0.heap.size w0 w') := fun w0 g cap a c L hb0 ho hr => by
      obtain ⟨g2, c2, e, hd2, _⟩ := hr.data HFl.out hnb hkl h0
      cases e
      refine (good_any w0 (some ⟨g, 0, none⟩) (some ⟨g2, 0, none⟩) 512 cap k c _ (logD D.full k) D.nb (bck_length _ _ _ HFl.out (by omega)) (logD_length _ _) ho.bytes (by have := ho.room; rw [bck_length _ _ _ HFl.out (by omega)] at this; exact this) hd2 (hT.on hb0)).mono ?_
      rintro e w' ⟨rfl, hb⟩
      exact ⟨by rw [hg], hb⟩
    rw [hE] at HN
    have hz' : ((k : Int) == 0) = false := by simp; omega
    clear h hT he hd hE hk HFl e0 c h0 hg
    go_enter Tryz.func60, Tryz.ntmps60
    go_wp2_with (first
      | (go_at_call 87; refine (HR1.out _ hB0.out).mono ?_; rintro e w1 ⟨v, rfl, hb⟩; have H1 : Hid (Below w.heap.size w w1) := hb; clear hb HR1)
      | (go_at_call 87; have hh := H1.out; clear hh; refine (HR2.out _ H1.out).mono ?_; rintro e w2 ⟨g, cap, rfl, ho, hb⟩; have H2 : Hid (OwnB w2 g cap (bck D.full 1) ∧ Below w.heap.size w w2) := ⟨ho, hb⟩; clear ho hb)
      | (go_at_call 44; have hh := H2.out; clear hh; refine (blocks_any _ D (HD.out _ H2.out.2).1).mono ?_; rintro e w' ⟨rfl, rfl⟩)
      | (go_at_call 88; refine (HN.out _ _ _ H2.out.2 H2.out.1).mono ?_; rintro e w3 ⟨a, c, rfl, hn, ho, hb⟩; have H3 : Hid (NumsAt w w3 (.slice a k c) (logN D.full D.nb) ∧ OwnB w3 g cap (bck D.full 1) ∧ Below w.heap.size w w3) := ⟨hn, ho, hb⟩; clear hn ho hb HN)
      | (go_at_call 90; refine (HF.out _ H3.out.2.2).mono ?_; rintro e w4 ⟨a4, c4, L, rfl, hr, hb⟩; have H4 : Hid (ReadAt w w4 D.full 2 k (.slice a4 k c4) L ∧ Below w3.heap.size w3 w4) := ⟨hr, hb⟩; clear hr hb HF)
      | (go_at_call 44; have hh := H4.out; clear hh; refine (blocks_any _ D (HD.out _ H4.out.1.bel).1).mono ?_; rintro e w' ⟨rfl, rfl⟩)
      | (go_at_call 91; refine (HG.out _ _ _ _ _ _ H4.out.1.bel (H3.out.2.1.on H4.out.2) H4.out.1).mono ?_; rintro e w5 ⟨rfl, hb⟩; have H5 : Hid (Below w4.heap.size w4 w5) := hb; clear hb HG)
      | (go_at_call 89; have hh := HG.out; clear hh; refine (must_yes _ _).mono ?_; rintro e w' ⟨rfl, rfl⟩)
      | (go_at_call 89; refine (must_no _ _).mono ?_; rintro e w' ⟨rfl, rfl⟩))
    exact ⟨rfl, rfl, (H4.out.1.on H5.out).bel⟩
  · have e0 : logE D.full D.nb = numsE (bck D.full 1) D.nb := by
      unfold logE
      rw [if_neg (by omega), if_neg hE]
    rw [e0]
    have hz' : (numsE (bck D.full 1) D.nb == 0) = false := by simpa using hE
    clear h hT he hd hE hk HFl e0
    go_enter Tryz.func60, Tryz.ntmps60
    go_wp2_with (first
      | (go_at_call 87; refine (HR1.out _ hB0.out).mono ?_; rintro e w1 ⟨v, rfl, hb⟩; have H1 : Hid (Below w.heap.size w w1) := hb; clear hb HR1)
      | (go_at_call 87; have hh := H1.out; clear hh; refine (HR2.out _ H1.out).mono ?_; rintro e w2 ⟨g, cap, rfl, ho, hb⟩; have H2 : Hid (OwnB w2 g cap (bck D.full 1) ∧ Below w.heap.size w w2) := ⟨ho, hb⟩; clear ho hb)
      | (go_at_call 44; have hh := H2.out; clear hh; refine (blocks_any _ D (HD.out _ H2.out.2).1).mono ?_; rintro e w' ⟨rfl, rfl⟩)
      | (go_at_call 88; refine (HN.out _ _ _ H2.out.2 H2.out.1).mono ?_; rintro e w3 ⟨a, c, rfl, hn, ho, hb⟩; have H3 : Hid (NumsAt w w3 (.slice a k c) (logN D.full D.nb) ∧ OwnB w3 g cap (bck D.full 1) ∧ Below w.heap.size w w3) := ⟨hn, ho, hb⟩; clear hn ho hb HN)
      | (go_at_call 89; refine (must_no _ _).mono ?_; rintro e w' ⟨rfl, rfl⟩))
    exact ⟨rfl, rfl, H3.out.2.2⟩
theorem log_no (w : World) (D : Dk) (h : Disk w D) (hT : TabAt w) (he : openE D ≠ 0) :
    Calls Tryz.prog 60 #[.pointer (some ⟨D.d, 0, none⟩)] w fun e w' => e = gave (openE D) ∧ Below w.heap.size w w' := by
  cases hd : D.down with
  | true =>
    have e1 : openE D = 30 := by unfold openE; rw [hd]; rfl
    have e2 : touchE D 97 = 30 := by unfold touchE; rw [hd]; rfl
    rw [e1, ← e2]
    exact log_no1 w D h (by rw [e2]; decide)
  | false =>
    have e1 : openE D = logE D.full D.nb := by unfold openE; rw [hd]; rfl
    rw [e1] at he ⊢
    by_cases c : D.nb < 98
    · have e2 : touchE D 97 = 31 := by rw [touch_97 D hd, if_pos c]
      have e3 : logE D.full D.nb = 31 := by unfold logE; rw [if_pos c]
      rw [e3, ← e2]
      exact log_no1 w D h (by rw [e2]; decide)
    · exact log_no2 w D h hT hd (by omega) he
end Go.Proofs.YtcdggcdkjooohaaGreatDoor
