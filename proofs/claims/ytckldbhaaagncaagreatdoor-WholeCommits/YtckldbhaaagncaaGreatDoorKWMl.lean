import Derived.Test.YtckldbhaaagncaaGreatDoorKWRd
namespace Go.Proofs.YtckldbhaaagncaaGreatDoor
open Go.RowKit Rec

theorem row_logD (F : List Int) (k i : Nat) (hi : i < k) : row (logD F k) i = bck F (2 + i) := by
  simp [row, logD, List.getD, hi]
theorem AD.full_length (a : AD) : a.full.length = a.las.length := by rw [AD.full_fw, fw_length]
theorem Disk.full_length {w : World} {D : Dk} (h : Disk w D) : D.full.length = 512 * D.nb := by
  rw [abs_full, AD.full_length]; exact h.lasl
/-- the data that were read, as blocks of a header -/
theorem ReadAt.data {w0 w : World} {F : List Int} {k nb : Nat} {v : Value} {L : List Rb} (h : ReadAt w0 w F 2 k v L) (hl : F.length = 512 * nb) (hn : 98 ≤ nb) (hk : k ≤ 96) (h0 : 0 < k) : ∃ g c, v = .slice (some ⟨g, 0, none⟩) k c ∧ Data w (some ⟨g, 0, none⟩) (logD F k) ∧ w0.heap.size ≤ g := by
  obtain ⟨g, c, rfl⟩ := own_some h.row h0
  refine ⟨g, c, rfl, ⟨by rw [logD_length]; omega, .inr ⟨g, 0, rfl, fun i hi => ?_⟩⟩, h.far g rfl⟩
  rw [logD_length] at hi
  have hi' : i < L.length := by rw [h.len]; exact hi
  obtain ⟨q, hq⟩ : ∃ q, L[i]? = some q := ⟨L[i], List.getElem?_eq_getElem hi'⟩
  obtain ⟨e, ho, _⟩ := h.at_ i q hq
  have hc := h.row.cells (g := g) rfl i q.v (by simp [hq])
  rw [Addr.add_lit] at hc
  refine ⟨some ⟨q.g, 0, none⟩, q.c, ?_, ?_, fun e => by cases e⟩
  · rw [row_logD F k i hi, bck_length F _ nb hl (by omega)]; exact hc
  · rw [row_logD F k i hi, ← e]; exact ho.bytes
/-- why a disk's log can't be had -/
def openE (D : Dk) : Int := if D.down then 30 else logE D.full D.nb
theorem touch_97 (D : Dk) (hd : D.down = false) : touchE D 97 = if D.nb < 98 then 31 else 0 := by
  unfold touchE
  rw [hd, if_neg (by decide)]
  by_cases c : D.nb < 98
  · rw [if_pos c, if_neg (by omega)]
  · rw [if_neg c, if_pos (by omega)]
/-- the log's numbers and data -/
structure LogAt (w0 w : World) (F : List Int) (nb : Nat) (v1 v2 : Value) (L : List Rb) : Prop where
  nums : NumsAt w0 w v1 (logN F nb)
  data : ReadAt w0 w F 2 (logN F nb).length v2 L
  bel : Below w0.heap.size w0 w
theorem NumsAt.on {w0 w w' : World} {v : Value} {l : List Int} (h : NumsAt w0 w v l) (hb : Below w.heap.size w w') : NumsAt w0 w' v l := by
  rcases h with h | ⟨g, cap, e, ho, hg⟩
  · exact .inl h
  · exact .inr ⟨g, cap, e, ho.on hb, hg⟩
theorem NumsAt.from {w0 w1 w : World} {v : Value} {l : List Int} (h : NumsAt w1 w v l) (hb : Below w0.heap.size w0 w1) : NumsAt w0 w v l := by
  rcases h with h | ⟨g, cap, e, ho, hg⟩
  · exact .inl h
  · exact .inr ⟨g, cap, e, ho, Nat.le_trans hb.size hg⟩
theorem NumsAt.form {w0 w : World} {v : Value} {l : List Int} (h : NumsAt w0 w v l) : ∃ a c, v = .slice a l.length c := by
  rcases h with ⟨rfl, rfl⟩ | ⟨g, cap, rfl, _⟩
  · exact ⟨none, 0, rfl⟩
  · exact ⟨_, _, rfl⟩
section
variable (w : World) (D : Dk) (h : Disk w D) (hT : TabAt w)
/-- the header is read -/
theorem read_head (hd : D.down = false) (hnb : 98 ≤ D.nb) (w0 : World) (hb0 : Below w.heap.size w w0) (h : Disk w D) : Calls Tryz.prog 54 #[.pointer (some ⟨D.d, 0, none⟩), .int .i64 1] w0 fun e w' => ∃ g cap, e = .returned (.slice (some ⟨g, 0, none⟩) 512 cap) ∧ OwnB w' g cap (bck D.full 1) ∧ Below w.heap.size w w' := by
  refine (wread_yes w0 D (h.on hb0) 1 (by omega) hd).mono ?_
  rintro e w' ⟨g, cap, rfl, h1, h2, h3⟩
  exact ⟨g, cap, rfl, h2, hb0.trans (h3.mono hb0.size)⟩
end
set_option maxRecDepth 100000 in
set_option maxHeartbeats 4000000 in
theorem log_yes (w : World) (D : Dk) (h : Disk w D) (hT : TabAt w) (he : openE D = 0) :
    Calls Tryz.prog 45 #[.pointer (some ⟨D.d, 0, none⟩)] w fun e w' => ∃ v1 v2 L, e = .returned (.tuple #[v1, v2]) ∧ LogAt w w' D.full D.nb v1 v2 L := by
  have hd : D.down = false := by
    cases hd : D.down with
    | false => rfl
    | true => unfold openE at he; rw [hd] at he; simp at he
  have heL : logE D.full D.nb = 0 := by unfold openE at he; rw [hd] at he; simpa using he
  have hnb : 98 ≤ D.nb := by
    by_cases c : D.nb < 98
    · unfold logE at heL; rw [if_pos c] at heL; exact absurd heL (by decide)
    · omega
  have hE : numsE (bck D.full 1) D.nb = 0 := by
    unfold logE at heL
    rw [if_neg (by omega)] at heL
    by_cases c : numsE (bck D.full 1) D.nb = 0
    · exact c
    · rw [if_neg c] at heL; exact heL
  have hG : logN D.full D.nb = [] ∨ good (bck D.full 1) D.nb (logD D.full (logN D.full D.nb).length) = true := by
    unfold logE at heL
    rw [if_neg (by omega), if_pos hE] at heL
    by_cases c : logN D.full D.nb = [] ∨ good (bck D.full 1) D.nb (logD D.full (logN D.full D.nb).length) = true
    · exact c
    · rw [if_neg c] at heL; exact absurd heL (by decide)
  have HD : Hid (∀ wx, Below w.heap.size w wx → Disk wx D ∧ TabAt wx) := fun wx hb => ⟨h.on hb, hT.on hb⟩
  have HDn : Hid (D.down = false) := hd
  have HFl : Hid (D.full.length = 512 * D.nb) := h.full_length
  have hkl := logN_len D.full D.nb
  obtain ⟨k, hk⟩ : ∃ k, (logN D.full D.nb).length = k := ⟨_, rfl⟩
  have HK : Hid ((logN D.full D.nb).length = k) := hk
  rw [hk] at hkl
  have HR1 : Hid (∀ w0, Below w.heap.size w w0 → Calls Tryz.prog 54 #[.pointer (some ⟨D.d, 0, none⟩), .int .i64 97] w0 fun e w' => ∃ v, e = .returned v ∧ Below w.heap.size w w') := fun w0 hb0 => by
    refine (wread_yes w0 D (h.on hb0) 97 (by omega) hd).mono ?_
    rintro e w' ⟨g, cap, rfl, h1, h2, h3⟩
    exact ⟨_, rfl, hb0.trans (h3.mono hb0.size)⟩
  have HR2 : Hid (∀ w0, Below w.heap.size w w0 → Calls Tryz.prog 54 #[.pointer (some ⟨D.d, 0, none⟩), .int .i64 1] w0 fun e w' => ∃ g cap, e = .returned (.slice (some ⟨g, 0, none⟩) 512 cap) ∧ OwnB w' g cap (bck D.full 1) ∧ Below w.heap.size w w') := fun w0 hb0 => read_head w D hd hnb w0 hb0 h
  have HN : Hid (∀ w0 g cap, Below w.heap.size w w0 → OwnB w0 g cap (bck D.full 1) → Calls Tryz.prog 55 #[.slice (some ⟨g, 0, none⟩) 512 cap, .int .i64 D.nb] w0 fun e w' => ∃ a c, e = .returned (.tuple #[.slice a k c, .int .i64 0]) ∧ NumsAt w w' (.slice a k c) (logN D.full D.nb) ∧ OwnB w' g cap (bck D.full 1) ∧ Below w.heap.size w w') := fun w0 g cap hb0 ho => by
    refine (nums_any w0 (some ⟨g, 0, none⟩) 512 cap _ D.nb (bck_length _ _ _ HFl.out (by omega)) ho.bytes (by have := ho.room; rw [bck_length _ _ _ HFl.out (by omega)] at this; exact this) (hT.on hb0)).mono ?_
    rintro e w' ⟨v, rfl, hv, hb⟩
    obtain ⟨a, c, rfl⟩ := hv.form
    have hkk : (numsL (bck D.full 1) D.nb).length = k := hk
    rw [hkk] at hv ⊢
    exact ⟨a, c, by rw [hE], hv.from hb0, ho.on hb, hb0.trans (hb.mono hb0.size)⟩
  have HF : Hid (∀ w0, Below w.heap.size w w0 → Calls Tryz.prog 57 #[.pointer (some ⟨D.d, 0, none⟩), .int .i64 2, .int .i64 k] w0 fun e w' => ∃ a c L, e = .returned (.slice a k c) ∧ ReadAt w w' D.full 2 k (.slice a k c) L ∧ Below w0.heap.size w0 w') := fun w0 hb0 => by
    refine (readFrom_any w0 D (h.on hb0) hd 2 k (by omega)).mono ?_
    rintro e w' ⟨v, L, rfl, hr⟩
    obtain ⟨a, c, rfl⟩ := own_form hr.row
    exact ⟨a, c, L, rfl, hr.from hb0, hr.bel⟩
  have HG : Hid (0 < k → ∀ w0 g cap a c L, Below w.heap.size w w0 → OwnB w0 g cap (bck D.full 1) → ReadAt w w0 D.full 2 k (.slice a k c) L → Calls Tryz.prog 58 #[.slice (some ⟨g, 0, none⟩) 512 cap, .int .i64 D.nb, .slice a k c] w0 fun e w' => e = .returned (.bool true) ∧ Below w0.heap.size w0 w') := fun h0 w0 g cap a c L hb0 ho hr => by
    obtain ⟨g2, c2, e, hd2, _⟩ := hr.data HFl.out hnb hkl h0
    cases e
    have hg : good (bck D.full 1) D.nb (logD D.full k) = true := by
      rcases hG with e | e
      · rw [e] at hk; simp at hk; omega
      · rw [hk] at e; exact e
    refine (good_any w0 (some ⟨g, 0, none⟩) (some ⟨g2, 0, none⟩) 512 cap k c _ (logD D.full k) D.nb (bck_length _ _ _ HFl.out (by omega)) (logD_length _ _) ho.bytes (by have := ho.room; rw [bck_length _ _ _ HFl.out (by omega)] at this; exact this) hd2 (hT.on hb0)).mono ?_
    rintro e w' ⟨rfl, hb⟩
    exact ⟨by rw [hg], hb⟩
  clear h hT he hd heL hE hG hk HDn HFl
  have hB0 : Hid (Below w.heap.size w w) := Below.refl _ _
  by_cases hz : k = 0
  · have hz' : ((k : Int) == 0) = true := by simp [hz]
    have HZ : Hid (k = 0) := hz
    clear hz
    go_enter Tryz.func45, Tryz.ntmps45
    go_wp2_with (first
      | (go_at_call 54; refine (HR1.out _ hB0.out).mono ?_; rintro e w1 ⟨v, rfl, hb⟩; have H1 : Hid (Below w.heap.size w w1) := hb; clear hb HR1)
      | (go_at_call 54; have hh := H1.out; clear hh; refine (HR2.out _ H1.out).mono ?_; rintro e w2 ⟨g, cap, rfl, ho, hb⟩; have H2 : Hid (OwnB w2 g cap (bck D.full 1) ∧ Below w.heap.size w w2) := ⟨ho, hb⟩; clear ho hb)
      | (go_at_call 32; have hh := H2.out; clear hh; refine (blocks_any _ D (HD.out _ H2.out.2).1).mono ?_; rintro e w' ⟨rfl, rfl⟩)
      | (go_at_call 55; refine (HN.out _ _ _ H2.out.2 H2.out.1).mono ?_; rintro e w3 ⟨a, c, rfl, hn, ho, hb⟩; have H3 : Hid (NumsAt w w3 (.slice a k c) (logN D.full D.nb) ∧ OwnB w3 g cap (bck D.full 1) ∧ Below w.heap.size w w3) := ⟨hn, ho, hb⟩; clear hn ho hb)
      | (go_at_call 57; refine (HF.out _ H3.out.2.2).mono ?_; rintro e w4 ⟨a4, c4, L, rfl, hr, hb⟩; have H4 : Hid (ReadAt w w4 D.full 2 k (.slice a4 k c4) L ∧ Below w3.heap.size w3 w4) := ⟨hr, hb⟩; clear hr hb)
      | (go_at_call 56; refine (must_yes _ _).mono ?_; rintro e w' ⟨rfl, rfl⟩))
    go_ret2
    exact ⟨_, _, L, rfl, H3.out.1.on H4.out.2, by rw [HK.out]; exact H4.out.1, H4.out.1.bel⟩
  · have hz' : ((k : Int) == 0) = false := by simp [hz]
    replace HG := HG.out (by omega)
    replace HG : Hid _ := HG
    clear hz
    go_enter Tryz.func45, Tryz.ntmps45
    go_wp2_with (first
      | (go_at_call 54; refine (HR1.out _ hB0.out).mono ?_; rintro e w1 ⟨v, rfl, hb⟩; have H1 : Hid (Below w.heap.size w w1) := hb; clear hb HR1)
      | (go_at_call 54; have hh := H1.out; clear hh; refine (HR2.out _ H1.out).mono ?_; rintro e w2 ⟨g, cap, rfl, ho, hb⟩; have H2 : Hid (OwnB w2 g cap (bck D.full 1) ∧ Below w.heap.size w w2) := ⟨ho, hb⟩; clear ho hb)
      | (go_at_call 32; have hh := H2.out; clear hh; refine (blocks_any _ D (HD.out _ H2.out.2).1).mono ?_; rintro e w' ⟨rfl, rfl⟩)
      | (go_at_call 55; refine (HN.out _ _ _ H2.out.2 H2.out.1).mono ?_; rintro e w3 ⟨a, c, rfl, hn, ho, hb⟩; have H3 : Hid (NumsAt w w3 (.slice a k c) (logN D.full D.nb) ∧ OwnB w3 g cap (bck D.full 1) ∧ Below w.heap.size w w3) := ⟨hn, ho, hb⟩; clear hn ho hb)
      | (go_at_call 57; refine (HF.out _ H3.out.2.2).mono ?_; rintro e w4 ⟨a4, c4, L, rfl, hr, hb⟩; have H4 : Hid (ReadAt w w4 D.full 2 k (.slice a4 k c4) L ∧ Below w3.heap.size w3 w4) := ⟨hr, hb⟩; clear hr hb)
      | (go_at_call 32; have hh := H4.out; clear hh; refine (blocks_any _ D (HD.out _ H4.out.1.bel).1).mono ?_; rintro e w' ⟨rfl, rfl⟩)
      | (go_at_call 58; refine (HG.out _ _ _ _ _ _ H4.out.1.bel (H3.out.2.1.on H4.out.2) H4.out.1).mono ?_; rintro e w5 ⟨rfl, hb⟩; have H5 : Hid (Below w4.heap.size w4 w5) := hb; clear hb)
      | (go_at_call 56; refine (must_yes _ _).mono ?_; rintro e w' ⟨rfl, rfl⟩))
    go_ret2
    exact ⟨_, _, L, rfl, (H3.out.1.on H4.out.2).on H5.out, by rw [HK.out]; exact H4.out.1.on H5.out, (H4.out.1.on H5.out).bel⟩
end Go.Proofs.YtckldbhaaagncaaGreatDoor

namespace Go.Proofs.YtckldbhaaagncaaGreatDoor
open Go.RowKit Rec

set_option maxRecDepth 100000 in
set_option maxHeartbeats 1600000 in
theorem log_no1 (w : World) (D : Dk) (h : Disk w D) (ht : touchE D 97 ≠ 0) :
    Calls Tryz.prog 45 #[.pointer (some ⟨D.d, 0, none⟩)] w fun e w' => e = gave (touchE D 97) ∧ Below w.heap.size w w' := by
  have HR : Hid (Calls Tryz.prog 54 #[.pointer (some ⟨D.d, 0, none⟩), .int .i64 97] w fun e w' => e = gave (touchE D 97) ∧ w = w') := wread_no w D h 97 ht
  clear h ht
  go_enter Tryz.func45, Tryz.ntmps45
  go_wp2_with (go_at_call 54; refine HR.out.mono ?_; rintro e w1 ⟨rfl, rfl⟩)
  exact ⟨rfl, rfl, Below.refl _ _⟩
set_option maxRecDepth 100000 in
set_option maxHeartbeats 4000000 in
theorem log_no2 (w : World) (D : Dk) (h : Disk w D) (hT : TabAt w) (hd : D.down = false) (hnb : 98 ≤ D.nb) (he : logE D.full D.nb ≠ 0) :
    Calls Tryz.prog 45 #[.pointer (some ⟨D.d, 0, none⟩)] w fun e w' => e = gave (logE D.full D.nb) ∧ Below w.heap.size w w' := by
  have HD : Hid (∀ wx, Below w.heap.size w wx → Disk wx D ∧ TabAt wx) := fun wx hb => ⟨h.on hb, hT.on hb⟩
  have HFl : Hid (D.full.length = 512 * D.nb) := h.full_length
  have hkl := logN_len D.full D.nb
  obtain ⟨k, hk⟩ : ∃ k, (logN D.full D.nb).length = k := ⟨_, rfl⟩
  have HK : Hid ((logN D.full D.nb).length = k) := hk
  rw [hk] at hkl
  have HR1 : Hid (∀ w0, Below w.heap.size w w0 → Calls Tryz.prog 54 #[.pointer (some ⟨D.d, 0, none⟩), .int .i64 97] w0 fun e w' => ∃ v, e = .returned v ∧ Below w.heap.size w w') := fun w0 hb0 => by
    refine (wread_yes w0 D (h.on hb0) 97 (by omega) hd).mono ?_
    rintro e w' ⟨g, cap, rfl, h1, h2, h3⟩
    exact ⟨_, rfl, hb0.trans (h3.mono hb0.size)⟩
  have HR2 : Hid (∀ w0, Below w.heap.size w w0 → Calls Tryz.prog 54 #[.pointer (some ⟨D.d, 0, none⟩), .int .i64 1] w0 fun e w' => ∃ g cap, e = .returned (.slice (some ⟨g, 0, none⟩) 512 cap) ∧ OwnB w' g cap (bck D.full 1) ∧ Below w.heap.size w w') := fun w0 hb0 => read_head w D hd hnb w0 hb0 h
  have HN : Hid (∀ w0 g cap, Below w.heap.size w w0 → OwnB w0 g cap (bck D.full 1) → Calls Tryz.prog 55 #[.slice (some ⟨g, 0, none⟩) 512 cap, .int .i64 D.nb] w0 fun e w' => ∃ a c, e = .returned (.tuple #[.slice a k c, .int .i64 (numsE (bck D.full 1) D.nb)]) ∧ NumsAt w w' (.slice a k c) (logN D.full D.nb) ∧ OwnB w' g cap (bck D.full 1) ∧ Below w.heap.size w w') := fun w0 g cap hb0 ho => by
    refine (nums_any w0 (some ⟨g, 0, none⟩) 512 cap _ D.nb (bck_length _ _ _ HFl.out (by omega)) ho.bytes (by have := ho.room; rw [bck_length _ _ _ HFl.out (by omega)] at this; exact this) (hT.on hb0)).mono ?_
    rintro e w' ⟨v, rfl, hv, hb⟩
    obtain ⟨a, c, rfl⟩ := hv.form
    have hkk : (numsL (bck D.full 1) D.nb).length = k := hk
    rw [hkk] at hv ⊢
    exact ⟨a, c, rfl, hv.from hb0, ho.on hb, hb0.trans (hb.mono hb0.size)⟩
  have hB0 : Hid (Below w.heap.size w w) := Below.refl _ _
  by_cases hE : numsE (bck D.full 1) D.nb = 0
  · have e0 : logE D.full D.nb = if logN D.full D.nb = [] ∨ good (bck D.full 1) D.nb (logD D.full (logN D.full D.nb).length) = true then 0 else 41 := by
      unfold logE
      rw [if_neg (by omega), if_pos hE]
    have c : ¬ (logN D.full D.nb = [] ∨ good (bck D.full 1) D.nb (logD D.full (logN D.full D.nb).length) = true) := fun c => by
      rw [if_pos c] at e0; exact he e0
    rw [if_neg c] at e0
    rw [e0]
    have h0 : 0 < k := by
      rcases Nat.eq_zero_or_pos k with h0 | h0
      · exact absurd (.inl (List.length_eq_zero_iff.1 (by rw [hk, h0]))) c
      · exact h0
    have hg : good (bck D.full 1) D.nb (logD D.full k) = false := by
      rw [hk] at c
      cases hg : good (bck D.full 1) D.nb (logD D.full k) with
      | false => rfl
      | true => exact absurd (.inr hg) c
    have HF : Hid (∀ w0, Below w.heap.size w w0 → Calls Tryz.prog 57 #[.pointer (some ⟨D.d, 0, none⟩), .int .i64 2, .int .i64 k] w0 fun e w' => ∃ a c L, e = .returned (.slice a k c) ∧ ReadAt w w' D.full 2 k (.slice a k c) L ∧ Below w0.heap.size w0 w') := fun w0 hb0 => by
      refine (readFrom_any w0 D (h.on hb0) hd 2 k (by omega)).mono ?_
      rintro e w' ⟨v, L, rfl, hr⟩
      obtain ⟨a, c, rfl⟩ := own_form hr.row
      exact ⟨a, c, L, rfl, hr.from hb0, hr.bel⟩
    have HG : Hid (∀ w0 g cap a c L, Below w.heap.size w w0 → OwnB w0 g cap (bck D.full 1) → ReadAt w w0 D.full 2 k (.slice a k c) L → Calls Tryz.prog 58 #[.slice (some ⟨g, 0, none⟩) 512 cap, .int .i64 D.nb, .slice a k c] w0 fun e w' => e = .returned (.bool false) ∧ Below w0.heap.size w0 w') := fun w0 g cap a c L hb0 ho hr => by
      obtain ⟨g2, c2, e, hd2, _⟩ := hr.data HFl.out hnb hkl h0
      cases e
      refine (good_any w0 (some ⟨g, 0, none⟩) (some ⟨g2, 0, none⟩) 512 cap k c _ (logD D.full k) D.nb (bck_length _ _ _ HFl.out (by omega)) (logD_length _ _) ho.bytes (by have := ho.room; rw [bck_length _ _ _ HFl.out (by omega)] at this; exact this) hd2 (hT.on hb0)).mono ?_
      rintro e w' ⟨rfl, hb⟩
      exact ⟨by rw [hg], hb⟩
    rw [hE] at HN
    have hz' : ((k : Int) == 0) = false := by simp; omega
    clear h hT he hd hE hk HFl e0 c h0 hg
    go_enter Tryz.func45, Tryz.ntmps45
    go_wp2_with (first
      | (go_at_call 54; refine (HR1.out _ hB0.out).mono ?_; rintro e w1 ⟨v, rfl, hb⟩; have H1 : Hid (Below w.heap.size w w1) := hb; clear hb HR1)
      | (go_at_call 54; have hh := H1.out; clear hh; refine (HR2.out _ H1.out).mono ?_; rintro e w2 ⟨g, cap, rfl, ho, hb⟩; have H2 : Hid (OwnB w2 g cap (bck D.full 1) ∧ Below w.heap.size w w2) := ⟨ho, hb⟩; clear ho hb)
      | (go_at_call 32; have hh := H2.out; clear hh; refine (blocks_any _ D (HD.out _ H2.out.2).1).mono ?_; rintro e w' ⟨rfl, rfl⟩)
      | (go_at_call 55; refine (HN.out _ _ _ H2.out.2 H2.out.1).mono ?_; rintro e w3 ⟨a, c, rfl, hn, ho, hb⟩; have H3 : Hid (NumsAt w w3 (.slice a k c) (logN D.full D.nb) ∧ OwnB w3 g cap (bck D.full 1) ∧ Below w.heap.size w w3) := ⟨hn, ho, hb⟩; clear hn ho hb HN)
      | (go_at_call 57; refine (HF.out _ H3.out.2.2).mono ?_; rintro e w4 ⟨a4, c4, L, rfl, hr, hb⟩; have H4 : Hid (ReadAt w w4 D.full 2 k (.slice a4 k c4) L ∧ Below w3.heap.size w3 w4) := ⟨hr, hb⟩; clear hr hb HF)
      | (go_at_call 32; have hh := H4.out; clear hh; refine (blocks_any _ D (HD.out _ H4.out.1.bel).1).mono ?_; rintro e w' ⟨rfl, rfl⟩)
      | (go_at_call 58; refine (HG.out _ _ _ _ _ _ H4.out.1.bel (H3.out.2.1.on H4.out.2) H4.out.1).mono ?_; rintro e w5 ⟨rfl, hb⟩; have H5 : Hid (Below w4.heap.size w4 w5) := hb; clear hb HG)
      | (go_at_call 56; have hh := HG.out; clear hh; refine (must_yes _ _).mono ?_; rintro e w' ⟨rfl, rfl⟩)
      | (go_at_call 56; refine (must_no _ _).mono ?_; rintro e w' ⟨rfl, rfl⟩))
    exact ⟨rfl, rfl, (H4.out.1.on H5.out).bel⟩
  · have e0 : logE D.full D.nb = numsE (bck D.full 1) D.nb := by
      unfold logE
      rw [if_neg (by omega), if_neg hE]
    rw [e0]
    have hz' : (numsE (bck D.full 1) D.nb == 0) = false := by simpa using hE
    clear h hT he hd hE hk HFl e0
    go_enter Tryz.func45, Tryz.ntmps45
    go_wp2_with (first
      | (go_at_call 54; refine (HR1.out _ hB0.out).mono ?_; rintro e w1 ⟨v, rfl, hb⟩; have H1 : Hid (Below w.heap.size w w1) := hb; clear hb HR1)
      | (go_at_call 54; have hh := H1.out; clear hh; refine (HR2.out _ H1.out).mono ?_; rintro e w2 ⟨g, cap, rfl, ho, hb⟩; have H2 : Hid (OwnB w2 g cap (bck D.full 1) ∧ Below w.heap.size w w2) := ⟨ho, hb⟩; clear ho hb)
      | (go_at_call 32; have hh := H2.out; clear hh; refine (blocks_any _ D (HD.out _ H2.out.2).1).mono ?_; rintro e w' ⟨rfl, rfl⟩)
      | (go_at_call 55; refine (HN.out _ _ _ H2.out.2 H2.out.1).mono ?_; rintro e w3 ⟨a, c, rfl, hn, ho, hb⟩; have H3 : Hid (NumsAt w w3 (.slice a k c) (logN D.full D.nb) ∧ OwnB w3 g cap (bck D.full 1) ∧ Below w.heap.size w w3) := ⟨hn, ho, hb⟩; clear hn ho hb HN)
      | (go_at_call 56; refine (must_no _ _).mono ?_; rintro e w' ⟨rfl, rfl⟩))
    exact ⟨rfl, rfl, H3.out.2.2⟩
theorem log_no (w : World) (D : Dk) (h : Disk w D) (hT : TabAt w) (he : openE D ≠ 0) :
    Calls Tryz.prog 45 #[.pointer (some ⟨D.d, 0, none⟩)] w fun e w' => e = gave (openE D) ∧ Below w.heap.size w w' := by
  cases hd : D.down with
  | true =>
    have e1 : openE D = 30 := by unfold openE; rw [hd]; rfl
    have e2 : touchE D 97 = 30 := by unfold touchE; rw [hd]; rfl
    rw [e1, ← e2]
    exact log_no1 w D h (by rw [e2]; decide)
  | false =>
    have e1 : openE D = logE D.full D.nb := by unfold openE; rw [hd]; rfl
    rw [e1] at he ⊢
    by_cases c : D.nb < 98
    · have e2 : touchE D 97 = 31 := by rw [touch_97 D hd, if_pos c]
      have e3 : logE D.full D.nb = 31 := by unfold logE; rw [if_pos c]
      rw [e3, ← e2]
      exact log_no1 w D h (by rw [e2]; decide)
    · exact log_no2 w D h hT hd (by omega) he
end Go.Proofs.YtckldbhaaagncaaGreatDoor
