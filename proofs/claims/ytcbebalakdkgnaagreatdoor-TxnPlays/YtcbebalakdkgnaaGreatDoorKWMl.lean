import Derived.Test.YtcbebalakdkgnaaGreatDoorKWalC
import Derived.Test.YtcbebalakdkgnaaGreatDoorKAAbs
namespace Go.Proofs.YtcbebalakdkgnaaGreatDoor
open Go.RowKit Rec

theorem row_logD (F : List Int) (k i : Nat) (hi : i < k) : row (logD F k) i = bck F (2 + i) := by
  simp [row, logD, List.getD, hi]
theorem AD.full_length (a : AD) : a.full.length = a.las.length := by rw [AD.full_fw, fw_length]
theorem Disk.full_length {w : World} {D : Dk} (h : Disk w D) : D.full.length = 512 * D.nb := by
  rw [abs_full, AD.full_length]; exact h.lasl
/-- the data that were read, as blocks of a header -/
theorem ReadAt.data {w0 w : World} {F : List Int} {k nb : Nat} {v : Value} {L : List Rb} (h : ReadAt w0 w F 2 k v L) (hl : F.length = 512 * nb) (hn : 98 ≤ nb) (hk : k ≤ 96) (h0 : 0 < k) : ∃ g c, v = .slice (some ⟨g, 0, none⟩) k c ∧ Data w (some ⟨g, 0, none⟩) (logD F k) ∧ w0.heap.size ≤ g := by
  obtain ⟨g, c, rfl⟩ := own_some h.row h0
  refine ⟨g, c, rfl, ⟨by rw [logD_length]; omega, .inr ⟨g, 0, rfl, fun i hi => ?_⟩⟩, h.far g rfl⟩
  rw [logD_length] at hi
  have hi' : i < L.length := by rw [h.len]; exact hi
  obtain ⟨q, hq⟩ : ∃ q, L[i]? = some q := ⟨L[i], List.getElem?_eq_getElem hi'⟩
  obtain ⟨e, ho, _⟩ := h.at_ i q hq
  have hc := h.row.cells (g := g) rfl i q.v (by simp [hq])
  rw [Addr.add_lit] at hc
  refine ⟨some ⟨q.g, 0, none⟩, q.c, ?_, ?_, fun e => by cases e⟩
  · rw [row_logD F k i hi, bck_length F _ nb hl (by omega)]; exact hc
  · rw [row_logD F k i hi, ← e]; exact ho.bytes
/-- why a disk's log can't be had -/
def openE (D : Dk) : Int := if D.down then 30 else logE D.full D.nb
theorem touch_97 (D : Dk) (hd : D.down = false) : touchE D 97 = if D.nb < 98 then 31 else 0 := by
  unfold touchE
  rw [hd, if_neg (by decide)]
  by_cases c : D.nb < 98
  · rw [if_pos c, if_neg (by omega)]
  · rw [if_neg c, if_pos (by omega)]
/-- the log's numbers and data -/
structure LogAt (w0 w : World) (F : List Int) (nb : Nat) (v1 v2 : Value) (L : List Rb) : Prop where
  nums : NumsAt w0 w v1 (logN F nb)
  data : ReadAt w0 w F 2 (logN F nb).length v2 L
  bel : Below w0.heap.size w0 w
theorem NumsAt.on {w0 w w' : World} {v : Value} {l : List Int} (h : NumsAt w0 w v l) (hb : Below w.heap.size w w') : NumsAt w0 w' v l := by
  rcases h with h | ⟨g, cap, e, ho, hg⟩
  · exact .inl h
  · exact .inr ⟨g, cap, e, ho.on hb, hg⟩
theorem NumsAt.from {w0 w1 w : World} {v : Value} {l : List Int} (h : NumsAt w1 w v l) (hb : Below w0.heap.size w0 w1) : NumsAt w0 w v l := by
  rcases h with h | ⟨g, cap, e, ho, hg⟩
  · exact .inl h
  · exact .inr ⟨g, cap, e, ho, Nat.le_trans hb.size hg⟩
theorem NumsAt.form {w0 w : World} {v : Value} {l : List Int} (h : NumsAt w0 w v l) : ∃ a c, v = .slice a l.length c := by
  rcases h with ⟨rfl, rfl⟩ | ⟨g, cap, rfl, _⟩
  · exact ⟨none, 0, rfl⟩
  · exact ⟨_, _, rfl⟩
section
variable (w : World) (D : Dk) (h : Disk w D) (hT : TabAt w)
/-- the header is read -/
theorem read_head (hd : D.down = false) (hnb : 98 ≤ D.nb) (w0 : World) (hb0 : Below w.heap.size w w0) (h : Disk w D) : Calls Tryz.prog 96 #[.pointer (some ⟨D.d, 0, none⟩), .int .i64 1] w0 fun e w' => ∃ g cap, e = .returned (.slice (some ⟨g, 0, none⟩) 512 cap) ∧ OwnB w' g cap (bck D.full 1) ∧ Below w.heap.size w w' := by
  refine (wread_yes w0 D (h.on hb0) 1 (by omega) hd).mono ?_
  rintro e w' ⟨g, cap, rfl, h1, h2, h3⟩
  exact ⟨g, cap, rfl, h2, hb0.trans (h3.mono hb0.size)⟩
end
set_option maxRecDepth 100000 in
set_option maxHeartbeats 4000000 in
theorem log_yes (w : World) (D : Dk) (h : Disk w D) (hT : TabAt w) (he : openE D = 0) :
    Calls Tryz.prog 79 #[.pointer (some ⟨D.d, 0, none⟩)] w fun e w' => ∃ v1 v2 L, e = .returned (.tuple #[v1, v2]) ∧ LogAt w w' D.full D.nb v1 v2 L := by
  have hd : D.down = false := by
    cases hd : D.down with
    | false => rfl
    | true => unfold openE at he; rw [hd] at he; simp at he
  have heL : logE D.full D.nb = 0 := by unfold openE at he; rw [hd] at he; simpa using he
  have hnb : 98 ≤ D.nb := by
    by_cases c : D.nb < 98
    · unfold logE at heL; rw [if_pos c] at heL; exact absurd heL (by decide)
    · omega
  have hE : numsE (bck D.full 1) D.nb = 0 := by
    unfold logE at heL
    rw [if_neg (by omega)] at heL
    by_cases c : numsE (bck D.full 1) D.nb = 0
    · exact c
    · rw [if_neg c] at heL; exact heL
  have hG : logN D.full D.nb = [] ∨ good (bck D.full 1) D.nb (logD D.full (logN D.full D.nb).length) = true := by
    unfold logE at heL
    rw [if_neg (by omega), if_pos hE] at heL
    by_cases c : logN D.full D.nb = [] ∨ good (bck D.full 1) D.nb (logD D.full (logN D.full D.nb).length) = true
    · exact c
    · rw [if_neg c] at heL; exact absurd heL (by decide)
  have HD : Hid (∀ wx, Below w.heap.size w wx → Disk wx D ∧ TabAt wx) := fun wx hb => ⟨h.on hb, hT.on hb⟩
  have HDn : Hid (D.down = false) := hd
  have HFl : Hid (D.full.length = 512 * D.nb) := h.full_length
  have hkl := logN_len D.full D.nb
  obtain ⟨k, hk⟩ : ∃ k, (logN D.full D.nb).length = k := ⟨_, rfl⟩
  have HK : Hid ((logN D.full D.nb).length = k) := hk
  rw [hk] at hkl
  have HR1 : Hid (∀ w0, Below w.heap.size w w0 → Calls Tryz.prog 96 #[.pointer (some ⟨D.d, 0, none⟩), .int .i64 97] w0 fun e w' => ∃ v, e = .returned v ∧ Below w.heap.size w w') := fun w0 hb0 => by
    refine (wread_yes w0 D (h.on hb0) 97 (by omega) hd).mono ?_
    rintro e w' ⟨g, cap, rfl, h1, h2, h3⟩
    exact ⟨_, rfl, hb0.trans (h3.mono hb0.size)⟩
  have HR2 : Hid (∀ w0, Below w.heap.size w w0 → Calls Tryz.prog 96 #[.pointer (some ⟨D.d, 0, none⟩), .int .i64 1] w0 fun e w' => ∃ g cap, e = .returned (.slice (some ⟨g, 0, none⟩) 512 cap) ∧ OwnB w' g cap (bck D.full 1) ∧ Below w.heap.size w w') := fun w0 hb0 => read_head w D hd hnb w0 hb0 h
  have HN : Hid (∀ w0 g cap, Below w.heap.size w w0 → OwnB w0 g cap (bck D.full 1) → Calls Tryz.prog 97 #[.slice (some ⟨g, 0, none⟩) 512 cap, .int .i64 D.nb] w0 fun e w' => ∃ a c, e = .returned (.tuple #[.slice a k c, .int .i64 0]) ∧ NumsAt w w' (.slice a k c) (logN D.full D.nb) ∧ OwnB w' g cap (bck D.full 1) ∧ Below w.heap.size w w') := fun w0 g cap hb0 ho => by
    refine (nums_any w0 (some ⟨g, 0, none⟩) 512 cap _ D.nb (bck_length _ _ _ HFl.out (by omega)) ho.bytes (by have := ho.room; rw [bck_length _ _ _ HFl.out (by omega)] at this; exact this) (hT.on hb0)).mono ?_
    rintro e w' ⟨v, rfl, hv, hb⟩
    obtain ⟨a, c, rfl⟩ := hv.form
    have hkk : (numsL (bck D.full 1) D.nb).length = k := hk
    rw [hkk] at hv ⊢
    exact ⟨a, c, by rw [hE], hv.from hb0, ho.on hb, hb0.trans (hb.mono hb0.size)⟩
  have HF : Hid (∀ w0, Below w.heap.size w w0 → Calls Tryz.prog 99 #[.pointer (some ⟨D.d, 0, none⟩), .int .i64 2, .int .i64 k] w0 fun e w' => ∃ a c L, e = .returned (.slice a k c) ∧ ReadAt w w' D.full 2 k (.slice a k c) L ∧ Below w0.heap.size w0 w') := fun w0 hb0 => by
    refine (readFrom_any w0 D (h.on hb0) hd 2 k (by omega)).mono ?_
    rintro e w' ⟨v, L, rfl, hr⟩
    obtain ⟨a, c, rfl⟩ := own_form hr.row
    exact ⟨a, c, L, rfl, hr.from hb0, hr.bel⟩
  have HG : Hid (0 < k → ∀ w0 g cap a c L, Below w.heap.size w w0 → OwnB w0 g cap (bck D.full 1) → ReadAt w w0 D.full 2 k (.slice a k c) L → Calls Tryz.prog 100 #[.slice (some ⟨g, 0, none⟩) 512 cap, .int .i64 D.nb, .slice a k c] w0 fun e w' => e = .returned (.bool true) ∧ Below w0.heap.size w0 w') := fun h0 w0 g cap a c L hb0 ho hr => by
    obtain ⟨g2, c2, e, hd2, _⟩ := hr.data HFl.out hnb hkl h0
    cases e
    have hg : good (bck D.full 1) D.nb (logD D.full k) = true := by
      rcases hG with e | e
      · rw [e] at hk; simp at hk; omega
      · rw [hk] at e; exact e
    refine (good_any w0 (some ⟨g, 0, none⟩) (some ⟨g2, 0, none⟩) 512 cap k c _ (logD D.full k) D.nb (bck_length _ _ _ HFl.out (by omega)) (logD_length _ _) ho.bytes (by have := ho.room; rw [bck_length _ _ _ HFl.out (by omega)] at this; exact this) hd2 (hT.on hb0)).mono ?_
    rintro e w' ⟨rfl, hb⟩
    exact ⟨by rw [hg], hb⟩
  clear h hT he hd heL hE hG hk HDn HFl
  have hB0 : Hid (Below w.heap.size w w) := Below.refl _ _
  by_cases hz : k = 0
  · have hz' : ((k : Int) == 0) = true := by simp [hz]
    have HZ : Hid (k = 0) := hz
    clear hz
    go_enter Tryz.func79, Tryz.ntmps79
    go_wp2_with (first
      | (go_at_call 96; refine (HR1.out _ hB0.out).mono ?_; rintro e w1 ⟨v, rfl, hb⟩; have H1 : Hid (Below w.heap.size w w1) := hb; clear hb HR1)
      | (go_at_call 96; have hh := H1.out; clear hh; refine (HR2.out _ H1.out).mono ?_; rintro e w2 ⟨g, cap, rfl, ho, hb⟩; have H2 : Hid (OwnB w2 g cap (bck D.full 1) ∧ Below w.heap.size w w2) := ⟨ho, hb⟩; clear ho hb)
      | (go_at_call 68; have hh := H2.out; clear hh; refine (blocks_any _ D (HD.out _ H2.out.2).1).mono ?_; rintro e w' ⟨rfl, rfl⟩)
      | (go_at_call 97; refine (HN.out _ _ _ H2.out.2 H2.out.1).mono ?_; rintro e w3 ⟨a, c, rfl, hn, ho, hb⟩; have H3 : Hid (NumsAt w w3 (.slice a k c) (logN D.full D.nb) ∧ OwnB w3 g cap (bck D.full 1) ∧ Below w.heap.size w w3) := ⟨hn, ho, hb⟩; clear hn ho hb)
      | (go_at_call 99; refine (HF.out _ H3.out.2.2).mono ?_; rintro e w4 ⟨a4, c4, L, rfl, hr, hb⟩; have H4 : Hid (ReadAt w w4 D.full 2 k (.slice a4 k c4) L ∧ Below w3.heap.size w3 w4) := ⟨hr, hb⟩; clear hr hb)
      | (go_at_call 98; refine (must_yes _ _).mono ?_; rintro e w' ⟨rfl, rfl⟩))
    go_ret2
    exact ⟨_, _, L, rfl, H3.out.1.on H4.out.2, by rw [HK.out]; exact H4.out.1, H4.out.1.bel⟩
  · have hz' : ((k : Int) == 0) = false := by simp [hz]
    replace HG := HG.out (by omega)
    replace HG : Hid _ := HG
    clear hz
    go_enter Tryz.func79, Tryz.ntmps79
    go_wp2_with (first
      | (go_at_call 96; refine (HR1.out _ hB0.out).mono ?_; rintro e w1 ⟨v, rfl, hb⟩; have H1 : Hid (Below w.heap.size w w1) := hb; clear hb HR1)
      | (go_at_call 96; have hh := H1.out; clear hh; refine (HR2.out _ H1.out).mono ?_; rintro e w2 ⟨g, cap, rfl, ho, hb⟩; have H2 : Hid (OwnB w2 g cap (bck D.full 1) ∧ Below w.heap.size w w2) := ⟨ho, hb⟩; clear ho hb)
      | (go_at_call 68; have hh := H2.out; clear hh; refine (blocks_any _ D (HD.out _ H2.out.2).1).mono ?_; rintro e w' ⟨rfl, rfl⟩)
      | (go_at_call 97; refine (HN.out _ _ _ H2.out.2 H2.out.1).mono ?_; rintro e w3 ⟨a, c, rfl, hn, ho, hb⟩; have H3 : Hid (NumsAt w w3 (.slice a k c) (logN D.full D.nb) ∧ OwnB w3 g cap (bck D.full 1) ∧ Below w.heap.size w w3) := ⟨hn, ho, hb⟩; clear hn ho hb)
      | (go_at_call 99; refine (HF.out _ H3.out.2.2).mono ?_; rintro e w4 ⟨a4, c4, L, rfl, hr, hb⟩; have H4 : Hid (ReadAt w w4 D.full 2 k (.slice a4 k c4) L ∧ Below w3.heap.size w3 w4) := ⟨hr, hb⟩; clear hr hb)
      | (go_at_call 68; have hh := H4.out; clear hh; refine (blocks_any _ D (HD.out _ H4.out.1.bel).1).mono ?_; rintro e w' ⟨rfl, rfl⟩)
      | (go_at_call 100; refine (HG.out _ _ _ _ _ _ H4.out.1.bel (H3.out.2.1.on H4.out.2) H4.out.1).mono ?_; rintro e w5 ⟨rfl, hb⟩; have H5 : Hid (Below w4.heap.size w4 w5) := hb; clear hb)
      | (go_at_call 98; refine (must_yes _ _).mono ?_; rintro e w' ⟨rfl, rfl⟩))
    go_ret2
    exact ⟨_, _, L, rfl, (H3.out.1.on H4.out.2).on H5.out, by rw [HK.out]; exact H4.out.1.on H5.out, (H4.out.1.on H5.out).bel⟩
end Go.Proofs.YtcbebalakdkgnaaGreatDoor

namespace Go.Proofs.YtcbebalakdkgnaaGreatDoor
open Go.RowKit Rec

set_option maxRecDepth 100000 in
set_option maxHeartbeats 1600000 in
theorem log_no1 (w : World) (D : Dk) (h : Disk w D) (ht : touchE D 97 ≠ 0) :
    Calls Tryz.prog 79 #[.pointer (some ⟨D.d, 0, none⟩)] w fun e w' => e = gave (touchE D 97) ∧ Below w.heap.size w w' := by
  have HR : Hid (Calls Tryz.prog 96 #[.pointer (some ⟨D.d, 0, none⟩), .int .i64 97] w fun e w' => e = gave (touchE D 97) ∧ w = w') := wread_no w D h 97 ht
  clear h ht
  go_enter Tryz.func79, Tryz.ntmps79
  go_wp2_with (go_at_call 96; refine HR.out.mono ?_; rintro e w1 ⟨rfl, rfl⟩)
  exact ⟨rfl, rfl, Below.refl _ _⟩
set_option maxRecDepth 100000 in
set_option maxHeartbeats 4000000 in
theorem log_no2 (w : World) (D : Dk) (h : Disk w D) (hT : TabAt w) (hd : D.down = false) (hnb : 98 ≤ D.nb) (he : logE D.full D.nb ≠ 0) :
    Calls Tryz.prog 79 #[.pointer (some ⟨D.d, 0, none⟩)] w fun e w' => e = gave (logE D.full D.nb) ∧ Below w.heap.size w w' := by
  have HD : Hid (∀ wx, Below w.heap.size w wx → Disk wx D ∧ TabAt wx) := fun wx hb => ⟨h.on hb, hT.on hb⟩
  have HFl : Hid (D.full.length = 512 * D.nb) := h.full_length
  have hkl := logN_len D.full D.nb
  obtain ⟨k, hk⟩ : ∃ k, (logN D.full D.nb).length = k := ⟨_, rfl⟩
  have HK : Hid ((logN D.full D.nb).length = k) := hk
  rw [hk] at hkl
  have HR1 : Hid (∀ w0, Below w.heap.size w w0 → Calls Tryz.prog 96 #[.pointer (some ⟨D.d, 0, none⟩), .int .i64 97] w0 fun e w' => ∃ v, e = .returned v ∧ Below w.heap.size w w') := fun w0 hb0 => by
    refine (wread_yes w0 D (h.on hb0) 97 (by omega) hd).mono ?_
    rintro e w' ⟨g, cap, rfl, h1, h2, h3⟩
    exact ⟨_, rfl, hb0.trans (h3.mono hb0.size)⟩
  have HR2 : Hid (∀ w0, Below w.heap.size w w0 → Calls Tryz.prog 96 #[.pointer (some ⟨D.d, 0, none⟩), .int .i64 1] w0 fun e w' => ∃ g cap, e = .returned (.slice (some ⟨g, 0, none⟩) 512 cap) ∧ OwnB w' g cap (bck D.full 1) ∧ Below w.heap.size w w') := fun w0 hb0 => read_head w D hd hnb w0 hb0 h
  have HN : Hid (∀ w0 g cap, Below w.heap.size w w0 → OwnB w0 g cap (bck D.full 1) → Calls Tryz.prog 97 #[.slice (some ⟨g, 0, none⟩) 512 cap, .int .i64 D.nb] w0 fun e w' => ∃ a c, e = .returned (.tuple #[.slice a k c, .int .i64 (numsE (bck D.full 1) D.nb)]) ∧ NumsAt w w' (.slice a k c) (logN D.full D.nb) ∧ OwnB w' g cap (bck D.full 1) ∧ Below w.heap.size w w') := fun w0 g cap hb0 ho => by
    refine (nums_any w0 (some ⟨g, 0, none⟩) 512 cap _ D.nb (bck_length _ _ _ HFl.out (by omega)) ho.bytes (by have := ho.room; rw [bck_length _ _ _ HFl.out (by omega)] at this; exact this) (hT.on hb0)).mono ?_
    rintro e w' ⟨v, rfl, hv, hb⟩
    obtain ⟨a, c, rfl⟩ := hv.form
    have hkk : (numsL (bck D.full 1) D.nb).length = k := hk
    rw [hkk] at hv ⊢
    exact ⟨a, c, rfl, hv.from hb0, ho.on hb, hb0.trans (hb.mono hb0.size)⟩
  have hB0 : Hid (Below w.heap.size w w) := Below.refl _ _
  by_cases hE : numsE (bck D.full 1) D.nb = 0
  · have e0 : logE D.full D.nb = if logN D.full D.nb = [] ∨ good (bck D.full 1) D.nb (logD D.full (logN D.full D.nb).length) = true then 0 else 41 := by
      unfold logE
      rw [if_neg (by omega), if_pos hE]
    have c : ¬ (logN D.full D.nb = [] ∨ good (bck D.full 1) D.nb (logD D.full (logN D.full D.nb).length) = true) := fun c => by
      rw [if_pos c] at e0; exact he e0
    rw [if_neg c] at e0
    rw [e0]
    have h0 : 0 < k := by
      rcases Nat.eq_zero_or_pos k with h0 | h0
      · exact absurd (.inl (List.length_eq_zero_iff.1 (by rw [hk, h0]))) c
      · exact h0
    have hg : good (bck D.full 1) D.nb (logD D.full k) = false := by
      rw [hk] at c
      cases hg : good (bck D.full 1) D.nb (logD D.full k) with
      | false => rfl
      | true => exact absurd (.inr hg) c
    have HF : Hid (∀ w0, Below w.heap.size w w0 → Calls Tryz.prog 99 #[.pointer (some ⟨D.d, 0, none⟩), .int .i64 2, .int .i64 k] w0 fun e w' => ∃ a c L, e = .returned (.slice a k c) ∧ ReadAt w w' D.full 2 k (.slice a k c) L ∧ Below w0.heap.size w0 w') := fun w0 hb0 => by
      refine (readFrom_any w0 D (h.on hb0) hd 2 k (by omega)).mono ?_
      rintro e w' ⟨v, L, rfl, hr⟩
      obtain ⟨a, c, rfl⟩ := own_form hr.row
      exact ⟨a, c, L, rfl, hr.from hb0, hr.bel⟩
    have HG : Hid (∀ w0 g cap a c L, Below w.heap.size w w0 → OwnB w0 g cap (bck D.full 1) → ReadAt w w0 D.full 2 k (.slice a k c) L → Calls Tryz.prog 100 #[.slice (some ⟨g, 0, none⟩) 512 cap, .int .i64 D.nb, .slice a k c] w0 fun e w' => e = .returned (.bool false) ∧ Below w0.heap.size w0 w') := fun w0 g cap a c L hb0 ho hr => by
      obtain ⟨g2, c2, e, hd2, _⟩ := hr.data HFl.out hnb hkl h0
      cases e
      refine (good_any w0 (some ⟨g, 0, none⟩) (some ⟨g2, 0, none⟩) 512 cap k c _ (logD D.full k) D.nb (bck_length _ _ _ HFl.out (by omega)) (logD_length _ _) ho.bytes (by have := ho.room; rw [bck_length _ _ _ HFl.out (by omega)] at this; exact this) hd2 (hT.on hb0)).mono ?_
      rintro e w' ⟨rfl, hb⟩
      exact ⟨by rw [hg], hb⟩
    rw [hE] at HN
    have hz' : ((k : Int) == 0) = false := by simp; omega
    clear h hT he hd hE hk HFl e0 c h0 hg
    go_enter Tryz.func79, Tryz.ntmps79
    go_wp2_with (first
      | (go_at_call 96; refine (HR1.out _ hB0.out).mono ?_; rintro e w1 ⟨v, rfl, hb⟩; have H1 : Hid (Below w.heap.size w w1) := hb; clear hb HR1)
      | (go_at_call 96; have hh := H1.out; clear hh; refine (HR2.out _ H1.out).mono ?_; rintro e w2 ⟨g, cap, rfl, ho, hb⟩; have H2 : Hid (OwnB w2 g cap (bck D.full 1) ∧ Below w.heap.size w w2) := ⟨ho, hb⟩; clear ho hb)
      | (go_at_call 68; have hh := H2.out; clear hh; refine (blocks_any _ D (HD.out _ H2.out.2).1).mono ?_; rintro e w' ⟨rfl, rfl⟩)
      | (go_at_call 97; refine (HN.out _ _ _ H2.out.2 H2.out.1).mono ?_; rintro e w3 ⟨a, c, rfl, hn, ho, hb⟩; have H3 : Hid (NumsAt w w3 (.slice a k c) (logN D.full D.nb) ∧ OwnB w3 g cap (bck D.full 1) ∧ Below w.heap.size w w3) := ⟨hn, ho, hb⟩; clear hn ho hb HN)
      | (go_at_call 99; refine (HF.out _ H3.out.2.2).mono ?_; rintro e w4 ⟨a4, c4, L, rfl, hr, hb⟩; have H4 : Hid (ReadAt w w4 D.full 2 k (.slice a4 k c4) L ∧ Below w3.heap.size w3 w4) := ⟨hr, hb⟩; clear hr hb HF)
      | (go_at_call 68; have hh := H4.out; clear hh; refine (blocks_any _ D (HD.out _ H4.out.1.bel).1).mono ?_; rintro e w' ⟨rfl, rfl⟩)
      | (go_at_call 100; refine (HG.out _ _ _ _ _ _ H4.out.1.bel (H3.out.2.1.on H4.out.2) H4.out.1).mono ?_; rintro e w5 ⟨rfl, hb⟩; have H5 : Hid (Below w4.heap.size w4 w5) := hb; clear hb HG)
      | (go_at_call 98; have hh := HG.out; clear hh; refine (must_yes _ _).mono ?_; rintro e w' ⟨rfl, rfl⟩)
      | (go_at_call 98; refine (must_no _ _).mono ?_; rintro e w' ⟨rfl, rfl⟩))
    exact ⟨rfl, rfl, (H4.out.1.on H5.out).bel⟩
  · have e0 : logE D.full D.nb = numsE (bck D.full 1) D.nb := by
      unfold logE
      rw [if_neg (by omega), if_neg hE]
    rw [e0]
    have hz' : (numsE (bck D.full 1) D.nb == 0) = false := by simpa using hE
    clear h hT he hd hE hk HFl e0
    go_enter Tryz.func79, Tryz.ntmps79
    go_wp2_with (first
      | (go_at_call 96; refine (HR1.out _ hB0.out).mono ?_; rintro e w1 ⟨v, rfl, hb⟩; have H1 : Hid (Below w.heap.size w w1) := hb; clear hb HR1)
      | (go_at_call 96; have hh := H1.out; clear hh; refine (HR2.out _ H1.out).mono ?_; rintro e w2 ⟨g, cap, rfl, ho, hb⟩; have H2 : Hid (OwnB w2 g cap (bck D.full 1) ∧ Below w.heap.size w w2) := ⟨ho, hb⟩; clear ho hb)
      | (go_at_call 68; have hh := H2.out; clear hh; refine (blocks_any _ D (HD.out _ H2.out.2).1).mono ?_; rintro e w' ⟨rfl, rfl⟩)
      | (go_at_call 97; refine (HN.out _ _ _ H2.out.2 H2.out.1).mono ?_; rintro e w3 ⟨a, c, rfl, hn, ho, hb⟩; have H3 : Hid (NumsAt w w3 (.slice a k c) (logN D.full D.nb) ∧ OwnB w3 g cap (bck D.full 1) ∧ Below w.heap.size w w3) := ⟨hn, ho, hb⟩; clear hn ho hb HN)
      | (go_at_call 98; refine (must_no _ _).mono ?_; rintro e w' ⟨rfl, rfl⟩))
    exact ⟨rfl, rfl, H3.out.2.2⟩
theorem log_no (w : World) (D : Dk) (h : Disk w D) (hT : TabAt w) (he : openE D ≠ 0) :
    Calls Tryz.prog 79 #[.pointer (some ⟨D.d, 0, none⟩)] w fun e w' => e = gave (openE D) ∧ Below w.heap.size w w' := by
  cases hd : D.down with
  | true =>
    have e1 : openE D = 30 := by unfold openE; rw [hd]; rfl
    have e2 : touchE D 97 = 30 := by unfold touchE; rw [hd]; rfl
    rw [e1, ← e2]
    exact log_no1 w D h (by rw [e2]; decide)
  | false =>
    have e1 : openE D = logE D.full D.nb := by unfold openE; rw [hd]; rfl
    rw [e1] at he ⊢
    by_cases c : D.nb < 98
    · have e2 : touchE D 97 = 31 := by rw [touch_97 D hd, if_pos c]
      have e3 : logE D.full D.nb = 31 := by unfold logE; rw [if_pos c]
      rw [e3, ← e2]
      exact log_no1 w D h (by rw [e2]; decide)
    · exact log_no2 w D h hT hd (by omega) he
end Go.Proofs.YtcbebalakdkgnaaGreatDoor

namespace Go.Proofs.YtcbebalakdkgnaaGreatDoor
open Go.RowKit Rec

theorem assert_errno (e : Int) (w : World) : (Instr.typeAssert (.iface 25 (.int .i64 e)) 20 25 false).run Tryz.prog w = .ok (.int .i64 e) w := by
  simp [Instr.typeAssert, run_underlying Tryz.underlying25]
set_option maxRecDepth 100000 in
theorem why_any (w : World) (e : Int) : Calls Tryz.prog 78 #[gaveV e] w fun r w' => r = .returned (.int .i64 e) ∧ w = w' := by
  have ha := assert_errno e
  go_enter Tryz.func78, Tryz.ntmps78
  go_wp2
  go_ret
  exact ⟨rfl, rfl⟩
set_option maxRecDepth 100000 in
set_option maxHeartbeats 1600000 in
theorem catchR_panicking (p : Addr) (x e : Int) (older : List PanicEntry) (w : World) (hc : w.cell? p = some (.int .i64 x)) (hz : w.frozen? p = false) :
    CallsD Tryz.prog 77 #[.pointer (some p)] (.panicking ({ v := gaveV e, recovered := false } :: older)) w fun r u' w' =>
      r = .returned (.tuple #[]) ∧ u' = .panicking ({ v := gaveV e, recovered := true } :: older) ∧ w' = w.setCell p (.int .i64 e) := by
  refine callsD_of_wpS Tryz.func77 rfl fun c₀ cs hu => ?_
  apply wpS_seq
  apply wpS_region
  simp [wpOpsS, go_sem, recoverD, hu, Tryz.ntmps77, Exit.thenS]
  have et : (#[Value.pointer (some p)] ++ ((Array.replicate 6 undef).setIfInBounds 1 (gaveV e)).setIfInBounds 0 (gaveV e)) = #[.pointer (some p), gaveV e, gaveV e, undef, undef, undef, undef] := rfl
  rw [et]
  clear et
  refine wpS_of_wp ?_
  go_wp2_with (go_at_call 78; refine (why_any _ _).mono ?_; rintro r w' ⟨rfl, rfl⟩)
  simp [bodyPostS, results, Tryz.results77]
set_option maxRecDepth 100000 in
set_option maxHeartbeats 1600000 in
theorem catchR_idle (p : Addr) (w : World) :
    CallsD Tryz.prog 77 #[.pointer (some p)] .returning w fun r u' w' => r = .returned (.tuple #[]) ∧ u' = .returning ∧ w' = w := by
  refine callsD_of_wpS Tryz.func77 rfl fun c₀ cs hu => ?_
  apply wpS_seq
  apply wpS_region
  simp [wpOpsS, go_sem, recoverD, hu, Tryz.ntmps77, Exit.thenS]
  have et : (#[Value.pointer (some p)] ++ ((Array.replicate 6 undef).setIfInBounds 1 Value.nilIface).setIfInBounds 0 Value.nilIface) = #[.pointer (some p), .nilIface, .nilIface, undef, undef, undef, undef] := rfl
  rw [et]
  clear et
  refine wpS_of_wp ?_
  go_wp2
  cases c₀
  simp_all [bodyPostS, results, Tryz.results77]
end Go.Proofs.YtcbebalakdkgnaaGreatDoor

namespace Go.Proofs.YtcbebalakdkgnaaGreatDoor
open Go.RowKit Rec

end Go.Proofs.YtcbebalakdkgnaaGreatDoor

namespace Go.Proofs.YtcbebalakdkgnaaGreatDoor
open Go.RowKit Rec

theorem ReadAt.cell {w0 w : World} {F : List Int} {f k g c : Nat} {L : List Rb} (h : ReadAt w0 w F f k (.slice (some ⟨g, 0, none⟩) k c) L) (i : Nat) (q : Rb) (hq : L[i]? = some q) : w.cell? ⟨g, i, none⟩ = some (.slice (some ⟨q.g, 0, none⟩) 512 q.c) := by
  have hc := h.row.cells (g := g) rfl i q.v (by simp [hq])
  rw [Addr.add_lit] at hc
  rw [Nat.zero_add] at hc
  exact hc
end Go.Proofs.YtcbebalakdkgnaaGreatDoor

namespace Go.Proofs.YtcbebalakdkgnaaGreatDoor
open Go.RowKit Rec

end Go.Proofs.YtcbebalakdkgnaaGreatDoor

namespace Go.Proofs.YtcbebalakdkgnaaGreatDoor
open Go.RowKit Rec

theorem LogAt.on {w0 w w' : World} {F : List Int} {nb : Nat} {v1 v2 : Value} {L : List Rb} (h : LogAt w0 w F nb v1 v2 L) (hb : Below w.heap.size w w') : LogAt w0 w' F nb v1 v2 L :=
  ⟨h.nums.on hb, h.data.on hb, h.bel.trans (hb.mono h.bel.size)⟩
/-- a number and its block -/
theorem LogAt.at_ {w0 w : World} {F : List Int} {nb k : Nat} {v1 v2 : Value} {L : List Rb} (h : LogAt w0 w F nb v1 v2 L) (hk : (logN F nb).length = k) (h0 : 0 < k) :
    ∃ gn cn gd cd, v1 = .slice (some ⟨gn, 0, none⟩) k cn ∧ v2 = .slice (some ⟨gd, 0, none⟩) k cd ∧ w0.heap.size ≤ gn ∧ w0.heap.size ≤ gd ∧ ∀ i, i < k → w.cell? ⟨gn, i, none⟩ = some (.int .i64 (nth (logN F nb) i)) ∧ ∃ g c, w.cell? ⟨gd, i, none⟩ = some (.slice (some ⟨g, 0, none⟩) 512 c) ∧ OwnB w g c (bck F (2 + i)) ∧ w0.heap.size ≤ g := by
  have hd := h.data
  rw [hk] at hd
  obtain ⟨gd, cd, rfl⟩ := own_some hd.row h0
  rcases h.nums with ⟨e, _⟩ | ⟨gn, cn, e, ho, hg⟩
  · rw [e] at hk; simp at hk; omega
  · rw [hk] at e
    refine ⟨gn, cn, gd, cd, e, rfl, hg, hd.far gd rfl, fun i hi => ⟨ho.cell i (by rw [hk]; exact hi), ?_⟩⟩
    obtain ⟨q, hq⟩ : ∃ q, L[i]? = some q := ⟨L[i]'(by rw [hd.len]; exact hi), List.getElem?_eq_getElem _⟩
    obtain ⟨e1, e2, e3⟩ := hd.at_ i q hq
    rw [e1] at e2
    exact ⟨q.g, q.c, hd.cell i q hq, e2, e3⟩
end Go.Proofs.YtcbebalakdkgnaaGreatDoor

namespace Go.Proofs.YtcbebalakdkgnaaGreatDoor
open Go.RowKit Rec

theorem openE_facts {D : Dk} (he : openE D = 0) : D.down = false ∧ 98 ≤ D.nb ∧ logE D.full D.nb = 0 := by
  have hd : D.down = false := by
    cases hd : D.down with
    | false => rfl
    | true => unfold openE at he; rw [hd] at he; simp at he
  have heL : logE D.full D.nb = 0 := by unfold openE at he; rw [hd] at he; simpa using he
  refine ⟨hd, ?_, heL⟩
  by_cases c : D.nb < 98
  · unfold logE at heL; rw [if_pos c] at heL; exact absurd heL (by decide)
  · omega
theorem logN_nat (F : List Int) (nb j : Nat) (hj : j < (logN F nb).length) : ∃ m : Nat, nth (logN F nb) j = (m : Int) ∧ 98 ≤ m ∧ m < nb := by
  have hne : logN F nb ≠ [] := fun e => by rw [e] at hj; simp at hj
  have := pre_bd _ _ (numsL_ok _ _ hne).1 j hj
  refine ⟨(nth (logN F nb) j).toNat, ?_, ?_, ?_⟩
  · have : 0 ≤ nth (logN F nb) j := by have h := this; unfold logN; omega
    omega
  · have h := this; unfold logN; omega
  · have h := this; unfold logN; omega
end Go.Proofs.YtcbebalakdkgnaaGreatDoor

namespace Go.Proofs.YtcbebalakdkgnaaGreatDoor
open Go.RowKit Rec

theorem alloc_size (w : World) (o : Obj) : (w.alloc o).heap.size = w.heap.size + 1 := Array.size_push _
end Go.Proofs.YtcbebalakdkgnaaGreatDoor

namespace Go.Proofs.YtcbebalakdkgnaaGreatDoor
open Go.RowKit Rec

theorem infoF : (Tryz.prog.info? 65).map (fun i => (i.zero, i.size, i.bytes)) = some (some .nilFunc, 1, 8) := by kernel_rfl
theorem newsF (w : World) (v : Value) : ∀ j u, [v][j]? = some u → (w.alloc (.cells #[v] 65)).cell? ((⟨w.heap.size, 0, none⟩ : Addr).add j) = some u := fun m u hm => by
  have : m = 0 := by
    have := (List.getElem?_eq_some_iff.1 hm).1
    simp at this; omega
  subst this
  simp at hm
  subst hm
  rw [Addr.add_lit, cell_of_row _ _ _ _ _ _ (heap_alloc_new _ _)]
  rfl
theorem step_f1 {ops : Array Oper} {o : Oper} {act : Act} {K : Act → World → Prop} {Q : Exit → Act → World → Prop} {E : Prop} {w1 : World} (hgd : o.guard = none) (s x : Operand)
    (ho : o.op = .call { callee := .builtin .append, args := #[s, x], argTypes := #[122, 122] }) (v : Value) (k : Nat) (l : List Value) (u : Value) (hu : u.oneCell' = true) (hs : act.eval s = v) (hx : act.eval x = .slice (some ⟨w1.heap.size, 0, none⟩) 1 1)
    (hown : w1.ownsRow 0 65 1 v k l) (h47 : k + 1 ≤ 5864062014805)
    (h : ∀ g cap w', w'.ownsRow 0 65 1 (.slice (some ⟨g, 0, none⟩) (k + 1) cap) (k + 1) (l ++ [u]) → Fr (fun k => v.ownBlock = some k) w1 w' → (v.ownBlock = some g ∨ w1.heap.size ≤ g) → K (act.put o.dst (.slice (some ⟨g, 0, none⟩) (k + 1) cap)) w') :
    if Region.wanted o (yielded ops act.tmps) = true then Oper.wp Tryz.prog o act (w1.alloc (.cells #[u] 65)).drew K Q else E := by
  have hA : Below w1.heap.size w1 (w1.alloc (.cells #[u] 65)).drew := ((Below.refl _ _).alloc (Nat.le_refl _) _).drew
  obtain ⟨i0, hi, hz0, hz1, hz2⟩ := info_parts infoF
  refine step_own hgd s x 122 ho 65 i0 _ 1 8 Tryz.underlying122 hi hz0 hz1 hz2 rfl (by decide) v k l hs (owns_on hown hA) ⟨w1.heap.size, 0, none⟩ 1 1 [u] hx (by omega) rfl (fun j y hy => newsF w1 u j y hy) (fun y hy => by simp at hy; subst hy; exact hu) (by unfold maxLen; omega) (by omega) ?_
  intro g cap w' h1 h2 h3
  refine h g cap w' h1 ((below_fr hA _).trans h2 (fun k hk => .inl hk)) (h3.elim .inl (fun e => .inr (Nat.le_trans hA.size e)))
theorem rows1 (w : World) (c1 : Array Value) (t1 : TypeId) : Below w.heap.size w (w.alloc (.cells c1 t1)) ∧ (w.alloc (.cells c1 t1)).heap[w.heap.size]? = some (.cells c1 t1 (0, 0)) := ⟨(Below.refl _ _).alloc (Nat.le_refl _) _, heap_alloc_new _ _⟩
theorem rows3 (w : World) (c1 c2 c3 : Array Value) (t1 t2 t3 : TypeId) : Below w.heap.size w (((w.alloc (.cells c1 t1)).alloc (.cells c2 t2)).alloc (.cells c3 t3)) ∧ (((w.alloc (.cells c1 t1)).alloc (.cells c2 t2)).alloc (.cells c3 t3)).heap[w.heap.size]? = some (.cells c1 t1 (0, 0)) ∧ (((w.alloc (.cells c1 t1)).alloc (.cells c2 t2)).alloc (.cells c3 t3)).heap[w.heap.size + 1]? = some (.cells c2 t2 (0, 0)) ∧ (((w.alloc (.cells c1 t1)).alloc (.cells c2 t2)).alloc (.cells c3 t3)).heap[w.heap.size + 1 + 1]? = some (.cells c3 t3 (0, 0)) := by
  have e1 := alloc_size w (.cells c1 t1)
  have e2 := alloc_size (w.alloc (.cells c1 t1)) (.cells c2 t2)
  have b1 : Below w.heap.size w (w.alloc (.cells c1 t1)) := (Below.refl _ _).alloc (Nat.le_refl _) _
  have b2 : Below (w.alloc (.cells c1 t1)).heap.size (w.alloc (.cells c1 t1)) ((w.alloc (.cells c1 t1)).alloc (.cells c2 t2)) := (Below.refl _ _).alloc (Nat.le_refl _) _
  have b3 : Below ((w.alloc (.cells c1 t1)).alloc (.cells c2 t2)).heap.size ((w.alloc (.cells c1 t1)).alloc (.cells c2 t2)) (((w.alloc (.cells c1 t1)).alloc (.cells c2 t2)).alloc (.cells c3 t3)) := (Below.refl _ _).alloc (Nat.le_refl _) _
  have r1 := heap_alloc_new w (.cells c1 t1)
  have r2 := heap_alloc_new (w.alloc (.cells c1 t1)) (.cells c2 t2)
  have r3 := heap_alloc_new ((w.alloc (.cells c1 t1)).alloc (.cells c2 t2)) (.cells c3 t3)
  have r1' := (b2.block _ (heap_lt r1)).trans r1
  have r1'' := (b3.block _ (heap_lt r1')).trans r1'
  have r2' := (b3.block _ (heap_lt r2)).trans r2
  rw [e1] at r2'
  rw [e2, e1] at r3
  exact ⟨(b1.trans (b2.mono b1.size)).trans (b3.mono (Nat.le_trans b1.size b2.size)), r1'', r2', r3⟩
/-- what stands around a step that is added -/
theorem steps_add (B : Nat) (w w3 : World) (D : Dk) (hDl : ∀ k, D.has k → k < B) (p : Nat) (v : Value) (fs : List Value) (acts : List WA) (h : StepsAt w3 D p v fs acts) (hp : B ≤ p) (hv : ∀ k, v.ownBlock = some k → B ≤ k) (hB : B ≤ w.heap.size) (hb : Below w.heap.size w w3) (f : Value) (t : WA) (hj : JobAt w3 D p f t) (s : Nat) (hs : w3.heap[s]? = some (.cells #[.pointer (some ⟨p, 0, none⟩)] 121 (0, 0)))
    (g cap : Nat) (w' : World) (h1 : w'.ownsRow 0 65 1 (.slice (some ⟨g, 0, none⟩) (acts.length + 1) cap) (acts.length + 1) (fs ++ [f])) (h2 : Fr (fun k => v.ownBlock = some k) w3 w') (h3 : v.ownBlock = some g ∨ w3.heap.size ≤ g) :
    StepsAt (w'.setCell ⟨p, 1, none⟩ (.slice (some ⟨g, 0, none⟩) (acts.length + 1) cap)) D p (.slice (some ⟨g, 0, none⟩) (acts.length + 1) cap) (fs ++ [f]) (acts ++ [t]) ∧ B ≤ g ∧ Below B w (w'.setCell ⟨p, 1, none⟩ (.slice (some ⟨g, 0, none⟩) (acts.length + 1) cap)) ∧ w'.cell? ⟨p, 1, none⟩ = some v ∧ w'.frozen? ⟨p, 1, none⟩ = false ∧ w'.cell? ⟨s, 0, none⟩ = some (.pointer (some ⟨p, 0, none⟩)) := by
  have hnp : ¬ v.ownBlock = some p := own_apartR h.own h.row (by decide)
  have hrow : w'.heap[p]? = some (.cells #[.pointer (some ⟨D.d, 0, none⟩), v] 124 (0, 0)) := h2.heap h.row hnp
  have hsr := h2.heap hs (own_apartR h.own hs (by decide))
  have hs3 : w.heap.size ≤ w3.heap.size := hb.size
  have hg : B ≤ g := h3.elim (hv g) (fun e => by omega)
  have b1 : Below B w w3 := hb.mono hB
  have b2 : Below B w w' := b1.trans (h2.below B hv (by omega))
  refine ⟨h.more hj h1 h2 h3 (fun k hk => by have := hDl k hk; omega), hg, b2.trans (Fr.below Fr.set _ (fun k hk => by rw [hk]; exact hp) (Nat.le_trans hB b2.size)), by rw [cell_of_row _ _ _ _ _ _ hrow]; rfl, frozen_of_row _ _ _ _ _ hrow, by rw [cell_of_row _ _ _ _ _ _ hsr]; rfl⟩
set_option maxRecDepth 100000 in
set_option maxHeartbeats 4000000 in
theorem swrite_any (B : Nat) (w : World) (D : Dk) (hDl : ∀ k, D.has k → k < B) (p : Nat) (v : Value) (fs : List Value) (acts : List WA) (h : StepsAt w D p v fs acts) (hp : B ≤ p) (hv : ∀ k, v.ownBlock = some k → B ≤ k) (hB : B ≤ w.heap.size) (i g c : Nat) (x : List Int) (hx : BlkAt w g x) (hg : ¬ D.has g) (hi : i < D.nb) (hl : acts.length + 1 ≤ 1000000) :
    Calls Tryz.prog 69 #[.pointer (some ⟨p, 0, none⟩), .int .i64 i, .slice (some ⟨g, 0, none⟩) 512 c] w fun e w' => e = .returned (.tuple #[]) ∧ ∃ v' f, StepsAt w' D p v' (fs ++ [f]) (acts ++ [some (i, x)]) ∧ (∀ k, v'.ownBlock = some k → B ≤ k) ∧ Below B w w' := by
  obtain ⟨wb, hwb⟩ : ∃ wb, wb = (((w.alloc (.cells #[.pointer (some ⟨p, 0, none⟩)] 121)).alloc (.cells #[.int .i64 i] 3)).alloc (.cells #[.slice (some ⟨g, 0, none⟩) 512 c] 42)) := ⟨_, rfl⟩
  obtain ⟨hbw, hr0, hr1, hr2⟩ := rows3 w #[.pointer (some ⟨p, 0, none⟩)] #[.int .i64 i] #[.slice (some ⟨g, 0, none⟩) 512 c] 121 3 42
  rw [← hwb] at hbw hr0 hr1 hr2
  have hS0 := h.on hbw
  have hge : ∀ k, w.heap.size ≤ k → ¬ D.has k := fun k hk hd => by have := hDl k hd; omega
  have hj : JobAt wb D p (.func (.func 87) #[] #[.pointer (some ⟨w.heap.size, 0, none⟩), .pointer (some ⟨w.heap.size + 1, 0, none⟩), .pointer (some ⟨w.heap.size + 1 + 1, 0, none⟩)]) (some (i, x)) := ⟨_, _, _, g, c, rfl, hr0, hr1, hr2, hx.on hbw, hi, hge _ (by omega), hge _ (by omega), hge _ (by omega), hg⟩
  have HS : Hid (StepsAt wb D p v fs acts) := hS0
  obtain ⟨q0, q1, q2⟩ := HS.out.cells
  have q3 : wb.cell? ⟨w.heap.size, 0, none⟩ = some (.pointer (some ⟨p, 0, none⟩)) := by rw [cell_of_row _ _ _ _ _ _ hr0]; rfl
  have HAl : Hid (∀ (o : Obj), Below wb.heap.size wb (wb.alloc o)) := fun o => (Below.refl _ _).alloc (Nat.le_refl _) _
  have q4 : ∀ o, (wb.alloc o).cell? ⟨w.heap.size, 0, none⟩ = some (.pointer (some ⟨p, 0, none⟩)) := fun o => ((HAl.out o).cell (block_lt_of_cell q3)).trans q3
  have q5 : ∀ o, (wb.alloc o).cell? ⟨p, 1, none⟩ = some v := fun o => ((HAl.out o).cell (block_lt_of_cell q1)).trans q1
  have hmf : ∀ (fn : Fn) (first cap : Array Value) (w : World), (Instr.makeFunc fn first cap).run Tryz.prog w = .ok (.func fn first cap) w := fun _ _ _ _ => rfl
  have HX := steps_add B w wb D hDl p v fs acts HS.out hp hv hB hbw _ _ hj _ hr0
  have HXh : Hid (∀ g cap w', w'.ownsRow 0 65 1 (.slice (some ⟨g, 0, none⟩) (acts.length + 1) cap) (acts.length + 1) (fs ++ [(Value.func (.func 87) #[] #[.pointer (some ⟨w.heap.size, 0, none⟩), .pointer (some ⟨w.heap.size + 1, 0, none⟩), .pointer (some ⟨w.heap.size + 1 + 1, 0, none⟩)])]) → Fr (fun k => v.ownBlock = some k) wb w' → (v.ownBlock = some g ∨ wb.heap.size ≤ g) → _) := HX
  clear h hS0 hge hj HX hbw hr0 hr1 hr2
  go_enter Tryz.func69, Tryz.ntmps69
  go_wp2
  rw [← hwb]
  clear hwb
  go_region_law (refine step_f1 (w1 := wb) rfl (.tmp 10) (.tmp 12) rfl v acts.length fs (Value.func (.func 87) #[] #[.pointer (some ⟨w.heap.size, 0, none⟩), .pointer (some ⟨w.heap.size + 1, 0, none⟩), .pointer (some ⟨w.heap.size + 1 + 1, 0, none⟩)]) rfl (by simp [Act.eval]) (by simp [Act.eval]) HS.out.own (by omega) ?_; intro g5 cap5 w5 ho hf hg; obtain ⟨x1, x2, x3, x4, x5, x6⟩ := HXh.out g5 cap5 w5 ho hf hg; have H5 : Hid (StepsAt (w5.setCell ⟨p, 1, none⟩ (.slice (some ⟨g5, 0, none⟩) (acts.length + 1) cap5)) D p (.slice (some ⟨g5, 0, none⟩) (acts.length + 1) cap5) (fs ++ [(Value.func (.func 87) #[] #[.pointer (some ⟨w.heap.size, 0, none⟩), .pointer (some ⟨w.heap.size + 1, 0, none⟩), .pointer (some ⟨w.heap.size + 1 + 1, 0, none⟩)])]) (acts ++ [some (i, x)]) ∧ B ≤ g5 ∧ Below B w (w5.setCell ⟨p, 1, none⟩ (.slice (some ⟨g5, 0, none⟩) (acts.length + 1) cap5))) := ⟨x1, x2, x3⟩; clear ho hf hg x1 x2 x3)
  all_goals
    go_wp2
    go_end0
    exact ⟨rfl, _, _, H5.out.1, (fun k hk => by cases hk; exact H5.out.2.1), H5.out.2.2⟩
end Go.Proofs.YtcbebalakdkgnaaGreatDoor
