import Derived.Test.YtpheajiepnjhdaaDoorText
import Derived.Lib.LazyBuf
import Derived.Lib.BufferWrite
import Derived.Lib.SliceRun
namespace Go.Proofs.YtpheajiepnjhdaaDoor
open Go.RowKit Rec

theorem OwnB.cells {g cap : Nat} : ∀ (m : List Int) (w : World) (off : Nat) (L : List Int), OwnB w g cap L → off + m.length ≤ L.length → (∀ i, 0 ≤ nth m i ∧ nth m i < 256) →
    OwnB (w.setCells g off (m.map (Value.int .u8))) g cap (ov L off m.length (nth m)) ∧ w.grownBy (w.setCells g off (m.map (Value.int .u8))) (some g)
  | [], w, off, L, h, _, _ => ⟨by rw [List.length_nil, ov_zero]; exact h, grown_refl _ _⟩
  | c :: t, w, off, L, h, hl, hw => by
    rw [List.length_cons] at hl
    have hc := hw 0
    have h1 := h.set off c (by omega) hc
    have hw' : ∀ i, 0 ≤ nth t i ∧ nth t i < 256 := fun i => hw (i + 1)
    have ⟨h2, h3⟩ := OwnB.cells t _ (off + 1) _ h1 (by rw [List.length_set]; omega) hw'
    refine ⟨?_, grown_trans grown_set h3⟩
    have e1 : L.set off c = ov L off 1 (nth (c :: t)) := by
      have := ov_set L off 0 (nth (c :: t)) (by omega)
      rw [ov_zero] at this
      exact this
    rw [e1] at h2
    rw [ov_ov L off 1 t.length (nth (c :: t)) (nth t) (nth (c :: t)) (fun _ _ => rfl) (fun i _ => by rw [Nat.add_comm]; rfl)] at h2
    rw [List.length_cons, Nat.add_comm]
    exact h2

theorem zero5 (w : World) : (zeroValue 5).run Tryd.prog w = .ok (.int .u8 0) w := by kernel_rfl
theorem sizeOf5 (w : World) : (Go.sizeOf 5).run Tryd.prog w = .ok 1 w := by kernel_rfl
theorem sb_cells (s : ByteArray) : (s.data.toList.map fun x => Value.int .u8 (x.toNat : Int)) = (sb s).map (Value.int .u8) := by unfold sb; rw [List.map_map]; rfl

theorem scopy_run {w : World} {g cap off B k c : Nat} {L : List Int} {t : ByteArray} (ty : TypeId) (hO : OwnB w g cap L) (hB : B = off ∨ k = 0) (hle : t.size ≤ k) (hfit : off + t.size ≤ L.length) :
    ∃ w', (Builtin.copy_ #[23, 9] ty #[.slice (some ⟨g, B, none⟩) k c, .string t]).run Tryd.prog w = .ok (.int .i64 t.size) w' ∧ OwnB w' g cap (ov L off t.size (nth (sb t))) ∧ w.grownBy w' (some g) := by
  by_cases h0 : t.size = 0
  · refine ⟨w, ?_, by rw [h0, ov_zero]; exact hO, grown_refl _ _⟩
    rw [Lib.run_copy_empty_string (P := Tryd.prog) w 23 9 ty 5 _ k c t Tryd.underlying23 (by kernel_rfl) h0, h0]; rfl
  · obtain rfl : B = off := by omega
    have ⟨h1, h2⟩ := OwnB.cells (sb t) w B L hO (by rw [sb_length]; exact hfit) (sb_bd t)
    rw [sb_length] at h1
    refine ⟨_, ?_, h1, h2⟩
    rw [run_copy_string (P := Tryd.prog) w 23 9 ty 5 g B k c t Tryd.underlying23 sizeOf5 hle (fun j hj => by rw [hO.cell (B + j) (by omega)]; rfl) (fun j hj => hO.frozen _), sb_cells]; rfl
theorem clear_run {w : World} {g cap off B k c : Nat} {L : List Int} (ty : TypeId) (hO : OwnB w g cap L) (hB : B = off ∨ k = 0) (hfit : off + k ≤ L.length) :
    ∃ w', (Builtin.clear_ #[23] ty #[.slice (some ⟨g, B, none⟩) k c]).run Tryd.prog w = .ok (.tuple #[]) w' ∧ OwnB w' g cap (ov L off k (fun _ => 0)) ∧ w.grownBy w' (some g) := by
  by_cases h0 : k = 0
  · subst h0
    exact ⟨w, by simp [Builtin.clear_, run_underlying Tryd.underlying23], by rw [ov_zero]; exact hO, grown_refl _ _⟩
  · obtain rfl : B = off := by omega
    have e : List.replicate k (Value.int .u8 0) = (List.replicate k (0 : Int)).map (Value.int .u8) := by rw [List.map_replicate]
    have hz : ∀ i, nth (List.replicate k (0 : Int)) i = 0 := fun i => by
      by_cases hi : i < k
      · simp [nth, List.getD, hi]
      · exact nth_out _ _ (by rw [List.length_replicate]; omega)
    have ⟨h1, h2⟩ := OwnB.cells (List.replicate k 0) w B L hO (by rw [List.length_replicate]; exact hfit) (fun i => by rw [hz]; omega)
    rw [List.length_replicate, show nth (List.replicate k (0 : Int)) = fun _ => 0 from funext hz] at h1
    refine ⟨_, ?_, h1, h2⟩
    rw [Lib.run_clear_slice (P := Tryd.prog) w 23 5 ty (.int .u8 0) Tryd.underlying23 zero5 rfl rfl g B k c (by omega) (fun j hj => by rw [hO.cell (B + j) (by omega)]; rfl) (fun j hj => hO.frozen _), e]

set_option maxRecDepth 100000 in
set_option maxHeartbeats 1000000 in
theorem ptx_in (w : World) (g cap n c A N : Nat) (s : ByteArray) (L : List Int) (hO : OwnB w g cap L) (hn : n ≤ L.length) (hc : n ≤ c) (hA : A + N ≤ n) (hs : s.size ≤ N) (hz : ¬ ∃ i, i < s.size ∧ nth (sb s) i = 0) :
    Calls Tryd.prog 41 #[.slice (some ⟨g, 0, none⟩) n c, .int .i64 A, .int .i64 N, .string s] w fun e w' => e = .returned (.int .i64 0) ∧ OwnB w' g cap (ov L A N (nth (sb s))) ∧ w.grownBy w' (some g) := by
  have hlen := hO.len
  have HO : Hid (OwnB w g cap L) := hO
  have HZ : Hid (¬ ∃ i, i < s.size ∧ nth (sb s) i = 0) := hz
  have hl : Hid (lies n A N = true) := by unfold lies; exact decide_eq_true (by omega)
  have HE : Hid (ov (ov L A s.size (nth (sb s))) (A + s.size) (N - s.size) (fun _ => 0) = ov L A N (nth (sb s))) := by
    show _ = _
    rw [ov_ov L A s.size (N - s.size) (nth (sb s)) (fun _ => 0) (nth (sb s)) (fun _ _ => rfl) (fun i _ => (nth_out _ _ (by rw [sb_length]; omega)).symm)]
    congr 1; omega
  clear hO hz
  go_enter Tryd.func41, Tryd.ntmps41
  go_wp2_with (go_at_call 79; refine (sindex_any _ _).mono ?_; rintro e w' ⟨r1, hr, rfl, rfl⟩; replace hr : ¬ 0 ≤ r1 := fun h => HZ.out (hr.1 h))
  go_wp2_with (go_at_call 80; refine (lie_any _ _ _ _ _ _ (by omega) (by omega) (by omega)).mono ?_; rintro e w' ⟨rfl, rfl⟩; rw [hl.out])
  case' inl => obtain ⟨w2, hr2, ho2, hg2⟩ := scopy_run (off := A) (B := 0) (k := N) (c := 0) (t := s) 3 HO.out (by omega) hs (by omega)
  case' inl => have hs0 : s.size = 0 := by omega
  case' inr => obtain ⟨w2, hr2, ho2, hg2⟩ := scopy_run (off := A) (B := A) (k := N) (c := c - A) (t := s) 3 HO.out (by omega) hs (by omega)
  all_goals
    rw [hr2]
    have HO2 : Hid (OwnB w2 g cap (ov L A s.size (nth (sb s)))) := ho2
    have HG2 : Hid (World.grownBy _ w2 (some g)) := hg2
    clear ho2 hg2 hr2
    simp only [Result.andThen]
    rw [Oper.upon_value]
    go_wp2
  all_goals first
    | (obtain ⟨w3, hr3, ho3, hg3⟩ := clear_run (off := A + s.size) (B := A) (k := N - s.size) (c := 0) 0 HO2.out (by omega) (by rw [ov_length]; omega)
       rw [hr3, Result.andThen_ok, Oper.upon_value]
       rw [HE.out] at ho3
       have HO3 : Hid (OwnB w3 g cap (ov L A N (nth (sb s)))) := ho3
       have HG3 : Hid (World.grownBy w2 w3 (some g)) := hg3
       clear ho3 hg3 hr3
       go_wp2
       go_ret
       exact ⟨rfl, HO3.out, grown_trans HG2.out HG3.out⟩)
    | (obtain ⟨w3, hr3, ho3, hg3⟩ := clear_run (off := A + s.size) (B := A + s.size) (k := N - s.size) (c := c - A - s.size) 0 HO2.out (by omega) (by rw [ov_length]; omega)
       rw [hr3, Result.andThen_ok, Oper.upon_value]
       rw [HE.out] at ho3
       have HO3 : Hid (OwnB w3 g cap (ov L A N (nth (sb s)))) := ho3
       have HG3 : Hid (World.grownBy w2 w3 (some g)) := hg3
       clear ho3 hg3 hr3
       go_wp2
       go_ret
       exact ⟨rfl, HO3.out, grown_trans HG2.out HG3.out⟩)
    | (obtain ⟨w3, hr3, ho3, hg3⟩ := clear_run (off := A + s.size) (B := 0) (k := N - s.size) (c := 0) 0 HO2.out (by omega) (by rw [ov_length]; omega)
       rw [hr3, Result.andThen_ok, Oper.upon_value]
       rw [HE.out] at ho3
       have HO3 : Hid (OwnB w3 g cap (ov L A N (nth (sb s)))) := ho3
       have HG3 : Hid (World.grownBy w2 w3 (some g)) := hg3
       clear ho3 hg3 hr3
       go_wp2
       go_ret
       exact ⟨rfl, HO3.out, grown_trans HG2.out HG3.out⟩)
    | (obtain ⟨w3, hr3, ho3, hg3⟩ := clear_run (off := A + s.size) (B := 0) (k := N) (c := 0) 0 HO2.out (by omega) (by rw [ov_length]; omega)
       rw [hr3, Result.andThen_ok, Oper.upon_value]
       rw [show ov (ov L A s.size (nth (sb s))) (A + s.size) N (fun _ => 0) = ov (ov L A s.size (nth (sb s))) (A + s.size) (N - s.size) (fun _ => 0) by rw [hs0, Nat.sub_zero], HE.out] at ho3
       have HO3 : Hid (OwnB w3 g cap (ov L A N (nth (sb s)))) := ho3
       have HG3 : Hid (World.grownBy w2 w3 (some g)) := hg3
       clear ho3 hg3 hr3
       go_wp2
       go_ret
       exact ⟨rfl, HO3.out, grown_trans HG2.out HG3.out⟩)
end Go.Proofs.YtpheajiepnjhdaaDoor
