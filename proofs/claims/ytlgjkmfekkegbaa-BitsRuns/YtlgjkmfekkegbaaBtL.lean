import Derived.Test.YtlgjkmfekkegbaaBtK
namespace Go.Proofs.Ytlgjkmfekkegbaa
open Go.RowKit Rec

theorem some_of {w : World} {a : Option Addr} {l : List Int} (h : Bytes w a l) (hl : 0 < l.length) : ∃ p, a = some p := by
  cases a with
  | some p => exact ⟨p, rfl⟩
  | none => have := h.nil; rw [this] at hl; simp at hl
set_option maxRecDepth 100000 in
set_option maxHeartbeats 4000000 in
/-- a call that only reads, on the same bytes twice -/
theorem plays_read (w : World) (a1 a2 : Option Addr) (n c1 c2 : Nat) (l : List Int) (h1 : Bytes w a1 l) (h2 : Bytes w a2 l) (hn : l.length = n) (kd i t : Int) (on : Bool) (hkd : kd ≠ 1) (hi : i ≤ 9223372036854775807) :
    Calls Try.prog 18 #[.slice a1 n c1, .slice a2 n c2, .agg #[.int .i64 kd, .int .i64 i, .int .i64 t, .bool on]] w fun e w' => e = .returned (.bool true) ∧ Below w.heap.size w w' := by
  have hn' : n ≤ 1000000000000000 := by rw [← hn]; exact h1.len
  obtain ⟨w1, hw1⟩ : ∃ w1, w.alloc (.cells #[.int .i64 kd, .int .i64 i, .int .i64 t, .bool on] 47) = w1 := ⟨_, rfl⟩
  have hb1 : Below w.heap.size w w1 := by rw [← hw1]; exact (Below.refl _ _).alloc (Nat.le_refl _) _
  have HB : Hid (Bytes w1 a1 l ∧ Bytes w1 a2 l ∧ l.length = n ∧ Below w.heap.size w w1) := ⟨h1.on hb1, h2.on hb1, hn, hb1⟩
  have hrow : w1.heap[w.heap.size]? = some (.cells #[.int .i64 kd, .int .i64 i, .int .i64 t, .bool on] 47 (0, 0)) := by rw [← hw1]; exact heap_alloc_new _ _
  have hc0 : w1.cell? ⟨w.heap.size, 0, none⟩ = some (.int .i64 kd) := by rw [cell_of_row _ _ _ _ _ _ hrow]; rfl
  have hc1 : w1.cell? ⟨w.heap.size, 1, none⟩ = some (.int .i64 i) := by rw [cell_of_row _ _ _ _ _ _ hrow]; rfl
  have hc2 : w1.cell? ⟨w.heap.size, 2, none⟩ = some (.int .i64 t) := by rw [cell_of_row _ _ _ _ _ _ hrow]; rfl
  have hc3 : w1.cell? ⟨w.heap.size, 3, none⟩ = some (.bool on) := by rw [cell_of_row _ _ _ _ _ _ hrow]; rfl
  clear h1 h2 hn hb1 hrow
  go_enter Try.func18, Try.ntmps18
  by_cases k0 : kd = 0
  · subst k0
    by_cases hv : 0 ≤ i ∧ i < ((8 * n : Nat) : Int)
    · obtain ⟨y, rfl⟩ : ∃ y : Nat, i = (y : Int) := ⟨i.toNat, by omega⟩
      obtain ⟨p1, rfl⟩ := some_of HB.out.1 (by have := HB.out.2.2.1; omega)
      obtain ⟨p2, rfl⟩ := some_of HB.out.2.1 (by have := HB.out.2.2.1; omega)
      have cR := rget_yes w1 p2 n c2 y l HB.out.2.1 HB.out.2.2.1 (by omega)
      have cG := get_yes w1 p1 n c1 y l HB.out.1 HB.out.2.2.1 (by omega)
      clear hv
      go_wp2_with (first
        | (go_at_call 26; refine cR.mono ?_; rintro e w' ⟨rfl, rfl⟩)
        | (go_at_call 11; refine cG.mono ?_; rintro e w' ⟨rfl, m, rfl⟩))
      go_ret
      exact ⟨by simp, HB.out.2.2.2.trans (belowN_drewN _ _ _)⟩
    · have cR := rget_no w1 a2 n c2 i hn' hv
      have cG := get_no w1 a1 n c1 i hn' hv
      clear hv
      go_wp2_with (first
        | (go_at_call 26; refine cR.mono ?_; rintro e w' ⟨rfl, rfl⟩)
        | (go_at_call 11; refine cG.mono ?_; rintro e w' ⟨rfl, rfl⟩))
      go_ret
      exact ⟨rfl, HB.out.2.2.2⟩
  · by_cases k2 : kd = 2
    · subst k2
      have cR := fun m => rlow_any (w1.drewN m) a2 n c2 i l (HB.out.2.1.drewN m) HB.out.2.2.1 hi
      have cL := fun m => low_any (w1.drewN m) a1 n c1 i l (HB.out.1.drewN m) HB.out.2.2.1 hi
      go_upto_region 10 with (fail)
      go_quiet (first
        | (go_at_call 28; refine Calls.quiet_of_same ((cR _).mono (fun e w' h => ⟨h.1, h.2.symm⟩)))
        | (go_at_call 12; refine Calls.quiet_of (cL _)))
      (try go_wp2)
      go_ret
      exact ⟨by simp, HB.out.2.2.2.trans (belowN_drewN _ _ _)⟩
    · by_cases k3 : kd = 3
      · subst k3
        by_cases hv : 0 ≤ i ∧ t ≤ ((8 * n : Nat) : Int) ∧ i ≤ t
        · obtain ⟨y, rfl⟩ : ∃ y : Nat, i = (y : Int) := ⟨i.toNat, by omega⟩
          obtain ⟨u, rfl⟩ : ∃ u : Nat, t = (u : Int) := ⟨t.toNat, by omega⟩
          obtain ⟨z, hz⟩ : ∃ z, y + z = u := ⟨u - y, by omega⟩
          have cR := rcount_yes w1 a2 n c2 y z l HB.out.2.1 HB.out.2.2.1 (by omega)
          have cG := count_yes w1 a1 n c1 y z l HB.out.1 HB.out.2.2.1 (by omega)
          rw [hz] at cR cG
          clear hv hz
          go_wp2_with (first
            | (go_at_call 29; refine cR.mono ?_; rintro e w' ⟨rfl, rfl⟩)
            | (go_at_call 10; refine cG.mono ?_; rintro e w' ⟨rfl, m, rfl⟩))
          go_ret
          exact ⟨by simp, HB.out.2.2.2.trans (belowN_drewN _ _ _)⟩
        · have cR := rcount_no w1 a2 n c2 i t hn' hv
          have cG := count_no w1 a1 n c1 i t hn' hv
          clear hv
          go_wp2_with (first
            | (go_at_call 29; refine cR.mono ?_; rintro e w' ⟨rfl, rfl⟩)
            | (go_at_call 10; refine cG.mono ?_; rintro e w' ⟨rfl, rfl⟩))
          go_ret
          exact ⟨rfl, HB.out.2.2.2⟩
      · have e0 : (kd == 0) = false := beq_eq_false_iff_ne.2 k0
        have e1 : (kd == 1) = false := beq_eq_false_iff_ne.2 hkd
        have e2 : (kd == 2) = false := beq_eq_false_iff_ne.2 k2
        have e3 : (kd == 3) = false := beq_eq_false_iff_ne.2 k3
        go_wp2
        go_ret
        exact ⟨rfl, HB.out.2.2.2⟩
theorem bput_app (x t : List Int) (i : Nat) (on : Bool) (hi : i < 8 * x.length) : bput (x ++ t) i on = bput x i on ++ t := by
  unfold bput
  have h : i / 8 < x.length := by omega
  rw [show nth (x ++ t) (i / 8) = nth x (i / 8) by simp [nth, List.getD, List.getElem?_append, h], List.set_append_left _ _ h]
theorem put_part (w : World) (g n c cap i : Nat) (x t : List Int) (on : Bool) (h : OwnB w g cap (x ++ t)) (hn : x.length = n) (hi : i < 8 * n) : Calls Try.prog 13 #[.slice (some ⟨g, 0, none⟩) n c, .int .i64 (i : Int), .bool on] w fun e w' => e = .returned (.int .i64 0) ∧ OwnB w' g cap (bput x i on ++ t) ∧ Fr (fun k => k = g) w w' := by
  have hl : (x ++ t).length = n + t.length := by rw [List.length_append, hn]
  have hc := h.cell (i / 8) (by omega)
  refine (put_raw w g n c i _ on hc (h.frozen _) (h.wf _) (by have := h.len; omega) hi).mono ?_
  rintro e w' ⟨rfl, m, rfl⟩
  refine ⟨rfl, ?_, fr_drewN Fr.set m⟩
  rw [← bput_app x t i on (by omega)]
  exact (h.set (i / 8) _ (by omega) (byt_bd _ _ _ (by omega) (h.wf _))).drewN m
/-- two rows of one's own with the same bytes -/
structure Two (w : World) (g1 cap1 g2 cap2 : Nat) (x t : List Int) : Prop where
  a : OwnB w g1 cap1 (x ++ t)
  b : OwnB w g2 cap2 x
theorem OwnB.frS {w w' : World} {g cap : Nat} {l : List Int} (h : OwnB w g cap l) {S : Nat → Prop} (hf : Fr S w w') (hS : ¬ S g) : OwnB w' g cap l := by
  obtain ⟨cur, hg, h2, h3⟩ := h.row
  exact ⟨⟨cur, hf.heap hg hS, h2, h3⟩, h.len, h.room, h.top, h.wf⟩
theorem Two.bytes {w : World} {g1 cap1 g2 cap2 : Nat} {x t : List Int} (h : Two w g1 cap1 g2 cap2 x t) : Bytes w (some ⟨g1, 0, none⟩) x ∧ Bytes w (some ⟨g2, 0, none⟩) x := by
  refine ⟨?_, h.b.bytes⟩
  have := h.a.bytes.take x.length
  rw [List.take_left] at this
  exact this
set_option maxRecDepth 100000 in
set_option maxHeartbeats 4000000 in
/-- any call, on two rows with the same bytes -/
theorem plays_own (w : World) (g1 cap1 g2 cap2 n c1 c2 : Nat) (x tl : List Int) (h : Two w g1 cap1 g2 cap2 x tl) (hne : g1 ≠ g2) (hn : x.length = n) (kd i t : Int) (on : Bool) (hi : i ≤ 9223372036854775807) :
    Calls Try.prog 18 #[.slice (some ⟨g1, 0, none⟩) n c1, .slice (some ⟨g2, 0, none⟩) n c2, .agg #[.int .i64 kd, .int .i64 i, .int .i64 t, .bool on]] w fun e w' => e = .returned (.bool true) ∧ ∃ x', x'.length = n ∧ Two w' g1 cap1 g2 cap2 x' tl ∧ Fr (fun k => k = g1 ∨ k = g2) w w' := by
  by_cases hkd : kd = 1
  · have hn' : n ≤ 1000000000000000 := by rw [← hn]; exact h.b.len
    subst hkd
    obtain ⟨w1, hw1⟩ : ∃ w1, w.alloc (.cells #[.int .i64 1, .int .i64 i, .int .i64 t, .bool on] 47) = w1 := ⟨_, rfl⟩
    have hb1 : Below w.heap.size w w1 := by rw [← hw1]; exact (Below.refl _ _).alloc (Nat.le_refl _) _
    have HB : Hid (Two w1 g1 cap1 g2 cap2 x tl ∧ x.length = n ∧ Fr (fun k => k = g1 ∨ k = g2) w w1 ∧ g1 < w.heap.size ∧ g2 < w.heap.size) := ⟨⟨h.a.on hb1, h.b.on hb1⟩, hn, below_fr hb1 _, h.a.lt, h.b.lt⟩
    have hrow : w1.heap[w.heap.size]? = some (.cells #[.int .i64 1, .int .i64 i, .int .i64 t, .bool on] 47 (0, 0)) := by rw [← hw1]; exact heap_alloc_new _ _
    have HRw : Hid (w1.heap[w.heap.size]? = some (.cells #[.int .i64 1, .int .i64 i, .int .i64 t, .bool on] 47 (0, 0))) := hrow
    have hc0 : w1.cell? ⟨w.heap.size, 0, none⟩ = some (.int .i64 1) := by rw [cell_of_row _ _ _ _ _ _ hrow]; rfl
    have hc1 : w1.cell? ⟨w.heap.size, 1, none⟩ = some (.int .i64 i) := by rw [cell_of_row _ _ _ _ _ _ hrow]; rfl
    have hc3 : w1.cell? ⟨w.heap.size, 3, none⟩ = some (.bool on) := by rw [cell_of_row _ _ _ _ _ _ hrow]; rfl
    clear h hn hb1 hrow
    go_enter Try.func18, Try.ntmps18
    by_cases hv : 0 ≤ i ∧ i < ((8 * n : Nat) : Int)
    · obtain ⟨y, rfl⟩ : ∃ y : Nat, i = (y : Int) := ⟨i.toNat, by omega⟩
      have hy : y < 8 * n := by omega
      have cR := rput_own w1 g2 n c2 cap2 y x on HB.out.1.b HB.out.2.1 hy
      clear hv
      go_wp2_with (first
        | (go_at_call 27; refine cR.mono ?_; rintro e w2 ⟨rfl, ho2, hf2⟩; have hd1 : w2.cell? ⟨w.heap.size, 1, none⟩ = some (.int .i64 (y : Int)) := (by have hr2 := hf2.heap HRw.out (fun e => by have e : w.heap.size = g2 := e; have := HB.out.2.2.2.2; omega); rw [cell_of_row _ _ _ _ _ _ hr2]; rfl); have hd3 : w2.cell? ⟨w.heap.size, 3, none⟩ = some (.bool on) := (by have hr2 := hf2.heap HRw.out (fun e => by have e : w.heap.size = g2 := e; have := HB.out.2.2.2.2; omega); rw [cell_of_row _ _ _ _ _ _ hr2]; rfl); have H2 : Hid (OwnB w2 g2 cap2 (bput x y on) ∧ Fr (fun k => k = g2) w1 w2) := ⟨ho2, hf2⟩; clear ho2 hf2)
        | (go_at_call 13; refine (put_part w2 g1 n c1 cap1 y x tl on (HB.out.1.a.frS H2.out.2 hne) HB.out.2.1 hy).mono ?_; rintro e w3 ⟨rfl, ho3, hf3⟩; have H3 : Hid (OwnB w3 g1 cap1 (bput x y on ++ tl) ∧ Fr (fun k => k = g1) w2 w3) := ⟨ho3, hf3⟩; clear ho3 hf3))
      go_ret
      refine ⟨rfl, bput x y on, by rw [bput_length]; exact HB.out.2.1, ⟨H3.out.1, H2.out.1.frS H3.out.2 (fun e => hne e.symm)⟩, ?_⟩
      exact (HB.out.2.2.1.trans H2.out.2 (fun k e => .inl (.inr e))).trans H3.out.2 (fun k e => .inl (.inl e))
    · have cR := rput_no w1 (some ⟨g2, 0, none⟩) n c2 i on hn' hv
      have cP := put_no w1 (some ⟨g1, 0, none⟩) n c1 i on hn' hv
      clear hv
      go_wp2_with (first
        | (go_at_call 27; refine cR.mono ?_; rintro e w2 ⟨rfl, rfl⟩)
        | (go_at_call 13; refine cP.mono ?_; rintro e w3 ⟨rfl, rfl⟩))
      go_ret
      exact ⟨rfl, x, HB.out.2.1, HB.out.1, HB.out.2.2.1⟩
  · refine (plays_read w _ _ n c1 c2 x h.bytes.1 h.bytes.2 hn kd i t on hkd hi).mono ?_
    rintro e w' ⟨rfl, hb⟩
    exact ⟨rfl, x, hn, ⟨h.a.on hb, h.b.on hb⟩, below_fr hb _⟩
end Go.Proofs.Ytlgjkmfekkegbaa
