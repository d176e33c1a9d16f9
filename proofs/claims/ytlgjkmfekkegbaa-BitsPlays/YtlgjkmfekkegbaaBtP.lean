import Derived.Test.YtlgjkmfekkegbaaBtO
namespace Go.Proofs.Ytlgjkmfekkegbaa
open Go.RowKit Rec

theorem nth_tail (x t : List Int) (j : Nat) : nth (x ++ t) (x.length + j) = nth t j := by
  unfold nth
  rw [List.getD_eq_getElem?_getD, List.getD_eq_getElem?_getD, List.getElem?_append_right (by omega), Nat.add_sub_cancel_left]
set_option maxRecDepth 100000 in
set_option maxHeartbeats 8000000 in
theorem plays8_any (w : World) (n c : Nat) (a : Option Addr) (l : List Int) (hb : Bytes w a l) (hn : l.length = n) (hz : a = none → c = 0) (h47 : n ≤ 140737488355000)
    (m1 c1 : Nat) (a1 : Option Addr) (L : List OpR) (hL : Ops w a1 L) (hLl : L.length = m1) :
    Calls Try.prog 6 #[.slice a n c, .slice a1 m1 c1] w fun e w' => e = .returned (.bool true) ∧ Below w.heap.size w w' := by
  have hm1 : m1 ≤ 9000000000000000000 := by rw [← hLl]; exact hL.len
  have HB : Hid (Bytes w a l ∧ l.length = n ∧ (a = none → c = 0)) := ⟨hb, hn, hz⟩
  have HL : Hid (Ops w a1 L ∧ L.length = m1) := ⟨hL, hLl⟩
  clear hb hn hz hL hLl
  go_enter Try.func6, Try.ntmps6
  go_upto_region 3 with (go_at_call 8; refine (fixed_any _).mono ?_; rintro e wb ⟨rfl, hbb⟩; have HBb : Hid (Below w.heap.size w wb) := hbb; clear hbb)
  have HA : Hid (Below w.heap.size w (wb.alloc (.cells #[] 5)) ∧ OwnB (wb.alloc (.cells #[] 5)) wb.heap.size 0 []) := ⟨HBb.out.alloc HBb.out.size _, own_empty (heap_alloc_new _ _)⟩
  go_upto_region 4 with (first
    | (at_builtin; refine wp_app rfl (.tmp 11) (.tmp 12) rfl w.heap.size wb.heap.size 0 0 [] l rfl rfl HA.out.2 HBb.out.size HA.out.1.size a n c rfl HB.out.2.1 (HB.out.1.on HA.out.1) HB.out.2.2 (by omega) ?_; intro g0 cap0 w1 hg ho hgr; have H1 : Hid (w.heap.size ≤ g0 ∧ OwnB w1 g0 cap0 l ∧ Below w.heap.size w w1) := ⟨hg, ho, HA.out.1.trans (below_of hgr HBb.out.size HA.out.1.size)⟩; clear hg ho hgr)
    | (at_builtin; refine wp_app rfl (.tmp 13) (.tmp 14) rfl w.heap.size g0 n cap0 l [77, 78, 79] HB.out.2.1 rfl (H1.out.2.1.on ((Below.refl _ _).alloc (Nat.le_refl _) _)) H1.out.1 (Nat.le_trans H1.out.2.2.size (by simp)) (some ⟨w1.heap.size, 0, none⟩) 3 3 rfl rfl ⟨by simp, wf_list (by decide), .inr ⟨_, 0, rfl, fun i hi => by rw [cell_of_row _ _ _ _ _ _ (heap_alloc_new w1 _)]; match i, hi with | 0, _ => rfl | 1, _ => rfl | 2, _ => rfl⟩⟩ (fun e => by cases e) (by omega) ?_; intro g cap w2 hg ho hgr; have H2 : Hid (w.heap.size ≤ g ∧ OwnB w2 g cap (l ++ [77, 78, 79]) ∧ Below w.heap.size w w2) := ⟨hg, ho, (H1.out.2.2.alloc H1.out.2.2.size _).trans (below_of hgr H1.out.1 (Nat.le_trans H1.out.2.2.size (by simp)))⟩; clear hg ho hgr))
  have hcap : n + 3 ≤ cap := by
    have := H2.out.2.1.room
    rw [List.length_append, HB.out.2.1] at this
    exact this
  have hcap' : n ≤ cap := by omega
  clear HA H1
  have HA : Hid (Below w2.heap.size w2 (w2.alloc (.cells #[] 5)) ∧ OwnB (w2.alloc (.cells #[] 5)) w2.heap.size 0 []) := ⟨(Below.refl _ _).alloc (Nat.le_refl _) _, own_empty (heap_alloc_new _ _)⟩
  go_upto_region 6 with (at_builtin; refine wp_app rfl (.tmp 20) (.tmp 21) rfl w2.heap.size w2.heap.size 0 0 [] l rfl rfl HA.out.2 (Nat.le_refl _) HA.out.1.size a n c rfl HB.out.2.1 (HB.out.1.on (H2.out.2.2.trans (HA.out.1.mono H2.out.2.2.size))) HB.out.2.2 (by omega) ?_; intro g2 cap2 w3 hg ho hgr; have H3 : Hid (w2.heap.size ≤ g2 ∧ OwnB w3 g2 cap2 l ∧ Below w2.heap.size w2 w3) := ⟨hg, ho, HA.out.1.trans (below_of hgr (Nat.le_refl _) HA.out.1.size)⟩; clear hg ho hgr)
  clear HA
  have hne : g ≠ g2 := by have := H2.out.2.1.lt; have := H3.out.1; omega
  have HT : Hid (Two w3 g cap g2 cap2 l [77, 78, 79] ∧ Below w.heap.size w w3 ∧ w.heap.size ≤ g ∧ w.heap.size ≤ g2) := ⟨⟨H2.out.2.1.on H3.out.2.2, H3.out.2.1⟩, H2.out.2.2.trans (H3.out.2.2.mono H2.out.2.2.size), H2.out.1, Nat.le_trans H2.out.2.2.size H3.out.1⟩
  clear H2 H3
  go_wp2
  go_loopw [8] (fun s wr => ∃ (j : Nat) (x : List Int), s = .int .i64 (j : Int) ∧ j ≤ m1 ∧ x.length = n ∧ Two wr g cap g2 cap2 x [77, 78, 79] ∧ Below w.heap.size w wr) (fun s _ => m1 - (intOf s).toNat)
  case atStart => exact ⟨0, l, rfl, Nat.zero_le _, HB.out.2.1, HT.out.1, HT.out.2.1⟩
  case round =>
    obtain ⟨j, x, rfl, hj, hxl, htw, hbw⟩ := hrel
    have HR : Hid (x.length = n ∧ Two wr g cap g2 cap2 x [77, 78, 79] ∧ Below w.heap.size w wr) := ⟨hxl, htw, hbw⟩
    clear hxl htw hbw
    by_cases hlt : j < m1
    · have hlt' : (j : Int) < (m1 : Int) := by omega
      obtain ⟨q, hq⟩ : ∃ q, L[j]? = some q := ⟨L[j]'(by rw [HL.out.2]; exact hlt), List.getElem?_eq_getElem _⟩
      obtain ⟨b, off, rfl, hc⟩ : ∃ b off, a1 = some ⟨b, off, none⟩ ∧ ∀ i q, L[i]? = some q → wr.cell? ⟨b, off + i * 4, none⟩ = some (.int .i64 q.kd) ∧ wr.cell? ⟨b, off + i * 4 + 1, none⟩ = some (.int .i64 q.i) ∧ wr.cell? ⟨b, off + i * 4 + 2, none⟩ = some (.int .i64 q.t) ∧ wr.cell? ⟨b, off + i * 4 + 3, none⟩ = some (.bool q.on) := by
        rcases (HL.out.1.on HR.out.2.2).at_ with e | h
        · rw [e] at hq; simp at hq
        · exact h
      obtain ⟨hc0, hc1, hc2, hc3⟩ := hc j q hq
      have hqi := HL.out.1.ok q (List.mem_of_getElem? hq)
      clear hc hq
      have cP := plays_own wr g cap g2 cap2 n cap cap2 x [77, 78, 79] HR.out.2.1 hne HR.out.1 q.kd q.i q.t q.on hqi
      obtain ⟨k1, i1, t1, o1⟩ := q
      dsimp only at hc0 hc1 hc2 hc3 cP hqi
      go_wp2_with (first
        | (go_at_call 18; refine cP.mono ?_; rintro e w4 ⟨rfl, x1, hx1, ht1, hf1⟩; have HT1 : Hid (Two w4 g cap g2 cap2 x1 [77, 78, 79] ∧ x1.length = n ∧ Below w.heap.size w w4) := ⟨ht1, hx1, HR.out.2.2.trans (hf1.below _ (fun j e => by rcases e with e | e <;> (subst e; first | exact HT.out.2.2.1 | exact HT.out.2.2.2)) HR.out.2.2.size)⟩; clear ht1 hx1 hf1)
        | (go_at_call 16; refine (same8_yes w4 _ _ n cap cap2 x1 HT1.out.1.bytes.1 HT1.out.1.bytes.2 HT1.out.2.1).mono ?_; rintro e w5 ⟨rfl, m5, rfl⟩))
      go_round
      case rel => exact ⟨j + 1, x1, by go_num, by omega, HT1.out.2.1, ⟨HT1.out.1.a.drewN _, HT1.out.1.b.drewN _⟩, HT1.out.2.2.trans (belowN_drewN _ _ _)⟩
      case measure => simp [intOf]; omega
    · have hlt' : ¬ ((j : Int) < (m1 : Int)) := by omega
      have hln : (x ++ [77, 78, (79 : Int)]).length = n + 3 := by rw [List.length_append, HR.out.1]; rfl
      have d0 : wr.cell? ⟨g, n, none⟩ = some (.int .u8 77) := by
        rw [HR.out.2.1.a.cell n (by omega), ← HR.out.1]; exact congrArg (fun v => some (Value.int .u8 v)) (nth_tail x _ 0)
      have d1 : wr.cell? ⟨g, n + 1, none⟩ = some (.int .u8 78) := by
        rw [HR.out.2.1.a.cell (n + 1) (by omega), ← HR.out.1]; exact congrArg (fun v => some (Value.int .u8 v)) (nth_tail x _ 1)
      have d2 : wr.cell? ⟨g, n + 2, none⟩ = some (.int .u8 79) := by
        rw [HR.out.2.1.a.cell (n + 2) (by omega), ← HR.out.1]; exact congrArg (fun v => some (Value.int .u8 v)) (nth_tail x _ 2)
      go_wp2
      go_ret
      exact ⟨rfl, HR.out.2.2⟩
end Go.Proofs.Ytlgjkmfekkegbaa
