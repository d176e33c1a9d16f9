import Derived.Test.YtgodjnnciacliaaLasts
namespace Go.Proofs.Ytgodjnnciacliaa
open Go.RowKit Adk

theorem mark_news {w : World} {b : Nat} {t : TypeId} (h : w.heap[b]? = some (.cells #[.int .u8 165] t (0, 0))) : Bytes w (some ⟨b, 0, none⟩) [165] := by
  refine ⟨by simp, fun i => ?_, .inr ⟨b, 0, rfl, fun i hi => ?_⟩⟩
  · cases i with
    | zero => simp [nth]
    | succ i => simp [nth]
  · have : i = 0 := by simp at hi; omega
    subst this
    rw [cell_of_row _ _ _ _ _ _ h]; rfl
/-- what 'lent' hands back -/
def Lent (w : World) (n : Nat) (l : List Int) (e : Ending) (w' : World) : Prop := ∃ g cap, e = .returned (.tuple #[.slice (some ⟨g, 0, none⟩) n cap, .slice (some ⟨g, 0, none⟩) (n + 1) cap]) ∧ w.heap.size ≤ g ∧ OwnB w' g cap (l ++ [165]) ∧ Below w.heap.size w w'
set_option maxRecDepth 100000 in
set_option maxHeartbeats 800000 in
theorem lent_any (w : World) (a : Option Addr) (n c : Nat) (l : List Int) (hb : Bytes w a l) (hl : l.length = n) (hn : a = none → c = 0) (h47 : n ≤ 140737488351232) : Calls Try.prog 29 #[.slice a n c] w (Lent w n l) := by
  obtain ⟨i0, hi, hz0, hz1, hz2⟩ := info_parts info5
  have HB : Hid (Bytes w a l) := hb
  have HL : Hid (l.length = n) := hl
  have HE : Hid (w.ownsRow w.heap.size 5 1 (.slice none 0 0) 0 []) := ⟨rfl, .inl ⟨rfl, rfl⟩⟩
  have HRest : Hid (∀ v1 w1, w1.ownsRow w.heap.size 5 1 v1 n (l.map (Value.int .u8)) → Below w.heap.size w w1 → (w1.ownsRow 0 5 1 v1 n (l.map (Value.int .u8)) ∧ ∀ k, v1.ownBlock = some k → w.heap.size ≤ k)) := fun v1 w1 ho _ => by
    rcases ho.2 with ⟨rfl, h0⟩ | ⟨g, cap, cur, rfl, h2, h3⟩
    · exact ⟨⟨ho.1, .inl ⟨rfl, h0⟩⟩, fun k hk => by cases hk⟩
    · exact ⟨⟨ho.1, .inr ⟨g, cap, cur, rfl, Nat.zero_le _, h3⟩⟩, fun k hk => by cases hk; exact h2⟩
  clear hb hl
  go_enter Try.func29, Try.ntmps29
  cases a with
  | none =>
    have hl0 : l = [] := HB.out.nil
    have hn0 : n = 0 := by have := HL.out; rw [hl0] at this; simpa using this.symm
    subst hl0 hn0
    have hc0 := hn rfl
    subst hc0
    have HA : Hid (Below w.heap.size w (w.alloc (.cells #[.int .u8 165] 5))) := (Below.refl _ _).alloc (Nat.le_refl _) _
    have HM : Hid (Bytes (w.alloc (.cells #[.int .u8 165] 5)) (some ⟨w.heap.size, 0, none⟩) [165]) := mark_news (heap_alloc_new w _)
    go_upto_region 4 with (first
      | (at_builtin; refine wpList_append_own_none rfl (.tmp 5) (.tmp 6) 22 rfl w.heap.size 5 i0 1 Try.underlying22 hi (.slice none 0 0) 0 [] rfl HE.out rfl ?_)
      | (at_builtin; refine wp_bown rfl (.tmp 8) (.tmp 9) rfl (.slice none 0 0) 0 [] rfl ⟨rfl, .inl ⟨rfl, rfl⟩⟩ ⟨w.heap.size, 0, none⟩ 1 1 [165] rfl (by decide) rfl HM.out (by omega) ?_; intro g cap w2 ho hf hg; have H2 : Hid (w.heap.size ≤ g ∧ OwnB w2 g cap ([] ++ [165]) ∧ Below w.heap.size w w2) := ⟨hg.elim (fun e => by cases e) (fun e => Nat.le_trans HA.out.size e), ownB_of ho (by rfl) (by omega) (wf_list (by decide)), HA.out.trans (hf.below _ (fun j hj => by cases hj) HA.out.size)⟩; clear ho hf hg))
    go_wp2
    go_ret2
    exact ⟨_, _, rfl, H2.out⟩
  | some p =>
    have HN : Hid (∀ j u, (l.map (Value.int .u8))[j]? = some u → w.cell? (p.add j) = some u) := HB.out.news
    go_upto_region 3 with (at_builtin; refine wpList_append_own _ rfl (.tmp 5) (.tmp 6) 22 rfl w.heap.size 5 i0 _ 1 1 Try.underlying22 hi hz0 hz1 hz2 rfl (by decide) (.slice none 0 0) 0 [] rfl HE.out p n c (l.map (Value.int .u8)) rfl (by rw [List.length_map, HL.out]; omega) HN.out (cells_u8 l) (by unfold maxLen; omega) (by omega) (Nat.le_refl _) ?_; intro v1 w1 ho hg hn1; have H1 : Hid ((w1.ownsRow 0 5 1 v1 n (l.map (Value.int .u8)) ∧ ∀ k, v1.ownBlock = some k → w.heap.size ≤ k) ∧ Below w.heap.size w w1) := (by have hbb : Below w.heap.size w w1 := (Below.refl _ w).grown hg (Nat.le_refl _) (by intro k hk; cases hk); rw [Nat.zero_add, List.nil_append] at ho; exact ⟨HRest.out v1 w1 ho hbb, hbb⟩); clear ho hg hn1)
    have HA : Hid (Below w1.heap.size w1 (w1.alloc (.cells #[.int .u8 165] 5))) := (Below.refl _ _).alloc (Nat.le_refl _) _
    have HM : Hid (Bytes (w1.alloc (.cells #[.int .u8 165] 5)) (some ⟨w1.heap.size, 0, none⟩) [165]) := mark_news (heap_alloc_new w1 _)
    have HO1 : Hid ((w1.alloc (.cells #[.int .u8 165] 5)).ownsRow 0 5 1 v1 n (l.map (Value.int .u8))) := owns_fr H1.out.1.1 (below_fr HA.out (fun k => w1.heap.size ≤ k)) (fun k hk => Nat.not_le.2 (owns_block H1.out.1.1 hk))
    go_upto_region 4 with (at_builtin; refine wp_bown rfl (.tmp 8) (.tmp 9) rfl v1 n l rfl HO1.out ⟨w1.heap.size, 0, none⟩ 1 1 [165] rfl (by decide) rfl HM.out (by omega) ?_; intro g cap w2 ho hf hg; have H2 : Hid (w.heap.size ≤ g ∧ OwnB w2 g cap (l ++ [165]) ∧ Below w.heap.size w w2) := ⟨hg.elim (H1.out.1.2 g) (fun e => Nat.le_trans H1.out.2.size (Nat.le_trans HA.out.size e)), ownB_of ho (by rw [List.length_append, HL.out]; rfl) (by omega) (wf_two HB.out.wf (wf_list (by decide))), (H1.out.2.trans (HA.out.mono H1.out.2.size)).trans (hf.below _ H1.out.1.2 (Nat.le_trans H1.out.2.size HA.out.size))⟩; clear ho hf hg)
    have hcap : n + 1 ≤ cap := by have := H2.out.2.1.room; rw [List.length_append, HL.out] at this; exact this
    go_wp2
    go_ret2
    exact ⟨_, _, rfl, H2.out⟩
end Go.Proofs.Ytgodjnnciacliaa
