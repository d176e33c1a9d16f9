import Derived.Test.YtipbflmonhlnjaaKAPend
namespace Go.Proofs.Ytipbflmonhlnjaa
open Go.RowKit Rec

theorem mark_news {w : World} {b : Nat} {t : TypeId} (h : w.heap[b]? = some (.cells #[.int .u8 165] t (0, 0))) : Bytes w (some ⟨b, 0, none⟩) [165] := by
  refine ⟨by simp, fun i => ?_, .inr ⟨b, 0, rfl, fun i hi => ?_⟩⟩
  · cases i with
    | zero => simp [nth]
    | succ i => simp [nth]
  · have : i = 0 := by simp at hi; omega
    subst this
    rw [cell_of_row _ _ _ _ _ _ h]; rfl
/-- what 'lent' hands back -/
def Lent (w : World) (n : Nat) (l : List Int) (e : Ending) (w' : World) : Prop := ∃ g cap, e = .returned (.tuple #[.slice (some ⟨g, 0, none⟩) n cap, .slice (some ⟨g, 0, none⟩) (n + 1) cap]) ∧ w.heap.size ≤ g ∧ OwnB w' g cap (l ++ [165]) ∧ Below w.heap.size w w'
set_option maxRecDepth 100000 in
set_option maxHeartbeats 800000 in
theorem lent_any (w : World) (a : Option Addr) (n c : Nat) (l : List Int) (hb : Bytes w a l) (hl : l.length = n) (hn : a = none → c = 0) (h47 : n ≤ 140737488351232) : Calls Try.prog 14 #[.slice a n c] w (Lent w n l) := by
  obtain ⟨i0, hi, hz0, hz1, hz2⟩ := info_parts info5
  have HB : Hid (Bytes w a l) := hb
  have HL : Hid (l.length = n) := hl
  have HE : Hid (w.ownsRow w.heap.size 5 1 (.slice none 0 0) 0 []) := ⟨rfl, .inl ⟨rfl, rfl⟩⟩
  have HRest : Hid (∀ v1 w1, w1.ownsRow w.heap.size 5 1 v1 n (l.map (Value.int .u8)) → Below w.heap.size w w1 → (w1.ownsRow 0 5 1 v1 n (l.map (Value.int .u8)) ∧ ∀ k, v1.ownBlock = some k → w.heap.size ≤ k)) := fun v1 w1 ho _ => by
    rcases ho.2 with ⟨rfl, h0⟩ | ⟨g, cap, cur, rfl, h2, h3⟩
    · exact ⟨⟨ho.1, .inl ⟨rfl, h0⟩⟩, fun k hk => by cases hk⟩
    · exact ⟨⟨ho.1, .inr ⟨g, cap, cur, rfl, Nat.zero_le _, h3⟩⟩, fun k hk => by cases hk; exact h2⟩
  clear hb hl
  go_enter Try.func14, Try.ntmps14
  cases a with
  | none =>
    have hl0 : l = [] := HB.out.nil
    have hn0 : n = 0 := by have := HL.out; rw [hl0] at this; simpa using this.symm
    subst hl0 hn0
    have hc0 := hn rfl
    subst hc0
    have HA : Hid (Below w.heap.size w (w.alloc (.cells #[.int .u8 165] 5))) := (Below.refl _ _).alloc (Nat.le_refl _) _
    have HM : Hid (Bytes (w.alloc (.cells #[.int .u8 165] 5)) (some ⟨w.heap.size, 0, none⟩) [165]) := mark_news (heap_alloc_new w _)
    go_upto_region 4 with (first
      | (at_builtin; refine wpList_append_own_none rfl (.tmp 5) (.tmp 6) 22 rfl w.heap.size 5 i0 1 Try.underlying22 hi (.slice none 0 0) 0 [] rfl HE.out rfl ?_)
      | (at_builtin; refine wp_bown rfl (.tmp 8) (.tmp 9) rfl (.slice none 0 0) 0 [] rfl ⟨rfl, .inl ⟨rfl, rfl⟩⟩ ⟨w.heap.size, 0, none⟩ 1 1 [165] rfl (by decide) rfl HM.out (by omega) ?_; intro g cap w2 ho hf hg; have H2 : Hid (w.heap.size ≤ g ∧ OwnB w2 g cap ([] ++ [165]) ∧ Below w.heap.size w w2) := ⟨hg.elim (fun e => by cases e) (fun e => Nat.le_trans HA.out.size e), ownB_of ho (by rfl) (by omega) (wf_list (by decide)), HA.out.trans (hf.below _ (fun j hj => by cases hj) HA.out.size)⟩; clear ho hf hg))
    go_wp2
    go_ret2
    exact ⟨_, _, rfl, H2.out⟩
  | some p =>
    have HN : Hid (∀ j u, (l.map (Value.int .u8))[j]? = some u → w.cell? (p.add j) = some u) := HB.out.news
    go_upto_region 3 with (at_builtin; refine wpList_append_own _ rfl (.tmp 5) (.tmp 6) 22 rfl w.heap.size 5 i0 _ 1 1 Try.underlying22 hi hz0 hz1 hz2 rfl (by decide) (.slice none 0 0) 0 [] rfl HE.out p n c (l.map (Value.int .u8)) rfl (by rw [List.length_map, HL.out]; omega) HN.out (cells_u8 l) (by unfold maxLen; omega) (by omega) (Nat.le_refl _) ?_; intro v1 w1 ho hg hn1; have H1 : Hid ((w1.ownsRow 0 5 1 v1 n (l.map (Value.int .u8)) ∧ ∀ k, v1.ownBlock = some k → w.heap.size ≤ k) ∧ Below w.heap.size w w1) := (by have hbb : Below w.heap.size w w1 := (Below.refl _ w).grown hg (Nat.le_refl _) (by intro k hk; cases hk); rw [Nat.zero_add, List.nil_append] at ho; exact ⟨HRest.out v1 w1 ho hbb, hbb⟩); clear ho hg hn1)
    have HA : Hid (Below w1.heap.size w1 (w1.alloc (.cells #[.int .u8 165] 5))) := (Below.refl _ _).alloc (Nat.le_refl _) _
    have HM : Hid (Bytes (w1.alloc (.cells #[.int .u8 165] 5)) (some ⟨w1.heap.size, 0, none⟩) [165]) := mark_news (heap_alloc_new w1 _)
    have HO1 : Hid ((w1.alloc (.cells #[.int .u8 165] 5)).ownsRow 0 5 1 v1 n (l.map (Value.int .u8))) := owns_fr H1.out.1.1 (below_fr HA.out (fun k => w1.heap.size ≤ k)) (fun k hk => Nat.not_le.2 (owns_block H1.out.1.1 hk))
    go_upto_region 4 with (at_builtin; refine wp_bown rfl (.tmp 8) (.tmp 9) rfl v1 n l rfl HO1.out ⟨w1.heap.size, 0, none⟩ 1 1 [165] rfl (by decide) rfl HM.out (by omega) ?_; intro g cap w2 ho hf hg; have H2 : Hid (w.heap.size ≤ g ∧ OwnB w2 g cap (l ++ [165]) ∧ Below w.heap.size w w2) := ⟨hg.elim (H1.out.1.2 g) (fun e => Nat.le_trans H1.out.2.size (Nat.le_trans HA.out.size e)), ownB_of ho (by rw [List.length_append, HL.out]; rfl) (by omega) (wf_two HB.out.wf (wf_list (by decide))), (H1.out.2.trans (HA.out.mono H1.out.2.size)).trans (hf.below _ H1.out.1.2 (Nat.le_trans H1.out.2.size HA.out.size))⟩; clear ho hf hg)
    have hcap : n + 1 ≤ cap := by have := H2.out.2.1.room; rw [List.length_append, HL.out] at this; exact this
    go_wp2
    go_ret2
    exact ⟨_, _, rfl, H2.out⟩
end Go.Proofs.Ytipbflmonhlnjaa

namespace Go.Proofs.Ytipbflmonhlnjaa
open Go.RowKit Rec

set_option maxRecDepth 100000 in
set_option maxHeartbeats 1600000 in
theorem kept_any (w : World) (g cap n c : Nat) (a : Option Addr) (l : List Int) (hO : OwnB w g cap (l ++ [165])) (hb : Bytes w a l) (hl : l.length = n) (h47 : n ≤ 140737488351232) :
    Calls Try.prog 17 #[.slice (some ⟨g, 0, none⟩) (n + 1) cap, .slice a n c] w fun e w' => e = .returned (.bool true) ∧ Fr (fun k => k = g) w w' := by
  have hcap : n + 1 ≤ cap := by have := hO.room; rw [List.length_append, hl] at this; exact this
  have HO : Hid (OwnB w g cap (l ++ [165])) := hO
  have HL : Hid (l.length = n) := hl
  have HD : Hid (Below w.heap.size w w.drew) := (Below.refl _ w).drew
  have e1 : ∀ k, (convert 22 9 (.slice (some ⟨g, 0, none⟩) n k)).run Try.prog w.drew = .ok (.string (strOfNums l)) w.drew := fun k => by
    have z := (hO.on HD.out).bytes.take n
    have e : (l ++ [165]).take n = l := by rw [← hl]; exact List.take_left
    rw [e] at z
    exact str_opt z hl
  have e2 : (convert 22 9 (.slice a n c)).run Try.prog w.drew = .ok (.string (strOfNums l)) w.drew := str_opt (hb.on HD.out) hl
  have hc : w.cell? ⟨g, n, none⟩ = some (.int .u8 165) := by
    have z := hO.cell n (by rw [List.length_append, hl]; simp)
    rw [z]
    have : nth (l ++ [165]) n = 165 := by rw [nth_app, if_neg (by omega), hl, Nat.sub_self]; rfl
    rw [this]
  clear hO hb hl
  go_enter Try.func17, Try.ntmps17
  go_wp2
  go_region
  all_goals
    go_wp2
    go_loopw [6, 25, 26, 27, 28, 29, 30, 31, 32, 33, 34, 35, 36] (fun _ i _ _ _ _ _ _ _ _ _ _ _ wr => ∃ k : Nat, k ≤ n + 1 ∧ i = .int .i64 k ∧ Fr (fun k => k = g) w wr ∧ ∃ M : List Int, M.length = n + 1 ∧ OwnB wr g cap M) (fun _ i _ _ _ _ _ _ _ _ _ _ _ _ => n + 1 - (intOf i).toNat)
    case atStart => exact ⟨0, Nat.zero_le _, rfl, below_fr HD.out _, _, by rw [List.length_append, HL.out]; rfl, HO.out.on HD.out⟩
    case round =>
      obtain ⟨k, hk, rfl, hf, M, hM, hOM⟩ := hrel
      have HF : Hid (Fr (fun k => k = g) w wr) := hf
      have HM : Hid (M.length = n + 1 ∧ OwnB wr g cap M) := ⟨hM, hOM⟩
      clear hf hM hOM e1 e2 hc
      by_cases hlt : k < n + 1
      · have d := HM.out.2.cell k (by rw [HM.out.1]; exact hlt)
        have f := HM.out.2.frozen k
        have hw := HM.out.2.wf k
        generalize nth M k = y at *
        go_wp2
        exact ⟨⟨k + 1, hlt, rfl, HF.out.trans Fr.set (fun _ e => .inl e), _, by rw [List.length_set]; exact HM.out.1, HM.out.2.set k _ (by rw [HM.out.1]; exact hlt) (by omega)⟩, by simp [intOf]; omega⟩
      · go_wp2
        go_ret
        exact ⟨rfl, HF.out⟩
set_option maxRecDepth 100000 in
set_option maxHeartbeats 800000 in
theorem copied_any (w : World) (p : Addr) (n c : Nat) (l : List Int) (hb : Bytes w (some p) l) (hl : l.length = n) (h0 : 0 < n) (h47 : n ≤ 140737488351232) :
    Calls Try.prog 48 #[.slice (some p) n c] w fun e w' => ∃ g cap, e = .returned (.slice (some ⟨g, 0, none⟩) n cap) ∧ w.heap.size ≤ g ∧ OwnB w' g cap l ∧ Below w.heap.size w w' := by
  have HB : Hid (Bytes w (some p) l) := hb
  have HL : Hid (l.length = n) := hl
  clear hb hl
  go_enter Try.func48, Try.ntmps48
  go_wp2_with (at_builtin; refine wp_bown rfl (.tmp 4) (.tmp 5) rfl (.slice none 0 0) 0 [] rfl ⟨rfl, .inl ⟨rfl, rfl⟩⟩ p n c l rfl h0 HL.out HB.out (by omega) ?_; intro g cap w2 ho hf hg; have H2 : Hid (w.heap.size ≤ g ∧ OwnB w2 g cap l ∧ Below w.heap.size w w2) := ⟨hg.elim (fun e => by cases e) id, ownB_of (n := n) (by simpa using ho) HL.out (by omega) HB.out.wf, hf.below _ (fun j hj => by cases hj) (Nat.le_refl _)⟩; clear ho hf hg)
  go_ret
  exact ⟨_, _, by first | rfl | (rw [Nat.zero_add]; rfl), H2.out⟩
set_option maxRecDepth 100000 in
set_option maxHeartbeats 800000 in
theorem of_no (w : World) (a : Option Addr) (n c : Nat) (hn : n ≤ 9223372036854775807) (h : n % 512 ≠ 0 ∨ isz ((n / 512 : Nat) : Int) = false) : Calls Try.prog 16 #[.slice a n c] w fun e w' => e = .returned (.tuple #[.pointer none, .int .i64 32]) ∧ w = w' := by
  by_cases h0 : n = 0
  · subst h0
    clear h
    go_enter Try.func16, Try.ntmps16
    go_wp2
    go_ret2
    exact ⟨rfl, rfl⟩
  · have h0' : ¬ (n : Int) = 0 := by omega
    by_cases hm : n % 512 = 0
    · have hs := h.resolve_left (fun x => x hm)
      have hbig : 16384 < (n : Int) / 512 := by
        unfold isz at hs
        simp at hs
        omega
      have hm' : (n : Int) % 512 = 0 := by omega
      clear h hs hm
      go_enter Try.func16, Try.ntmps16
      go_wp2
      go_ret2
      exact ⟨rfl, rfl⟩
    · have hm' : ¬ (n : Int) % 512 = 0 := by omega
      clear h
      go_enter Try.func16, Try.ntmps16
      go_wp2
      go_ret2
      exact ⟨rfl, rfl⟩
end Go.Proofs.Ytipbflmonhlnjaa
