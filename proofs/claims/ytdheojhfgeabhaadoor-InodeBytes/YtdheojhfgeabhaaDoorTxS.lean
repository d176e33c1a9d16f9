import Derived.Test.YtdheojhfgeabhaaDoorKTxL
import Derived.Test.YtdheojhfgeabhaaDoorKAMath
namespace Go.Proofs.YtdheojhfgeabhaaDoor
open Go.RowKit Go.Maps Rec

def touchT (nb : Nat) (i first : Int) : Int := if i < first ∨ (nb : Int) ≤ i then 31 else 0
theorem touchT_ok {nb i first : Nat} (h0 : first ≤ i) (h1 : i < nb) : touchT nb (i : Int) (first : Int) = 0 := by
  unfold touchT
  rw [if_neg (by omega)]
set_option maxRecDepth 100000 in
set_option maxHeartbeats 4000000 in
theorem mayTouch_any (w : World) (T : Tx) (D : Dk) (h : TxAt w T) (hD : Disk w D) (hd : D.d = T.d) (hn : D.nb = T.nb) (i first : Int) :
    Calls Tryd.prog 43 #[.pointer (some ⟨T.t, 0, none⟩), .int .i64 i, .int .i64 first] w fun e w' => e = .returned (.int .i64 (touchT T.nb i first)) ∧ w = w' := by
  have hc3 : w.cell? ⟨T.t, 3, none⟩ = some (.bool false) := h.cell 3
  have hc0 : w.cell? ⟨T.t, 0, none⟩ = some (.pointer (some ⟨D.d, 0, none⟩)) := by rw [hd]; exact h.cell 0
  have HB : Hid (Calls Tryd.prog 52 #[.pointer (some ⟨D.d, 0, none⟩)] w fun e w' => e = .returned (.int .i64 T.nb) ∧ w = w') := by
    have := blocks_any w D hD
    rw [hn] at this
    exact this
  clear h hD hd hn
  go_enter Tryd.func43, Tryd.ntmps43
  by_cases h1 : i < first
  · go_wp2
    go_ret
    exact ⟨by unfold touchT; rw [if_pos (.inl h1)]; rfl, rfl⟩
  · have h1' : first ≤ i := by omega
    by_cases h2 : (T.nb : Int) ≤ i
    · go_wp2_with (go_at_call 52; refine HB.out.mono ?_; rintro e w' ⟨rfl, rfl⟩)
      go_ret
      exact ⟨by unfold touchT; rw [if_pos (.inr h2)]; rfl, rfl⟩
    · have h2' : i < (T.nb : Int) := by omega
      go_wp2_with (go_at_call 52; refine HB.out.mono ?_; rintro e w' ⟨rfl, rfl⟩)
      go_ret
      exact ⟨by unfold touchT; rw [if_neg (by omega)]; rfl, rfl⟩
theorem touch_over (w : World) (t : Nat) (h : OverAt w t) (i first : Int) :
    Calls Tryd.prog 43 #[.pointer (some ⟨t, 0, none⟩), .int .i64 i, .int .i64 first] w fun e w' => e = .returned (.int .i64 61) ∧ w = w' := by
  have hc3 : w.cell? ⟨t, 3, none⟩ = some (.bool true) := cell_of_row _ _ _ _ _ _ h
  go_enter Tryd.func43, Tryd.ntmps43
  go_wp2
  go_ret
  exact ⟨rfl, rfl⟩
set_option maxRecDepth 100000 in
theorem read_over (w : World) (t : Nat) (h : OverAt w t) (i : Int) : Calls Tryd.prog 29 #[.pointer (some ⟨t, 0, none⟩), .int .i64 i] w fun e w' => e = .returned (.tuple #[.slice none 0 0, .int .i64 61]) ∧ w = w' := by
  have HT : Hid (Calls Tryd.prog 43 #[.pointer (some ⟨t, 0, none⟩), .int .i64 i, .int .i64 0] w fun e w' => e = .returned (.int .i64 61) ∧ w = w') := touch_over w t h i 0
  clear h
  go_enter Tryd.func29, Tryd.ntmps29
  go_wp2_with (go_at_call 43; refine HT.out.mono ?_; rintro e w' ⟨rfl, rfl⟩)
  go_ret2
  exact ⟨rfl, rfl⟩
set_option maxRecDepth 100000 in
set_option maxHeartbeats 4000000 in
theorem tread_any (w : World) (T : Tx) (D : Dk) (h : TxAt w T) (hD : Disk w D) (hd : D.d = T.d) (hn : D.nb = T.nb) (hdn : D.down = false) (i : Nat) (hi : i < T.nb) :
    Calls Tryd.prog 29 #[.pointer (some ⟨T.t, 0, none⟩), .int .i64 (i : Int)] w fun e w' => ∃ g cap, e = .returned (.tuple #[.slice (some ⟨g, 0, none⟩) 512 cap, .int .i64 0]) ∧ w.heap.size ≤ g ∧ OwnB w' g cap (match T.c i with | some q => q.x | none => bck D.full i) ∧ Below w.heap.size w w' := by
  have HT : Hid (Calls Tryd.prog 43 #[.pointer (some ⟨T.t, 0, none⟩), .int .i64 (i : Int), .int .i64 0] w fun e w' => e = .returned (.int .i64 0) ∧ w = w') := by
    have := mayTouch_any w T D h hD hd hn (i : Int) 0
    rw [show touchT T.nb (i : Int) 0 = 0 from touchT_ok (first := 0) (Nat.zero_le _) hi] at this
    exact this
  have hc1 : w.cell? ⟨T.t, 1, none⟩ = some (.map (some T.mb)) := h.cell 1
  have hc0 : w.cell? ⟨T.t, 0, none⟩ = some (.pointer (some ⟨D.d, 0, none⟩)) := by rw [hd]; exact h.cell 0
  have hlk := h.map.look h.ok i (by have := h.n16; omega)
  have HR : Hid (Calls Tryd.prog 45 #[.pointer (some ⟨D.d, 0, none⟩), .int .i64 i] w fun e w' => ∃ g cap, e = .returned (.tuple #[.slice (some ⟨g, 0, none⟩) 512 cap, .int .i64 0]) ∧ w.heap.size ≤ g ∧ OwnB w' g cap (bck D.full i) ∧ Below w.heap.size w w') := read_yes w D hD i (by omega) hdn
  clear hdn hd hn hi
  cases hci : T.c i with
  | none =>
    rw [hci] at hlk
    have hlk' : (Instr.lookup 62 (.map (some T.mb)) (.int .i64 (i : Int)) true).run Tryd.prog w = .ok (.tuple #[.slice none 0 0, .bool false]) w := hlk
    clear h hD hlk hci
    go_enter Tryd.func29, Tryd.ntmps29
    go_wp2_with (first
      | (go_at_call 43; refine HT.out.mono ?_; rintro e w' ⟨rfl, rfl⟩)
      | (go_at_call 45; refine HR.out.mono ?_; rintro e w' ⟨g, cap, rfl, h1, h2, h3⟩; have H3 : Hid (w.heap.size ≤ g ∧ OwnB w' g cap (bck D.full i) ∧ Below w.heap.size w w') := ⟨h1, h2, h3⟩; clear h1 h2 h3))
    go_ret2
    exact ⟨g, cap, rfl, H3.out.1, H3.out.2.1, H3.out.2.2⟩
  | some q =>
    rw [hci] at hlk
    have hlk' : (Instr.lookup 62 (.map (some T.mb)) (.int .i64 (i : Int)) true).run Tryd.prog w = .ok (.tuple #[.slice (some ⟨q.g, 0, none⟩) 512 q.c, .bool true]) w := hlk
    have HC : Hid (Calls Tryd.prog 44 #[.slice (some ⟨q.g, 0, none⟩) 512 q.c] w fun e w' => ∃ g cap, e = .returned (.slice (some ⟨g, 0, none⟩) 512 cap) ∧ w.heap.size ≤ g ∧ OwnB w' g cap q.x ∧ Below w.heap.size w w') := bclone_any w ⟨q.g, 0, none⟩ 512 q.c q.x (h.blk i q hci).bytes (h.blk i q hci).len (by omega)
    clear h hD hlk hci HR
    go_enter Tryd.func29, Tryd.ntmps29
    go_wp2_with (first
      | (go_at_call 43; refine HT.out.mono ?_; rintro e w' ⟨rfl, rfl⟩)
      | (go_at_call 44; refine HC.out.mono ?_; rintro e w' ⟨g, cap, rfl, h1, h2, h3⟩; have H3 : Hid (w.heap.size ≤ g ∧ OwnB w' g cap q.x ∧ Below w.heap.size w w') := ⟨h1, h2, h3⟩; clear h1 h2 h3))
    go_ret2
    exact ⟨g, cap, rfl, H3.out.1, H3.out.2.1, H3.out.2.2⟩
theorem over_row (w : World) (t : Nat) (cs : Array Value) (hs : cs.size = 4) (h : w.heap[t]? = some (.cells cs 65 (0, 0))) :
    OverAt ((((w.setCell ⟨t, 0, none⟩ (.pointer none)).setCell ⟨t, 1, none⟩ (.map none)).setCell ⟨t, 2, none⟩ (.slice none 0 0)).setCell ⟨t, 3, none⟩ (.bool true)) t ∧ Fr (fun k => k = t) w ((((w.setCell ⟨t, 0, none⟩ (.pointer none)).setCell ⟨t, 1, none⟩ (.map none)).setCell ⟨t, 2, none⟩ (.slice none 0 0)).setCell ⟨t, 3, none⟩ (.bool true)) := by
  obtain ⟨l⟩ := cs
  obtain ⟨a, b, c, d, rfl⟩ : ∃ a b c d, l = [a, b, c, d] := by
    simp at hs
    match l, hs with
    | [a, b, c, d], _ => exact ⟨a, b, c, d, rfl⟩
  have h1 := heap_setCell_same w t 0 _ _ (.pointer none) h
  have h2 := heap_setCell_same _ t 1 _ _ (.map none) h1
  have h3 := heap_setCell_same _ t 2 _ _ (.slice none 0 0) h2
  have h4 := heap_setCell_same _ t 3 _ _ (.bool true) h3
  refine ⟨?_, ((Fr.set.trans Fr.set fun _ hk => .inl hk).trans Fr.set fun _ hk => .inl hk).trans Fr.set fun k hk => .inl hk⟩
  unfold OverAt
  rw [h4]
  rfl
theorem begin_any (w : World) (d nb : Nat) (hn : nb ≤ 16384) : Calls Tryd.prog 12 #[.pointer (some ⟨d, 0, none⟩)] w fun e w' => ∃ T, e = .returned (.pointer (some ⟨T.t, 0, none⟩)) ∧ TMine w w' T ∧ T.d = d ∧ T.nb = nb ∧ T.c = (fun _ => none) ∧ T.us = [] := by
  have hmm := @run_makeMap Tryd.prog
  go_enter Tryd.func12, Tryd.ntmps12
  go_wp2
  go_ret
  have hm : MapAt ((w.alloc (.map #[] 0)).alloc (.cells #[.pointer (some ⟨d, 0, none⟩), .map (some w.heap.size), .slice none 0 0, .bool false] 65)) w.heap.size (fun _ => none) nb := by
    have := ((World.ownsMap_made w Tryd.prog 3 rel).mono (Nat.zero_le 1000)).alloc (.cells #[.pointer (some ⟨d, 0, none⟩), .map (some w.heap.size), .slice none 0 0, .bool false] 65)
    unfold MapAt dat
    rw [lst_none]
    exact this
  refine ⟨⟨w.heap.size + 1, d, w.heap.size, nb, fun _ => none, .slice none 0 0, []⟩, ?_, ⟨⟨?_, hm, cok_none nb, (fun i q hq => by cases hq), ⟨rfl, .inl ⟨rfl, rfl⟩⟩, (fun u hu => by cases hu), (fun u hu => by cases hu), by simp, (fun k hk => by cases hk), ?_, by simp, hn, by simp [lst_none]⟩, ?_, ?_⟩, rfl, rfl, rfl, rfl⟩
  · simp
  · show _[w.heap.size + 1]? = _
    rw [show w.heap.size + 1 = (w.alloc (.map #[] 0)).heap.size from by simp]
    exact heap_alloc_new _ _
  · rintro k (⟨i, q, hq, _⟩ | ⟨u, hu, _⟩)
    · cases hq
    · cases hu
  · rintro k ((rfl | rfl | hk) | ⟨i, q, hq, _⟩ | ⟨u, hu, _⟩)
    · show w.heap.size ≤ w.heap.size + 1; omega
    · exact Nat.le_refl _
    · cases hk
    · cases hq
    · cases hu
  · exact ((Below.refl _ w).alloc (Nat.le_refl _) _).alloc (by simp) _
end Go.Proofs.YtdheojhfgeabhaaDoor
