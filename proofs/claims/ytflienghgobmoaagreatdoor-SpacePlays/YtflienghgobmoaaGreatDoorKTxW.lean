import Derived.Test.YtflienghgobmoaaGreatDoorKWFm
import Derived.Test.YtflienghgobmoaaGreatDoorKWAp
import Derived.Test.YtflienghgobmoaaGreatDoorKFit
namespace Go.Proofs.YtflienghgobmoaaGreatDoor
open Go.RowKit Go.Maps Go.Sort Go.Shelf Rec

theorem sortsA (m : Nat) : AnyZI.SortsIn Tryz.prog sortedA_ren Fence.wide m :=
  ⟨fun blk off cap ss W hH hblk hsz => callsIn_wide.2 (AnyM.slices_Sort_int sortA blk off cap ss W hH hblk hsz),
   fun p cap W => callsIn_wide.2 (AnyM.slices_Sort_int_none sortA p cap W)⟩
theorem written_any (w : World) (T : Tx) (h : TxAt w T) :
    Calls Tryz.prog 38 #[.pointer (some ⟨T.t, 0, none⟩)] w fun e w' => ∃ v : Value, e = .returned v ∧ w'.ownsRow w.heap.size 3 1 v (lst T.c T.nb).length (((lst T.c T.nb).map Bk.n).map (Value.int .i64)) ∧ (v = .slice none 0 0 ↔ lst T.c T.nb = []) ∧ Below w.heap.size w w' := by
  refine (callsIn_wide (n := 6)).1 ?_
  have hbl := h.map.lt
  have hcnt := h.cnt
  have hc1 : w.cell? ⟨T.t, 1, none⟩ = some (.map (some T.mb)) := h.cell 1
  have HT : Hid (TxAt w T) := h
  have hsz : Maps.size (dat T.c T.nb) = (lst T.c T.nb).length := dat_size _ _
  have hseq : SeqGives Fence.wide 2 Tryz.prog 117 #[.pointer (some ⟨w.heap.size, 0, none⟩)] encZ (fun ss => ss.Perm (intKeys (dat T.c T.nb))) (Maps.size (dat T.c T.nb)) (w.alloc (.cells #[.map (some T.mb)] 113)) :=
    AnyZI.keys_gives (ρ := keysA_ren) { keysA with } Fence.wide _ trivial rfl (by omega) w.heap.size T.mb 20000 (dat T.c T.nb) _ (by simp) (by simp) (by
      obtain ⟨es, clock, hb, Ft, hs, hD⟩ := h.map
      exact ⟨es, clock, (Below.heap_alloc _ _ T.mb hbl).trans hb, Ft, hs, hD⟩)
  have cK : ∀ mb W, CallsIn Fence.wide 5 Tryz.prog 82 #[.map mb] W fun e w' => e = .returned (.func (.func 117) #[] #[.pointer (some ⟨W.heap.size, 0, none⟩)]) ∧ w' = W.alloc (.cells #[.map mb] 113) := fun mb W => AnyZI.keys_in keysA Fence.wide 5 trivial rfl mb W
  have cS := AnyZI.sorted_in sortedA Fence.wide 5 trivial trivial trivial trivial rfl (by omega) (sortsA _) (enters_of Tryz.func116 (by kernel_rfl) rfl) 117 #[.pointer (some ⟨w.heap.size, 0, none⟩)] trivial (enters_of Tryz.func117 (by kernel_rfl) rfl) _ _ (by rw [hsz]; unfold maxLen; omega) (by rw [hsz]; omega) _ hseq
  change CallsIn _ _ Tryz.prog 81 _ _ _ at cS
  have hfK : Fence.wide.fn 82 := trivial
  have hfS : Fence.wide.fn 81 := trivial
  clear hsz hcnt hbl h hseq
  refine callsIn_of_wp Tryz.func38 rfl trivial ?_ rfl
  simp only [Tryz.ntmps38, List.size_toArray, List.length_cons, List.length_nil, Nat.reduceAdd, Nat.reduceSub, Array.replicate_succ, Array.replicate_zero, List.push_toArray, List.append_toArray, List.nil_append, List.cons_append]
  gi_wp2_with (first
    | (gi_at_call 82; refine (cK _ _).mono ?_; rintro e w' ⟨rfl, rfl⟩)
    | (gi_at_call 81; refine cS.mono ?_; rintro e w' ⟨v, ss, rfl, hS, hrow, hnil, hb⟩))
  go_ret
  have e1 := sorted_keys HT.out.ok hS
  have e2 : ss.length = (lst T.c T.nb).length := by
    have := hS.length_eq
    rw [keys_dat] at this
    simpa using this
  rw [e1, e2] at hrow
  refine ⟨v, rfl, ownsRow_base_a hrow (by simp), hnil.trans ⟨fun e => ?_, fun e => ?_⟩, ((Below.refl _ w).alloc (Nat.le_refl _) _).trans (hb.mono (by simp))⟩
  · rw [e] at e2; exact List.eq_nil_of_length_eq_zero e2.symm
  · rw [e] at e2; exact List.eq_nil_of_length_eq_zero e2
end Go.Proofs.YtflienghgobmoaaGreatDoor

namespace Go.Proofs.YtflienghgobmoaaGreatDoor
open Go.RowKit Go.Maps Rec

def touchT (nb : Nat) (i first : Int) : Int := if i < first ∨ (nb : Int) ≤ i then 31 else 0
theorem touchT_ok {nb i first : Nat} (h0 : first ≤ i) (h1 : i < nb) : touchT nb (i : Int) (first : Int) = 0 := by
  unfold touchT
  rw [if_neg (by omega)]
set_option maxRecDepth 100000 in
set_option maxHeartbeats 4000000 in
theorem mayTouch_any (w : World) (T : Tx) (D : Dk) (h : TxAt w T) (hD : Disk w D) (hd : D.d = T.d) (hn : D.nb = T.nb) (i first : Int) :
    Calls Tryz.prog 77 #[.pointer (some ⟨T.t, 0, none⟩), .int .i64 i, .int .i64 first] w fun e w' => e = .returned (.int .i64 (touchT T.nb i first)) ∧ w = w' := by
  have hc3 : w.cell? ⟨T.t, 3, none⟩ = some (.bool false) := h.cell 3
  have hc0 : w.cell? ⟨T.t, 0, none⟩ = some (.pointer (some ⟨D.d, 0, none⟩)) := by rw [hd]; exact h.cell 0
  have HB : Hid (Calls Tryz.prog 114 #[.pointer (some ⟨D.d, 0, none⟩)] w fun e w' => e = .returned (.int .i64 T.nb) ∧ w = w') := by
    have := blocks_any w D hD
    rw [hn] at this
    exact this
  clear h hD hd hn
  go_enter Tryz.func77, Tryz.ntmps77
  by_cases h1 : i < first
  · go_wp2
    go_ret
    exact ⟨by unfold touchT; rw [if_pos (.inl h1)]; rfl, rfl⟩
  · have h1' : first ≤ i := by omega
    by_cases h2 : (T.nb : Int) ≤ i
    · go_wp2_with (go_at_call 114; refine HB.out.mono ?_; rintro e w' ⟨rfl, rfl⟩)
      go_ret
      exact ⟨by unfold touchT; rw [if_pos (.inr h2)]; rfl, rfl⟩
    · have h2' : i < (T.nb : Int) := by omega
      go_wp2_with (go_at_call 114; refine HB.out.mono ?_; rintro e w' ⟨rfl, rfl⟩)
      go_ret
      exact ⟨by unfold touchT; rw [if_neg (by omega)]; rfl, rfl⟩
theorem touch_over (w : World) (t : Nat) (h : OverAt w t) (i first : Int) :
    Calls Tryz.prog 77 #[.pointer (some ⟨t, 0, none⟩), .int .i64 i, .int .i64 first] w fun e w' => e = .returned (.int .i64 61) ∧ w = w' := by
  have hc3 : w.cell? ⟨t, 3, none⟩ = some (.bool true) := cell_of_row _ _ _ _ _ _ h
  go_enter Tryz.func77, Tryz.ntmps77
  go_wp2
  go_ret
  exact ⟨rfl, rfl⟩
set_option maxRecDepth 100000 in
theorem read_over (w : World) (t : Nat) (h : OverAt w t) (i : Int) : Calls Tryz.prog 65 #[.pointer (some ⟨t, 0, none⟩), .int .i64 i] w fun e w' => e = .returned (.tuple #[.slice none 0 0, .int .i64 61]) ∧ w = w' := by
  have HT : Hid (Calls Tryz.prog 77 #[.pointer (some ⟨t, 0, none⟩), .int .i64 i, .int .i64 0] w fun e w' => e = .returned (.int .i64 61) ∧ w = w') := touch_over w t h i 0
  clear h
  go_enter Tryz.func65, Tryz.ntmps65
  go_wp2_with (go_at_call 77; refine HT.out.mono ?_; rintro e w' ⟨rfl, rfl⟩)
  go_ret2
  exact ⟨rfl, rfl⟩
set_option maxRecDepth 100000 in
set_option maxHeartbeats 4000000 in
theorem tread_any (w : World) (T : Tx) (D : Dk) (h : TxAt w T) (hD : Disk w D) (hd : D.d = T.d) (hn : D.nb = T.nb) (hdn : D.down = false) (i : Nat) (hi : i < T.nb) :
    Calls Tryz.prog 65 #[.pointer (some ⟨T.t, 0, none⟩), .int .i64 (i : Int)] w fun e w' => ∃ g cap, e = .returned (.tuple #[.slice (some ⟨g, 0, none⟩) 512 cap, .int .i64 0]) ∧ w.heap.size ≤ g ∧ OwnB w' g cap (match T.c i with | some q => q.x | none => bck D.full i) ∧ Below w.heap.size w w' := by
  have HT : Hid (Calls Tryz.prog 77 #[.pointer (some ⟨T.t, 0, none⟩), .int .i64 (i : Int), .int .i64 0] w fun e w' => e = .returned (.int .i64 0) ∧ w = w') := by
    have := mayTouch_any w T D h hD hd hn (i : Int) 0
    rw [show touchT T.nb (i : Int) 0 = 0 from touchT_ok (first := 0) (Nat.zero_le _) hi] at this
    exact this
  have hc1 : w.cell? ⟨T.t, 1, none⟩ = some (.map (some T.mb)) := h.cell 1
  have hc0 : w.cell? ⟨T.t, 0, none⟩ = some (.pointer (some ⟨D.d, 0, none⟩)) := by rw [hd]; exact h.cell 0
  have hlk := h.map.look h.ok i (by have := h.n16; omega)
  have HR : Hid (Calls Tryz.prog 104 #[.pointer (some ⟨D.d, 0, none⟩), .int .i64 i] w fun e w' => ∃ g cap, e = .returned (.tuple #[.slice (some ⟨g, 0, none⟩) 512 cap, .int .i64 0]) ∧ w.heap.size ≤ g ∧ OwnB w' g cap (bck D.full i) ∧ Below w.heap.size w w') := read_yes w D hD i (by omega) hdn
  clear hdn hd hn hi
  cases hci : T.c i with
  | none =>
    rw [hci] at hlk
    have hlk' : (Instr.lookup 113 (.map (some T.mb)) (.int .i64 (i : Int)) true).run Tryz.prog w = .ok (.tuple #[.slice none 0 0, .bool false]) w := hlk
    clear h hD hlk hci
    go_enter Tryz.func65, Tryz.ntmps65
    go_wp2_with (first
      | (go_at_call 77; refine HT.out.mono ?_; rintro e w' ⟨rfl, rfl⟩)
      | (go_at_call 104; refine HR.out.mono ?_; rintro e w' ⟨g, cap, rfl, h1, h2, h3⟩; have H3 : Hid (w.heap.size ≤ g ∧ OwnB w' g cap (bck D.full i) ∧ Below w.heap.size w w') := ⟨h1, h2, h3⟩; clear h1 h2 h3))
    go_ret2
    exact ⟨g, cap, rfl, H3.out.1, H3.out.2.1, H3.out.2.2⟩
  | some q =>
    rw [hci] at hlk
    have hlk' : (Instr.lookup 113 (.map (some T.mb)) (.int .i64 (i : Int)) true).run Tryz.prog w = .ok (.tuple #[.slice (some ⟨q.g, 0, none⟩) 512 q.c, .bool true]) w := hlk
    have HC : Hid (Calls Tryz.prog 19 #[.slice (some ⟨q.g, 0, none⟩) 512 q.c] w fun e w' => ∃ g cap, e = .returned (.slice (some ⟨g, 0, none⟩) 512 cap) ∧ w.heap.size ≤ g ∧ OwnB w' g cap q.x ∧ Below w.heap.size w w') := bclone_any w ⟨q.g, 0, none⟩ 512 q.c q.x (h.blk i q hci).bytes (h.blk i q hci).len (by omega)
    clear h hD hlk hci HR
    go_enter Tryz.func65, Tryz.ntmps65
    go_wp2_with (first
      | (go_at_call 77; refine HT.out.mono ?_; rintro e w' ⟨rfl, rfl⟩)
      | (go_at_call 19; refine HC.out.mono ?_; rintro e w' ⟨g, cap, rfl, h1, h2, h3⟩; have H3 : Hid (w.heap.size ≤ g ∧ OwnB w' g cap q.x ∧ Below w.heap.size w w') := ⟨h1, h2, h3⟩; clear h1 h2 h3))
    go_ret2
    exact ⟨g, cap, rfl, H3.out.1, H3.out.2.1, H3.out.2.2⟩
set_option maxRecDepth 100000 in
theorem mark_any (w : World) (T : Tx) (h : TxAt w T) : Calls Tryz.prog 62 #[.pointer (some ⟨T.t, 0, none⟩)] w fun e w' => e = .returned (.tuple #[.int .i64 (T.us.length : Nat), .int .i64 0]) ∧ Below w.heap.size w w' := by
  have hc3 : w.cell? ⟨T.t, 3, none⟩ = some (.bool false) := h.cell 3
  obtain ⟨a, c, hv, _⟩ := owns_slice h.und
  have hc2 : w.cell? ⟨T.t, 2, none⟩ = some (.slice a T.us.length c) := by rw [← hv]; exact h.cell 2
  clear h
  go_enter Tryz.func62, Tryz.ntmps62
  go_wp2
  go_ret2
  exact ⟨rfl, by repeat (first | exact Below.refl _ _ | apply Below.drew)⟩
theorem over_row (w : World) (t : Nat) (cs : Array Value) (hs : cs.size = 4) (h : w.heap[t]? = some (.cells cs 116 (0, 0))) :
    OverAt ((((w.setCell ⟨t, 0, none⟩ (.pointer none)).setCell ⟨t, 1, none⟩ (.map none)).setCell ⟨t, 2, none⟩ (.slice none 0 0)).setCell ⟨t, 3, none⟩ (.bool true)) t ∧ Fr (fun k => k = t) w ((((w.setCell ⟨t, 0, none⟩ (.pointer none)).setCell ⟨t, 1, none⟩ (.map none)).setCell ⟨t, 2, none⟩ (.slice none 0 0)).setCell ⟨t, 3, none⟩ (.bool true)) := by
  obtain ⟨l⟩ := cs
  obtain ⟨a, b, c, d, rfl⟩ : ∃ a b c d, l = [a, b, c, d] := by
    simp at hs
    match l, hs with
    | [a, b, c, d], _ => exact ⟨a, b, c, d, rfl⟩
  have h1 := heap_setCell_same w t 0 _ _ (.pointer none) h
  have h2 := heap_setCell_same _ t 1 _ _ (.map none) h1
  have h3 := heap_setCell_same _ t 2 _ _ (.slice none 0 0) h2
  have h4 := heap_setCell_same _ t 3 _ _ (.bool true) h3
  refine ⟨?_, ((Fr.set.trans Fr.set fun _ hk => .inl hk).trans Fr.set fun _ hk => .inl hk).trans Fr.set fun k hk => .inl hk⟩
  unfold OverAt
  rw [h4]
  rfl
set_option maxRecDepth 100000 in
theorem abort_any (w : World) (t : Nat) (cs : Array Value) (hs : cs.size = 4) (h : w.heap[t]? = some (.cells cs 116 (0, 0))) : Calls Tryz.prog 42 #[.pointer (some ⟨t, 0, none⟩)] w fun e w' => e = .returned (.tuple #[]) ∧ OverAt w' t ∧ Fr (fun k => k = t) w w' := by
  have hO := over_row w t cs hs h
  have hf : ∀ j, w.frozen? ⟨t, j, none⟩ = false := fun j => frozen_of_row _ _ _ _ _ h
  have hc : ∀ j, w.cell? ⟨t, j, none⟩ = cs[j]? := fun j => cell_of_row _ _ _ _ _ _ h
  go_enter Tryz.func42, Tryz.ntmps42
  go_wp2
  go_end0
  exact ⟨rfl, hO.1, hO.2⟩
theorem begin_any (w : World) (d nb : Nat) (hn : nb ≤ 16384) : Calls Tryz.prog 22 #[.pointer (some ⟨d, 0, none⟩)] w fun e w' => ∃ T, e = .returned (.pointer (some ⟨T.t, 0, none⟩)) ∧ TMine w w' T ∧ T.d = d ∧ T.nb = nb ∧ T.c = (fun _ => none) ∧ T.us = [] := by
  have hmm := @run_makeMap Tryz.prog
  go_enter Tryz.func22, Tryz.ntmps22
  go_wp2
  go_ret
  have hm : MapAt ((w.alloc (.map #[] 0)).alloc (.cells #[.pointer (some ⟨d, 0, none⟩), .map (some w.heap.size), .slice none 0 0, .bool false] 116)) w.heap.size (fun _ => none) nb := by
    have := ((World.ownsMap_made w Tryz.prog 3 rel).mono (Nat.zero_le 20000)).alloc (.cells #[.pointer (some ⟨d, 0, none⟩), .map (some w.heap.size), .slice none 0 0, .bool false] 116)
    unfold MapAt dat
    rw [lst_none]
    exact this
  refine ⟨⟨w.heap.size + 1, d, w.heap.size, nb, fun _ => none, .slice none 0 0, []⟩, ?_, ⟨⟨?_, hm, cok_none nb, (fun i q hq => by cases hq), ⟨rfl, .inl ⟨rfl, rfl⟩⟩, (fun u hu => by cases hu), (fun u hu => by cases hu), by simp, (fun k hk => by cases hk), ?_, by simp, hn, by simp [lst_none]⟩, ?_, ?_⟩, rfl, rfl, rfl, rfl⟩
  · simp
  · show _[w.heap.size + 1]? = _
    rw [show w.heap.size + 1 = (w.alloc (.map #[] 0)).heap.size from by simp]
    exact heap_alloc_new _ _
  · rintro k (⟨i, q, hq, _⟩ | ⟨u, hu, _⟩)
    · cases hq
    · cases hu
  · rintro k ((rfl | rfl | hk) | ⟨i, q, hq, _⟩ | ⟨u, hu, _⟩)
    · show w.heap.size ≤ w.heap.size + 1; omega
    · exact Nat.le_refl _
    · cases hk
    · cases hq
    · cases hu
  · exact ((Below.refl _ w).alloc (Nat.le_refl _) _).alloc (by simp) _
end Go.Proofs.YtflienghgobmoaaGreatDoor

namespace Go.Proofs.YtflienghgobmoaaGreatDoor
open Go.RowKit Go.Maps Rec

def Tx.setC (T : Tx) (c : Cm) : Tx := { T with c := c }
def Tx.setU (T : Tx) (v : Value) (us : List Un) : Tx := { T with uv := v, us := us }
theorem setC_held {T : Tx} {i : Nat} {q : Option Bk} {k : Nat} (h : (T.setC (ups T.c i q)).held k) : T.held k ∨ ∃ x, q = some x ∧ x.g = k := by
  rcases h with ⟨j, x, hj, rfl⟩ | ⟨u, hu, hk⟩
  · have hj : ups T.c i q j = some x := hj
    by_cases e : j = i
    · subst e
      rw [ups_same] at hj
      exact .inr ⟨x, hj, rfl⟩
    · rw [ups_other _ _ e] at hj
      exact .inl (.inl ⟨j, x, hj, rfl⟩)
  · exact .inl (.inr ⟨u, hu, hk⟩)
/-- an entry of the map changes -/
theorem TxAt.setC {w w' : World} {T : Tx} {i : Nat} {q : Option Bk} (h : TxAt w T) (hM : MapAt w' T.mb (ups T.c i q) T.nb) (hF : Fr (fun k => k = T.mb) w w') (hb : ∀ x, q = some x → BlkAt w x.g x.x ∧ ¬ T.has x.g ∧ x.n = (i : Int)) (h0 : 98 ≤ i) (h1 : i < T.nb) (hl : (lst (ups T.c i q) T.nb).length ≤ 96) :
    TxAt w' (T.setC (ups T.c i q)) := by
  have ne : ∀ k, T.held k → k ≠ T.mb := fun k hk e => h.ap3 k hk (.inr (.inl e))
  refine ⟨hF.heap h.row h.ap1, hM, h.ok.ups q h0 h1 (fun x hx => (hb x hx).2.2), fun j x hj => ?_, owns_fr h.und hF (fun k hk => (h.ap2 k hk).2), fun u hu => (h.una u hu).fr hF (fun k hk => ne k (.inr ⟨u, hu, hk⟩)), h.unb, h.ap1, h.ap2, fun k hk => ?_, h.ul, h.n16, hl⟩
  · have hj' : ups T.c i q j = some x := hj
    by_cases e : j = i
    · subst e
      rw [ups_same] at hj'
      obtain ⟨b1, b2, _⟩ := hb x hj'
      exact b1.fr hF (fun e => b2 (.inr (.inl e)))
    · rw [ups_other _ _ e] at hj'
      exact (h.blk j x hj').fr hF (ne _ (.inl ⟨j, x, hj', rfl⟩))
  · rcases setC_held hk with hk | ⟨x, hx, rfl⟩
    · exact h.ap3 k hk
    · exact (hb x hx).2.1
/-- an undo step is laid at the end -/
theorem TxAt.push {w w1 : World} {T : Tx} {u : Un} {g cap : Nat} (h : TxAt w T) (hu : UnAt w T.t u) (hn : ∀ k, u.all k → ¬ T.has k) (hb : 98 ≤ u.i ∧ u.i < T.nb ∧ ∀ q, u.old = some q → q.n = (u.i : Int)) (hl : T.us.length + 1 ≤ 4000000)
    (hr : w1.ownsRow 0 1 1 (.slice (some ⟨g, 0, none⟩) (T.us.length + 1) cap) (T.us.length + 1) (T.us.map Un.v ++ [u.v])) (hF : Fr (fun k => T.uv.ownBlock = some k) w w1) (hg : T.uv.ownBlock = some g ∨ w.heap.size ≤ g) :
    TxAt (w1.setCell ⟨T.t, 2, none⟩ (.slice (some ⟨g, 0, none⟩) (T.us.length + 1) cap)) (T.setU (.slice (some ⟨g, 0, none⟩) (T.us.length + 1) cap) (T.us ++ [u])) ∧ Fr T.has w (w1.setCell ⟨T.t, 2, none⟩ (.slice (some ⟨g, 0, none⟩) (T.us.length + 1) cap)) := by
  have hgt : g ≠ T.t ∧ g ≠ T.mb := by
    rcases hg with e | e
    · exact h.ap2 g e
    · have a1 := h.lt (k := T.t) (.inl (.inl rfl))
      have a2 := h.lt (k := T.mb) (.inl (.inr (.inl rfl)))
      exact ⟨by omega, by omega⟩
  have hut : ∀ k, T.uv.ownBlock = some k → k ≠ T.t := fun k hk => (h.ap2 k hk).1
  have F2 : Fr (fun k => k = T.t) w1 (w1.setCell ⟨T.t, 2, none⟩ (.slice (some ⟨g, 0, none⟩) (T.us.length + 1) cap)) := Fr.set
  have FA : Fr (fun k => k = T.t ∨ T.uv.ownBlock = some k) w (w1.setCell ⟨T.t, 2, none⟩ (.slice (some ⟨g, 0, none⟩) (T.us.length + 1) cap)) := (hF.mono (fun k hk => .inr hk)).trans F2 (fun k hk => .inl (.inl hk))
  have held : ∀ k, T.held k → ¬ (k = T.t ∨ T.uv.ownBlock = some k) := fun k hk e => h.ap3 k hk (e.elim .inl (fun e => .inr (.inr e)))
  have hnu : ∀ k, u.all k → ¬ (k = T.t ∨ T.uv.ownBlock = some k) := fun k hk e => hn k hk (e.elim .inl (fun e => .inr (.inr e)))
  have rowt : w1.heap[T.t]? = some (.cells T.cells 116 (0, 0)) := hF.heap h.row (fun e => hut _ e rfl)
  have heldS : ∀ k, (T.setU (.slice (some ⟨g, 0, none⟩) (T.us.length + 1) cap) (T.us ++ [u])).held k → T.held k ∨ u.all k := fun k hk => by
    rcases hk with hk | ⟨x, hx, hk⟩
    · exact .inl (.inl hk)
    · rcases List.mem_append.1 hx with hx | hx
      · exact .inl (.inr ⟨x, hx, hk⟩)
      · simp at hx; subst hx; exact .inr hk
  refine ⟨⟨?_, ?_, h.ok, ?_, ?_, ?_, ?_, h.ap1, ?_, ?_, ?_, h.n16, h.cnt⟩, FA.mono (fun k hk => hk.elim .inl (fun e => .inr (.inr e)))⟩
  · have := heap_setCell_same w1 T.t 2 _ _ (.slice (some ⟨g, 0, none⟩) (T.us.length + 1) cap) rowt
    exact this
  · exact h.map.fr FA (fun e => e.elim (fun e => h.ap1 e.symm) (fun e => (h.ap2 _ e).2 rfl))
  · exact fun i q hq => (h.blk i q hq).fr FA (held _ (.inl ⟨i, q, hq, rfl⟩))
  · have := owns_fr hr F2 (fun k hk => by cases hk; exact hgt.1)
    show World.ownsRow _ 0 1 1 _ (T.us ++ [u]).length ((T.us ++ [u]).map Un.v)
    rw [List.length_append, List.map_append]
    exact this
  · intro x hx
    rcases List.mem_append.1 hx with hx | hx
    · exact (h.una x hx).fr FA (fun k hk => held k (.inr ⟨x, hx, hk⟩))
    · simp at hx; subst hx
      exact hu.fr FA hnu
  · intro x hx
    rcases List.mem_append.1 hx with hx | hx
    · exact h.unb x hx
    · simp at hx; subst hx; exact hb
  · intro k hk
    cases hk
    exact hgt
  · intro k hk hh
    have hlt : k < w.heap.size := (heldS k hk).elim (fun e => h.lt (.inr e)) (fun e => hu.lt e)
    have hno : ¬ T.has k := (heldS k hk).elim (h.ap3 k) (hn k)
    rcases hh with e | e | e
    · exact hno (.inl e)
    · exact hno (.inr (.inl e))
    · have e : g = k := by
        have : (Value.slice (some ⟨g, 0, none⟩) (T.us.length + 1) cap).ownBlock = some k := e
        simpa [Value.ownBlock] using this
      rcases hg with e1 | e1
      · rw [e] at e1
        exact hno (.inr (.inr e1))
      · omega
  · show (T.us ++ [u]).length ≤ _
    rw [List.length_append]; exact hl
end Go.Proofs.YtflienghgobmoaaGreatDoor

namespace Go.Proofs.YtflienghgobmoaaGreatDoor
open Go.RowKit Rec

theorem blkcells (w : World) (n : Int) (g c : Nat) : ∀ j u, [Value.int .i64 n, .slice (some ⟨g, 0, none⟩) 512 c][j]? = some u → (w.alloc (.cells #[.int .i64 n, .slice (some ⟨g, 0, none⟩) 512 c] 141)).cell? ((⟨w.heap.size, 0, none⟩ : Addr).add j) = some u := fun j u hj => by
  rw [Addr.add_lit, cell_of_row _ _ _ _ _ _ (heap_alloc_new _ _), Nat.zero_add]
  rw [← hj]
  match j with
  | 0 => rfl
  | 1 => rfl
  | j + 2 => simp
theorem wp_kown {ops : Array Oper} {rest : List Oper} {o : Oper} {a : Act} {Q : Exit → Act → World → Prop} {w : World} (hgd : o.guard = none) (s x : Operand)
    (ho : o.op = .call { callee := .builtin .append, args := #[s, x], argTypes := #[138, 138] }) (v : Value) (k : Nat) (l : List Value) (hs : a.eval s = v) (hown : w.ownsRow 0 141 2 v k l)
    (ad : Addr) (m c : Nat) (y : List Value) (hx : a.eval x = .slice (some ad) m c) (hm : 0 < m) (hl : y.length = m * 2) (hb : ∀ j u, y[j]? = some u → w.cell? (ad.add j) = some u) (h1c : ∀ u ∈ y, u.oneCell' = true) (h47 : k + m ≤ 1000000000)
    (h : ∀ g cap w', w'.ownsRow 0 141 2 (.slice (some ⟨g, 0, none⟩) (k + m) cap) (k + m) (l ++ y) → Fr (fun k => v.ownBlock = some k) w w' → (v.ownBlock = some g ∨ w.heap.size ≤ g) → wpList Tryz.prog ops Q rest (a.put o.dst (.slice (some ⟨g, 0, none⟩) (k + m) cap)) w') :
    wpList Tryz.prog ops Q (o :: rest) a w := by
  obtain ⟨i0, hi, hz0, hz1, hz2⟩ := info_parts infoK
  exact wp_own hgd s x 138 ho 141 i0 _ 2 32 Tryz.underlying138 hi hz0 hz1 hz2 rfl (by decide) v k _ hs hown ad m c y hx hm hl hb h1c (by unfold maxLen; omega) (by omega) h
end Go.Proofs.YtflienghgobmoaaGreatDoor

namespace Go.Proofs.YtflienghgobmoaaGreatDoor
open Go.RowKit Go.Maps Rec

/-- the blocks so far -/
structure BlRow (w0 wr : World) (L : List Bk) (k : Nat) (v : Value) : Prop where
  row : wr.ownsRow 0 141 2 v k ((L.take k).flatMap Bk.cells)
  far : ∀ b, v.ownBlock = some b → w0.heap.size ≤ b
  bel : Below w0.heap.size w0 wr
theorem BlRow.next {w0 wr w1 w' : World} {L : List Bk} {k g2 c2 : Nat} {v : Value} {q : Bk} (h : BlRow w0 wr L k v) (hq : L[k]? = some q) (hb : Below wr.heap.size wr w1)
    (h1 : w'.ownsRow 0 141 2 (.slice (some ⟨g2, 0, none⟩) (k + 1) c2) (k + 1) ((L.take k).flatMap Bk.cells ++ q.cells)) (h2 : Fr (fun b => v.ownBlock = some b) w1 w') (h3 : v.ownBlock = some g2 ∨ w1.heap.size ≤ g2) :
    BlRow w0 w' L (k + 1) (.slice (some ⟨g2, 0, none⟩) (k + 1) c2) := by
  have e : (L.take (k + 1)).flatMap Bk.cells = (L.take k).flatMap Bk.cells ++ q.cells := by
    rw [List.take_add_one, hq]
    simp
  have hs := h.bel.size
  have hs1 := hb.size
  refine ⟨by rw [e]; exact h1, fun b hk => ?_, (h.bel.trans (hb.mono hs)).trans (h2.below _ h.far (by omega))⟩
  cases hk
  rcases h3 with e | e
  · exact h.far _ e
  · show w0.heap.size ≤ g2
    omega
set_option maxRecDepth 100000 in
set_option maxHeartbeats 4000000 in
theorem tblocks_any (w : World) (T : Tx) (h : TxAt w T) :
    Calls Tryz.prog 84 #[.pointer (some ⟨T.t, 0, none⟩)] w fun e w' => ∃ va vc, e = .returned (.slice va (lst T.c T.nb).length vc) ∧ (lst T.c T.nb = [] ∨ ∃ g, va = some ⟨g, 0, none⟩ ∧ BlocksAt w' g (lst T.c T.nb)) ∧ Below w.heap.size w w' := by
  obtain ⟨L, hL⟩ : ∃ L, lst T.c T.nb = L := ⟨_, rfl⟩
  obtain ⟨n, hn⟩ : ∃ n, L.length = n := ⟨_, rfl⟩
  have hn96 : n ≤ 96 := by rw [← hn, ← hL]; exact h.cnt
  have HW : Hid (Calls Tryz.prog 38 #[.pointer (some ⟨T.t, 0, none⟩)] w fun e w' => ∃ a c, e = .returned (.slice a n c) ∧ n ≤ c ∧ (n = 0 ∨ ∃ g, a = some ⟨g, 0, none⟩ ∧ g < w'.heap.size ∧ ∀ j q, L[j]? = some q → w'.cell? ⟨g, j, none⟩ = some (.int .i64 q.n)) ∧ Below w.heap.size w w') := by
    refine (written_any w T h).mono ?_
    rintro e w' ⟨v, rfl, hr, _, hb⟩
    rw [hL, hn] at hr
    rcases hr.2 with ⟨rfl, h0⟩ | ⟨g, cap, cur, rfl, h1, hg, h2, h3, h4, h5⟩
    · exact ⟨none, 0, by rw [h0], by omega, .inl h0, hb⟩
    · refine ⟨some ⟨g, 0, none⟩, cap, rfl, h2, .inr ⟨g, rfl, heap_lt hg, fun j q hq => ?_⟩, hb⟩
      have hj : j < n := by rw [← hn]; exact (List.getElem?_eq_some_iff.1 hq).1
      have := hr.cells (g := g) rfl j (.int .i64 q.n) (by simp [hq])
      rw [Addr.add_lit] at this
      simpa using this
  have HM : Hid (∀ wx, Below w.heap.size w wx → ∀ (j : Nat) q, L[j]? = some q → wx.cell? ⟨T.t, 1, none⟩ = some (.map (some T.mb)) ∧ (Instr.lookup 113 (.map (some T.mb)) (.int .i64 q.n) false).run Tryz.prog wx = .ok (.slice (some ⟨q.g, 0, none⟩) 512 q.c) wx ∧ BlkAt wx q.g q.x) := fun wx hb j q hq => by
    have hx := h.on hb
    have hm : q ∈ lst T.c T.nb := by rw [hL]; exact List.mem_of_getElem? hq
    obtain ⟨i, hi, hc⟩ := lst_mem hm
    have hl := hx.map.look1 hx.ok i (by have := h.n16; omega)
    rw [hc] at hl
    rw [h.ok.num i q hc]
    exact ⟨hx.cell 1, hl, hx.blk i q hc⟩
  have HN : Hid (L.length = n) := hn
  rw [hL, hn]
  clear h hL hn
  go_enter Tryz.func84, Tryz.ntmps84
  go_upto_region 3 with (go_at_call 38; refine HW.out.mono ?_; rintro e w1 ⟨a, c, rfl, hnc, hr, hb⟩; have H1 : Hid (n = 0 ∨ ∃ g, a = some ⟨g, 0, none⟩ ∧ g < w1.heap.size ∧ ∀ j q, L[j]? = some q → w1.cell? ⟨g, j, none⟩ = some (.int .i64 q.n)) := hr; have HB1 : Hid (Below w.heap.size w w1) := hb; clear hr hb HW)
  go_loopw [3, 9] (fun s3 s9 wr => ∃ k : Nat, k ≤ n ∧ s9 = .int .i64 k ∧ BlRow w1 wr L k s3) (fun _ s _ => n - (intOf s).toNat)
  case atStart => exact ⟨0, Nat.zero_le _, rfl, ⟨⟨rfl, .inl ⟨rfl, rfl⟩⟩, (fun b hb => by cases hb), by repeat (first | exact Below.refl _ _ | apply Below.drew)⟩⟩
  case round =>
    obtain ⟨k, hk, rfl, hR⟩ := hrel
    have HR : Hid (BlRow w1 wr L k u3) := hR
    clear hR
    by_cases hlt : k < n
    · obtain ⟨q, hq⟩ : ∃ q, L[k]? = some q := ⟨L[k]'(by rw [HN.out]; exact hlt), List.getElem?_eq_getElem _⟩
      obtain ⟨g, rfl, hgl, hgc⟩ := H1.out.resolve_left (by omega)
      have hc : wr.cell? ⟨g, k, none⟩ = some (.int .i64 q.n) := (HR.out.bel.cell hgl).trans (hgc k q hq)
      obtain ⟨hm1, hm2, _⟩ := HM.out wr (HB1.out.trans (HR.out.bel.mono HB1.out.size)) k q hq
      have HQ : Hid (L[k]? = some q) := hq
      clear hgc hq
      obtain ⟨qn, hqn⟩ : ∃ qn, q.n = qn := ⟨_, rfl⟩
      obtain ⟨qg, hqg⟩ : ∃ qg, q.g = qg := ⟨_, rfl⟩
      obtain ⟨qc, hqc⟩ : ∃ qc, q.c = qc := ⟨_, rfl⟩
      rw [hqn] at hc hm2
      rw [hqg, hqc] at hm2
      have HE : Hid (q.cells = [.int .i64 qn, .slice (some ⟨qg, 0, none⟩) 512 qc]) := by simp [Hid, Bk.cells, Bk.v, hqn, hqg, hqc]
      clear hqn hqg hqc
      go_wp2_with (at_builtin; refine wp_kown rfl (.tmp 13) (.tmp 22) rfl u3 k ((L.take k).flatMap Bk.cells) rfl (owns_on HR.out.row ((Below.refl _ _).alloc (Nat.le_refl _) _)) ⟨wr.heap.size, 0, none⟩ 1 1 [.int .i64 qn, .slice (some ⟨qg, 0, none⟩) 512 qc] rfl (by omega) rfl (blkcells wr qn qg qc) (by intro u hu; simp at hu; rcases hu with rfl | rfl <;> rfl) (by omega) ?_; intro g2 c2 w2 ho hf hg; have H2 : Hid (BlRow w1 w2 L (k + 1) (.slice (some ⟨g2, 0, none⟩) (k + 1) c2)) := HR.out.next HQ.out ((Below.refl _ _).alloc (Nat.le_refl _) _) (by rw [HE.out]; exact ho) hf hg; clear ho hf hg)
      exact ⟨⟨k + 1, hlt, rfl, H2.out⟩, by simp [intOf]; omega⟩
    · obtain rfl : k = n := by omega
      obtain ⟨va, vc, hv, hx⟩ : ∃ va vc, u3 = .slice va k vc ∧ (L = [] ∨ ∃ g, va = some ⟨g, 0, none⟩ ∧ BlocksAt wr g L) := by
        rcases HR.out.row.2 with ⟨rfl, h0⟩ | ⟨g, cap, cur, rfl, h1, hg, h2, h3, h4, h5⟩
        · exact ⟨none, 0, by rw [h0], .inl (List.eq_nil_of_length_eq_zero (by rw [HN.out]; exact h0))⟩
        · refine ⟨some ⟨g, 0, none⟩, cap, rfl, .inr ⟨g, rfl, ⟨fun i q hq => ?_⟩⟩⟩
          have hi : i < L.length := (List.getElem?_eq_some_iff.1 hq).1
          have hq' : L[i] = q := (List.getElem?_eq_some_iff.1 hq).2
          have hf : ∀ j, j < 2 → (L.flatMap Bk.cells)[i * 2 + j]? = q.cells[j]? := fun j hj => by
            rw [← hq']
            exact flatK Bk.cells L i hi j hj (fun _ => rfl)
          have hrow := HR.out.row
          rw [List.take_of_length_le (Nat.le_of_eq HN.out)] at hrow
          have h0 := hrow.cells (g := g) rfl (i * 2 + 0) (.int .i64 q.n) (by rw [hf 0 (by omega)]; rfl)
          have h1 := hrow.cells (g := g) rfl (i * 2 + 1) q.v (by rw [hf 1 (by omega)]; rfl)
          rw [Addr.add_lit] at h0 h1
          simp only [Nat.zero_add, Nat.add_zero] at h0 h1
          exact ⟨h0, h1, (HM.out wr (HB1.out.trans (HR.out.bel.mono HB1.out.size)) i q hq).2.2⟩
      subst hv
      have HX : Hid (L = [] ∨ ∃ g, va = some ⟨g, 0, none⟩ ∧ BlocksAt wr g L) := hx
      clear hx
      go_wp2
      go_ret
      exact ⟨va, vc, rfl, HX.out, HB1.out.trans (HR.out.bel.mono HB1.out.size)⟩
end Go.Proofs.YtflienghgobmoaaGreatDoor

namespace Go.Proofs.YtflienghgobmoaaGreatDoor
open Go.RowKit Go.Maps Rec

set_option maxRecDepth 100000 in
theorem abortD (w : World) (t : Nat) (u : FrameMode) (cs : Array Value) (hs : cs.size = 4) (h : w.heap[t]? = some (.cells cs 116 (0, 0))) : CallsD Tryz.prog 42 #[.pointer (some ⟨t, 0, none⟩)] u w fun e u' w' => u' = u ∧ (e = .returned (.tuple #[]) ∧ OverAt w' t ∧ Fr (fun k => k = t) w w') := by
  have hO := over_row w t cs hs h
  have hf : ∀ j, w.frozen? ⟨t, j, none⟩ = false := fun j => frozen_of_row _ _ _ _ _ h
  have hc : ∀ j, w.cell? ⟨t, j, none⟩ = cs[j]? := fun j => cell_of_row _ _ _ _ _ _ h
  refine callsD_of_wp (R := fun e w' => e = .returned (.tuple #[]) ∧ OverAt w' t ∧ Fr (fun k => k = t) w w') Tryz.func42 rfl ?_
  simp only [Tryz.ntmps42, List.size_toArray, List.length_cons, List.length_nil, Nat.reduceAdd, Nat.reduceSub, Array.replicate_succ, Array.replicate_zero, List.push_toArray, List.append_toArray, List.nil_append, List.cons_append]
  go_wp2
  go_end0
  exact ⟨rfl, hO.1, hO.2⟩
set_option maxRecDepth 100000 in
set_option maxHeartbeats 4000000 in
/-- Commit over whatever wal.Commit does -/
theorem tcommit_any (w : World) (T : Tx) (h : TxAt w T) (P : Int → World → Prop) (n : Nat) (hn : (lst T.c T.nb).length = n)
    (hC : ∀ wx va vc, Below w.heap.size w wx → (lst T.c T.nb = [] ∨ ∃ g, va = some ⟨g, 0, none⟩ ∧ BlocksAt wx g (lst T.c T.nb)) →
      Calls Tryz.prog 83 #[.pointer (some ⟨T.d, 0, none⟩), .slice va n vc] wx fun e w' => ∃ r : Int, e = .returned (.int .i64 r) ∧ P r w' ∧ w'.heap[T.t]? = some (.cells T.cells 116 (0, 0))) :
    Calls Tryz.prog 40 #[.pointer (some ⟨T.t, 0, none⟩)] w fun e w' => ∃ (r : Int) (w2 : World), e = .returned (.int .i64 r) ∧ P r w2 ∧ OverAt w' T.t ∧ Fr (fun k => k = T.t) w2 w' := by
  have hc3 : w.cell? ⟨T.t, 3, none⟩ = some (.bool false) := h.cell 3
  have hc0 : w.cell? ⟨T.t, 0, none⟩ = some (.pointer (some ⟨T.d, 0, none⟩)) := h.cell 0
  have HK : Hid (∀ wx, Below w.heap.size w wx → Calls Tryz.prog 84 #[.pointer (some ⟨T.t, 0, none⟩)] wx fun e w' => ∃ va vc, e = .returned (.slice va n vc) ∧ (lst T.c T.nb = [] ∨ ∃ g, va = some ⟨g, 0, none⟩ ∧ BlocksAt w' g (lst T.c T.nb)) ∧ Below w.heap.size w w' ∧ w'.cell? ⟨T.t, 0, none⟩ = some (.pointer (some ⟨T.d, 0, none⟩))) := fun wx hb => by
    refine (tblocks_any wx T (h.on hb)).mono ?_
    rintro e w' ⟨va, vc, rfl, h1, h2⟩
    have h3 := hb.trans (h2.mono hb.size)
    exact ⟨va, vc, by rw [hn], h1, h3, (h.on h3).cell 0⟩
  have HC : Hid (∀ wx va vc, Below w.heap.size w wx → (lst T.c T.nb = [] ∨ ∃ g, va = some ⟨g, 0, none⟩ ∧ BlocksAt wx g (lst T.c T.nb)) →
      Calls Tryz.prog 83 #[.pointer (some ⟨T.d, 0, none⟩), .slice va n vc] wx fun e w' => ∃ r : Int, e = .returned (.int .i64 r) ∧ P r w' ∧ w'.heap[T.t]? = some (.cells T.cells 116 (0, 0))) := hC
  clear h hC hn
  go_enter_defers Tryz.func40, Tryz.ntmps40
  go_upto_region 4 with (fail)
  rename_i Q' K hK
  refine Code.wp_mono (Q := Exit.then K (fun _ _ _ => False)) (fun e a w => ?_) ?_
  · cases e <;> simp [Exit.then]
  go_region_law (go_simp; first
    | (go_at_call 84; refine (HK.out _ (by repeat (first | exact Below.refl _ _ | apply Below.drew))).mono ?_; rintro e w3 ⟨va, vc, rfl, hx, hb, hd3⟩; have H3 : Hid ((lst T.c T.nb = [] ∨ ∃ g, va = some ⟨g, 0, none⟩ ∧ BlocksAt w3 g (lst T.c T.nb)) ∧ Below w.heap.size w w3) := ⟨hx, hb⟩; clear hx hb)
    | (go_at_call 83; refine (HC.out _ _ _ H3.out.2 H3.out.1).mono ?_; rintro e w4 ⟨r, rfl, hp, hrow⟩; have H4 : Hid (P r w4 ∧ w4.heap[T.t]? = some (.cells T.cells 116 (0, 0))) := ⟨hp, hrow⟩; clear hp hrow))
  all_goals
    refine hK _ _ ?_
    go_wp2
    refine leaves_cons (f := 42) (args := #[.pointer (some ⟨T.t, 0, none⟩)]) (by simp) (by simp [go_sem]) ?_
    refine (abortD _ T.t _ T.cells rfl H4.out.2).mono ?_
    rintro e u' w5 ⟨rfl, rfl, h5, h6⟩
    simp [Leaves, settle, results, Tryz.results40, go_sem]
    exact ⟨w4, H4.out.1, h5, h6⟩
end Go.Proofs.YtflienghgobmoaaGreatDoor

namespace Go.Proofs.YtflienghgobmoaaGreatDoor
open Go.RowKit Go.Maps Rec

theorem infoF0 : (Tryz.prog.info? 1).map (fun i => (i.zero, i.size, i.bytes)) = some (some .nilFunc, 1, 8) := by kernel_rfl
end Go.Proofs.YtflienghgobmoaaGreatDoor
