import Derived.Test.YtleakaddlgpamaaDoorTxJ
namespace Go.Proofs.YtleakaddlgpamaaDoor
open Go.RowKit Go.Maps Go.Sort Go.Shelf Rec

theorem written_over (w : World) (t : Nat) (h : OverAt w t) :
    Calls Tryd.prog 41 #[.pointer (some ⟨t, 0, none⟩)] w fun e w' => e = .returned (.slice none 0 0) ∧ Below w.heap.size w w' := by
  refine (callsIn_wide (n := 6)).1 ?_
  have hc1 : w.cell? ⟨t, 1, none⟩ = some (.map none) := cell_of_row _ _ _ _ _ _ h
  have hseq : SeqGives Fence.wide 2 Tryd.prog 70 #[.pointer (some ⟨w.heap.size, 0, none⟩)] encZ (fun ss : List Int => ss = []) 0 (w.alloc (.cells #[.map none] 85)) :=
    AnyZI.keys_gives_nil (ρ := keysA_ren) { keysA with } Fence.wide _ trivial rfl w.heap.size _ (by simp) (by simp)
  have cK : ∀ mb W, CallsIn Fence.wide 5 Tryd.prog 61 #[.map mb] W fun e w' => e = .returned (.func (.func 70) #[] #[.pointer (some ⟨W.heap.size, 0, none⟩)]) ∧ w' = W.alloc (.cells #[.map mb] 85) := fun mb W => AnyZI.keys_in keysA Fence.wide 5 trivial rfl mb W
  have cS := AnyZI.sorted_in sortedA Fence.wide 5 trivial trivial trivial trivial rfl (by omega) (sortsA _) (enters_of Tryd.func69 (by kernel_rfl) rfl) 70 #[.pointer (some ⟨w.heap.size, 0, none⟩)] trivial (enters_of Tryd.func70 (by kernel_rfl) rfl) _ 0 (Nat.zero_le _) (by omega) _ hseq
  change CallsIn _ _ Tryd.prog 60 _ _ _ at cS
  have hfK : Fence.wide.fn 61 := trivial
  have hfS : Fence.wide.fn 60 := trivial
  clear hseq h
  refine callsIn_of_wp Tryd.func41 rfl trivial ?_ rfl
  simp only [Tryd.ntmps41, List.size_toArray, List.length_cons, List.length_nil, Nat.reduceAdd, Nat.reduceSub, Array.replicate_succ, Array.replicate_zero, List.push_toArray, List.append_toArray, List.nil_append, List.cons_append]
  gi_wp2_with (first
    | (gi_at_call 61; refine (cK _ _).mono ?_; rintro e w' ⟨rfl, rfl⟩)
    | (gi_at_call 60; refine cS.mono ?_; rintro e w' ⟨v, ss, rfl, rfl, hrow, hnil, hb⟩; obtain rfl : v = .slice none 0 0 := hnil.2 rfl))
  go_ret
  exact ⟨rfl, ((Below.refl _ w).alloc (Nat.le_refl _) _).trans (hb.mono (by simp))⟩
/-- numbers in memory -/
def IntsAt (w : World) (v : Value) (l : List Int) : Prop := ∃ a c, v = .slice a l.length c ∧ (l = [] ∨ ∃ g, a = some ⟨g, 0, none⟩ ∧ ∀ j x, l[j]? = some x → w.cell? ⟨g, j, none⟩ = some (.int .i64 x))
theorem IntsAt.on {w w' : World} {v : Value} {l : List Int} (h : IntsAt w v l) (hb : Below w.heap.size w w') : IntsAt w' v l := by
  obtain ⟨a, c, rfl, hl⟩ := h
  refine ⟨a, c, rfl, hl.imp id ?_⟩
  rintro ⟨g, rfl, hc⟩
  exact ⟨g, rfl, fun j x hx => (hb.cell (block_lt_of_cell (hc j x hx))).trans (hc j x hx)⟩
theorem ints_of {B : Nat} {w : World} {v : Value} {l : List Int} {n : Nat} (h : w.ownsRow B 3 1 v n (l.map (Value.int .i64))) (hn : l.length = n) : IntsAt w v l := by
  subst hn
  rcases h.2 with ⟨rfl, h0⟩ | ⟨g, cap, cur, rfl, h1, hg, h2, h3, h4, h5⟩
  · exact ⟨none, 0, by rw [h0], .inl (List.eq_nil_of_length_eq_zero h0)⟩
  · refine ⟨some ⟨g, 0, none⟩, cap, rfl, .inr ⟨g, rfl, fun j x hx => ?_⟩⟩
    have := h.cells (g := g) rfl j (.int .i64 x) (by simp [hx])
    rw [Addr.add_lit] at this
    simpa using this
theorem lst_next (c : Cm) (k : Nat) : lst c (k + 1) = lst c k ++ (c k).toList := by
  unfold lst
  rw [List.range_succ, List.filterMap_append]
  cases h : c k <;> simp [h]
theorem lst_low {c : Cm} {n : Nat} (h : COk c n) (k : Nat) (hk : k ≤ 98) : lst c k = [] := by
  unfold lst
  refine List.filterMap_eq_nil_iff.2 (fun i hi => ?_)
  cases hc : c i with
  | none => rfl
  | some q => have := h.lo i q hc; have := List.mem_range.1 hi; omega
theorem Cnt.val {c : Cm} {now : Nat → Int} {is : Nat → Bool} (h : Cnt (fun _ => none) c now is) (i : Nat) (h0 : 98 ≤ i) (h1 : i < 118) : valC c (fr6 118) i = one (now i) := by
  obtain ⟨_, a, b⟩ := h i h0 h1
  cases e : is i with
  | true =>
    obtain ⟨q, hq, hx⟩ := a e
    rw [valC_some hq, hx]
  | false =>
    obtain ⟨hq, hx⟩ := b e
    rw [valC_none hq, bck_fr6 _ _ h1, hx, v6, if_neg (by omega)]
theorem Cnt.is {c : Cm} {now : Nat → Int} {is : Nat → Bool} (h : Cnt (fun _ => none) c now is) (i : Nat) (h0 : 98 ≤ i) (h1 : i < 118) : is i = (c i).isSome := by
  obtain ⟨_, a, b⟩ := h i h0 h1
  cases e : is i with
  | true => obtain ⟨q, hq, hx⟩ := a e; rw [hq]; rfl
  | false => rw [(b e).1]; rfl
theorem bck_98 (i : Nat) (h0 : 98 ≤ i) (h1 : i < 118) : bck (fr6 118) i = one (i : Int) := by rw [bck_fr6 _ _ h1, v6, if_neg (by omega)]
end Go.Proofs.YtleakaddlgpamaaDoor
