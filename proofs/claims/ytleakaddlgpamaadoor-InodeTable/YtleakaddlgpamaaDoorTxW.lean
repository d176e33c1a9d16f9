import Derived.Test.YtleakaddlgpamaaDoorTxR
import Derived.Test.YtleakaddlgpamaaDoorTxL
import Derived.Test.YtleakaddlgpamaaDoorKWLa
namespace Go.Proofs.YtleakaddlgpamaaDoor
open Go.RowKit Go.Maps Go.Sort Go.Shelf Rec

theorem sortsA (m : Nat) : AnyZI.SortsIn Tryd.prog sortedA_ren Fence.wide m :=
  ⟨fun blk off cap ss W hH hblk hsz => callsIn_wide.2 (AnyM.slices_Sort_int sortA blk off cap ss W hH hblk hsz),
   fun p cap W => callsIn_wide.2 (AnyM.slices_Sort_int_none sortA p cap W)⟩
theorem written_any (w : World) (T : Tx) (h : TxAt w T) :
    Calls Tryd.prog 41 #[.pointer (some ⟨T.t, 0, none⟩)] w fun e w' => ∃ v : Value, e = .returned v ∧ w'.ownsRow w.heap.size 3 1 v (lst T.c T.nb).length (((lst T.c T.nb).map Bk.n).map (Value.int .i64)) ∧ (v = .slice none 0 0 ↔ lst T.c T.nb = []) ∧ Below w.heap.size w w' := by
  refine (callsIn_wide (n := 6)).1 ?_
  have hbl := h.map.lt
  have hcnt := h.cnt
  have hc1 : w.cell? ⟨T.t, 1, none⟩ = some (.map (some T.mb)) := h.cell 1
  have HT : Hid (TxAt w T) := h
  have hsz : Maps.size (dat T.c T.nb) = (lst T.c T.nb).length := dat_size _ _
  have hseq : SeqGives Fence.wide 2 Tryd.prog 70 #[.pointer (some ⟨w.heap.size, 0, none⟩)] encZ (fun ss => ss.Perm (intKeys (dat T.c T.nb))) (Maps.size (dat T.c T.nb)) (w.alloc (.cells #[.map (some T.mb)] 85)) :=
    AnyZI.keys_gives (ρ := keysA_ren) { keysA with } Fence.wide _ trivial rfl (by omega) w.heap.size T.mb 1000 (dat T.c T.nb) _ (by simp) (by simp) (by
      obtain ⟨es, clock, hb, Ft, hs, hD⟩ := h.map
      exact ⟨es, clock, (Below.heap_alloc _ _ T.mb hbl).trans hb, Ft, hs, hD⟩)
  have cK : ∀ mb W, CallsIn Fence.wide 5 Tryd.prog 61 #[.map mb] W fun e w' => e = .returned (.func (.func 70) #[] #[.pointer (some ⟨W.heap.size, 0, none⟩)]) ∧ w' = W.alloc (.cells #[.map mb] 85) := fun mb W => AnyZI.keys_in keysA Fence.wide 5 trivial rfl mb W
  have cS := AnyZI.sorted_in sortedA Fence.wide 5 trivial trivial trivial trivial rfl (by omega) (sortsA _) (enters_of Tryd.func69 (by kernel_rfl) rfl) 70 #[.pointer (some ⟨w.heap.size, 0, none⟩)] trivial (enters_of Tryd.func70 (by kernel_rfl) rfl) _ _ (by rw [hsz]; unfold maxLen; omega) (by rw [hsz]; omega) _ hseq
  change CallsIn _ _ Tryd.prog 60 _ _ _ at cS
  have hfK : Fence.wide.fn 61 := trivial
  have hfS : Fence.wide.fn 60 := trivial
  clear hsz hcnt hbl h hseq
  refine callsIn_of_wp Tryd.func41 rfl trivial ?_ rfl
  simp only [Tryd.ntmps41, List.size_toArray, List.length_cons, List.length_nil, Nat.reduceAdd, Nat.reduceSub, Array.replicate_succ, Array.replicate_zero, List.push_toArray, List.append_toArray, List.nil_append, List.cons_append]
  gi_wp2_with (first
    | (gi_at_call 61; refine (cK _ _).mono ?_; rintro e w' ⟨rfl, rfl⟩)
    | (gi_at_call 60; refine cS.mono ?_; rintro e w' ⟨v, ss, rfl, hS, hrow, hnil, hb⟩))
  go_ret
  have e1 := sorted_keys HT.out.ok hS
  have e2 : ss.length = (lst T.c T.nb).length := by
    have := hS.length_eq
    rw [keys_dat] at this
    simpa using this
  rw [e1, e2] at hrow
  refine ⟨v, rfl, ownsRow_base_a hrow (by simp), hnil.trans ⟨fun e => ?_, fun e => ?_⟩, ((Below.refl _ w).alloc (Nat.le_refl _) _).trans (hb.mono (by simp))⟩
  · rw [e] at e2; exact List.eq_nil_of_length_eq_zero e2.symm
  · rw [e] at e2; exact List.eq_nil_of_length_eq_zero e2
end Go.Proofs.YtleakaddlgpamaaDoor
