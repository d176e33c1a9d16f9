import Derived.Shelf.SlIterI.Nil
import Derived.Shelf.SortM.Plain
import Derived.Shelf.SortM.SortNone
import Derived.Ground.GgzProg
import Derived.Ground.SlgmProg
import Derived.Test.YtckldbhaaagncaaGreatDoorProg
import Derived.Test.YtckldbhaaagncaaGreatDoorTxR
import Derived.Test.YtckldbhaaagncaaGreatDoorKWLa
import Derived.Test.YtckldbhaaagncaaGreatDoorKAMath
namespace Go.Proofs.YtckldbhaaagncaaGreatDoor
open Go.Shelf
def keysA_ren : Go.Shelf.Ren := ⟨fun | 7 => 53 | 10 => 73 | n => n, fun | 23 => 58 | 26 => 3 | 3 => 42 | 28 => 99 | 0 => 0 | 27 => 98 | 33 => 56 | 4 => 4 | n => n, fun | n => n⟩
theorem keysA : Go.Proofs.SlLaysZI.n7 Tryz.prog keysA_ren := {
  mixed := by kernel_rfl
  f7 := ⟨Tryz.f53.name, by decide, Tryz.func53.trans (congrArg some (by kernel_rfl))⟩
  f10 := ⟨Tryz.f73.name, by decide, Tryz.func73.trans (congrArg some (by kernel_rfl))⟩
  t0 := Tryz.underlying0
  a0 := Tryz.isAgg0
  z0 := Tryz.sizeOf0
  v0 := Tryz.zeroValue0
  t4 := Tryz.underlying4
  a4 := Tryz.isAgg4
  z4 := Tryz.sizeOf4
  v4 := Tryz.zeroValue4
  t23 := Tryz.underlying58
  a23 := Tryz.isAgg58
  z23 := Tryz.sizeOf58
  v23 := Tryz.zeroValue58
  t26 := Tryz.underlying3
  a26 := Tryz.isAgg3
  z26 := Tryz.sizeOf3
  v26 := Tryz.zeroValue3
  t27 := Tryz.underlying98
  a27 := Tryz.isAgg98
  z27 := Tryz.sizeOf98
  v27 := Tryz.zeroValue98
  t28 := Tryz.underlying99
  a28 := Tryz.isAgg99
  z28 := Tryz.sizeOf99
  v28 := Tryz.zeroValue99
  t33 := Tryz.underlying56
  a33 := Tryz.isAgg56
  z33 := Tryz.sizeOf56
  v33 := Tryz.zeroValue56 }
def sortedA_ren : Go.Shelf.Ren := ⟨fun | 6 => 52 | 8 => 71 | 9 => 72 | 11 => 89 | 13 => 91 | 12 => 90 | 23 => 109 | 24 => 110 | 14 => 100 | 15 => 101 | 16 => 102 | 17 => 103 | 18 => 104 | 19 => 105 | 20 => 106 | 21 => 107 | 22 => 108 | 25 => 114 | 26 => 115 | 27 => 116 | 28 => 117 | 29 => 118 | 30 => 119 | 31 => 121 | n => n, fun | 26 => 3 | 28 => 99 | 24 => 28 | 0 => 0 | 3 => 3 | 37 => 137 | 48 => 113 | 50 => 111 | 4 => 4 | 40 => 148 | 39 => 147 | 45 => 121 | 5 => 5 | 9 => 9 | 51 => 158 | 55 => 162 | 57 => 164 | 58 => 165 | 33 => 56 | n => n, fun | n => n⟩
theorem sortedA : Go.Proofs.SlLaysZI.n6 Tryz.prog sortedA_ren := {
  mixed := by kernel_rfl
  f6 := ⟨Tryz.f52.name, by decide, Tryz.func52.trans (congrArg some (by kernel_rfl))⟩
  f8 := ⟨Tryz.f71.name, by decide, Tryz.func71.trans (congrArg some (by kernel_rfl))⟩
  f11 := ⟨Tryz.f89.name, by decide, Tryz.func89.trans (congrArg some (by kernel_rfl))⟩
  t0 := Tryz.underlying0
  a0 := Tryz.isAgg0
  z0 := Tryz.sizeOf0
  v0 := Tryz.zeroValue0
  t24 := Tryz.underlying28
  a24 := Tryz.isAgg28
  z24 := Tryz.sizeOf28
  v24 := Tryz.zeroValue28
  t26 := Tryz.underlying3
  a26 := Tryz.isAgg3
  z26 := Tryz.sizeOf3
  v26 := Tryz.zeroValue3
  t28 := Tryz.underlying99
  a28 := Tryz.isAgg99
  z28 := Tryz.sizeOf99
  v28 := Tryz.zeroValue99
  i26 := by kernel_rfl }
def sortA_ren : Go.Shelf.Ren := ⟨fun | 5 => 72 | 8 => 91 | 7 => 90 | 19 => 109 | 20 => 110 | 10 => 100 | 11 => 101 | 12 => 102 | 13 => 103 | 14 => 104 | 15 => 105 | 16 => 106 | 17 => 107 | 18 => 108 | 30 => 114 | 31 => 115 | 32 => 116 | 33 => 117 | 34 => 118 | 35 => 119 | 40 => 121 | n => n, fun | 23 => 28 | 25 => 3 | 3 => 3 | 32 => 137 | 22 => 28 | 0 => 0 | 44 => 113 | 46 => 111 | 4 => 4 | 36 => 148 | 35 => 147 | 41 => 121 | 5 => 5 | 9 => 9 | 53 => 158 | 57 => 162 | 63 => 164 | 64 => 165 | n => n, fun | n => n⟩
theorem sortA : Go.Proofs.SlLaysM.n5 Tryz.prog sortA_ren := {
  mixed := by kernel_rfl
  f5 := ⟨Tryz.f72.name, by decide, Tryz.func72.trans (congrArg some (by kernel_rfl))⟩
  f7 := ⟨Tryz.f90.name, by decide, Tryz.func90.trans (congrArg some (by kernel_rfl))⟩
  f8 := Tryz.func91.trans (congrArg some (by kernel_rfl))
  f10 := ⟨Tryz.f100.name, by decide, Tryz.func100.trans (congrArg some (by kernel_rfl))⟩
  f11 := ⟨Tryz.f101.name, by decide, Tryz.func101.trans (congrArg some (by kernel_rfl))⟩
  f12 := ⟨Tryz.f102.name, by decide, Tryz.func102.trans (congrArg some (by kernel_rfl))⟩
  f13 := ⟨Tryz.f103.name, by decide, Tryz.func103.trans (congrArg some (by kernel_rfl))⟩
  f14 := ⟨Tryz.f104.name, by decide, Tryz.func104.trans (congrArg some (by kernel_rfl))⟩
  f15 := ⟨Tryz.f105.name, by decide, Tryz.func105.trans (congrArg some (by kernel_rfl))⟩
  f16 := ⟨Tryz.f106.name, by decide, Tryz.func106.trans (congrArg some (by kernel_rfl))⟩
  f17 := ⟨Tryz.f107.name, by decide, Tryz.func107.trans (congrArg some (by kernel_rfl))⟩
  f18 := ⟨Tryz.f108.name, by decide, Tryz.func108.trans (congrArg some (by kernel_rfl))⟩
  f19 := Tryz.func109.trans (congrArg some (by kernel_rfl))
  f20 := Tryz.func110.trans (congrArg some (by kernel_rfl))
  f30 := ⟨Tryz.f114.name, by decide, Tryz.func114.trans (congrArg some (by kernel_rfl))⟩
  f31 := Tryz.func115.trans (congrArg some (by kernel_rfl))
  f32 := Tryz.func116.trans (congrArg some (by kernel_rfl))
  f33 := ⟨Tryz.f117.name, by decide, Tryz.func117.trans (congrArg some (by kernel_rfl))⟩
  f34 := ⟨Tryz.f118.name, by decide, Tryz.func118.trans (congrArg some (by kernel_rfl))⟩
  f35 := ⟨Tryz.f119.name, by decide, Tryz.func119.trans (congrArg some (by kernel_rfl))⟩
  f40 := ⟨Tryz.f121.name, by decide, Tryz.func121.trans (congrArg some (by kernel_rfl))⟩
  t0 := Tryz.underlying0
  a0 := Tryz.isAgg0
  z0 := Tryz.sizeOf0
  v0 := Tryz.zeroValue0
  t3 := Tryz.underlying3
  a3 := Tryz.isAgg3
  z3 := Tryz.sizeOf3
  v3 := Tryz.zeroValue3
  t4 := Tryz.underlying4
  a4 := Tryz.isAgg4
  z4 := Tryz.sizeOf4
  v4 := Tryz.zeroValue4
  t5 := Tryz.underlying5
  a5 := Tryz.isAgg5
  z5 := Tryz.sizeOf5
  v5 := Tryz.zeroValue5
  t9 := Tryz.underlying9
  a9 := Tryz.isAgg9
  z9 := Tryz.sizeOf9
  v9 := Tryz.zeroValue9
  t22 := Tryz.underlying28
  a22 := Tryz.isAgg28
  z22 := Tryz.sizeOf28
  v22 := Tryz.zeroValue28
  t23 := Tryz.underlying28
  a23 := Tryz.isAgg28
  z23 := Tryz.sizeOf28
  v23 := Tryz.zeroValue28
  t25 := Tryz.underlying3
  a25 := Tryz.isAgg3
  z25 := Tryz.sizeOf3
  v25 := Tryz.zeroValue3
  t32 := Tryz.underlying137
  a32 := Tryz.isAgg137
  z32 := Tryz.sizeOf137
  v32 := Tryz.zeroValue137
  t35 := Tryz.underlying147
  a35 := Tryz.isAgg147
  z35 := Tryz.sizeOf147
  v35 := Tryz.zeroValue147
  t36 := Tryz.underlying148
  a36 := Tryz.isAgg148
  z36 := Tryz.sizeOf148
  v36 := Tryz.zeroValue148
  t41 := Tryz.underlying121
  a41 := Tryz.isAgg121
  z41 := Tryz.sizeOf121
  v41 := Tryz.zeroValue121
  t44 := Tryz.underlying113
  a44 := Tryz.isAgg113
  z44 := Tryz.sizeOf113
  v44 := Tryz.zeroValue113
  t46 := Tryz.underlying111
  a46 := Tryz.isAgg111
  z46 := Tryz.sizeOf111
  v46 := Tryz.zeroValue111
  t53 := Tryz.underlying158
  a53 := Tryz.isAgg158
  z53 := Tryz.sizeOf158
  v53 := Tryz.zeroValue158
  t57 := Tryz.underlying162
  a57 := Tryz.isAgg162
  z57 := Tryz.sizeOf162
  v57 := Tryz.zeroValue162
  t63 := Tryz.underlying164
  a63 := Tryz.isAgg164
  z63 := Tryz.sizeOf164
  v63 := Tryz.zeroValue164
  t64 := Tryz.underlying165
  a64 := Tryz.isAgg165
  z64 := Tryz.sizeOf165
  v64 := Tryz.zeroValue165 }
end Go.Proofs.YtckldbhaaagncaaGreatDoor


namespace Go.Proofs.YtckldbhaaagncaaGreatDoor
open Go.RowKit Go.Maps Go.Sort Go.Shelf Rec

theorem sortsA (m : Nat) : AnyZI.SortsIn Tryz.prog sortedA_ren Fence.wide m :=
  ⟨fun blk off cap ss W hH hblk hsz => callsIn_wide.2 (AnyM.slices_Sort_int sortA blk off cap ss W hH hblk hsz),
   fun p cap W => callsIn_wide.2 (AnyM.slices_Sort_int_none sortA p cap W)⟩
theorem written_any (w : World) (T : Tx) (h : TxAt w T) :
    Calls Tryz.prog 42 #[.pointer (some ⟨T.t, 0, none⟩)] w fun e w' => ∃ v : Value, e = .returned v ∧ w'.ownsRow w.heap.size 3 1 v (lst T.c T.nb).length (((lst T.c T.nb).map Bk.n).map (Value.int .i64)) ∧ (v = .slice none 0 0 ↔ lst T.c T.nb = []) ∧ Below w.heap.size w w' := by
  refine (callsIn_wide (n := 6)).1 ?_
  have hbl := h.map.lt
  have hcnt := h.cnt
  have hc1 : w.cell? ⟨T.t, 1, none⟩ = some (.map (some T.mb)) := h.cell 1
  have HT : Hid (TxAt w T) := h
  have hsz : Maps.size (dat T.c T.nb) = (lst T.c T.nb).length := dat_size _ _
  have hseq : SeqGives Fence.wide 2 Tryz.prog 73 #[.pointer (some ⟨w.heap.size, 0, none⟩)] encZ (fun ss => ss.Perm (intKeys (dat T.c T.nb))) (Maps.size (dat T.c T.nb)) (w.alloc (.cells #[.map (some T.mb)] 58)) :=
    AnyZI.keys_gives (ρ := keysA_ren) { keysA with } Fence.wide _ trivial rfl (by omega) w.heap.size T.mb 1000 (dat T.c T.nb) _ (by simp) (by simp) (by
      obtain ⟨es, clock, hb, Ft, hs, hD⟩ := h.map
      exact ⟨es, clock, (Below.heap_alloc _ _ T.mb hbl).trans hb, Ft, hs, hD⟩)
  have cK : ∀ mb W, CallsIn Fence.wide 5 Tryz.prog 53 #[.map mb] W fun e w' => e = .returned (.func (.func 73) #[] #[.pointer (some ⟨W.heap.size, 0, none⟩)]) ∧ w' = W.alloc (.cells #[.map mb] 58) := fun mb W => AnyZI.keys_in keysA Fence.wide 5 trivial rfl mb W
  have cS := AnyZI.sorted_in sortedA Fence.wide 5 trivial trivial trivial trivial rfl (by omega) (sortsA _) (enters_of Tryz.func72 (by kernel_rfl) rfl) 73 #[.pointer (some ⟨w.heap.size, 0, none⟩)] trivial (enters_of Tryz.func73 (by kernel_rfl) rfl) _ _ (by rw [hsz]; unfold maxLen; omega) (by rw [hsz]; omega) _ hseq
  change CallsIn _ _ Tryz.prog 52 _ _ _ at cS
  have hfK : Fence.wide.fn 53 := trivial
  have hfS : Fence.wide.fn 52 := trivial
  clear hsz hcnt hbl h hseq
  refine callsIn_of_wp Tryz.func42 rfl trivial ?_ rfl
  simp only [Tryz.ntmps42, List.size_toArray, List.length_cons, List.length_nil, Nat.reduceAdd, Nat.reduceSub, Array.replicate_succ, Array.replicate_zero, List.push_toArray, List.append_toArray, List.nil_append, List.cons_append]
  gi_wp2_with (first
    | (gi_at_call 53; refine (cK _ _).mono ?_; rintro e w' ⟨rfl, rfl⟩)
    | (gi_at_call 52; refine cS.mono ?_; rintro e w' ⟨v, ss, rfl, hS, hrow, hnil, hb⟩))
  go_ret
  have e1 := sorted_keys HT.out.ok hS
  have e2 : ss.length = (lst T.c T.nb).length := by
    have := hS.length_eq
    rw [keys_dat] at this
    simpa using this
  rw [e1, e2] at hrow
  refine ⟨v, rfl, ownsRow_base_a hrow (by simp), hnil.trans ⟨fun e => ?_, fun e => ?_⟩, ((Below.refl _ w).alloc (Nat.le_refl _) _).trans (hb.mono (by simp))⟩
  · rw [e] at e2; exact List.eq_nil_of_length_eq_zero e2.symm
  · rw [e] at e2; exact List.eq_nil_of_length_eq_zero e2
end Go.Proofs.YtckldbhaaagncaaGreatDoor

namespace Go.Proofs.YtckldbhaaagncaaGreatDoor
open Go.RowKit Go.Maps Rec

def touchT (nb : Nat) (i first : Int) : Int := if i < first ∨ (nb : Int) ≤ i then 31 else 0
theorem touchT_ok {nb i first : Nat} (h0 : first ≤ i) (h1 : i < nb) : touchT nb (i : Int) (first : Int) = 0 := by
  unfold touchT
  rw [if_neg (by omega)]
set_option maxRecDepth 100000 in
set_option maxHeartbeats 4000000 in
theorem mayTouch_any (w : World) (T : Tx) (D : Dk) (h : TxAt w T) (hD : Disk w D) (hd : D.d = T.d) (hn : D.nb = T.nb) (i first : Int) :
    Calls Tryz.prog 22 #[.pointer (some ⟨T.t, 0, none⟩), .int .i64 i, .int .i64 first] w fun e w' => e = .returned (.int .i64 (touchT T.nb i first)) ∧ w = w' := by
  have hc3 : w.cell? ⟨T.t, 3, none⟩ = some (.bool false) := h.cell 3
  have hc0 : w.cell? ⟨T.t, 0, none⟩ = some (.pointer (some ⟨D.d, 0, none⟩)) := by rw [hd]; exact h.cell 0
  have HB : Hid (Calls Tryz.prog 32 #[.pointer (some ⟨D.d, 0, none⟩)] w fun e w' => e = .returned (.int .i64 T.nb) ∧ w = w') := by
    have := blocks_any w D hD
    rw [hn] at this
    exact this
  clear h hD hd hn
  go_enter Tryz.func22, Tryz.ntmps22
  by_cases h1 : i < first
  · go_wp2
    go_ret
    exact ⟨by unfold touchT; rw [if_pos (.inl h1)]; rfl, rfl⟩
  · have h1' : first ≤ i := by omega
    by_cases h2 : (T.nb : Int) ≤ i
    · go_wp2_with (go_at_call 32; refine HB.out.mono ?_; rintro e w' ⟨rfl, rfl⟩)
      go_ret
      exact ⟨by unfold touchT; rw [if_pos (.inr h2)]; rfl, rfl⟩
    · have h2' : i < (T.nb : Int) := by omega
      go_wp2_with (go_at_call 32; refine HB.out.mono ?_; rintro e w' ⟨rfl, rfl⟩)
      go_ret
      exact ⟨by unfold touchT; rw [if_neg (by omega)]; rfl, rfl⟩
theorem touch_over (w : World) (t : Nat) (h : OverAt w t) (i first : Int) :
    Calls Tryz.prog 22 #[.pointer (some ⟨t, 0, none⟩), .int .i64 i, .int .i64 first] w fun e w' => e = .returned (.int .i64 61) ∧ w = w' := by
  have hc3 : w.cell? ⟨t, 3, none⟩ = some (.bool true) := cell_of_row _ _ _ _ _ _ h
  go_enter Tryz.func22, Tryz.ntmps22
  go_wp2
  go_ret
  exact ⟨rfl, rfl⟩
set_option maxRecDepth 100000 in
theorem over_no (w : World) (T : Tx) (h : TxAt w T) : Calls Tryz.prog 13 #[.pointer (some ⟨T.t, 0, none⟩)] w fun e w' => e = .returned (.bool false) ∧ w = w' := by
  have hc3 : w.cell? ⟨T.t, 3, none⟩ = some (.bool false) := h.cell 3
  clear h
  go_enter Tryz.func13, Tryz.ntmps13
  go_wp2
  go_ret
  exact ⟨rfl, rfl⟩
theorem over_yes (w : World) (t : Nat) (h : OverAt w t) : Calls Tryz.prog 13 #[.pointer (some ⟨t, 0, none⟩)] w fun e w' => e = .returned (.bool true) ∧ w = w' := by
  have hc3 : w.cell? ⟨t, 3, none⟩ = some (.bool true) := cell_of_row _ _ _ _ _ _ h
  clear h
  go_enter Tryz.func13, Tryz.ntmps13
  go_wp2
  go_ret
  exact ⟨rfl, rfl⟩
set_option maxRecDepth 100000 in
theorem read_over (w : World) (t : Nat) (h : OverAt w t) (i : Int) : Calls Tryz.prog 10 #[.pointer (some ⟨t, 0, none⟩), .int .i64 i] w fun e w' => e = .returned (.tuple #[.slice none 0 0, .int .i64 61]) ∧ w = w' := by
  have HT : Hid (Calls Tryz.prog 22 #[.pointer (some ⟨t, 0, none⟩), .int .i64 i, .int .i64 0] w fun e w' => e = .returned (.int .i64 61) ∧ w = w') := touch_over w t h i 0
  clear h
  go_enter Tryz.func10, Tryz.ntmps10
  go_wp2_with (go_at_call 22; refine HT.out.mono ?_; rintro e w' ⟨rfl, rfl⟩)
  go_ret2
  exact ⟨rfl, rfl⟩
set_option maxRecDepth 100000 in
set_option maxHeartbeats 4000000 in
theorem tread_any (w : World) (T : Tx) (D : Dk) (h : TxAt w T) (hD : Disk w D) (hd : D.d = T.d) (hn : D.nb = T.nb) (hdn : D.down = false) (i : Nat) (hi : i < T.nb) :
    Calls Tryz.prog 10 #[.pointer (some ⟨T.t, 0, none⟩), .int .i64 (i : Int)] w fun e w' => ∃ g cap, e = .returned (.tuple #[.slice (some ⟨g, 0, none⟩) 512 cap, .int .i64 0]) ∧ w.heap.size ≤ g ∧ OwnB w' g cap (match T.c i with | some q => q.x | none => bck D.full i) ∧ Below w.heap.size w w' := by
  have HT : Hid (Calls Tryz.prog 22 #[.pointer (some ⟨T.t, 0, none⟩), .int .i64 (i : Int), .int .i64 0] w fun e w' => e = .returned (.int .i64 0) ∧ w = w') := by
    have := mayTouch_any w T D h hD hd hn (i : Int) 0
    rw [show touchT T.nb (i : Int) 0 = 0 from touchT_ok (first := 0) (Nat.zero_le _) hi] at this
    exact this
  have hc1 : w.cell? ⟨T.t, 1, none⟩ = some (.map (some T.mb)) := h.cell 1
  have hc0 : w.cell? ⟨T.t, 0, none⟩ = some (.pointer (some ⟨D.d, 0, none⟩)) := by rw [hd]; exact h.cell 0
  have hlk := h.map.look h.ok i (by have := h.n16; omega)
  have HR : Hid (Calls Tryz.prog 25 #[.pointer (some ⟨D.d, 0, none⟩), .int .i64 i] w fun e w' => ∃ g cap, e = .returned (.tuple #[.slice (some ⟨g, 0, none⟩) 512 cap, .int .i64 0]) ∧ w.heap.size ≤ g ∧ OwnB w' g cap (bck D.full i) ∧ Below w.heap.size w w') := read_yes w D hD i (by omega) hdn
  clear hdn hd hn hi
  cases hci : T.c i with
  | none =>
    rw [hci] at hlk
    have hlk' : (Instr.lookup 58 (.map (some T.mb)) (.int .i64 (i : Int)) true).run Tryz.prog w = .ok (.tuple #[.slice none 0 0, .bool false]) w := hlk
    clear h hD hlk hci
    go_enter Tryz.func10, Tryz.ntmps10
    go_wp2_with (first
      | (go_at_call 22; refine HT.out.mono ?_; rintro e w' ⟨rfl, rfl⟩)
      | (go_at_call 25; refine HR.out.mono ?_; rintro e w' ⟨g, cap, rfl, h1, h2, h3⟩; have H3 : Hid (w.heap.size ≤ g ∧ OwnB w' g cap (bck D.full i) ∧ Below w.heap.size w w') := ⟨h1, h2, h3⟩; clear h1 h2 h3))
    go_ret2
    exact ⟨g, cap, rfl, H3.out.1, H3.out.2.1, H3.out.2.2⟩
  | some q =>
    rw [hci] at hlk
    have hlk' : (Instr.lookup 58 (.map (some T.mb)) (.int .i64 (i : Int)) true).run Tryz.prog w = .ok (.tuple #[.slice (some ⟨q.g, 0, none⟩) 512 q.c, .bool true]) w := hlk
    have HC : Hid (Calls Tryz.prog 23 #[.slice (some ⟨q.g, 0, none⟩) 512 q.c] w fun e w' => ∃ g cap, e = .returned (.slice (some ⟨g, 0, none⟩) 512 cap) ∧ w.heap.size ≤ g ∧ OwnB w' g cap q.x ∧ Below w.heap.size w w') := bclone_any w ⟨q.g, 0, none⟩ 512 q.c q.x (h.blk i q hci).bytes (h.blk i q hci).len (by omega)
    clear h hD hlk hci HR
    go_enter Tryz.func10, Tryz.ntmps10
    go_wp2_with (first
      | (go_at_call 22; refine HT.out.mono ?_; rintro e w' ⟨rfl, rfl⟩)
      | (go_at_call 23; refine HC.out.mono ?_; rintro e w' ⟨g, cap, rfl, h1, h2, h3⟩; have H3 : Hid (w.heap.size ≤ g ∧ OwnB w' g cap q.x ∧ Below w.heap.size w w') := ⟨h1, h2, h3⟩; clear h1 h2 h3))
    go_ret2
    exact ⟨g, cap, rfl, H3.out.1, H3.out.2.1, H3.out.2.2⟩
theorem over_row (w : World) (t : Nat) (cs : Array Value) (hs : cs.size = 4) (h : w.heap[t]? = some (.cells cs 61 (0, 0))) :
    OverAt ((((w.setCell ⟨t, 0, none⟩ (.pointer none)).setCell ⟨t, 1, none⟩ (.map none)).setCell ⟨t, 2, none⟩ (.slice none 0 0)).setCell ⟨t, 3, none⟩ (.bool true)) t ∧ Fr (fun k => k = t) w ((((w.setCell ⟨t, 0, none⟩ (.pointer none)).setCell ⟨t, 1, none⟩ (.map none)).setCell ⟨t, 2, none⟩ (.slice none 0 0)).setCell ⟨t, 3, none⟩ (.bool true)) := by
  obtain ⟨l⟩ := cs
  obtain ⟨a, b, c, d, rfl⟩ : ∃ a b c d, l = [a, b, c, d] := by
    simp at hs
    match l, hs with
    | [a, b, c, d], _ => exact ⟨a, b, c, d, rfl⟩
  have h1 := heap_setCell_same w t 0 _ _ (.pointer none) h
  have h2 := heap_setCell_same _ t 1 _ _ (.map none) h1
  have h3 := heap_setCell_same _ t 2 _ _ (.slice none 0 0) h2
  have h4 := heap_setCell_same _ t 3 _ _ (.bool true) h3
  refine ⟨?_, ((Fr.set.trans Fr.set fun _ hk => .inl hk).trans Fr.set fun _ hk => .inl hk).trans Fr.set fun k hk => .inl hk⟩
  unfold OverAt
  rw [h4]
  rfl
set_option maxRecDepth 100000 in
theorem abort_any (w : World) (t : Nat) (cs : Array Value) (hs : cs.size = 4) (h : w.heap[t]? = some (.cells cs 61 (0, 0))) : Calls Tryz.prog 12 #[.pointer (some ⟨t, 0, none⟩)] w fun e w' => e = .returned (.tuple #[]) ∧ OverAt w' t ∧ Fr (fun k => k = t) w w' := by
  have hO := over_row w t cs hs h
  have hf : ∀ j, w.frozen? ⟨t, j, none⟩ = false := fun j => frozen_of_row _ _ _ _ _ h
  have hc : ∀ j, w.cell? ⟨t, j, none⟩ = cs[j]? := fun j => cell_of_row _ _ _ _ _ _ h
  go_enter Tryz.func12, Tryz.ntmps12
  go_wp2
  go_end0
  exact ⟨rfl, hO.1, hO.2⟩
theorem begin_any (w : World) (d nb : Nat) (hn : nb ≤ 16384) : Calls Tryz.prog 6 #[.pointer (some ⟨d, 0, none⟩)] w fun e w' => ∃ T, e = .returned (.pointer (some ⟨T.t, 0, none⟩)) ∧ TMine w w' T ∧ T.d = d ∧ T.nb = nb ∧ T.c = (fun _ => none) ∧ T.us = [] := by
  have hmm := @run_makeMap Tryz.prog
  go_enter Tryz.func6, Tryz.ntmps6
  go_wp2
  go_ret
  have hm : MapAt ((w.alloc (.map #[] 0)).alloc (.cells #[.pointer (some ⟨d, 0, none⟩), .map (some w.heap.size), .slice none 0 0, .bool false] 61)) w.heap.size (fun _ => none) nb := by
    have := ((World.ownsMap_made w Tryz.prog 3 rel).mono (Nat.zero_le 1000)).alloc (.cells #[.pointer (some ⟨d, 0, none⟩), .map (some w.heap.size), .slice none 0 0, .bool false] 61)
    unfold MapAt dat
    rw [lst_none]
    exact this
  refine ⟨⟨w.heap.size + 1, d, w.heap.size, nb, fun _ => none, .slice none 0 0, []⟩, ?_, ⟨⟨?_, hm, cok_none nb, (fun i q hq => by cases hq), ⟨rfl, .inl ⟨rfl, rfl⟩⟩, (fun u hu => by cases hu), (fun u hu => by cases hu), by simp, (fun k hk => by cases hk), ?_, by simp, hn, by simp [lst_none]⟩, ?_, ?_⟩, rfl, rfl, rfl, rfl⟩
  · simp
  · show _[w.heap.size + 1]? = _
    rw [show w.heap.size + 1 = (w.alloc (.map #[] 0)).heap.size from by simp]
    exact heap_alloc_new _ _
  · rintro k (⟨i, q, hq, _⟩ | ⟨u, hu, _⟩)
    · cases hq
    · cases hu
  · rintro k ((rfl | rfl | hk) | ⟨i, q, hq, _⟩ | ⟨u, hu, _⟩)
    · show w.heap.size ≤ w.heap.size + 1; omega
    · exact Nat.le_refl _
    · cases hk
    · cases hq
    · cases hu
  · exact ((Below.refl _ w).alloc (Nat.le_refl _) _).alloc (by simp) _
end Go.Proofs.YtckldbhaaagncaaGreatDoor
