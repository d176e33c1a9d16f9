import Derived.Test.YtcbebalakdkgnaaGreatDoorKPlanM
import Derived.WalkSpells
import Derived.Lib.BufferMore
import Derived.Deep.DeepCutAuto
import Derived.Deep.RegionLaw
namespace Go.Proofs.YtcbebalakdkgnaaGreatDoor
open Go.RowKit Rec

set_option maxRecDepth 100000 in
set_option maxHeartbeats 800000 in
theorem bclone_any (w : World) (p : Addr) (n c : Nat) (l : List Int) (hb : Bytes w (some p) l) (hn : l.length = n) (h47 : n ≤ 140737488355328) :
    Calls Tryz.prog 39 #[.slice (some p) n c] w fun e w' => ∃ g cap, e = .returned (.slice (some ⟨g, 0, none⟩) n cap) ∧ w.heap.size ≤ g ∧ OwnB w' g cap l ∧ Below w.heap.size w w' := by
  have HB : Hid (Bytes w (some p) l) := hb
  have HN : Hid (l.length = n) := hn
  clear hb hn
  go_enter Tryz.func39, Tryz.ntmps39
  have E1 : ∀ w : World, (binOp .eql 42 (.slice (some p) n c) (.slice none 0 0)).run Tryz.prog w = .ok (.bool false) w := fun w => Go.Lib.run_eql_slice_some_nil w p n c Tryz.underlying42
  have HA : Hid (Below w.heap.size w (w.alloc (.cells #[] 5))) := (Below.refl _ _).alloc (Nat.le_refl _) _
  have HE : Hid (OwnB (w.alloc (.cells #[] 5)) w.heap.size 0 []) := own_empty (heap_alloc_new _ _)
  go_wp2_with (at_builtin; refine wp_app rfl (.tmp 5) (.tmp 6) rfl w.heap.size w.heap.size 0 0 [] l rfl rfl HE.out (Nat.le_refl _) HA.out.size (some p) n c rfl HN.out (HB.out.on HA.out) (fun h => by cases h) (by omega) ?_; intro g cap w2 hg ho hgr; have HG : Hid (w.heap.size ≤ g ∧ OwnB w2 g cap l ∧ Below w.heap.size w w2) := ⟨hg, ho, HA.out.grown hgr HA.out.size (by intro k hk; cases hk; exact Nat.le_refl _)⟩; clear hg ho hgr)
  go_ret
  exact ⟨_, _, rfl, HG.out.1, HG.out.2.1, HG.out.2.2⟩
/-- may a disk have so many blocks? -/
def isz (n : Int) : Bool := decide (1 ≤ n) && decide (n ≤ 16384)
set_option maxRecDepth 100000 in
set_option maxHeartbeats 800000 in
theorem isSize_any (w : World) (n : Int) : Calls Tryz.prog 16 #[.int .i64 n] w fun e w' => e = .returned (.bool (isz n)) ∧ w = w' := by
  go_enter Tryz.func16, Tryz.ntmps16
  unfold isz
  by_cases h1 : 1 ≤ n
  · by_cases h2 : n ≤ 16384
    · go_wp2
      go_ret
      exact ⟨by simp [h2]; omega, rfl⟩
    · go_wp2
      go_ret
      exact ⟨by simp; omega, rfl⟩
  · go_wp2
    go_ret
    exact ⟨by simp; omega, rfl⟩
/-- a disk on which nothing was done -/
def newDk (d L nw capL nb : Nat) (las : List Int) : Dk := { d := d, L := L, nw := nw, capL := capL, capN := nb, nb := nb, las := las, pv := .slice none 0 0, pen := [], tv := .slice none 0 0, tap := [], wr := 0, fl := 0, at_ := 0, kv := .slice none 0 0, keep := [], down := false }
theorem new_disk {w : World} {d L nw capL nb : Nat} {las : List Int} (hd : w.heap[d]? = some (.cells (newDk d L nw capL nb las).cells 72 (0, 0))) (hL : OwnB w L capL las) (hl : las.length = 512 * nb) (h0 : 1 ≤ nb) (h1 : nb ≤ 16384)
    (hn : w.ownsRow 0 3 1 (.slice (some ⟨nw, 0, none⟩) nb nb) nb ((zsA nb).map (Value.int .i64))) (a1 : d ≠ L) (a2 : d ≠ nw) (a3 : L ≠ nw) : Disk w (newDk d L nw capL nb las) where
  row := hd
  las := hL
  lasl := hl
  nb0 := h0
  nb1 := h1
  nws := by
    have e : newest (newDk d L nw capL nb las).f nb 0 = zsA nb := newest_zero _ _
    show w.ownsRow 0 3 1 (.slice (some ⟨nw, 0, none⟩) nb nb) nb ((newest (newDk d L nw capL nb las).f nb 0).map (Value.int .i64))
    rw [e]; exact hn
  pen := ⟨rfl, .inl ⟨rfl, rfl⟩⟩
  penb := fun p hp => by cases hp
  tap := ⟨rfl, .inl ⟨rfl, rfl⟩⟩
  tapb := fun p hp => by cases hp
  kee := ⟨none, 0, rfl, .inl rfl⟩
  keb := fun k hk => by cases hk
  kel := fun k hk => by cases hk
  ap := ⟨a1, a2, a3, (fun k hk => by cases hk), (fun k hk => by cases hk)⟩
  dn := fun _ => rfl
  pl := by show 0 ≤ _; omega
  tl := by show 0 ≤ _; omega
  wrs := by show 0 ≤ _; omega
  fls := by show 0 ≤ _; omega
  at1 := by show (0 : Int) ≤ _; omega
set_option maxRecDepth 100000 in
set_option maxHeartbeats 800000 in
theorem over_any (w : World) (L capL nb : Nat) (las : List Int) (hL : OwnB w L capL las) (hl : las.length = 512 * nb) (h0 : 1 ≤ nb) (h1 : nb ≤ 16384) :
    Calls Tryz.prog 17 #[.slice (some ⟨L, 0, none⟩) (512 * nb : Nat) capL] w fun e w' => ∃ d, e = .returned (.pointer (some ⟨d, 0, none⟩)) ∧ w.heap.size ≤ d ∧ Disk w' (newDk d L w.heap.size capL nb las) ∧ Below w.heap.size w w' := by
  have HL : Hid (OwnB w L capL las) := hL
  have HN : Hid (las.length = 512 * nb) := hl
  clear hL hl
  go_enter Tryz.func17, Tryz.ntmps17
  go_wp2_with (at_make; refine wp_makeI rfl _ _ rfl _ _ _ _ nb rfl rfl (by omega) (by omega) (by omega) ?_; intro w1 ho hb; have HO : Hid (w1.ownsRow 0 3 1 (.slice (some ⟨w.heap.size, 0, none⟩) nb nb) nb ((zsA nb).map (Value.int .i64))) := ho; have HB : Hid (Below w.heap.size w w1) := hb; clear ho hb)
  go_ret
  have hs : w.heap.size < w1.heap.size := owns_block HO.out rfl
  have hA : Below w1.heap.size w1 (w1.alloc (.cells (newDk w1.heap.size L w.heap.size capL nb las).cells 72)) := (Below.refl _ _).alloc (Nat.le_refl _) _
  have hL2 := HL.out.below HB.out HL.out.lt
  have hlt := HL.out.lt
  exact ⟨_, rfl, Nat.le_of_lt hs, new_disk (heap_alloc_new _ _) (hL2.on hA) HN.out h0 h1 (owns_fr HO.out (below_fr hA (fun k => w1.heap.size ≤ k)) (fun k hk => by cases hk; exact Nat.not_le.2 hs)) (by omega) (by omega) (by omega), HB.out.trans (hA.mono HB.out.size)⟩
set_option maxRecDepth 100000 in
set_option maxHeartbeats 800000 in
theorem new_yes (w : World) (nb : Nat) (h0 : 1 ≤ nb) (h1 : nb ≤ 16384) : Calls Tryz.prog 5 #[.int .i64 nb] w fun e w' => ∃ d nw L capL, e = .returned (.tuple #[.pointer (some ⟨d, 0, none⟩), .int .i64 0]) ∧ w.heap.size ≤ d ∧ w.heap.size ≤ nw ∧ w.heap.size ≤ L ∧ Disk w' (newDk d L nw capL nb (zsA (512 * nb))) ∧ Below w.heap.size w w' := by
  have HS : Hid (isz nb = true) := by unfold isz; rw [decide_eq_true (by omega), decide_eq_true (by omega)]; rfl
  go_enter Tryz.func5, Tryz.ntmps5
  go_wp2_with (first
    | (go_at_call 16; refine (isSize_any _ _).mono ?_; rintro e w' ⟨rfl, rfl⟩; rw [HS.out])
    | (at_make; refine wp_makeB rfl _ _ rfl _ _ _ _ (512 * nb) rfl rfl (by omega) (by omega) (by omega) ?_; intro w1 ho hb; have HO : Hid (OwnB w1 w.heap.size (512 * nb) (zsA (512 * nb))) := ho; have HB : Hid (Below w.heap.size w w1) := hb; clear ho hb)
    | (go_at_call 17; refine (over_any _ w.heap.size (512 * nb) nb (zsA (512 * nb)) HO.out (zsA_length _) h0 h1).mono ?_; rintro e w2 ⟨d, rfl, hd, hD, hb2⟩; have HD : Hid (w1.heap.size ≤ d ∧ Disk w2 (newDk d w.heap.size w1.heap.size (512 * nb) nb (zsA (512 * nb))) ∧ Below w1.heap.size w1 w2) := ⟨hd, hD, hb2⟩; clear hd hD hb2))
  go_ret2
  have := HB.out.size
  exact ⟨_, _, _, _, rfl, Nat.le_trans HB.out.size HD.out.1, HB.out.size, Nat.le_refl _, HD.out.2.1, HB.out.trans (HD.out.2.2.mono HB.out.size)⟩
set_option maxRecDepth 100000 in
set_option maxHeartbeats 800000 in
theorem open_yes (w : World) (p : Addr) (c nb : Nat) (l : List Int) (hb : Bytes w (some p) l) (hn : l.length = 512 * nb) (h0 : 1 ≤ nb) (h1 : nb ≤ 16384) :
    Calls Tryz.prog 52 #[.slice (some p) (512 * nb : Nat) c] w fun e w' => ∃ d nw L capL, e = .returned (.tuple #[.pointer (some ⟨d, 0, none⟩), .int .i64 0]) ∧ w.heap.size ≤ d ∧ w.heap.size ≤ nw ∧ w.heap.size ≤ L ∧ Disk w' (newDk d L nw capL nb l) ∧ Below w.heap.size w w' := by
  have HS : Hid (isz nb = true) := by unfold isz; rw [decide_eq_true (by omega), decide_eq_true (by omega)]; rfl
  have HI : Hid (Bytes w (some p) l) := hb
  have HN : Hid (l.length = 512 * nb) := hn
  clear hb hn
  go_enter Tryz.func52, Tryz.ntmps52
  go_wp2_with (first
    | (go_at_call 16; refine (isSize_any _ _).mono ?_; rintro e w' ⟨rfl, rfl⟩; rw [show isz _ = true from HS.out])
    | (go_at_call 39; refine (bclone_any _ p _ c l HI.out HN.out (by omega)).mono ?_; rintro e w1 ⟨g, cap, rfl, hg, ho, hb⟩; have HO : Hid (w.heap.size ≤ g ∧ OwnB w1 g cap l) := ⟨hg, ho⟩; have HB : Hid (Below w.heap.size w w1) := hb; clear hg ho hb)
    | (go_at_call 17; refine (over_any _ _ _ nb l HO.out.2 HN.out h0 h1).mono ?_; rintro e w2 ⟨d, rfl, hd, hD, hb2⟩; have HD : Hid (w1.heap.size ≤ d ∧ Disk w2 (newDk d _ w1.heap.size _ nb l) ∧ Below w1.heap.size w1 w2) := ⟨hd, hD, hb2⟩; clear hd hD hb2))
  go_ret2
  exact ⟨_, _, _, _, rfl, Nat.le_trans HB.out.size HD.out.1, HB.out.size, HO.out.1, HD.out.2.1, HB.out.trans (HD.out.2.2.mono HB.out.size)⟩
end Go.Proofs.YtcbebalakdkgnaaGreatDoor

namespace Go.Proofs.YtcbebalakdkgnaaGreatDoor
open Go.RowKit Rec

/-- a row of one's own is a slice -/
theorem owns_slice {w : World} {B e size n : Nat} {v : Value} {xs : List Value} (h : w.ownsRow B e size v n xs) : ∃ a c, v = .slice a n c ∧ n ≤ c ∧ (n = 0 ∨ ∃ g, a = some ⟨g, 0, none⟩) ∧ ∀ g o, a = some ⟨g, o, none⟩ → o = 0 ∧ (∀ j u, xs[j]? = some u → w.cell? ⟨g, j, none⟩ = some u) ∧ (∀ j, w.frozen? ⟨g, j, none⟩ = false) := by
  rcases h.2 with ⟨rfl, rfl⟩ | ⟨g, cap, cur, rfl, h1, hg, h2, h3, h4, h5⟩
  · exact ⟨none, 0, rfl, Nat.le_refl _, .inl rfl, fun g o hh => by cases hh⟩
  · refine ⟨_, _, rfl, h2, .inr ⟨g, rfl⟩, fun g' o hh => ?_⟩
    cases hh
    refine ⟨rfl, fun j u hj => ?_, fun j => frozen_of_row _ _ _ _ _ hg⟩
    have := h.cells (g := g) rfl j u hj
    rwa [Addr.add_lit, Nat.zero_add] at this

theorem flat2 (f : It → List Value) (l : List It) (k : Nat) (hk : k < l.length) (j : Nat) (hj : j < 2) (hf : ∀ p, (f p).length = 2 := by intro p; rfl) : (l.flatMap f)[k * 2 + j]? = (f l[k])[j]? := by
  induction l generalizing k with
  | nil => simp at hk
  | cons p l ih =>
    rw [List.flatMap_cons]
    cases k with
    | zero => rw [List.getElem?_append_left (by rw [hf]; omega)]; simp
    | succ k =>
      rw [List.getElem?_append_right (by rw [hf]; omega), hf, show (k + 1) * 2 + j - 2 = k * 2 + j by omega, ih k (by simpa using hk)]; rfl
theorem OwnB.sub {w : World} {g cap : Nat} {l : List Int} (h : OwnB w g cap l) (o n : Nat) (hn : o + n ≤ l.length) : Bytes w (some ⟨g, o, none⟩) ((l.drop o).take n) := by
  refine ⟨by have := h.len; rw [List.length_take, List.length_drop]; omega, wf_take (wf_drop h.wf o) n, .inr ⟨g, o, rfl, fun i hi => ?_⟩⟩
  rw [List.length_take] at hi
  rw [nth_take _ _ _ (by omega), nth_drop, h.cell (o + i) (by omega)]
set_option maxRecDepth 100000 in
set_option maxHeartbeats 800000 in
theorem blocks_any (w : World) (D : Dk) (h : Disk w D) : Calls Tryz.prog 68 #[.pointer (some ⟨D.d, 0, none⟩)] w fun e w' => e = .returned (.int .i64 D.nb) ∧ w = w' := by
  have C2 : w.cell? ⟨D.d, 2, none⟩ = some (.slice (some ⟨D.nw, 0, none⟩) D.nb D.capN) := h.cell 2
  have hb := h.nb1
  clear h
  go_enter Tryz.func68, Tryz.ntmps68
  go_wp2
  go_ret
  exact ⟨rfl, rfl⟩
set_option maxRecDepth 100000 in
set_option maxHeartbeats 800000 in
theorem down_any (w : World) (D : Dk) (h : Disk w D) : Calls Tryz.prog 10 #[.pointer (some ⟨D.d, 0, none⟩)] w fun e w' => e = .returned (.bool D.down) ∧ w = w' := by
  have C2 : w.cell? ⟨D.d, 8, none⟩ = some (.bool D.down) := h.cell 8
  clear h
  go_enter Tryz.func10, Tryz.ntmps10
  go_wp2
  go_ret
  exact ⟨rfl, rfl⟩
set_option maxRecDepth 100000 in
set_option maxHeartbeats 800000 in
theorem steps_any (w : World) (D : Dk) (h : Disk w D) : Calls Tryz.prog 9 #[.pointer (some ⟨D.d, 0, none⟩)] w fun e w' => e = .returned (.tuple #[.int .i64 D.wr, .int .i64 D.fl]) ∧ Below w.heap.size w w' := by
  have C4 : w.cell? ⟨D.d, 4, none⟩ = some (.int .i64 D.wr) := h.cell 4
  have C5 : w.cell? ⟨D.d, 5, none⟩ = some (.int .i64 D.fl) := h.cell 5
  clear h
  go_enter Tryz.func9, Tryz.ntmps9
  go_wp2
  go_region
  all_goals (try go_wp2)
  all_goals go_ret2
  all_goals exact ⟨rfl, (Below.refl _ w).drew⟩
set_option maxRecDepth 100000 in
set_option maxHeartbeats 800000 in
theorem image_any (w : World) (D : Dk) (h : Disk w D) : Calls Tryz.prog 13 #[.pointer (some ⟨D.d, 0, none⟩)] w fun e w' => ∃ g cap, e = .returned (.slice (some ⟨g, 0, none⟩) (512 * D.nb : Nat) cap) ∧ w.heap.size ≤ g ∧ OwnB w' g cap D.las ∧ Below w.heap.size w w' := by
  have C0 : w.cell? ⟨D.d, 0, none⟩ = some (.slice (some ⟨D.L, 0, none⟩) (512 * D.nb) D.capL) := h.cell 0
  have hb := h.nb1
  have HO : Hid (OwnB w D.L D.capL D.las) := h.las
  have HN : Hid (D.las.length = 512 * D.nb) := h.lasl
  clear h
  go_enter Tryz.func13, Tryz.ntmps13
  go_wp2_with (go_at_call 39; refine (bclone_any _ _ _ _ D.las HO.out.bytes HN.out (by omega)).mono ?_; rintro e w1 ⟨g, cap, rfl, hg, ho, hb⟩; have HG : Hid (w.heap.size ≤ g ∧ OwnB w1 g cap D.las ∧ Below w.heap.size w w1) := ⟨hg, ho, hb⟩; clear hg ho hb)
  go_ret
  exact ⟨_, _, rfl, HG.out⟩
set_option maxRecDepth 100000 in
set_option maxHeartbeats 800000 in
theorem dblock_min (w : World) (d L nb capL : Nat) (C0 : w.cell? ⟨d, 0, none⟩ = some (.slice (some ⟨L, 0, none⟩) (512 * nb) capL)) (hb : nb ≤ 16384) (hr : 512 * nb ≤ capL) (i : Nat) (hi : i < nb) : Calls Tryz.prog 82 #[.pointer (some ⟨d, 0, none⟩), .int .i64 i] w fun e w' => e = .returned (.slice (some ⟨L, 512 * i, none⟩) 512 (capL - 512 * i)) ∧ w = w' := by
  go_enter Tryz.func82, Tryz.ntmps82
  go_wp2
  go_ret
  refine ⟨?_, rfl⟩
  show Ending.returned (Value.slice (some ⟨L, i * 512, none⟩) ((i + 1) * 512 - i * 512) (capL - i * 512)) = _
  rw [show (i + 1) * 512 - i * 512 = 512 by omega, Nat.mul_comm i 512]
theorem dblock_any (w : World) (D : Dk) (h : Disk w D) (i : Nat) (hi : i < D.nb) : Calls Tryz.prog 82 #[.pointer (some ⟨D.d, 0, none⟩), .int .i64 i] w fun e w' => e = .returned (.slice (some ⟨D.L, 512 * i, none⟩) 512 (D.capL - 512 * i)) ∧ w = w' :=
  dblock_min w D.d D.L D.nb D.capL (h.cell 0) h.nb1 (by have := h.las.room; rw [h.lasl] at this; exact this) i hi
/-- may it be touched? -/
def touchE (D : Dk) (i : Int) : Int := if D.down then 30 else if 0 ≤ i ∧ i < D.nb then 0 else 31
set_option maxRecDepth 100000 in
set_option maxHeartbeats 800000 in
theorem touch_any (w : World) (D : Dk) (h : Disk w D) (i : Int) : Calls Tryz.prog 81 #[.pointer (some ⟨D.d, 0, none⟩), .int .i64 i] w fun e w' => e = .returned (.int .i64 (touchE D i)) ∧ w = w' := by
  have C8 : w.cell? ⟨D.d, 8, none⟩ = some (.bool D.down) := h.cell 8
  have HD : Hid (Disk w D) := h
  clear h
  go_enter Tryz.func81, Tryz.ntmps81
  unfold touchE
  cases hd : D.down with
  | true =>
    rw [hd] at C8
    go_wp2
    go_ret
    exact ⟨rfl, rfl⟩
  | false =>
    rw [hd] at C8
    by_cases h1 : i < 0
    · go_wp2
      go_ret
      exact ⟨rfl, rfl⟩
    · by_cases h2 : i < D.nb
      · go_wp2_with (go_at_call 68; refine (blocks_any _ D HD.out).mono ?_; rintro e w' ⟨rfl, rfl⟩)
        go_ret
        exact ⟨rfl, rfl⟩
      · go_wp2_with (go_at_call 68; refine (blocks_any _ D HD.out).mono ?_; rintro e w' ⟨rfl, rfl⟩)
        go_ret
        exact ⟨rfl, rfl⟩
/-- what is read of it -/
def Dk.full (D : Dk) : List Int := lay (fun _ => true) D.f D.X D.las D.pen.length
theorem Dk.full_length (D : Dk) : D.full.length = D.las.length := lay_length _ _ _ _ _
theorem blk_length {l : List Int} {n i : Nat} (h : l.length = 512 * n) (hi : i < n) : (bck l i).length = 512 := by
  rw [bck, List.length_take, List.length_drop]; omega
theorem nth_blk {l : List Int} {n i : Nat} (_ : l.length = 512 * n) (_ : i < n) (j : Nat) (hj : j < 512) : nth (bck l i) j = nth l (512 * i + j) := by
  rw [bck, nth_take _ _ _ hj, nth_drop]
theorem penX (D : Dk) (k : Nat) (hk : k < D.pen.length) : ∃ p, D.pen[k]? = some p ∧ p ∈ D.pen ∧ D.f k = p.b ∧ D.X k = p.x ∧ (D.pen.flatMap It.cells)[k * 2]? = some (.int .i64 p.b) ∧ (D.pen.flatMap It.cells)[k * 2 + 1]? = some (.slice (some ⟨p.g, 0, none⟩) 512 p.cap) := by
  refine ⟨D.pen[k], by simp [hk], List.getElem_mem hk, by simp [Dk.f, List.getD, hk], by simp [Dk.X, List.getD, hk], ?_, ?_⟩
  · exact flat2 _ D.pen k hk 0 (by omega)
  · exact flat2 _ D.pen k hk 1 (by omega)
theorem fullBlk {w : World} {D : Dk} (h : Disk w D) (i : Nat) (hi : i < D.nb) : bck D.full i = if lst D.f i D.pen.length = 0 then bck D.las i else D.X (lst D.f i D.pen.length - 1) := by
  have hf : D.full.length = 512 * D.nb := by rw [Dk.full_length, h.lasl]
  have e1 := blk_length hf hi
  have e2 := blk_length h.lasl hi
  have hle := lst_le D.f i D.pen.length
  by_cases h0 : lst D.f i D.pen.length = 0
  · rw [if_pos h0]
    refine ext_nth (by rw [e1, e2]) fun j hj => ?_
    rw [e1] at hj
    rw [nth_blk hf hi j hj, nth_blk h.lasl hi j hj, Dk.full, nth_lay_all _ _ _ _ _ (by rw [h.lasl]; omega), show (512 * i + j) / 512 = i by omega, if_pos h0]
  · rw [if_neg h0]
    obtain ⟨p, _, hp, _, hx, _, _⟩ := penX D (lst D.f i D.pen.length - 1) (by omega)
    have e3 := (h.penb p hp).2.1
    refine ext_nth (by rw [e1, hx, e3]) fun j hj => ?_
    rw [e1] at hj
    rw [nth_blk hf hi j hj, Dk.full, nth_lay_all _ _ _ _ _ (by rw [h.lasl]; omega), show (512 * i + j) / 512 = i by omega, if_neg h0, show (512 * i + j) % 512 = j by omega]
set_option maxRecDepth 100000 in
set_option maxHeartbeats 800000 in
theorem read_no (w : World) (D : Dk) (h : Disk w D) (i : Int) (ht : touchE D i ≠ 0) : Calls Tryz.prog 57 #[.pointer (some ⟨D.d, 0, none⟩), .int .i64 i] w fun e w' => e = .returned (.tuple #[.slice none 0 0, .int .i64 (touchE D i)]) ∧ w = w' := by
  have HD : Hid (Disk w D) := h
  clear h
  have hn : (touchE D i == 0) = false := by simpa using ht
  go_enter Tryz.func57, Tryz.ntmps57
  go_wp2_with (go_at_call 81; refine (touch_any _ D HD.out i).mono ?_; rintro e w' ⟨rfl, rfl⟩)
  go_ret2
  exact ⟨rfl, rfl⟩
set_option maxRecDepth 100000 in
set_option maxHeartbeats 800000 in
theorem read_yes (w : World) (D : Dk) (h : Disk w D) (i : Nat) (hi : i < D.nb) (hd : D.down = false) : Calls Tryz.prog 57 #[.pointer (some ⟨D.d, 0, none⟩), .int .i64 i] w fun e w' => ∃ g cap, e = .returned (.tuple #[.slice (some ⟨g, 0, none⟩) 512 cap, .int .i64 0]) ∧ w.heap.size ≤ g ∧ OwnB w' g cap (bck D.full i) ∧ Below w.heap.size w w' := by
  have HD : Hid (Disk w D) := h
  have HT : Hid (touchE D i = 0) := by unfold touchE; rw [hd, if_neg (by decide), if_pos (by omega)]; exact rfl
  have C2 : w.cell? ⟨D.d, 2, none⟩ = some (.slice (some ⟨D.nw, 0, none⟩) D.nb D.capN) := h.cell 2
  have C1 : w.cell? ⟨D.d, 1, none⟩ = some D.pv := h.cell 1
  have hb := h.nb1
  have HF := fullBlk h i hi
  have hle := lst_le D.f i D.pen.length
  have hN : w.cell? ⟨D.nw, i, none⟩ = some (.int .i64 (lst D.f i D.pen.length)) := by
    have e := h.nws.cells (g := D.nw) rfl i (.int .i64 (lst D.f i D.pen.length)) (by simp [newest, hi])
    rwa [Addr.add_lit, Nat.zero_add] at e
  have hpl := h.pl
  by_cases h0 : lst D.f i D.pen.length = 0
  · rw [h0] at hN
    rw [if_pos h0] at HF
    have HL : Hid (Bytes w (some ⟨D.L, 512 * i, none⟩) (bck D.las i)) := h.las.sub (512 * i) 512 (by rw [h.lasl]; omega)
    have HN : Hid ((bck D.las i).length = 512) := blk_length h.lasl hi
    have HF' : Hid (bck D.full i = bck D.las i) := HF
    clear h HF h0 hle
    go_enter Tryz.func57, Tryz.ntmps57
    go_wp2_with (first
      | (go_at_call 81; refine (touch_any _ D HD.out i).mono ?_; rintro e w' ⟨rfl, rfl⟩; rw [HT.out])
      | (go_at_call 82; refine (dblock_any _ D HD.out i hi).mono ?_; rintro e w' ⟨rfl, rfl⟩)
      | (go_at_call 39; refine (bclone_any _ _ _ _ _ HL.out HN.out (by omega)).mono ?_; rintro e w1 ⟨g, cap, rfl, hg, ho, hb⟩; have HG : Hid (w.heap.size ≤ g ∧ OwnB w1 g cap (bck D.las i) ∧ Below w.heap.size w w1) := ⟨hg, ho, hb⟩; clear hg ho hb))
    go_ret2
    rw [HF'.out]
    exact ⟨_, _, rfl, HG.out⟩
  · obtain ⟨p, _, hp, _, hx, c1, c2⟩ := penX D (lst D.f i D.pen.length - 1) (by omega)
    obtain ⟨a, c, hv, hc, hg, hcc⟩ := owns_slice h.pen
    obtain ⟨g, rfl⟩ := hg.resolve_left (by omega)
    have c2' := (hcc g 0 rfl).2.1 _ _ c2
    rw [hv] at C1
    rw [if_neg h0, hx] at HF
    have HF' : Hid (bck D.full i = p.x) := HF
    have HL : Hid (Bytes w (some ⟨p.g, 0, none⟩) p.x) := (h.penb p hp).2.2.1.bytes
    have HN : Hid (p.x.length = 512) := (h.penb p hp).2.1
    clear h HF hcc c1 c2 hx hp
    generalize lst D.f i D.pen.length = k at *
    obtain ⟨m, rfl⟩ : ∃ m, k = m + 1 := ⟨k - 1, by omega⟩
    simp only [Nat.add_sub_cancel] at c2'
    go_enter Tryz.func57, Tryz.ntmps57
    go_wp2_with (first
      | (go_at_call 81; refine (touch_any _ D HD.out i).mono ?_; rintro e w' ⟨rfl, rfl⟩; rw [HT.out])
      | (go_at_call 39; refine (bclone_any _ _ _ _ _ HL.out HN.out (by omega)).mono ?_; rintro e w1 ⟨g, cap, rfl, hg, ho, hb⟩; have HG : Hid (w.heap.size ≤ g ∧ OwnB w1 g cap p.x ∧ Below w.heap.size w w1) := ⟨hg, ho, hb⟩; clear hg ho hb))
    go_ret2
    rw [HF'.out]
    exact ⟨_, _, rfl, HG.out⟩
end Go.Proofs.YtcbebalakdkgnaaGreatDoor

namespace Go.Proofs.YtcbebalakdkgnaaGreatDoor
open Go.RowKit Rec

theorem sizeU8 : (Tryz.prog.info? 5).map (·.size) = some 1 := by kernel_rfl
theorem copyB_run {w : World} {g cap off dLen dCap : Nat} {l : List Int} (ty : TypeId) (ad : Addr) (sLen sCap : Nat) (m : List Int) (hO : OwnB w g cap l) (hb : Bytes w (some ad) m) (hm : m.length = sLen) (hle : sLen ≤ dLen) (hfit : off + sLen ≤ l.length) :
    ∃ w', (Builtin.copy_ #[42, 42] ty #[.slice (some ⟨g, off, none⟩) dLen dCap, .slice (some ad) sLen sCap]).run Tryz.prog w = .ok (.int .i64 sLen) w' ∧ OwnB w' g cap (ov l off sLen (nth m)) ∧ Fr (fun k => k = g) w w' := by
  obtain ⟨cur, h1, h2, h3⟩ := hO.row
  have hr := hO.room
  have hlen : (m.map (Value.int .u8)).length = Nat.min sLen dLen := by
    rw [List.length_map, hm]; exact (Nat.min_eq_left hle).symm
  have hrun := run_copy_row (P := Tryz.prog) w 42 42 ty 5 g off dLen dCap ad sLen sCap cur 5 (m.map (Value.int .u8)) Tryz.underlying42 sizeU8 h1 hlen hb.news (by rw [List.length_map, hm]; omega) (cells_u8 m)
  refine ⟨_, by rw [hrun, List.length_map, hm]; rfl, ⟨⟨_, setRow_heap w g _ _ _ _ h1, ?_, ?_⟩, by rw [ov_length]; exact hO.len, by rw [ov_length]; exact hr, hO.top, fun i => wf_ov _ _ _ _ hO.wf (fun j _ => hb.wf j) i⟩, ⟨rfl, rfl, rfl, by simp [World.setRow], fun k _ hk => setRow_other w g k _ hk⟩⟩
  · rw [← Array.length_toList] at h2
    simp only [List.size_toArray, List.length_append, List.length_take, List.length_drop, List.length_map]; omega
  · rw [← Array.length_toList] at h2
    have hcut : cur.toList = l.map (Value.int .u8) ++ cur.toList.drop l.length := by rw [← h3, List.take_append_drop]
    rw [ov_length]
    show List.take l.length (cur.toList.take off ++ m.map (Value.int .u8) ++ cur.toList.drop (off + sLen)) = _
    apply List.ext_getElem?
    intro i
    by_cases hi : i < l.length
    · rw [List.getElem?_take_of_lt hi, nth_cellL _ _ (by rw [ov_length]; exact hi), nth_ov _ _ _ _ _ hi]
      have hci : cur.toList[i]? = some (.int .u8 (nth l i)) := by
        rw [← nth_cellL l i hi, ← h3, List.getElem?_take_of_lt hi]
      by_cases h4 : i < off
      · rw [if_neg (by omega), List.append_assoc, List.getElem?_append_left (by rw [List.length_take]; omega), List.getElem?_take_of_lt h4]; exact hci
      · by_cases h5 : i < off + sLen
        · rw [if_pos (by omega), List.getElem?_append_left (by rw [List.length_append, List.length_take, List.length_map]; omega), List.getElem?_append_right (by rw [List.length_take]; omega), List.length_take, show i - min off cur.toList.length = i - off by omega, nth_cellL _ _ (by omega)]
        · rw [if_neg (by omega), List.getElem?_append_right (by rw [List.length_append, List.length_take, List.length_map]; omega), List.getElem?_drop, List.length_append, List.length_take, List.length_map, show off + sLen + (i - (min off cur.toList.length + m.length)) = i by omega]; exact hci
    · rw [List.getElem?_eq_none (by rw [List.length_take]; omega), List.getElem?_eq_none (by rw [List.length_map, ov_length]; omega)]
/-- is it among what is kept? -/
def kpOf (keep : List Bool) (k : Nat) : Bool := keep.getD k false
set_option maxRecDepth 100000 in
set_option maxHeartbeats 800000 in
theorem all_any (w : World) (k : Int) : Calls Tryz.prog 115 #[.int .i64 k] w fun e w' => e = .returned (.bool true) ∧ w = w' := by
  go_enter Tryz.func115, Tryz.ntmps115
  go_wp2
  go_ret
  exact ⟨rfl, rfl⟩
set_option maxRecDepth 100000 in
set_option maxHeartbeats 800000 in
theorem keep_any (w : World) (c : Nat) (v : Value) (keep : List Bool) (k : Nat) (hc : w.cell? ⟨c, 0, none⟩ = some v) (hv : Bools w v keep) (hl : keep.length ≤ 9223372036854775807) : Calls Tryz.prog 155 #[.int .i64 k, .pointer (some ⟨c, 0, none⟩)] w fun e w' => e = .returned (.bool (kpOf keep k)) ∧ w = w' := by
  obtain ⟨a, cp, rfl, hb⟩ := hv
  unfold kpOf
  by_cases h : k < keep.length
  · rcases hb with rfl | ⟨b, off, rfl, hbc⟩
    · simp at h
    · have e : keep.getD k false = keep[k] := by simp [List.getD, h]
      have d := hbc k keep[k] (by simp [h])
      rw [e]
      generalize keep[k] = x at *
      clear hbc e
      go_enter Tryz.func155, Tryz.ntmps155
      go_wp2
      go_ret
      exact ⟨rfl, rfl⟩
  · have e : keep.getD k false = false := by simp [List.getD, Nat.le_of_not_lt h]
    rw [e]
    clear hb e
    go_enter Tryz.func155, Tryz.ntmps155
    go_wp2
    go_ret
    exact ⟨rfl, rfl⟩
/-- copy, as a step of a region that draws -/
theorem step_copyB {ops : Array Oper} {o : Oper} {a : Act} {w : World} {K : Act → World → Prop} {Q : Exit → Act → World → Prop} {E : Prop} (hgd : o.guard = none) (d s : Operand)
    (ho : o.op = .call { callee := .builtin .copy, args := #[d, s], argTypes := #[42, 42] }) (g cap off dLen dCap : Nat) (l : List Int) (ad : Addr) (sLen sCap : Nat) (m : List Int)
    (hd : a.eval d = .slice (some ⟨g, off, none⟩) dLen dCap) (hs : a.eval s = .slice (some ad) sLen sCap) (hO : OwnB w g cap l) (hb : Bytes w (some ad) m) (hm : m.length = sLen) (hle : sLen ≤ dLen) (hfit : off + sLen ≤ l.length)
    (h : ∀ w', OwnB w' g cap (ov l off sLen (nth m)) → Fr (fun k => k = g) w w' → K (a.put o.dst (.int .i64 sLen)) w') :
    if Region.wanted o (yielded ops a.tmps) = true then Oper.wp Tryz.prog o a w K Q else E := by
  have hw : Region.wanted o (yielded ops a.tmps) = true := by simp [Region.wanted, hgd]
  rw [if_pos hw]
  obtain ⟨w', hrun, h1, h2⟩ := copyB_run (dCap := dCap) o.type ad sLen sCap m hO hb hm hle hfit
  unfold Oper.wp
  simp only [execOp, ho, resolve, invoke, builtin, Sem.run_bind, Sem.run_pure, Result.andThen_ok, List.map_toArray, List.map_cons, List.map_nil, hd, hs, hrun]
  exact h w' h1 h2
end Go.Proofs.YtcbebalakdkgnaaGreatDoor
