import Derived.Test.YtccocjipgbeaeabSmall
import Derived.WalkSpells
import Derived.Lib.BufferMore
namespace Go.Proofs.Ytccocjipgbeaeab
open Go.RowKit Adk

set_option maxRecDepth 100000 in
set_option maxHeartbeats 800000 in
theorem clone_any (w : World) (p : Addr) (n c : Nat) (l : List Int) (hb : Bytes w (some p) l) (hn : l.length = n) (h47 : n ≤ 140737488355328) :
    Calls Try.prog 31 #[.slice (some p) n c] w fun e w' => ∃ g cap, e = .returned (.slice (some ⟨g, 0, none⟩) n cap) ∧ w.heap.size ≤ g ∧ OwnB w' g cap l ∧ Below w.heap.size w w' := by
  have HB : Hid (Bytes w (some p) l) := hb
  have HN : Hid (l.length = n) := hn
  clear hb hn
  go_enter Try.func31, Try.ntmps31
  have E1 : ∀ w : World, (binOp .eql 25 (.slice (some p) n c) (.slice none 0 0)).run Try.prog w = .ok (.bool false) w := fun w => Go.Lib.run_eql_slice_some_nil w p n c Try.underlying25
  have HA : Hid (Below w.heap.size w (w.alloc (.cells #[] 5))) := (Below.refl _ _).alloc (Nat.le_refl _) _
  have HE : Hid (OwnB (w.alloc (.cells #[] 5)) w.heap.size 0 []) := own_empty (heap_alloc_new _ _)
  go_wp2_with (at_builtin; refine wp_app rfl (.tmp 5) (.tmp 6) rfl w.heap.size w.heap.size 0 0 [] l rfl rfl HE.out (Nat.le_refl _) HA.out.size (some p) n c rfl HN.out (HB.out.on HA.out) (fun h => by cases h) (by omega) ?_; intro g cap w2 hg ho hgr; have HG : Hid (w.heap.size ≤ g ∧ OwnB w2 g cap l ∧ Below w.heap.size w w2) := ⟨hg, ho, HA.out.grown hgr HA.out.size (by intro k hk; cases hk; exact Nat.le_refl _)⟩; clear hg ho hgr)
  go_ret
  exact ⟨_, _, rfl, HG.out.1, HG.out.2.1, HG.out.2.2⟩
set_option maxRecDepth 100000 in
set_option maxHeartbeats 800000 in
theorem clone_nil (w : World) :
    Calls Try.prog 31 #[.slice none 0 0] w fun e w' => e = .returned (.slice none 0 0) ∧ w = w' := by
  have E1 : ∀ w : World, (binOp .eql 25 (.slice none 0 0) (.slice none 0 0)).run Try.prog w = .ok (.bool true) w := fun w => run_eql_nil_slice w _ _ _ _ _ _ _ Try.underlying25
  go_enter Try.func31, Try.ntmps31
  go_wp2
  go_ret
  exact ⟨rfl, rfl⟩
/-- may a disk have so many blocks? -/
def isz (n : Int) : Bool := decide (1 ≤ n) && decide (n ≤ 16384)
set_option maxRecDepth 100000 in
set_option maxHeartbeats 800000 in
theorem isSize_any (w : World) (n : Int) : Calls Try.prog 36 #[.int .i64 n] w fun e w' => e = .returned (.bool (isz n)) ∧ w = w' := by
  go_enter Try.func36, Try.ntmps36
  unfold isz
  by_cases h1 : 1 ≤ n
  · by_cases h2 : n ≤ 16384
    · go_wp2
      go_ret
      exact ⟨by simp [h2]; omega, rfl⟩
    · go_wp2
      go_ret
      exact ⟨by simp; omega, rfl⟩
  · go_wp2
    go_ret
    exact ⟨by simp; omega, rfl⟩
/-- a disk on which nothing was done -/
def newDk (d L nw capL nb : Nat) (las : List Int) : Dk := { d := d, L := L, nw := nw, capL := capL, capN := nb, nb := nb, las := las, pv := .slice none 0 0, pen := [], tv := .slice none 0 0, tap := [], wr := 0, fl := 0, at_ := 0, kv := .slice none 0 0, keep := [], down := false }
theorem new_disk {w : World} {d L nw capL nb : Nat} {las : List Int} (hd : w.heap[d]? = some (.cells (newDk d L nw capL nb las).cells 75 (0, 0))) (hL : OwnB w L capL las) (hl : las.length = 512 * nb) (h0 : 1 ≤ nb) (h1 : nb ≤ 16384)
    (hn : w.ownsRow 0 3 1 (.slice (some ⟨nw, 0, none⟩) nb nb) nb ((zs nb).map (Value.int .i64))) (a1 : d ≠ L) (a2 : d ≠ nw) (a3 : L ≠ nw) : Disk w (newDk d L nw capL nb las) where
  row := hd
  las := hL
  lasl := hl
  nb0 := h0
  nb1 := h1
  nws := by
    have e : newest (newDk d L nw capL nb las).f nb 0 = zs nb := newest_zero _ _
    show w.ownsRow 0 3 1 (.slice (some ⟨nw, 0, none⟩) nb nb) nb ((newest (newDk d L nw capL nb las).f nb 0).map (Value.int .i64))
    rw [e]; exact hn
  pen := ⟨rfl, .inl ⟨rfl, rfl⟩⟩
  penb := fun p hp => by cases hp
  tap := ⟨rfl, .inl ⟨rfl, rfl⟩⟩
  tapb := fun p hp => by cases hp
  kee := ⟨none, 0, rfl, .inl rfl⟩
  keb := fun k hk => by cases hk
  kel := fun k hk => by cases hk
  ap := ⟨a1, a2, a3, (fun k hk => by cases hk), (fun k hk => by cases hk)⟩
  dn := fun _ => rfl
  pl := by show 0 ≤ _; omega
  tl := by show 0 ≤ _; omega
  wrs := by show 0 ≤ _; omega
  fls := by show 0 ≤ _; omega
  at1 := by show (0 : Int) ≤ _; omega
set_option maxRecDepth 100000 in
set_option maxHeartbeats 800000 in
theorem over_any (w : World) (L capL nb : Nat) (las : List Int) (hL : OwnB w L capL las) (hl : las.length = 512 * nb) (h0 : 1 ≤ nb) (h1 : nb ≤ 16384) :
    Calls Try.prog 37 #[.slice (some ⟨L, 0, none⟩) (512 * nb : Nat) capL] w fun e w' => ∃ d, e = .returned (.pointer (some ⟨d, 0, none⟩)) ∧ w.heap.size ≤ d ∧ Disk w' (newDk d L w.heap.size capL nb las) ∧ Below w.heap.size w w' := by
  have HL : Hid (OwnB w L capL las) := hL
  have HN : Hid (las.length = 512 * nb) := hl
  clear hL hl
  go_enter Try.func37, Try.ntmps37
  go_wp2_with (at_make; refine wp_makeI rfl _ _ rfl _ _ _ _ nb rfl rfl (by omega) (by omega) (by omega) ?_; intro w1 ho hb; have HO : Hid (w1.ownsRow 0 3 1 (.slice (some ⟨w.heap.size, 0, none⟩) nb nb) nb ((zs nb).map (Value.int .i64))) := ho; have HB : Hid (Below w.heap.size w w1) := hb; clear ho hb)
  go_ret
  have hs : w.heap.size < w1.heap.size := owns_block HO.out rfl
  have hA : Below w1.heap.size w1 (w1.alloc (.cells (newDk w1.heap.size L w.heap.size capL nb las).cells 75)) := (Below.refl _ _).alloc (Nat.le_refl _) _
  have hL2 := HL.out.below HB.out HL.out.lt
  have hlt := HL.out.lt
  exact ⟨_, rfl, Nat.le_of_lt hs, new_disk (heap_alloc_new _ _) (hL2.on hA) HN.out h0 h1 (owns_fr HO.out (below_fr hA (fun k => w1.heap.size ≤ k)) (fun k hk => by cases hk; exact Nat.not_le.2 hs)) (by omega) (by omega) (by omega), HB.out.trans (hA.mono HB.out.size)⟩
set_option maxRecDepth 100000 in
set_option maxHeartbeats 800000 in
theorem new_no (w : World) (n : Int) (h : isz n = false) : Calls Try.prog 16 #[.int .i64 n] w fun e w' => e = .returned (.tuple #[.pointer none, .int .i64 32]) ∧ w = w' := by
  have HS : Hid (isz n = false) := h
  clear h
  go_enter Try.func16, Try.ntmps16
  go_wp2_with (go_at_call 36; refine (isSize_any _ _).mono ?_; rintro e w' ⟨rfl, rfl⟩; rw [HS.out])
  go_ret2
  exact ⟨rfl, rfl⟩
set_option maxRecDepth 100000 in
set_option maxHeartbeats 800000 in
theorem new_yes (w : World) (nb : Nat) (h0 : 1 ≤ nb) (h1 : nb ≤ 16384) : Calls Try.prog 16 #[.int .i64 nb] w fun e w' => ∃ d nw L capL, e = .returned (.tuple #[.pointer (some ⟨d, 0, none⟩), .int .i64 0]) ∧ w.heap.size ≤ d ∧ w.heap.size ≤ nw ∧ w.heap.size ≤ L ∧ Disk w' (newDk d L nw capL nb (zs (512 * nb))) ∧ Below w.heap.size w w' := by
  have HS : Hid (isz nb = true) := by unfold isz; rw [decide_eq_true (by omega), decide_eq_true (by omega)]; rfl
  go_enter Try.func16, Try.ntmps16
  go_wp2_with (first
    | (go_at_call 36; refine (isSize_any _ _).mono ?_; rintro e w' ⟨rfl, rfl⟩; rw [HS.out])
    | (at_make; refine wp_makeB rfl _ _ rfl _ _ _ _ (512 * nb) rfl rfl (by omega) (by omega) (by omega) ?_; intro w1 ho hb; have HO : Hid (OwnB w1 w.heap.size (512 * nb) (zs (512 * nb))) := ho; have HB : Hid (Below w.heap.size w w1) := hb; clear ho hb)
    | (go_at_call 37; refine (over_any _ w.heap.size (512 * nb) nb (zs (512 * nb)) HO.out (zs_length _) h0 h1).mono ?_; rintro e w2 ⟨d, rfl, hd, hD, hb2⟩; have HD : Hid (w1.heap.size ≤ d ∧ Disk w2 (newDk d w.heap.size w1.heap.size (512 * nb) nb (zs (512 * nb))) ∧ Below w1.heap.size w1 w2) := ⟨hd, hD, hb2⟩; clear hd hD hb2))
  go_ret2
  have := HB.out.size
  exact ⟨_, _, _, _, rfl, Nat.le_trans HB.out.size HD.out.1, HB.out.size, Nat.le_refl _, HD.out.2.1, HB.out.trans (HD.out.2.2.mono HB.out.size)⟩
set_option maxRecDepth 100000 in
set_option maxHeartbeats 800000 in
theorem open_no (w : World) (a : Option Addr) (n c : Nat) (hn : n ≤ 9223372036854775807) (h : n % 512 ≠ 0 ∨ isz ((n / 512 : Nat) : Int) = false) : Calls Try.prog 25 #[.slice a n c] w fun e w' => e = .returned (.tuple #[.pointer none, .int .i64 32]) ∧ w = w' := by
  by_cases hm : n % 512 = 0
  · have HS : Hid (isz ((n : Int) / 512) = false) := by
      have e := h.resolve_left (fun x => x hm)
      rwa [Int.natCast_ediv] at e
    have hm' : (n : Int) % 512 = 0 := by omega
    clear h hm
    go_enter Try.func25, Try.ntmps25
    go_wp2_with (go_at_call 36; refine (isSize_any _ _).mono ?_; rintro e w' ⟨rfl, rfl⟩; rw [HS.out])
    go_ret2
    exact ⟨rfl, rfl⟩
  · have hm' : ¬ (n : Int) % 512 = 0 := by omega
    clear h
    go_enter Try.func25, Try.ntmps25
    go_wp2
    go_ret2
    exact ⟨rfl, rfl⟩
set_option maxRecDepth 100000 in
set_option maxHeartbeats 800000 in
theorem open_yes (w : World) (p : Addr) (c nb : Nat) (l : List Int) (hb : Bytes w (some p) l) (hn : l.length = 512 * nb) (h0 : 1 ≤ nb) (h1 : nb ≤ 16384) :
    Calls Try.prog 25 #[.slice (some p) (512 * nb : Nat) c] w fun e w' => ∃ d nw L capL, e = .returned (.tuple #[.pointer (some ⟨d, 0, none⟩), .int .i64 0]) ∧ w.heap.size ≤ d ∧ w.heap.size ≤ nw ∧ w.heap.size ≤ L ∧ Disk w' (newDk d L nw capL nb l) ∧ Below w.heap.size w w' := by
  have HS : Hid (isz nb = true) := by unfold isz; rw [decide_eq_true (by omega), decide_eq_true (by omega)]; rfl
  have HI : Hid (Bytes w (some p) l) := hb
  have HN : Hid (l.length = 512 * nb) := hn
  clear hb hn
  go_enter Try.func25, Try.ntmps25
  go_wp2_with (first
    | (go_at_call 36; refine (isSize_any _ _).mono ?_; rintro e w' ⟨rfl, rfl⟩; rw [show isz _ = true from HS.out])
    | (go_at_call 31; refine (clone_any _ p _ c l HI.out HN.out (by omega)).mono ?_; rintro e w1 ⟨g, cap, rfl, hg, ho, hb⟩; have HO : Hid (w.heap.size ≤ g ∧ OwnB w1 g cap l) := ⟨hg, ho⟩; have HB : Hid (Below w.heap.size w w1) := hb; clear hg ho hb)
    | (go_at_call 37; refine (over_any _ _ _ nb l HO.out.2 HN.out h0 h1).mono ?_; rintro e w2 ⟨d, rfl, hd, hD, hb2⟩; have HD : Hid (w1.heap.size ≤ d ∧ Disk w2 (newDk d _ w1.heap.size _ nb l) ∧ Below w1.heap.size w1 w2) := ⟨hd, hD, hb2⟩; clear hd hD hb2))
  go_ret2
  exact ⟨_, _, _, _, rfl, Nat.le_trans HB.out.size HD.out.1, HB.out.size, HO.out.1, HD.out.2.1, HB.out.trans (HD.out.2.2.mono HB.out.size)⟩
end Go.Proofs.Ytccocjipgbeaeab
