import Derived.Test.YtgmccpimpbnnpaaDoorKSpC
import Derived.OwnWalk
import Derived.Deep.OwnRows
import Derived.WalkSpells
import Derived.Lib.BufferMore
import Derived.Deep.DeepCutAuto
import Derived.Deep.RegionLaw
namespace Go.Proofs.YtgmccpimpbnnpaaDoor
open Go.RowKit Rec
structure It where
  b : Nat
  g : Nat
  cap : Nat
  x : List Int
def It.cells (p : It) : List Value := [.int .i64 p.b, .slice (some ⟨p.g, 0, none⟩) 512 p.cap]
structure Ac where
  kind : Int
  b : Int
  v : Value
  x : List Int
def Ac.cells (p : Ac) : List Value := [.int .i64 p.kind, .int .i64 p.b, p.v]
structure Dk where
  d : Nat
  L : Nat
  nw : Nat
  capL : Nat
  capN : Nat
  nb : Nat
  las : List Int
  pv : Value
  pen : List It
  tv : Value
  tap : List Ac
  wr : Nat
  fl : Nat
  at_ : Int
  kv : Value
  keep : List Bool
  down : Bool
def Dk.f (D : Dk) (k : Nat) : Nat := (D.pen.map It.b).getD k 0
def Dk.X (D : Dk) (k : Nat) : List Int := (D.pen.map It.x).getD k []
def Dk.has (D : Dk) (k : Nat) : Prop := k = D.d ∨ k = D.L ∨ k = D.nw ∨ D.pv.ownBlock = some k ∨ D.tv.ownBlock = some k
def Dk.cells (D : Dk) : Array Value := #[.slice (some ⟨D.L, 0, none⟩) (512 * D.nb) D.capL, D.pv, .slice (some ⟨D.nw, 0, none⟩) D.nb D.capN, D.tv, .int .i64 D.wr, .int .i64 D.fl, .int .i64 D.at_, D.kv, .bool D.down]
def Bools (w : World) (v : Value) (l : List Bool) : Prop := ∃ a c, v = .slice a l.length c ∧ (l = [] ∨ ∃ b off, a = some ⟨b, off, none⟩ ∧ ∀ i x, l[i]? = some x → w.cell? ⟨b, off + i, none⟩ = some (.bool x))
def AcOk (w : World) (D : Dk) (a : Ac) : Prop :=
  (a.kind = 1 ∧ 0 ≤ a.b ∧ a.b < D.nb ∧ a.x.length = 512 ∧ ∃ g cap, a.v = .slice (some ⟨g, 0, none⟩) 512 cap ∧ OwnB w g cap a.x ∧ ¬ D.has g) ∨ (a.kind = 2 ∧ a.b = 0 ∧ a.v = .slice none 0 0 ∧ a.x = [])
structure Apart (D : Dk) : Prop where
  dL : D.d ≠ D.L
  dn : D.d ≠ D.nw
  Ln : D.L ≠ D.nw
  p : ∀ k, D.pv.ownBlock = some k → k ≠ D.d ∧ k ≠ D.L ∧ k ≠ D.nw ∧ D.tv.ownBlock ≠ some k
  t : ∀ k, D.tv.ownBlock = some k → k ≠ D.d ∧ k ≠ D.L ∧ k ≠ D.nw ∧ D.pv.ownBlock ≠ some k
structure Disk (w : World) (D : Dk) : Prop where
  row : w.heap[D.d]? = some (.cells D.cells 123 (0, 0))
  las : OwnB w D.L D.capL D.las
  lasl : D.las.length = 512 * D.nb
  nb0 : 1 ≤ D.nb
  nb1 : D.nb ≤ 16384
  nws : w.ownsRow 0 3 1 (.slice (some ⟨D.nw, 0, none⟩) D.nb D.capN) D.nb ((newest D.f D.nb D.pen.length).map (Value.int .i64))
  pen : w.ownsRow 0 149 2 D.pv D.pen.length (D.pen.flatMap It.cells)
  penb : ∀ p ∈ D.pen, p.b < D.nb ∧ p.x.length = 512 ∧ OwnB w p.g p.cap p.x ∧ ¬ D.has p.g
  tap : w.ownsRow 0 178 3 D.tv D.tap.length (D.tap.flatMap Ac.cells)
  tapb : ∀ a ∈ D.tap, AcOk w D a
  kee : Bools w D.kv D.keep
  keb : ∀ k, D.kv.ownBlock = some k → ¬ D.has k
  kel : ∀ k, D.kv.ownBlock = some k → k < w.heap.size
  ap : Apart D
  dn : D.down = true → D.pen = []
  pl : D.pen.length ≤ 4294967296
  tl : D.tap.length ≤ 4294967296
  wrs : D.wr ≤ 4294967296
  fls : D.fl ≤ 4294967296
  at1 : D.at_ ≤ 9223372036854775807
theorem Disk.cell {w : World} {D : Dk} (h : Disk w D) (j : Nat) : w.cell? ⟨D.d, j, none⟩ = D.cells[j]? := cell_of_row _ _ _ _ _ _ h.row
theorem Disk.lt {w : World} {D : Dk} (h : Disk w D) : D.d < w.heap.size := heap_lt h.row
theorem Disk.hasLt {w : World} {D : Dk} (h : Disk w D) {k : Nat} (hk : D.has k) : k < w.heap.size := by
  rcases hk with rfl | rfl | rfl | hk | hk
  · exact heap_lt h.row
  · exact h.las.lt
  · exact owns_block h.nws rfl
  · exact owns_block h.pen hk
  · exact owns_block h.tap hk
theorem Bools.lt {w : World} {v : Value} {l : List Bool} (h : Bools w v l) (hl : l ≠ []) {k : Nat} (hk : v.ownBlock = some k) : k < w.heap.size := by
  obtain ⟨a, c, rfl, hb⟩ := h
  obtain ⟨b, off, rfl, hc⟩ := hb.resolve_left hl
  cases hk
  cases l with
  | nil => exact absurd rfl hl
  | cons x l => exact block_lt_of_cell (hc 0 x rfl)
theorem Bools.fr {S : Nat → Prop} {w w' : World} {v : Value} {l : List Bool} (h : Bools w v l) (x : Fr S w w') (hk : l ≠ [] → ∀ k, v.ownBlock = some k → ¬ S k) : Bools w' v l := by
  obtain ⟨a, c, rfl, hl⟩ := h
  refine ⟨a, c, rfl, ?_⟩
  rcases hl with rfl | ⟨b, off, rfl, hc⟩
  · exact .inl rfl
  · exact .inr ⟨b, off, rfl, fun i y hy => x.cell (hc i y hy) (hk (fun e => by rw [e] at hy; simp at hy) b rfl)⟩
theorem AcOk.fr {S : Nat → Prop} {w w' : World} {D : Dk} {a : Ac} (h : AcOk w D a) (x : Fr S w w') (hS : ∀ g cap, a.v = .slice (some ⟨g, 0, none⟩) 512 cap → ¬ S g) : AcOk w' D a := by
  rcases h with ⟨h1, h2, h3, h4, g, cap, h5, h6, h7⟩ | h
  · exact .inl ⟨h1, h2, h3, h4, g, cap, h5, h6.fr x (hS g cap h5), h7⟩
  · exact .inr h
def Dk.all (D : Dk) (k : Nat) : Prop := D.has k ∨ D.kv.ownBlock = some k ∨ (∃ p ∈ D.pen, p.g = k) ∨ (∃ a ∈ D.tap, a.v.ownBlock = some k)
theorem Disk.fr {S : Nat → Prop} {w w' : World} {D : Dk} (h : Disk w D) (x : Fr S w w') (hS : ∀ k, D.all k → ¬ S k) : Disk w' D where
  row := x.heap h.row (hS _ (.inl (.inl rfl)))
  las := h.las.fr x (hS _ (.inl (.inr (.inl rfl))))
  lasl := h.lasl
  nb0 := h.nb0
  nb1 := h.nb1
  nws := owns_fr h.nws x (fun k hk => by cases hk; exact hS _ (.inl (.inr (.inr (.inl rfl)))))
  pen := owns_fr h.pen x (fun k hk => hS _ (.inl (.inr (.inr (.inr (.inl hk))))))
  penb := fun p hp => ⟨(h.penb p hp).1, (h.penb p hp).2.1, (h.penb p hp).2.2.1.fr x (hS _ (.inr (.inr (.inl ⟨p, hp, rfl⟩)))), (h.penb p hp).2.2.2⟩
  tap := owns_fr h.tap x (fun k hk => hS _ (.inl (.inr (.inr (.inr (.inr hk))))))
  tapb := fun a ha => (h.tapb a ha).fr x (fun g cap hv => hS _ (.inr (.inr (.inr ⟨a, ha, by rw [hv]; rfl⟩))))
  kee := h.kee.fr x (fun _ k hk => hS _ (.inr (.inl hk)))
  keb := h.keb
  kel := fun k hk => Nat.lt_of_lt_of_le (h.kel k hk) x.size
  ap := h.ap
  dn := h.dn
  pl := h.pl
  tl := h.tl
  wrs := h.wrs
  fls := h.fls
  at1 := h.at1
theorem Disk.allLt {w : World} {D : Dk} (h : Disk w D) {k : Nat} (hk : D.all k) : k < w.heap.size := by
  rcases hk with hk | hk | ⟨p, hp, rfl⟩ | ⟨a, ha, hk⟩
  · exact h.hasLt hk
  · exact h.kel k hk
  · exact (h.penb p hp).2.2.1.lt
  · rcases h.tapb a ha with ⟨_, _, _, _, g, cap, h5, h6, _⟩ | ⟨_, _, h5, _⟩
    · rw [h5] at hk; cases hk; exact h6.lt
    · rw [h5] at hk; cases hk
theorem Disk.on {w w' : World} {D : Dk} (h : Disk w D) (x : Below w.heap.size w w') : Disk w' D :=
  h.fr (below_fr x (fun k => w.heap.size ≤ k)) (fun _ hk => Nat.not_le.2 (h.allLt hk))
end Go.Proofs.YtgmccpimpbnnpaaDoor

namespace Go.Proofs.YtgmccpimpbnnpaaDoor
open Go.RowKit Rec
def zsA (m : Nat) : List Int := List.replicate m 0
end Go.Proofs.YtgmccpimpbnnpaaDoor

namespace Go.Proofs.YtgmccpimpbnnpaaDoor
open Go.RowKit Rec
set_option maxRecDepth 100000 in
set_option maxHeartbeats 800000 in
theorem bclone_any (w : World) (p : Addr) (n c : Nat) (l : List Int) (hb : Bytes w (some p) l) (hn : l.length = n) (h47 : n ≤ 140737488355328) :
    Calls Tryd.prog 37 #[.slice (some p) n c] w fun e w' => ∃ g cap, e = .returned (.slice (some ⟨g, 0, none⟩) n cap) ∧ w.heap.size ≤ g ∧ OwnB w' g cap l ∧ Below w.heap.size w w' := by
  have HB : Hid (Bytes w (some p) l) := hb
  have HN : Hid (l.length = n) := hn
  clear hb hn
  go_enter Tryd.func37, Tryd.ntmps37
  have E1 : ∀ w : World, (binOp .eql 52 (.slice (some p) n c) (.slice none 0 0)).run Tryd.prog w = .ok (.bool false) w := fun w => Go.Lib.run_eql_slice_some_nil w p n c Tryd.underlying52
  have HA : Hid (Below w.heap.size w (w.alloc (.cells #[] 5))) := (Below.refl _ _).alloc (Nat.le_refl _) _
  have HE : Hid (OwnB (w.alloc (.cells #[] 5)) w.heap.size 0 []) := own_empty (heap_alloc_new _ _)
  go_wp2_with (at_builtin; refine wp_app rfl (.tmp 5) (.tmp 6) rfl w.heap.size w.heap.size 0 0 [] l rfl rfl HE.out (Nat.le_refl _) HA.out.size (some p) n c rfl HN.out (HB.out.on HA.out) (fun h => by cases h) (by omega) ?_; intro g cap w2 hg ho hgr; have HG : Hid (w.heap.size ≤ g ∧ OwnB w2 g cap l ∧ Below w.heap.size w w2) := ⟨hg, ho, HA.out.grown hgr HA.out.size (by intro k hk; cases hk; exact Nat.le_refl _)⟩; clear hg ho hgr)
  go_ret
  exact ⟨_, _, rfl, HG.out.1, HG.out.2.1, HG.out.2.2⟩
def isz (n : Int) : Bool := decide (1 ≤ n) && decide (n ≤ 16384)
set_option maxRecDepth 100000 in
set_option maxHeartbeats 800000 in
theorem isSize_any (w : World) (n : Int) : Calls Tryd.prog 35 #[.int .i64 n] w fun e w' => e = .returned (.bool (isz n)) ∧ w = w' := by
  go_enter Tryd.func35, Tryd.ntmps35
  unfold isz
  by_cases h1 : 1 ≤ n
  · by_cases h2 : n ≤ 16384
    · go_wp2
      go_ret
      exact ⟨by simp [h2]; omega, rfl⟩
    · go_wp2
      go_ret
      exact ⟨by simp; omega, rfl⟩
  · go_wp2
    go_ret
    exact ⟨by simp; omega, rfl⟩
def newDk (d L nw capL nb : Nat) (las : List Int) : Dk := { d := d, L := L, nw := nw, capL := capL, capN := nb, nb := nb, las := las, pv := .slice none 0 0, pen := [], tv := .slice none 0 0, tap := [], wr := 0, fl := 0, at_ := 0, kv := .slice none 0 0, keep := [], down := false }
theorem new_disk {w : World} {d L nw capL nb : Nat} {las : List Int} (hd : w.heap[d]? = some (.cells (newDk d L nw capL nb las).cells 123 (0, 0))) (hL : OwnB w L capL las) (hl : las.length = 512 * nb) (h0 : 1 ≤ nb) (h1 : nb ≤ 16384)
    (hn : w.ownsRow 0 3 1 (.slice (some ⟨nw, 0, none⟩) nb nb) nb ((zsA nb).map (Value.int .i64))) (a1 : d ≠ L) (a2 : d ≠ nw) (a3 : L ≠ nw) : Disk w (newDk d L nw capL nb las) where
  row := hd
  las := hL
  lasl := hl
  nb0 := h0
  nb1 := h1
  nws := by
    have e : newest (newDk d L nw capL nb las).f nb 0 = zsA nb := newest_zero _ _
    show w.ownsRow 0 3 1 (.slice (some ⟨nw, 0, none⟩) nb nb) nb ((newest (newDk d L nw capL nb las).f nb 0).map (Value.int .i64))
    rw [e]; exact hn
  pen := ⟨rfl, .inl ⟨rfl, rfl⟩⟩
  penb := fun p hp => by cases hp
  tap := ⟨rfl, .inl ⟨rfl, rfl⟩⟩
  tapb := fun p hp => by cases hp
  kee := ⟨none, 0, rfl, .inl rfl⟩
  keb := fun k hk => by cases hk
  kel := fun k hk => by cases hk
  ap := ⟨a1, a2, a3, (fun k hk => by cases hk), (fun k hk => by cases hk)⟩
  dn := fun _ => rfl
  pl := by show 0 ≤ _; omega
  tl := by show 0 ≤ _; omega
  wrs := by show 0 ≤ _; omega
  fls := by show 0 ≤ _; omega
  at1 := by show (0 : Int) ≤ _; omega
set_option maxRecDepth 100000 in
set_option maxHeartbeats 800000 in
theorem over_any (w : World) (L capL nb : Nat) (las : List Int) (hL : OwnB w L capL las) (hl : las.length = 512 * nb) (h0 : 1 ≤ nb) (h1 : nb ≤ 16384) :
    Calls Tryd.prog 36 #[.slice (some ⟨L, 0, none⟩) (512 * nb : Nat) capL] w fun e w' => ∃ d, e = .returned (.pointer (some ⟨d, 0, none⟩)) ∧ w.heap.size ≤ d ∧ Disk w' (newDk d L w.heap.size capL nb las) ∧ Below w.heap.size w w' := by
  have HL : Hid (OwnB w L capL las) := hL
  have HN : Hid (las.length = 512 * nb) := hl
  clear hL hl
  go_enter Tryd.func36, Tryd.ntmps36
  go_wp2_with (at_make; refine wp_makeI rfl _ _ rfl _ _ _ _ nb rfl rfl (by omega) (by omega) (by omega) ?_; intro w1 ho hb; have HO : Hid (w1.ownsRow 0 3 1 (.slice (some ⟨w.heap.size, 0, none⟩) nb nb) nb ((zsA nb).map (Value.int .i64))) := ho; have HB : Hid (Below w.heap.size w w1) := hb; clear ho hb)
  go_ret
  have hs : w.heap.size < w1.heap.size := owns_block HO.out rfl
  have hA : Below w1.heap.size w1 (w1.alloc (.cells (newDk w1.heap.size L w.heap.size capL nb las).cells 123)) := (Below.refl _ _).alloc (Nat.le_refl _) _
  have hL2 := HL.out.below HB.out HL.out.lt
  have hlt := HL.out.lt
  exact ⟨_, rfl, Nat.le_of_lt hs, new_disk (heap_alloc_new _ _) (hL2.on hA) HN.out h0 h1 (owns_fr HO.out (below_fr hA (fun k => w1.heap.size ≤ k)) (fun k hk => by cases hk; exact Nat.not_le.2 hs)) (by omega) (by omega) (by omega), HB.out.trans (hA.mono HB.out.size)⟩
set_option maxRecDepth 100000 in
set_option maxHeartbeats 800000 in
theorem open_yes (w : World) (p : Addr) (c nb : Nat) (l : List Int) (hb : Bytes w (some p) l) (hn : l.length = 512 * nb) (h0 : 1 ≤ nb) (h1 : nb ≤ 16384) :
    Calls Tryd.prog 13 #[.slice (some p) (512 * nb : Nat) c] w fun e w' => ∃ d nw L capL, e = .returned (.tuple #[.pointer (some ⟨d, 0, none⟩), .int .i64 0]) ∧ w.heap.size ≤ d ∧ w.heap.size ≤ nw ∧ w.heap.size ≤ L ∧ Disk w' (newDk d L nw capL nb l) ∧ Below w.heap.size w w' := by
  have HS : Hid (isz nb = true) := by unfold isz; rw [decide_eq_true (by omega), decide_eq_true (by omega)]; rfl
  have HI : Hid (Bytes w (some p) l) := hb
  have HN : Hid (l.length = 512 * nb) := hn
  clear hb hn
  go_enter Tryd.func13, Tryd.ntmps13
  go_wp2_with (first
    | (go_at_call 35; refine (isSize_any _ _).mono ?_; rintro e w' ⟨rfl, rfl⟩; rw [show isz _ = true from HS.out])
    | (go_at_call 37; refine (bclone_any _ p _ c l HI.out HN.out (by omega)).mono ?_; rintro e w1 ⟨g, cap, rfl, hg, ho, hb⟩; have HO : Hid (w.heap.size ≤ g ∧ OwnB w1 g cap l) := ⟨hg, ho⟩; have HB : Hid (Below w.heap.size w w1) := hb; clear hg ho hb)
    | (go_at_call 36; refine (over_any _ _ _ nb l HO.out.2 HN.out h0 h1).mono ?_; rintro e w2 ⟨d, rfl, hd, hD, hb2⟩; have HD : Hid (w1.heap.size ≤ d ∧ Disk w2 (newDk d _ w1.heap.size _ nb l) ∧ Below w1.heap.size w1 w2) := ⟨hd, hD, hb2⟩; clear hd hD hb2))
  go_ret2
  exact ⟨_, _, _, _, rfl, Nat.le_trans HB.out.size HD.out.1, HB.out.size, HO.out.1, HD.out.2.1, HB.out.trans (HD.out.2.2.mono HB.out.size)⟩
end Go.Proofs.YtgmccpimpbnnpaaDoor

namespace Go.Proofs.YtgmccpimpbnnpaaDoor
open Go.RowKit Rec
theorem owns_slice {w : World} {B e size n : Nat} {v : Value} {xs : List Value} (h : w.ownsRow B e size v n xs) : ∃ a c, v = .slice a n c ∧ n ≤ c ∧ (n = 0 ∨ ∃ g, a = some ⟨g, 0, none⟩) ∧ ∀ g o, a = some ⟨g, o, none⟩ → o = 0 ∧ (∀ j u, xs[j]? = some u → w.cell? ⟨g, j, none⟩ = some u) ∧ (∀ j, w.frozen? ⟨g, j, none⟩ = false) := by
  rcases h.2 with ⟨rfl, rfl⟩ | ⟨g, cap, cur, rfl, h1, hg, h2, h3, h4, h5⟩
  · exact ⟨none, 0, rfl, Nat.le_refl _, .inl rfl, fun g o hh => by cases hh⟩
  · refine ⟨_, _, rfl, h2, .inr ⟨g, rfl⟩, fun g' o hh => ?_⟩
    cases hh
    refine ⟨rfl, fun j u hj => ?_, fun j => frozen_of_row _ _ _ _ _ hg⟩
    have := h.cells (g := g) rfl j u hj
    rwa [Addr.add_lit, Nat.zero_add] at this
theorem flat2 (f : It → List Value) (l : List It) (k : Nat) (hk : k < l.length) (j : Nat) (hj : j < 2) (hf : ∀ p, (f p).length = 2 := by intro p; rfl) : (l.flatMap f)[k * 2 + j]? = (f l[k])[j]? := by
  induction l generalizing k with
  | nil => simp at hk
  | cons p l ih =>
    rw [List.flatMap_cons]
    cases k with
    | zero => rw [List.getElem?_append_left (by rw [hf]; omega)]; simp
    | succ k =>
      rw [List.getElem?_append_right (by rw [hf]; omega), hf, show (k + 1) * 2 + j - 2 = k * 2 + j by omega, ih k (by simpa using hk)]; rfl
theorem OwnB.sub {w : World} {g cap : Nat} {l : List Int} (h : OwnB w g cap l) (o n : Nat) (hn : o + n ≤ l.length) : Bytes w (some ⟨g, o, none⟩) ((l.drop o).take n) := by
  refine ⟨by have := h.len; rw [List.length_take, List.length_drop]; omega, wf_take (wf_drop h.wf o) n, .inr ⟨g, o, rfl, fun i hi => ?_⟩⟩
  rw [List.length_take] at hi
  rw [nth_take _ _ _ (by omega), nth_drop, h.cell (o + i) (by omega)]
set_option maxRecDepth 100000 in
set_option maxHeartbeats 800000 in
theorem blocks_any (w : World) (D : Dk) (h : Disk w D) : Calls Tryd.prog 82 #[.pointer (some ⟨D.d, 0, none⟩)] w fun e w' => e = .returned (.int .i64 D.nb) ∧ w = w' := by
  have C2 : w.cell? ⟨D.d, 2, none⟩ = some (.slice (some ⟨D.nw, 0, none⟩) D.nb D.capN) := h.cell 2
  have hb := h.nb1
  clear h
  go_enter Tryd.func82, Tryd.ntmps82
  go_wp2
  go_ret
  exact ⟨rfl, rfl⟩
set_option maxRecDepth 100000 in
set_option maxHeartbeats 800000 in
theorem dblock_min (w : World) (d L nb capL : Nat) (C0 : w.cell? ⟨d, 0, none⟩ = some (.slice (some ⟨L, 0, none⟩) (512 * nb) capL)) (hb : nb ≤ 16384) (hr : 512 * nb ≤ capL) (i : Nat) (hi : i < nb) : Calls Tryd.prog 84 #[.pointer (some ⟨d, 0, none⟩), .int .i64 i] w fun e w' => e = .returned (.slice (some ⟨L, 512 * i, none⟩) 512 (capL - 512 * i)) ∧ w = w' := by
  go_enter Tryd.func84, Tryd.ntmps84
  go_wp2
  go_ret
  refine ⟨?_, rfl⟩
  show Ending.returned (Value.slice (some ⟨L, i * 512, none⟩) ((i + 1) * 512 - i * 512) (capL - i * 512)) = _
  rw [show (i + 1) * 512 - i * 512 = 512 by omega, Nat.mul_comm i 512]
theorem dblock_any (w : World) (D : Dk) (h : Disk w D) (i : Nat) (hi : i < D.nb) : Calls Tryd.prog 84 #[.pointer (some ⟨D.d, 0, none⟩), .int .i64 i] w fun e w' => e = .returned (.slice (some ⟨D.L, 512 * i, none⟩) 512 (D.capL - 512 * i)) ∧ w = w' :=
  dblock_min w D.d D.L D.nb D.capL (h.cell 0) h.nb1 (by have := h.las.room; rw [h.lasl] at this; exact this) i hi
def touchE (D : Dk) (i : Int) : Int := if D.down then 30 else if 0 ≤ i ∧ i < D.nb then 0 else 31
set_option maxRecDepth 100000 in
set_option maxHeartbeats 800000 in
theorem touch_any (w : World) (D : Dk) (h : Disk w D) (i : Int) : Calls Tryd.prog 83 #[.pointer (some ⟨D.d, 0, none⟩), .int .i64 i] w fun e w' => e = .returned (.int .i64 (touchE D i)) ∧ w = w' := by
  have C8 : w.cell? ⟨D.d, 8, none⟩ = some (.bool D.down) := h.cell 8
  have HD : Hid (Disk w D) := h
  clear h
  go_enter Tryd.func83, Tryd.ntmps83
  unfold touchE
  cases hd : D.down with
  | true =>
    rw [hd] at C8
    go_wp2
    go_ret
    exact ⟨rfl, rfl⟩
  | false =>
    rw [hd] at C8
    by_cases h1 : i < 0
    · go_wp2
      go_ret
      exact ⟨rfl, rfl⟩
    · by_cases h2 : i < D.nb
      · go_wp2_with (go_at_call 82; refine (blocks_any _ D HD.out).mono ?_; rintro e w' ⟨rfl, rfl⟩)
        go_ret
        exact ⟨rfl, rfl⟩
      · go_wp2_with (go_at_call 82; refine (blocks_any _ D HD.out).mono ?_; rintro e w' ⟨rfl, rfl⟩)
        go_ret
        exact ⟨rfl, rfl⟩
def Dk.full (D : Dk) : List Int := lay (fun _ => true) D.f D.X D.las D.pen.length
theorem Dk.full_length (D : Dk) : D.full.length = D.las.length := lay_length _ _ _ _ _
theorem blk_length {l : List Int} {n i : Nat} (h : l.length = 512 * n) (hi : i < n) : (bck l i).length = 512 := by
  rw [bck, List.length_take, List.length_drop]; omega
theorem nth_blk {l : List Int} {n i : Nat} (_ : l.length = 512 * n) (_ : i < n) (j : Nat) (hj : j < 512) : nth (bck l i) j = nth l (512 * i + j) := by
  rw [bck, nth_take _ _ _ hj, nth_drop]
theorem penX (D : Dk) (k : Nat) (hk : k < D.pen.length) : ∃ p, D.pen[k]? = some p ∧ p ∈ D.pen ∧ D.f k = p.b ∧ D.X k = p.x ∧ (D.pen.flatMap It.cells)[k * 2]? = some (.int .i64 p.b) ∧ (D.pen.flatMap It.cells)[k * 2 + 1]? = some (.slice (some ⟨p.g, 0, none⟩) 512 p.cap) := by
  refine ⟨D.pen[k], by simp [hk], List.getElem_mem hk, by simp [Dk.f, List.getD, hk], by simp [Dk.X, List.getD, hk], ?_, ?_⟩
  · exact flat2 _ D.pen k hk 0 (by omega)
  · exact flat2 _ D.pen k hk 1 (by omega)
theorem fullBlk {w : World} {D : Dk} (h : Disk w D) (i : Nat) (hi : i < D.nb) : bck D.full i = if lst D.f i D.pen.length = 0 then bck D.las i else D.X (lst D.f i D.pen.length - 1) := by
  have hf : D.full.length = 512 * D.nb := by rw [Dk.full_length, h.lasl]
  have e1 := blk_length hf hi
  have e2 := blk_length h.lasl hi
  have hle := lst_le D.f i D.pen.length
  by_cases h0 : lst D.f i D.pen.length = 0
  · rw [if_pos h0]
    refine ext_nth (by rw [e1, e2]) fun j hj => ?_
    rw [e1] at hj
    rw [nth_blk hf hi j hj, nth_blk h.lasl hi j hj, Dk.full, nth_lay_all _ _ _ _ _ (by rw [h.lasl]; omega), show (512 * i + j) / 512 = i by omega, if_pos h0]
  · rw [if_neg h0]
    obtain ⟨p, _, hp, _, hx, _, _⟩ := penX D (lst D.f i D.pen.length - 1) (by omega)
    have e3 := (h.penb p hp).2.1
    refine ext_nth (by rw [e1, hx, e3]) fun j hj => ?_
    rw [e1] at hj
    rw [nth_blk hf hi j hj, Dk.full, nth_lay_all _ _ _ _ _ (by rw [h.lasl]; omega), show (512 * i + j) / 512 = i by omega, if_neg h0, show (512 * i + j) % 512 = j by omega]
set_option maxRecDepth 100000 in
set_option maxHeartbeats 800000 in
theorem read_yes (w : World) (D : Dk) (h : Disk w D) (i : Nat) (hi : i < D.nb) (hd : D.down = false) : Calls Tryd.prog 67 #[.pointer (some ⟨D.d, 0, none⟩), .int .i64 i] w fun e w' => ∃ g cap, e = .returned (.tuple #[.slice (some ⟨g, 0, none⟩) 512 cap, .int .i64 0]) ∧ w.heap.size ≤ g ∧ OwnB w' g cap (bck D.full i) ∧ Below w.heap.size w w' := by
  have HD : Hid (Disk w D) := h
  have HT : Hid (touchE D i = 0) := by unfold touchE; rw [hd, if_neg (by decide), if_pos (by omega)]; exact rfl
  have C2 : w.cell? ⟨D.d, 2, none⟩ = some (.slice (some ⟨D.nw, 0, none⟩) D.nb D.capN) := h.cell 2
  have C1 : w.cell? ⟨D.d, 1, none⟩ = some D.pv := h.cell 1
  have hb := h.nb1
  have HF := fullBlk h i hi
  have hle := lst_le D.f i D.pen.length
  have hN : w.cell? ⟨D.nw, i, none⟩ = some (.int .i64 (lst D.f i D.pen.length)) := by
    have e := h.nws.cells (g := D.nw) rfl i (.int .i64 (lst D.f i D.pen.length)) (by simp [newest, hi])
    rwa [Addr.add_lit, Nat.zero_add] at e
  have hpl := h.pl
  by_cases h0 : lst D.f i D.pen.length = 0
  · rw [h0] at hN
    rw [if_pos h0] at HF
    have HL : Hid (Bytes w (some ⟨D.L, 512 * i, none⟩) (bck D.las i)) := h.las.sub (512 * i) 512 (by rw [h.lasl]; omega)
    have HN : Hid ((bck D.las i).length = 512) := blk_length h.lasl hi
    have HF' : Hid (bck D.full i = bck D.las i) := HF
    clear h HF h0 hle
    go_enter Tryd.func67, Tryd.ntmps67
    go_wp2_with (first
      | (go_at_call 83; refine (touch_any _ D HD.out i).mono ?_; rintro e w' ⟨rfl, rfl⟩; rw [HT.out])
      | (go_at_call 84; refine (dblock_any _ D HD.out i hi).mono ?_; rintro e w' ⟨rfl, rfl⟩)
      | (go_at_call 37; refine (bclone_any _ _ _ _ _ HL.out HN.out (by omega)).mono ?_; rintro e w1 ⟨g, cap, rfl, hg, ho, hb⟩; have HG : Hid (w.heap.size ≤ g ∧ OwnB w1 g cap (bck D.las i) ∧ Below w.heap.size w w1) := ⟨hg, ho, hb⟩; clear hg ho hb))
    go_ret2
    rw [HF'.out]
    exact ⟨_, _, rfl, HG.out⟩
  · obtain ⟨p, _, hp, _, hx, c1, c2⟩ := penX D (lst D.f i D.pen.length - 1) (by omega)
    obtain ⟨a, c, hv, hc, hg, hcc⟩ := owns_slice h.pen
    obtain ⟨g, rfl⟩ := hg.resolve_left (by omega)
    have c2' := (hcc g 0 rfl).2.1 _ _ c2
    rw [hv] at C1
    rw [if_neg h0, hx] at HF
    have HF' : Hid (bck D.full i = p.x) := HF
    have HL : Hid (Bytes w (some ⟨p.g, 0, none⟩) p.x) := (h.penb p hp).2.2.1.bytes
    have HN : Hid (p.x.length = 512) := (h.penb p hp).2.1
    clear h HF hcc c1 c2 hx hp
    generalize lst D.f i D.pen.length = k at *
    obtain ⟨m, rfl⟩ : ∃ m, k = m + 1 := ⟨k - 1, by omega⟩
    simp only [Nat.add_sub_cancel] at c2'
    go_enter Tryd.func67, Tryd.ntmps67
    go_wp2_with (first
      | (go_at_call 83; refine (touch_any _ D HD.out i).mono ?_; rintro e w' ⟨rfl, rfl⟩; rw [HT.out])
      | (go_at_call 37; refine (bclone_any _ _ _ _ _ HL.out HN.out (by omega)).mono ?_; rintro e w1 ⟨g, cap, rfl, hg, ho, hb⟩; have HG : Hid (w.heap.size ≤ g ∧ OwnB w1 g cap p.x ∧ Below w.heap.size w w1) := ⟨hg, ho, hb⟩; clear hg ho hb))
    go_ret2
    rw [HF'.out]
    exact ⟨_, _, rfl, HG.out⟩
end Go.Proofs.YtgmccpimpbnnpaaDoor

namespace Go.Proofs.YtgmccpimpbnnpaaDoor
open Go.RowKit Rec
theorem sizeU8 : (Tryd.prog.info? 5).map (·.size) = some 1 := by kernel_rfl
theorem copyB_run {w : World} {g cap off dLen dCap : Nat} {l : List Int} (ty : TypeId) (ad : Addr) (sLen sCap : Nat) (m : List Int) (hO : OwnB w g cap l) (hb : Bytes w (some ad) m) (hm : m.length = sLen) (hle : sLen ≤ dLen) (hfit : off + sLen ≤ l.length) :
    ∃ w', (Builtin.copy_ #[52, 52] ty #[.slice (some ⟨g, off, none⟩) dLen dCap, .slice (some ad) sLen sCap]).run Tryd.prog w = .ok (.int .i64 sLen) w' ∧ OwnB w' g cap (ov l off sLen (nth m)) ∧ Fr (fun k => k = g) w w' := by
  obtain ⟨cur, h1, h2, h3⟩ := hO.row
  have hr := hO.room
  have hlen : (m.map (Value.int .u8)).length = Nat.min sLen dLen := by
    rw [List.length_map, hm]; exact (Nat.min_eq_left hle).symm
  have hrun := run_copy_row (P := Tryd.prog) w 52 52 ty 5 g off dLen dCap ad sLen sCap cur 5 (m.map (Value.int .u8)) Tryd.underlying52 sizeU8 h1 hlen hb.news (by rw [List.length_map, hm]; omega) (cells_u8 m)
  refine ⟨_, by rw [hrun, List.length_map, hm]; rfl, ⟨⟨_, setRow_heap w g _ _ _ _ h1, ?_, ?_⟩, by rw [ov_length]; exact hO.len, by rw [ov_length]; exact hr, hO.top, fun i => wf_ov _ _ _ _ hO.wf (fun j _ => hb.wf j) i⟩, ⟨rfl, rfl, rfl, by simp [World.setRow], fun k _ hk => setRow_other w g k _ hk⟩⟩
  · rw [← Array.length_toList] at h2
    simp only [List.size_toArray, List.length_append, List.length_take, List.length_drop, List.length_map]; omega
  · rw [← Array.length_toList] at h2
    have hcut : cur.toList = l.map (Value.int .u8) ++ cur.toList.drop l.length := by rw [← h3, List.take_append_drop]
    rw [ov_length]
    show List.take l.length (cur.toList.take off ++ m.map (Value.int .u8) ++ cur.toList.drop (off + sLen)) = _
    apply List.ext_getElem?
    intro i
    by_cases hi : i < l.length
    · rw [List.getElem?_take_of_lt hi, nth_cellL _ _ (by rw [ov_length]; exact hi), nth_ov _ _ _ _ _ hi]
      have hci : cur.toList[i]? = some (.int .u8 (nth l i)) := by
        rw [← nth_cellL l i hi, ← h3, List.getElem?_take_of_lt hi]
      by_cases h4 : i < off
      · rw [if_neg (by omega), List.append_assoc, List.getElem?_append_left (by rw [List.length_take]; omega), List.getElem?_take_of_lt h4]; exact hci
      · by_cases h5 : i < off + sLen
        · rw [if_pos (by omega), List.getElem?_append_left (by rw [List.length_append, List.length_take, List.length_map]; omega), List.getElem?_append_right (by rw [List.length_take]; omega), List.length_take, show i - min off cur.toList.length = i - off by omega, nth_cellL _ _ (by omega)]
        · rw [if_neg (by omega), List.getElem?_append_right (by rw [List.length_append, List.length_take, List.length_map]; omega), List.getElem?_drop, List.length_append, List.length_take, List.length_map, show off + sLen + (i - (min off cur.toList.length + m.length)) = i by omega]; exact hci
    · rw [List.getElem?_eq_none (by rw [List.length_take]; omega), List.getElem?_eq_none (by rw [List.length_map, ov_length]; omega)]
def kpOf (keep : List Bool) (k : Nat) : Bool := keep.getD k false
end Go.Proofs.YtgmccpimpbnnpaaDoor

namespace Go.Proofs.YtgmccpimpbnnpaaDoor
open Go.RowKit Rec
def pv0 : Value → Value
  | .slice a _ c => .slice a 0 c
  | v => v
def Dk.settled (D : Dk) (kp : Nat → Bool) : Dk := { D with las := lay kp D.f D.X D.las D.pen.length, pv := pv0 D.pv, pen := [] }
structure Mid (w wr : World) (D : Dk) (kp : Nat → Bool) (j k : Nat) : Prop where
  las : OwnB wr D.L D.capL (lay kp D.f D.X D.las j)
  nws : wr.ownsRow 0 3 1 (.slice (some ⟨D.nw, 0, none⟩) D.nb D.capN) D.nb ((nz D.f (newest D.f D.nb D.pen.length) k).map (Value.int .i64))
  fr : Fr (fun j => j = D.L ∨ j = D.nw) w wr
theorem Mid.start {w : World} {D : Dk} (h : Disk w D) (kp : Nat → Bool) : Mid w w D kp 0 0 := ⟨h.las, h.nws, Fr.refl _ _⟩
theorem Mid.has {w wr : World} {D : Dk} {kp : Nat → Bool} {j k : Nat} (m : Mid w wr D kp j k) : Fr D.has w wr := m.fr.mono (fun _ hj => hj.elim (fun e => .inr (.inl e)) (fun e => .inr (.inr (.inl e))))
theorem Mid.row {w wr : World} {D : Dk} {kp : Nat → Bool} {j k : Nat} (m : Mid w wr D kp j k) (h : Disk w D) : wr.heap[D.d]? = some (.cells D.cells 123 (0, 0)) :=
  m.fr.heap h.row (fun e => e.elim h.ap.dL h.ap.dn)
theorem Mid.pen {w wr : World} {D : Dk} {kp : Nat → Bool} {j k : Nat} (m : Mid w wr D kp j k) (h : Disk w D) : wr.ownsRow 0 149 2 D.pv D.pen.length (D.pen.flatMap It.cells) :=
  owns_fr h.pen m.fr (fun j hj e => by have := h.ap.p j hj; exact e.elim this.2.1 this.2.2.1)
theorem Mid.on {w wr wa : World} {D : Dk} {kp : Nat → Bool} {j k : Nat} (m : Mid w wr D kp j k) (x : Below wr.heap.size wr wa) : Mid w wa D kp j k :=
  ⟨m.las.on x, owns_fr m.nws (below_fr x (fun j => wr.heap.size ≤ j)) (fun j hj => by cases hj; exact Nat.not_le.2 (owns_block m.nws rfl)), m.fr.trans (below_fr x (fun j => wr.heap.size ≤ j)) (fun j hj => .inr (Nat.le_trans m.fr.size hj))⟩
theorem Mid.laid {w wa wx w3 : World} {D : Dk} {kp : Nat → Bool} {k : Nat} {p : It} (m : Mid w wa D kp k k) (hk : kp k = true) (hf : D.f k = p.b) (hX : D.X k = p.x) (hx : Below wa.heap.size wa wx) (ho : OwnB w3 D.L D.capL (ov (lay kp D.f D.X D.las k) (512 * p.b) 512 (nth p.x))) (f3 : Fr (fun k => k = D.L) wx w3) (h : Disk w D) : Mid w w3 D kp (k + 1) k := by
  have mx := m.on hx
  refine ⟨?_, owns_fr mx.nws f3 (fun j hj e => by cases hj; exact h.ap.Ln e.symm), mx.fr.trans f3 (fun j e => .inl (.inl e))⟩
  rw [lay, if_pos hk, hf, hX]; exact ho
theorem Mid.left {w wa : World} {D : Dk} {kp : Nat → Bool} {k : Nat} (m : Mid w wa D kp k k) (hk : kp k = false) : Mid w wa D kp (k + 1) k := by
  refine ⟨?_, m.nws, m.fr⟩
  rw [lay, if_neg (by rw [hk]; decide)]; exact m.las
end Go.Proofs.YtgmccpimpbnnpaaDoor

namespace Go.Proofs.YtgmccpimpbnnpaaDoor
open Go.RowKit Rec
end Go.Proofs.YtgmccpimpbnnpaaDoor

namespace Go.Proofs.YtgmccpimpbnnpaaDoor
open Go.RowKit Rec
def Dk.cut (D : Dk) (kp : Nat → Bool) : Dk := { D.settled kp with down := true }
structure Mv (w : World) (D : Dk) (w' : World) (D' : Dk) : Prop where
  fr : Fr D.has w w'
  has : ∀ k, D'.has k → D.has k ∨ w.heap.size ≤ k
  d : D'.d = D.d
  nb : D'.nb = D.nb
theorem Mv.trans {w w' w'' : World} {D D' D'' : Dk} (x : Mv w D w' D') (y : Mv w' D' w'' D'') : Mv w D w'' D'' :=
  ⟨x.fr.trans y.fr x.has, fun k hk => (y.has k hk).elim (x.has k) (fun h => .inr (Nat.le_trans x.fr.size h)), y.d.trans x.d, y.nb.trans x.nb⟩
theorem Mv.refl (w : World) (D : Dk) : Mv w D w D := ⟨Fr.refl _ _, fun _ h => .inl h, rfl, rfl⟩
theorem Mv.below {w w' : World} {D D' : Dk} (x : Mv w D w' D') (B : Nat) (hB : B ≤ w.heap.size) (h : ∀ k, D.has k → B ≤ k) : Below B w w' ∧ ∀ k, D'.has k → B ≤ k :=
  ⟨x.fr.below B h hB, fun k hk => (x.has k hk).elim (h k) (fun h2 => Nat.le_trans hB h2)⟩
theorem mv_on (w w' : World) (D : Dk) (x : Below w.heap.size w w') : Mv w D w' D := ⟨below_fr x _, fun _ h => .inl h, rfl, rfl⟩
theorem Disk.frozen {w : World} {D : Dk} (h : Disk w D) (j : Nat) : w.frozen? ⟨D.d, j, none⟩ = false := frozen_of_row _ _ _ _ _ h.row
def Dk.goes (D : Dk) : Bool := decide (D.at_ = 1)
end Go.Proofs.YtgmccpimpbnnpaaDoor

namespace Go.Proofs.YtgmccpimpbnnpaaDoor
open Go.RowKit Rec
def Dk.act (D : Dk) (gt capt : Nat) (a : Ac) : Dk := { D with tv := .slice (some ⟨gt, 0, none⟩) (D.tap.length + 1) capt, tap := D.tap ++ [a] }
end Go.Proofs.YtgmccpimpbnnpaaDoor

namespace Go.Proofs.YtgmccpimpbnnpaaDoor
open Go.RowKit Rec
end Go.Proofs.YtgmccpimpbnnpaaDoor

namespace Go.Proofs.YtgmccpimpbnnpaaDoor
open Go.RowKit Rec
structure AD where
  nb : Nat
  las : List Int
  P : List (Nat × List Int)
  T : List (Int × Int × List Int)
  wr : Nat
  fl : Nat
  at_ : Int
  keep : List Bool
  down : Bool
def AD.f (a : AD) (k : Nat) : Nat := (a.P.getD k (0, [])).1
def AD.X (a : AD) (k : Nat) : List Int := (a.P.getD k (0, [])).2
def AD.full (a : AD) : List Int := lay (fun _ => true) a.f a.X a.las a.P.length
def AD.settle (a : AD) (kp : Nat → Bool) : AD := { a with las := lay kp a.f a.X a.las a.P.length, P := [] }
def AD.cut (a : AD) (kp : Nat → Bool) : AD := { a.settle kp with down := true }
def AD.tick (a : AD) : AD := if 0 < a.at_ then { a with at_ := a.at_ - 1 } else a
theorem tick_eq (a : AD) : a.tick = { a with at_ := if 0 < a.at_ then a.at_ - 1 else a.at_ } := by
  unfold AD.tick; split <;> rfl
def AD.write (a : AD) (i : Nat) (x : List Int) : AD :=
  let b : AD := { a with P := a.P ++ [(i, x)], T := a.T ++ [(1, (i : Int), x)], wr := a.wr + 1 }
  if a.at_ = 1 then ({ b with at_ := 0 } : AD).cut (kpOf a.keep) else b.tick
def AD.flush (a : AD) : AD :=
  let b : AD := { a with fl := a.fl + 1 }
  if a.at_ = 1 then ({ b with at_ := 0 } : AD).cut (kpOf a.keep) else ({ b.tick with T := a.T ++ [(2, 0, [])] } : AD).settle (fun _ => true)
def AD.stepE (a : AD) : Int := if a.at_ = 1 then 30 else 0
def AD.touchE (a : AD) (i : Int) : Int := if a.down then 30 else if 0 ≤ i ∧ i < a.nb then 0 else 31
def Dk.abs (D : Dk) : AD := ⟨D.nb, D.las, D.pen.map (fun p => (p.b, p.x)), D.tap.map (fun a => (a.kind, a.b, a.x)), D.wr, D.fl, D.at_, D.keep, D.down⟩
theorem abs_f (D : Dk) : D.abs.f = D.f := by
  funext k
  simp only [AD.f, Dk.abs, Dk.f, List.getD, List.getElem?_map]
  cases D.pen[k]? <;> rfl
theorem abs_X (D : Dk) : D.abs.X = D.X := by
  funext k
  simp only [AD.X, Dk.abs, Dk.X, List.getD, List.getElem?_map]
  cases D.pen[k]? <;> rfl
theorem abs_len (D : Dk) : D.abs.P.length = D.pen.length := by simp [Dk.abs]
theorem abs_full (D : Dk) : D.full = D.abs.full := by rw [Dk.full, AD.full, abs_f, abs_X, abs_len]; rfl
structure RoomD (a : AD) : Prop where
  p : a.P.length + 1 ≤ 4294967296
  t : a.T.length + 1 ≤ 4294967296
  w : a.wr + 1 ≤ 4294967296
  f : a.fl + 1 ≤ 4294967296
  k : a.keep.length ≤ 9223372036854775807
def Al (n : Nat) (D D' : Dk) : Prop := ∀ k, D'.all k → D.all k ∨ n ≤ k
theorem al_trans {n n' : Nat} {D D' D'' : Dk} (h : Al n D D') (h' : Al n' D' D'') (hn : n ≤ n') : Al n D D'' := fun k hk => (h' k hk).elim (h k) (fun e => .inr (Nat.le_trans hn e))
theorem Bytes.fr {S : Nat → Prop} {w w' : World} {p : Addr} {l : List Int} (h : Bytes w (Option.some p) l) (x : Fr S w w') (hk : ¬ S p.block) : Bytes w' (Option.some p) l := by
  refine ⟨h.len, h.wf, ?_⟩
  rcases h.at_ with e | ⟨b, off, e, hc⟩
  · exact .inl e
  · cases e
    exact .inr ⟨b, off, rfl, fun i hi => x.cell (hc i hi) hk⟩
end Go.Proofs.YtgmccpimpbnnpaaDoor
