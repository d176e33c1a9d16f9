import Derived.Test.YtgmccpimpbnnpaaDoorKWMl
import Derived.Shelf.SlIterI.Nil
import Derived.Shelf.SortM.Plain
import Derived.Shelf.SortM.SortNone
import Derived.Ground.GgzProg
import Derived.Ground.SlgmProg
import Derived.Test.YtgmccpimpbnnpaaDoorProg
import Derived.Test.YtgmccpimpbnnpaaDoorKARep
namespace Go.Proofs.YtgmccpimpbnnpaaDoor
open Go.RowKit Go.Maps Rec
def rel (v : Value) : Option (DataW Value × List MemPlace) := some (.held v, [])
def MapAt (w : World) (b : Nat) (c : Cm) (nb : Nat) : Prop := w.ownsMap Tryd.prog 3 rel b 20000 (dat c nb)
def optV : Option Bk → Value
  | some q => q.v
  | none => .slice none 0 0
theorem keyedI : Keyed Tryd.prog 3 := int_keyed Tryd.underlying3
theorem wf_nat (i : Nat) (hi : i ≤ 16384) : (Lit.int .i64 (i : Int)).wf = true := WalkArith.wf_i64 (by omega)
theorem key_mk (i : Nat) (hi : i ≤ 16384) : keyOf Tryd.prog 3 (.int .i64 (i : Int)) = some (.int .i64 (i : Int)) := keyOf_int_mk Tryd.underlying3 (wf_nat i hi)
theorem zeroBs (w : World) : (zeroValue 52).run Tryd.prog w = .ok (.slice none 0 0) w := by kernel_rfl
theorem MapAt.fr {S : Nat → Prop} {w w' : World} {b nb : Nat} {c : Cm} (h : MapAt w b c nb) (x : Fr S w w') (hb : ¬ S b) : MapAt w' b c nb := by
  obtain ⟨es, clock, h1, h2, h3, h4⟩ := h
  exact ⟨es, clock, x.heap h1 hb, h2, h3, h4⟩
theorem MapAt.on {w w' : World} {b nb : Nat} {c : Cm} (h : MapAt w b c nb) (x : Below w.heap.size w w') : MapAt w' b c nb := h.fr (below_fr x (fun _ => False)) (fun e => e)
theorem MapAt.lt {w : World} {b nb : Nat} {c : Cm} (h : MapAt w b c nb) : b < w.heap.size := by
  obtain ⟨es, clock, h1, h2, h3, h4⟩ := h
  exact heap_lt h1
theorem rel_inv {v u : Value} {ps : List MemPlace} (h : rel v = some (.held u, ps)) : v = u := by
  simp [rel] at h; exact h.1
theorem at_optV {c : Cm} {n : Nat} (h : COk c n) (i : Nat) : (dat c n).atKey (.int .i64 i) (.held (.slice none 0 0)) = .held (optV (c i)) := by
  rw [dat_at h]
  cases c i <;> rfl
theorem MapAt.look {w : World} {b nb : Nat} {c : Cm} (h : MapAt w b c nb) (ok : COk c nb) (i : Nat) (hi : i ≤ 16384) :
    (Instr.lookup 96 (.map (some b)) (.int .i64 (i : Int)) true).run Tryd.prog w = .ok (.tuple #[optV (c i), .bool (c i).isSome]) w := by
  obtain ⟨v, ps, hr, hv⟩ := World.ownsMap.look_ok h keyedI Tryd.underlying96 (zeroBs w) (zd := .held (.slice none 0 0)) (zp := []) rfl (key_mk i hi)
  rw [at_optV ok] at hv
  rw [rel_inv hv, dat_has ok] at hr
  exact hr
theorem MapAt.len {w : World} {b nb : Nat} {c : Cm} (h : MapAt w b c nb) (ty : TypeId) : (Builtin.len_ #[96] ty #[.map (some b)]).run Tryd.prog w = .ok (.int .i64 ((lst c nb).length : Nat)) w := by
  have := World.ownsMap.len h Tryd.underlying96 ty
  rwa [dat_size] at this
theorem tight {w : World} {b n : Nat} {D : DataW Value} (h : w.ownsMap Tryd.prog 3 rel b n D) (hs : Maps.size D ≤ 20000) : w.ownsMap Tryd.prog 3 rel b 20000 D := by
  obtain ⟨es, clock, h1, h2, h3, h4⟩ := h
  refine ⟨es, clock, h1, h2, ?_, h4⟩
  rw [h4] at hs
  simp only [Maps.size] at hs
  rwa [length_read] at hs
theorem turned_fr {w w' : World} {b : Nat} (h : w.mapTurned w' b) : Fr (fun k => k = b) w w' := by
  obtain ⟨es, clock, es', clock', h1, rfl⟩ := h
  refine ⟨rfl, rfl, rfl, by simp [ChangeMaps.setBlock], fun k hk hS => ?_⟩
  have : k ≠ b := hS
  simp [ChangeMaps.setBlock, Ne.symm this]
theorem MapAt.store {w : World} {b nb i : Nat} {c : Cm} (h : MapAt w b c nb) (ok : COk c nb) (hi : i < nb) (hn : nb ≤ 16384) (q : Bk) (hq : q.n = (i : Int)) (hs : (lst (ups c i (some q)) nb).length ≤ 20000) :
    ∃ w', (Instr.mapUpdate 96 (.map (some b)) (.int .i64 (i : Int)) q.v).run Tryd.prog w = .ok () w' ∧ MapAt w' b (ups c i (some q)) nb ∧ Fr (fun k => k = b) w w' := by
  obtain ⟨w', hr, h1, h2⟩ := World.ownsMap.store h keyedI Tryd.underlying96 (by unfold maxLen; omega) (key_mk i (by omega)) (val := q.v) (d := .held q.v) (ps := []) rfl
  rw [dat_put ok hi q hq] at h1
  exact ⟨w', hr, tight h1 (by rw [dat_size]; exact hs), turned_fr h2⟩
theorem MapAt.drop {w : World} {b nb i : Nat} {c : Cm} (h : MapAt w b c nb) (ok : COk c nb) (hi : i < nb) (hn : nb ≤ 16384) (ty : TypeId) :
    ∃ w', (Builtin.delete_ #[96, 3] ty #[.map (some b), .int .i64 (i : Int)]).run Tryd.prog w = .ok (.tuple #[]) w' ∧ MapAt w' b (ups c i none) nb ∧ Fr (fun k => k = b) w w' := by
  obtain ⟨w', hr, h1, h2⟩ := World.ownsMap.drop h keyedI Tryd.underlying96 (key_mk i (by omega)) ty
  rw [dat_del ok hi] at h1
  exact ⟨w', hr, h1, turned_fr h2⟩
structure Un where
  bw : Nat
  bb : Nat
  bt : Nat
  bi : Nat
  i : Nat
  old : Option Bk
def Un.v (u : Un) : Value := .func (.func 81) #[] #[.pointer (some ⟨u.bw, 0, none⟩), .pointer (some ⟨u.bb, 0, none⟩), .pointer (some ⟨u.bt, 0, none⟩), .pointer (some ⟨u.bi, 0, none⟩)]
def Un.all (u : Un) (k : Nat) : Prop := k = u.bw ∨ k = u.bb ∨ k = u.bt ∨ k = u.bi ∨ ∃ q, u.old = some q ∧ q.g = k
structure UnAt (w : World) (t : Nat) (u : Un) : Prop where
  cw : w.cell? ⟨u.bw, 0, none⟩ = some (.bool u.old.isSome)
  cb : w.cell? ⟨u.bb, 0, none⟩ = some (optV u.old)
  ct : w.cell? ⟨u.bt, 0, none⟩ = some (.pointer (some ⟨t, 0, none⟩))
  ci : w.cell? ⟨u.bi, 0, none⟩ = some (.int .i64 (u.i : Int))
  blk : ∀ q, u.old = some q → BlkAt w q.g q.x
theorem UnAt.fr {S : Nat → Prop} {w w' : World} {t : Nat} {u : Un} (h : UnAt w t u) (x : Fr S w w') (hS : ∀ k, u.all k → ¬ S k) : UnAt w' t u :=
  ⟨x.cell h.cw (hS _ (.inl rfl)), x.cell h.cb (hS _ (.inr (.inl rfl))), x.cell h.ct (hS _ (.inr (.inr (.inl rfl)))), x.cell h.ci (hS _ (.inr (.inr (.inr (.inl rfl))))), fun q hq => (h.blk q hq).fr x (hS _ (.inr (.inr (.inr (.inr ⟨q, hq, rfl⟩)))))⟩
theorem UnAt.lt {w : World} {t : Nat} {u : Un} (h : UnAt w t u) {k : Nat} (hk : u.all k) : k < w.heap.size := by
  rcases hk with rfl | rfl | rfl | rfl | ⟨q, hq, rfl⟩
  · exact block_lt_of_cell h.cw
  · exact block_lt_of_cell h.cb
  · exact block_lt_of_cell h.ct
  · exact block_lt_of_cell h.ci
  · exact (h.blk q hq).lt
structure Tx where
  t : Nat
  d : Nat
  mb : Nat
  nb : Nat
  c : Cm
  uv : Value
  us : List Un
def Tx.has (T : Tx) (k : Nat) : Prop := k = T.t ∨ k = T.mb ∨ T.uv.ownBlock = some k
def Tx.held (T : Tx) (k : Nat) : Prop := (∃ i q, T.c i = some q ∧ q.g = k) ∨ ∃ u, u ∈ T.us ∧ u.all k
def Tx.all (T : Tx) (k : Nat) : Prop := T.has k ∨ T.held k
def Tx.cells (T : Tx) : Array Value := #[.pointer (some ⟨T.d, 0, none⟩), .map (some T.mb), T.uv, .bool false]
structure TxAt (w : World) (T : Tx) : Prop where
  row : w.heap[T.t]? = some (.cells T.cells 99 (0, 0))
  map : MapAt w T.mb T.c T.nb
  ok : COk T.c T.nb
  blk : ∀ i q, T.c i = some q → BlkAt w q.g q.x
  und : w.ownsRow 0 1 1 T.uv T.us.length (T.us.map Un.v)
  una : ∀ u ∈ T.us, UnAt w T.t u
  unb : ∀ u ∈ T.us, 98 ≤ u.i ∧ u.i < T.nb ∧ ∀ q, u.old = some q → q.n = (u.i : Int)
  ap1 : T.t ≠ T.mb
  ap2 : ∀ k, T.uv.ownBlock = some k → k ≠ T.t ∧ k ≠ T.mb
  ap3 : ∀ k, T.held k → ¬ T.has k
  ul : T.us.length ≤ 1000000
  n16 : T.nb ≤ 16384
  cnt : (lst T.c T.nb).length ≤ 96
theorem TxAt.fr {S : Nat → Prop} {w w' : World} {T : Tx} (h : TxAt w T) (x : Fr S w w') (hS : ∀ k, T.all k → ¬ S k) : TxAt w' T where
  row := x.heap h.row (hS _ (.inl (.inl rfl)))
  map := h.map.fr x (hS _ (.inl (.inr (.inl rfl))))
  ok := h.ok
  blk := fun i q hq => (h.blk i q hq).fr x (hS _ (.inr (.inl ⟨i, q, hq, rfl⟩)))
  und := owns_fr h.und x (fun k hk => hS k (.inl (.inr (.inr hk))))
  una := fun u hu => (h.una u hu).fr x (fun k hk => hS k (.inr (.inr ⟨u, hu, hk⟩)))
  unb := h.unb
  ap1 := h.ap1
  ap2 := h.ap2
  ap3 := h.ap3
  ul := h.ul
  n16 := h.n16
  cnt := h.cnt
theorem TxAt.on {w w' : World} {T : Tx} (h : TxAt w T) (x : Below w.heap.size w w') : TxAt w' T := h.fr (below_fr x (fun _ => False)) (fun _ _ e => e)
theorem TxAt.lt {w : World} {T : Tx} (h : TxAt w T) {k : Nat} (hk : T.all k) : k < w.heap.size := by
  rcases hk with (rfl | rfl | hk) | ⟨i, q, hq, rfl⟩ | ⟨u, hu, hk⟩
  · exact heap_lt h.row
  · exact h.map.lt
  · exact owns_block h.und hk
  · exact (h.blk i q hq).lt
  · exact (h.una u hu).lt hk
theorem TxAt.cell {w : World} {T : Tx} (h : TxAt w T) (j : Nat) : w.cell? ⟨T.t, j, none⟩ = T.cells[j]? := cell_of_row _ _ _ _ _ _ h.row
structure TMv (w : World) (T : Tx) (w' : World) (T' : Tx) : Prop where
  fr : Fr T.has w w'
  al : ∀ k, T'.all k → T.all k ∨ w.heap.size ≤ k
  has : ∀ k, T'.has k → T.has k ∨ w.heap.size ≤ k
  t : T'.t = T.t
  d : T'.d = T.d
  nb : T'.nb = T.nb
theorem TMv.refl (w : World) (T : Tx) : TMv w T w T := ⟨Fr.refl _ _, fun _ h => .inl h, fun _ h => .inl h, rfl, rfl, rfl⟩
theorem TMv.on {w w' : World} {T : Tx} (x : Below w.heap.size w w') : TMv w T w' T := ⟨below_fr x _, fun _ h => .inl h, fun _ h => .inl h, rfl, rfl, rfl⟩
theorem TMv.trans {w w' w'' : World} {T T' T'' : Tx} (x : TMv w T w' T') (y : TMv w' T' w'' T'') : TMv w T w'' T'' :=
  ⟨x.fr.trans y.fr x.has, fun k hk => (y.al k hk).elim (x.al k) (fun e => .inr (Nat.le_trans x.fr.size e)), fun k hk => (y.has k hk).elim (x.has k) (fun e => .inr (Nat.le_trans x.fr.size e)), y.t.trans x.t, y.d.trans x.d, y.nb.trans x.nb⟩
structure TMine (w0 w : World) (T : Tx) : Prop where
  at_ : TxAt w T
  far : ∀ k, T.all k → w0.heap.size ≤ k
  bel : Below w0.heap.size w0 w
theorem TMine.on {w0 w w' : World} {T : Tx} (h : TMine w0 w T) (hb : Below w.heap.size w w') : TMine w0 w' T := ⟨h.at_.on hb, h.far, h.bel.trans (hb.mono h.bel.size)⟩
theorem TMine.step {w0 w w' : World} {T T' : Tx} (h : TMine w0 w T) (ht : TxAt w' T') (hm : TMv w T w' T') : TMine w0 w' T' :=
  ⟨ht, fun k hk => (hm.al k hk).elim (h.far k) (fun e => Nat.le_trans h.bel.size e), h.bel.trans (hm.fr.below _ (fun k hk => h.far k (.inl hk)) h.bel.size)⟩
end Go.Proofs.YtgmccpimpbnnpaaDoor

namespace Go.Proofs.YtgmccpimpbnnpaaDoor
open Go.Shelf
end Go.Proofs.YtgmccpimpbnnpaaDoor

namespace Go.Proofs.YtgmccpimpbnnpaaDoor
open Go.RowKit Go.Maps Go.Sort Go.Shelf Rec
end Go.Proofs.YtgmccpimpbnnpaaDoor

namespace Go.Proofs.YtgmccpimpbnnpaaDoor
open Go.RowKit Go.Maps Rec
def touchT (nb : Nat) (i first : Int) : Int := if i < first ∨ (nb : Int) ≤ i then 31 else 0
theorem touchT_ok {nb i first : Nat} (h0 : first ≤ i) (h1 : i < nb) : touchT nb (i : Int) (first : Int) = 0 := by
  unfold touchT
  rw [if_neg (by omega)]
set_option maxRecDepth 100000 in
set_option maxHeartbeats 4000000 in
theorem mayTouch_any (w : World) (T : Tx) (D : Dk) (h : TxAt w T) (hD : Disk w D) (hd : D.d = T.d) (hn : D.nb = T.nb) (i first : Int) :
    Calls Tryd.prog 66 #[.pointer (some ⟨T.t, 0, none⟩), .int .i64 i, .int .i64 first] w fun e w' => e = .returned (.int .i64 (touchT T.nb i first)) ∧ w = w' := by
  have hc3 : w.cell? ⟨T.t, 3, none⟩ = some (.bool false) := h.cell 3
  have hc0 : w.cell? ⟨T.t, 0, none⟩ = some (.pointer (some ⟨D.d, 0, none⟩)) := by rw [hd]; exact h.cell 0
  have HB : Hid (Calls Tryd.prog 82 #[.pointer (some ⟨D.d, 0, none⟩)] w fun e w' => e = .returned (.int .i64 T.nb) ∧ w = w') := by
    have := blocks_any w D hD
    rw [hn] at this
    exact this
  clear h hD hd hn
  go_enter Tryd.func66, Tryd.ntmps66
  by_cases h1 : i < first
  · go_wp2
    go_ret
    exact ⟨by unfold touchT; rw [if_pos (.inl h1)]; rfl, rfl⟩
  · have h1' : first ≤ i := by omega
    by_cases h2 : (T.nb : Int) ≤ i
    · go_wp2_with (go_at_call 82; refine HB.out.mono ?_; rintro e w' ⟨rfl, rfl⟩)
      go_ret
      exact ⟨by unfold touchT; rw [if_pos (.inr h2)]; rfl, rfl⟩
    · have h2' : i < (T.nb : Int) := by omega
      go_wp2_with (go_at_call 82; refine HB.out.mono ?_; rintro e w' ⟨rfl, rfl⟩)
      go_ret
      exact ⟨by unfold touchT; rw [if_neg (by omega)]; rfl, rfl⟩
set_option maxRecDepth 100000 in
set_option maxHeartbeats 4000000 in
theorem tread_any (w : World) (T : Tx) (D : Dk) (h : TxAt w T) (hD : Disk w D) (hd : D.d = T.d) (hn : D.nb = T.nb) (hdn : D.down = false) (i : Nat) (hi : i < T.nb) :
    Calls Tryd.prog 52 #[.pointer (some ⟨T.t, 0, none⟩), .int .i64 (i : Int)] w fun e w' => ∃ g cap, e = .returned (.tuple #[.slice (some ⟨g, 0, none⟩) 512 cap, .int .i64 0]) ∧ w.heap.size ≤ g ∧ OwnB w' g cap (match T.c i with | some q => q.x | none => bck D.full i) ∧ Below w.heap.size w w' := by
  have HT : Hid (Calls Tryd.prog 66 #[.pointer (some ⟨T.t, 0, none⟩), .int .i64 (i : Int), .int .i64 0] w fun e w' => e = .returned (.int .i64 0) ∧ w = w') := by
    have := mayTouch_any w T D h hD hd hn (i : Int) 0
    rw [show touchT T.nb (i : Int) 0 = 0 from touchT_ok (first := 0) (Nat.zero_le _) hi] at this
    exact this
  have hc1 : w.cell? ⟨T.t, 1, none⟩ = some (.map (some T.mb)) := h.cell 1
  have hc0 : w.cell? ⟨T.t, 0, none⟩ = some (.pointer (some ⟨D.d, 0, none⟩)) := by rw [hd]; exact h.cell 0
  have hlk := h.map.look h.ok i (by have := h.n16; omega)
  have HR : Hid (Calls Tryd.prog 67 #[.pointer (some ⟨D.d, 0, none⟩), .int .i64 i] w fun e w' => ∃ g cap, e = .returned (.tuple #[.slice (some ⟨g, 0, none⟩) 512 cap, .int .i64 0]) ∧ w.heap.size ≤ g ∧ OwnB w' g cap (bck D.full i) ∧ Below w.heap.size w w') := read_yes w D hD i (by omega) hdn
  clear hdn hd hn hi
  cases hci : T.c i with
  | none =>
    rw [hci] at hlk
    have hlk' : (Instr.lookup 96 (.map (some T.mb)) (.int .i64 (i : Int)) true).run Tryd.prog w = .ok (.tuple #[.slice none 0 0, .bool false]) w := hlk
    clear h hD hlk hci
    go_enter Tryd.func52, Tryd.ntmps52
    go_wp2_with (first
      | (go_at_call 66; refine HT.out.mono ?_; rintro e w' ⟨rfl, rfl⟩)
      | (go_at_call 67; refine HR.out.mono ?_; rintro e w' ⟨g, cap, rfl, h1, h2, h3⟩; have H3 : Hid (w.heap.size ≤ g ∧ OwnB w' g cap (bck D.full i) ∧ Below w.heap.size w w') := ⟨h1, h2, h3⟩; clear h1 h2 h3))
    go_ret2
    exact ⟨g, cap, rfl, H3.out.1, H3.out.2.1, H3.out.2.2⟩
  | some q =>
    rw [hci] at hlk
    have hlk' : (Instr.lookup 96 (.map (some T.mb)) (.int .i64 (i : Int)) true).run Tryd.prog w = .ok (.tuple #[.slice (some ⟨q.g, 0, none⟩) 512 q.c, .bool true]) w := hlk
    have HC : Hid (Calls Tryd.prog 37 #[.slice (some ⟨q.g, 0, none⟩) 512 q.c] w fun e w' => ∃ g cap, e = .returned (.slice (some ⟨g, 0, none⟩) 512 cap) ∧ w.heap.size ≤ g ∧ OwnB w' g cap q.x ∧ Below w.heap.size w w') := bclone_any w ⟨q.g, 0, none⟩ 512 q.c q.x (h.blk i q hci).bytes (h.blk i q hci).len (by omega)
    clear h hD hlk hci HR
    go_enter Tryd.func52, Tryd.ntmps52
    go_wp2_with (first
      | (go_at_call 66; refine HT.out.mono ?_; rintro e w' ⟨rfl, rfl⟩)
      | (go_at_call 37; refine HC.out.mono ?_; rintro e w' ⟨g, cap, rfl, h1, h2, h3⟩; have H3 : Hid (w.heap.size ≤ g ∧ OwnB w' g cap q.x ∧ Below w.heap.size w w') := ⟨h1, h2, h3⟩; clear h1 h2 h3))
    go_ret2
    exact ⟨g, cap, rfl, H3.out.1, H3.out.2.1, H3.out.2.2⟩
set_option maxRecDepth 100000 in
theorem mark_any (w : World) (T : Tx) (h : TxAt w T) : Calls Tryd.prog 45 #[.pointer (some ⟨T.t, 0, none⟩)] w fun e w' => e = .returned (.tuple #[.int .i64 (T.us.length : Nat), .int .i64 0]) ∧ Below w.heap.size w w' := by
  have hc3 : w.cell? ⟨T.t, 3, none⟩ = some (.bool false) := h.cell 3
  obtain ⟨a, c, hv, _⟩ := owns_slice h.und
  have hc2 : w.cell? ⟨T.t, 2, none⟩ = some (.slice a T.us.length c) := by rw [← hv]; exact h.cell 2
  clear h
  go_enter Tryd.func45, Tryd.ntmps45
  go_wp2
  go_ret2
  exact ⟨rfl, by repeat (first | exact Below.refl _ _ | apply Below.drew)⟩
theorem begin_any (w : World) (d nb : Nat) (hn : nb ≤ 16384) : Calls Tryd.prog 15 #[.pointer (some ⟨d, 0, none⟩)] w fun e w' => ∃ T, e = .returned (.pointer (some ⟨T.t, 0, none⟩)) ∧ TMine w w' T ∧ T.d = d ∧ T.nb = nb ∧ T.c = (fun _ => none) ∧ T.us = [] := by
  have hmm := @run_makeMap Tryd.prog
  go_enter Tryd.func15, Tryd.ntmps15
  go_wp2
  go_ret
  have hm : MapAt ((w.alloc (.map #[] 0)).alloc (.cells #[.pointer (some ⟨d, 0, none⟩), .map (some w.heap.size), .slice none 0 0, .bool false] 99)) w.heap.size (fun _ => none) nb := by
    have := ((World.ownsMap_made w Tryd.prog 3 rel).mono (Nat.zero_le 20000)).alloc (.cells #[.pointer (some ⟨d, 0, none⟩), .map (some w.heap.size), .slice none 0 0, .bool false] 99)
    unfold MapAt dat
    rw [lst_none]
    exact this
  refine ⟨⟨w.heap.size + 1, d, w.heap.size, nb, fun _ => none, .slice none 0 0, []⟩, ?_, ⟨⟨?_, hm, cok_none nb, (fun i q hq => by cases hq), ⟨rfl, .inl ⟨rfl, rfl⟩⟩, (fun u hu => by cases hu), (fun u hu => by cases hu), by simp, (fun k hk => by cases hk), ?_, by simp, hn, by simp [lst_none]⟩, ?_, ?_⟩, rfl, rfl, rfl, rfl⟩
  · simp
  · show _[w.heap.size + 1]? = _
    rw [show w.heap.size + 1 = (w.alloc (.map #[] 0)).heap.size from by simp]
    exact heap_alloc_new _ _
  · rintro k (⟨i, q, hq, _⟩ | ⟨u, hu, _⟩)
    · cases hq
    · cases hu
  · rintro k ((rfl | rfl | hk) | ⟨i, q, hq, _⟩ | ⟨u, hu, _⟩)
    · show w.heap.size ≤ w.heap.size + 1; omega
    · exact Nat.le_refl _
    · cases hk
    · cases hq
    · cases hu
  · exact ((Below.refl _ w).alloc (Nat.le_refl _) _).alloc (by simp) _
end Go.Proofs.YtgmccpimpbnnpaaDoor

namespace Go.Proofs.YtgmccpimpbnnpaaDoor
open Go.RowKit Go.Maps Rec
def Tx.setC (T : Tx) (c : Cm) : Tx := { T with c := c }
def Tx.setU (T : Tx) (v : Value) (us : List Un) : Tx := { T with uv := v, us := us }
theorem setC_held {T : Tx} {i : Nat} {q : Option Bk} {k : Nat} (h : (T.setC (ups T.c i q)).held k) : T.held k ∨ ∃ x, q = some x ∧ x.g = k := by
  rcases h with ⟨j, x, hj, rfl⟩ | ⟨u, hu, hk⟩
  · have hj : ups T.c i q j = some x := hj
    by_cases e : j = i
    · subst e
      rw [ups_same] at hj
      exact .inr ⟨x, hj, rfl⟩
    · rw [ups_other _ _ e] at hj
      exact .inl (.inl ⟨j, x, hj, rfl⟩)
  · exact .inl (.inr ⟨u, hu, hk⟩)
theorem TxAt.setC {w w' : World} {T : Tx} {i : Nat} {q : Option Bk} (h : TxAt w T) (hM : MapAt w' T.mb (ups T.c i q) T.nb) (hF : Fr (fun k => k = T.mb) w w') (hb : ∀ x, q = some x → BlkAt w x.g x.x ∧ ¬ T.has x.g ∧ x.n = (i : Int)) (h0 : 98 ≤ i) (h1 : i < T.nb) (hl : (lst (ups T.c i q) T.nb).length ≤ 96) :
    TxAt w' (T.setC (ups T.c i q)) := by
  have ne : ∀ k, T.held k → k ≠ T.mb := fun k hk e => h.ap3 k hk (.inr (.inl e))
  refine ⟨hF.heap h.row h.ap1, hM, h.ok.ups q h0 h1 (fun x hx => (hb x hx).2.2), fun j x hj => ?_, owns_fr h.und hF (fun k hk => (h.ap2 k hk).2), fun u hu => (h.una u hu).fr hF (fun k hk => ne k (.inr ⟨u, hu, hk⟩)), h.unb, h.ap1, h.ap2, fun k hk => ?_, h.ul, h.n16, hl⟩
  · have hj' : ups T.c i q j = some x := hj
    by_cases e : j = i
    · subst e
      rw [ups_same] at hj'
      obtain ⟨b1, b2, _⟩ := hb x hj'
      exact b1.fr hF (fun e => b2 (.inr (.inl e)))
    · rw [ups_other _ _ e] at hj'
      exact (h.blk j x hj').fr hF (ne _ (.inl ⟨j, x, hj', rfl⟩))
  · rcases setC_held hk with hk | ⟨x, hx, rfl⟩
    · exact h.ap3 k hk
    · exact (hb x hx).2.1
theorem TxAt.push {w w1 : World} {T : Tx} {u : Un} {g cap : Nat} (h : TxAt w T) (hu : UnAt w T.t u) (hn : ∀ k, u.all k → ¬ T.has k) (hb : 98 ≤ u.i ∧ u.i < T.nb ∧ ∀ q, u.old = some q → q.n = (u.i : Int)) (hl : T.us.length + 1 ≤ 1000000)
    (hr : w1.ownsRow 0 1 1 (.slice (some ⟨g, 0, none⟩) (T.us.length + 1) cap) (T.us.length + 1) (T.us.map Un.v ++ [u.v])) (hF : Fr (fun k => T.uv.ownBlock = some k) w w1) (hg : T.uv.ownBlock = some g ∨ w.heap.size ≤ g) :
    TxAt (w1.setCell ⟨T.t, 2, none⟩ (.slice (some ⟨g, 0, none⟩) (T.us.length + 1) cap)) (T.setU (.slice (some ⟨g, 0, none⟩) (T.us.length + 1) cap) (T.us ++ [u])) ∧ Fr T.has w (w1.setCell ⟨T.t, 2, none⟩ (.slice (some ⟨g, 0, none⟩) (T.us.length + 1) cap)) := by
  have hgt : g ≠ T.t ∧ g ≠ T.mb := by
    rcases hg with e | e
    · exact h.ap2 g e
    · have a1 := h.lt (k := T.t) (.inl (.inl rfl))
      have a2 := h.lt (k := T.mb) (.inl (.inr (.inl rfl)))
      exact ⟨by omega, by omega⟩
  have hut : ∀ k, T.uv.ownBlock = some k → k ≠ T.t := fun k hk => (h.ap2 k hk).1
  have F2 : Fr (fun k => k = T.t) w1 (w1.setCell ⟨T.t, 2, none⟩ (.slice (some ⟨g, 0, none⟩) (T.us.length + 1) cap)) := Fr.set
  have FA : Fr (fun k => k = T.t ∨ T.uv.ownBlock = some k) w (w1.setCell ⟨T.t, 2, none⟩ (.slice (some ⟨g, 0, none⟩) (T.us.length + 1) cap)) := (hF.mono (fun k hk => .inr hk)).trans F2 (fun k hk => .inl (.inl hk))
  have held : ∀ k, T.held k → ¬ (k = T.t ∨ T.uv.ownBlock = some k) := fun k hk e => h.ap3 k hk (e.elim .inl (fun e => .inr (.inr e)))
  have hnu : ∀ k, u.all k → ¬ (k = T.t ∨ T.uv.ownBlock = some k) := fun k hk e => hn k hk (e.elim .inl (fun e => .inr (.inr e)))
  have rowt : w1.heap[T.t]? = some (.cells T.cells 99 (0, 0)) := hF.heap h.row (fun e => hut _ e rfl)
  have heldS : ∀ k, (T.setU (.slice (some ⟨g, 0, none⟩) (T.us.length + 1) cap) (T.us ++ [u])).held k → T.held k ∨ u.all k := fun k hk => by
    rcases hk with hk | ⟨x, hx, hk⟩
    · exact .inl (.inl hk)
    · rcases List.mem_append.1 hx with hx | hx
      · exact .inl (.inr ⟨x, hx, hk⟩)
      · simp at hx; subst hx; exact .inr hk
  refine ⟨⟨?_, ?_, h.ok, ?_, ?_, ?_, ?_, h.ap1, ?_, ?_, ?_, h.n16, h.cnt⟩, FA.mono (fun k hk => hk.elim .inl (fun e => .inr (.inr e)))⟩
  · have := heap_setCell_same w1 T.t 2 _ _ (.slice (some ⟨g, 0, none⟩) (T.us.length + 1) cap) rowt
    exact this
  · exact h.map.fr FA (fun e => e.elim (fun e => h.ap1 e.symm) (fun e => (h.ap2 _ e).2 rfl))
  · exact fun i q hq => (h.blk i q hq).fr FA (held _ (.inl ⟨i, q, hq, rfl⟩))
  · have := owns_fr hr F2 (fun k hk => by cases hk; exact hgt.1)
    show World.ownsRow _ 0 1 1 _ (T.us ++ [u]).length ((T.us ++ [u]).map Un.v)
    rw [List.length_append, List.map_append]
    exact this
  · intro x hx
    rcases List.mem_append.1 hx with hx | hx
    · exact (h.una x hx).fr FA (fun k hk => held k (.inr ⟨x, hx, hk⟩))
    · simp at hx; subst hx
      exact hu.fr FA hnu
  · intro x hx
    rcases List.mem_append.1 hx with hx | hx
    · exact h.unb x hx
    · simp at hx; subst hx; exact hb
  · intro k hk
    cases hk
    exact hgt
  · intro k hk hh
    have hlt : k < w.heap.size := (heldS k hk).elim (fun e => h.lt (.inr e)) (fun e => hu.lt e)
    have hno : ¬ T.has k := (heldS k hk).elim (h.ap3 k) (hn k)
    rcases hh with e | e | e
    · exact hno (.inl e)
    · exact hno (.inr (.inl e))
    · have e : g = k := by
        have : (Value.slice (some ⟨g, 0, none⟩) (T.us.length + 1) cap).ownBlock = some k := e
        simpa [Value.ownBlock] using this
      rcases hg with e1 | e1
      · rw [e] at e1
        exact hno (.inr (.inr e1))
      · omega
  · show (T.us ++ [u]).length ≤ _
    rw [List.length_append]; exact hl
end Go.Proofs.YtgmccpimpbnnpaaDoor

namespace Go.Proofs.YtgmccpimpbnnpaaDoor
open Go.RowKit Rec
end Go.Proofs.YtgmccpimpbnnpaaDoor

namespace Go.Proofs.YtgmccpimpbnnpaaDoor
open Go.RowKit Go.Maps Rec
structure BlRow (w0 wr : World) (L : List Bk) (k : Nat) (v : Value) : Prop where
  row : wr.ownsRow 0 88 2 v k ((L.take k).flatMap Bk.cells)
  far : ∀ b, v.ownBlock = some b → w0.heap.size ≤ b
  bel : Below w0.heap.size w0 wr
theorem BlRow.next {w0 wr w1 w' : World} {L : List Bk} {k g2 c2 : Nat} {v : Value} {q : Bk} (h : BlRow w0 wr L k v) (hq : L[k]? = some q) (hb : Below wr.heap.size wr w1)
    (h1 : w'.ownsRow 0 88 2 (.slice (some ⟨g2, 0, none⟩) (k + 1) c2) (k + 1) ((L.take k).flatMap Bk.cells ++ q.cells)) (h2 : Fr (fun b => v.ownBlock = some b) w1 w') (h3 : v.ownBlock = some g2 ∨ w1.heap.size ≤ g2) :
    BlRow w0 w' L (k + 1) (.slice (some ⟨g2, 0, none⟩) (k + 1) c2) := by
  have e : (L.take (k + 1)).flatMap Bk.cells = (L.take k).flatMap Bk.cells ++ q.cells := by
    rw [List.take_add_one, hq]
    simp
  have hs := h.bel.size
  have hs1 := hb.size
  refine ⟨by rw [e]; exact h1, fun b hk => ?_, (h.bel.trans (hb.mono hs)).trans (h2.below _ h.far (by omega))⟩
  cases hk
  rcases h3 with e | e
  · exact h.far _ e
  · show w0.heap.size ≤ g2
    omega
end Go.Proofs.YtgmccpimpbnnpaaDoor

namespace Go.Proofs.YtgmccpimpbnnpaaDoor
open Go.RowKit Go.Maps Rec
end Go.Proofs.YtgmccpimpbnnpaaDoor

namespace Go.Proofs.YtgmccpimpbnnpaaDoor
open Go.RowKit Go.Maps Rec
theorem infoF0 : (Tryd.prog.info? 1).map (fun i => (i.zero, i.size, i.bytes)) = some (some .nilFunc, 1, 8) := by kernel_rfl
end Go.Proofs.YtgmccpimpbnnpaaDoor
