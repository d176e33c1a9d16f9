import Derived.Test.YtflienghgobmoaaGreatDoorKXsP
import Derived.Test.YtflienghgobmoaaGreatDoorKTxN0
import Derived.Test.YtflienghgobmoaaGreatDoorKALasts
import Derived.Test.YtflienghgobmoaaGreatDoorKTxBm
import Derived.Test.YtflienghgobmoaaGreatDoorKKbA
import Derived.Test.YtflienghgobmoaaGreatDoorKXmB
import Derived.Test.YtflienghgobmoaaGreatDoorKXsC
import Derived.Test.YtflienghgobmoaaGreatDoorSpC
namespace Go.Proofs.YtflienghgobmoaaGreatDoor
open Go.RowKit Go.Maps Go.Sort Go.Shelf Rec
variable {w0 w w1 wx w2 w' : World} {P j j' : Nat} {D D' : Dk} {R R' : RDk} {T T' : Tx} {U U' : RTx} {K K' : Kb} {row' : List Dn} {c2 c3 : Value}
theorem owl_of {e sz n : Nat} {v : Value} {xs : List Value} (h : w'.ownsRow w.heap.size e sz v n xs) (hb : Below w.heap.size w w') : OwL e sz w w' v n xs := by
  obtain ⟨h1, h2⟩ := h
  rcases h2 with ⟨e1, e2⟩ | ⟨g, cap, cur, e1, q1, q2, q3⟩
  · exact ⟨⟨h1, .inl ⟨e1, e2⟩⟩, fun k hk => by rw [e1] at hk; (cases hk), hb⟩
  · exact ⟨⟨h1, .inr ⟨g, cap, cur, e1, Nat.zero_le _, q2, q3⟩⟩, fun k hk => by rw [e1] at hk; cases hk; exact q1, hb⟩
theorem pwritten (h : XS w0 w P D R T U K j) : Calls Tryz.prog 38 #[.pointer (some ⟨T.t, 0, none⟩)] w (WrP w (wrL U D.nb)) := by
  cases hen : U.ends with
  | true =>
    have e : wrL U D.nb = [] := by unfold wrL; rw [if_pos hen]
    rw [e]
    refine (written_over w T.t (h.tp.over hen)).mono ?_
    rintro e w' ⟨rfl, hb⟩
    exact ⟨_, rfl, OwL.zero hb⟩
  | false =>
    obtain ⟨hx, hd, hn, hu⟩ := h.tp.live hen
    have e : wrL U D.nb = nsB (lst T.c T.nb) := by unfold wrL; rw [if_neg (by rw [hen]; simp), hn, (hu.lists hx.ok).1]
    rw [e]
    refine (written_any w T hx).mono ?_
    rintro e w' ⟨v, rfl, h1, _, h3⟩
    refine ⟨v, rfl, ?_⟩
    have e2 : (nsB (lst T.c T.nb)).length = (lst T.c T.nb).length := by simp [nsB]
    rw [e2]
    exact owl_of h1 h3
end Go.Proofs.YtflienghgobmoaaGreatDoor

namespace Go.Proofs.YtflienghgobmoaaGreatDoor
open Go.RowKit Rec
variable {w0 w w1 wx w2 w' : World} {P j j' : Nat} {D D' : Dk} {R R' : RDk} {T T' : Tx} {U U' : RTx} {K K' : Kb} {row' : List Dn} {c2 c3 : Value}
theorem owl_ints {v : Value} {l : List Int} (h : OwL 3 1 w w' v l.length (l.map (Value.int .i64))) : IntsAt w' v l := by
  obtain ⟨a, c, e, _⟩ := owns_slice h.row
  refine ⟨a, c, e, ?_⟩
  rcases h.row.2 with ⟨_, e2⟩ | ⟨g, cap, cur, e2, _⟩
  · exact .inl (List.eq_nil_of_length_eq_zero e2)
  · rw [e] at e2
    cases e2
    refine .inr ⟨g, rfl, fun i x hi => ?_⟩
    have hc := World.ownsRow.cells h.row (g := g) (by rw [e]; rfl) i (.int .i64 x) (by rw [List.getElem?_map, hi]; rfl)
    rw [Addr.add_lit, Nat.zero_add] at hc
    exact hc
end Go.Proofs.YtflienghgobmoaaGreatDoor

namespace Go.Proofs.YtflienghgobmoaaGreatDoor
open Go.RowKit Rec
variable {w0 w w1 wx w2 w' : World} {P j j' : Nat} {D D' : Dk} {R R' : RDk} {T T' : Tx} {U U' : RTx} {K K' : Kb} {row' : List Dn} {c2 c3 : Value}
theorem pread6 (h : XS w0 w P D R T U K j) (i : Int) : Calls Tryz.prog 65 #[.pointer (some ⟨T.t, 0, none⟩), .int .i64 i] w fun e w' => ∃ a c, e = .returned (.tuple #[.slice a (rxB D.abs U i).length c, .int .i64 (rxE D.abs U i)]) ∧ AnsB w.heap.size w' (.slice a (rxB D.abs U i).length c) (rxB D.abs U i) ∧ Below w.heap.size w w' := by
  cases hen : U.ends with
  | true =>
    have e1 : rxE D.abs U i = 61 := by unfold rxE; rw [if_pos hen]
    have e2 : rxB D.abs U i = [] := by unfold rxB; rw [if_pos hen]
    rw [e1, e2]
    refine (read_over w T.t (h.tp.over hen) i).mono ?_
    rintro e w' ⟨rfl, rfl⟩
    exact ⟨none, 0, rfl, ansB_nil, Below.refl _ _⟩
  | false =>
    obtain ⟨hx, hd, hn, hu⟩ := h.tp.live hen
    obtain ⟨e1, e2⟩ := hu.read (a := D.abs) hn.symm hen i
    refine (txread_any w T D hx h.ws.d hd hn (fun k hk hdn => ?_) i).mono ?_
    · have := bck512 h.ws.t (i := k) hdn hk
      rw [← abs_full] at this
      exact this
    · rintro e w' ⟨v, rfl, h1, h2⟩
      have f : D.full = D.abs.full := abs_full D
      have hdn : D.down = D.abs.down := rfl
      rw [hdn, e1]
      rw [hdn, f, e2] at h1
      obtain ⟨a, c, rfl, hB⟩ := h1.2.2.2
      exact ⟨a, c, rfl, h1, h2⟩
end Go.Proofs.YtflienghgobmoaaGreatDoor

namespace Go.Proofs.YtflienghgobmoaaGreatDoor
open Go.RowKit Go.Maps Rec

/-- what a transaction reads -/
def tv (D : Dk) (T : Tx) (i : Nat) : List Int := match T.c i with | some q => q.x | none => bck D.full i
def nM (n : Nat) : Nat := (n + 4095) / 4096
def nD (n : Nat) : Nat := 98 + nM n + n / 64
theorem gI_nat (n : Nat) : gI (n : Int) = ((98 + nM n : Nat) : Int) := by unfold gI nM; omega
theorem gD_nat (n : Nat) : gD (n : Int) = ((nD n : Nat) : Int) := by unfold gD nD; rw [gI_nat]; omega
theorem nM_bd {n : Nat} (h0 : 128 ≤ n) (h1 : n ≤ 16384) : 1 ≤ nM n ∧ nM n ≤ 4 ∧ n ≤ 4096 * nM n ∧ 98 + nM n < nD n ∧ nD n < n ∧ 4096 * nM n ≤ n + 4095 := by unfold nD nM; omega
set_option maxRecDepth 100000 in
set_option maxHeartbeats 4000000 in
theorem txread_down (w : World) (T : Tx) (D : Dk) (h : TxAt w T) (hD : Disk w D) (hd : D.d = T.d) (hn : D.nb = T.nb) (m : Nat) (q : Bk) (hci : T.c m = some q) (hm : m < T.nb) :
    Calls Tryz.prog 65 #[.pointer (some ⟨T.t, 0, none⟩), .int .i64 (m : Int)] w fun e w' => ∃ g cap, e = .returned (.tuple #[.slice (some ⟨g, 0, none⟩) 512 cap, .int .i64 0]) ∧ w.heap.size ≤ g ∧ OwnB w' g cap q.x ∧ Below w.heap.size w w' := by
  have HT : Hid (Calls Tryz.prog 77 #[.pointer (some ⟨T.t, 0, none⟩), .int .i64 (m : Int), .int .i64 0] w fun e w' => e = .returned (.int .i64 (touchT T.nb (m : Int) 0)) ∧ w = w') := mayTouch_any w T D h hD hd hn (m : Int) 0
  have e0 : touchT T.nb (m : Int) 0 = 0 := touchT_ok (first := 0) (Nat.zero_le _) hm
  rw [e0] at HT
  have hc1 : w.cell? ⟨T.t, 1, none⟩ = some (.map (some T.mb)) := h.cell 1
  have hlk := h.map.look h.ok m (by have := h.n16; omega)
  rw [hci] at hlk
  have hlk' : (Instr.lookup 113 (.map (some T.mb)) (.int .i64 (m : Int)) true).run Tryz.prog w = .ok (.tuple #[.slice (some ⟨q.g, 0, none⟩) 512 q.c, .bool true]) w := hlk
  have hbl := h.blk m q hci
  have HC : Hid (Calls Tryz.prog 19 #[.slice (some ⟨q.g, 0, none⟩) 512 q.c] w fun e w' => ∃ g cap, e = .returned (.slice (some ⟨g, 0, none⟩) 512 cap) ∧ w.heap.size ≤ g ∧ OwnB w' g cap q.x ∧ Below w.heap.size w w') := bclone_any w ⟨q.g, 0, none⟩ 512 q.c q.x hbl.bytes hbl.len (by omega)
  clear h hD hlk hci hd hn hm e0 hbl
  go_enter Tryz.func65, Tryz.ntmps65
  go_wp2_with (first
    | (go_at_call 77; refine HT.out.mono ?_; rintro e w' ⟨rfl, rfl⟩)
    | (go_at_call 19; refine HC.out.mono ?_; rintro e w' ⟨g, cap, rfl, h1, h2, h3⟩; have H3 : Hid (w.heap.size ≤ g ∧ OwnB w' g cap q.x ∧ Below w.heap.size w w') := ⟨h1, h2, h3⟩; clear h1 h2 h3))
  go_ret2
  exact ⟨_, _, rfl, H3.out.1, H3.out.2.1, H3.out.2.2⟩
/-- may the block be read -/
def rdb (D : Dk) (T : Tx) (i : Nat) : Prop := D.down = false ∨ (T.c i).isSome = true
/-- a session on a disk with a bitmap, which may be without power -/
structure Spc (w0 w : World) (D : Dk) (T : Tx) (n : Nat) : Prop where
  ses : Ses w0 w D T
  nb : T.nb = n
  lo : 128 ≤ n
  hi : n ≤ 16384
  ok : ∀ i, i < n → (tv D T i).length = 512 ∧ ∀ j, 0 ≤ nth (tv D T i) j ∧ nth (tv D T i) j < 256
theorem Spc.on {w0 w w' : World} {D : Dk} {T : Tx} {n : Nat} (h : Spc w0 w D T n) (hb : Below w.heap.size w w') : Spc w0 w' D T n := ⟨h.ses.on hb, h.nb, h.lo, h.hi, h.ok⟩
theorem Spc.full {w0 w : World} {D : Dk} {T : Tx} {n : Nat} (h : Spc w0 w D T n) (m : Nat) (hm : m < n) (hc : T.c m = none) : (bck D.full m).length = 512 := by
  have := (h.ok m hm).1
  unfold tv at this
  rw [hc] at this
  exact this
theorem Spc.read {w0 w : World} {D : Dk} {T : Tx} {n : Nat} (h : Spc w0 w D T n) (i : Nat) (hi : i < n) (hr : rdb D T i) :
    Calls Tryz.prog 65 #[.pointer (some ⟨T.t, 0, none⟩), .int .i64 (i : Int)] w fun e w' => ∃ g cap, e = .returned (.tuple #[.slice (some ⟨g, 0, none⟩) 512 cap, .int .i64 0]) ∧ w.heap.size ≤ g ∧ OwnB w' g cap (tv D T i) ∧ Below w.heap.size w w' := by
  by_cases hdn : D.down = false
  · exact tread_any w T D h.ses.tx h.ses.dk.disk h.ses.d h.ses.nb hdn i (by rw [h.nb]; exact hi)
  · have hs := hr.resolve_left hdn
    obtain ⟨q, hq⟩ := Option.isSome_iff_exists.1 hs
    have hl : q.x.length = 512 := by have := (h.ok i hi).1; unfold tv at this; rw [hq] at this; exact this
    refine (txread_down w T D h.ses.tx h.ses.dk.disk h.ses.d h.ses.nb i q hq (by rw [h.nb]; exact hi)).mono ?_
    rintro e w' ⟨g, cap, rfl, h1, h2, h3⟩
    refine ⟨g, cap, rfl, h1, ?_, h3⟩
    unfold tv; rw [hq]; exact h2
theorem Spc.read_no {w0 w : World} {D : Dk} {T : Tx} {n : Nat} (h : Spc w0 w D T n) (i : Nat) (hi : i < n) (hr : ¬ rdb D T i) :
    Calls Tryz.prog 65 #[.pointer (some ⟨T.t, 0, none⟩), .int .i64 (i : Int)] w fun e w' => ∃ a c, e = .returned (.tuple #[.slice a 0 c, .int .i64 30]) ∧ Below w.heap.size w w' := by
  have hdn : D.down = true := by cases e : D.down with | true => rfl | false => exact absurd (.inl e) hr
  have hc : T.c i = none := by cases e : T.c i with | none => rfl | some q => exact absurd (.inr (by rw [e]; rfl)) hr
  have hn : T.nb = n := h.nb
  refine (txread_any w T D h.ses.tx h.ses.dk.disk h.ses.d h.ses.nb (fun k _ hd => by rw [hdn] at hd; cases hd) i).mono ?_
  rintro e w' ⟨v, rfl, h1, h2⟩
  have e1 : tvE T.c T.nb D.down (i : Int) = 30 := by unfold tvE; rw [if_pos ⟨by omega, by omega⟩, Int.toNat_natCast, hc, hdn]; rfl
  have e2 : tvX T.c T.nb D.down D.full (i : Int) = [] := by unfold tvX; rw [if_pos ⟨by omega, by omega⟩, Int.toNat_natCast, hc, hdn]; rfl
  rw [e2] at h1
  obtain ⟨a, c, rfl, _⟩ := h1.2.2.2
  rw [e1]
  exact ⟨a, c, rfl, h2⟩
/-- what a put of a bitmap's block leaves -/
structure WrE (w0 w w' : World) (D : Dk) (T T' : Tx) (n a : Nat) (x : List Int) : Prop where
  mv : TMv w T w' T'
  spc : Spc w0 w' D T' n
  t : T'.t = T.t
  c : ∃ q : Bk, T'.c = ups T.c a (some q) ∧ q.x = x
  u : ∃ u : Un, T'.us = T.us ++ [u] ∧ u.i = a ∧ u.old = T.c a
structure PutE (w0 w w' : World) (D : Dk) (T T' : Tx) (n a : Nat) (x : List Int) (g : Nat) : Prop where
  mv : ∃ w1, Fr (fun k => k = g) w w1 ∧ TMv w1 T w' T'
  spc : Spc w0 w' D T' n
  t : T'.t = T.t
  c : ∃ q : Bk, T'.c = ups T.c a (some q) ∧ q.x = x
  u : ∃ u : Un, T'.us = T.us ++ [u] ∧ u.i = a ∧ u.old = T.c a
theorem tv_ups {D : Dk} {T T' : Tx} {a : Nat} {q : Bk} (hc : T'.c = ups T.c a (some q)) (j : Nat) : tv D T' j = if j = a then q.x else tv D T j := by
  unfold tv
  rw [hc]
  by_cases e : j = a
  · subst e; rw [ups_same, if_pos rfl]
  · rw [ups_other _ _ e, if_neg e]
theorem Spc.write {w0 w : World} {D : Dk} {T : Tx} {n : Nat} (h : Spc w0 w D T n) (a : Nat) (h0 : 98 ≤ a) (h1 : a < n) (p : Addr) (c : Nat) (x : List Int) (hb : Bytes w (some p) x) (hx : x.length = 512) (hr : (T.c a).isSome = true ∨ (lst T.c n).length < 96) (hu : T.us.length + 1 ≤ 4000000) :
    Calls Tryz.prog 34 #[.pointer (some ⟨T.t, 0, none⟩), .int .i64 (a : Int), .slice (some p) 512 c] w fun e w' => e = .returned (.int .i64 0) ∧ ∃ T', WrE w0 w w' D T T' n a x := by
  refine (ses_write w0 w D T h.ses a h0 (by rw [h.nb]; exact h1) p c x hb hx (by rw [h.nb]; exact hr) hu).mono ?_
  rintro e w' ⟨rfl, T', q, u, hs, hm, hq, hn, hc, hus, hi, ho⟩
  refine ⟨rfl, T', hm, ⟨hs, hm.nb.trans h.nb, h.lo, h.hi, fun i hi => ?_⟩, hm.t, ⟨q, hc, hq⟩, ⟨u, hus, hi, ho⟩⟩
  rw [tv_ups hc]
  split
  · rw [hq]; exact ⟨hx, hb.wf⟩
  · exact h.ok i hi
theorem Ses.fr {S : Nat → Prop} {w0 w w' : World} {D : Dk} {T : Tx} (h : Ses w0 w D T) (x : Fr S w w') (h0 : ∀ k, S k → w0.heap.size ≤ k) (h1 : ∀ k, T.all k → ¬ S k) (h2 : ∀ k, D.all k → ¬ S k) : Ses w0 w' D T :=
  ⟨⟨h.dk.disk.fr x h2, h.dk.far, h.dk.bel.trans (x.below _ h0 h.dk.bel.size)⟩, h.tx.fr x h1, h.d, h.nb, h.ap1, h.ap2, h.far⟩
/-- a box that is none of the session's may be filled -/
theorem Spc.box {w0 w wb : World} {D : Dk} {T T' : Tx} {n L k : Nat} (hS : Spc w0 w D T n) (h : Spc w0 wb D T' n) (al : ∀ k, T'.all k → T.all k ∨ L ≤ k) (h1 : w.heap.size ≤ k) (h2 : k < L) (v : Value) : Spc w0 (wb.setCell ⟨k, 0, none⟩ v) D T' n := by
  refine ⟨h.ses.fr (Fr.set (g := k)) (fun j hj => ?_) (fun j hj e => ?_) (fun j hj e => ?_), h.nb, h.lo, h.hi, h.ok⟩
  · have hj : j = k := hj
    have := hS.ses.bel.size
    omega
  · have e : j = k := e
    rcases al j hj with h9 | h9
    · have := hS.ses.tx.lt h9; omega
    · omega
  · have e : j = k := e
    have := hS.ses.dk.disk.allLt hj
    omega
theorem makeN (m : Nat) (hm : m ≤ 100000000) : ∃ o : Obj, (∀ w : World, (Instr.makeSlice 22 (.int .i64 (m : Int)) (.int .i64 (m : Int))).run Tryz.prog w = .ok (.slice (some ⟨w.heap.size, 0, none⟩) m m) (w.alloc o)) ∧ ∀ w : World, OwnB (w.alloc o) w.heap.size m (zn m) := by
  obtain ⟨i0, hi, hz0, hz1, hz2⟩ := info_parts info5
  refine ⟨.cells (madeCells #[.int .u8 0] m) 5, fun w => run_make_row (P := Tryz.prog) 22 5 i0 _ Tryz.underlying22 hi hz0 hz1 rfl .i64 .i64 m (by rw [hz2]; omega) (by omega) w, fun w => ?_⟩
  refine ⟨⟨_, heap_alloc_new _ _, ?_, ?_⟩, ?_, ?_, ?_, wf_rep m 0 (by omega)⟩
  · rw [← Array.length_toList, made_list, List.length_replicate]
  · rw [made_list, zn_length, zn, List.map_replicate, List.take_replicate, Nat.min_self]
  · rw [zn_length]; omega
  · rw [zn_length]; omega
  · unfold maxLen; omega
def GeoAt (w : World) (p n : Nat) : Prop := w.heap[p]? = some (.cells #[.int .i64 (n : Int), .int .i64 98, .int .i64 (gI n), .int .i64 (gD n), .int .i64 (gC n)] 36 (0, 0))
theorem GeoAt.cells {w : World} {p n : Nat} (h : GeoAt w p n) : w.cell? ⟨p, 0, none⟩ = some (.int .i64 (n : Int)) ∧ w.cell? ⟨p, 1, none⟩ = some (.int .i64 98) ∧ w.cell? ⟨p, 2, none⟩ = some (.int .i64 (gI n)) ∧ w.cell? ⟨p, 3, none⟩ = some (.int .i64 (gD n)) ∧ w.cell? ⟨p, 4, none⟩ = some (.int .i64 (gC n)) := by
  have hc := fun j => cell_of_row _ _ j _ _ _ h
  exact ⟨hc 0, hc 1, hc 2, hc 3, hc 4⟩
theorem GeoAt.on {w w' : World} {p n : Nat} (h : GeoAt w p n) (hb : Below w.heap.size w w') : GeoAt w' p n := (hb.block p (heap_lt h)).trans h
end Go.Proofs.YtflienghgobmoaaGreatDoor

namespace Go.Proofs.YtflienghgobmoaaGreatDoor
open Go.RowKit Go.Maps Rec

def bmp (D : Dk) (T : Tx) (k : Nat) : List Int := tv D T (98 + k)
theorem Spc.bm {w0 w : World} {D : Dk} {T : Tx} {n : Nat} (h : Spc w0 w D T n) : Bm (bmp D T) (nM n) := by
  have := nM_bd h.lo h.hi
  exact ⟨fun k hk => (h.ok (98 + k) (by omega)).1, fun k hk => (h.ok (98 + k) (by omega)).2⟩
theorem BoxI.comp {w1 wr w2 w3 : World} {S : Nat} {z z2 : Int} (h : BoxI w1 S z wr) (hb : Below wr.heap.size wr w2) (h2 : BoxI w2 S z2 w3) : BoxI w1 S z2 w3 := by
  have hs := h.fr.size
  have hs2 := hb.size
  exact ⟨h2.cell, h2.frozen, (h.fr.trans (below_fr hb (fun _ => False)) (fun _ e => e.elim)).trans h2.fr (fun k hk => by rcases hk with e | e; exact .inl (.inl e); exact .inl (.inr (by omega)))⟩
theorem Cau.mv {w w1 wr w2 : World} {G Db S F lo hi : Nat} {z z2 : Int} (h : Cau w G Db S F lo hi z) (hb1 : Below w.heap.size w w1) (hI : BoxI w1 S z2 wr) (hb : Below wr.heap.size wr w2) : Cau w2 G Db S F lo hi z2 := by
  have hG := block_lt_of_cell h.g0
  have hD := block_lt_of_cell h.d
  have hs := hb1.size
  dsimp only at hG hD
  have hf := hI.fr.trans (below_fr hb (fun _ => False)) (fun _ e => e.elim)
  have hl := block_lt_of_cell hI.cell
  refine ⟨hf.cell ((hb1.cell hG).trans h.g0) (fun e => ?_), hf.cell ((hb1.cell (p := ⟨G, 3, none⟩) hG).trans h.g3) (fun e => ?_), hf.cell ((hb1.cell hD).trans h.d) (fun e => ?_), (hb.cell hl).trans hI.cell, (frozen_blk (hb.block S hl)).trans hI.frozen, h.ap1, h.ap2⟩
  · have := h.ap1; dsimp only at e; omega
  · have := h.ap1; dsimp only at e; omega
  · have := h.ap2; dsimp only at e; omega
theorem fd_bd {lo hi : Nat} {B : Nat → List Int} {i : Nat} (h : fd lo hi B i = true) : lo ≤ i ∧ i < hi := by
  simp only [fd, Bool.and_eq_true, decide_eq_true_eq] at h; exact h.1
/-- how many of the bitmap's blocks can be read from the first on -/
structure Kpre (D : Dk) (T : Tx) (n K : Nat) : Prop where
  le : K ≤ nM n
  rd : ∀ k, k < K → rdb D T (98 + k)
  no : K < nM n → ¬ rdb D T (98 + K)
def eK (n K : Nat) : Int := if K = nM n then 0 else 30
theorem kpre_ex (D : Dk) (T : Tx) (n : Nat) : ∃ K, Kpre D T n K := by
  have h : ∀ m, m ≤ nM n → ∃ K, K ≤ m ∧ (∀ k, k < K → rdb D T (98 + k)) ∧ (K < m → ¬ rdb D T (98 + K)) := by
    intro m
    induction m with
    | zero => exact fun _ => ⟨0, Nat.le_refl _, fun k hk => absurd hk (Nat.not_lt_zero _), fun hk => absurd hk (Nat.not_lt_zero _)⟩
    | succ m ih =>
      intro hm
      obtain ⟨K, h1, h2, h3⟩ := ih (by omega)
      by_cases e : K = m
      · subst e
        by_cases hr : rdb D T (98 + K)
        · refine ⟨K + 1, Nat.le_refl _, fun k hk => ?_, fun hk => absurd hk (by omega)⟩
          by_cases e2 : k = K
          · subst e2; exact hr
          · exact h2 k (by omega)
        · exact ⟨K, by omega, h2, fun _ => hr⟩
      · exact ⟨K, by omega, h2, fun _ => h3 (by omega)⟩
  obtain ⟨K, h1, h2, h3⟩ := h (nM n) (Nat.le_refl _)
  exact ⟨K, h1, h2, h3⟩
end Go.Proofs.YtflienghgobmoaaGreatDoor

namespace Go.Proofs.YtflienghgobmoaaGreatDoor
open Go.RowKit Go.Maps Rec

/-- where a bit stands -/
def plV (i : Nat) (g cap : Nat) : Value := .agg #[.int .i64 ((98 + i / 4096 : Nat) : Int), .slice (some ⟨g, 0, none⟩) 512 cap, .int .i64 ((i % 4096 : Nat) : Int)]
set_option maxRecDepth 100000 in
set_option maxHeartbeats 4000000 in
theorem find_ok (w0 w : World) (D : Dk) (T : Tx) (n : Nat) (h : Spc w0 w D T n) (i : Nat) (hi : i < n) (hrd : rdb D T (98 + i / 4096)) :
    Calls Tryz.prog 72 #[.pointer (some ⟨T.t, 0, none⟩), geoV n, .int .i64 (i : Int)] w fun e w' => ∃ g cap, e = .returned (.tuple #[plV i g cap, .int .i64 0]) ∧ w.heap.size ≤ g ∧ OwnB w' g cap (bmp D T (i / 4096)) ∧ Below w.heap.size w w' := by
  have hN := nM_bd h.lo h.hi
  have hl := h.lo
  have hh := h.hi
  have HA : Hid (∀ a b, Below w.heap.size w ((w.alloc a).alloc b)) := fun a b => ((Below.refl _ _).alloc (Nat.le_refl _) _).alloc (by simp) _
  have HG : Hid (∀ wx, Calls Tryz.prog 108 #[geoV n, .int .i64 (i : Int)] wx fun e w' => e = .returned (.tuple #[.int .i64 ((98 + i / 4096 : Nat) : Int), .int .i64 ((i % 4096 : Nat) : Int), .int .i64 0]) ∧ Below wx.heap.size wx w') := fun wx => by
    have := gbit_any wx (n : Int) (i : Int) (isLen_yes (by omega)) (by omega)
    rw [bitA_in (by omega)] at this
    exact this
  obtain ⟨A, hA⟩ : ∃ A, 98 + i / 4096 = A := ⟨_, rfl⟩
  obtain ⟨J, hJ⟩ : ∃ J, i % 4096 = J := ⟨_, rfl⟩
  have hrdA : rdb D T A := by rw [← hA]; exact hrd
  have HR : Hid (∀ wx, Below w.heap.size w wx → Calls Tryz.prog 65 #[.pointer (some ⟨T.t, 0, none⟩), .int .i64 (A : Int)] wx fun e w' => ∃ g cap, e = .returned (.tuple #[.slice (some ⟨g, 0, none⟩) 512 cap, .int .i64 0]) ∧ wx.heap.size ≤ g ∧ OwnB w' g cap (bmp D T (i / 4096)) ∧ Below wx.heap.size wx w') := fun wx hb => by
    rw [bmp, hA]
    exact (h.on hb).read A (by omega) hrdA
  unfold plV
  rw [hA, hJ] at HG
  rw [hA, hJ]
  clear h hA hJ hrd hrdA
  obtain ⟨wz, hwz⟩ : ∃ wz, (w.alloc (.cells #[.int .i64 (n : Int), .int .i64 98, .int .i64 (gI n), .int .i64 (gD n), .int .i64 (gC n)] 36)).alloc (.cells #[.int .i64 0, .slice none 0 0, .int .i64 0] 122) = wz := ⟨_, rfl⟩
  have HZ : Hid (Below w.heap.size w wz ∧ wz.heap.size = w.heap.size + 2 ∧ wz.heap[w.heap.size + 1]? = some (.cells #[.int .i64 0, .slice none 0 0, .int .i64 0] 122 (0, 0))) := by
    rw [← hwz]
    have h9 := heap_alloc_new (w.alloc (.cells #[.int .i64 (n : Int), .int .i64 98, .int .i64 (gI n), .int .i64 (gD n), .int .i64 (gC n)] 36)) (.cells #[.int .i64 0, .slice none 0 0, .int .i64 0] 122)
    rw [World.size_alloc] at h9
    exact ⟨HA.out _ _, by simp, h9⟩
  have hzr : wz.heap[w.heap.size]? = some (.cells #[.int .i64 (n : Int), .int .i64 98, .int .i64 (gI n), .int .i64 (gD n), .int .i64 (gC n)] 36 (0, 0)) := by
    rw [← hwz]; exact (Below.heap_alloc _ _ _ (by simp)).trans (heap_alloc_new _ _)
  have HZC : Hid (∀ j, wz.cell? ⟨w.heap.size, j, none⟩ = #[.int .i64 (n : Int), .int .i64 98, .int .i64 (gI n), .int .i64 (gD n), .int .i64 (gC n)][j]?) := fun j => cell_of_row _ _ _ _ _ _ hzr
  have hz0 : wz.cell? ⟨w.heap.size, 0, none⟩ = some (.int .i64 (n : Int)) := HZC.out 0
  have hz1 : wz.cell? ⟨w.heap.size, 1, none⟩ = some (.int .i64 98) := HZC.out 1
  have hz2 : wz.cell? ⟨w.heap.size, 2, none⟩ = some (.int .i64 (gI n)) := HZC.out 2
  have hz3 : wz.cell? ⟨w.heap.size, 3, none⟩ = some (.int .i64 (gD n)) := HZC.out 3
  have hz4 : wz.cell? ⟨w.heap.size, 4, none⟩ = some (.int .i64 (gC n)) := HZC.out 4
  clear HA hzr
  go_enter Tryz.func72, Tryz.ntmps72
  unfold geoV
  unfold geoV at HG
  go_wp2_with (first
    | (go_at_call 108; refine (HG.out _).mono ?_; rintro e w1 ⟨rfl, hb⟩; have H1 : Hid (Below wz.heap.size wz w1) := hb; clear hb HG)
    | (go_at_call 65; refine (HR.out _ (HZ.out.1.trans (H1.out.mono HZ.out.1.size))).mono ?_; rintro e w2 ⟨g, cap, rfl, h1, h2, h3⟩; have H2 : Hid (w1.heap.size ≤ g ∧ OwnB w2 g cap (bmp D T (i / 4096)) ∧ Below w1.heap.size w1 w2) := ⟨h1, h2, h3⟩; have hr : w2.heap[w.heap.size + 1]? = some (.cells #[.int .i64 0, .slice none 0 0, .int .i64 0] 122 (0, 0)) := (h3.block _ (by have := H1.out.size; have := HZ.out.2.1; omega)).trans ((H1.out.block _ (by have := HZ.out.2.1; omega)).trans HZ.out.2.2); have HRr : Hid (w2.heap[w.heap.size + 1]? = some (.cells #[.int .i64 0, .slice none 0 0, .int .i64 0] 122 (0, 0))) := hr; have hp0 : w2.cell? ⟨w.heap.size + 1, 0, none⟩ = some (.int .i64 0) := (by rw [cell_of_row _ _ _ _ _ _ hr]; rfl); have hp1 : w2.cell? ⟨w.heap.size + 1, 1, none⟩ = some (.slice none 0 0) := (by rw [cell_of_row _ _ _ _ _ _ hr]; rfl); have hp2 : w2.cell? ⟨w.heap.size + 1, 2, none⟩ = some (.int .i64 0) := (by rw [cell_of_row _ _ _ _ _ _ hr]; rfl); have hpf : ∀ j, w2.frozen? ⟨w.heap.size + 1, j, none⟩ = false := (fun j => frozen_of_row _ _ _ _ _ hr); clear h1 h2 h3 hr HR))
  have h1 := heap_setCell_same _ _ 0 _ _ (.int .i64 (A : Int)) HRr.out
  have h2 := heap_setCell_same _ _ 1 _ _ (.slice (some ⟨g, 0, none⟩) 512 cap) h1
  have h3 := heap_setCell_same _ _ 2 _ _ (.int .i64 (J : Int)) h2
  have c0 := cell_of_row _ _ 0 _ _ _ h3
  have c1 := cell_of_row _ _ 1 _ _ _ h3
  have c2 := cell_of_row _ _ 2 _ _ _ h3
  refine bodyPost_ret (results_row_tmp7 rfl _ _ (w.heap.size + 1) #[.int .i64 (A : Int), .slice (some ⟨g, 0, none⟩) 512 cap, .int .i64 (J : Int)] rfl (by simp [go_sem, c0, c1, c2])) rfl ?_
  have hs := HZ.out.2.1
  have hs1 := H1.out.size
  have hs2 := H2.out.2.2.size
  have hgg := H2.out.1
  have hFr : Fr (fun k => k = w.heap.size + 1) w2 (((w2.setCell ⟨w.heap.size + 1, 0, none⟩ (.int .i64 (A : Int))).setCell ⟨w.heap.size + 1, 1, none⟩ (.slice (some ⟨g, 0, none⟩) 512 cap)).setCell ⟨w.heap.size + 1, 2, none⟩ (.int .i64 (J : Int))) := (Fr.set.trans Fr.set (fun _ hk => .inl hk)).trans Fr.set (fun _ hk => .inl hk)
  have hb2 : Below w.heap.size w w2 := HZ.out.1.trans ((H1.out.mono HZ.out.1.size).trans (H2.out.2.2.mono (by omega)))
  refine ⟨g, cap, rfl, by omega, H2.out.2.1.fr hFr (by show ¬ g = w.heap.size + 1; omega), hb2.trans (hFr.below _ (fun k hk => by have hk : k = w.heap.size + 1 := hk; omega) (by omega))⟩
set_option maxRecDepth 100000 in
theorem taken_bit (w : World) (i g cap : Nat) (l : List Int) (hb : Bytes w (some ⟨g, 0, none⟩) l) (hl : l.length = 512) :
    Calls Tryz.prog 73 #[plV i g cap] w fun e w' => e = .returned (.bool (bt l (i % 4096))) ∧ Below w.heap.size w w' := by
  have HB : Hid (Bytes w (some ⟨g, 0, none⟩) l) := hb
  obtain ⟨A, hA⟩ : ∃ A, 98 + i / 4096 = A := ⟨_, rfl⟩
  obtain ⟨J, hJ⟩ : ∃ J, i % 4096 = J := ⟨_, rfl⟩
  have hJ8 : J < 8 * 512 := by omega
  unfold plV
  rw [hA, hJ]
  clear hb hA hJ
  go_enter Tryz.func73, Tryz.ntmps73
  go_wp2_with (go_at_call 109; refine (get_yes _ ⟨g, 0, none⟩ 512 cap J l (HB.out.on ((Below.refl _ _).alloc (Nat.le_refl _) _)) hl hJ8).mono ?_; rintro e w1 ⟨rfl, m, rfl⟩)
  go_ret
  exact ⟨rfl, ((Below.refl _ _).alloc (Nat.le_refl _) _).trans (belowN_drewN _ _ _)⟩
set_option maxRecDepth 100000 in
set_option maxHeartbeats 4000000 in
theorem put_bit (w0 wq w : World) (D : Dk) (T : Tx) (n : Nat) (h : Spc w0 wq D T n) (hq : Below wq.heap.size wq w) (i g cap : Nat) (hi : i < n) (ho : OwnB w g cap (bmp D T (i / 4096))) (hg : wq.heap.size ≤ g) (on : Bool) (hr : (T.c (98 + i / 4096)).isSome = true ∨ (lst T.c n).length < 96) (hu : T.us.length + 1 ≤ 1000000) :
    Calls Tryz.prog 74 #[plV i g cap, .pointer (some ⟨T.t, 0, none⟩), .bool on] w fun e w' => e = .returned (.int .i64 0) ∧ ∃ T', PutE w0 w w' D T T' n (98 + i / 4096) (bput (bmp D T (i / 4096)) (i % 4096) on) g := by
  have hN := nM_bd h.lo h.hi
  have hk : i / 4096 < nM n := by unfold nM; omega
  have hl := h.bm.len (i / 4096) hk
  have HP : Hid (∀ wx, Below w.heap.size w wx → Calls Tryz.prog 110 #[.slice (some ⟨g, 0, none⟩) 512 cap, .int .i64 ((i % 4096 : Nat) : Int), .bool on] wx fun e w' => e = .returned (.int .i64 0) ∧ OwnB w' g cap (bput (bmp D T (i / 4096)) (i % 4096) on) ∧ Fr (fun k => k = g) wx w') := fun wx hb => put_own wx g 512 cap cap (i % 4096) _ on (ho.on hb) hl (by omega)
  have HW : Hid (∀ wx w', Below w.heap.size w wx → OwnB w' g cap (bput (bmp D T (i / 4096)) (i % 4096) on) → Fr (fun k => k = g) wx w' → Calls Tryz.prog 34 #[.pointer (some ⟨T.t, 0, none⟩), .int .i64 ((98 + i / 4096 : Nat) : Int), .slice (some ⟨g, 0, none⟩) 512 cap] w' fun e w9 => e = .returned (.int .i64 0) ∧ ∃ T', PutE w0 w w9 D T T' n (98 + i / 4096) (bput (bmp D T (i / 4096)) (i % 4096) on) g) := fun wx w' hb h2 h3 => by
    have hb1 : Below wq.heap.size wq w' := (hq.trans (hb.mono hq.size)).trans (h3.below _ (fun k hk => by have hk : k = g := hk; omega) (Nat.le_trans hq.size hb.size))
    refine ((h.on hb1).write (98 + i / 4096) (by omega) (by omega) ⟨g, 0, none⟩ cap _ h2.bytes (by rw [bput_length, hl]) hr (by omega)).mono ?_
    rintro e w9 ⟨rfl, T', hx⟩
    exact ⟨rfl, T', ⟨w', (below_fr hb _).trans h3 (fun k hk => .inl hk), hx.mv⟩, hx.spc, hx.t, hx.c, hx.u⟩
  obtain ⟨x, hx⟩ : ∃ x, bput (bmp D T (i / 4096)) (i % 4096) on = x := ⟨_, rfl⟩
  obtain ⟨A, hA⟩ : ∃ A, 98 + i / 4096 = A := ⟨_, rfl⟩
  obtain ⟨J, hJ⟩ : ∃ J, i % 4096 = J := ⟨_, rfl⟩
  rw [hx] at HP HW
  rw [hx]
  unfold plV
  rw [hA] at HW
  rw [hJ] at HP
  rw [hA, hJ]
  have hgl : g < w.heap.size := ho.lt
  clear h ho hr hx hA hJ hq
  go_enter Tryz.func74, Tryz.ntmps74
  have HB0 : Hid (Below w.heap.size w (w.alloc (.cells #[.int .i64 (A : Int), .slice (some ⟨g, 0, none⟩) 512 cap, .int .i64 (J : Int)] 122))) := (Below.refl _ _).alloc (Nat.le_refl _) _
  obtain ⟨wa, hwa⟩ : ∃ wa, w.alloc (.cells #[.int .i64 (A : Int), .slice (some ⟨g, 0, none⟩) 512 cap, .int .i64 (J : Int)] 122) = wa := ⟨_, rfl⟩
  have hra : wa.heap[w.heap.size]? = some (.cells #[.int .i64 (A : Int), .slice (some ⟨g, 0, none⟩) 512 cap, .int .i64 (J : Int)] 122 (0, 0)) := by rw [← hwa]; exact heap_alloc_new _ _
  have q0 : wa.cell? ⟨w.heap.size, 0, none⟩ = some (.int .i64 (A : Int)) := by rw [cell_of_row _ _ _ _ _ _ hra]; rfl
  have q1 : wa.cell? ⟨w.heap.size, 1, none⟩ = some (.slice (some ⟨g, 0, none⟩) 512 cap) := by rw [cell_of_row _ _ _ _ _ _ hra]; rfl
  have q2 : wa.cell? ⟨w.heap.size, 2, none⟩ = some (.int .i64 (J : Int)) := by rw [cell_of_row _ _ _ _ _ _ hra]; rfl
  have HQ : Hid (Below w.heap.size w wa ∧ wa.heap[w.heap.size]? = some (.cells #[.int .i64 (A : Int), .slice (some ⟨g, 0, none⟩) 512 cap, .int .i64 (J : Int)] 122 (0, 0))) := ⟨by rw [← hwa]; exact HB0.out, hra⟩
  clear hra HB0
  go_wp2_with (first
    | (go_at_call 110; refine (HP.out _ HQ.out.1).mono ?_; rintro e w1 ⟨rfl, h2, h3⟩; have H1 : Hid (OwnB w1 g cap x ∧ Fr (fun k => k = g) wa w1) := ⟨h2, h3⟩; have hra1 := h3.heap HQ.out.2 (show ¬ w.heap.size = g from by omega); have s0 : w1.cell? ⟨w.heap.size, 0, none⟩ = some (.int .i64 (A : Int)) := (by rw [cell_of_row _ _ _ _ _ _ hra1]; rfl); have s1 : w1.cell? ⟨w.heap.size, 1, none⟩ = some (.slice (some ⟨g, 0, none⟩) 512 cap) := (by rw [cell_of_row _ _ _ _ _ _ hra1]; rfl); clear h2 h3 hra1 HP)
    | (go_at_call 34; refine (HW.out _ _ HQ.out.1 H1.out.1 H1.out.2).mono ?_; rintro e w2 ⟨rfl, T', hx⟩; clear HW))
  go_ret
  exact ⟨rfl, T', hx⟩
end Go.Proofs.YtflienghgobmoaaGreatDoor
