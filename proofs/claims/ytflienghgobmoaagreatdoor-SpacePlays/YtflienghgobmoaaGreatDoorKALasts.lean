import Derived.Test.YtflienghgobmoaaGreatDoorKTxY
import Derived.Test.YtflienghgobmoaaGreatDoorKWFm
import Derived.Deep.MidRow
import Derived.Deep.RegionHeldLaw
import Derived.RangeFuncNested
import Derived.RangeFuncBound
import Derived.RangeFuncCalls
import Derived.RangeFuncLeaves
import Derived.RangeFuncWrites
import Derived.Shelf.Abstract
import Derived.Shelf.RegionOpen
import Derived.OwnWalkIn
import Derived.TacticsInMore
import Derived.LoopNIn
import Derived.LoopIn
namespace Go.Proofs.YtflienghgobmoaaGreatDoor
open Go.RowKit Rec

/-- nothing armed, so many steps -/
structure LaI (a : AD) (m k : Nat) : Prop where
  nb : a.nb = m
  len : a.las.length = 512 * m
  P : a.P.length ≤ k
  T : a.T.length ≤ k
  wr : a.wr ≤ k
  fl : a.fl ≤ k
  at_ : a.at_ = 0
  keep : a.keep = []
  down : a.down = false
theorem LaI.room {a : AD} {m k : Nat} (h : LaI a m k) (hk : k ≤ 200) : RoomD a :=
  ⟨by have := h.P; omega, by have := h.T; omega, by have := h.wr; omega, by have := h.fl; omega, by rw [h.keep]; simp⟩
theorem LaI.step {a : AD} {m k : Nat} (h : LaI a m k) : a.stepE = 0 := by unfold AD.stepE; rw [if_neg (by rw [h.at_]; decide)]
theorem do_f {a : AD} (b x : Int) (h : a.at_ = 0) : a.do b x true = { a with fl := a.fl + 1, T := a.T ++ [(2, 0, [])], las := a.full, P := [] } := by
  show AD.flush _ = _
  unfold AD.flush
  rw [if_neg (by rw [h]; decide)]
  have e : AD.tick { a with fl := a.fl + 1 } = { a with fl := a.fl + 1 } := by
    unfold AD.tick
    exact if_neg (by show ¬ (0 : Int) < a.at_; rw [h]; decide)
  simp only [e]
  rfl
theorem LaI.next_f {a : AD} {m k : Nat} (h : LaI a m k) (b x : Int) : LaI (a.do b x true) m (k + 1) ∧ (a.do b x true).las = a.full ∧ (a.do b x true).full = a.full := by
  refine ⟨?_, ?_, ?_⟩
  · rw [do_f b x h.at_]
    exact ⟨h.nb, by show a.full.length = _; unfold AD.full; rw [lay_length]; exact h.len, by show 0 ≤ _; omega, by show (a.T ++ _).length ≤ _; have := h.T; simp; omega, by show a.wr ≤ _; have := h.wr; omega, by show a.fl + 1 ≤ _; have := h.fl; omega, h.at_, h.keep, h.down⟩
  · rw [do_f b x h.at_]
  · rw [do_f b x h.at_]; rfl
end Go.Proofs.YtflienghgobmoaaGreatDoor

namespace Go.Proofs.YtflienghgobmoaaGreatDoor
open Go.RowKit Rec

theorem Bools.news {w : World} {p : Addr} {n c : Nat} {l : List Bool} (h : Bools w (.slice (some p) n c) l) : ∀ j u, (l.map Value.bool)[j]? = some u → w.cell? (p.add j) = some u := by
  intro j u hj
  obtain ⟨a, c', hv, hb⟩ := h
  cases hv
  rw [List.getElem?_map] at hj
  cases hl : l[j]? with
  | none => rw [hl] at hj; cases hj
  | some x =>
    rw [hl] at hj
    cases hj
    rcases hb with rfl | ⟨b, off, e, hc⟩
    · simp at hl
    · cases e
      rw [Addr.add_lit]; exact hc j x hl
/-- a power cut armed -/
def Dk.arm (D : Dk) (t : Int) (v : Value) (keep : List Bool) : Dk := { D with at_ := t, kv := v, keep := keep }
def AD.arm (a : AD) (t : Int) (keep : List Bool) : AD := { a with at_ := t, keep := keep }
theorem Disk.armed {w wb w1 w2 : World} {D : Dk} {t : Int} {v : Value} {keep : List Bool} (h : Disk w D) (hb : Below w.heap.size w wb) (hk : Bools wb v keep) (hv : ∀ k, v.ownBlock = some k → w.heap.size ≤ k ∧ k < wb.heap.size) (ht : t ≤ 9223372036854775807)
    (e1 : w1 = wb.setCell ⟨D.d, 6, none⟩ (.int .i64 t)) (e2 : w2 = w1.setCell ⟨D.d, 7, none⟩ v) : Disk w2 (D.arm t v keep) ∧ Mv w D w2 (D.arm t v keep) := by
  have f1 : Fr (fun i => i = D.d) wb w1 := e1 ▸ Fr.set
  have f2 : Fr (fun i => i = D.d) w1 w2 := e2 ▸ Fr.set
  have f : Fr (fun i => i = D.d) wb w2 := f1.trans f2 (fun _ e => .inl e)
  have hw := h.on hb
  have hfr : Fr D.has wb w2 := f.mono (fun _ e => .inl e)
  have hm : Mv w D w2 (D.arm t v keep) := ⟨(below_fr hb D.has).trans hfr (fun _ h => .inl h), fun _ h => .inl h, rfl, rfl⟩
  refine ⟨?_, hm⟩
  exact {
    row := by
      have r1 := heap_setCell_same _ _ 6 _ _ (.int .i64 t) hw.row
      rw [← e1] at r1
      have r2 := heap_setCell_same _ _ 7 _ _ v r1
      rw [← e2] at r2
      exact r2
    las := hw.las.fr f (fun e => h.ap.dL e.symm)
    lasl := h.lasl
    nb0 := h.nb0
    nb1 := h.nb1
    nws := owns_fr hw.nws f (fun k hk e => by cases hk; exact h.ap.dn e.symm)
    pen := owns_fr hw.pen f (fun k hk => (h.ap.p k hk).1)
    penb := fun p hp => ⟨(h.penb p hp).1, (h.penb p hp).2.1, (hw.penb p hp).2.2.1.fr hfr (h.penb p hp).2.2.2, (h.penb p hp).2.2.2⟩
    tap := owns_fr hw.tap f (fun k hk => (h.ap.t k hk).1)
    tapb := fun a ha => by
      rcases hw.tapb a ha with ⟨h1, h2, h3, h4, g, cap, h5, h6, h7⟩ | h'
      · exact .inl ⟨h1, h2, h3, h4, g, cap, h5, h6.fr hfr h7, h7⟩
      · exact .inr h'
    kee := hk.fr f (fun _ k hk e => absurd (hv k hk).1 (by have := h.lt; have e : k = D.d := e; omega))
    keb := fun k hk e => absurd (h.hasLt e) (Nat.not_lt.2 (hv k hk).1)
    kel := fun k hk => Nat.lt_of_lt_of_le (hv k hk).2 hfr.size
    ap := ⟨h.ap.dL, h.ap.dn, h.ap.Ln, h.ap.p, h.ap.t⟩
    dn := h.dn
    pl := h.pl
    tl := h.tl
    wrs := h.wrs
    fls := h.fls
    at1 := ht }
end Go.Proofs.YtflienghgobmoaaGreatDoor

namespace Go.Proofs.YtflienghgobmoaaGreatDoor
open Go.RowKit Rec

theorem Rest.well {a : AD} {nb : Nat} {l : List Int} (h : Rest a nb l) (hn : 98 ≤ nb) : Well nb l l := ⟨h.len, (log_empty hn h.log).2.2, by rw [h.behind hn]; exact fun _ _ _ => rfl⟩
/-- a disk over what lasts -/
structure Lst (nb : Nat) (w0 w : World) (X : Dk) (W : List Int) : Prop where
  mine : Mine w0 w X
  well : Well nb W X.las
theorem Lst.on {nb : Nat} {w0 w w' : World} {X : Dk} {W : List Int} (h : Lst nb w0 w X W) (hb : Below w.heap.size w w') : Lst nb w0 w' X W := ⟨h.mine.on hb, h.well⟩
/-- the recovery that ends -/
structure Ended (nb : Nat) (w0 w : World) (E : Dk) (W : List Int) : Prop where
  mine : Mine w0 w E
  rest : Rest E.abs nb E.las
  like : Like nb E.las W
theorem Ended.on {nb : Nat} {w0 w w' : World} {E : Dk} {W : List Int} (h : Ended nb w0 w E W) (hb : Below w.heap.size w w') : Ended nb w0 w' E W := ⟨h.mine.on hb, h.rest, h.like⟩
end Go.Proofs.YtflienghgobmoaaGreatDoor

namespace Go.Proofs.YtflienghgobmoaaGreatDoor
open Go.RowKit Go.Maps Rec

/-- what block i of a fresh disk is full of -/
def v6 (i : Nat) : Int := if 0 < i ∧ i < 98 then 0 else (i : Int)
def fr6 (m : Nat) : List Int := (List.range m).flatMap (fun i : Nat => one (v6 i))
theorem fr6_succ (m : Nat) : fr6 (m + 1) = fr6 m ++ one (v6 m) := by
  unfold fr6
  rw [List.range_succ, List.flatMap_append]; simp
theorem fr6_length (m : Nat) : (fr6 m).length = 512 * m := by
  induction m with
  | zero => rfl
  | succ m ih => rw [fr6_succ, List.length_append, ih, one_length]; omega
theorem nth_fr6 (m i : Nat) (h : i < 512 * m) : nth (fr6 m) i = v6 (i / 512) := by
  induction m with
  | zero => omega
  | succ m ih =>
    rw [fr6_succ, nth_app, fr6_length]
    by_cases h2 : i < 512 * m
    · rw [if_pos h2]; exact ih h2
    · rw [if_neg h2, one, nth_rep _ _ _ (by omega), show i / 512 = m by omega]
theorem bck_fr6 (m i : Nat) (hi : i < m) : bck (fr6 m) i = one (v6 i) := by
  refine ext_nth (by rw [blk_length (fr6_length m) hi, one_length]) fun j hj => ?_
  rw [blk_length (fr6_length m) hi] at hj
  rw [nth_blk (fr6_length m) hi j hj, nth_fr6 m _ (by omega), one, nth_rep _ _ _ hj, show (512 * i + j) / 512 = i by omega]
theorem Fresh.rest {a : AD} {nb : Nat} {l : List Int} (h : Fresh a nb l) (h1 : bck l 1 = zs) : Rest a nb l := ⟨h.size, h.las, h.pen, h.down, h.at_, h.len, h1⟩
end Go.Proofs.YtflienghgobmoaaGreatDoor

namespace Go.Proofs.YtflienghgobmoaaGreatDoor
open Go.RowKit Go.Maps Rec

/-- a disk and a transaction on it -/
structure Ses (w0 w : World) (D : Dk) (T : Tx) : Prop where
  dk : Mine w0 w D
  tx : TxAt w T
  d : D.d = T.d
  nb : D.nb = T.nb
  ap1 : ∀ k, T.all k → ¬ D.has k
  ap2 : ∀ k, T.has k → ¬ D.all k
  far : ∀ k, T.all k → w0.heap.size ≤ k
theorem Ses.on {w0 w w' : World} {D : Dk} {T : Tx} (h : Ses w0 w D T) (hb : Below w.heap.size w w') : Ses w0 w' D T := ⟨h.dk.on hb, h.tx.on hb, h.d, h.nb, h.ap1, h.ap2, h.far⟩
theorem Ses.bel {w0 w : World} {D : Dk} {T : Tx} (h : Ses w0 w D T) : Below w0.heap.size w0 w := h.dk.bel
theorem Ses.mv {w0 w w' : World} {D : Dk} {T T' : Tx} (h : Ses w0 w D T) (ht : TxAt w' T') (hm : TMv w T w' T') : Ses w0 w' D T' := by
  refine ⟨⟨h.dk.disk.fr hm.fr (fun k hk hh => h.ap2 k hh hk), h.dk.far, h.dk.bel.trans (hm.fr.below _ (fun k hk => h.far k (.inl hk)) h.dk.bel.size)⟩, ht, h.d.trans hm.d.symm, h.nb.trans hm.nb.symm, fun k hk hh => ?_, fun k hk hh => ?_, fun k hk => ?_⟩
  · rcases hm.al k hk with e | e
    · exact h.ap1 k e hh
    · have := h.dk.hasLt k hh; omega
  · rcases hm.has k hk with e | e
    · exact h.ap2 k e hh
    · have := h.dk.disk.allLt hh; omega
  · rcases hm.al k hk with e | e
    · exact h.far k e
    · exact Nat.le_trans h.dk.bel.size e
theorem lst_ok {c : Cm} {n : Nat} (h : COk c n) (hb : ∀ i q, c i = some q → q.x.length = 512) (h0 : 98 ≤ n) (h1 : n ≤ 16384) (hne : lst c n ≠ []) (hl : (lst c n).length ≤ 96) : ComOk n (nsB (lst c n)) (dsB (lst c n)) := by
  have hp : 0 < (lst c n).length := by
    cases e : lst c n with
    | nil => exact absurd e hne
    | cons a l => simp
  refine ⟨h0, h1, pre_nsB _ (fun q hq => ?_) (lst_ris h) _ (fun q hq => ?_), by simp [nsB]; omega, by simp [nsB]; omega, by simp [nsB, dsB], fun b hb' => ?_⟩
  · obtain ⟨i, hi, e⟩ := lst_mem hq
    rw [h.num i q e]
    have := h.lo i q e
    omega
  · obtain ⟨i, hi, e⟩ := lst_mem hq
    rw [h.num i q e]
    omega
  · simp only [dsB, List.mem_map] at hb'
    obtain ⟨q, hq, rfl⟩ := hb'
    obtain ⟨i, hi, e⟩ := lst_mem hq
    exact hb i q e
theorem ses_write (w0 w : World) (D : Dk) (T : Tx) (S : Ses w0 w D T) (i : Nat) (h0 : 98 ≤ i) (h1 : i < T.nb) (p : Addr) (c : Nat) (x : List Int) (hb : Bytes w (some p) x) (hx : x.length = 512) (hr : (T.c i).isSome = true ∨ (lst T.c T.nb).length < 96) (hu : T.us.length + 1 ≤ 4000000) :
    Calls Tryz.prog 34 #[.pointer (some ⟨T.t, 0, none⟩), .int .i64 (i : Int), .slice (some p) 512 c] w fun e w' => e = .returned (.int .i64 0) ∧ ∃ T' q u, Ses w0 w' D T' ∧ TMv w T w' T' ∧ q.x = x ∧ q.n = (i : Int) ∧ T'.c = ups T.c i (some q) ∧ T'.us = T.us ++ [u] ∧ u.i = i ∧ u.old = T.c i := by
  refine (twrite_ok w T D S.tx S.dk.disk S.d S.nb i h0 h1 p c x hb hx hr hu).mono ?_
  rintro e w' ⟨rfl, T', q, u, h1, h2, h3, h4, h5⟩
  exact ⟨rfl, T', q, u, S.mv h1 h2, h2, h3, h4, h5⟩
end Go.Proofs.YtflienghgobmoaaGreatDoor

namespace Go.Proofs.YtflienghgobmoaaGreatDoor
open Go.RowKit Go.Maps Rec

def valC (c : Cm) (l : List Int) (i : Nat) : List Int := match c i with | some q => q.x | none => bck l i
theorem valC_some {c : Cm} {l : List Int} {i : Nat} {q : Bk} (h : c i = some q) : valC c l i = q.x := by simp [valC, h]
theorem valC_none {c : Cm} {l : List Int} {i : Nat} (h : c i = none) : valC c l i = bck l i := by simp [valC, h]
end Go.Proofs.YtflienghgobmoaaGreatDoor

namespace Go.Proofs.YtflienghgobmoaaGreatDoor
open Go.RowKit Go.Maps Rec

end Go.Proofs.YtflienghgobmoaaGreatDoor

namespace Go.Proofs.YtflienghgobmoaaGreatDoor
open Go.RowKit Go.Maps Rec

def rowU (f : Nat → Int) : Array Value := ((List.range 118).map fun j => Value.int .u8 (f j)).toArray
def rowB (f : Nat → Bool) : Array Value := ((List.range 118).map fun j => Value.bool (f j)).toArray
def updF {α : Type} (f : Nat → α) (i : Nat) (x : α) : Nat → α := fun j => if j = i then x else f j
theorem updF_same {α : Type} (f : Nat → α) (i : Nat) (x : α) : updF f i x i = x := by simp [updF]
theorem updF_other {α : Type} (f : Nat → α) {i j : Nat} (x : α) (h : j ≠ i) : updF f i x j = f j := by simp [updF, h]
theorem rowU_at (f : Nat → Int) (i : Nat) (h : i < 118) : (rowU f)[i]? = some (.int .u8 (f i)) := by simp [rowU, h]
theorem rowB_at (f : Nat → Bool) (i : Nat) (h : i < 118) : (rowB f)[i]? = some (.bool (f i)) := by simp [rowB, h]
/-- to go back over undo steps, the last one first -/
def undo (c : Cm) (us : List Un) : Cm := us.foldr (fun u c => ups c u.i u.old) c
theorem undo_snoc (c : Cm) (us : List Un) (u : Un) : undo c (us ++ [u]) = undo (ups c u.i u.old) us := by simp [undo]
/-- a transaction that was written on -/
def Ext (T T' : Tx) (k : Nat) : Prop := ∃ ext, T'.us = T.us ++ ext ∧ ext.length = k ∧ undo T'.c ext = T.c
theorem Ext.refl (T : Tx) : Ext T T 0 := ⟨[], by simp, rfl, rfl⟩
theorem Ext.next {T T' T'' : Tx} {k : Nat} {q : Option Bk} {u : Un} {i : Nat} (h : Ext T T' k) (hc : T''.c = ups T'.c i q) (hu : T''.us = T'.us ++ [u]) (hi : u.i = i) (ho : u.old = T'.c i) : Ext T T'' (k + 1) := by
  obtain ⟨ext, e1, e2, e3⟩ := h
  refine ⟨ext ++ [u], by rw [hu, e1, List.append_assoc], by simp [e2], ?_⟩
  rw [undo_snoc, hc, hi, ho, ups_back, e3]
/-- what the two rows say of a transaction -/
def Cnt (c0 c : Cm) (now : Nat → Int) (is : Nat → Bool) : Prop := ∀ i, 98 ≤ i → i < 118 → (0 ≤ now i ∧ now i < 256) ∧ (is i = true → ∃ q, c i = some q ∧ q.x = one (now i)) ∧ (is i = false → c i = c0 i ∧ now i = (i : Int))
theorem Cnt.put {c0 c : Cm} {now : Nat → Int} {is : Nat → Bool} (h : Cnt c0 c now is) (i : Nat) (q : Bk) (x : Int) (hx : 0 ≤ x ∧ x < 256) (hq : q.x = one x) : Cnt c0 (ups c i (some q)) (updF now i x) (updF is i true) := fun j h0 h1 => by
  by_cases e : j = i
  · subst e
    rw [updF_same, updF_same, ups_same]
    exact ⟨hx, fun _ => ⟨q, rfl, hq⟩, fun e => by cases e⟩
  · rw [updF_other _ _ e, updF_other _ _ e, ups_other _ _ e]
    exact h j h0 h1
end Go.Proofs.YtflienghgobmoaaGreatDoor

namespace Go.Proofs.YtflienghgobmoaaGreatDoor
open Go.RowKit Go.Maps Rec

end Go.Proofs.YtflienghgobmoaaGreatDoor

namespace Go.Proofs.YtflienghgobmoaaGreatDoor
open Go.RowKit Go.Maps Rec

theorem fr_setCells (b : Nat) : ∀ (vs : List Value) (o : Nat) (w : World), Fr (fun k => k = b) w (w.setCells b o vs)
  | [], _, w => Fr.refl _ w
  | v :: vs, o, _ => (Fr.set (g := b) (k := o) (v := v)).trans (fr_setCells b vs (o + 1) _) (fun _ hk => .inl hk)
end Go.Proofs.YtflienghgobmoaaGreatDoor


namespace Go.Proofs.YtflienghgobmoaaGreatDoor
open Go.RowKit Go.Maps Rec

/-- the two rows in a law's own variables -/
structure Rw (w : World) (A B : Nat) (now : Nat → Int) (is : Nat → Bool) : Prop where
  u : w.rangeAt A 0 (rowU now).toList
  b : w.rangeAt B 0 (rowB is).toList
theorem Rw.cu {w : World} {A B : Nat} {now : Nat → Int} {is : Nat → Bool} (h : Rw w A B now is) (i : Nat) (hi : i < 118) : w.cell? ⟨A, i, none⟩ = some (.int .u8 (now i)) := by
  have := h.u i (.int .u8 (now i)) (by have := rowU_at now i hi; simpa using this)
  simpa using this
theorem Rw.cb {w : World} {A B : Nat} {now : Nat → Int} {is : Nat → Bool} (h : Rw w A B now is) (i : Nat) (hi : i < 118) : w.cell? ⟨B, i, none⟩ = some (.bool (is i)) := by
  have := h.b i (.bool (is i)) (by have := rowB_at is i hi; simpa using this)
  simpa using this
theorem Rw.ltA {w : World} {A B : Nat} {now : Nat → Int} {is : Nat → Bool} (h : Rw w A B now is) : A < w.heap.size := block_lt_of_cell (h.cu 0 (by omega))
theorem Rw.ltB {w : World} {A B : Nat} {now : Nat → Int} {is : Nat → Bool} (h : Rw w A B now is) : B < w.heap.size := block_lt_of_cell (h.cb 0 (by omega))
theorem Rw.fr {S : Nat → Prop} {w w' : World} {A B : Nat} {now : Nat → Int} {is : Nat → Bool} (h : Rw w A B now is) (x : Fr S w w') (hA : ¬ S A) (hB : ¬ S B) : Rw w' A B now is :=
  ⟨fun j v hv => x.cell (h.u j v hv) hA, fun j v hv => x.cell (h.b j v hv) hB⟩
theorem Rw.on {w w' : World} {A B : Nat} {now : Nat → Int} {is : Nat → Bool} (h : Rw w A B now is) (x : Below w.heap.size w w') : Rw w' A B now is := h.fr (below_fr x (fun _ => False)) (fun e => e) (fun e => e)
/-- a law behind its fill -/
structure Pre6 (w0 w : World) (D : Dk) (T : Tx) (A B : Nat) (now : Nat → Int) (is : Nat → Bool) : Prop where
  ses : Ses w0 w D T
  rw : Rw w A B now is
  nA : ¬ T.all A ∧ ¬ D.all A ∧ w0.heap.size ≤ A
  nB : ¬ T.all B ∧ ¬ D.all B ∧ w0.heap.size ≤ B
  cnt : Cnt (fun _ => none) T.c now is
theorem Pre6.on {w0 w w' : World} {D : Dk} {T : Tx} {A B : Nat} {now : Nat → Int} {is : Nat → Bool} (h : Pre6 w0 w D T A B now is) (hb : Below w.heap.size w w') : Pre6 w0 w' D T A B now is := ⟨h.ses.on hb, h.rw.on hb, h.nA, h.nB, h.cnt⟩
end Go.Proofs.YtflienghgobmoaaGreatDoor

namespace Go.Proofs.YtflienghgobmoaaGreatDoor
open Go.RowKit Go.Maps Rec

theorem lst_le (c : Cm) (n : Nat) : (lst c n).length ≤ n := by
  have := List.length_filterMap_le c (List.range n)
  simpa [lst] using this
set_option maxRecDepth 100000 in
set_option maxHeartbeats 4000000 in
/-- an undo step is carried out -/
theorem undo_step (w : World) (t mb nb : Nat) (c : Cm) (u : Un) (hc1 : w.cell? ⟨t, 1, none⟩ = some (.map (some mb))) (hM : MapAt w mb c nb) (ok : COk c nb) (hU : UnAt w t u) (hi : u.i < nb) (hn : nb ≤ 16384) (hq : ∀ q, u.old = some q → q.n = (u.i : Int)) :
    Calls Tryz.prog 78 #[.pointer (some ⟨u.bw, 0, none⟩), .pointer (some ⟨u.bb, 0, none⟩), .pointer (some ⟨u.bt, 0, none⟩), .pointer (some ⟨u.bi, 0, none⟩)] w fun e w' => e = .returned (.tuple #[]) ∧ MapAt w' mb (ups c u.i u.old) nb ∧ Fr (fun k => k = mb) w w' := by
  obtain ⟨bw, bb, bt, bi, i, old⟩ := u
  obtain ⟨cw, cb, ct, ci, _⟩ := hU
  simp only at cw cb ct ci hi hq ⊢
  have hMd : MapAt w.drew mb c nb := hM.on (Below.refl _ w).drew
  cases old with
  | none =>
    obtain ⟨w6, hr, h1, h2⟩ := hMd.drop (i := i) ok hi (by omega) 0
    have H6 : Hid (MapAt w6 mb (ups c i none) nb ∧ Fr (fun k => k = mb) w w6) := ⟨h1, (below_fr (Below.refl _ w).drew (fun k => k = mb)).trans h2 (fun k hk => .inl hk)⟩
    have cw' : w.cell? ⟨bw, 0, none⟩ = some (.bool false) := cw
    clear h1 h2 cw cb hM hMd ok hq
    go_enter Tryz.func78, Tryz.ntmps78
    go_upto_region 2 with fail
    go_region
    all_goals
      go_wp2
      go_end0
      exact ⟨rfl, H6.out.1, H6.out.2⟩
  | some q =>
    have hqn : q.n = (i : Int) := hq q rfl
    obtain ⟨w6, hr, h1, h2⟩ := hMd.store (i := i) ok hi (by omega) q hqn (Nat.le_trans (lst_le _ _) (by omega))
    have H6 : Hid (MapAt w6 mb (ups c i (some q)) nb ∧ Fr (fun k => k = mb) w w6) := ⟨h1, (below_fr (Below.refl _ w).drew (fun k => k = mb)).trans h2 (fun k hk => .inl hk)⟩
    have cw' : w.cell? ⟨bw, 0, none⟩ = some (.bool true) := cw
    obtain ⟨qg, hqg⟩ : ∃ qg, q.g = qg := ⟨_, rfl⟩
    obtain ⟨qc, hqc⟩ : ∃ qc, q.c = qc := ⟨_, rfl⟩
    have cb' : w.cell? ⟨bb, 0, none⟩ = some (.slice (some ⟨qg, 0, none⟩) 512 qc) := by rw [← hqg, ← hqc]; exact cb
    have hr' : (Instr.mapUpdate 113 (.map (some mb)) (.int .i64 (i : Int)) (.slice (some ⟨qg, 0, none⟩) 512 qc)).run Tryz.prog w.drew = .ok () w6 := by rw [← hqg, ← hqc]; exact hr
    clear h1 h2 cw cb hM hMd ok hq hr hqg hqc hqn
    go_enter Tryz.func78, Tryz.ntmps78
    go_upto_region 1 with fail
    go_region
    all_goals
      go_wp2
      go_end0
      exact ⟨rfl, H6.out.1, H6.out.2⟩
end Go.Proofs.YtflienghgobmoaaGreatDoor

namespace Go.Proofs.YtflienghgobmoaaGreatDoor
open Go.RowKit Go.Maps Go.Shelf Rec
attribute [local go_sem] Oper.semAt_some

/-- what a round keeps: all that lay, but for the map -/
def KpM (n₀ mb : Nat) (W W' : World) : Prop := ∀ k, k < n₀ → k ≠ mb → W'.heap[k]? = W.heap[k]?
theorem KpM.trans {n₀ mb : Nat} {A B C : World} (h : KpM n₀ mb A B) (k : KpM n₀ mb B C) : KpM n₀ mb A C := fun i h1 h2 => (k i h1 h2).trans (h i h1 h2)
theorem KpM.refl (n₀ mb : Nat) (A : World) : KpM n₀ mb A A := fun _ _ _ => rfl
theorem KpM.cell {n₀ mb : Nat} {A B : World} (h : KpM n₀ mb A B) {p : Addr} {v : Value} (hc : A.cell? p = some v) (h1 : p.block < n₀) (h2 : p.block ≠ mb) : B.cell? p = some v := by
  rw [World.cell?] at hc ⊢
  rw [h _ h1 h2]
  exact hc
/-- the indices of a list from the last one down to k -/
def des (L : Nat) : (k : Nat) → List (Fin L) := fun k => ((List.finRange L).drop k).reverse
theorem des_full (L : Nat) : des L L = [] := by
  unfold des
  rw [List.drop_eq_nil_of_le (by simp)]; rfl
theorem des_succ {L k : Nat} (h : k < L) : des L k = des L (k + 1) ++ [⟨k, h⟩] := by
  unfold des
  rw [List.drop_eq_getElem_cons (by simpa using h), List.reverse_cons]
  simp
theorem des_length (L k : Nat) : (des L k).length = L - k := by simp [des]
set_option maxRecDepth 100000 in
set_option maxHeartbeats 4000000 in
theorem back1_in (F : Fence) (n : Nat) (h8 : F.fn 141) (hro : F.round = none) (hn : 1 ≤ n) (l Bs n₀ mb b off L cap : Nat) (vs : Fin L → Value) (hL : L ≤ 4000000) (hb : b < n₀) (hbm : b ≠ mb) (hBn : Bs < n₀) (hBm : Bs ≠ mb) (J Jx : List (Fin L) → World → Prop)
    (hY : ∀ pre x W, J pre W → pre.length < L → YieldAt F (n - 1) Tryz.prog l #[.int .i64 (x.1 : Int), vs x] W fun e W' => (e = .returned (.bool true) ∧ J (pre ++ [x]) W' ∧ KpM n₀ mb W W') ∨ (e = .returned (.bool false) ∧ Jx (pre ++ [x]) W'))
    (W : World) (hBs : W.cell? ⟨Bs, 0, none⟩ = some (.slice (some ⟨b, off, none⟩) L cap)) (hc : ∀ j : Fin L, W.cell? ⟨b, off + j.1, none⟩ = some (vs j)) (h0 : J [] W) :
    CallsIn F n Tryz.prog 141 #[.func (.yield l) #[] #[], .pointer (some ⟨Bs, 0, none⟩)] W fun e W' => (∃ v, e = .returned v) ∧ ((∃ ys, ys = des L 0 ∧ J ys W') ∨ (∃ pre, True ∧ Jx pre W')) := by
  have hw1 : wrap64 ((L : Int) - 1) = (L : Int) - 1 := by rw [wrap64]; omega
  refine callsIn_of_wp Tryz.func141 rfl h8 ?_ hro
  simp only [Tryz.ntmps141, List.size_toArray, List.length_cons, List.length_nil, Nat.reduceAdd, Nat.reduceSub, Array.replicate_succ, Array.replicate_zero, List.push_toArray, List.append_toArray, List.nil_append, List.cons_append]
  gi_wp2
  gi_loopw [3] (fun s wr => ∃ (k : Nat) (i : Int), k ≤ L ∧ i = (k : Int) - 1 ∧ s = .int .i64 i ∧ J (des L k) wr ∧ KpM n₀ mb W wr) (fun s _ => (intOf s + 1).toNat)
  case atStart => exact ⟨L, _, Nat.le_refl _, rfl, by simp, by rw [des_full]; exact h0, KpM.refl _ _ _⟩
  case round =>
    obtain ⟨k, i, hk, hik, rfl, hJs, hnx⟩ := hrel
    have hBs' := hnx.cell hBs hBn hBm
    cases k with
    | zero =>
      have hi : i < 0 := by omega
      have hJ0 := hJs
      clear hik hJs
      gi_wp2
      go_end0
      exact ⟨⟨_, rfl⟩, .inl ⟨_, rfl, hJ0⟩⟩
    | succ j =>
      obtain rfl : i = (j : Int) := by omega
      have hj : j < L := by omega
      have hcx : wr.cell? ⟨b, off + j, none⟩ = some (vs ⟨j, hj⟩) := hnx.cell (hc ⟨j, hj⟩) hb hbm
      obtain ⟨fn, tmps, assign, body, hy, hR⟩ := hY _ ⟨j, hj⟩ wr hJs (by rw [des_length]; omega)
      dsimp only at hy
      have hw2 : wrap64 ((j : Int) - 1) = (j : Int) - 1 := by rw [wrap64]; omega
      generalize hv : vs ⟨j, hj⟩ = vj at hcx hy
      clear hik
      gi_wp2
      refine hR.mono ?_
      rintro e W3 (⟨rfl, hJ3, hk3⟩ | ⟨rfl, hJx3⟩)
      · gi_wp2
        go_roundw
        case rel => exact ⟨j, _, by omega, rfl, by simp, by rw [des_succ hj]; exact hJ3, hnx.trans hk3⟩
        case measure => first | (simp [intOf]; done) | (simp [intOf]; omega)
      · gi_wp2
        refine bodyPost_ret (results_none rfl _ _ _) rfl ?_
        exact ⟨⟨_, rfl⟩, .inr ⟨_, trivial, hJx3⟩⟩
set_option maxRecDepth 100000 in
set_option maxHeartbeats 4000000 in
/-- .. of no steps: no round -/
theorem back0_in (F : Fence) (n : Nat) (h8 : F.fn 141) (hro : F.round = none) (l Bs : Nat) (a : Option Addr) (c : Nat) (J : List (Fin 0) → World → Prop) (W : World) (hBs : W.cell? ⟨Bs, 0, none⟩ = some (.slice a 0 c)) (h0 : J [] W) :
    CallsIn F n Tryz.prog 141 #[.func (.yield l) #[] #[], .pointer (some ⟨Bs, 0, none⟩)] W fun e W' => (∃ v, e = .returned v) ∧ J [] W' := by
  refine callsIn_of_wp Tryz.func141 rfl h8 ?_ hro
  simp only [Tryz.ntmps141, List.size_toArray, List.length_cons, List.length_nil, Nat.reduceAdd, Nat.reduceSub, Array.replicate_succ, Array.replicate_zero, List.push_toArray, List.append_toArray, List.nil_append, List.cons_append]
  gi_wp2
  gi_loopw [3] (fun s wr => s = .int .i64 (-1) ∧ J [] wr) (fun _ _ => 0)
  case atStart => exact ⟨rfl, h0⟩
  case round =>
    obtain ⟨rfl, hJs⟩ := hrel
    gi_wp2
    go_end0
    exact ⟨⟨_, rfl⟩, hJs⟩
theorem back_in (F : Fence) (n : Nat) (h6 : F.fn 103) (hro : F.round = none) (a : Option Addr) (len cap : Nat) (w : World) :
    CallsIn F n Tryz.prog 103 #[.slice a len cap] w fun e w' => e = .returned (.func (.func 141) #[] #[.pointer (some ⟨w.heap.size, 0, none⟩)]) ∧ w' = w.alloc (.cells #[.slice a len cap] 114) := by
  refine callsIn_of_wp Tryz.func103 rfl h6 ?_ hro
  simp only [Tryz.ntmps103, List.size_toArray, List.length_cons, List.length_nil, Nat.reduceAdd, Nat.reduceSub, Array.replicate_succ, Array.replicate_zero, List.push_toArray, List.append_toArray, List.nil_append, List.cons_append]
  gi_wp2
  go_ret
  exact ⟨rfl, rfl⟩
/-- slices.Backward(s): the last one first -/
theorem back_stops (F : Fence) (n : Nat) (h8 : F.fn 141) (hro : F.round = none) (hn : 1 ≤ n) (Bs n₀ mb L cap : Nat) (a : Option Addr) (vs : Fin L → Value) (hL : L ≤ 4000000) (w : World) (hBn : Bs < n₀) (hBm : Bs ≠ mb) (hn0 : n₀ ≤ w.heap.size)
    (hc : w.cell? ⟨Bs, 0, none⟩ = some (.slice a L cap)) (hI : L = 0 ∨ ∃ b off, a = some ⟨b, off, none⟩ ∧ b < n₀ ∧ b ≠ mb ∧ ∀ j : Fin L, w.cell? ⟨b, off + j.1, none⟩ = some (vs j)) :
    SeqStopsK F n Tryz.prog 141 #[.pointer (some ⟨Bs, 0, none⟩)] (fun x : Fin L => #[Value.int .i64 (x.1 : Int), vs x]) (KpM n₀ mb) (fun ys => ys = des L 0) (fun _ => True) L w := fun l J Jx W hW _ _ hY h0 => by
  have hc' := (hW.cell (p := ⟨Bs, 0, none⟩) (by show Bs < _; omega)).trans hc
  rcases hI with rfl | ⟨b, off, rfl, hb, hbm, hcs⟩
  · refine (back0_in F n h8 hro l Bs a cap J W hc' h0).mono fun e W' ⟨he, hj⟩ => ⟨he, .inl ⟨_, ?_, hj⟩⟩
    rw [des_full]
  · exact back1_in F n h8 hro hn l Bs n₀ mb b off L cap vs hL hb hbm hBn hBm J Jx hY W hc' (fun j => (hW.cell (p := ⟨b, off + j.1, none⟩) (by show b < _; omega)).trans (hcs j)) h0
end Go.Proofs.YtflienghgobmoaaGreatDoor
