import Derived.Test.YtckldbhaaagncaaGreatDoorTxN0
namespace Go.Proofs.YtckldbhaaagncaaGreatDoor
open Go.RowKit Go.Maps Rec

/-- bools that are handed in -/
structure Bo (w : World) (a : Option Addr) (n c : Nat) (keep : List Bool) : Prop where
  bools : Bools w (.slice a n c) keep
  len : keep.length = n
  nil : a = none → c = 0
  top : n ≤ 140737488351232
theorem Bo.on {w w' : World} {a : Option Addr} {n c : Nat} {keep : List Bool} (h : Bo w a n c keep) (hb : Below w.heap.size w w') : Bo w' a n c keep := ⟨h.bools.on hb, h.len, h.nil, h.top⟩
theorem Pre6.arm {w0 w w' : World} {D E : Dk} {T : Tx} {A B : Nat} {now : Nat → Int} {is : Nat → Bool} (h : Pre6 w0 w D T A B now is) (hd : Disk w' E) (hm : Mv w D w' E) (ha : Al w.heap.size D E) : Pre6 w0 w' E T A B now is := by
  have lA := h.rw.ltA
  have lB := h.rw.ltB
  refine ⟨h.ses.dmv hd hm ha, h.rw.fr hm.fr (fun e => h.nA.2.1 (.inl e)) (fun e => h.nB.2.1 (.inl e)), ⟨h.nA.1, fun e => ?_, h.nA.2.2⟩, ⟨h.nB.1, fun e => ?_, h.nB.2.2⟩, h.cnt⟩
  · rcases ha _ e with e | e
    · exact h.nA.2.1 e
    · omega
  · rcases ha _ e with e | e
    · exact h.nB.2.1 e
    · omega
/-- behind the commit -/
structure Af (w0 w : World) (E : Dk) (t0 d0 A B : Nat) (now : Nat → Int) (is : Nat → Bool) (fb : Bool) (W : List Int) : Prop where
  dk : Mine w0 w E
  d : E.d = d0
  over : OverAt w t0
  down : E.down = fb
  well : Well 118 W E.las
  nb : E.nb = 118
  rw : Rw w A B now is
/-- what lasts, block by block -/
structure Wn (W : List Int) (now : Nat → Int) (is : Nat → Bool) (bk fb : Bool) : Prop where
  all : bk = false → ∀ i, 98 ≤ i → i < 118 → bck W i = one (now i)
  none_ : bk = true → fb = true ∧ ∀ i, 98 ≤ i → i < 118 → bck W i = one (i : Int)
  off : ∀ i, 98 ≤ i → i < 118 → is i = false → bck W i = one (i : Int)
  zero : bck W 0 = one 0
theorem wn_of {w0 w : World} {D : Dk} {T : Tx} {A B : Nat} {now : Nat → Int} {is : Nat → Bool} (h : Pre6 w0 w D T A B now is) (hn : T.nb = 118) (m : Nat) (t : Int) (keep : List Bool) : Wn (wantA m t keep (fr6 118) (overC T.c (fr6 118) 118)) now is (backB m t keep) (fallsB m t) := by
  have ok : COk T.c 118 := by have := h.ses.tx.ok; rw [hn] at this; exact this
  have hx : ∀ i q, T.c i = some q → q.x.length = 512 := fun i q hq => (h.ses.tx.blk i q hq).len
  have hov : ∀ i, i < 118 → bck (overC T.c (fr6 118) 118) i = valC T.c (fr6 118) i := fun i hi => over_at ok hx (fr6_length 118) i hi
  have c0 : T.c 0 = none := by
    cases e : T.c 0 with
    | none => rfl
    | some q => have := ok.lo 0 q e; omega
  cases e : backB m t keep with
  | true =>
    have hw : wantA m t keep (fr6 118) (overC T.c (fr6 118) 118) = fr6 118 := by unfold wantA; rw [e]; rfl
    rw [hw]
    refine ⟨(fun h => by cases h), fun _ => ⟨?_, fun i h0 h1 => bck_98 i h0 h1⟩, fun i h0 h1 _ => bck_98 i h0 h1, by rw [bck_fr6 _ _ (by omega)]; rfl⟩
    unfold backB at e
    exact (Bool.and_eq_true _ _ ▸ e).1
  | false =>
    have hw : wantA m t keep (fr6 118) (overC T.c (fr6 118) 118) = overC T.c (fr6 118) 118 := by unfold wantA; rw [e]; rfl
    rw [hw]
    refine ⟨fun _ i h0 h1 => ?_, (fun h => by cases h), fun i h0 h1 hi => ?_, ?_⟩
    · rw [hov i h1, h.cnt.val i h0 h1]
    · rw [hov i h1, h.cnt.val i h0 h1, ((h.cnt i h0 h1).2.2 hi).2]
    · rw [hov 0 (by omega), valC_none c0, bck_fr6 _ _ (by omega)]; rfl
/-- a disk and the two rows -/
structure Dr (w0 w : World) (X : Dk) (A B : Nat) (now : Nat → Int) (is : Nat → Bool) : Prop where
  dk : Mine w0 w X
  rw : Rw w A B now is
  nA : ¬ X.has A
  nB : ¬ X.has B
theorem Dr.on {w0 w w' : World} {X : Dk} {A B : Nat} {now : Nat → Int} {is : Nat → Bool} (h : Dr w0 w X A B now is) (hb : Below w.heap.size w w') : Dr w0 w' X A B now is := ⟨h.dk.on hb, h.rw.on hb, h.nA, h.nB⟩
theorem Dr.mv {w0 w w' : World} {X E : Dk} {A B : Nat} {now : Nat → Int} {is : Nat → Bool} (h : Dr w0 w X A B now is) (hE : Mine w0 w' E) (hm : Mv w X w' E) : Dr w0 w' E A B now is := by
  have lA := h.rw.ltA
  have lB := h.rw.ltB
  refine ⟨hE, h.rw.fr hm.fr h.nA h.nB, fun e => ?_, fun e => ?_⟩
  · rcases hm.has _ e with e | e
    · exact h.nA e
    · omega
  · rcases hm.has _ e with e | e
    · exact h.nB e
    · omega
/-- a new disk beside the two rows -/
theorem dr_new {w0 w w' : World} {X : Dk} {A B : Nat} {now : Nat → Int} {is : Nat → Bool} (hb0 : Below w0.heap.size w0 w) (hr : Rw w A B now is) (hM : Mine w w' X) : Dr w0 w' X A B now is :=
  ⟨hM.far' hb0, hr.on hM.bel, fun e => by have := hM.far _ (.inl e); have := hr.ltA; omega, fun e => by have := hM.far _ (.inl e); have := hr.ltB; omega⟩
end Go.Proofs.YtckldbhaaagncaaGreatDoor
