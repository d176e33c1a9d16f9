import Derived.Test.YtckldbhaaagncaaGreatDoorKTxWk
namespace Go.Proofs.YtckldbhaaagncaaGreatDoor
open Go.RowKit Go.Maps Rec

set_option maxRecDepth 100000 in
theorem add300 {x y i : Nat} (h : x ≤ 1000 + 300 * i) (k : y ≤ x + 300) : y ≤ 1000 + 300 * (i + 1) := by omega
/-- a list of one's own, beside a disk and a transaction -/
structure Nt (wr : World) (E : Dk) (T : Tx) (s : Value) (m : List Int) : Prop where
  ints : IntsAt wr s m
  ap : ∀ g, s.ownBlock = some g → ¬ E.all g ∧ ¬ T.all g ∧ g < wr.heap.size
theorem Nt.on {wr wz : World} {E : Dk} {T : Tx} {s : Value} {m : List Int} (h : Nt wr E T s m) (hb : Below wr.heap.size wr wz) : Nt wz E T s m :=
  ⟨h.ints.on hb, fun g hg => ⟨(h.ap g hg).1, (h.ap g hg).2.1, Nat.lt_of_lt_of_le (h.ap g hg).2.2 hb.size⟩⟩
structure Nd (wr : World) (E : Dk) (s : Value) (m : List Int) : Prop where
  ints : IntsAt wr s m
  ap : ∀ g, s.ownBlock = some g → ¬ E.all g ∧ g < wr.heap.size
theorem Nd.on {wr wz : World} {E : Dk} {s : Value} {m : List Int} (h : Nd wr E s m) (hb : Below wr.heap.size wr wz) : Nd wz E s m :=
  ⟨h.ints.on hb, fun g hg => ⟨(h.ap g hg).1, Nat.lt_of_lt_of_le (h.ap g hg).2 hb.size⟩⟩
/-- ready to commit, whatever is armed -/
structure WcR (w0 : World) (nb : Nat) (R : List (Nat × Array Value × Nat)) (sI sN : Value) (is next : List Int) (i : Nat) (wr : World) (A : Dk) (l : List Int) (T : Tx) (d0 : Nat) (t : Int) (keep : List Bool) (a : AD) : Prop where
  ses : Ses w0 wr A T
  d : A.d = d0
  abs : A.abs = a.arm t keep
  rest : Rest a nb l
  hol : HoldsL l is
  c1 : a.wr ≤ 1000 + 300 * i
  c2 : a.fl ≤ 1000 + 300 * i
  c3 : a.T.length ≤ 1000 + 300 * i
  kl : keep.length ≤ 140737488351232
  val : ∀ l', (∀ j, 98 ≤ j → j < nb → bck l' j = valC T.c l j) → HoldsL l' next
  i1 : Nt wr A T sI is
  i2 : Nt wr A T sN next
  kp : Kp wr R
  lR : ∀ r ∈ R, ¬ T.all r.1
section
variable {w0 wr wz : World} {nb : Nat} {R : List (Nat × Array Value × Nat)} {E A : Dk} {l : List Int} {sI sN : Value} {is next : List Int} {i : Nat} {T : Tx} {nB : Nat} {P : List (Int × Int)} {k d0 : Nat} {t : Int} {keep : List Bool} {a : AD}
theorem arm_id (a : AD) (h1 : a.at_ = 0) (h2 : a.keep = []) : a.arm 0 [] = a := by
  cases a; simp_all [AD.arm]
theorem wc_next (h : WcT w0 nb R sI is i nB P wr E l T k) (hk : P.length ≤ k ∨ k = 90) (hk9 : k ≤ 90) : ∀ l', (∀ j, 98 ≤ j → j < nb → bck l' j = valC T.c l j) → HoldsL l' (putL is (P.take 90)) :=
  fun _ hv => h.ct.holds h.a.il hk hk9 hv
theorem wc_noarm (h : WcT w0 nb R sI is i nB P wr E l T k) (hk : P.length ≤ k ∨ k = 90) (hk9 : k ≤ 90) (h2 : Nt wr E T sN (putL is (P.take 90))) (hd : E.d = d0) : WcR w0 nb R sI sN is (putL is (P.take 90)) i wr E l T d0 0 [] E.abs :=
  ⟨h.ses, hd, (arm_id _ h.a.rest.at_ h.a.c4).symm, h.a.rest, h.a.hol, h.a.c1, h.a.c2, h.a.c3, by simp, wc_next h hk hk9, ⟨h.a.ints, fun g hg => ⟨(h.a.ap g hg).1, fun e => by have := h.low g e; have := h.lI g hg; omega, (h.a.ap g hg).2⟩⟩, h2, h.a.kp, fun r hr e => by have := h.low _ e; have := h.lR r hr; omega⟩
theorem wc_arm (h : WcT w0 nb R sI is i nB P wr E l T k) (hk : P.length ≤ k ∨ k = 90) (hk9 : k ≤ 90) (h2 : Nt wr E T sN (putL is (P.take 90))) (hd : E.d = d0) (q : CrR) (hq : CrOk wr q) :
    Calls Tryz.prog 15 #[.pointer (some ⟨d0, 0, none⟩), .agg #[.int .i64 q.t, .slice q.a q.keep.length q.c]] wr fun e w' => e = .returned (.int .i64 0) ∧ ∃ A, WcR w0 nb R sI sN is (putL is (P.take 90)) i w' A l T d0 q.t q.keep E.abs := by
  have hb0 := wc_noarm h hk hk9 h2 hd
  have := arm_yes wr E h.a.mine.disk q.t q.a q.c q.keep hq.bools hq.nil (by have := hq.len; omega) hq.hi h.a.rest.down
  rw [hd] at this
  refine this.mono ?_
  rintro e w' ⟨rfl, A, h3, h4, h5, h6⟩
  have all : ∀ g, ¬ E.all g → g < wr.heap.size → ¬ A.all g := fun g h1 hl ha => (h5 g ha).elim h1 (fun e => by omega)
  have nt : ∀ s m, Nt wr E T s m → Nt w' A T s m := fun s m hn => ⟨intsAt_fr hn.ints h4.fr (fun g hg e => (hn.ap g hg).1 (.inl e)), fun g hg => ⟨all g (hn.ap g hg).1 (hn.ap g hg).2.2, (hn.ap g hg).2.1, Nat.lt_of_lt_of_le (hn.ap g hg).2.2 h4.fr.size⟩⟩
  exact ⟨rfl, A, h.ses.dmv h3 h4 h5, h4.d.trans hd, h6, h.a.rest, h.a.hol, h.a.c1, h.a.c2, h.a.c3, hq.len, wc_next h hk hk9, nt _ _ hb0.i1, nt _ _ hb0.i2, h.a.kp.fr h4.fr (h.a.kp.disk h.a.mine.disk), hb0.lR⟩
/-- behind a commit -/
structure WcE (w0 : World) (nb : Nat) (R : List (Nat × Array Value × Nat)) (sI sN : Value) (is next : List Int) (i : Nat) (wr : World) (E : Dk) (d0 : Nat) (fb : Bool) : Prop where
  mine : Mine w0 wr E
  d : E.d = d0
  nbE : E.nb = nb
  down : E.down = fb
  kp : Kp wr R
  i1 : Nd wr E sI is
  i2 : Nd wr E sN next
  fell : fb = true → ∃ W, Well nb W E.las ∧ (HoldsL W is ∨ HoldsL W next)
  good : fb = false → ∃ l', Rest (E.abs.arm 0 []) nb l' ∧ HoldsL l' next ∧ E.abs.wr ≤ 1000 + 300 * (i + 1) ∧ E.abs.fl ≤ 1000 + 300 * (i + 1) ∧ E.abs.T.length ≤ 1000 + 300 * (i + 1)
theorem wc_com (h : WcR w0 nb R sI sN is next i wr A l T d0 t keep a) (hT : TabAt wr) (h98 : 98 ≤ nb) (hi : i ≤ 30) (t0 : Nat) (ht : T.t = t0) (fb : Bool) (hfb : fallsB (lst T.c nb).length t = fb) :
    Calls Tryz.prog 16 #[.pointer (some ⟨t0, 0, none⟩)] wr fun e w' => e = .returned (.int .i64 (if fb then 30 else 0)) ∧ ∃ E, WcE w0 nb R sI sN is next i w' E d0 fb := by
  have hAn : A.nb = nb := (show A.abs.nb = nb from by rw [h.abs]; exact h.rest.size)
  have hTn : T.nb = nb := h.ses.nb.symm.trans hAn
  have := h.c1
  have := h.c2
  have := h.c3
  have := h.kl
  have hc := wc_commit w0 wr a A T nb l t keep _ rfl hTn h.ses h.abs h.rest hT h98 (by omega) (by omega) (by omega) (by omega)
  rw [ht, hfb] at hc
  refine hc.mono ?_
  rintro e w' ⟨rfl, E, hM, hEd, _, hEn, hF, hAl, h1, h2⟩
  have all : ∀ g, ¬ A.all g → g < wr.heap.size → ¬ E.all g := fun g hg hl ha => (hAl g ha).elim hg (fun e => by omega)
  have nt : ∀ s m, Nt wr A T s m → Nd w' E s m := fun s m hn => ⟨intsAt_fr hn.ints hF (fun g hg e => e.elim (fun e => (hn.ap g hg).1 (.inl e)) (fun e => (hn.ap g hg).2.1 (by rw [e, ← ht]; exact .inl (.inl rfl)))), fun g hg => ⟨all g (hn.ap g hg).1 (hn.ap g hg).2.2, Nat.lt_of_lt_of_le (hn.ap g hg).2.2 hF.size⟩⟩
  have hd : E.down = fb := by
    cases fb with
    | true => exact (h1 rfl).1
    | false => obtain ⟨l', hr, _⟩ := h2 rfl; exact hr.down
  refine ⟨rfl, E, hM, hEd.trans h.d, hEn, hd, h.kp.fr hF (fun r hr e => e.elim (h.kp.disk h.ses.dk.disk r hr) (fun e => h.lR r hr (by rw [e, ← ht]; exact .inl (.inl rfl)))), nt _ _ h.i1, nt _ _ h.i2, fun hf => ⟨_, (h1 hf).2, ?_⟩, fun hf => ?_⟩
  · unfold wantA
    split
    · exact .inl h.hol
    · refine .inr (h.val _ fun j _ hj => over_at ?_ (fun i q hq => (h.ses.tx.blk i q hq).len) h.rest.len j hj)
      have := h.ses.tx.ok
      rw [hTn] at this
      exact this
  · obtain ⟨l', r1, r2, r3, r4, r5⟩ := h2 hf
    exact ⟨l', r1, h.val l' r2, add300 h.c1 r3, add300 h.c2 r4, add300 h.c3 r5⟩
theorem WcE.on {fb : Bool} (h : WcE w0 nb R sI sN is next i wr E d0 fb) (hb : Below wr.heap.size wr wz) : WcE w0 nb R sI sN is next i wz E d0 fb :=
  ⟨h.mine.on hb, h.d, h.nbE, h.down, h.kp.on hb, h.i1.on hb, h.i2.on hb, h.fell, h.good⟩
/-- the commit went well: disarmed, all is as it should be -/
theorem wc_disarm (h : WcE w0 nb R sI sN is next i wr E d0 false) (hnl : next.length = nb - 98) (hnr : ∀ k, -1 ≤ nth next k ∧ nth next k < 1000) :
    Calls Tryz.prog 15 #[.pointer (some ⟨d0, 0, none⟩), .agg #[.int .i64 0, .slice none 0 0]] wr fun e w' => e = .returned (.int .i64 0) ∧ ∃ D l', D.d = d0 ∧ WcA w0 nb R w' D l' sN next (i + 1) := by
  obtain ⟨l', r1, r2, r3, r4, r5⟩ := h.good rfl
  have := arm_yes wr E h.mine.disk 0 none 0 [] ⟨none, 0, rfl, .inl rfl⟩ (fun _ => rfl) (by simp) (by omega) h.down
  rw [h.d] at this
  refine this.mono ?_
  rintro e w' ⟨rfl, D, h3, h4, h5, h6⟩
  have all : ∀ g, ¬ E.all g → g < wr.heap.size → ¬ D.all g := fun g h1 hl ha => (h5 g ha).elim h1 (fun e => by omega)
  refine ⟨rfl, D, l', h4.d.trans h.d, h.mine.step h3 h4 h5, by rw [h6]; exact r1, r2, by rw [h6]; exact r3, by rw [h6]; exact r4, by rw [h6]; exact r5, by rw [h6]; rfl, intsAt_fr h.i2.ints h4.fr (fun g hg e => (h.i2.ap g hg).1 (.inl e)), hnl, hnr, fun g hg => ⟨all g (h.i2.ap g hg).1 (h.i2.ap g hg).2, Nat.lt_of_lt_of_le (h.i2.ap g hg).2 h4.fr.size⟩, h.kp.fr h4.fr (h.kp.disk h.mine.disk)⟩
/-- the power went: what is mended holds the one or the other -/
theorem wc_mended (h : WcE w0 nb R sI sN is next i wr E d0 true) (hT : TabAt wr) (h98 : 98 ≤ nb) (hnb : nb ≤ 1000) (hil : is.length = nb - 98) (hnl : next.length = nb - 98) (ca : Option Addr) (cn cc : Nat) (C : List CrR) (hC : CrsAt wr ca C) (hcn : C.length = cn) :
    Calls Tryz.prog 19 #[.pointer (some ⟨d0, 0, none⟩), .slice ca cn cc] wr fun e w' => ∃ F, e = .returned (.tuple #[.pointer (some ⟨F.d, 0, none⟩), .bool true]) ∧ Below wr.heap.size wr w' ∧ Mine w0 w' F ∧ Rest F.abs nb F.las ∧ F.abs.wr ≤ 1000 ∧ F.abs.fl ≤ 1000 ∧ F.abs.T.length ≤ 1000 ∧ F.abs.keep = [] ∧ (∀ g, g < wr.heap.size → ¬ F.all g) ∧ (HoldsL F.las is ∨ HoldsL F.las next) := by
  obtain ⟨W, hW, hor⟩ := h.fell rfl
  have := mended_any nb h98 hnb wr E W h.mine.disk hW h.nbE ca cn cc C hC hcn hT
  rw [h.d] at this
  refine this.mono ?_
  rintro e w' ⟨F, rfl, hF⟩
  have lk : ∀ s : List Int, s.length = nb - 98 → HoldsL W s → HoldsL F.las s := fun s hs hh j hj => by
    rw [hF.en.like (98 + j) (by omega) (.inr (by omega))]; exact hh j hj
  exact ⟨F, rfl, hF.mine.bel, hF.mine.far' h.mine.bel, hF.rest, hF.wr, hF.fl, hF.tp, hF.kp, fun g hg ha => by have := hF.mine.far g ha; omega, hor.imp (lk _ hil) (lk _ hnl)⟩
end
end Go.Proofs.YtckldbhaaagncaaGreatDoor
