import Derived.Test.YtgmccpimpbnnpaaDoorKSpR
import Derived.Test.YtgmccpimpbnnpaaDoorKCuC
namespace Go.Proofs.YtgmccpimpbnnpaaDoor
open Rec
def fiP (p : Nat) : Nat := if p < 11 then p else if p = 11 then 138 else if p < 140 then p - 2 else if p < 268 then 138 + 128 * (p - 140) else p - 130
def szP (p : Nat) : Nat := if p = 10 then 128 else if p = 11 then 16384 else if 140 ≤ p ∧ p < 268 then 128 else 1
def kid (p i : Nat) : Nat := if p = 10 then 12 + i else if p = 11 then 140 + i else 268 + 128 * (p - 140) + i
def isT1 (p : Nat) : Prop := p = 10 ∨ (140 ≤ p ∧ p < 268)
instance (p : Nat) : Decidable (isT1 p) := inferInstanceAs (Decidable (_ ∨ _))
def all128 (f : Nat → Nat) : Bool := (List.range 128).all fun i => f i == 0
theorem all128_iff {f : Nat → Nat} : all128 f = true ↔ ∀ i, i < 128 → f i = 0 := by simp [all128]
theorem all128_cong {f g : Nat → Nat} (h : ∀ i, i < 128 → f i = g i) : all128 f = all128 g := by
  have : (all128 f = true) = (all128 g = true) := propext (by rw [all128_iff, all128_iff]; exact forall_congr' fun i => forall_congr' fun hi => by rw [h i hi])
  cases e : all128 g
  · rw [e] at this; simpa using this
  · rw [e] at this; simpa using this
def acP (ν : Nat → Nat) (k p : Nat) : Bool := decide (ν p ≠ 0) && decide (k < fiP p + szP p)
def c0P (ν : Nat → Nat) (k p : Nat) : Nat := if acP ν k p = true then 0 else ν p
def g1P (ν : Nat → Nat) (k p : Nat) : Bool := acP ν k p && all128 (fun i => c0P ν k (kid p i))
def c1P (ν : Nat → Nat) (k p : Nat) : Nat := if g1P ν k p = true then 0 else ν p
def g2P (ν : Nat → Nat) (k p : Nat) : Bool := acP ν k p && all128 (fun i => c1P ν k (kid p i))
def gone (ν : Nat → Nat) (k p : Nat) : Bool := if p = 11 then g2P ν k p else if isT1 p then g1P ν k p else acP ν k p
def cvP (ν : Nat → Nat) (k p : Nat) : Nat := if gone ν k p = true then 0 else ν p
def modP (ν : Nat → Nat) (k p : Nat) : Prop := (p = 11 ∨ isT1 p) ∧ ν p ≠ 0 ∧ gone ν k p = false ∧ ∃ i, i < 128 ∧ gone ν k (kid p i) = true
theorem gone_ac {ν : Nat → Nat} {k p : Nat} (h : gone ν k p = true) : acP ν k p = true := by
  unfold gone g2P g1P at h
  split at h
  · simp at h; exact h.1
  · split at h
    · simp at h; exact h.1
    · exact h
theorem gone_nz {ν : Nat → Nat} {k p : Nat} (h : gone ν k p = true) : ν p ≠ 0 := by
  have := gone_ac h
  unfold acP at this
  simp at this
  exact this.1
theorem kid_par {p i : Nat} (hp : p = 11 ∨ isT1 p) (hi : i < 128) : 12 ≤ kid p i ∧ kid p i < 16652 ∧ par (kid p i) = p ∧ pla (kid p i) = i := by
  unfold kid par pla
  rcases hp with rfl | rfl | ⟨h1, h2⟩
  · rw [if_neg (by omega), if_pos rfl]
    refine ⟨by omega, by omega, ?_, ?_⟩ <;> (repeat' split) <;> omega
  · rw [if_pos rfl]
    refine ⟨by omega, by omega, ?_, ?_⟩ <;> (repeat' split) <;> omega
  · rw [if_neg (by omega), if_neg (by omega)]
    refine ⟨by omega, by omega, ?_, ?_⟩ <;> (repeat' split) <;> omega
theorem par_kid {q : Nat} (h0 : 12 ≤ q) (h1 : q < 16652) : (par q = 11 ∨ isT1 (par q)) ∧ kid (par q) (pla q) = q ∧ pla q < 128 := by
  unfold par pla kid isT1
  split
  · refine ⟨.inr (.inl rfl), ?_, ?_⟩ <;> (repeat' split) <;> omega
  · split
    · refine ⟨.inl rfl, ?_, ?_⟩ <;> (repeat' split) <;> omega
    · refine ⟨.inr (.inr ⟨by omega, by omega⟩), ?_, ?_⟩ <;> (repeat' split) <;> omega
theorem kid_leaf {p i : Nat} (hp : isT1 p) (hi : i < 128) : ¬ kid p i = 11 ∧ ¬ isT1 (kid p i) ∧ szP (kid p i) = 1 ∧ fiP (kid p i) = fiP p + i ∧ szP p = 128 ∧ fiP p ≤ 16522 ∧ kid p i ≠ 10 := by
  unfold kid isT1 szP fiP
  rcases hp with rfl | ⟨h1, h2⟩
  · rw [if_pos rfl]
    refine ⟨by omega, by omega, ?_, ?_, rfl, ?_, by omega⟩ <;> (repeat' split) <;> omega
  · rw [if_neg (by omega), if_neg (by omega)]
    refine ⟨by omega, by omega, ?_, ?_, ?_, ?_, by omega⟩ <;> (repeat' split) <;> omega
theorem kid11 (i : Nat) (hi : i < 128) : kid 11 i = 140 + i ∧ isT1 (kid 11 i) ∧ ¬ kid 11 i = 11 ∧ szP (kid 11 i) = 128 ∧ fiP (kid 11 i) = 138 + i * 128 := by
  unfold kid isT1 szP fiP
  rw [if_neg (by omega), if_pos rfl]
  refine ⟨rfl, by omega, by omega, ?_, ?_⟩ <;> (repeat' split) <;> omega
theorem gone_leaf {ν : Nat → Nat} {k p : Nat} (h : ¬ p = 11) (h2 : ¬ isT1 p) : gone ν k p = acP ν k p := by unfold gone; rw [if_neg h, if_neg h2]
theorem gone_t1 {ν : Nat → Nat} {k p : Nat} (h2 : isT1 p) : gone ν k p = (acP ν k p && all128 (fun i => cvP ν k (kid p i))) := by
  have h : ¬ p = 11 := by rcases h2 with e | e <;> omega
  unfold gone
  rw [if_neg h, if_pos h2, g1P]
  congr 1
  refine all128_cong fun i hi => ?_
  rw [c0P, cvP, gone_leaf (kid_leaf h2 hi).1 (kid_leaf h2 hi).2.1]
theorem gone_t2 {ν : Nat → Nat} {k : Nat} : gone ν k 11 = (acP ν k 11 && all128 (fun i => cvP ν k (kid 11 i))) := by
  have e : all128 (fun i => cvP ν k (kid 11 i)) = all128 (fun i => c1P ν k (kid 11 i)) := by
    refine all128_cong fun i hi => ?_
    obtain ⟨_, h1, h2, _⟩ := kid11 i hi
    rw [c1P, cvP]
    unfold gone
    rw [if_neg h2, if_pos h1]
  rw [e]
  unfold gone
  rw [if_pos rfl, g2P]
theorem ac_kid {ν : Nat → Nat} {k p i : Nat} (hp : p = 11 ∨ isT1 p) (hi : i < 128) (hz : ν p = 0 → ν (kid p i) = 0) (h : acP ν k (kid p i) = true) : acP ν k p = true := by
  unfold acP at h ⊢
  simp at h ⊢
  refine ⟨fun e => h.1 (hz e), ?_⟩
  rcases hp with rfl | hp
  · obtain ⟨_, _, _, h4, h5⟩ := kid11 i hi
    rw [h4, h5] at h
    have e : fiP 11 = 138 ∧ szP 11 = 16384 := ⟨rfl, rfl⟩
    rw [e.1, e.2]
    omega
  · obtain ⟨_, _, h3, h4, h5, _⟩ := kid_leaf hp hi
    rw [h3, h4] at h
    rw [h5]
    omega
theorem cut_tre {V V' : Nat → Nat → Int} {x x' : Nat → Int} {ν : Nat → Nat} {k : Nat} (h : Tre V x ν) (hx : ∀ p, p < 12 → x' (3 + p) = (cvP ν k p : Int))
    (hN : ∀ p, ν p ≠ 0 → gone ν k p = false → ¬ modP ν k p → V' (ν p) = V (ν p)) (hM : ∀ p, modP ν k p → ∀ i, i < 128 → V' (ν p) i = (cvP ν k (kid p i) : Int)) : Tre V' x' (cvP ν k) := by
  have hcv : ∀ p, cvP ν k p ≠ 0 → gone ν k p = false ∧ ν p ≠ 0 ∧ cvP ν k p = ν p := fun p hp => by
    unfold cvP at hp ⊢
    cases e : gone ν k p
    · rw [e] at hp; simpa using hp
    · rw [e] at hp; simp at hp
  refine ⟨hx, fun q h0 h1 hz => ?_, fun q h0 h1 hz => ?_, fun q hq => ?_⟩
  · obtain ⟨hp, hk, hi⟩ := par_kid h0 h1
    have hac : gone ν k (par q) = true ∨ ν (par q) = 0 := by
      unfold cvP at hz
      cases e : gone ν k (par q)
      · rw [e] at hz; simp at hz; exact .inr hz
      · exact .inl rfl
    rcases hac with e | e
    · rcases hp with hp | hp
      · rw [hp, gone_t2] at e
        rw [Bool.and_eq_true] at e
        have := all128_iff.1 e.2 (pla q) hi
        rw [← hp, hk] at this
        exact this
      · rw [gone_t1 hp] at e
        rw [Bool.and_eq_true] at e
        have := all128_iff.1 e.2 (pla q) hi
        rw [hk] at this
        exact this
    · have := h.hole q h0 h1 e
      unfold cvP
      rw [this]
      split <;> rfl
  · obtain ⟨hp, hk, hi⟩ := par_kid h0 h1
    obtain ⟨h2, h3, h4⟩ := hcv _ hz
    rw [h4]
    by_cases hm : modP ν k (par q)
    · rw [hM _ hm _ hi, hk]
    · rw [hN _ h3 h2 hm, h.tab q h0 h1 h3]
      have hg : gone ν k q = false := by
        cases e : gone ν k q
        · rfl
        · exact absurd ⟨hp, h3, h2, pla q, hi, by rw [hk]; exact e⟩ hm
      unfold cvP
      rw [hg]
      rfl
  · unfold cvP
    rw [h.out q hq]
    split <;> rfl
theorem cut_own {F F' : Nat → Bool} {lo hi : Nat} {ν : Nat → Nat} {k : Nat} (h : Own1 F lo hi ν) (hF : ∀ p, ν p ≠ 0 → gone ν k p = false → F' (ν p) = false) : Own1 F' lo hi (cvP ν k) := by
  have hcv : ∀ p, cvP ν k p ≠ 0 → gone ν k p = false ∧ ν p ≠ 0 ∧ cvP ν k p = ν p := fun p hp => by
    unfold cvP at hp ⊢
    cases e : gone ν k p
    · rw [e] at hp; simpa using hp
    · rw [e] at hp; simp at hp
  refine ⟨fun p hp => ?_, fun p q hp e => ?_⟩
  · obtain ⟨h1, h2, h3⟩ := hcv p hp
    rw [h3]
    exact ⟨(h.good p h2).1, (h.good p h2).2.1, hF p h2 h1⟩
  · obtain ⟨h1, h2, h3⟩ := hcv p hp
    obtain ⟨h4, h5, h6⟩ := hcv q (by rw [← e]; exact hp)
    rw [h3, h6] at e
    exact h.inj p q h2 e
end Go.Proofs.YtgmccpimpbnnpaaDoor

namespace Go.Proofs.YtgmccpimpbnnpaaDoor
open Go.RowKit Go.Maps Rec
structure Cq (D : Dk) (T0 T : Tx) (n : Nat) (ν : Nat → Nat) (k : Nat) (Pr : Nat → Prop) (u : Nat) : Prop where
  us : T.us.length ≤ T0.us.length + u
  bm : Bm (bmp D T) (nM n)
  dom : Dom T0 T
  fdT : ∀ b, fd (nD n) n (bmp D T) b = true ↔ (fd (nD n) n (bmp D T0) b = true ∨ ∃ p, Pr p ∧ gone ν k p = true ∧ ν p = b)
  tvN : ∀ b, ¬ (98 ≤ b ∧ b < 98 + nM n) → (∀ p, Pr p → modP ν k p → ν p ≠ b) → tv D T b = tv D T0 b
  tvS : ∀ p, Pr p → modP ν k p → ∀ i, i < 128 → nm (tv D T (ν p)) i = (cvP ν k (kid p i) : Int)
  bitO : ∀ i, i / 4096 < nM n → ¬ (nD n ≤ i ∧ i < n) → isT (bmp D T) i = isT (bmp D T0) i
  new : ∀ j, (T.c j).isSome = true → (T0.c j).isSome = true ∨ ∃ p, Pr p ∧ (gone ν k p = true ∨ modP ν k p)
theorem Cq.zero {D : Dk} {T0 : Tx} {n : Nat} {ν : Nat → Nat} {k : Nat} {Pr : Nat → Prop} (h : ∀ p, ¬ Pr p) (hb : Bm (bmp D T0) (nM n)) : Cq D T0 T0 n ν k Pr 0 :=
  ⟨by omega, hb, fun _ e => e, fun b => ⟨.inl, fun e => e.elim id (fun ⟨p, e, _⟩ => absurd e (h p))⟩, fun _ _ _ => rfl, fun p e => absurd e (h p), fun _ _ _ => rfl, fun _ e => .inl e⟩
theorem Cq.add {D : Dk} {T0 T : Tx} {n : Nat} {ν : Nat → Nat} {k u u' : Nat} {Pr Pr' : Nat → Prop} (h : Cq D T0 T n ν k Pr u) (hu : u ≤ u') (h1 : ∀ p, Pr p → Pr' p) (h2 : ∀ p, Pr' p → Pr p ∨ (gone ν k p = false ∧ ¬ modP ν k p)) : Cq D T0 T n ν k Pr' u' :=
  ⟨by have := h.us; omega, h.bm, h.dom, fun b => (h.fdT b).trans ⟨fun e => e.imp id (fun ⟨p, a, c⟩ => ⟨p, h1 p a, c⟩), fun e => e.imp id (fun ⟨p, a, c, d⟩ => (h2 p a).elim (fun e => ⟨p, e, c, d⟩) (fun e => by rw [e.1] at c; cases c))⟩, fun b hb hp => h.tvN b hb (fun p a c => hp p (h1 p a) c), fun p a c => (h2 p a).elim (fun e => h.tvS p e c) (fun e => absurd c e.2), h.bitO, fun j e => (h.new j e).imp id (fun ⟨p, a, c⟩ => ⟨p, h1 p a, c⟩)⟩
theorem fd_true {lo hi : Nat} {B : Nat → List Int} {i : Nat} (h0 : lo ≤ i) (h1 : i < hi) (h : ¬ fd lo hi B i = true) : isT B i = true := by
  unfold fd at h
  rw [decide_eq_true ⟨h0, h1⟩] at h
  cases e : isT B i
  · rw [e] at h; exact absurd rfl h
  · rfl
theorem give_tvx {w0 w w' : World} {D : Dk} {T T' : Tx} {n i : Nat} (g : GiveE w0 w w' D T T' n i) (h1 : i < n) (j : Nat) (hj : ¬ (98 ≤ j ∧ j < 98 + nM n)) : tv D T' j = tv D T j := by
  obtain ⟨q, hc, _⟩ := g.c
  have hk : i / 4096 < nM n := by unfold nM; omega
  rw [tv_ups hc, if_neg (by omega)]
theorem give_fdx {w0 w w' : World} {D : Dk} {T T' : Tx} {n i : Nat} (hlo : 128 ≤ n) (hhi : n ≤ 16384) (hbm : Bm (bmp D T) (nM n)) (g : GiveE w0 w w' D T T' n i) (h0 : nD n ≤ i) (h1 : i < n) : fd (nD n) n (bmp D T') = fun j => if j = i then true else fd (nD n) n (bmp D T) j := by
  have hN := nM_bd hlo hhi
  have hM : i / 4096 < nM n := by unfold nM; omega
  obtain ⟨q, hc, hq⟩ := g.c
  rw [← Bool.not_false, ← fd_set hbm (nD n) n i hM h0 h1 false]
  refine fd_cong (M := nM n) (fun k hk => ?_) hN.2.2.1
  rw [bmp, tv_ups hc, setT]
  by_cases e : k = i / 4096
  · subst e; rw [if_pos rfl, if_pos rfl, hq]
  · rw [if_neg (by omega), if_neg e, bmp]
theorem give_bit {w0 w w' : World} {D : Dk} {T T' : Tx} {n i : Nat} (hbm : Bm (bmp D T) (nM n)) (g : GiveE w0 w w' D T T' n i) (h1 : i < n) (j : Nat) (_ : j / 4096 < nM n) (hji : j ≠ i) : isT (bmp D T') j = isT (bmp D T) j := by
  have hM : i / 4096 < nM n := by unfold nM; omega
  obtain ⟨q, hc, hq⟩ := g.c
  have e : isT (bmp D T') j = isT (setT (bmp D T) i false) j := by
    rw [isT, isT, bmp, tv_ups hc, setT]
    by_cases e : j / 4096 = i / 4096
    · rw [if_pos (by omega), if_pos e, hq, e]
    · rw [if_neg (by omega), if_neg e, bmp]
  rw [e, isT_set hbm i hM, if_neg hji]
theorem new_ups {T T' : Tx} {a : Nat} {q : Bk} (hc : T'.c = ups T.c a (some q)) {j : Nat} (h : (T'.c j).isSome = true) : (T.c j).isSome = true ∨ j = a := by
  by_cases e : j = a
  · exact .inr e
  · rw [hc, ups_other _ _ e] at h; exact .inl h
structure Ck (w0 : World) (D : Dk) (T0 : Tx) (n : Nat) (x : Nat → Int) (ν : Nat → Nat) (k : Nat) : Prop where
  wd : Wd D T0 n x ν
  lo : 128 ≤ n
  hi : n ≤ 16384
  tab : TabAt w0
  k : k ≤ 100000
  us : T0.us.length + 20000 ≤ 1000000
def NotIn (T0 : Tx) (_ : Nat) (ν : Nat → Nat) : Prop := ∃ p, ν p ≠ 0 ∧ (T0.c (98 + ν p / 4096) = none ∨ T0.c (ν p) = none)
theorem dom_no {T0 T : Tx} (h : Dom T0 T) {b : Nat} (e : T.c b = none) : T0.c b = none := by
  cases e2 : T0.c b
  · rfl
  · have := h b (by rw [e2]; rfl)
    rw [e] at this
    cases this
theorem Cq.no {D : Dk} {T0 T : Tx} {n : Nat} {ν : Nat → Nat} {k u : Nat} {Pr : Nat → Prop} (h : Cq D T0 T n ν k Pr u) {p : Nat} (hp : ν p ≠ 0) (_ : ν p < n) (e : T.c (98 + ν p / 4096) = none ∨ T.c (ν p) = none) : NotIn T0 n ν :=
  ⟨p, hp, e.imp (dom_no h.dom) (dom_no h.dom)⟩
theorem Ck.bit {w0 : World} {D : Dk} {T0 T : Tx} {n : Nat} {x : Nat → Int} {ν : Nat → Nat} {k u : Nat} {Pr : Nat → Prop} (h : Ck w0 D T0 n x ν k) (c : Cq D T0 T n ν k Pr u) {p : Nat} (hp : ¬ Pr p) (h0 : ν p ≠ 0) : isT (bmp D T) (ν p) = true ∧ nD n ≤ ν p ∧ ν p < n := by
  have hg := h.wd.own.good p h0
  refine ⟨fd_true hg.1 hg.2.1 (fun e => ?_), hg.1, hg.2.1⟩
  rcases (c.fdT _).1 e with e | ⟨q, e1, e2, e3⟩
  · rw [hg.2.2] at e; cases e
  · have := h.wd.own.inj q p (gone_nz e2) e3
    subst this
    exact hp e1
theorem Cq.give {w0 w w' : World} {D : Dk} {T0 T T' : Tx} {n : Nat} {x : Nat → Int} {ν : Nat → Nat} {k u : Nat} {Pr Pr' : Nat → Prop} {p : Nat} (h : Ck w0 D T0 n x ν k) (c : Cq D T0 T n ν k Pr u) (hg : gone ν k p = true) (g : GiveE w0 w w' D T T' n (ν p)) (hu : T'.us.length ≤ T.us.length + 1) (h1 : ∀ q, Pr' q ↔ Pr q ∨ q = p) : Cq D T0 T' n ν k Pr' (u + 1) := by
  have hd := h.wd.own.good p (gone_nz hg)
  have hnm : ¬ modP ν k p := fun e => by rw [e.2.2.1] at hg; cases hg
  refine ⟨by have := c.us; omega, g.spc.bm, c.dom.trans (dom_ups g.c.choose_spec.1), fun b => ?_, fun b hb2 hq => ?_, fun q hq hm i hi => ?_, fun i hi hn => ?_, fun j hj => ?_⟩
  · rw [give_fdx h.lo h.hi c.bm g hd.1 hd.2.1]
    show (if b = ν p then true else fd (nD n) n (bmp D T) b) = true ↔ _
    by_cases e : b = ν p
    · subst e
      rw [if_pos rfl]
      exact ⟨fun _ => .inr ⟨p, (h1 p).2 (.inr rfl), hg, rfl⟩, fun _ => rfl⟩
    · rw [if_neg e]
      refine (c.fdT b).trans ⟨fun e2 => e2.imp id (fun ⟨q, a, d⟩ => ⟨q, (h1 q).2 (.inl a), d⟩), fun e2 => e2.imp id (fun ⟨q, a, d, f⟩ => ?_)⟩
      rcases (h1 q).1 a with a | rfl
      · exact ⟨q, a, d, f⟩
      · exact absurd f.symm e
  · rw [give_tvx g hd.2.1 b hb2]
    exact c.tvN b hb2 (fun q a m => hq q ((h1 q).2 (.inl a)) m)
  · rcases (h1 q).1 hq with a | rfl
    · have hd2 := h.wd.own.good q hm.2.1
      have hN := nM_bd h.lo h.hi
      rw [give_tvx g hd.2.1 _ (by omega)]
      exact c.tvS q a hm i hi
    · exact absurd hm hnm
  · rw [give_bit c.bm g hd.2.1 i hi (fun e => hn (by rw [e]; exact ⟨hd.1, hd.2.1⟩))]
    exact c.bitO i hi hn
  · rcases new_ups g.c.choose_spec.1 hj with e | _
    · exact (c.new j e).imp id (fun ⟨q, a, d⟩ => ⟨q, (h1 q).2 (.inl a), d⟩)
    · exact .inr ⟨p, (h1 p).2 (.inr rfl), .inl hg⟩
theorem Cq.put {w0 : World} {D : Dk} {T0 T T' : Tx} {n : Nat} {x : Nat → Int} {ν : Nat → Nat} {k u : Nat} {Pr Pr' : Nat → Prop} {p : Nat} {ns : List Int} (h : Ck w0 D T0 n x ν k) (c : Cq D T0 T n ν k Pr u) (hp : ¬ Pr p) (hm : modP ν k p) (hc : ∃ q : Bk, T'.c = ups T.c (ν p) (some q) ∧ q.x = rb ns) (hu : T'.us.length ≤ T.us.length + 1) (hbd : ∀ i, 0 ≤ nth ns i ∧ nth ns i < 4294967296) (hns : ∀ i, i < 128 → nth ns i = (cvP ν k (kid p i) : Int)) (h1 : ∀ q, Pr' q ↔ Pr q ∨ q = p) : Cq D T0 T' n ν k Pr' (u + 1) := by
  obtain ⟨q0, hc, hx⟩ := hc
  have hd := h.wd.own.good p hm.2.1
  have hN := nM_bd h.lo h.hi
  have hbe : ∀ j, j < nM n → bmp D T' j = bmp D T j := fun j hj => by rw [bmp, tv_ups hc, if_neg (by omega), bmp]
  refine ⟨by have := c.us; omega, ⟨fun j hj => by rw [hbe j hj]; exact c.bm.len j hj, fun j hj => by rw [hbe j hj]; exact c.bm.wf j hj⟩, c.dom.trans (dom_ups hc), fun b => ?_, fun b hb2 hq => ?_, fun q hq hm2 i hi => ?_, fun i hi hn => ?_, fun j hj => ?_⟩
  · have e : fd (nD n) n (bmp D T') = fd (nD n) n (bmp D T) := by
      refine fd_cong (M := nM n) (fun j hj => ?_) hN.2.2.1
      rw [bmp, tv_ups hc, if_neg (by omega), bmp]
    rw [e]
    refine (c.fdT b).trans ⟨fun e2 => e2.imp id (fun ⟨q, a, d⟩ => ⟨q, (h1 q).2 (.inl a), d⟩), fun e2 => e2.imp id (fun ⟨q, a, d, f⟩ => ?_)⟩
    rcases (h1 q).1 a with a | rfl
    · exact ⟨q, a, d, f⟩
    · rw [hm.2.2.1] at d; cases d
  · rw [tv_ups hc, if_neg (fun e => hq p ((h1 p).2 (.inr rfl)) hm e.symm)]
    exact c.tvN b hb2 (fun q a m => hq q ((h1 q).2 (.inl a)) m)
  · rw [tv_ups hc]
    rcases (h1 q).1 hq with a | rfl
    · rw [if_neg (fun e => hp (by rw [← h.wd.own.inj q p hm2.2.1 e]; exact a))]
      exact c.tvS q a hm2 i hi
    · rw [if_pos rfl, hx, rb, nm_rbk _ 128 (Nat.le_refl _) hbd i hi, if_pos hi, hns i hi]
  · rw [isT, hbe _ hi]
    exact c.bitO i hi hn
  · rcases new_ups hc hj with e | _
    · exact (c.new j e).imp id (fun ⟨q, a, d⟩ => ⟨q, (h1 q).2 (.inl a), d⟩)
    · exact .inr ⟨p, (h1 p).2 (.inr rfl), .inr hm⟩
end Go.Proofs.YtgmccpimpbnnpaaDoor

namespace Go.Proofs.YtgmccpimpbnnpaaDoor
open Go.RowKit Go.Maps Rec
def subP (p q : Nat) : Prop := q = p ∨ ∃ i, i < 128 ∧ q = kid p i
theorem chC_iff {ac gn : Nat → Bool} {j : Nat} : chC ac gn j = true ↔ ∃ i, i < j ∧ ac i = true ∧ gn i = true := by
  induction j with
  | zero => exact ⟨fun e => (by cases e), fun ⟨i, e, _⟩ => (by omega)⟩
  | succ j ih =>
    rw [chC, Bool.or_eq_true, ih, Bool.and_eq_true]
    constructor
    · rintro (⟨i, e, h⟩ | h)
      · exact ⟨i, by omega, h⟩
      · exact ⟨j, by omega, h⟩
    · rintro ⟨i, e, h⟩
      by_cases e2 : i = j
      · subst e2; exact .inr h
      · exact .inl ⟨i, by omega, h⟩
theorem cv_row {ν : Nat → Nat} {k p i : Nat} {ac gn : Nat → Bool} (h : (ac i = true ∧ gn i = true) ↔ gone ν k p = true) (hi : i < 128) : (if i < 128 ∧ ac i = true ∧ gn i = true then (0 : Int) else (ν p : Int)) = (cvP ν k p : Int) := by
  unfold cvP
  by_cases e : gone ν k p = true
  · rw [if_pos ⟨hi, h.2 e⟩, if_pos e]; rfl
  · rw [if_neg (fun e2 => e (h.1 e2.2)), if_neg e]
theorem any_row {ν : Nat → Nat} {k p : Nat} {a : Nat → Nat} {ac gn : Nat → Bool} (h : ∀ i, i < 128 → nth (rowC 128 a ac gn 128) i = (cvP ν k (kid p i) : Int)) : (!(rowC 128 a ac gn 128).any nz) = all128 (fun i => cvP ν k (kid p i)) := by
  have key : ((rowC 128 a ac gn 128).any nz = true) ↔ ¬ (all128 (fun i => cvP ν k (kid p i)) = true) := by
    rw [all128_iff, List.any_eq_true]
    constructor
    · rintro ⟨v, hv, hn⟩ hall
      obtain ⟨i, hi, e⟩ := List.getElem_of_mem hv
      have hi' : i < 128 := by rw [rowC_length] at hi; exact hi
      have h2 := h i hi'
      rw [nth, List.getD_eq_getElem?_getD, List.getElem?_eq_getElem hi] at h2
      have h3 : v = 0 := by
        rw [← e]
        have : (rowC 128 a ac gn 128)[i] = (cvP ν k (kid p i) : Int) := h2
        exact this.trans (by rw [hall i hi']; rfl)
      rw [h3] at hn
      cases hn
    · intro hn
      by_cases hex : ∃ i, i < 128 ∧ cvP ν k (kid p i) ≠ 0
      · obtain ⟨i, hi, hne⟩ := hex
        have hl : i < (rowC 128 a ac gn 128).length := by rw [rowC_length]; exact hi
        refine ⟨_, List.getElem_mem hl, ?_⟩
        have h2 := h i hi
        rw [nth, List.getD_eq_getElem?_getD, List.getElem?_eq_getElem hl] at h2
        have : (rowC 128 a ac gn 128)[i] = (cvP ν k (kid p i) : Int) := h2
        rw [this]
        unfold nz
        simp
        omega
      · exact absurd (fun i hi => by
          by_cases e : cvP ν k (kid p i) = 0
          · exact e
          · exact absurd ⟨i, hi, e⟩ hex) hn
  cases e : all128 (fun i => cvP ν k (kid p i))
  · rw [e] at key
    rw [key.2 (by simp)]; rfl
  · rw [e] at key
    cases e2 : (rowC 128 a ac gn 128).any nz
    · rfl
    · exact absurd rfl (key.1 e2)
theorem cn_leafq (w0 w : World) (D : Dk) (T0 T : Tx) (n : Nat) (x : Nat → Int) (ν : Nat → Nat) (k u tt a p : Nat) (Pr : Nat → Prop) (hk : Ck w0 D T0 n x ν k) (h : Spc w0 w D T n) (htt : T.t = tt) (c : Cq D T0 T n ν k Pr u) (hu : u ≤ 19000) (h1 : ¬ p = 11) (h2 : ¬ isT1 p) (hp : ¬ Pr p) (ha : acP ν k p = true) (Pr' : Nat → Prop) (hPr : ∀ q, Pr' q ↔ Pr q ∨ q = p) :
    Calls Tryd.prog 56 #[.pointer (some ⟨tt, 0, none⟩), geoV n, stV a (fiP p) 1, .int .i64 (ν p : Int), .int .i64 (k : Int)] w (CnE w0 w D T n true (fun T' => Cq D T0 T' n ν k Pr' (u + 1)) (NotIn T0 n ν)) := by
  have hg : gone ν k p = true := by rw [gone_leaf h1 h2]; exact ha
  obtain ⟨b1, b2, b3⟩ := hk.bit c hp (gone_nz hg)
  have := c.us
  have := hk.us
  exact cn_leaf w0 w D T n h tt a (fiP p) (ν p) k htt b2 b3 b1 (by omega) _ _ (fun e => c.no (gone_nz hg) b3 (.inl e)) (fun w1 w2 T' g => c.give hk hg g (by rw [g.u]; omega) hPr)
theorem cn_t1 (w0 w : World) (D : Dk) (T0 T : Tx) (n : Nat) (x : Nat → Int) (ν : Nat → Nat) (k u tt a0 p : Nat) (Pr : Nat → Prop) (hk : Ck w0 D T0 n x ν k) (h : Spc w0 w D T n) (htt : T.t = tt) (c : Cq D T0 T n ν k Pr u) (hu : u ≤ 18000) (h2 : isT1 p) (hp : ∀ q, subP p q → ¬ Pr q) (ha : acP ν k p = true) (Pr' : Nat → Prop) (hPr : ∀ q, Pr' q ↔ Pr q ∨ subP p q) :
    Calls Tryd.prog 56 #[.pointer (some ⟨tt, 0, none⟩), geoV n, stV a0 (fiP p) 128, .int .i64 (ν p : Int), .int .i64 (k : Int)] w (CnE w0 w D T n (gone ν k p) (fun T' => Cq D T0 T' n ν k Pr' (u + 129)) (NotIn T0 n ν)) := by
  have h0 : ν p ≠ 0 := by unfold acP at ha; simp at ha; exact ha.1
  have hpp : ¬ Pr p := hp p (.inl rfl)
  obtain ⟨b1, b2, b3⟩ := hk.bit c hpp h0
  have hkid : ∀ i, i < 128 → kid p i ≠ p := fun i hi e => by have := kid_par (.inr h2) hi; rw [e] at this; have := par_lt this.1 this.2.1; omega
  have hus := c.us
  have hus0 := hk.us
  have hfi := (kid_leaf h2 (i := 0) (by omega)).2.2.2.2.2.1
  have hac : actB (fun i => ν (kid p i)) (fun i => fiP p + i * (128 / 128)) (fun _ => 128 / 128) k = fun i => decide (ν (kid p i) ≠ 0) && decide (k < fiP p + i + 1) := by
    funext i
    show (decide _ && decide (k < fiP p + i * 1 + 1)) = _
    rw [Nat.mul_one]
  have hacP : ∀ i, i < 128 → (decide (ν (kid p i) ≠ 0) && decide (k < fiP p + i + 1)) = acP ν k (kid p i) := fun i hi => by
    obtain ⟨_, _, e3, e4, _⟩ := kid_leaf h2 hi
    rw [acP, e3, e4]
  have hgk : ∀ i, i < 128 → gone ν k (kid p i) = acP ν k (kid p i) := fun i hi => gone_leaf (kid_leaf h2 hi).1 (kid_leaf h2 hi).2.1
  have hrowN : ∀ i, i < 128 → nth (rowC 128 (fun i => ν (kid p i)) (fun i => decide (ν (kid p i) ≠ 0) && decide (k < fiP p + i + 1)) (fun _ => true) 128) i = (cvP ν k (kid p i) : Int) := fun i hi => by
    rw [nth_rowC _ _ _ _ _ _ hi]
    exact cv_row (ν := ν) (k := k) (p := kid p i) (i := i) (ac := fun i => decide (ν (kid p i) ≠ 0) && decide (k < fiP p + i + 1)) (gn := fun _ => true) (by show ((decide (ν (kid p i) ≠ 0) && decide (k < fiP p + i + 1)) = true ∧ true = true) ↔ _; rw [hacP i hi, hgk i hi]; simp) hi
  have hgp : gone ν k p = all128 (fun i => cvP ν k (kid p i)) := by rw [gone_t1 h2, ha, Bool.true_and]
  have hJ2 : ∀ T1, Cq D T0 T1 n ν k (fun q => Pr q ∨ ∃ i, i < 128 ∧ q = kid p i) (u + 128) → isT (bmp D T1) (ν p) = true ∧ T1.us.length + 1 ≤ 1000000 := fun T1 c1 => by
    refine ⟨(hk.bit c1 (p := p) (fun e => e.elim hpp (fun ⟨i, hi, e⟩ => hkid i hi e.symm)) h0).1, ?_⟩
    have := c1.us
    omega
  refine cn_tab w0 w D T n h hk.tab tt a0 (fiP p) 128 (ν p) k htt (by omega) (by omega) (by omega) hk.k b2 b3 (fun i => ν (kid p i)) (fun i hi => ?_) (fun _ => true) (fun j T1 => Cq D T0 T1 n ν k (fun q => Pr q ∨ ∃ i, i < j ∧ q = kid p i) (u + j)) (NotIn T0 n ν) (fun T1 c1 e => c1.no h0 b3 e) ?_ (fun j T' hj hb cj => ?_) (fun j hj hb wx Tx_ hs ht cj => ?_) _ hac (fun T' => Cq D T0 T' n ν k Pr' (u + 129)) (gone ν k p) ?_ hJ2 (fun w1 w2 T1 T2 c1 he g => ?_) (fun T1 T2 c1 he hch hc hl => ?_) (fun T1 c1 he hch => ?_)
  · have hN := nM_bd hk.lo hk.hi
    rw [c.tvN (ν p) (by omega) (fun q hq hm e => hpp (by rw [← hk.wd.own.inj q p hm.2.1 e]; exact hq))]
    obtain ⟨k1, k2, k3, k4⟩ := kid_par (.inr h2) hi
    have := hk.wd.tre.tab (kid p i) k1 k2 (by rw [k3]; exact h0)
    rw [k3, k4] at this
    exact this
  · exact c.add (by omega) (fun q e => .inl e) (fun q e => e.elim .inl (fun ⟨i, hi, _⟩ => by omega))
  · rw [hac] at hb
    have hg : gone ν k (kid p j) = false := by rw [hgk j hj, ← hacP j hj]; exact hb
    refine cj.add (by omega) (fun q e => e.imp id (fun ⟨i, hi, e⟩ => ⟨i, by omega, e⟩)) (fun q e => ?_)
    rcases e with e | ⟨i, hi, rfl⟩
    · exact .inl (.inl e)
    · by_cases e : i = j
      · subst e
        exact .inr ⟨hg, fun m => m.1.elim (kid_leaf h2 hj).1 (kid_leaf h2 hj).2.1⟩
      · exact .inl (.inr ⟨i, by omega, rfl⟩)
  · rw [hac] at hb
    have ha2 : acP ν k (kid p j) = true := by rw [← hacP j hj]; exact hb
    have hnp : ¬ (Pr (kid p j) ∨ ∃ i, i < j ∧ kid p j = kid p i) := fun e => by
      rcases e with e | ⟨i, hi, e⟩
      · exact hp _ (.inr ⟨j, hj, rfl⟩) e
      · have e1 := (kid_par (.inr h2) hj).2.2.2
        have e2 := (kid_par (.inr h2) (show i < 128 by omega)).2.2.2
        rw [e, e2] at e1
        omega
    have h0k : ν (kid p j) ≠ 0 := by unfold acP at ha2; simp at ha2; exact ha2.1
    obtain ⟨d1, d2, d3⟩ := hk.bit cj hnp h0k
    refine ⟨⟨d2, d3⟩, ?_⟩
    have := cn_leafq w0 wx D T0 Tx_ n x ν k (u + j) tt j (kid p j) _ hk hs ht cj (by omega) (kid_leaf h2 hj).1 (kid_leaf h2 hj).2.1 hnp ha2 (fun q => Pr q ∨ ∃ i, i < j + 1 ∧ q = kid p i) (fun q => ?_)
    · have e1 : fiP (kid p j) = fiP p + j * (128 / 128) := by rw [(kid_leaf h2 hj).2.2.2.1]; omega
      rw [e1] at this
      exact this
    · constructor
      · rintro (e | ⟨i, hi, e⟩)
        · exact .inl (.inl e)
        · by_cases e2 : i = j
          · subst e2; exact .inr e
          · exact .inl (.inr ⟨i, by omega, e⟩)
      · rintro ((e | ⟨i, hi, e⟩) | e)
        · exact .inl e
        · exact .inr ⟨i, by omega, e⟩
        · exact .inr ⟨j, by omega, e⟩
  · rw [hgp]; exact any_row hrowN
  · have := c1.give hk he g (by rw [g.u]; omega) (Pr' := Pr') (fun q => by
      rw [hPr]
      exact ⟨fun e => e.elim (fun e => .inl (.inl e)) (fun e => e.elim .inr (fun e => .inl (.inr e))), fun e => e.elim (fun e => e.elim .inl (fun e => .inr (.inr e))) (fun e => .inr (.inl e))⟩)
    exact this
  · obtain ⟨i, hi, hi2, _⟩ := chC_iff.1 hch
    have hm : modP ν k p := ⟨.inr h2, h0, he, i, hi, by rw [hgk i hi, ← hacP i hi]; exact hi2⟩
    refine c1.put hk (fun e => e.elim hpp (fun ⟨i, hi, e⟩ => hkid i hi e.symm)) hm hc (by omega) (fun i => ?_) hrowN (fun q => by
      rw [hPr]
      exact ⟨fun e => e.elim (fun e => .inl (.inl e)) (fun e => e.elim .inr (fun e => .inl (.inr e))), fun e => e.elim (fun e => e.elim .inl (fun e => .inr (.inr e))) (fun e => .inr (.inl e))⟩)
    by_cases hi : i < 128
    · rw [hrowN i hi]
      have hb : cvP ν k (kid p i) ≤ 16384 := by
        unfold cvP
        split
        · omega
        · by_cases e : ν (kid p i) = 0
          · omega
          · have := (hk.wd.own.good _ e).2.1; have := hk.hi; omega
      omega
    · rw [nth_out _ _ (by rw [rowC_length]; omega)]; omega
  · refine c1.add (by omega) (fun q e => (hPr q).2 (e.elim .inl (fun e => .inr (.inr e)))) (fun q e => ?_)
    rcases (hPr q).1 e with e | e | e
    · exact .inl (.inl e)
    · subst e
      refine .inr ⟨he, fun m => ?_⟩
      obtain ⟨i, hi, hg⟩ := m.2.2.2
      have : chC (fun i => decide (ν (kid q i) ≠ 0) && decide (k < fiP q + i + 1)) (fun _ => true) 128 = true := chC_iff.2 ⟨i, hi, by rw [hgk i hi, ← hacP i hi] at hg; exact hg, rfl⟩
      rw [this] at hch
      cases hch
    · exact .inl (.inr e)
end Go.Proofs.YtgmccpimpbnnpaaDoor
