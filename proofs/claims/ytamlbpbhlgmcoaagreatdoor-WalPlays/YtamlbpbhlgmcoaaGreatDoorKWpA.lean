import Derived.Test.YtamlbpbhlgmcoaaGreatDoorKPyM
import Derived.Test.YtamlbpbhlgmcoaaGreatDoorKRfM
import Derived.Test.YtamlbpbhlgmcoaaGreatDoorKNums
namespace Go.Proofs.YtamlbpbhlgmcoaaGreatDoor
open Go.RowKit Rec
/-- all the document's disk's blocks -/
def RDk.all (R : RDk) (k : Nat) : Prop := k = R.r ∨ k = R.gf ∨ R.av.ownBlock = some k ∨ R.kv.ownBlock = some k ∨ ∃ q ∈ R.L, ∃ p, q.a = some p ∧ p.block = k
theorem RDisk.lt {w : World} {R : RDk} (h : RDisk w R) {k : Nat} (hk : R.all k) : k < w.heap.size := by
  rcases hk with rfl | rfl | e | e | ⟨q, hq, p, e, rfl⟩
  · exact heap_lt h.box
  · exact h.first.lt
  · exact owns_block h.acts e
  · exact owns_block h.keep e
  · rcases h.each q hq with ⟨_, _, _, _, g, e2, ho⟩ | ⟨_, _, e2, _⟩
    · rw [e2] at e; cases e; exact ho.lt
    · rw [e2] at e; cases e
theorem RDisk.fr {S : Nat → Prop} {w w' : World} {R : RDk} (h : RDisk w R) (x : Fr S w w') (hS : ∀ k, R.all k → ¬ S k) : RDisk w' R :=
  ⟨x.heap h.box (hS _ (.inl rfl)), h.first.fr x (hS _ (.inr (.inl rfl))), h.flen, h.nb0, owns_fr h.acts x (fun k e => hS k (.inr (.inr (.inl e)))), fun q hq => by
    rcases h.each q hq with ⟨h1, h2, h3, h4, g, e, ho⟩ | z
    · exact .inl ⟨h1, h2, h3, h4, g, e, ho.fr x (hS g (.inr (.inr (.inr (.inr ⟨q, hq, _, e, rfl⟩)))))⟩
    · exact .inr z, owns_fr h.keep x (fun k e => hS k (.inr (.inr (.inr (.inl e))))), h.llen, h.lft⟩
theorem goes_all {R : RDk} {k : Nat} (h : R.goes.all k) : R.all k := by
  obtain ⟨_, _, g3, _, _, _, g7, g8, _, g10, g11⟩ := goes_same R
  unfold RDk.all at h ⊢
  rw [g3, g7, g8, g10, g11] at h
  exact h
theorem Dk.hasAll {D : Dk} {k : Nat} (h : D.has k) : D.all k := .inl h
theorem Disk.ltAll {w : World} {D : Dk} (h : Disk w D) {k : Nat} (hk : D.all k) : k < w.heap.size := by
  rcases hk with e | e | ⟨p, hp, rfl⟩ | ⟨a, ha, e⟩
  · exact h.hasLt e
  · exact h.kel k e
  · exact (h.penb p hp).2.2.1.lt
  · rcases h.tapb a ha with ⟨_, _, _, _, g, cap, e2, ho, _⟩ | ⟨_, _, e2, _⟩
    · rw [e2] at e; cases e; exact ho.lt
    · rw [e2] at e; cases e
/-- what a call answers and does, on both sides -/
def wE (a : AD) (i : Int) (n : Nat) : Int := if a.down then 30 else if 0 ≤ i ∧ i < a.nb then (if n = 512 then a.stepE else 32) else 31
def wA (a : AD) (i : Int) (l : List Int) : AD := if a.down then a else if 0 ≤ i ∧ i < a.nb then (if l.length = 512 then a.write i.toNat l else a) else a
def fE (a : AD) : Int := if a.down then 30 else a.stepE
def fA (a : AD) : AD := if a.down then a else a.flush
def armE (a : AD) : Int := if a.down then 30 else 0
def armA (a : AD) (t : Int) (K : List Bool) : AD := if a.down then a else a.arm t K
/-- the document's disk, as it is tied to what a disk tells -/
structure RT (w : World) (a : AD) (R : RDk) (j : Nat) : Prop where
  r : RDisk w R
  tie : Tie a R
  ll : R.L.length ≤ j
  wl : R.wr ≤ j
  fl : R.fl ≤ j
  kl : R.keep.length ≤ 1000000000000000
  lf : R.left ≤ 9223372036854775807
theorem RT.fr {S : Nat → Prop} {w w' : World} {a : AD} {R : RDk} {j : Nat} (h : RT w a R j) (x : Fr S w w') (hS : ∀ k, R.all k → ¬ S k) : RT w' a R j := ⟨h.r.fr x hS, h.tie, h.ll, h.wl, h.fl, h.kl, h.lf⟩
theorem RT.on {w w' : World} {a : AD} {R : RDk} {j : Nat} (h : RT w a R j) (hb : Below w.heap.size w w') : RT w' a R j := h.fr (below_fr hb (fun _ => False)) (fun _ _ e => e)
theorem RT.up {w : World} {a : AD} {R : RDk} {j j' : Nat} (h : RT w a R j) (hj : j ≤ j') : RT w a R j' := ⟨h.r, h.tie, Nat.le_trans h.ll hj, by have := h.wl; omega, by have := h.fl; omega, h.kl, h.lf⟩
/-- what became of it -/
structure RM (w : World) (R : RDk) (w' : World) (a' : AD) (R' : RDk) (j : Nat) : Prop where
  t : RT w' a' R' j
  fr : Fr R.all w w'
  al : ∀ k, R'.all k → R.all k ∨ w.heap.size ≤ k
  r : R'.r = R.r
theorem RT.same {w w' : World} {a : AD} {R : RDk} {j j' : Nat} (h : RT w a R j) (hj : j ≤ j') (hb : Below w.heap.size w w') : RM w R w' a R j' := ⟨(h.on hb).up hj, below_fr hb _, fun _ e => .inl e, rfl⟩
theorem RM.trans {w w1 w2 : World} {R R1 R2 : RDk} {a1 a2 : AD} {j j' : Nat} (h : RM w R w1 a1 R1 j) (h' : RM w1 R1 w2 a2 R2 j') : RM w R w2 a2 R2 j' :=
  ⟨h'.t, h.fr.trans h'.fr (fun k e => h.al k e), fun k e => by
    rcases h'.al k e with e | e
    · exact h.al k e
    · exact .inr (Nat.le_trans h.fr.size e), by rw [h'.r, h.r]⟩
theorem rav {R : RDk} {k : Nat} (e : k = R.r ∨ R.av.ownBlock = some k) : R.all k := e.elim .inl (fun e => .inr (.inr (.inl e)))
theorem goes_left {R : RDk} (h : R.left ≤ 9223372036854775807) : R.goes.left ≤ 9223372036854775807 := by
  unfold RDk.goes; split
  · exact h
  · show R.left - 1 ≤ _; omega
theorem wr0 {a : AD} {R : RDk} (h : Tie a R) : 0 ≤ R.wr ∧ 0 ≤ R.fl := by
  have h1 := h.wr; have h2 := h.fl; omega
/-- Write -/
theorem RT.write {w : World} {a : AD} {R : RDk} {j : Nat} (h : RT w a R j) (hj : j + 1 ≤ 100000000) (i : Int) (pa : Option Addr) (n c : Nat) (l : List Int) (hb : Bytes w pa l) (hl : l.length = n) (hn : n ≤ 140737488351232) :
    Calls Tryz.prog 30 #[.pointer (some ⟨R.r, 0, none⟩), .int .i64 i, .slice pa n c] w fun e w' => e = .returned (.int .i64 (wE a i n)) ∧ ∃ R', RM w R w' (wA a i l) R' (j + 1) := by
  have hnb : a.nb = R.nb := h.tie.nb
  have hdo : a.down = R.out := h.tie.dn
  unfold wE wA
  by_cases hd : a.down = true
  · rw [if_pos hd, if_pos hd]
    refine (rwrite_out w R h.r (by rw [← hdo]; exact hd) i pa n c).mono ?_
    rintro e w2 ⟨rfl, rfl⟩
    exact ⟨rfl, R, h.same (by omega) (Below.refl _ _)⟩
  · have hro : R.out = false := by cases e : R.out with | true => exact absurd (by rw [hdo]; exact e) hd | false => rfl
    rw [if_neg hd, if_neg hd]
    by_cases hi : 0 ≤ i ∧ i < a.nb
    · rw [if_pos hi, if_pos hi]
      by_cases h5 : n = 512
      · rw [if_pos h5, if_pos (by rw [hl]; exact h5)]
        obtain ⟨i', rfl⟩ : ∃ i' : Nat, i = (i' : Int) := ⟨i.toNat, by omega⟩
        have hwl := h.wl
        have hw0 := wr0 h.tie
        have hrl := h.ll
        refine (rwrite_ok w R h.r hro (i' : Int) pa n c l hb hl hn ⟨by omega, by omega⟩ h5 ⟨by omega, by omega⟩ (by omega) h.lf).mono ?_
        rintro e w2 ⟨rfl, b, bc, g, cap, hR2, f2, hb2, hg2⟩
        obtain ⟨t1, t2⟩ := h.tie.write (i := i') (x := l) (q := ⟨1, (i' : Int), some ⟨g, 0, none⟩, cap, l⟩) (R1 := { R with wr := R.wr + 1, av := .slice (some ⟨b, 0, none⟩) (R.L.length + 1) bc, L := R.L ++ [⟨1, (i' : Int), some ⟨g, 0, none⟩, cap, l⟩] }) hro ⟨rfl, rfl, rfl⟩ ⟨rfl, rfl, rfl, rfl, rfl, rfl, rfl, rfl⟩
        obtain ⟨g1, g2, g3, g4, g5, g6, g7, g8, g9, g10, g11⟩ := goes_same { R with wr := R.wr + 1, av := .slice (some ⟨b, 0, none⟩) (R.L.length + 1) bc, L := R.L ++ [⟨1, (i' : Int), some ⟨g, 0, none⟩, cap, l⟩] }
        have hfl := h.fl
        refine ⟨by rw [t2], _, ⟨hR2, t1, by rw [g3, List.length_append]; simp; omega, by rw [g5]; show R.wr + 1 ≤ _; omega, by rw [g6]; show R.fl ≤ _; omega, by rw [g4]; exact h.kl, goes_left h.lf⟩, f2.mono (fun k e => rav e), fun k e => ?_, g7⟩
        rcases goes_all e with e | e | e | e | ⟨q, hq, p', e, e2⟩
        · exact .inl (.inl e)
        · exact .inl (.inr (.inl e))
        · cases e
          rcases hb2 with hb2 | hb2
          · exact .inl (.inr (.inr (.inl hb2)))
          · exact .inr hb2
        · exact .inl (.inr (.inr (.inr (.inl e))))
        · rcases List.mem_append.1 hq with hq | hq
          · exact .inl (.inr (.inr (.inr (.inr ⟨q, hq, p', e, e2⟩))))
          · rw [List.mem_singleton] at hq; subst hq; cases e; rw [← e2]; exact .inr hg2
      · rw [if_neg h5, if_neg (by rw [hl]; exact h5)]
        have he : actE R.nb (wq i l) = 32 := by
          unfold actE wq; rw [if_pos rfl, if_pos (by rw [← hnb]; exact hi), if_neg (by rw [hl]; exact h5)]
        refine (rwrite_head w R h.r hro i pa n c l hb hl hn (by rw [he]; decide)).mono ?_
        rintro e w2 ⟨rfl, hb2⟩
        exact ⟨by rw [he], R, h.same (by omega) hb2⟩
    · rw [if_neg hi, if_neg hi]
      have he : actE R.nb (wq i l) = 31 := by
        unfold actE wq; rw [if_pos rfl, if_neg (by rw [← hnb]; exact hi)]
      refine (rwrite_head w R h.r hro i pa n c l hb hl hn (by rw [he]; decide)).mono ?_
      rintro e w2 ⟨rfl, hb2⟩
      exact ⟨by rw [he], R, h.same (by omega) hb2⟩
/-- Flush -/
theorem RT.flush {w : World} {a : AD} {R : RDk} {j : Nat} (h : RT w a R j) (hj : j + 1 ≤ 100000000) :
    Calls Tryz.prog 32 #[.pointer (some ⟨R.r, 0, none⟩)] w fun e w' => e = .returned (.int .i64 (fE a)) ∧ ∃ R', RM w R w' (fA a) R' (j + 1) := by
  have hdo : a.down = R.out := h.tie.dn
  unfold fE fA
  by_cases hd : a.down = true
  · rw [if_pos hd, if_pos hd]
    refine (rflush_out w R h.r (by rw [← hdo]; exact hd)).mono ?_
    rintro e w2 ⟨rfl, rfl⟩
    exact ⟨rfl, R, h.same (by omega) (Below.refl _ _)⟩
  · have hro : R.out = false := by cases e : R.out with | true => exact absurd (by rw [hdo]; exact e) hd | false => rfl
    rw [if_neg hd, if_neg hd]
    have hfl := h.fl
    have hw0 := wr0 h.tie
    have hrl := h.ll
    have hwl := h.wl
    cases hgo : R.gone with
    | true =>
      refine (rflush_gone w R h.r hro hgo ⟨by omega, by omega⟩ h.lf).mono ?_
      rintro e w2 ⟨rfl, hR2, f2⟩
      obtain ⟨t1, t2⟩ := h.tie.flushG hro hgo rfl
      obtain ⟨g1, g2, g3, g4, g5, g6, g7, g8, g9, g10, g11⟩ := goes_same { R with fl := R.fl + 1 }
      refine ⟨by rw [t2], _, ⟨hR2, t1, by rw [g3]; show R.L.length ≤ _; omega, by rw [g5]; show R.wr ≤ _; omega, by rw [g6]; show R.fl + 1 ≤ _; omega, by rw [g4]; exact h.kl, goes_left h.lf⟩, f2.mono (fun k e => .inl e), fun k e => .inl (by have e2 := goes_all e; exact e2), g7⟩
    | false =>
      refine (rflush_ok w R h.r hro hgo ⟨by omega, by omega⟩ h.lf (by omega)).mono ?_
      rintro e w2 ⟨rfl, b, bc, hR2, f2, hb2⟩
      obtain ⟨t1, t2⟩ := h.tie.flush (v := .slice (some ⟨b, 0, none⟩) (R.L.length + 1) bc) hro hgo rfl
      obtain ⟨g1, g2, g3, g4, g5, g6, g7, g8, g9, g10, g11⟩ := goes_same { R with fl := R.fl + 1 }
      refine ⟨by rw [t2], _, ⟨hR2, t1, by show (R.L ++ [fq]).length ≤ _; rw [List.length_append]; simp; omega, by show (RDk.goes { R with fl := R.fl + 1 }).wr ≤ _; rw [g5]; show R.wr ≤ _; omega, by show (RDk.goes { R with fl := R.fl + 1 }).fl ≤ _; rw [g6]; show R.fl + 1 ≤ _; omega, by show (RDk.goes { R with fl := R.fl + 1 }).keep.length ≤ _; rw [g4]; exact h.kl, by show (RDk.goes { R with fl := R.fl + 1 }).left ≤ _; exact goes_left h.lf⟩, f2.mono (fun k e => rav e), fun k e => ?_, g7⟩
      rcases e with e | e | e | e | ⟨q, hq, p', e, e2⟩
      · exact .inl (.inl (by rw [e]; exact g7))
      · exact .inl (.inr (.inl (by rw [e]; exact g8)))
      · cases e
        rcases hb2 with hb2 | hb2
        · exact .inl (.inr (.inr (.inl hb2)))
        · exact .inr hb2
      · exact .inl (.inr (.inr (.inr (.inl (by rw [← e]; show _ = (RDk.goes _).kv.ownBlock; rw [g11])))))
      · rcases List.mem_append.1 hq with hq | hq
        · exact .inl (.inr (.inr (.inr (.inr ⟨q, hq, p', e, e2⟩))))
        · rw [List.mem_singleton] at hq; subst hq; cases e
/-- Arm -/
theorem RT.arm {w : World} {a : AD} {R : RDk} {j : Nat} (h : RT w a R j) (t : Int) (ht : t ≤ 9223372036854775807) (ka : Option Addr) (kn kc : Nat) (K : List Bool) (hk : Bools w (.slice ka kn kc) K) (hkn : K.length = kn) (hK : kn ≤ 140737488351232) (hkr : K ≠ [] → ∀ b off, ka = some ⟨b, off, none⟩ → ¬ R.all b) :
    Calls Tryz.prog 34 #[.pointer (some ⟨R.r, 0, none⟩), .agg #[.int .i64 t, .slice ka kn kc]] w fun e w' => e = .returned (.int .i64 (armE a)) ∧ ∃ R', RM w R w' (armA a t K) R' j := by
  have hdo : a.down = R.out := h.tie.dn
  unfold armE armA
  by_cases hd : a.down = true
  · rw [if_pos hd, if_pos hd]
    refine (rarm_out w R h.r (by rw [← hdo]; exact hd) t ka kn kc).mono ?_
    rintro e w2 ⟨rfl, hb2⟩
    exact ⟨rfl, R, h.same (Nat.le_refl _) hb2⟩
  · have hro : R.out = false := by cases e : R.out with | true => exact absurd (by rw [hdo]; exact e) hd | false => rfl
    rw [if_neg hd, if_neg hd]
    refine (rarm_anyE w R h.r hro t ka kn kc K hk hkn hK (fun hne b off e e2 => hkr hne b off e (.inl e2))).mono ?_
    rintro e w2 ⟨rfl, v, c, hR2, f2, hv2⟩
    have t1 := h.tie.arm (v := .slice v kn c) (K := K) (t := t) hro
    refine ⟨rfl, _, ⟨hR2, t1, ?_, ?_, ?_, ?_, ?_⟩, f2.mono (fun k e => .inl e), fun k e => ?_, ?_⟩
    · split <;> exact h.ll
    · split <;> exact h.wl
    · split <;> exact h.fl
    · split
      · show K.length ≤ _; omega
      · exact h.kl
    · split
      · exact ht
      · show (0 : Int) ≤ _; omega
    · by_cases ht0 : 0 < t
      · rw [if_pos ht0] at e
        rcases e with e | e | e | e | e
        · exact .inl (.inl e)
        · exact .inl (.inr (.inl e))
        · exact .inl (.inr (.inr (.inl e)))
        · exact .inr (hv2 k e)
        · exact .inl (.inr (.inr (.inr (.inr e))))
      · rw [if_neg ht0] at e
        exact .inl e
    · split <;> rfl
/-- Crash -/
theorem RT.crash {w : World} {a : AD} {R : RDk} {j : Nat} (h : RT w a R j) (ka : Option Addr) (kn kc : Nat) (K : List Bool) (hk : Bools w (.slice ka kn kc) K) (hkn : K.length = kn) (hK : kn ≤ 140737488351232) (hkr : K ≠ [] → ∀ b off, ka = some ⟨b, off, none⟩ → ¬ R.all b) :
    Calls Tryz.prog 36 #[.pointer (some ⟨R.r, 0, none⟩), .slice ka kn kc] w fun e w' => e = .returned (.tuple #[]) ∧ ∃ R', RM w R w' (a.cut (kpOf K)) R' j := by
  cases ho : R.out with
  | true =>
    refine (rcrash_out w R h.r ho _).mono ?_
    rintro e w2 ⟨rfl, rfl⟩
    exact ⟨rfl, R, ⟨h.r, h.tie.crashO ho, h.ll, h.wl, h.fl, h.kl, h.lf⟩, Fr.refl _ _, fun _ e => .inl e, rfl⟩
  | false =>
    refine (rcrash_anyE w R h.r ho ka kn kc K hk hkn hK (fun hne b off e e2 => hkr hne b off e (.inl e2))).mono ?_
    rintro e w2 ⟨rfl, v, c, hR2, f2, hv2⟩
    have t1 := h.tie.crash (v := .slice v kn c) (K := K) ho
    refine ⟨rfl, _, ⟨hR2, t1, h.ll, h.wl, h.fl, by show K.length ≤ _; omega, h.lf⟩, f2.mono (fun k e => .inl e), fun k e => ?_, rfl⟩
    rcases e with e | e | e | e | e
    · exact .inl (.inl e)
    · exact .inl (.inr (.inl e))
    · exact .inl (.inr (.inr (.inl e)))
    · exact .inr (hv2 k e)
    · exact .inl (.inr (.inr (.inr (.inr e))))
theorem RT.actsL {w : World} {a : AD} {R : RDk} {j : Nat} (h : RT w a R j) : ∀ i, i < R.L.length → (actN R.L i).kind = 1 → (actN R.L i).x.length = 512 ∧ 0 ≤ (actN R.L i).b := fun i hi hk => by
  have hm : actN R.L i ∈ R.L := by unfold actN; rw [List.getD, List.getElem?_eq_getElem hi]; exact List.getElem_mem hi
  rcases h.r.each _ hm with ⟨_, h2, _, h4, _⟩ | ⟨h1, _⟩
  · exact ⟨h4, h2⟩
  · rw [h1] at hk; exact absurd hk (by decide)
/-- Read -/
theorem RT.read {w : World} {a : AD} {R : RDk} {j : Nat} (h : RT w a R j) (hd : a.down = false) (i : Nat) (hi : i < a.nb) :
    Calls Tryz.prog 93 #[.pointer (some ⟨R.r, 0, none⟩), .int .i64 i] w fun e w' => ∃ g cap, e = .returned (.tuple #[.slice (some ⟨g, 0, none⟩) 512 cap, .int .i64 0]) ∧ w.heap.size ≤ g ∧ OwnB w' g cap (bck a.full i) ∧ Below w.heap.size w w' := by
  have hdo : a.down = R.out := h.tie.dn
  have hnb : a.nb = R.nb := h.tie.nb
  have hro : R.out = false := by rw [← hdo]; exact hd
  rw [h.tie.read hro (i := i) (by omega) h.r.flen h.actsL]
  exact rread_ok w R h.r hro i (by omega)
/-- Image -/
theorem RT.image {w : World} {a : AD} {R : RDk} {j : Nat} (h : RT w a R j) :
    Calls Tryz.prog 16 #[.pointer (some ⟨R.r, 0, none⟩)] w fun e w' => ∃ g cap, e = .returned (.slice (some ⟨g, 0, none⟩) (512 * a.nb) cap) ∧ w.heap.size ≤ g ∧ OwnB w' g cap a.las ∧ Below w.heap.size w w' := by
  have hx : a.las = R.img := h.tie.img
  have hnb : a.nb = R.nb := h.tie.nb
  rw [hx, hnb]
  exact rimage_any w R h.r h.kl
end Go.Proofs.YtamlbpbhlgmcoaaGreatDoor

namespace Go.Proofs.YtamlbpbhlgmcoaaGreatDoor
open Go.RowKit Rec
/-- Write, on the program's side -/
theorem pd_write (w : World) (D : Dk) (h : Disk w D) (hr : RoomD D.abs) (i : Int) (pa : Option Addr) (n c : Nat) (l : List Int) (hb : Bytes w pa l) (hl : l.length = n) (hp : l ≠ [] → ∀ p, pa = some p → ¬ D.has p.block) :
    Calls Tryz.prog 31 #[.pointer (some ⟨D.d, 0, none⟩), .int .i64 i, .slice pa n c] w fun e w' => e = .returned (.int .i64 (wE D.abs i n)) ∧ ∃ D', Disk w' D' ∧ Mv w D w' D' ∧ Al w.heap.size D D' ∧ D'.abs = wA D.abs i l := by
  have e1 : D.abs.down = D.down := rfl
  have e2 : D.abs.nb = D.nb := rfl
  unfold wE wA
  rw [e1, e2]
  by_cases hd : D.down = true
  · have ht : touchE D i = 30 := by unfold touchE; rw [if_pos hd]
    rw [if_pos hd, if_pos hd]
    refine (write_no w D h i pa n c (by rw [ht]; decide)).mono ?_
    rintro e w1 ⟨rfl, rfl⟩
    exact ⟨by rw [ht], D, h, Mv.refl _ _, fun _ hk => .inl hk, rfl⟩
  · rw [if_neg hd, if_neg hd]
    have hd' : D.down = false := by cases e : D.down with | true => exact absurd e hd | false => rfl
    by_cases hi : 0 ≤ i ∧ i < D.nb
    · have ht : touchE D i = 0 := by unfold touchE; rw [if_neg hd, if_pos hi]
      rw [if_pos hi, if_pos hi]
      by_cases h5 : n = 512
      · rw [if_pos h5, if_pos (by rw [hl]; exact h5)]
        obtain ⟨i', rfl⟩ : ∃ i' : Nat, i = (i' : Int) := ⟨i.toNat, by omega⟩
        subst h5
        have hne : l ≠ [] := fun e => by rw [e] at hl; simp at hl
        obtain ⟨p, rfl⟩ : ∃ p, pa = some p := by
          cases pa with
          | some p => exact ⟨p, rfl⟩
          | none => exact absurd hb.nil hne
        exact write_yes w D h i' p c l (by omega) hd' hb hl hr (hp hne p rfl)
      · rw [if_neg h5, if_neg (by rw [hl]; exact h5)]
        refine (write_size w D h i pa n c ht h5).mono ?_
        rintro e w1 ⟨rfl, rfl⟩
        exact ⟨rfl, D, h, Mv.refl _ _, fun _ hk => .inl hk, rfl⟩
    · have ht : touchE D i = 31 := by unfold touchE; rw [if_neg hd, if_neg hi]
      rw [if_neg hi, if_neg hi]
      refine (write_no w D h i pa n c (by rw [ht]; decide)).mono ?_
      rintro e w1 ⟨rfl, rfl⟩
      exact ⟨by rw [ht], D, h, Mv.refl _ _, fun _ hk => .inl hk, rfl⟩
theorem pd_flush (w : World) (D : Dk) (h : Disk w D) (hr : RoomD D.abs) :
    Calls Tryz.prog 33 #[.pointer (some ⟨D.d, 0, none⟩)] w fun e w' => e = .returned (.int .i64 (fE D.abs)) ∧ ∃ D', Disk w' D' ∧ Mv w D w' D' ∧ Al w.heap.size D D' ∧ D'.abs = fA D.abs := by
  have e1 : D.abs.down = D.down := rfl
  unfold fE fA
  rw [e1]
  by_cases hd : D.down = true
  · rw [if_pos hd, if_pos hd]
    refine (flush_no w D h hd).mono ?_
    rintro e w1 ⟨rfl, hb⟩
    exact ⟨rfl, D, h.on hb, mv_on _ _ _ hb, fun _ hk => .inl hk, rfl⟩
  · rw [if_neg hd, if_neg hd]
    exact flush_yes w D h (by cases e : D.down with | true => exact absurd e hd | false => rfl) hr
theorem pd_arm (w : World) (D : Dk) (h : Disk w D) (t : Int) (ht : t ≤ 9223372036854775807) (ka : Option Addr) (kn kc : Nat) (K : List Bool) (hk : Bools w (.slice ka kn kc) K) (hkn : K.length = kn) (h0 : ka = none → kc = 0) (hK : kn ≤ 140737488351232) :
    Calls Tryz.prog 35 #[.pointer (some ⟨D.d, 0, none⟩), .agg #[.int .i64 t, .slice ka kn kc]] w fun e w' => e = .returned (.int .i64 (armE D.abs)) ∧ ∃ D', Disk w' D' ∧ Mv w D w' D' ∧ Al w.heap.size D D' ∧ D'.abs = armA D.abs t K := by
  have e1 : D.abs.down = D.down := rfl
  unfold armE armA
  rw [e1]
  by_cases hd : D.down = true
  · rw [if_pos hd, if_pos hd]
    refine (arm_no w D h t _ hd).mono ?_
    rintro e w1 ⟨rfl, hb⟩
    exact ⟨rfl, D, h.on hb, mv_on _ _ _ hb, fun _ hk => .inl hk, rfl⟩
  · rw [if_neg hd, if_neg hd]
    subst hkn
    exact arm_yes w D h t ka kc K hk h0 (by omega) ht (by cases e : D.down with | true => exact absurd e hd | false => rfl)
theorem pd_crash (w : World) (D : Dk) (h : Disk w D) (ka : Option Addr) (kn kc : Nat) (K : List Bool) (hk : Bools w (.slice ka kn kc) K) (hkn : K.length = kn) (hK : kn ≤ 140737488351232) (hp : K ≠ [] → ∀ b off, ka = some ⟨b, off, none⟩ → ¬ D.has b) :
    Calls Tryz.prog 37 #[.pointer (some ⟨D.d, 0, none⟩), .slice ka kn kc] w fun e w' => e = .returned (.tuple #[]) ∧ ∃ D', Disk w' D' ∧ Mv w D w' D' ∧ Al w.heap.size D D' ∧ D'.abs = D.abs.cut (kpOf K) := by
  refine (crash_any w D h _ K hk (fun hne k e => ?_) (by omega)).mono ?_
  · obtain ⟨a, c, e1, e2⟩ := hk
    cases e1
    rcases e2 with e2 | ⟨b, off, e3, _⟩
    · exact absurd e2 hne
    · cases e3; cases e; exact hp hne _ _ rfl
  · rintro e w1 ⟨rfl, hD, hM⟩
    exact ⟨rfl, D.cut (kpOf K), hD, hM, al_crash _ D _, abs_cut D _⟩
/-- both disks, apart from all else -/
structure WS (w0 w : World) (D : Dk) (R : RDk) (j : Nat) : Prop where
  d : Disk w D
  t : RT w D.abs R j
  ap : ∀ k, D.all k → ¬ R.all k
  new : ∀ k, D.all k ∨ R.all k → w0.heap.size ≤ k
  be : Below w0.heap.size w0 w
  kd : D.keep.length ≤ 1000000000000000
theorem WS.on {w0 w w' : World} {D : Dk} {R : RDk} {j : Nat} (h : WS w0 w D R j) (hb : Below w.heap.size w w') : WS w0 w' D R j := ⟨h.d.on hb, h.t.on hb, h.ap, h.new, h.be.trans (hb.mono h.be.size), h.kd⟩
theorem WS.fr {S : Nat → Prop} {w0 w w' : World} {D : Dk} {R : RDk} {j : Nat} (h : WS w0 w D R j) (x : Fr S w w') (hS : ∀ k, D.all k ∨ R.all k → ¬ S k) (hn : ∀ k, S k → w0.heap.size ≤ k) : WS w0 w' D R j := ⟨h.d.fr x (fun k e => hS k (.inl e)), h.t.fr x (fun k e => hS k (.inr e)), h.ap, h.new, h.be.trans (x.below _ hn h.be.size), h.kd⟩
theorem WS.lt {w0 w : World} {D : Dk} {R : RDk} {j k : Nat} (h : WS w0 w D R j) (hk : D.all k ∨ R.all k) : k < w.heap.size := hk.elim h.d.ltAll h.t.r.lt
theorem pnd_len (L : List ActR) (k : Nat) : (pnd L k).length ≤ k := by
  induction k with
  | zero => exact Nat.le_refl _
  | succ k ih => rw [pnd]; split <;> simp <;> omega
theorem WS.lens {w0 w : World} {D : Dk} {R : RDk} {j : Nat} (h : WS w0 w D R j) : D.abs.P.length ≤ j ∧ D.abs.T.length ≤ j ∧ D.abs.wr ≤ j ∧ D.abs.fl ≤ j := by
  have h1 := h.t.ll
  have h2 := h.t.wl
  have h3 := h.t.fl
  have h4 := h.t.tie.wr
  have h5 := h.t.tie.fl
  refine ⟨?_, by rw [h.t.tie.T, List.length_map]; exact h1, by omega, by omega⟩
  cases ho : R.out with
  | true => rw [(h.t.tie.off ho).2]; exact Nat.zero_le _
  | false => rw [(h.t.tie.on ho).2.1]; exact Nat.le_trans (pnd_len _ _) h1
theorem WS.room {w0 w : World} {D : Dk} {R : RDk} {j : Nat} (h : WS w0 w D R j) (hj : j + 1 ≤ 100000000) : RoomD D.abs := by
  obtain ⟨h1, h2, h3, h4⟩ := h.lens
  have h5 := h.kd
  exact ⟨by omega, by omega, by omega, by omega, by show D.keep.length ≤ _; omega⟩
/-- what became of both -/
structure WM (w0 w : World) (D : Dk) (R : RDk) (w' : World) (D' : Dk) (R' : RDk) (j : Nat) : Prop where
  s : WS w0 w' D' R' j
  fr : Fr (fun k => D.all k ∨ R.all k) w w'
  al : ∀ k, D'.all k ∨ R'.all k → (D.all k ∨ R.all k) ∨ w.heap.size ≤ k
  d : D'.d = D.d
  r : R'.r = R.r
theorem WS.mid {w0 w w1 wx : World} {D : Dk} {R R' : RDk} {a' : AD} {j j' : Nat} (h : WS w0 w D R j) (hM : RM w R w1 a' R' j') (hx : Below w1.heap.size w1 wx) : Disk wx D := (h.d.fr hM.fr (fun k e e2 => h.ap k e e2)).on hx
theorem ws_step {w0 w w1 wx w2 : World} {D D' : Dk} {R R' : RDk} {a' : AD} {j j' : Nat} (h : WS w0 w D R j) (hM : RM w R w1 a' R' j') (hx : Below w1.heap.size w1 wx) (hD : Disk w2 D') (hV : Mv wx D w2 D') (hA : Al wx.heap.size D D') (he : D'.abs = a') (hk : D'.keep.length ≤ 1000000000000000) : WM w0 w D R w2 D' R' j' := by
  have s1 := hM.fr.size
  have s2 := hx.size
  have hDR : ∀ k, D.all k → ¬ R'.all k := fun k e e2 => by
    rcases hM.al k e2 with e3 | e3
    · exact h.ap k e e3
    · have := h.d.ltAll e; omega
  have ht : RT w2 a' R' j' := (hM.t.on hx).fr hV.fr (fun k e e2 => hDR k (Dk.hasAll e2) e)
  have hal : ∀ k, D'.all k ∨ R'.all k → (D.all k ∨ R.all k) ∨ w.heap.size ≤ k := fun k e => by
    rcases e with e | e
    · rcases hA k e with e | e
      · exact .inl (.inl e)
      · exact .inr (by omega)
    · exact (hM.al k e).imp .inr id
  have hf : Fr (fun k => D.all k ∨ R.all k) w w2 := ((hM.fr.mono (fun k e => .inr e)).trans (below_fr hx (fun _ => False)) (fun _ e => e.elim)).trans hV.fr (fun k e => .inl (.inl (Dk.hasAll e)))
  refine ⟨⟨hD, by rw [he]; exact ht, fun k e e2 => ?_, fun k e => ?_, h.be.trans (hf.below _ h.new h.be.size), hk⟩, hf, hal, hV.d, hM.r⟩
  · rcases hA k e with e3 | e3
    · exact hDR k e3 e2
    · have := hM.t.r.lt e2; omega
  · rcases hal k e with e3 | e3
    · exact h.new k e3
    · have := h.be.size; omega
end Go.Proofs.YtamlbpbhlgmcoaaGreatDoor

namespace Go.Proofs.YtamlbpbhlgmcoaaGreatDoor
open Go.RowKit Rec
open Crc (W)

theorem shr1 (x : W) : U x / (2 : Int) = U (x >>> (1 : Nat)) := by
  unfold U
  rw [BitVec.toNat_ushiftRight, Nat.shiftRight_eq_div_pow]; omega
theorem lsb (x : W) : x.getLsbD 0 = decide (x.toNat % 2 = 1) := by
  simp [BitVec.getLsbD]
theorem pl_odd (x : W) (h : (U x % 2 == 1) = true) : bits .xor .u32 (U x / 2) 3988292384 = U (Crc.pl x) := by
  have hb : x.getLsbD 0 = true := by rw [lsb]; unfold U at h; simp at h; simp; omega
  have e : (3988292384 : Int) = U 3988292384#32 := by decide
  rw [shr1, e, bits_xor]; unfold Crc.pl; rw [if_pos hb]
theorem pl_evn (x : W) (h : (U x % 2 == 1) = false) : U x / 2 = U (Crc.pl x) := by
  have hb : ¬ x.getLsbD 0 = true := by rw [lsb]; unfold U at h; simp at h; simp; omega
  rw [shr1]; unfold Crc.pl; rw [if_neg hb]
set_option maxRecDepth 100000 in
theorem one_ref (w : World) (x : W) : Calls Tryz.prog 133 #[.int .u32 (U x)] w fun e w' => e = .returned (.int .u32 (U (Crc.pl x))) ∧ w = w' := by
  have lo := U_lo x
  have hi := U_hi x
  cases h : (U x % 2 == 1) with
  | true =>
    have e := pl_odd x h
    go_enter Tryz.func133, Tryz.ntmps133
    go_wp2
    go_ret
    exact ⟨rfl, rfl⟩
  | false =>
    go_enter Tryz.func133, Tryz.ntmps133
    go_wp2
    go_ret
    exact ⟨congrArg (fun n => Ending.returned (Value.int .u32 n)) (pl_evn x h), rfl⟩
theorem pw_succ (k : Nat) (x : W) : Crc.pw Crc.pl (k + 1) x = Crc.pl (Crc.pw Crc.pl k x) := by rw [Crc.pw_add]; rfl
theorem xor_ones (x : W) : bits .xor .u32 (U x) 4294967295 = U (x ^^^ Crc.ones) := by
  rw [← bits_xor]; rfl

set_option maxRecDepth 100000 in
set_option maxHeartbeats 400000 in
theorem refOf_some (w : World) (b off cap : Nat) (l : List Int) (hlen : l.length ≤ 1000000000000000) (hwf : ∀ i, 0 ≤ nth l i ∧ nth l i < 256)
    (hc : ∀ i, i < l.length → w.cell? ⟨b, off + i, none⟩ = some (.int .u8 (nth l i))) :
    Calls Tryz.prog 125 #[.slice (some ⟨b, off, none⟩) l.length cap] w fun e w' => e = .returned (.int .u32 (U (Crc.crc l))) ∧ w = w' := by
  have HC : Hid (∀ i, i < l.length → w.cell? ⟨b, off + i, none⟩ = some (.int .u8 (nth l i))) := hc
  have HW : Hid (∀ i, 0 ≤ nth l i ∧ nth l i < 256) := hwf
  clear hc hwf
  generalize hn : l.length = n at *
  have HN : Hid (l.length = n) := hn
  clear hn
  go_enter Tryz.func125, Tryz.ntmps125
  go_wp2
  go_loop [3, 4, 5] (fun t i _ => ∃ k : Nat, k ≤ n ∧ i = .int .i64 k ∧ t = .int .u32 (U (Crc.fold Crc.ones (l.take k)))) (fun _ i _ => n - (intOf i).toNat)
  case atStart => exact ⟨0, Nat.zero_le _, rfl, rfl⟩
  case round =>
    obtain ⟨k, hk, rfl, rfl⟩ := hrel
    by_cases hlt : k < n
    · have c := HC.out k hlt
      have cb := HW.out k
      have hx := xor_byte (Crc.fold Crc.ones (l.take k)) (nth l k) cb
      have hs : Hid (Crc.fold Crc.ones (l.take (k + 1)) = Crc.pw Crc.pl 8 (Crc.fold Crc.ones (l.take k) ^^^ BitVec.ofInt 32 (nth l k))) := by
        rw [take_snoc l k (by rw [HN.out]; exact hlt)]; exact Crc.fold_snoc _ _ _
      generalize hy : Crc.fold Crc.ones (l.take k) ^^^ BitVec.ofInt 32 (nth l k) = y at hs hx
      clear hy
      go_wp2
      go_loop [3, 5] (fun t i => ∃ m : Nat, m ≤ 8 ∧ i = .int .i64 m ∧ t = .int .u32 (U (Crc.pw Crc.pl m y))) (fun _ i => 8 - (intOf i).toNat)
      case atStart => exact ⟨0, Nat.zero_le _, rfl, rfl⟩
      case round =>
        obtain ⟨m, hm, rfl, rfl⟩ := hrel
        by_cases hmt : m < 8
        · have hp : Hid (Crc.pl (Crc.pw Crc.pl m y) = Crc.pw Crc.pl (m + 1) y) := (pw_succ m y).symm
          go_wp2_with (go_at_call 133; refine (one_ref _ _).mono ?_; rintro e w' ⟨rfl, rfl⟩)
          go_round
          case rel => exact ⟨m + 1, by omega, by go_num, by rw [hp.out]⟩
          case measure => simp [intOf]; omega
        · obtain rfl : m = 8 := by omega
          go_wp2
          go_round
          case rel => exact ⟨k + 1, by omega, by go_num, by rw [hs.out]⟩
          case measure => simp [intOf]; omega
    · have hx := xor_ones (Crc.fold Crc.ones (l.take k))
      go_wp2
      go_ret
      refine ⟨?_, rfl⟩
      show Ending.returned (.int .u32 (U (Crc.fold Crc.ones (l.take k) ^^^ Crc.ones))) = _
      rw [List.take_of_length_le (by rw [HN.out]; omega)]; rfl
set_option maxRecDepth 100000 in
theorem refOf_none (w : World) (a : Option Addr) (cap : Nat) :
    Calls Tryz.prog 125 #[.slice a 0 cap] w fun e w' => e = .returned (.int .u32 (U (Crc.crc []))) ∧ w = w' := by
  go_enter Tryz.func125, Tryz.ntmps125
  go_wp2
  go_loop [3, 4] (fun t i => i = .int .i64 0 ∧ t = .int .u32 4294967295) (fun _ _ => 0)
  case atStart => exact ⟨rfl, rfl⟩
  case round =>
    obtain ⟨rfl, rfl⟩ := hrel
    go_wp2
    go_ret
    exact ⟨rfl, rfl⟩
theorem refOf_any (w : World) (a : Option Addr) (n cap : Nat) (l : List Int) (hn : l.length = n) (hB : Bytes w a l) :
    Calls Tryz.prog 125 #[.slice a n cap] w fun e w' => e = .returned (.int .u32 (U (Crc.crc l))) ∧ w = w' := by
  subst hn
  rcases hB.at_ with h | ⟨b, off, rfl, hc⟩
  · subst h; exact refOf_none w a cap
  · exact refOf_some w b off cap l hB.len hB.wf hc
end Go.Proofs.YtamlbpbhlgmcoaaGreatDoor
