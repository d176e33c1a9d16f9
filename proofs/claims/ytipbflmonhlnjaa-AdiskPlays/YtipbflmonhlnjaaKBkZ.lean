import Derived.Test.YtipbflmonhlnjaaKBkY
import Derived.Test.YtipbflmonhlnjaaKBkJ
import Derived.Test.YtipbflmonhlnjaaKATape
import Derived.Test.YtipbflmonhlnjaaRows
import Derived.Test.YtipbflmonhlnjaaKMathR
import Derived.WalkKit
import Derived.ProofKit
import Derived.OpenShut
import Derived.ShutString
import Derived.ChangeOld
import Derived.Below
import Derived.Deep.DeepHandedRow
import Derived.Test.YtipbflmonhlnjaaKOwn
import Derived.SizedLaws
import Derived.Lib.SmallJoins
import Derived.Deep.Slices
namespace Go.Proofs.Ytipbflmonhlnjaa
open Go.RowKit Rec
/-- Flush on both sides -/
theorem pflush {w : World} {D : Dk} {R : RDk} {j : Nat} (h : Pr w D R j) (hj : j + 1 ≤ 100000000) :
    ∃ E : Int, Calls Try.prog 21 #[.pointer (some ⟨D.d, 0, none⟩)] w fun e w1 => e = .returned (.int .i64 E) ∧ Fr (PrA D R) w w1 ∧ ∀ wx, Below w1.heap.size w1 wx → Calls Try.prog 22 #[.pointer (some ⟨R.r, 0, none⟩)] wx fun e w2 => e = .returned (.int .i64 E) ∧ ∃ D' R', PrM w D R w2 D' R' (j + 1) := by
  have hdo : D.down = R.out := h.tie.dn
  by_cases hd : D.down = true
  · refine ⟨30, (flush_no w D h.d hd).mono ?_⟩
    rintro e w1 ⟨rfl, hb⟩
    refine ⟨rfl, below_fr hb _, fun wx hx => ?_⟩
    have hbx := hb.trans (hx.mono hb.size)
    refine (rflush_out wx R (h.r.on hbx) (by rw [← hdo]; exact hd)).mono ?_
    rintro e w2 ⟨rfl, rfl⟩
    exact ⟨rfl, D, R, pr_same h (by omega) hbx⟩
  · have hd' : D.down = false := by cases e : D.down with | true => exact absurd e hd | false => rfl
    have hro : R.out = false := by rw [← hdo]; exact hd'
    refine ⟨D.abs.stepE, (flush_yes w D h.d hd' (roomD h hj)).mono ?_⟩
    rintro e w1 ⟨rfl, D', hD, hM, hA, habs⟩
    refine ⟨rfl, hM.fr.mono (fun k e => .inl (Dk.hasAll e)), fun wx hx => ?_⟩
    have hR1 : RDisk w1 R := h.r.fr hM.fr (fun k e e2 => h.ap k (Dk.hasAll e2) e)
    have hRx := hR1.on hx
    obtain ⟨l1, l2, l3, l4⟩ := flush_len D.abs
    rw [← habs] at l1 l2 l3 l4
    rw [abs_tlen, abs_tlen] at l1
    have htl := h.tl
    have hwl := h.wl
    have hfl := h.fl
    have hfi : (D.fl : Int) = R.fl := h.tie.fl
    have hrl := rlen h
    have hlf := h.lf
    have hl0 := h.r.lft
    cases hgo : R.gone with
    | true =>
      refine (rflush_gone wx R hRx hro hgo ⟨by omega, by omega⟩ h.lf).mono ?_
      rintro e w2 ⟨rfl, hR2, f2⟩
      obtain ⟨t1, t2⟩ := h.tie.flushG hro hgo rfl
      rw [← habs] at t1
      obtain ⟨g1, g2, g3, g4, g5, g6, g7, g8, g9, g10, g11⟩ := goes_same { R with fl := R.fl + 1 }
      refine ⟨by rw [t2], D', _, pr_step h hD hM hA hx hR2 (f2.mono (fun k e => .inl e)) (fun k e => .inl (by have e2 := goes_all e; exact e2)) g7 t1 (by omega) (by show D'.abs.wr ≤ _; rw [l2]; show D.wr ≤ _; omega) (by show D'.abs.fl ≤ _; rw [l3]; show D.fl + 1 ≤ _; omega) ⟨by show D'.abs.keep.length ≤ _; rw [l4]; exact h.kl.1, by rw [g4]; exact h.kl.2⟩ ?_⟩
      unfold RDk.goes; split
      · exact hlf
      · show R.left - 1 ≤ _; omega
    | false =>
      refine (rflush_ok wx R hRx hro hgo ⟨by omega, by omega⟩ h.lf (by omega)).mono ?_
      rintro e w2 ⟨rfl, b, bc, hR2, f2, hb2⟩
      obtain ⟨t1, t2⟩ := h.tie.flush (v := .slice (some ⟨b, 0, none⟩) (R.L.length + 1) bc) hro hgo rfl
      rw [← habs] at t1
      obtain ⟨g1, g2, g3, g4, g5, g6, g7, g8, g9, g10, g11⟩ := goes_same { R with fl := R.fl + 1 }
      refine ⟨by rw [t2], D', _, pr_step h hD hM hA hx hR2 f2 (fun k e => ?_) g7 t1 (by omega) (by show D'.abs.wr ≤ _; rw [l2]; show D.wr ≤ _; omega) (by show D'.abs.fl ≤ _; rw [l3]; show D.fl + 1 ≤ _; omega) ⟨by show D'.abs.keep.length ≤ _; rw [l4]; exact h.kl.1, by show (RDk.goes { R with fl := R.fl + 1 }).keep.length ≤ _; rw [g4]; exact h.kl.2⟩ ?_⟩
      · rcases e with e | e | e | e | ⟨q, hq, p', e, e2⟩
        · exact .inl (.inl (by rw [e]; exact g7))
        · exact .inl (.inr (.inl (by rw [e]; exact g8)))
        · cases e
          rcases hb2 with hb2 | hb2
          · exact .inl (.inr (.inr (.inl hb2)))
          · exact .inr hb2
        · exact .inl (.inr (.inr (.inr (.inl (by rw [← e]; show _ = (RDk.goes _).kv.ownBlock; rw [g11])))))
        · rcases List.mem_append.1 hq with hq | hq
          · exact .inl (.inr (.inr (.inr (.inr ⟨q, hq, p', e, e2⟩))))
          · rw [List.mem_singleton] at hq; subst hq; cases e
      · show (RDk.goes { R with fl := R.fl + 1 }).left ≤ _
        unfold RDk.goes; split
        · exact hlf
        · show R.left - 1 ≤ _; omega
/-- Arm on both sides -/
theorem parm {w : World} {D : Dk} {R : RDk} {j : Nat} (h : Pr w D R j) (t : Int) (ht : t ≤ 9223372036854775807) (K : List Bool) (hK : K.length ≤ 1048576) (ga : Option Addr) (gc : Nat) (hk : Bools w (.slice ga K.length gc) K) (hg0 : ga = none → gc = 0) (ka : Option Addr) (kc : Nat) (hk2 : Bools w (.slice ka K.length kc) K) (hkr : K ≠ [] → ∀ b off, ka = some ⟨b, off, none⟩ → ¬ PrA D R b) :
    ∃ E : Int, Calls Try.prog 24 #[.pointer (some ⟨D.d, 0, none⟩), .agg #[.int .i64 t, .slice ga K.length gc]] w fun e w1 => e = .returned (.int .i64 E) ∧ Fr (PrA D R) w w1 ∧ ∀ wx, Below w1.heap.size w1 wx → Calls Try.prog 25 #[.pointer (some ⟨R.r, 0, none⟩), .agg #[.int .i64 t, .slice ka K.length kc]] wx fun e w2 => e = .returned (.int .i64 E) ∧ ∃ D' R', PrM w D R w2 D' R' j := by
  have hdo : D.down = R.out := h.tie.dn
  by_cases hd : D.down = true
  · refine ⟨30, (arm_no w D h.d t _ hd).mono ?_⟩
    rintro e w1 ⟨rfl, hb⟩
    refine ⟨rfl, below_fr hb _, fun wx hx => ?_⟩
    have hbx := hb.trans (hx.mono hb.size)
    refine (rarm_out wx R (h.r.on hbx) (by rw [← hdo]; exact hd) t ka K.length kc).mono ?_
    rintro e w2 ⟨rfl, hb2⟩
    exact ⟨rfl, D, R, pr_same h (Nat.le_refl _) (hbx.trans (hb2.mono hbx.size))⟩
  · have hd' : D.down = false := by cases e : D.down with | true => exact absurd e hd | false => rfl
    have hro : R.out = false := by rw [← hdo]; exact hd'
    refine ⟨0, (arm_yes w D h.d t ga gc K hk hg0 (by omega) ht hd').mono ?_⟩
    rintro e w1 ⟨rfl, D', hD, hM, hA, habs⟩
    have hFr : Fr (PrA D R) w w1 := hM.fr.mono (fun k e => .inl (Dk.hasAll e))
    refine ⟨rfl, hFr, fun wx hx => ?_⟩
    have hR1 : RDisk w1 R := h.r.fr hM.fr (fun k e e2 => h.ap k (Dk.hasAll e2) e)
    have hRx := hR1.on hx
    have hkx : Bools wx (.slice ka K.length kc) K := (hk2.fr hFr (fun hne k e e2 => by
      cases ka with
      | none => cases e
      | some p =>
        obtain ⟨a, c, e3, e4⟩ := hk2
        cases e3
        rcases e4 with e4 | ⟨b, off, e5, _⟩
        · exact absurd e4 hne
        · cases e5; cases e; exact hkr hne _ _ rfl e2)).fr (below_fr hx (fun _ => False)) (fun _ _ _ e => e)
    refine (rarm_anyE wx R hRx hro t ka K.length kc K hkx rfl (by omega) (fun hne b off e e2 => hkr hne b off e (.inr (.inl e2)))).mono ?_
    rintro e w2 ⟨rfl, v, c, hR2, f2, hv2⟩
    have t1 := h.tie.arm (v := .slice v K.length c) (K := K) (t := t) hro
    rw [← habs] at t1
    have a1 : D'.tap.length = D.tap.length := by have := congrArg (fun a => a.T.length) habs; simpa [abs_tlen, AD.arm] using this
    have a2 : D'.wr = D.wr := congrArg AD.wr habs
    have a3 : D'.fl = D.fl := congrArg AD.fl habs
    have a4 : D'.keep = K := congrArg AD.keep habs
    have htl := h.tl
    have hwl := h.wl
    have hfl := h.fl
    have hlf := h.lf
    refine ⟨rfl, D', _, pr_step h hD hM hA hx hR2 (f2.mono (fun k e => .inl e)) (fun k e => ?_) ?_ t1 (by omega) (by omega) (by omega) ⟨by rw [a4]; exact hK, ?_⟩ ?_⟩
    · by_cases ht0 : 0 < t
      · rw [if_pos ht0] at e
        rcases e with e | e | e | e | e
        · exact .inl (.inl e)
        · exact .inl (.inr (.inl e))
        · exact .inl (.inr (.inr (.inl e)))
        · exact .inr (hv2 k e)
        · exact .inl (.inr (.inr (.inr (.inr e))))
      · rw [if_neg ht0] at e
        exact .inl e
    · split <;> rfl
    · split
      · exact hK
      · exact h.kl.2
    · split
      · exact ht
      · show (0 : Int) ≤ _; omega
/-- Crash on both sides -/
theorem pcrash {w : World} {D : Dk} {R : RDk} {j : Nat} (h : Pr w D R j) (K : List Bool) (hK : K.length ≤ 1048576) (g gc : Nat) (hk : Bools w (.slice (some ⟨g, 0, none⟩) K.length gc) K) (hg : ¬ PrA D R g) (ka : Option Addr) (kc : Nat) (hk2 : Bools w (.slice ka K.length kc) K) (hkr : K ≠ [] → ∀ b off, ka = some ⟨b, off, none⟩ → ¬ PrA D R b) :
    Calls Try.prog 27 #[.pointer (some ⟨D.d, 0, none⟩), .slice (some ⟨g, 0, none⟩) K.length gc] w fun e w1 => e = .returned (.tuple #[]) ∧ Fr (PrA D R) w w1 ∧ ∀ wx, Below w1.heap.size w1 wx → Calls Try.prog 28 #[.pointer (some ⟨R.r, 0, none⟩), .slice ka K.length kc] wx fun e w2 => e = .returned (.tuple #[]) ∧ ∃ D' R', PrM w D R w2 D' R' j := by
  have hdo : D.down = R.out := h.tie.dn
  refine (crash_any w D h.d (.slice (some ⟨g, 0, none⟩) K.length gc) K hk (fun _ k e e2 => by cases e; exact hg (.inl (Dk.hasAll e2))) (by omega)).mono ?_
  rintro e w1 ⟨rfl, hD, hM⟩
  have hA := al_crash w.heap.size D (kpOf K)
  have habs := abs_cut D (kpOf K)
  have hFr : Fr (PrA D R) w w1 := hM.fr.mono (fun k e => .inl (Dk.hasAll e))
  refine ⟨rfl, hFr, fun wx hx => ?_⟩
  have hR1 : RDisk w1 R := h.r.fr hM.fr (fun k e e2 => h.ap k (Dk.hasAll e2) e)
  have hRx := hR1.on hx
  have htl := h.tl
  have hwl := h.wl
  have hfl := h.fl
  cases ho : R.out with
  | true =>
    refine (rcrash_out wx R hRx ho _).mono ?_
    rintro e w2 ⟨rfl, rfl⟩
    have t1 := h.tie.crashO (K := K) ho
    rw [← habs] at t1
    exact ⟨rfl, D.cut (kpOf K), R, pr_step h hD hM hA hx hRx (Fr.refl _ _) (fun k e => .inl e) rfl t1 htl hwl hfl h.kl h.lf⟩
  | false =>
    have hkx : Bools wx (.slice ka K.length kc) K := (hk2.fr hFr (fun hne k e e2 => by
      cases ka with
      | none => cases e
      | some p =>
        obtain ⟨a, c, e3, e4⟩ := hk2
        cases e3
        rcases e4 with e4 | ⟨b, off, e5, _⟩
        · exact absurd e4 hne
        · cases e5; cases e; exact hkr hne _ _ rfl e2)).fr (below_fr hx (fun _ => False)) (fun _ _ _ e => e)
    refine (rcrash_anyE wx R hRx ho ka K.length kc K hkx rfl (by omega) (fun hne b off e e2 => hkr hne b off e (.inr (.inl e2)))).mono ?_
    rintro e w2 ⟨rfl, v, c, hR2, f2, hv2⟩
    have t1 := h.tie.crash (v := .slice v K.length c) (K := K) ho
    rw [← habs] at t1
    refine ⟨rfl, D.cut (kpOf K), _, pr_step h hD hM hA hx hR2 (f2.mono (fun k e => .inl e)) (fun k e => ?_) rfl t1 htl hwl hfl ⟨h.kl.1, hK⟩ h.lf⟩
    rcases e with e | e | e | e | e
    · exact .inl (.inl e)
    · exact .inl (.inr (.inl e))
    · exact .inl (.inr (.inr (.inl e)))
    · exact .inr (hv2 k e)
    · exact .inl (.inr (.inr (.inr (.inr e))))
end Go.Proofs.Ytipbflmonhlnjaa

namespace Go.Proofs.Ytipbflmonhlnjaa
open Go.RowKit Rec
theorem ndown {b : Bool} (h : ¬ b = true) : b = false := by cases b with | true => exact absurd rfl h | false => rfl
/-- an answer in bytes, in a block of its own, or none -/
def AnsB (B : Nat) (w : World) (v : Value) (x : List Int) : Prop := w.ownsRow 0 5 1 v x.length (x.map (Value.int .u8)) ∧ (∀ k, v.ownBlock = some k → B ≤ k) ∧ (∀ j, 0 ≤ nth x j ∧ nth x j < 256) ∧ ∃ a c, v = .slice a x.length c ∧ Bytes w a x
theorem ansB_own {B : Nat} {w : World} {g cap : Nat} {x : List Int} (h : OwnB w g cap x) (hg : B ≤ g) : AnsB B w (.slice (some ⟨g, 0, none⟩) x.length cap) x := ⟨RwA.owns (B := B) (.inr ⟨g, rfl, h, hg⟩), fun k e => by cases e; exact hg, h.wf, _, _, rfl, h.bytes⟩
theorem ansB_nil {B : Nat} {w : World} : AnsB B w (.slice none 0 0) [] := ⟨⟨by simp, .inl ⟨rfl, rfl⟩⟩, (fun k e => by cases e), (fun j => by simp [nth]), none, 0, rfl, RwA.bytes (B := 0) (.inl ⟨rfl, rfl, rfl⟩)⟩
theorem Pr.acts {w : World} {D : Dk} {R : RDk} {j : Nat} (h : Pr w D R j) : ∀ i, i < R.L.length → (actN R.L i).kind = 1 → (actN R.L i).x.length = 512 ∧ 0 ≤ (actN R.L i).b := fun i hi hk => by
  have hm : actN R.L i ∈ R.L := by unfold actN; rw [List.getD, List.getElem?_eq_getElem hi]; exact List.getElem_mem hi
  rcases h.r.each _ hm with ⟨_, h2, _, h4, _⟩ | ⟨h1, _⟩
  · exact ⟨h4, h2⟩
  · rw [h1] at hk; exact absurd hk (by decide)
/-- Read on both sides -/
theorem pread {w : World} {D : Dk} {R : RDk} {j : Nat} (h : Pr w D R j) (i : Int) : ∃ (E : Int) (x : List Int), x.length ≤ 512 ∧
    (∀ wx, Below w.heap.size w wx → Calls Try.prog 33 #[.pointer (some ⟨D.d, 0, none⟩), .int .i64 i] wx fun e w1 => ∃ v, e = .returned (.tuple #[v, .int .i64 E]) ∧ AnsB wx.heap.size w1 v x ∧ Below wx.heap.size wx w1) ∧
    (∀ wx, Below w.heap.size w wx → Calls Try.prog 34 #[.pointer (some ⟨R.r, 0, none⟩), .int .i64 i] wx fun e w1 => ∃ v, e = .returned (.tuple #[v, .int .i64 E]) ∧ AnsB wx.heap.size w1 v x ∧ Below wx.heap.size wx w1) := by
  have hdo : D.down = R.out := h.tie.dn
  have hnb : D.nb = R.nb := h.tie.nb
  by_cases hd : D.down = true
  · have ht : touchE D i = 30 := by unfold touchE; rw [if_pos hd]
    refine ⟨30, [], by simp, fun wx hx => (read_no wx D (h.d.on hx) i (by rw [ht]; decide)).mono ?_, fun wx hx => (rread_out wx R (h.r.on hx) (by rw [← hdo]; exact hd) i).mono ?_⟩
    · rintro e w1 ⟨rfl, rfl⟩; exact ⟨_, by rw [ht], ansB_nil, Below.refl _ _⟩
    · rintro e w1 ⟨rfl, rfl⟩; exact ⟨_, rfl, ansB_nil, Below.refl _ _⟩
  · have hd' := ndown hd
    have hro : R.out = false := by rw [← hdo]; exact hd'
    by_cases hi : 0 ≤ i ∧ i < D.nb
    · obtain ⟨k, rfl⟩ : ∃ k : Nat, i = (k : Int) := ⟨i.toNat, by omega⟩
      have hk : k < D.nb := by omega
      have hx := h.tie.read hro (i := k) (by omega) h.r.flen h.acts
      have hl : (bck D.full k).length = 512 := blk_length (by rw [D.full_length, h.d.lasl]) hk
      rw [← abs_full] at hx
      refine ⟨0, bck D.full k, by omega, fun wx hb => (read_yes wx D (h.d.on hb) k hk hd').mono ?_, fun wx hb => (rread_ok wx R (h.r.on hb) hro k (by omega)).mono ?_⟩
      · rintro e w1 ⟨g, cap, rfl, hg, ho, hb1⟩
        have := ansB_own ho hg
        rw [hl] at this
        exact ⟨_, rfl, this, hb1⟩
      · rintro e w1 ⟨g, cap, rfl, hg, ho, hb1⟩
        rw [← hx] at ho
        have := ansB_own ho hg
        rw [hl] at this
        exact ⟨_, rfl, this, hb1⟩
    · have ht : touchE D i = 31 := by unfold touchE; rw [if_neg hd, if_neg hi]
      refine ⟨31, [], by simp, fun wx hx => (read_no wx D (h.d.on hx) i (by rw [ht]; decide)).mono ?_, fun wx hx => (rread_bad wx R (h.r.on hx) hro i (by rw [← hnb]; exact hi)).mono ?_⟩
      · rintro e w1 ⟨rfl, rfl⟩; exact ⟨_, by rw [ht], ansB_nil, Below.refl _ _⟩
      · rintro e w1 ⟨rfl, hb⟩; exact ⟨_, rfl, ansB_nil, hb⟩
/-- Image on both sides -/
theorem pimage {w : World} {D : Dk} {R : RDk} {j : Nat} (h : Pr w D R j) : ∃ x : List Int, x.length ≤ 8388608 ∧
    (∀ wx, Below w.heap.size w wx → Calls Try.prog 36 #[.pointer (some ⟨D.d, 0, none⟩)] wx fun e w1 => ∃ v, e = .returned v ∧ AnsB wx.heap.size w1 v x ∧ Below wx.heap.size wx w1) ∧
    (∀ wx, Below w.heap.size w wx → Calls Try.prog 7 #[.pointer (some ⟨R.r, 0, none⟩)] wx fun e w1 => ∃ v, e = .returned v ∧ AnsB wx.heap.size w1 v x ∧ Below wx.heap.size wx w1) := by
  have hnb : D.nb = R.nb := h.tie.nb
  have hx : D.las = R.img := h.tie.img
  have hl := h.d.lasl
  have h1 := h.d.nb1
  refine ⟨D.las, by omega, fun wx hb => (image_any wx D (h.d.on hb)).mono ?_, fun wx hb => (rimage_any wx R (h.r.on hb) (by have := h.kl.2; omega)).mono ?_⟩
  · rintro e w1 ⟨g, cap, rfl, hg, ho, hb1⟩
    have := ansB_own ho hg
    rw [hl] at this
    exact ⟨_, rfl, this, hb1⟩
  · rintro e w1 ⟨g, cap, rfl, hg, ho, hb1⟩
    rw [← hx] at ho
    have := ansB_own ho hg
    rw [hl, hnb] at this
    exact ⟨_, rfl, this, hb1⟩
end Go.Proofs.Ytipbflmonhlnjaa

namespace Go.Proofs.Ytipbflmonhlnjaa
open Go.RowKit Rec
set_option maxRecDepth 100000 in
set_option maxHeartbeats 4000000 in
theorem rpending_out (w : World) (D : RDk) (h : RDisk w D) (ho : D.out = true) : Calls Try.prog 38 #[.pointer (some ⟨D.r, 0, none⟩)] w fun e w' => e = .returned (.slice none 0 0) ∧ Below w.heap.size w w' := by
  obtain ⟨aa, ac, ha, hA⟩ := h.at_
  have d1 : w.cell? ⟨D.r, 1, none⟩ = some (.slice aa D.L.length ac) := by rw [← ha]; exact h.cell 1
  have d4 : w.cell? ⟨D.r, 4, none⟩ = some (.bool true) := by rw [h.cell 4, ← ho]; rfl
  have hL := h.llen
  obtain ⟨n, hn1⟩ : ∃ n, D.L.length = n := ⟨_, rfl⟩
  rw [hn1] at d1 hL
  clear h ha hA hn1 ho
  go_enter Try.func38, Try.ntmps38
  go_wp2
  go_loopw [3, 4] (fun s3 s4 wr => s3 = .slice none 0 0 ∧ s4 = .int .i64 0 ∧ wr = w) (fun _ _ _ => 0)
  case atStart => exact ⟨rfl, rfl, rfl⟩
  case round =>
    obtain ⟨rfl, rfl, rfl⟩ := hrel
    by_cases hlt : (0 : Int) < (n : Int)
    · go_wp2
      go_ret
      exact ⟨rfl, Below.refl _ _⟩
    · go_wp2
      go_ret
      exact ⟨rfl, Below.refl _ _⟩
/-- Pending on both sides -/
theorem ppending {w : World} {D : Dk} {R : RDk} {j : Nat} (h : Pr w D R j) : ∃ x : List Int, x.length ≤ j ∧
    (∀ wx, Below w.heap.size w wx → Calls Try.prog 37 #[.pointer (some ⟨D.d, 0, none⟩)] wx fun e w1 => ∃ v, e = .returned v ∧ w1.ownsRow 0 3 1 v x.length (x.map (Value.int .i64)) ∧ (∀ k, v.ownBlock = some k → wx.heap.size ≤ k) ∧ Below wx.heap.size wx w1) ∧
    (∀ wx, Below w.heap.size w wx → Calls Try.prog 38 #[.pointer (some ⟨R.r, 0, none⟩)] wx fun e w1 => ∃ v, e = .returned v ∧ w1.ownsRow 0 3 1 v x.length (x.map (Value.int .i64)) ∧ (∀ k, v.ownBlock = some k → wx.heap.size ≤ k) ∧ Below wx.heap.size wx w1) := by
  have hdo : D.down = R.out := h.tie.dn
  obtain ⟨x, hx⟩ : ∃ x : List Int, D.pen.map (fun p => (p.b : Int)) = x := ⟨_, rfl⟩
  have hlen : x.length = D.pen.length := by rw [← hx, List.length_map]
  have hval : D.pen.map (fun p => Value.int .i64 (p.b : Int)) = x.map (Value.int .i64) := by rw [← hx, List.map_map]; rfl
  have habs : D.abs.P.map (fun p => (p.1 : Int)) = x := by rw [← hx]; show (D.pen.map (fun p => (p.b, p.x))).map (fun p => (p.1 : Int)) = _; rw [List.map_map]; rfl
  have hlj : x.length ≤ j := by
    have h1 := h.tl
    cases ho : R.out with
    | true => have := (h.tie.off ho).2; rw [← habs, this]; exact Nat.zero_le _
    | false =>
      have e := (h.tie.on ho).2.1
      rw [e, pnd_pnB R.L R.L.length (Nat.le_refl _) h.tie.ks (fun i hi hk => (h.acts i hi hk).2)] at habs
      rw [← habs]
      exact Nat.le_trans (pnB_len _ _) (rlen h)
  refine ⟨x, hlj, fun wx hb => (pending_any wx D (h.d.on hb)).mono ?_, fun wx hb => ?_⟩
  · rintro e w1 ⟨g, c, rfl, hg, ho, hb1⟩
    rw [hval, ← hlen] at ho
    exact ⟨_, by rw [hlen], ho, fun k e => by cases e; exact hg, hb1⟩
  · cases ho : R.out with
    | true =>
      have hP := (h.tie.off ho).2
      rw [hP] at habs
      refine (rpending_out wx R (h.r.on hb) ho).mono ?_
      rintro e w1 ⟨rfl, hb1⟩
      rw [← habs]
      exact ⟨_, rfl, ⟨rfl, .inl ⟨rfl, rfl⟩⟩, (fun k e => by cases e), hb1⟩
    | false =>
      have e := (h.tie.on ho).2.1
      rw [e, pnd_pnB R.L R.L.length (Nat.le_refl _) h.tie.ks (fun i hi hk => (h.acts i hi hk).2)] at habs
      rw [← habs]
      exact rpending_ok wx R (h.r.on hb) ho
/-- Tape on both sides -/
theorem ptape {w : World} {D : Dk} {R : RDk} {j : Nat} (h : Pr w D R j) (fr : Int) : ∃ T : List (Int × Int × List Int), T.length ≤ j ∧
    (∀ wx, Below w.heap.size w wx → Calls Try.prog 41 #[.pointer (some ⟨D.d, 0, none⟩), .int .i64 fr] wx fun e w1 => ∃ v L, e = .returned v ∧ AcR w1 D.nb v L ∧ L.map ActR.abs = T ∧ (∀ k, v.ownBlock = some k → wx.heap.size ≤ k) ∧ (∀ q ∈ L, ∀ p, q.a = some p → wx.heap.size ≤ p.block) ∧ DisA L ∧ (∀ q ∈ L, OwQ w1 q) ∧ Below wx.heap.size wx w1) ∧
    (∀ wx, Below w.heap.size w wx → Calls Try.prog 42 #[.pointer (some ⟨R.r, 0, none⟩), .int .i64 fr] wx fun e w1 => ∃ v M, e = .returned v ∧ TpI wx w1 v T M ∧ Below wx.heap.size wx w1) := by
  obtain ⟨m, h1⟩ : ∃ m, (if fr < 0 then (0 : Int) else fr) = m := ⟨_, rfl⟩
  have hm0 : 0 ≤ m := by rw [← h1]; split <;> omega
  have hLT : D.tap.length = R.L.length := by rw [← abs_tlen, h.tie.T, List.length_map]
  obtain ⟨n, h2, hn⟩ : ∃ n : Nat, (if (D.tap.length : Int) < m then (D.tap.length : Int) else m) = (n : Int) ∧ n ≤ D.tap.length := by
    by_cases c : (D.tap.length : Int) < m
    · exact ⟨D.tap.length, if_pos c, Nat.le_refl _⟩
    · exact ⟨m.toNat, by rw [if_neg c]; omega, by omega⟩
  have hT := h.tie.tape h1 (n := n) (by rw [← hLT]; exact h2)
  refine ⟨D.abs.T.drop n, by rw [List.length_drop, abs_tlen]; have := h.tl; omega, fun wx hb => (tape_all wx D (h.d.on hb) fr m n hn h1 h2).mono ?_, fun wx hb => ?_⟩
  · rintro e w1 ⟨v, L, rfl, a1, a2, a3, a4, a5, a6, a7⟩
    exact ⟨v, L, rfl, a1, a2, a4, a5, a6, a7, a3⟩
  · rw [hT]
    exact rtape_any wx R (h.r.on hb) fr
end Go.Proofs.Ytipbflmonhlnjaa

namespace Go.Proofs.Ytipbflmonhlnjaa
open Go.ChangeShapes Go.WideShapes Go.ChangeAt Go.RowKit

/-- all arguments read as they did -/
theorem trodAll_stays {H : Type} {enc : TypeId × Value → H} {P : Program} (hl : laidOutB P = true) {W W' : World} (hb : Below W.heap.size W W') :
    ∀ (ts : List TypeId) (vs : List Value) (ds : List (DataW H)) (ps : List MemPlace), (∀ t ∈ ts, P.readableRec t = true ∧ t < P.types.size) →
      DataW.TrodAll enc P W 0 (fun _ => true) true ts vs ds ps → DataW.TrodAll enc P W' 0 (fun b => decide (b < W.heap.size)) true ts vs ds ps
  | [], [], [], _, _, h => h
  | t :: ts, v :: vs, d :: ds, ps, hr, h => by
    obtain ⟨p, q, h1, h2, e⟩ := h
    have lt : ∀ x ∈ p, x.block < W.heap.size := by obtain ⟨m, hm⟩ := h1; exact DataW.trod_lt m _ _ _ hm
    have ht := hr t (List.mem_cons_self ..)
    exact ⟨p, q, Below.trod hl ht.1 ht.2 h1 hb lt, trodAll_stays hl hb ts vs ds q (fun t' h' => hr t' (List.mem_cons_of_mem _ h')) h2, e⟩
  | [], _ :: _, _, _, _, h => by simp [DataW.TrodAll] at h
  | [], [], _ :: _, _, _, h => by simp [DataW.TrodAll] at h
  | _ :: _, [], _, _, _, h => by simp [DataW.TrodAll] at h
  | _ :: _, _ :: _, [], _, _, h => by simp [DataW.TrodAll] at h

theorem own : ownKnob Try.prog.godebug = none := by kernel_rfl
theorem laidOut : laidOutB Try.prog = true := by kernel_rfl
end Go.Proofs.Ytipbflmonhlnjaa

namespace Go.Proofs.Ytipbflmonhlnjaa
open Rec Go.ChangeShapes Go.WideShapes Go.ChangeAt Go.RowKit

theorem nth_wf {l : List Int} (h : ∀ c ∈ l, 0 ≤ c ∧ c < 256) (i : Nat) : 0 ≤ nth l i ∧ nth l i < 256 := by
  unfold nth
  by_cases hi : i < l.length
  · have : l.getD i 0 = l[i] := by simp [List.getD, hi]
    rw [this]; exact h _ (List.getElem_mem hi)
  · have : l.getD i 0 = 0 := by simp [List.getD, hi]
    rw [this]; omega
theorem cells5 : Try.prog.cellsOf 5 = 1 := by kernel_rfl
theorem bytes5 : Try.prog.bytesOf 5 = 1 := by kernel_rfl
theorem wf_u8 {x : Int} (h : (Lit.int .u8 x).wf = true) : 0 ≤ x ∧ x < 256 := by
  have hmin : IntKind.u8.min = 0 := rfl
  have hmax : IntKind.u8.max = 255 := rfl
  simp only [Lit.wf, Bool.and_eq_true, decide_eq_true_eq] at h
  omega
theorem open_bytes {H : Type} {enc : TypeId × Value → H} {W : World} {a : Option Addr} {len cap : Nat} {d : DataW H} {p : List MemPlace} {fuel : Nat}
    (hf : DataW.trod enc Try.prog W 0 (fun _ => true) true fuel 22 [.slice a len cap] = some (d, p)) (hz : ∀ n ∈ d.weights Try.prog 22, n ≤ reachBytes) :
    ∃ l : List Int, l.length = len ∧ Bytes W a l ∧ (a = none → cap = 0) ∧ len ≤ 140737488351232 ∧ len ≤ cap := by
  rcases open_ints Try.underlying22 Try.underlying5 cells5 hf with ⟨hcs, _⟩ | ⟨x, l, c, zs, hcs, _, hl, hm, hlen, hx, hcell, hwz⟩
  · simp at hcs
    obtain ⟨rfl, rfl, rfl⟩ := hcs
    exact ⟨[], rfl, ⟨by simp, fun i => by simp [nth], .inl rfl⟩, fun _ => rfl, by omega, Nat.le_refl _⟩
  · simp only [List.cons.injEq, Value.slice.injEq, and_true] at hcs
    obtain ⟨rfl, rfl, rfl⟩ := hcs
    simp only [Prod.mk.injEq] at hx
    obtain ⟨rfl, _⟩ := hx
    simp only [if_true] at hlen
    have hb : cap ≤ 140737488351232 := by
      have h1 := hz ((lits (H := H) .u8 (zs.take len)).length + (lits (H := H) .u8 (zs.drop len)).length) (by simp [DataW.weights, Try.underlying22, bytes5])
      simp [lits, reachBytes] at h1
      omega
    refine ⟨zs.take len, by simp; omega, ⟨by simp; omega, nth_wf fun n hn => wf_u8 (hwz n (List.mem_of_mem_take hn)), ?_⟩, fun h => (nomatch h), by omega, hl⟩
    by_cases h0 : len = 0
    · exact .inl (by simp [h0])
    · obtain ⟨b, off, rfl, hc⟩ := ints_at hcell (by omega)
      refine .inr ⟨b, off, rfl, fun i hi => ?_⟩
      have hi' : i < len := by simp at hi; omega
      rw [hc i (by omega)]
      have e : nth (zs.take len) i = zs.getD i 0 := by simp [nth, List.getD, hi']
      rw [e]
theorem wf_i64 {x : Int} (h : (Lit.int .i64 x).wf = true) : -9223372036854775808 ≤ x ∧ x ≤ 9223372036854775807 := by
  have hmin : IntKind.i64.min = -9223372036854775808 := rfl
  have hmax : IntKind.i64.max = 9223372036854775807 := rfl
  simp only [Lit.wf, Bool.and_eq_true, decide_eq_true_eq] at h
  omega

end Go.Proofs.Ytipbflmonhlnjaa
