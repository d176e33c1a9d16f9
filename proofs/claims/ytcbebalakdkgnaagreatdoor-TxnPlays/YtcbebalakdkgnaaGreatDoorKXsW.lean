import Derived.Test.YtcbebalakdkgnaaGreatDoorKXsR
import Derived.Test.YtcbebalakdkgnaaGreatDoorKTxE2
namespace Go.Proofs.YtcbebalakdkgnaaGreatDoor
open Go.RowKit Rec
variable {w0 w w1 wx w2 w' : World} {P j j' : Nat} {D D' : Dk} {R R' : RDk} {T T' : Tx} {U U' : RTx} {K K' : Kb} {row' : List Dn} {c2 c3 : Value}
theorem rcA6_keep (a : AD) (U : RTx) : (rcA6 a U).keep = a.keep := by
  unfold rcA6
  split
  · rfl
  · split
    · rfl
    · exact keep_take _ _
set_option maxRecDepth 100000 in
set_option maxHeartbeats 8000000 in
theorem rxcommit_end (w : World) (a : AD) (R : RDk) (j : Nat) (h : RT w a R j) (U : RTx) (hU : RTxAt w U) (hen : U.ends = true) :
    Calls Tryz.prog 26 #[.pointer (some ⟨U.u, 0, none⟩)] w fun e w' => e = .returned (.int .i64 (rcE6 a U)) ∧ ∃ R', RcX w R U w' (rcA6 a U) R' (j + 198) := by
  have c2 : w.cell? ⟨U.u, 2, none⟩ = some (.bool U.ends) := hU.cell 2
  have hu : ({ U with ends := true } : RTx) = U := by cases U; simp at hen; subst hen; rfl
  have HP : Hid (RcX w R U w a R (j + 198)) := ⟨h.up (by omega), by rw [hu]; exact hU, Fr.refl _ _, fun _ e => .inl e, rfl⟩
  rw [hen] at c2
  unfold rcE6 rcA6
  rw [if_pos hen, if_pos hen]
  clear h hU
  go_enter Tryz.func26, Tryz.ntmps26
  go_wp2
  go_ret
  exact ⟨rfl, R, HP.out⟩
theorem rxcommit_all (w : World) (a : AD) (R : RDk) (j : Nat) (h : RT w a R j) (U : RTx) (hU : RTxAt w U) (hr : U.r = R.r) (hap : ∀ k, U.all k → ¬ R.all k) (ok : wl U.row a.nb = [] ∨ U.ends = true ∨ ComOk R.nb (wl U.row a.nb) (vls U.row a.nb)) (hj : j + 198 ≤ 1000000000) :
    Calls Tryz.prog 26 #[.pointer (some ⟨U.u, 0, none⟩)] w fun e w' => e = .returned (.int .i64 (rcE6 a U)) ∧ ∃ R', RcX w R U w' (rcA6 a U) R' (j + 198) := by
  rcases ok with ok | ok | ok
  · exact rxcommit_any w a R j h U hU hr hap (.inl ok) hj
  · exact rxcommit_end w a R j h U hU ok
  · exact rxcommit_any w a R j h U hU hr hap (.inr ok) hj
theorem XS.midc (h : XS w0 w P D R T U K j) (hC : HalfC w w1 D T U D') (hx : Below w1.heap.size w1 wx) : RTxAt wx U ∧ RT wx D.abs R (200 * j) ∧ wx.heap[P]? = some (.cells (sdC D R T U) 35 (0, 0)) := by
  have htt : T.all T.t := .inl (.inl rfl)
  have hS : ∀ i k, i ≠ 0 → i ≠ 2 → cps D R T U K P i k → ¬ (D.all k ∨ k = T.t) := fun i k h0 h2 e e2 => by
    rcases e2 with e2 | e2
    · exact h.sep.ne (i := i) (j := 0) h0 e e2
    · exact h.sep.ne (i := i) (j := 2) h2 e (e2 ▸ htt)
  refine ⟨(h.ux.fr hC.fr (fun k e => hS 3 k (by omega) (by omega) e)).on hx, (h.ws.t.fr hC.fr (fun k e => hS 1 k (by omega) (by omega) e)).on hx, ?_⟩
  have h1 := hC.fr.heap h.px (hS 5 P (by omega) (by omega) rfl)
  exact (hx.block _ (heap_lt h1)).trans h1
theorem XS.com (h : XS w0 w P D R T U K j) (hC : HalfC w w1 D T U D') (hx : Below w1.heap.size w1 wx) (hR : RcX wx R U w2 (rcA6 D.abs U) R' (200 * j + 198)) : XS w0 w2 P D' R' T { U with ends := true } K (j + 1) := by
  have htt : T.all T.t := .inl (.inl rfl)
  have huu : U.all U.u := .inl rfl
  have s1 := hC.fr.size
  have s2 := hx.size
  have s3 := hR.fr.size
  have l1 : ∀ k, R.all k → k < w.heap.size := fun k e => h.lt 1 k e
  have l3 : U.u < w.heap.size := h.lt 3 _ huu
  have l2 : ∀ k, T.all k → k < w.heap.size := fun k e => h.lt 2 k e
  have hD'lt : ∀ k, D'.all k → k < w1.heap.size := fun k e => hC.d.ltAll e
  have hDne : ∀ k, D'.all k → ¬ (R.all k ∨ k = U.u) := fun k e e2 => by
    rcases hC.al k e with e | e
    · rcases e2 with e2 | e2
      · exact h.sep.ne (i := 0) (j := 1) (by omega) e e2
      · exact h.sep.ne (i := 0) (j := 3) (by omega) e (e2 ▸ huu)
    · rcases e2 with e2 | e2
      · have := l1 k e2; omega
      · omega
  have hap : ∀ k, D'.all k → ¬ R'.all k := fun k e e2 => by
    rcases hR.al k e2 with e2 | e2
    · exact hDne k e (.inl e2)
    · have := hD'lt k e; omega
  have hF : Fr (fun k => ∃ i, i ≤ 3 ∧ cps D R T U K P i k) w w2 := by
    refine ((hC.fr.mono (T := fun k => ∃ i, i ≤ 3 ∧ cps D R T U K P i k) (fun k e => ?_)).trans (below_fr hx (fun _ => False)) (fun k e => e.elim)).trans hR.fr (fun k e => .inl ?_)
    · rcases e with e | e
      · exact ⟨0, by omega, e⟩
      · exact ⟨2, by omega, e ▸ htt⟩
    · rcases e with e | e
      · exact ⟨1, by omega, e⟩
      · exact ⟨3, by omega, e ▸ huu⟩
  have hnb : D'.abs.nb = D.abs.nb := hC.nb
  have hkd : D'.keep = D.keep := by
    have e : D'.abs.keep = D.abs.keep := by rw [hC.abs, rcA6_keep]
    exact e
  refine h.gen hF ⟨(hC.d.on hx).fr hR.fr hDne, by rw [hC.abs]; exact hR.t.up (by omega), hap, fun k e => ?_, h.ws.be.trans ((hF.below w0.heap.size (fun k ⟨i, _, e⟩ => h.far i k e) h.ws.be.size)), by rw [hkd]; exact h.ws.kd⟩ ?_ ⟨fun e => (by cases e), fun _ => ?_, fun k hk => by have := l2 k hk; omega⟩ hR.u (by rw [hR.r]; exact h.ur) (Nat.le_trans h.ul (by omega)) (by omega) hC.dd hR.r rfl rfl (fun i k hi e => ?_) (fun i i' k hi hi' hk e e' => ?_)
  · rcases e with e | e
    · rcases hC.al k e with e | e
      · exact h.far 0 k e
      · exact Nat.le_trans h.ws.be.size e
    · rcases hR.al k e with e | e
      · exact h.far 1 k e
      · have := h.ws.be.size; omega
  · rw [hC.abs]
    unfold rcA6
    cases hen : U.ends with
    | true => exact h.rs
    | false =>
      rcases comok6 h hen with e | e
      · have e : wl U.row D.abs.nb = [] := e
        rw [if_neg (by decide), if_pos e]; exact h.rs
      · rw [if_neg (by decide)]
        split
        · exact h.rs
        · exact h.rs.commit e
  · refine hR.fr.heap ((hx.block _ (heap_lt hC.o)).trans hC.o) (fun e => ?_)
    rcases e with e | e
    · exact h.sep.ne (i := 1) (j := 2) (by omega) e htt
    · exact h.sep.ne (i := 3) (j := 2) (by omega) (e ▸ huu) htt
  · match i, hi, e with
    | 0, _, e => exact hC.al k e
    | 1, _, e => exact (hR.al k e).imp id (fun e => by omega)
    | 2, _, e => exact .inl e
    | 3, _, e => exact .inl e
  · have n2 : ¬ T.all k := fun e => by have := l2 k e; omega
    have n3 : ¬ U.all k := fun e => by have := h.lt 3 k e; omega
    match i, i', hi, hi', e, e' with
    | 0, 0, _, _, _, _ => rfl
    | 1, 1, _, _, _, _ => rfl
    | 0, 1, _, _, e, e' => exact absurd e' (hap k e)
    | 1, 0, _, _, e, e' => exact absurd e (hap k e')
    | 2, _, _, _, e, _ => exact absurd e n2
    | 3, _, _, _, e, _ => exact absurd e n3
    | _, 2, _, _, _, e' => exact absurd e' n2
    | _, 3, _, _, _, e' => exact absurd e' n3
    | _ + 4, _, hi, _, _, _ => exact absurd hi (by omega)
    | _, _ + 4, _, hi', _, _ => exact absurd hi' (by omega)
set_option maxRecDepth 100000 in
set_option maxHeartbeats 8000000 in
theorem xplay6 (h : XS w0 w P D R T U K j) (hT : TabAt w0) (hj : 200 * j + 200 ≤ 1000000000) (n x : Int) (ba ka : Option Addr) (bn bc kn kc : Nat) :
    Calls Tryz.prog 8 #[.pointer (some ⟨P, 0, none⟩), .agg #[.int .i64 6, .int .i64 n, .int .u8 x, .slice ba bn bc, .slice ka kn kc], .pointer (some ⟨K.kb, 0, none⟩)] w (PlP w0 P j K.kb) := by
  have HX : Hid (XS w0 w P D R T U K j) := h
  have HPM : Hid (∀ wx, Below w.heap.size w wx → Calls Tryz.prog 25 #[.pointer (some ⟨T.t, 0, none⟩)] wx fun e w1 => e = .returned (.int .i64 (rcE6 D.abs U)) ∧ ∃ D', HalfC wx w1 D T U D') := fun wx hb => half_commit (h.on hb) hT hj
  have HC : Hid (∀ wx, Below w.heap.size w wx → wx.cell? ⟨P, 2, none⟩ = some (.pointer (some ⟨T.t, 0, none⟩)) ∧ wx.cell? ⟨P, 3, none⟩ = some (.pointer (some ⟨U.u, 0, none⟩))) := fun wx hb => (h.on hb).ptrs.2.2
  have HOk : Hid (wl U.row D.abs.nb = [] ∨ U.ends = true ∨ ComOk R.nb (wl U.row D.abs.nb) (vls U.row D.abs.nb)) := by
    have hnb : D.abs.nb = R.nb := h.ws.t.tie.nb
    cases hen : U.ends with
    | true => exact .inr (.inl rfl)
    | false =>
      rcases comok6 h hen with e | e
      · exact .inl e
      · exact .inr (.inr (by rw [← hnb]; exact e))
  have HJ : Hid (200 * j + 200 ≤ 1000000000) := hj
  clear h hj
  go_enter Tryz.func8, Tryz.ntmps8
  go_upto_region 1 with fail
  obtain ⟨Q, hQ⟩ : ∃ Q, w.heap.size = Q := ⟨_, rfl⟩
  obtain ⟨wb, hwb⟩ : ∃ wb, w.alloc (.cells #[.int .i64 6, .int .i64 n, .int .u8 x, .slice ba bn bc, .slice ka kn kc] 45) = wb := ⟨_, rfl⟩
  have HB : Hid (Below w.heap.size w wb) := by rw [← hwb]; exact (Below.refl _ _).alloc (Nat.le_refl _) _
  have b0 : wb.cell? ⟨Q, 0, none⟩ = some (.int .i64 6) := by rw [← hwb, ← hQ]; exact box_at (Below.refl _ _) 0
  obtain ⟨c2, c3⟩ := HC.out wb HB.out
  rw [hwb, hQ]
  clear hwb hQ
  go_upto_region 11 with fail
  have hS0 : wb.drew.cell? ⟨P, 2, none⟩ = some (.pointer (some ⟨T.t, 0, none⟩)) ∧ wb.drew.cell? ⟨P, 3, none⟩ = some (.pointer (some ⟨U.u, 0, none⟩)) := ⟨c2, c3⟩
  have HBd : Hid (Below w.heap.size w wb.drew) := HB.out.drew
  obtain ⟨E, hE⟩ : ∃ E, rcE6 D.abs U = E := ⟨_, rfl⟩
  have HE : Hid (rcE6 D.abs U = E) := hE
  rw [hE] at HPM
  clear hE
  go_region_held3 (fun w' => w'.cell? ⟨P, 2, none⟩ = some (.pointer (some ⟨T.t, 0, none⟩)) ∧ w'.cell? ⟨P, 3, none⟩ = some (.pointer (some ⟨U.u, 0, none⟩))) (first | exact hS0 | exact hS1 | exact hS2 | go_keep)
    (first
      | (go_at_call 25; refine (HPM.out _ HBd.out).mono ?_; rintro e w1 ⟨rfl, D', hC⟩
         have H1 : Hid (HalfC wb.drew w1 D T U D') := hC
         have hm := (HX.out.on HBd.out).midc hC (Below.refl _ _)
         have hS1 : w1.cell? ⟨P, 2, none⟩ = some (.pointer (some ⟨T.t, 0, none⟩)) ∧ w1.cell? ⟨P, 3, none⟩ = some (.pointer (some ⟨U.u, 0, none⟩)) := (px_ptrs hm.2.2).2.2
         have HR : Hid (Calls Tryz.prog 26 #[.pointer (some ⟨U.u, 0, none⟩)] w1 fun e w' => e = .returned (.int .i64 E) ∧ ∃ R', RcX w1 R U w' (rcA6 D.abs U) R' (200 * j + 198)) := (by
           have hap : ∀ k, U.all k → ¬ R.all k := fun k e e2 => HX.out.sep.ne (i := 3) (j := 1) (by omega) e e2
           rw [← HE.out]
           exact rxcommit_all w1 D.abs R (200 * j) hm.2.1 U hm.1 HX.out.ur hap HOk.out (by have := HJ.out; omega))
         clear hC hm)
      | (go_at_call 26; refine HR.out.mono ?_; rintro e w2 ⟨rfl, R', hR⟩
         have H3 : Hid (XS w0 w2 P D' R' T { U with ends := true } K (j + 1)) := (HX.out.on HBd.out).com H1.out (Below.refl _ _) hR
         have hS2 : w2.cell? ⟨P, 2, none⟩ = some (.pointer (some ⟨T.t, 0, none⟩)) ∧ w2.cell? ⟨P, 3, none⟩ = some (.pointer (some ⟨U.u, 0, none⟩)) := H3.out.ptrs.2.2
         clear hR))
  go_wp2
  go_ret
  exact ⟨rfl, D', R', T, _, K, H3.out, rfl⟩
end Go.Proofs.YtcbebalakdkgnaaGreatDoor

namespace Go.Proofs.YtcbebalakdkgnaaGreatDoor
open Go.RowKit Rec
variable {w0 w w1 wx w2 w' : World} {P j j' : Nat} {D D' : Dk} {R R' : RDk} {T T' : Tx} {U U' : RTx} {K K' : Kb} {row' : List Dn} {c2 c3 : Value}
/-- the program's disk has gone on, the document's not yet -/
structure HalfA (w w1 : World) (D D' : Dk) (a' : AD) : Prop where
  d : Disk w1 D'
  mv : Mv w D w1 D'
  al : Al w.heap.size D D'
  abs : D'.abs = a'
theorem XS.mida {a' : AD} (h : XS w0 w P D R T U K j) (hA : HalfA w w1 D D' a') (hx : Below w1.heap.size w1 wx) : RT wx D.abs R (200 * j) ∧ wx.heap[P]? = some (.cells (sdC D R T U) 35 (0, 0)) := by
  have hS : ∀ i k, i ≠ 0 → cps D R T U K P i k → ¬ D.has k := fun i k h0 e e2 => h.sep.ne (i := i) (j := 0) h0 e (Dk.hasAll e2)
  refine ⟨(h.ws.t.fr hA.mv.fr (fun k e => hS 1 k (by omega) e)).on hx, ?_⟩
  have h1 := hA.mv.fr.heap h.px (hS 5 P (by omega) rfl)
  exact (hx.block _ (heap_lt h1)).trans h1
theorem XS.arm {a' : AD} (h : XS w0 w P D R T U K j) (hA : HalfA w w1 D D' a') (hx : Below w1.heap.size w1 wx) (hM : RM wx R w2 a' R' (200 * j)) (hkd : a'.keep.length ≤ 1000000000000000) (hrs : Rs a') : XS w0 w2 P D' R' T U K (j + 1) := by
  have s1 := hA.mv.fr.size
  have s2 := hx.size
  have s3 := hM.fr.size
  have l1 : ∀ k, R.all k → k < w.heap.size := fun k e => h.lt 1 k e
  have l2 : ∀ k, T.all k → k < w.heap.size := fun k e => h.lt 2 k e
  have hD'lt : ∀ k, D'.all k → k < w1.heap.size := fun k e => hA.d.ltAll e
  have hDne : ∀ k, D'.all k → ¬ R.all k := fun k e e2 => by
    rcases hA.al k e with e | e
    · exact h.sep.ne (i := 0) (j := 1) (by omega) e e2
    · have := l1 k e2; omega
  have hap : ∀ k, D'.all k → ¬ R'.all k := fun k e e2 => by
    rcases hM.al k e2 with e2 | e2
    · exact hDne k e e2
    · have := hD'lt k e; omega
  have hF : Fr (fun k => ∃ i, i ≤ 3 ∧ cps D R T U K P i k) w w2 :=
    ((hA.mv.fr.mono (T := fun k => ∃ i, i ≤ 3 ∧ cps D R T U K P i k) (fun k e => ⟨0, by omega, Dk.hasAll e⟩)).trans (below_fr hx (fun _ => False)) (fun k e => e.elim)).trans hM.fr (fun k e => .inl ⟨1, by omega, e⟩)
  have hF2 : Fr (fun k => D.all k ∨ R.all k) w w2 :=
    ((hA.mv.fr.mono (T := fun k => D.all k ∨ R.all k) (fun k e => .inl (Dk.hasAll e))).trans (below_fr hx (fun _ => False)) (fun k e => e.elim)).trans hM.fr (fun k e => .inl (.inr e))
  have hne : ∀ i k, i ≠ 0 → i ≠ 1 → cps D R T U K P i k → ¬ (D.all k ∨ R.all k) := fun i k h0 h1 e e2 => e2.elim (fun e2 => h.sep.ne (i := i) (j := 0) h0 e e2) (fun e2 => h.sep.ne (i := i) (j := 1) h1 e e2)
  have hke : D'.keep = a'.keep := by have := congrArg AD.keep hA.abs; exact this
  refine h.gen hF ⟨(hA.d.on hx).fr hM.fr hDne, by rw [hA.abs]; exact hM.t.up (by omega), hap, fun k e => ?_, h.ws.be.trans (hF.below w0.heap.size (fun k ⟨i, _, e⟩ => h.far i k e) h.ws.be.size), by rw [hke]; exact hkd⟩ (by rw [hA.abs]; exact hrs) (h.tp.fr hF2 (fun k e => hne 2 k (by omega) (by omega) e) hA.mv.d hA.mv.nb) (h.ux.fr hF2 (fun k e => hne 3 k (by omega) (by omega) e)) (by rw [hM.r]; exact h.ur) (Nat.le_trans h.ul (by omega)) (by omega) hA.mv.d hM.r rfl rfl (fun i k hi e => ?_) (fun i i' k hi hi' hk e e' => ?_)
  · rcases e with e | e
    · rcases hA.al k e with e | e
      · exact h.far 0 k e
      · exact Nat.le_trans h.ws.be.size e
    · rcases hM.al k e with e | e
      · exact h.far 1 k e
      · have := h.ws.be.size; omega
  · match i, hi, e with
    | 0, _, e => exact hA.al k e
    | 1, _, e => exact (hM.al k e).imp id (fun e => by omega)
    | 2, _, e => exact .inl e
    | 3, _, e => exact .inl e
  · have n2 : ¬ T.all k := fun e => by have := l2 k e; omega
    have n3 : ¬ U.all k := fun e => by have := h.lt 3 k e; omega
    match i, i', hi, hi', e, e' with
    | 0, 0, _, _, _, _ => rfl
    | 1, 1, _, _, _, _ => rfl
    | 0, 1, _, _, e, e' => exact absurd e' (hap k e)
    | 1, 0, _, _, e, e' => exact absurd e (hap k e')
    | 2, _, _, _, e, _ => exact absurd e n2
    | 3, _, _, _, e, _ => exact absurd e n3
    | _, 2, _, _, _, e' => exact absurd e' n2
    | _, 3, _, _, _, e' => exact absurd e' n3
    | _ + 4, _, hi, _, _, _ => exact absurd hi (by omega)
    | _, _ + 4, _, hi', _, _ => exact absurd hi' (by omega)
theorem Rs.arm {a : AD} (h : Rs a) (t : Int) (L : List Bool) : Rs (armA a t L) := by
  unfold armA
  split
  · exact h
  · exact ⟨h.len, h.pen, h.up, h.dn⟩
set_option maxRecDepth 100000 in
set_option maxHeartbeats 8000000 in
theorem xplay10 (h : XS w0 w P D R T U K j) (n x : Int) (hn : n ≤ 9223372036854775807) (ba ka : Option Addr) (bn bc kn kc : Nat) (L : List Bool) (hk : Bools w0 (.slice ka kn kc) L) (hkn : L.length = kn) (hk0 : ka = none → kc = 0) (hK : kn ≤ 1048576) :
    Calls Tryz.prog 8 #[.pointer (some ⟨P, 0, none⟩), .agg #[.int .i64 10, .int .i64 n, .int .u8 x, .slice ba bn bc, .slice ka kn kc], .pointer (some ⟨K.kb, 0, none⟩)] w (PlP w0 P j K.kb) := by
  have HX : Hid (XS w0 w P D R T U K j) := h
  have HKa : L ≠ [] → ∀ b off, ka = some ⟨b, off, none⟩ → b < w0.heap.size := fun hne b off e => by
    obtain ⟨a', c', e1, e2⟩ := hk
    cases e1
    rcases e2 with e2 | ⟨b', off', e3, hc⟩
    · exact absurd e2 hne
    · rw [e] at e3; cases e3
      cases L with
      | nil => exact absurd rfl hne
      | cons x xs => exact block_lt_of_cell (hc 0 x rfl)
  have HPM : Hid (∀ wx, Below w.heap.size w wx → Calls Tryz.prog 29 #[.pointer (some ⟨D.d, 0, none⟩), .agg #[.int .i64 n, .slice ka kn kc]] wx fun e w1 => e = .returned (.int .i64 (armE D.abs)) ∧ ∃ D', HalfA wx w1 D D' (armA D.abs n L)) := fun wx hb => by
    refine (pd_arm wx D (h.on hb).ws.d n hn ka kn kc L (hk.on0 (h.on hb).ws.be) hkn hk0 (by omega)).mono ?_
    rintro e w1 ⟨rfl, D', h1, h2, h3, h4⟩
    exact ⟨rfl, D', h1, h2, h3, h4⟩
  have HRM : Hid (∀ wx, RT wx D.abs R (200 * j) → Below w0.heap.size w0 wx → Calls Tryz.prog 30 #[.pointer (some ⟨R.r, 0, none⟩), .agg #[.int .i64 n, .slice ka kn kc]] wx fun e w1 => e = .returned (.int .i64 (armE D.abs)) ∧ ∃ R', RM wx R w1 (armA D.abs n L) R' (200 * j)) := fun wx ht hb =>
    ht.arm n hn ka kn kc L (hk.on0 hb) hkn (by omega) (fun hne b off e e2 => by have := HKa hne b off e; have := h.far 1 b e2; omega)
  have HKd : Hid ((armA D.abs n L).keep.length ≤ 1000000000000000) := by
    rcases keep_armA D.abs n L with e | e
    · rw [e]; exact h.ws.kd
    · rw [e, hkn]; show kn ≤ 1000000000000000; omega
  have HC : Hid (∀ wx, Below w.heap.size w wx → wx.cell? ⟨P, 0, none⟩ = some (.pointer (some ⟨D.d, 0, none⟩)) ∧ wx.cell? ⟨P, 1, none⟩ = some (.pointer (some ⟨R.r, 0, none⟩))) := fun wx hb => ⟨(h.on hb).ptrs.1, (h.on hb).ptrs.2.1⟩
  clear h hk hkn hk0 HKa
  go_enter Tryz.func8, Tryz.ntmps8
  go_upto_region 1 with fail
  obtain ⟨Q, hQ⟩ : ∃ Q, w.heap.size = Q := ⟨_, rfl⟩
  obtain ⟨wb, hwb⟩ : ∃ wb, w.alloc (.cells #[.int .i64 10, .int .i64 n, .int .u8 x, .slice ba bn bc, .slice ka kn kc] 45) = wb := ⟨_, rfl⟩
  have HB : Hid (Below w.heap.size w wb ∧ w.heap.size = Q) := ⟨by rw [← hwb]; exact (Below.refl _ _).alloc (Nat.le_refl _) _, hQ⟩
  have b0 : wb.cell? ⟨Q, 0, none⟩ = some (.int .i64 10) := by rw [← hwb, ← hQ]; exact box_at (Below.refl _ _) 0
  have b1 : wb.cell? ⟨Q, 1, none⟩ = some (.int .i64 n) := by rw [← hwb, ← hQ]; exact box_at (Below.refl _ _) 1
  have b4 : wb.cell? ⟨Q, 4, none⟩ = some (.slice ka kn kc) := by rw [← hwb, ← hQ]; exact box_at (Below.refl _ _) 4
  obtain ⟨c2, c3⟩ := HC.out wb HB.out.1
  rw [hwb, hQ]
  clear hwb hQ
  go_upto_region 20 with fail
  have hS0 : wb.drew.cell? ⟨P, 0, none⟩ = some (.pointer (some ⟨D.d, 0, none⟩)) ∧ wb.drew.cell? ⟨P, 1, none⟩ = some (.pointer (some ⟨R.r, 0, none⟩)) ∧ wb.drew.cell? ⟨Q, 1, none⟩ = some (.int .i64 n) ∧ wb.drew.cell? ⟨Q, 4, none⟩ = some (.slice ka kn kc) := ⟨c2, c3, b1, b4⟩
  have HBd : Hid (Below w.heap.size w wb.drew) := HB.out.1.drew
  obtain ⟨E, hE⟩ : ∃ E, armE D.abs = E := ⟨_, rfl⟩
  rw [hE] at HPM HRM
  clear hE b0
  go_region_held3 (fun w' => w'.cell? ⟨P, 0, none⟩ = some (.pointer (some ⟨D.d, 0, none⟩)) ∧ w'.cell? ⟨P, 1, none⟩ = some (.pointer (some ⟨R.r, 0, none⟩)) ∧ w'.cell? ⟨Q, 1, none⟩ = some (.int .i64 n) ∧ w'.cell? ⟨Q, 4, none⟩ = some (.slice ka kn kc)) (first | exact hS0 | exact hS1 | exact hS2 | go_keep)
    (first
      | (go_at_call 29; refine (HPM.out _ HBd.out).mono ?_; rintro e w1 ⟨rfl, D', hA⟩
         have H1 : Hid (HalfA wb.drew w1 D D' (armA D.abs n L)) := hA
         have hm := (HX.out.on HBd.out).mida hA (Below.refl _ _)
         have hQn : ¬ D.has Q := fun e => by have h8 : Q < w.heap.size := HX.out.lt 0 Q (Dk.hasAll e); have h5 := HB.out.2; omega
         have hS1 : w1.cell? ⟨P, 0, none⟩ = some (.pointer (some ⟨D.d, 0, none⟩)) ∧ w1.cell? ⟨P, 1, none⟩ = some (.pointer (some ⟨R.r, 0, none⟩)) ∧ w1.cell? ⟨Q, 1, none⟩ = some (.int .i64 n) ∧ w1.cell? ⟨Q, 4, none⟩ = some (.slice ka kn kc) := ⟨(px_ptrs hm.2).1, (px_ptrs hm.2).2.1, hA.mv.fr.cell hS0.2.2.1 hQn, hA.mv.fr.cell hS0.2.2.2 hQn⟩
         have HR : Hid (Calls Tryz.prog 30 #[.pointer (some ⟨R.r, 0, none⟩), .agg #[.int .i64 n, .slice ka kn kc]] w1 fun e w' => e = .returned (.int .i64 E) ∧ ∃ R', RM w1 R w' (armA D.abs n L) R' (200 * j)) := HRM.out w1 hm.1 ((HX.out.on HBd.out).ws.be.trans (hA.mv.fr.below _ (fun k e => HX.out.far 0 k (Dk.hasAll e)) (HX.out.on HBd.out).ws.be.size))
         clear hA hm hQn)
      | (go_at_call 30; refine HR.out.mono ?_; rintro e w2 ⟨rfl, R', hM⟩
         have H3 : Hid (XS w0 w2 P D' R' T U K (j + 1)) := (HX.out.on HBd.out).arm H1.out (Below.refl _ _) hM HKd.out (HX.out.rs.arm n L)
         have hQn : ¬ R.all Q := fun e => by have h8 : Q < w.heap.size := HX.out.lt 1 Q e; have h5 := HB.out.2; omega
         have hS2 : w2.cell? ⟨P, 0, none⟩ = some (.pointer (some ⟨D.d, 0, none⟩)) ∧ w2.cell? ⟨P, 1, none⟩ = some (.pointer (some ⟨R.r, 0, none⟩)) ∧ w2.cell? ⟨Q, 1, none⟩ = some (.int .i64 n) ∧ w2.cell? ⟨Q, 4, none⟩ = some (.slice ka kn kc) := ⟨(by rw [H3.out.ptrs.1, H1.out.mv.d]), (by rw [H3.out.ptrs.2.1, hM.r]), hM.fr.cell hS1.2.2.1 hQn, hM.fr.cell hS1.2.2.2 hQn⟩
         clear hM hQn))
  go_wp2
  go_ret
  exact ⟨rfl, D', R', T, U, K, H3.out, rfl⟩
end Go.Proofs.YtcbebalakdkgnaaGreatDoor

namespace Go.Proofs.YtcbebalakdkgnaaGreatDoor
open Go.RowKit Go.Maps Go.Sort Go.Shelf Rec
variable {w0 w w1 wx w2 w' : World} {P j j' : Nat} {D D' : Dk} {R R' : RDk} {T T' : Tx} {U U' : RTx} {K K' : Kb} {row' : List Dn} {c2 c3 : Value}
theorem owl_of {e sz n : Nat} {v : Value} {xs : List Value} (h : w'.ownsRow w.heap.size e sz v n xs) (hb : Below w.heap.size w w') : OwL e sz w w' v n xs := by
  obtain ⟨h1, h2⟩ := h
  rcases h2 with ⟨e1, e2⟩ | ⟨g, cap, cur, e1, q1, q2, q3⟩
  · exact ⟨⟨h1, .inl ⟨e1, e2⟩⟩, fun k hk => by rw [e1] at hk; (cases hk), hb⟩
  · exact ⟨⟨h1, .inr ⟨g, cap, cur, e1, Nat.zero_le _, q2, q3⟩⟩, fun k hk => by rw [e1] at hk; cases hk; exact q1, hb⟩
theorem pwritten (h : XS w0 w P D R T U K j) : Calls Tryz.prog 35 #[.pointer (some ⟨T.t, 0, none⟩)] w (WrP w (wrL U D.nb)) := by
  cases hen : U.ends with
  | true =>
    have e : wrL U D.nb = [] := by unfold wrL; rw [if_pos hen]
    rw [e]
    refine (written_over w T.t (h.tp.over hen)).mono ?_
    rintro e w' ⟨rfl, hb⟩
    exact ⟨_, rfl, OwL.zero hb⟩
  | false =>
    obtain ⟨hx, hd, hn, hu⟩ := h.tp.live hen
    have e : wrL U D.nb = nsB (lst T.c T.nb) := by unfold wrL; rw [if_neg (by rw [hen]; simp), hn, (hu.lists hx.ok).1]
    rw [e]
    refine (written_any w T hx).mono ?_
    rintro e w' ⟨v, rfl, h1, _, h3⟩
    refine ⟨v, rfl, ?_⟩
    have e2 : (nsB (lst T.c T.nb)).length = (lst T.c T.nb).length := by simp [nsB]
    rw [e2]
    exact owl_of h1 h3
end Go.Proofs.YtcbebalakdkgnaaGreatDoor

namespace Go.Proofs.YtcbebalakdkgnaaGreatDoor
open Go.RowKit Rec
variable {w0 w w1 wx w2 w' : World} {P j j' : Nat} {D D' : Dk} {R R' : RDk} {T T' : Tx} {U U' : RTx} {K K' : Kb} {row' : List Dn} {c2 c3 : Value}
theorem owl_ints {v : Value} {l : List Int} (h : OwL 3 1 w w' v l.length (l.map (Value.int .i64))) : IntsAt w' v l := by
  obtain ⟨a, c, e, _⟩ := owns_slice h.row
  refine ⟨a, c, e, ?_⟩
  rcases h.row.2 with ⟨_, e2⟩ | ⟨g, cap, cur, e2, _⟩
  · exact .inl (List.eq_nil_of_length_eq_zero e2)
  · rw [e] at e2
    cases e2
    refine .inr ⟨g, rfl, fun i x hi => ?_⟩
    have hc := World.ownsRow.cells h.row (g := g) (by rw [e]; rfl) i (.int .i64 x) (by rw [List.getElem?_map, hi]; rfl)
    rw [Addr.add_lit, Nat.zero_add] at hc
    exact hc
/-- numbers go into the book -/
theorem XS.ints (h : XS w0 w P D R T U K j) (v : Value) (n : Nat) (x : List Int) (hv : w.ownsRow 0 3 1 v n (x.map (Value.int .i64))) (hn : n ≤ 10000000) (hf : ∀ i k, v.ownBlock = some k → ¬ cps D R T U K P i k) (hv0 : ∀ k, v.ownBlock = some k → w0.heap.size ≤ k) (hj : j ≤ j') (hb : K.im + 1 ≤ 2 * j') (hj2 : j' ≤ 100000001) :
    Calls Tryz.prog 38 #[.pointer (some ⟨K.kb, 0, none⟩), v] w fun e w' => e = .returned (.tuple #[]) ∧ ∃ K', XS w0 w' P D R T U K' j' ∧ K'.kb = K.kb ∧ K'.im = K.im + 1 ∧ K'.bn = K.bn ∧ Fr (fun k => K.all k ∨ v.ownBlock = some k) w w' ∧ ∀ k, K'.all k → K.all k ∨ v.ownBlock = some k ∨ w.heap.size ≤ k := by
  refine (kints_any w K h.bk v n x hv hn (fun k e => hf 4 k e) (by omega)).mono ?_
  rintro e w' ⟨rfl, X, Y, u, y, h1, h2, h3⟩
  exact ⟨rfl, K.addI X Y v u y, h.book hf hv0 h2 h1 h3 hj (by show K.bn ≤ _; have := h.bn; omega) hb, rfl, rfl, rfl, h2, h3⟩
def LsP (w0 : World) (P : Nat) (D : Dk) (R : RDk) (T : Tx) (U : RTx) (j kb : Nat) (e : Ending) (w' : World) : Prop := e = .returned (.bool true) ∧ ∃ K, XS w0 w' P D R T U K (j + 1) ∧ K.kb = kb
set_option maxRecDepth 100000 in
set_option maxHeartbeats 8000000 in
theorem xlists3K (h : XS w0 w P D R T U K j) (hj : j ≤ 100000000) (n x : Int) (ba ka : Option Addr) (bn bc kn kc : Nat) :
    Calls Tryz.prog 12 #[.pointer (some ⟨P, 0, none⟩), .agg #[.int .i64 3, .int .i64 n, .int .u8 x, .slice ba bn bc, .slice ka kn kc], .pointer (some ⟨K.kb, 0, none⟩)] w (LsP w0 P D R T U j K.kb) := by
  have HX : Hid (XS w0 w P D R T U K j) := h
  obtain ⟨l, hl⟩ : ∃ l, wrL U D.nb = l := ⟨_, rfl⟩
  have hll : l.length ≤ 16384 := by
    rw [← hl]
    unfold wrL
    split
    · simp
    · have := wl_len U.row D.nb
      have h2 := h.ws.t.r.nb0
      have h3 : D.nb = R.nb := h.ws.t.tie.nb
      omega
  have HPW : Hid (∀ wx, Below w.heap.size w wx → Calls Tryz.prog 35 #[.pointer (some ⟨T.t, 0, none⟩)] wx (WrP wx l)) := fun wx hb => by
    have := pwritten (h.on hb); rw [hl] at this; exact this
  have HRW : Hid (∀ wx, Below w.heap.size w wx → Calls Tryz.prog 36 #[.pointer (some ⟨U.u, 0, none⟩)] wx (WrP wx l)) := fun wx hb => by
    have := rwritten_any wx D.abs R (200 * j) (h.on hb).ws.t U (h.on hb).ux h.ur
    have e : D.abs.nb = D.nb := rfl
    rw [e, hl] at this; exact this
  have HC : Hid (∀ wx, Below w.heap.size w wx → wx.cell? ⟨P, 2, none⟩ = some (.pointer (some ⟨T.t, 0, none⟩)) ∧ wx.cell? ⟨P, 3, none⟩ = some (.pointer (some ⟨U.u, 0, none⟩))) := fun wx hb => (h.on hb).ptrs.2.2
  have HIm : Hid (K.im ≤ 2 * j ∧ K.bn ≤ 2 * j ∧ j ≤ 100000000) := ⟨h.im, h.bn, hj⟩
  obtain ⟨m, hm⟩ : ∃ m, l.length = m := ⟨_, rfl⟩
  have HM : Hid (l.length = m ∧ m ≤ 16384) := ⟨hm, by omega⟩
  clear h hl hll hm
  go_enter Tryz.func12, Tryz.ntmps12
  go_upto_region 1 with fail
  obtain ⟨Q, hQ⟩ : ∃ Q, w.heap.size = Q := ⟨_, rfl⟩
  obtain ⟨wb, hwb⟩ : ∃ wb, w.alloc (.cells #[.int .i64 3, .int .i64 n, .int .u8 x, .slice ba bn bc, .slice ka kn kc] 45) = wb := ⟨_, rfl⟩
  have HB : Hid (Below w.heap.size w wb) := by rw [← hwb]; exact (Below.refl _ _).alloc (Nat.le_refl _) _
  have b0 : wb.cell? ⟨Q, 0, none⟩ = some (.int .i64 3) := by rw [← hwb, ← hQ]; exact box_at (Below.refl _ _) 0
  obtain ⟨c2, c3⟩ := HC.out wb HB.out
  rw [hwb, hQ]
  clear hwb hQ
  have TK0 : Hid True := trivial
  go_upto_region 14 with (first
    | (go_at_call 35; have hh := TK0.out; clear hh; refine (HPW.out wb HB.out).mono ?_; rintro e w1 ⟨v1, rfl, h1⟩
       obtain ⟨a1, k1, rfl, _⟩ := owns_slice h1.row
       have H1 : Hid (OwL 3 1 wb w1 (.slice a1 l.length k1) l.length (l.map (Value.int .i64)) ∧ Below w.heap.size w w1) := ⟨h1, HB.out.trans (h1.bel.mono HB.out.size)⟩
       clear h1 c2 c3 TK0
       obtain ⟨c2, c3⟩ := HC.out w1 H1.out.2
       have TK1 : Hid True := trivial)
    | (go_at_call 35; have hh := TK1.out; clear hh; refine (HPW.out w1 H1.out.2).mono ?_; rintro e w2 ⟨v2, rfl, h1⟩
       obtain ⟨a2, k2, rfl, _⟩ := owns_slice h1.row
       have H2 : Hid (OwL 3 1 w1 w2 (.slice a2 l.length k2) l.length (l.map (Value.int .i64)) ∧ Below w.heap.size w w2) := ⟨h1, H1.out.2.trans (h1.bel.mono H1.out.2.size)⟩
       clear h1 c2 c3 TK1
       obtain ⟨c2, c3⟩ := HC.out w2 H2.out.2)
    | (go_at_call 36; refine (HRW.out w2 H2.out.2).mono ?_; rintro e w3 ⟨v3, rfl, h1⟩
       obtain ⟨a3, k3, rfl, _⟩ := owns_slice h1.row
       have H3 : Hid (OwL 3 1 w2 w3 (.slice a3 l.length k3) l.length (l.map (Value.int .i64)) ∧ Below w.heap.size w w3) := ⟨h1, H2.out.2.trans (h1.bel.mono H2.out.2.size)⟩
       clear h1 c2 c3))
  have HS13 : Hid (∀ wx, Below w3.heap.size w3 wx → IntsAt wx (.slice a1 l.length k1) l ∧ IntsAt wx (.slice a2 l.length k2) l ∧ IntsAt wx (.slice a3 l.length k3) l) := fun wx hb =>
    ⟨owl_ints (((H1.out.1.on H2.out.1.bel).on H3.out.1.bel).on hb), owl_ints ((H2.out.1.on H3.out.1.bel).on hb), owl_ints (H3.out.1.on hb)⟩
  have TK2 : Hid True := trivial
  go_upto_region 16 with (first
    | (go_at_call 37; have hh := TK2.out; clear hh; refine (sameInts_yes w3 _ _ l m HM.out.1 (by have := HM.out.2; omega) (HS13.out w3 (Below.refl _ _)).1 (HS13.out w3 (Below.refl _ _)).2.2).mono ?_; rintro e w4 ⟨rfl, hb4⟩
       have H4 : Hid (Below w3.heap.size w3 w4) := hb4
       clear hb4 TK2
       have TK3 : Hid True := trivial)
    | (go_at_call 37; have hh := TK3.out; clear hh; refine (sameInts_yes w4 _ _ l m HM.out.1 (by have := HM.out.2; omega) (HS13.out w4 H4.out).2.1 (HS13.out w4 H4.out).2.2).mono ?_; rintro e w5 ⟨rfl, hb5⟩
       have H5 : Hid (Below w3.heap.size w3 w5) := H4.out.trans (hb5.mono H4.out.size)
       clear hb5 TK3))
  have hb5 : Below w.heap.size w w5 := H3.out.2.trans (H5.out.mono H3.out.2.size)
  have HX5 : Hid (XS w0 w5 P D R T U K j) := HX.out.on hb5
  have g1 : ∀ k, (Value.slice a1 l.length k1).ownBlock = some k → w.heap.size ≤ k ∧ k < w1.heap.size := fun k e => ⟨Nat.le_trans HB.out.size (H1.out.1.far k e), owns_block H1.out.1.row e⟩
  have g2 : ∀ k, (Value.slice a2 l.length k2).ownBlock = some k → w1.heap.size ≤ k ∧ k < w2.heap.size := fun k e => ⟨H2.out.1.far k e, owns_block H2.out.1.row e⟩
  have HG : Hid ((∀ k, (Value.slice a1 l.length k1).ownBlock = some k → w.heap.size ≤ k ∧ k < w1.heap.size) ∧ (∀ k, (Value.slice a2 l.length k2).ownBlock = some k → w1.heap.size ≤ k ∧ k < w2.heap.size) ∧ w1.heap.size ≤ w2.heap.size ∧ w2.heap.size ≤ w5.heap.size) := ⟨g1, g2, H2.out.1.bel.size, Nat.le_trans H3.out.1.bel.size H5.out.size⟩
  have HO1 : Hid (w5.ownsRow 0 3 1 (.slice a1 l.length k1) l.length (l.map (Value.int .i64))) := owns_on (owns_on (owns_on H1.out.1.row H2.out.1.bel) H3.out.1.bel) H5.out
  have HO2 : Hid (w5.ownsRow 0 3 1 (.slice a2 l.length k2) l.length (l.map (Value.int .i64))) := owns_on (owns_on H2.out.1.row H3.out.1.bel) H5.out
  clear hb5 g1 g2
  have HI1 : Hid (Calls Tryz.prog 38 #[.pointer (some ⟨K.kb, 0, none⟩), .slice a1 l.length k1] w5 fun e w' => e = .returned (.tuple #[]) ∧ ∃ K', XS w0 w' P D R T U K' (j + 1) ∧ K'.kb = K.kb ∧ K'.im = K.im + 1 ∧ K'.bn = K.bn ∧ Fr (fun k => K.all k ∨ (Value.slice a1 l.length k1).ownBlock = some k) w5 w' ∧ ∀ k, K'.all k → K.all k ∨ (Value.slice a1 l.length k1).ownBlock = some k ∨ w5.heap.size ≤ k) :=
    HX5.out.ints _ l.length l HO1.out (by have := HM.out; omega) (fun i k e e2 => by have := (HG.out.1 k e).1; have := HX.out.lt i k e2; omega) (fun k e => Nat.le_trans HX.out.ws.be.size (HG.out.1 k e).1) (by omega) (by have := HIm.out; omega) (by have := HIm.out; omega)
  have TK4 : Hid True := trivial
  go_wp2_with (first
    | (go_at_call 38; have hh := TK4.out; clear hh; refine HI1.out.mono ?_; rintro e w6 ⟨rfl, K6, h1, h2, h3, h4, h5, h6⟩
       have H6 : Hid (XS w0 w6 P D R T U K6 (j + 1) ∧ K6.kb = K.kb) := ⟨h1, h2⟩
       have HI2 : Hid (Calls Tryz.prog 38 #[.pointer (some ⟨K.kb, 0, none⟩), .slice a2 l.length k2] w6 fun e w' => e = .returned (.tuple #[]) ∧ ∃ K', XS w0 w' P D R T U K' (j + 1) ∧ K'.kb = K.kb) := (by
         have hne : ∀ k, (Value.slice a2 l.length k2).ownBlock = some k → ¬ (K.all k ∨ (Value.slice a1 l.length k1).ownBlock = some k) := fun k e e2 => (by
           have q1 := HG.out.2.1 k e
           rcases e2 with e2 | e2
           · have := HX.out.lt 4 k e2
             have := H1.out.2.size; omega
           · have := HG.out.1 k e2; omega)
         have := h1.ints (j' := j + 1) (.slice a2 l.length k2) l.length l (owns_fr HO2.out h5 hne) (by have := HM.out; omega) (fun i k e e2 => by
           have q1 := HG.out.2.1 k e
           have q2 := HG.out.2.2
           have q3 := H1.out.2.size
           by_cases hi : i = 4
           · subst hi
             rcases h6 k e2 with e3 | e3 | e3
             · exact hne k e (.inl e3)
             · exact hne k e (.inr e3)
             · omega
           · have e4 : cps D R T U K P i k := by
               match i, hi, e2 with
               | 0, _, e2 => exact e2
               | 1, _, e2 => exact e2
               | 2, _, e2 => exact e2
               | 3, _, e2 => exact e2
               | 5, _, e2 => exact e2
               | _ + 6, _, e2 => exact e2.elim
               | 4, hi, _ => exact absurd rfl hi
             have := HX.out.lt i k e4
             omega) (fun k e => by have q1 := HG.out.2.1 k e; have q3 := H1.out.2.size; have q4 := HX.out.ws.be.size; omega) (Nat.le_refl _) (by have := HIm.out; omega) (by have := HIm.out; omega)
         rw [h2] at this
         exact this.mono (fun e w' ⟨e1, K', q1, q2, _⟩ => ⟨e1, K', q1, q2⟩))
       clear h1 h2 h3 h4 h5 h6 TK4)
    | (go_at_call 38; refine HI2.out.mono ?_; rintro e w7 ⟨rfl, K7, h1, h2⟩
       have H7 : Hid (XS w0 w7 P D R T U K7 (j + 1) ∧ K7.kb = K.kb) := ⟨h1, h2⟩
       clear h1 h2))
  go_ret
  exact ⟨rfl, K7, H7.out.1, H7.out.2⟩
theorem xlists3 (h : XS w0 w P D R T U K j) (hj : j ≤ 100000000) (n x : Int) (ba ka : Option Addr) (bn bc kn kc : Nat) :
    Calls Tryz.prog 12 #[.pointer (some ⟨P, 0, none⟩), .agg #[.int .i64 3, .int .i64 n, .int .u8 x, .slice ba bn bc, .slice ka kn kc], .pointer (some ⟨K.kb, 0, none⟩)] w (PlP w0 P j K.kb) :=
  (xlists3K h hj n x ba ka bn bc kn kc).mono fun _ _ ⟨e1, K', q1, q2⟩ => ⟨e1, D, R, T, U, K', q1, q2⟩
end Go.Proofs.YtcbebalakdkgnaaGreatDoor
