import Derived.Test.YtcbebalakdkgnaaGreatDoorKKbF
import Derived.Deep.RegionHeld3
import Derived.Test.YtcbebalakdkgnaaGreatDoorKKit
namespace Go.Proofs.YtcbebalakdkgnaaGreatDoor
open Go.RowKit Rec
/-- who has which blocks -/
def cps (D : Dk) (R : RDk) (T : Tx) (U : RTx) (K : Kb) (P : Nat) : Nat → Nat → Prop
  | 0, k => D.all k
  | 1, k => R.all k
  | 2, k => T.all k
  | 3, k => U.all k
  | 4, k => K.all k
  | 5, k => k = P
  | _, _ => False
structure TP (w : World) (T : Tx) (U : RTx) (D : Dk) : Prop where
  live : U.ends = false → TxAt w T ∧ D.d = T.d ∧ D.nb = T.nb ∧ TU T U
  over : U.ends = true → OverAt w T.t
  lt : ∀ k, T.all k → k < w.heap.size
theorem TP.fr {S : Nat → Prop} {w w' : World} {T : Tx} {U : RTx} {D D' : Dk} (h : TP w T U D) (x : Fr S w w') (hS : ∀ k, T.all k → ¬ S k) (hd : D'.d = D.d) (hn : D'.nb = D.nb) : TP w' T U D' :=
  ⟨fun e => by obtain ⟨h1, h2, h3, h4⟩ := h.live e; exact ⟨h1.fr x hS, hd.trans h2, hn.trans h3, h4⟩, fun e => x.heap (h.over e) (hS _ (.inl (.inl rfl))), fun k hk => Nat.lt_of_lt_of_le (h.lt k hk) x.size⟩
def sdC (D : Dk) (R : RDk) (T : Tx) (U : RTx) : Array Value := #[.pointer (some ⟨D.d, 0, none⟩), .pointer (some ⟨R.r, 0, none⟩), .pointer (some ⟨T.t, 0, none⟩), .pointer (some ⟨U.u, 0, none⟩)]
/-- all that the law has -/
structure XS (w0 w : World) (P : Nat) (D : Dk) (R : RDk) (T : Tx) (U : RTx) (K : Kb) (j : Nat) : Prop where
  ws : WS w0 w D R (200 * j)
  rs : Rs D.abs
  tp : TP w T U D
  ux : RTxAt w U
  ur : U.r = R.r
  ul : U.row.length ≤ j
  bk : KbI w K
  bn : K.bn ≤ 2 * j
  im : K.im ≤ 2 * j
  px : w.heap[P]? = some (.cells (sdC D R T U) 35 (0, 0))
  sep : Sep (cps D R T U K P)
  far : ∀ i k, cps D R T U K P i k → w0.heap.size ≤ k
variable {w0 w w' : World} {P j j' : Nat} {D D' : Dk} {R R' : RDk} {T T' : Tx} {U U' : RTx} {K K' : Kb}
theorem XS.lt (h : XS w0 w P D R T U K j) : ∀ i k, cps D R T U K P i k → k < w.heap.size
  | 0, k, e => h.ws.lt (.inl e)
  | 1, k, e => h.ws.lt (.inr e)
  | 2, k, e => h.tp.lt k e
  | 3, k, e => h.ux.lt e
  | 4, k, e => h.bk.lt e
  | 5, k, e => by have e : k = P := e; rw [e]; exact heap_lt h.px
  | _ + 6, k, e => e.elim
theorem XS.on (h : XS w0 w P D R T U K j) (hb : Below w.heap.size w w') : XS w0 w' P D R T U K j :=
  ⟨h.ws.on hb, h.rs, h.tp.fr (below_fr hb (fun _ => False)) (fun _ _ e => e) rfl rfl, h.ux.on hb, h.ur, h.ul, h.bk.on hb, h.bn, h.im, (hb.block _ (heap_lt h.px)).trans h.px, h.sep, h.far⟩
theorem XS.up (h : XS w0 w P D R T U K j) (hj : j ≤ j') : XS w0 w P D R T U K j' :=
  ⟨h.ws.up (by omega), h.rs, h.tp, h.ux, h.ur, Nat.le_trans h.ul hj, h.bk, by have := h.bn; omega, by have := h.im; omega, h.px, h.sep, h.far⟩
theorem XS.cell (h : XS w0 w P D R T U K j) (i : Nat) : w.cell? ⟨P, i, none⟩ = (sdC D R T U)[i]? := cell_of_row _ _ i _ _ _ h.px
/-- disks and transactions go on -/
theorem XS.gen (h : XS w0 w P D R T U K j) (hF : Fr (fun k => ∃ i, i ≤ 3 ∧ cps D R T U K P i k) w w') (hws : WS w0 w' D' R' (200 * j')) (hrs : Rs D'.abs) (htp : TP w' T' U' D') (hux : RTxAt w' U') (hur : U'.r = R'.r) (hul : U'.row.length ≤ j') (hj : j ≤ j') (hd : D'.d = D.d) (hr : R'.r = R.r) (ht : T'.t = T.t) (hu : U'.u = U.u)
    (al : ∀ i k, i ≤ 3 → cps D' R' T' U' K P i k → cps D R T U K P i k ∨ w.heap.size ≤ k) (hn : ∀ i i' k, i ≤ 3 → i' ≤ 3 → w.heap.size ≤ k → cps D' R' T' U' K P i k → cps D' R' T' U' K P i' k → i = i') : XS w0 w' P D' R' T' U' K j' := by
  have hA : ∀ i k, cps D' R' T' U' K P i k → cps D R T U K P i k ∨ w.heap.size ≤ k := fun i k e => by
    by_cases hi : i ≤ 3
    · exact al i k hi e
    · match i, hi, e with
      | 4, _, e => exact .inl e
      | 5, _, e => exact .inl e
      | _ + 6, _, e => exact e.elim
  have hlow : ∀ i k, ¬ i ≤ 3 → cps D' R' T' U' K P i k → k < w.heap.size := fun i k hi e => h.lt i k (by
    match i, hi, e with
    | 4, _, e => exact e
    | 5, _, e => exact e
    | _ + 6, _, e => exact e.elim
    | 0, hi, _ => omega
    | 1, hi, _ => omega
    | 2, hi, _ => omega
    | 3, hi, _ => omega)
  have hkeep : ∀ i k, ¬ i ≤ 3 → cps D R T U K P i k → ¬ ∃ i, i ≤ 3 ∧ cps D R T U K P i k := fun i k hi e ⟨i', hi', e'⟩ => h.sep.ne (i := i) (j := i') (by omega) e e'
  refine ⟨hws, hrs, htp, hux, hur, hul, h.bk.fr hF (fun k e => hkeep 4 k (by omega) e), by have := h.bn; omega, by have := h.im; omega, ?_, h.sep.step (fun k => w.heap.size ≤ k) hA (fun i i' k hk e e' => ?_), fun i k e => ?_⟩
  · have : sdC D' R' T' U' = sdC D R T U := by unfold sdC; rw [hd, hr, ht, hu]
    rw [this]
    exact hF.heap h.px (hkeep 5 P (by omega) rfl)
  · by_cases hi : i ≤ 3
    · by_cases hi' : i' ≤ 3
      · exact hn i i' k hi hi' hk e e'
      · have := hlow i' k hi' e'; omega
    · have := hlow i k hi e; omega
  · rcases hA i k e with e | e
    · exact h.far i k e
    · exact Nat.le_trans h.ws.be.size e
/-- the transactions alone -/
theorem XS.tu (h : XS w0 w P D R T U K j) (hF : Fr (fun k => T.all k ∨ U.all k) w w') (htp : TP w' T' U' D) (hux : RTxAt w' U') (hul : U'.row.length ≤ j') (hj : j ≤ j') (ht : T'.t = T.t) (hu : U'.u = U.u) (hr : U'.r = U.r) (a1 : ∀ k, T'.all k → T.all k ∨ w.heap.size ≤ k) (a2 : ∀ k, U'.all k → U.all k ∨ w.heap.size ≤ k) (hn : ∀ k, w.heap.size ≤ k → T'.all k → ¬ U'.all k) : XS w0 w' P D R T' U' K j' := by
  have hD : ∀ k, D.all k ∨ R.all k → ¬ (T.all k ∨ U.all k) := fun k e e' => by
    rcases e with e | e <;> rcases e' with e' | e'
    · exact h.sep.ne (i := 0) (j := 2) (by omega) e e'
    · exact h.sep.ne (i := 0) (j := 3) (by omega) e e'
    · exact h.sep.ne (i := 1) (j := 2) (by omega) e e'
    · exact h.sep.ne (i := 1) (j := 3) (by omega) e e'
  refine h.gen (hF.mono (fun k e => e.elim (fun e => ⟨2, by omega, e⟩) (fun e => ⟨3, by omega, e⟩))) ((h.ws.fr hF hD (fun k e => e.elim (fun e => h.far 2 k e) (fun e => h.far 3 k e))).up (by omega)) h.rs htp hux (by rw [hr, h.ur]) hul hj rfl rfl ht hu (fun i k hi e => ?_) (fun i i' k hi hi' hk e e' => ?_)
  · match i, hi, e with
    | 0, _, e => exact .inl e
    | 1, _, e => exact .inl e
    | 2, _, e => exact a1 k e
    | 3, _, e => exact a2 k e
  · have l0 : ¬ D.all k := fun e => by have := h.lt 0 k e; omega
    have l1 : ¬ R.all k := fun e => by have := h.lt 1 k e; omega
    match i, i', hi, hi', e, e' with
    | 0, _, _, _, e, _ => exact absurd e l0
    | 1, _, _, _, e, _ => exact absurd e l1
    | _, 0, _, _, _, e' => exact absurd e' l0
    | _, 1, _, _, _, e' => exact absurd e' l1
    | 2, 2, _, _, _, _ => rfl
    | 3, 3, _, _, _, _ => rfl
    | 2, 3, _, _, e, e' => exact absurd e' (hn k hk e)
    | 3, 2, _, _, e, e' => exact absurd e (hn k hk e')
    | _ + 4, _, hi, _, _, _ => exact absurd hi (by omega)
    | _, _ + 4, _, hi', _, _ => exact absurd hi' (by omega)
/-- the book goes on -/
theorem XS.book (h : XS w0 w P D R T U K j) {v : Value} (hv : ∀ i k, v.ownBlock = some k → ¬ cps D R T U K P i k) (hv0 : ∀ k, v.ownBlock = some k → w0.heap.size ≤ k) (hF : Fr (fun k => K.all k ∨ v.ownBlock = some k) w w') (hK : KbI w' K') (hal : ∀ k, K'.all k → K.all k ∨ v.ownBlock = some k ∨ w.heap.size ≤ k) (hj : j ≤ j') (hbn : K'.bn ≤ 2 * j') (him : K'.im ≤ 2 * j') : XS w0 w' P D R T U K' j' := by
  have hne : ∀ i k, i ≠ 4 → cps D R T U K P i k → ¬ (K.all k ∨ v.ownBlock = some k) := fun i k hi e e' => e'.elim (fun e' => h.sep.ne (i := i) (j := 4) hi e e') (fun e' => hv i k e' e)
  have hcp : ∀ i k, i ≠ 4 → cps D R T U K' P i k → cps D R T U K P i k := fun i k hi e => by
    match i, hi, e with
    | 0, _, e => exact e
    | 1, _, e => exact e
    | 2, _, e => exact e
    | 3, _, e => exact e
    | 5, _, e => exact e
    | _ + 6, _, e => exact e.elim
    | 4, hi, _ => exact absurd rfl hi
  refine ⟨(h.ws.fr hF (fun k e => e.elim (fun e => hne 0 k (by omega) e) (fun e => hne 1 k (by omega) e)) (fun k e => e.elim (fun e => h.far 4 k e) (hv0 k))).up (by omega), h.rs, h.tp.fr hF (fun k e => hne 2 k (by omega) e) rfl rfl, h.ux.fr hF (fun k e => hne 3 k (by omega) e), h.ur, Nat.le_trans h.ul hj, hK, hbn, him, hF.heap h.px (hne 5 P (by omega) rfl), h.sep.step (fun k => v.ownBlock = some k ∨ w.heap.size ≤ k) (fun i k e => ?_) (fun i i' k hk e e' => ?_), fun i k e => ?_⟩
  · by_cases hi : i = 4
    · subst hi; exact hal k e
    · exact .inl (hcp i k hi e)
  · have h4 : ∀ i, cps D R T U K' P i k → i = 4 := fun i e => by
      by_cases hi : i = 4
      · exact hi
      · exfalso
        have e2 := hcp i k hi e
        rcases hk with hk | hk
        · exact hv i k hk e2
        · have := h.lt i k e2; omega
    rw [h4 i e, h4 i' e']
  · by_cases hi : i = 4
    · subst hi
      rcases hal k e with e | e | e
      · exact h.far 4 k e
      · exact hv0 k e
      · exact Nat.le_trans h.ws.be.size e
    · exact h.far i k (hcp i k hi e)
end Go.Proofs.YtcbebalakdkgnaaGreatDoor

namespace Go.Proofs.YtcbebalakdkgnaaGreatDoor
open Go.RowKit Rec
/-- the program's transaction has gone on, the document's not yet -/
structure HalfT (w w1 : World) (T T' : Tx) (U : RTx) (D : Dk) (row' : List Dn) : Prop where
  mv : Fr T.all w w1
  al : ∀ k, T'.all k → T.all k ∨ w.heap.size ≤ k
  t : T'.t = T.t
  tp : ∀ U' : RTx, U'.ends = U.ends → U'.row = row' → TP w1 T' U' D
variable {w0 w w1 wx w2 w' : World} {P j j' : Nat} {D D' : Dk} {R R' : RDk} {T T' : Tx} {U U' : RTx} {K K' : Kb} {row' : List Dn}
theorem TU.cong {T : Tx} {U U' : RTx} (h : TU T U) (hr : U'.row = U.row) : TU T U' :=
  ⟨by rw [hr]; exact h.len, by rw [hr]; exact h.same, by rw [hr]; exact h.cnt⟩
theorem TP.cong (h : TP w T U D) (he : U'.ends = U.ends) (hr : U'.row = U.row) : TP w T U' D := by
  refine ⟨fun e => ?_, fun e => ?_, h.lt⟩
  · rw [he] at e
    have hv := h.live e
    exact ⟨hv.1, hv.2.1, hv.2.2.1, hv.2.2.2.cong hr⟩
  · rw [he] at e
    exact h.over e
theorem HalfT.same (h : TP w T U D) (hb : Below w.heap.size w w1) : HalfT w w1 T T U D U.row :=
  ⟨below_fr hb _, fun _ e => .inl e, rfl, fun _ he hr => (h.fr (below_fr hb (fun _ => False)) (fun _ _ e => e) (D' := D) rfl rfl).cong he hr⟩
theorem HalfT.of (h : TxAt w1 T') (hm : TMv w T w1 T') (hd : D.d = T.d) (hn : D.nb = T.nb) (he : U.ends = false) (hu : ∀ U' : RTx, U'.row = row' → TU T' U') : HalfT w w1 T T' U D row' :=
  ⟨hm.fr.mono (fun k e => .inl e), hm.al, hm.t, fun U' e hr => ⟨fun _ => ⟨h, hd.trans hm.d.symm, hn.trans hm.nb.symm, hu U' hr⟩, fun e2 => (by rw [e, he] at e2; cases e2), fun k hk => h.lt hk⟩⟩
theorem XS.midw (h : XS w0 w P D R T U K j) (hT : HalfT w w1 T T' U D row') (hx : Below w1.heap.size w1 wx) : RTxAt wx U ∧ RT wx D.abs R (200 * j) ∧ wx.heap[P]? = some (.cells (sdC D R T U) 35 (0, 0)) := by
  refine ⟨(h.ux.fr hT.mv (fun k e e' => h.sep.ne (i := 3) (j := 2) (by omega) e e')).on hx, (h.ws.t.fr hT.mv (fun k e e' => h.sep.ne (i := 1) (j := 2) (by omega) e e')).on hx, ?_⟩
  have h1 := hT.mv.heap h.px (fun e => h.sep.ne (i := 5) (j := 2) (by omega) rfl e)
  exact (hx.block _ (heap_lt h1)).trans h1
theorem XS.half (h : XS w0 w P D R T U K j) (hT : HalfT w w1 T T' U D row') (hx : Below w1.heap.size w1 wx) (hU : RTxAt w2 U') (hm : UMv wx U w2 U') (he : U'.ends = U.ends) (hr : U'.row = row') (hl : row'.length ≤ j') (hj : j ≤ j') : XS w0 w2 P D R T' U' K j' := by
  have htp := hT.tp U' he hr
  have hs1 := hT.mv.size
  have hs2 := hx.size
  have hTU : ∀ k, T'.all k → ¬ U.all k := fun k e e' => by
    rcases hT.al k e with e | e
    · exact h.sep.ne (i := 2) (j := 3) (by omega) e e'
    · have := h.lt 3 k e'; omega
  refine h.tu (j' := j') ((hT.mv.mono (fun k e => .inl e)).trans ((below_fr hx U.all).trans hm.fr (fun k e => .inl e)) (fun k e => .inl (.inr e))) (htp.fr ((below_fr hx U.all).trans hm.fr (fun k e => .inl e)) hTU rfl rfl) hU (by rw [hr]; exact hl) hj hT.t hm.u hm.r hT.al (fun k e => (hm.al k e).imp id (fun e => by omega)) (fun k hk e e' => ?_)
  rcases hm.al k e' with e' | e'
  · exact hTU k e e'
  · have := htp.lt k e; omega
/-- Back -/
theorem half_back (h : XS w0 w P D R T U K j) (i : Int) : Calls Tryz.prog 23 #[.pointer (some ⟨T.t, 0, none⟩), .int .i64 i] w fun e w1 => e = .returned (.int .i64 (rbE U i)) ∧ ∃ T', HalfT w w1 T T' U D (if rbE U i = 0 then U.row.take i.toNat else U.row) := by
  cases hen : U.ends with
  | true =>
    have e : rbE U i = 61 := by unfold rbE; rw [if_pos hen]
    rw [e, if_neg (by decide)]
    refine (back_over w T.t (h.tp.over hen) i).mono ?_
    rintro e w1 ⟨rfl, rfl⟩
    exact ⟨rfl, T, HalfT.same h.tp (Below.refl _ _)⟩
  | false =>
    obtain ⟨hx, hd, hn, hu⟩ := h.tp.live hen
    have e0 : rbE U i = if i < 0 ∨ (U.row.length : Int) < i then 62 else 0 := by unfold rbE; rw [if_neg (by rw [hen]; simp)]
    rw [e0]
    by_cases hb : i < 0 ∨ (U.row.length : Int) < i
    · rw [if_pos hb, if_neg (by decide)]
      refine (tback_bad w T hx i (by rw [hu.len]; exact hb)).mono ?_
      rintro e w1 ⟨rfl, rfl⟩
      exact ⟨rfl, T, HalfT.same h.tp (Below.refl _ _)⟩
    · rw [if_neg hb, if_pos rfl]
      obtain ⟨m, rfl⟩ : ∃ m : Nat, i = (m : Int) := ⟨i.toNat, by omega⟩
      have hm : m ≤ U.row.length := by omega
      rw [Int.toNat_natCast]
      refine (tback_ok w T hx hx.n16 m (by rw [hu.len]; exact hm) (hu.cnt m hm)).mono ?_
      rintro e w1 ⟨rfl, T', h1, h2, h3, h4⟩
      exact ⟨rfl, T', HalfT.of h1 h2 hd hn hen (fun U' hr => hu.back hm h2.nb h3 h4 hr)⟩
/-- Write -/
theorem half_write (h : XS w0 w P D R T U K j) (hl : U.row.length + 1 ≤ 4000000) (i : Int) (pa : Option Addr) (n c : Nat) (x : List Int) (hb : Bytes w pa x) (hx : x.length = n) : Calls Tryz.prog 43 #[.pointer (some ⟨T.t, 0, none⟩), .int .i64 i, .slice pa n c] w fun e w1 => e = .returned (.int .i64 (rwE U D.nb i n)) ∧ ∃ T', HalfT w w1 T T' U D (if rwE U D.nb i n = 0 then U.row ++ [⟨i, x⟩] else U.row) := by
  cases hen : U.ends with
  | true =>
    have e : rwE U D.nb i n = 61 := by unfold rwE; rw [if_pos hen]
    rw [e, if_neg (by decide)]
    refine (twrite_over w T.t (h.tp.over hen) i _).mono ?_
    rintro e w1 ⟨rfl, hb⟩
    exact ⟨rfl, T, HalfT.same h.tp hb⟩
  | false =>
    obtain ⟨hxt, hd, hn, hu⟩ := h.tp.live hen
    obtain ⟨E, hE⟩ : ∃ E, rwE U D.nb i n = E := ⟨_, rfl⟩
    rw [hE]
    unfold rwE at hE
    rw [if_neg (by rw [hen]; simp)] at hE
    by_cases hr : i < 98 ∨ (D.nb : Int) ≤ i
    · rw [if_pos hr] at hE
      subst hE
      rw [if_neg (by decide)]
      refine (twrite_blk w T D hxt h.ws.d hd hn i (by rw [← hn]; exact hr) _).mono ?_
      rintro e w1 ⟨rfl, hb⟩
      exact ⟨rfl, T, HalfT.same h.tp hb⟩
    · rw [if_neg hr] at hE
      obtain ⟨m, rfl⟩ : ∃ m : Nat, i = (m : Int) := ⟨i.toNat, by omega⟩
      have h98 : 98 ≤ m := by omega
      have hmn : m < T.nb := by omega
      by_cases h5 : n ≠ 512
      · rw [if_pos h5] at hE
        subst hE
        rw [if_neg (by decide)]
        refine (twrite_size6 w T D hxt h.ws.d hd hn m h98 hmn pa n c h5).mono ?_
        rintro e w1 ⟨rfl, hb⟩
        exact ⟨rfl, T, HalfT.same h.tp hb⟩
      · rw [if_neg h5] at hE
        have h5 : n = 512 := by omega
        subst h5
        have hroom := hu.room hxt.ok m
        rw [← hn] at hroom
        by_cases hbig : lpB U.row (m : Nat) U.row.length = none ∧ 96 ≤ (wl U.row D.nb).length
        · rw [if_pos hbig] at hE
          subst hE
          rw [if_neg (by decide)]
          have hno := hroom.1 hbig
          have hc : T.c m = none := by
            cases e : T.c m with
            | none => rfl
            | some q => exact absurd (.inl (by rw [e]; rfl)) hno
          have h96 : (lst T.c T.nb).length = 96 := by
            have h1 := hxt.cnt
            have h2 : ¬ (lst T.c T.nb).length < 96 := fun e => hno (.inr (by rw [hn]; exact e))
            omega
          refine (twrite_big w T D hxt h.ws.d hd hn m h98 hmn pa c hc h96).mono ?_
          rintro e w1 ⟨rfl, hb⟩
          exact ⟨rfl, T, HalfT.same h.tp hb⟩
        · rw [if_neg hbig] at hE
          subst hE
          rw [if_pos rfl]
          have hyes : (T.c m).isSome = true ∨ (lst T.c T.nb).length < 96 := by
            rw [← hn]
            exact Classical.byContradiction (fun e => hbig (hroom.2 e))
          obtain ⟨p, rfl⟩ : ∃ p, pa = some p := by
            rcases hb.at_ with e | ⟨b, off, e, _⟩
            · rw [e] at hx; simp at hx
            · exact ⟨_, e⟩
          refine (twrite_ok w T D hxt h.ws.d hd hn m h98 hmn p c x hb hx hyes (by rw [hu.len]; exact hl)).mono ?_
          rintro e w1 ⟨rfl, T', q, u, h1, h2, h3, h4, h5, h6, h7, h8⟩
          exact ⟨rfl, T', HalfT.of h1 h2 hd hn hen (fun U' hr => hu.write h2.nb hmn h5 h6 h7 h8 h3 hr hyes)⟩
end Go.Proofs.YtcbebalakdkgnaaGreatDoor

namespace Go.Proofs.YtcbebalakdkgnaaGreatDoor
open Go.RowKit Rec
/-- an op that is handed in -/
structure OpX where
  k : Int
  n : Int
  x : Int
  ba : Option Addr
  bn : Nat
  bc : Nat
  ka : Option Addr
  kn : Nat
  kc : Nat
  B : List Int
  Kp : List Bool
def OpX.cs (q : OpX) : Array Value := #[.int .i64 q.k, .int .i64 q.n, .int .u8 q.x, .slice q.ba q.bn q.bc, .slice q.ka q.kn q.kc]
structure OpXIn (w : World) (q : OpX) : Prop where
  x : 0 ≤ q.x ∧ q.x < 256
  b : Bytes w q.ba q.B
  bl : q.B.length = q.bn
  bs : q.bn ≤ 1048576
  n : q.n ≤ 9223372036854775807
  kb : Bools w (.slice q.ka q.kn q.kc) q.Kp
  kl : q.Kp.length = q.kn
  k0 : q.ka = none → q.kc = 0
  ks : q.kn ≤ 1048576
def PlP (w0 : World) (P j kb : Nat) (e : Ending) (w' : World) : Prop := e = .returned (.bool true) ∧ ∃ D R T U K, XS w0 w' P D R T U K (j + 1) ∧ K.kb = kb
variable {w0 w w1 wx w2 w' : World} {P j j' : Nat} {D D' : Dk} {R R' : RDk} {T T' : Tx} {U U' : RTx} {K K' : Kb} {row' : List Dn}
theorem XS.ptrs (h : XS w0 w P D R T U K j) : w.cell? ⟨P, 0, none⟩ = some (.pointer (some ⟨D.d, 0, none⟩)) ∧ w.cell? ⟨P, 1, none⟩ = some (.pointer (some ⟨R.r, 0, none⟩)) ∧ w.cell? ⟨P, 2, none⟩ = some (.pointer (some ⟨T.t, 0, none⟩)) ∧ w.cell? ⟨P, 3, none⟩ = some (.pointer (some ⟨U.u, 0, none⟩)) := ⟨h.cell 0, h.cell 1, h.cell 2, h.cell 3⟩
theorem px_ptrs (h : w.heap[P]? = some (.cells (sdC D R T U) 35 (0, 0))) : w.cell? ⟨P, 0, none⟩ = some (.pointer (some ⟨D.d, 0, none⟩)) ∧ w.cell? ⟨P, 1, none⟩ = some (.pointer (some ⟨R.r, 0, none⟩)) ∧ w.cell? ⟨P, 2, none⟩ = some (.pointer (some ⟨T.t, 0, none⟩)) ∧ w.cell? ⟨P, 3, none⟩ = some (.pointer (some ⟨U.u, 0, none⟩)) := ⟨cell_of_row _ _ 0 _ _ _ h, cell_of_row _ _ 1 _ _ _ h, cell_of_row _ _ 2 _ _ _ h, cell_of_row _ _ 3 _ _ _ h⟩
/-- Mark on both sides -/
def mkE (U : RTx) : Value := if U.ends then .tuple #[.int .i64 0, .int .i64 61] else .tuple #[.int .i64 (U.row.length : Nat), .int .i64 0]
theorem pmark (h : XS w0 w P D R T U K j) : Calls Tryz.prog 21 #[.pointer (some ⟨T.t, 0, none⟩)] w fun e w' => e = .returned (mkE U) ∧ Below w.heap.size w w' := by
  unfold mkE
  cases hen : U.ends with
  | true =>
    refine (mark_over w T.t (h.tp.over hen)).mono ?_
    rintro e w1 ⟨rfl, rfl⟩
    exact ⟨rfl, Below.refl _ _⟩
  | false =>
    obtain ⟨hx, _, _, hu⟩ := h.tp.live hen
    refine (mark_any w T hx).mono ?_
    rintro e w1 ⟨rfl, hb⟩
    exact ⟨by rw [hu.len]; rfl, hb⟩
set_option maxRecDepth 100000 in
set_option maxHeartbeats 8000000 in
theorem xplay4 (h : XS w0 w P D R T U K j) (n x : Int) (ba ka : Option Addr) (bn bc kn kc : Nat) :
    Calls Tryz.prog 8 #[.pointer (some ⟨P, 0, none⟩), .agg #[.int .i64 4, .int .i64 n, .int .u8 x, .slice ba bn bc, .slice ka kn kc], .pointer (some ⟨K.kb, 0, none⟩)] w (PlP w0 P j K.kb) := by
  have HX : Hid (XS w0 w P D R T U K j) := h
  have HPM : Hid (∀ wx, Below w.heap.size w wx → Calls Tryz.prog 21 #[.pointer (some ⟨T.t, 0, none⟩)] wx fun e w' => e = .returned (mkE U) ∧ Below wx.heap.size wx w') := fun wx hb => pmark (h.on hb)
  have HRM : Hid (∀ wx, Below w.heap.size w wx → Calls Tryz.prog 22 #[.pointer (some ⟨U.u, 0, none⟩)] wx fun e w' => e = .returned (mkE U) ∧ Below wx.heap.size wx w') := fun wx hb => rxmark_any wx U (h.ux.on hb)
  obtain ⟨a, b, hm⟩ : ∃ a b : Int, mkE U = .tuple #[.int .i64 a, .int .i64 b] := by unfold mkE; split; exact ⟨_, _, rfl⟩; exact ⟨_, _, rfl⟩
  rw [hm] at HPM HRM
  have HC : Hid (∀ wx, Below w.heap.size w wx → wx.cell? ⟨P, 2, none⟩ = some (.pointer (some ⟨T.t, 0, none⟩)) ∧ wx.cell? ⟨P, 3, none⟩ = some (.pointer (some ⟨U.u, 0, none⟩))) := fun wx hb => (h.on hb).ptrs.2.2
  clear h hm
  go_enter Tryz.func8, Tryz.ntmps8
  go_upto_region 1 with fail
  obtain ⟨wb, hwb⟩ : ∃ wb, w.alloc (.cells #[.int .i64 4, .int .i64 n, .int .u8 x, .slice ba bn bc, .slice ka kn kc] 45) = wb := ⟨_, rfl⟩
  have HB : Hid (Below w.heap.size w wb) := by rw [← hwb]; exact (Below.refl _ _).alloc (Nat.le_refl _) _
  have b0 : wb.cell? ⟨w.heap.size, 0, none⟩ = some (.int .i64 4) := by rw [← hwb]; exact box_at (Below.refl _ _) 0
  obtain ⟨c2, c3⟩ := HC.out wb HB.out
  rw [hwb]
  clear hwb
  go_wp2_with (first
    | (go_at_call 21; refine (HPM.out wb HB.out).mono ?_; rintro e w1 ⟨rfl, hb1⟩; have H1 : Hid (Below w.heap.size w w1) := HB.out.trans (hb1.mono HB.out.size); clear hb1 c2 c3; obtain ⟨c2, c3⟩ := HC.out w1 H1.out)
    | (go_at_call 22; refine (HRM.out w1 H1.out).mono ?_; rintro e w2 ⟨rfl, hb2⟩; have H2 : Hid (Below w.heap.size w w2) := H1.out.trans (hb2.mono H1.out.size); clear hb2))
  go_ret
  exact ⟨rfl, D, R, T, U, K, (HX.out.on H2.out).up (by omega), rfl⟩
end Go.Proofs.YtcbebalakdkgnaaGreatDoor

namespace Go.Proofs.YtcbebalakdkgnaaGreatDoor
open Rec Go.ChangeShapes Go.WideShapes Go.ChangeAt Go.RowKit
theorem list5X {α : Type} (l : List α) (h : l.length = 5) : ∃ a b c d e, l = [a, b, c, d, e] := by
  match l, h with
  | [a, b, c, d, e], _ => exact ⟨a, b, c, d, e, rfl⟩
theorem cellsByX : Tryz.prog.cellsOf 42 = 1 := by kernel_rfl
theorem cellsNX : Tryz.prog.cellsOf 3 = 1 := by kernel_rfl
theorem cellsBX : Tryz.prog.cellsOf 4 = 1 := by kernel_rfl
theorem cellsKeX : Tryz.prog.cellsOf 43 = 1 := by kernel_rfl
theorem cellsOpX : Tryz.prog.cellsOf 45 = 5 := by kernel_rfl
theorem bulkX_mem {H : Type} : ∀ (l : List (DataW H)) (d : DataW H), d ∈ l → Rows.uptoBulk d ≤ Rows.uptoBulkAll l
  | x :: r, d, h => by
    rcases List.mem_cons.1 h with rfl | h
    · simp only [Rows.uptoBulkAll]; omega
    · have := bulkX_mem r d h; simp only [Rows.uptoBulkAll]; omega
/-- a slice has no more elements than its bulk -/
theorem bulkX_slice {H : Type} {enc : TypeId × Value → H} {W : World} {t e : TypeId} (ht : Tryz.prog.underlying t = some (.slice e)) {a : Option Addr} {len cap : Nat} {d : DataW H} {p : List MemPlace} {fuel : Nat}
    (hf : DataW.trod enc Tryz.prog W 0 (fun _ => true) true fuel t [.slice a len cap] = some (d, p)) : len ≤ Rows.uptoBulk d := by
  rcases Deep.open_slice ht hf with ⟨hcs, _⟩ | ⟨x, len', cap', m, n, D, Pms, hcs, _, hl, hm, hmm, hx, hel⟩
  · simp at hcs
    obtain ⟨rfl, rfl, rfl⟩ := hcs
    exact Nat.zero_le _
  · simp only [List.cons.injEq, Value.slice.injEq, and_true] at hcs
    obtain ⟨rfl, rfl, rfl⟩ := hcs
    simp only [Prod.mk.injEq] at hx
    obtain ⟨rfl, _⟩ := hx
    have := bulk_many ((List.range len).map D)
    rw [List.length_map, List.length_range] at this
    simp only [Rows.uptoBulk]
    omega
theorem open_boolsX {H : Type} {enc : TypeId × Value → H} {W : World} {a : Option Addr} {len cap : Nat} {d : DataW H} {p : List MemPlace} {fuel : Nat}
    (hf : DataW.trod enc Tryz.prog W 0 (fun _ => true) true fuel 43 [.slice a len cap] = some (d, p)) :
    ∃ L : List Bool, L.length = len ∧ (a = none → cap = 0) ∧ Bools W (.slice a len cap) L := by
  rcases Deep.open_slice Tryz.underlying43 hf with ⟨hcs, _⟩ | ⟨x, len', cap', m, n, D, Pms, hcs, _, hl, hm, hmm, hx, hel⟩
  · simp at hcs
    obtain ⟨rfl, rfl, rfl⟩ := hcs
    exact ⟨[], rfl, fun _ => rfl, _, _, rfl, .inl rfl⟩
  · simp only [List.cons.injEq, Value.slice.injEq, and_true] at hcs
    obtain ⟨rfl, rfl, rfl⟩ := hcs
    simp only [if_true] at hmm
    subst hmm
    have hex : ∀ i, i < len → ∃ q : Bool, True ∧ ∀ j, j < 1 → W.cell? ((x.add (i * 1)).add j) = [Value.bool q][j]? := by
      intro i hi
      obtain ⟨cs', hc1, hc2⟩ := hel i (by omega)
      rw [cellsBX] at hc1
      obtain ⟨q, rfl, _⟩ := DataW.trod_bool Tryz.underlying4 hc2
      obtain ⟨_, _, hcell⟩ := World.cells?_some hc1
      exact ⟨q, trivial, hcell⟩
    obtain ⟨L, hL, _, h2⟩ := recs_list 1 (fun q : Bool => [Value.bool q]) (fun _ => True) W x len hex len (Nat.le_refl _)
    refine ⟨L, hL, fun h => (nomatch h), ⟨_, _, by rw [hL], ?_⟩⟩
    by_cases h0 : len = 0
    · exact .inl (List.eq_nil_of_length_eq_zero (by omega))
    · obtain ⟨q, _, q1⟩ := hex 0 (by omega)
      have c0 := q1 0 (by omega)
      obtain ⟨b, off, spot⟩ := x
      have hspot : spot = none := by
        have := World.cell?_spot (w := W) (show W.cell? _ = some _ from c0)
        simpa [Addr.add] using this
      subst hspot
      refine .inr ⟨b, off, rfl, fun i q hq => ?_⟩
      have hh := h2 i q hq 0 (by omega)
      rw [Addr.add_lit, Addr.add_lit, Nat.mul_one] at hh
      exact hh
theorem slice_cellX {H : Type} {enc : TypeId × Value → H} {W : World} {t e : TypeId} (ht : Tryz.prog.underlying t = some (.slice e)) {v : Value} {D : DataW H} {Pms : List MemPlace} {fuel : Nat}
    (hf : DataW.trod enc Tryz.prog W 0 (fun _ => true) true fuel t [v] = some (D, Pms)) : ∃ a len cap, v = Value.slice a len cap := by
  have : ∃ a len cap, [v] = [Value.slice a len cap] := by
    rcases Deep.open_slice ht hf with ⟨hcs, _⟩ | ⟨x, len', cap', m, n, D, Pms, hcs, _⟩
    · exact ⟨_, _, _, hcs⟩
    · exact ⟨_, _, _, hcs⟩
  obtain ⟨a, n, c, h⟩ := this
  simp at h
  exact ⟨a, n, c, h⟩
/-- one op of the script -/
theorem open_opX {H : Type} {enc : TypeId × Value → H} {W : World} {cs : List Value} {D : DataW H} {Pms : List MemPlace} {fuel : Nat}
    (hf : DataW.trod enc Tryz.prog W 0 (fun _ => true) true fuel 45 cs = some (D, Pms)) (hz : ∀ n ∈ D.weights Tryz.prog 45, n ≤ reachBytes) (hk : Rows.uptoBulk D ≤ 1048576) :
    ∃ q : OpX, OpXIn W q ∧ cs = q.cs.toList := by
  obtain ⟨xs, m, hm, hx, hlen, hxl, hel⟩ := DataW.trod_struct Tryz.underlying45 hf
  rw [cellsOpX] at hlen
  obtain ⟨v0, v1, v2, v3, v4, rfl⟩ := list5X cs hlen
  obtain ⟨x0, x1, x2, x3, x4, rfl⟩ := list5X xs hxl
  have e0 := hel 0 _ rfl
  have e1 := hel 1 _ rfl
  have e2 := hel 2 _ rfl
  have e3 := hel 3 _ rfl
  have e4 := hel 4 _ rfl
  clear hel
  simp [cellsNX, cellsByX, cellsKeX, cells5] at e0 e1 e2 e3 e4
  obtain ⟨kd, z0, _, _⟩ := DataW.trod_int Tryz.underlying3 e0
  obtain ⟨nn, z1, _, w1⟩ := DataW.trod_int Tryz.underlying3 e1
  obtain ⟨xx, z2, _, w2⟩ := DataW.trod_int Tryz.underlying5 e2
  obtain ⟨a3, n3, c3, rfl⟩ := slice_cellX Tryz.underlying42 e3
  obtain ⟨a4, n4, c4, rfl⟩ := slice_cellX Tryz.underlying43 e4
  simp at z0 z1 z2
  subst z0 z1 z2
  have hD : D = .agg [x0.1, x1.1, x2.1, x3.1, x4.1] := (Prod.mk.inj hx).1
  subst hD
  have y3 : ∀ n ∈ x3.1.weights Tryz.prog 42, n ≤ reachBytes := fun n hn => hz n (by
    simp only [DataW.weights, Tryz.underlying45, List.map_cons, List.map_nil, DataW.weightsEach]
    exact List.mem_append_right _ (List.mem_append_right _ (List.mem_append_right _ (List.mem_append_left _ hn))))
  have b3 := bulkX_slice Tryz.underlying42 e3
  have b4 := bulkX_slice Tryz.underlying43 e4
  simp only [Rows.uptoBulk, Rows.uptoBulkAll] at hk
  obtain ⟨bs, t1, t2, _, _⟩ := open_bytes e3 y3
  obtain ⟨ks, s1, s2, s3⟩ := open_boolsX e4
  exact ⟨⟨kd, nn, xx, a3, n3, c3, a4, n4, c4, bs, ks⟩, ⟨wf_u8 w2, t2, t1, by show n3 ≤ _; omega, (wf_i64 w1).2, s3, s1, s2, by show n4 ≤ _; omega⟩, rfl⟩
/-- the script -/
structure SrX (w : World) (a : Option Addr) (L : List OpX) : Prop where
  at_ : L = [] ∨ ∃ b off, a = some ⟨b, off, none⟩ ∧ ∀ i q, L[i]? = some q → ∀ t, t < 5 → w.cell? ⟨b, off + i * 5 + t, none⟩ = q.cs[t]?
  each : ∀ q ∈ L, OpXIn w q
theorem SrX.cells {w wx : World} {b off : Nat} {L : List OpX} (h : SrX w (some ⟨b, off, none⟩) L) (hb : Below w.heap.size w wx) {i : Nat} {q : OpX} (hq : L[i]? = some q) : wx.cell? ⟨b, off + i * 5, none⟩ = some (.int .i64 q.k) ∧ wx.cell? ⟨b, off + i * 5 + 1, none⟩ = some (.int .i64 q.n) ∧ wx.cell? ⟨b, off + i * 5 + 2, none⟩ = some (.int .u8 q.x) ∧ wx.cell? ⟨b, off + i * 5 + 3, none⟩ = some (.slice q.ba q.bn q.bc) ∧ wx.cell? ⟨b, off + i * 5 + 4, none⟩ = some (.slice q.ka q.kn q.kc) := by
  rcases h.at_ with e | ⟨b', off', e, hc⟩
  · rw [e] at hq; simp at hq
  · cases e
    have t : ∀ t, t < 5 → ∀ v, q.cs[t]? = some v → wx.cell? ⟨b, off + i * 5 + t, none⟩ = some v := fun t ht v hv => (below_fr hb (fun _ => False)).cell ((hc i q hq t ht).trans hv) (fun e => e)
    exact ⟨t 0 (by omega) _ rfl, t 1 (by omega) _ rfl, t 2 (by omega) _ rfl, t 3 (by omega) _ rfl, t 4 (by omega) _ rfl⟩
/-- the script among the arguments -/
theorem open_scriptX {H : Type} {enc : TypeId × Value → H} {W : World} {a : Option Addr} {len cap : Nat} {d : DataW H} {p : List MemPlace} {fuel : Nat}
    (hf : DataW.trod enc Tryz.prog W 0 (fun _ => true) true fuel 22 [.slice a len cap] = some (d, p)) (hz : ∀ n ∈ d.weights Tryz.prog 22, n ≤ reachBytes) (hk : Rows.uptoBulk d ≤ 1048576) :
    ∃ L : List OpX, L.length = len ∧ SrX W a L ∧ len ≤ 1048576 := by
  have hlb := bulkX_slice Tryz.underlying22 hf
  rcases Deep.open_slice Tryz.underlying22 hf with ⟨hcs, _⟩ | ⟨x, len', cap', m, n, D, Pms, hcs, _, hl, hm, hmm, hx, hel⟩
  · simp at hcs
    obtain ⟨rfl, rfl, rfl⟩ := hcs
    exact ⟨[], rfl, ⟨.inl rfl, fun q h => by simp at h⟩, by omega⟩
  · simp only [List.cons.injEq, Value.slice.injEq, and_true] at hcs
    obtain ⟨rfl, rfl, rfl⟩ := hcs
    simp only [Prod.mk.injEq] at hx
    obtain ⟨rfl, _⟩ := hx
    simp only [if_true] at hmm
    subst hmm
    have hbk : Rows.uptoBulkAll ((List.range len).map D) ≤ 1048576 := by simp only [Rows.uptoBulk] at hk; omega
    have hw : ∀ i, i < len → (∀ k ∈ (D i).weights Tryz.prog 45, k ≤ reachBytes) ∧ Rows.uptoBulk (D i) ≤ 1048576 := by
      intro i hi
      have hmem : D i ∈ (List.range len).map D := List.mem_map.2 ⟨i, List.mem_range.2 hi, rfl⟩
      refine ⟨fun k hk => hz k ?_, Nat.le_trans (bulkX_mem _ _ hmem) hbk⟩
      have := weightsAll_mem Tryz.prog 45 ((List.range len).map D) (D i) hmem k hk
      simp only [DataW.weights, Tryz.underlying22]
      exact List.mem_cons_of_mem _ (List.mem_append_left _ this)
    have hex : ∀ i, i < len → ∃ q : OpX, OpXIn W q ∧ ∀ j, j < 5 → W.cell? ((x.add (i * 5)).add j) = q.cs.toList[j]? := by
      intro i hi
      obtain ⟨cs', hc1, hc2⟩ := hel i (by omega)
      rw [cellsOpX] at hc1
      obtain ⟨q, q1, rfl⟩ := open_opX hc2 (hw i hi).1 (hw i hi).2
      obtain ⟨_, _, hcell⟩ := World.cells?_some hc1
      exact ⟨q, q1, hcell⟩
    obtain ⟨L, hL, h1, h2⟩ := recs_list 5 (fun q : OpX => q.cs.toList) (OpXIn W) W x len hex len (Nat.le_refl _)
    refine ⟨L, hL, ⟨?_, h1⟩, by omega⟩
    by_cases h0 : len = 0
    · exact .inl (List.eq_nil_of_length_eq_zero (by omega))
    · obtain ⟨q, _, q1⟩ := hex 0 (by omega)
      have c0 := q1 0 (by omega)
      obtain ⟨b, off, spot⟩ := x
      have hspot : spot = none := by
        have := World.cell?_spot (w := W) (show W.cell? _ = some _ from c0)
        simpa [Addr.add] using this
      subst hspot
      refine .inr ⟨b, off, rfl, fun i q hq j hj => ?_⟩
      have hh := h2 i q hq j hj
      have ad : ∀ j, ((⟨b, off, none⟩ : Addr).add (i * 5)).add j = ⟨b, off + i * 5 + j, none⟩ := fun j => by rw [Addr.add_lit, Addr.add_lit]
      rw [ad] at hh
      rw [hh, Array.getElem?_toList]
end Go.Proofs.YtcbebalakdkgnaaGreatDoor
