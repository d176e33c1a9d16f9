import Derived.Test.YtflienghgobmoaaGreatDoorKKbA
import Derived.Deep.RegionHeld3
namespace Go.Proofs.YtflienghgobmoaaGreatDoor
open Go.RowKit Rec
/-- the program's transaction has gone on, the document's not yet -/
structure HalfT (w w1 : World) (T T' : Tx) (U : RTx) (D : Dk) (row' : List Dn) : Prop where
  mv : Fr T.all w w1
  al : ∀ k, T'.all k → T.all k ∨ w.heap.size ≤ k
  t : T'.t = T.t
  tp : ∀ U' : RTx, U'.ends = U.ends → U'.row = row' → TP w1 T' U' D
variable {w0 w w1 wx w2 w' : World} {P j j' : Nat} {D D' : Dk} {R R' : RDk} {T T' : Tx} {U U' : RTx} {K K' : Kb} {row' : List Dn}
theorem TU.cong {T : Tx} {U U' : RTx} (h : TU T U) (hr : U'.row = U.row) : TU T U' :=
  ⟨by rw [hr]; exact h.len, by rw [hr]; exact h.same, by rw [hr]; exact h.cnt⟩
theorem TP.cong (h : TP w T U D) (he : U'.ends = U.ends) (hr : U'.row = U.row) : TP w T U' D := by
  refine ⟨fun e => ?_, fun e => ?_, h.lt⟩
  · rw [he] at e
    have hv := h.live e
    exact ⟨hv.1, hv.2.1, hv.2.2.1, hv.2.2.2.cong hr⟩
  · rw [he] at e
    exact h.over e
theorem HalfT.same (h : TP w T U D) (hb : Below w.heap.size w w1) : HalfT w w1 T T U D U.row :=
  ⟨below_fr hb _, fun _ e => .inl e, rfl, fun _ he hr => (h.fr (below_fr hb (fun _ => False)) (fun _ _ e => e) (D' := D) rfl rfl).cong he hr⟩
theorem HalfT.of (h : TxAt w1 T') (hm : TMv w T w1 T') (hd : D.d = T.d) (hn : D.nb = T.nb) (he : U.ends = false) (hu : ∀ U' : RTx, U'.row = row' → TU T' U') : HalfT w w1 T T' U D row' :=
  ⟨hm.fr.mono (fun k e => .inl e), hm.al, hm.t, fun U' e hr => ⟨fun _ => ⟨h, hd.trans hm.d.symm, hn.trans hm.nb.symm, hu U' hr⟩, fun e2 => (by rw [e, he] at e2; cases e2), fun k hk => h.lt hk⟩⟩
theorem XS.midw (h : XS w0 w P D R T U K j) (hT : HalfT w w1 T T' U D row') (hx : Below w1.heap.size w1 wx) : RTxAt wx U ∧ RT wx D.abs R (200 * j) ∧ wx.heap[P]? = some (.cells (sdC D R T U K) 42 (0, 0)) := by
  refine ⟨(h.ux.fr hT.mv (fun k e e' => h.sep.ne (i := 3) (j := 2) (by omega) e e')).on hx, (h.ws.t.fr hT.mv (fun k e e' => h.sep.ne (i := 1) (j := 2) (by omega) e e')).on hx, ?_⟩
  have h1 := hT.mv.heap h.px (fun e => h.sep.ne (i := 5) (j := 2) (by omega) rfl e)
  exact (hx.block _ (heap_lt h1)).trans h1
theorem XS.half (h : XS w0 w P D R T U K j) (hT : HalfT w w1 T T' U D row') (hx : Below w1.heap.size w1 wx) (hU : RTxAt w2 U') (hm : UMv wx U w2 U') (he : U'.ends = U.ends) (hr : U'.row = row') (hl : row'.length ≤ j') (hj : j ≤ j') : XS w0 w2 P D R T' U' K j' := by
  have htp := hT.tp U' he hr
  have hs1 := hT.mv.size
  have hs2 := hx.size
  have hTU : ∀ k, T'.all k → ¬ U.all k := fun k e e' => by
    rcases hT.al k e with e | e
    · exact h.sep.ne (i := 2) (j := 3) (by omega) e e'
    · have := h.lt 3 k e'; omega
  refine h.tu (j' := j') ((hT.mv.mono (fun k e => .inl e)).trans ((below_fr hx U.all).trans hm.fr (fun k e => .inl e)) (fun k e => .inl (.inr e))) (htp.fr ((below_fr hx U.all).trans hm.fr (fun k e => .inl e)) hTU rfl rfl) hU (by rw [hr]; exact hl) hj hT.t hm.u hm.r hT.al (fun k e => (hm.al k e).imp id (fun e => by omega)) (fun k hk e e' => ?_)
  rcases hm.al k e' with e' | e'
  · exact hTU k e e'
  · have := htp.lt k e; omega
/-- Write -/
theorem half_write (h : XS w0 w P D R T U K j) (hl : U.row.length + 1 ≤ 4000000) (i : Int) (pa : Option Addr) (n c : Nat) (x : List Int) (hb : Bytes w pa x) (hx : x.length = n) : Calls Tryz.prog 34 #[.pointer (some ⟨T.t, 0, none⟩), .int .i64 i, .slice pa n c] w fun e w1 => e = .returned (.int .i64 (rwE U D.nb i n)) ∧ ∃ T', HalfT w w1 T T' U D (if rwE U D.nb i n = 0 then U.row ++ [⟨i, x⟩] else U.row) := by
  cases hen : U.ends with
  | true =>
    have e : rwE U D.nb i n = 61 := by unfold rwE; rw [if_pos hen]
    rw [e, if_neg (by decide)]
    refine (twrite_over w T.t (h.tp.over hen) i _).mono ?_
    rintro e w1 ⟨rfl, hb⟩
    exact ⟨rfl, T, HalfT.same h.tp hb⟩
  | false =>
    obtain ⟨hxt, hd, hn, hu⟩ := h.tp.live hen
    obtain ⟨E, hE⟩ : ∃ E, rwE U D.nb i n = E := ⟨_, rfl⟩
    rw [hE]
    unfold rwE at hE
    rw [if_neg (by rw [hen]; simp)] at hE
    by_cases hr : i < 98 ∨ (D.nb : Int) ≤ i
    · rw [if_pos hr] at hE
      subst hE
      rw [if_neg (by decide)]
      refine (twrite_blk w T D hxt h.ws.d hd hn i (by rw [← hn]; exact hr) _).mono ?_
      rintro e w1 ⟨rfl, hb⟩
      exact ⟨rfl, T, HalfT.same h.tp hb⟩
    · rw [if_neg hr] at hE
      obtain ⟨m, rfl⟩ : ∃ m : Nat, i = (m : Int) := ⟨i.toNat, by omega⟩
      have h98 : 98 ≤ m := by omega
      have hmn : m < T.nb := by omega
      by_cases h5 : n ≠ 512
      · rw [if_pos h5] at hE
        subst hE
        rw [if_neg (by decide)]
        refine (twrite_size6 w T D hxt h.ws.d hd hn m h98 hmn pa n c h5).mono ?_
        rintro e w1 ⟨rfl, hb⟩
        exact ⟨rfl, T, HalfT.same h.tp hb⟩
      · rw [if_neg h5] at hE
        have h5 : n = 512 := by omega
        subst h5
        have hroom := hu.room hxt.ok m
        rw [← hn] at hroom
        by_cases hbig : lpB U.row (m : Nat) U.row.length = none ∧ 96 ≤ (wl U.row D.nb).length
        · rw [if_pos hbig] at hE
          subst hE
          rw [if_neg (by decide)]
          have hno := hroom.1 hbig
          have hc : T.c m = none := by
            cases e : T.c m with
            | none => rfl
            | some q => exact absurd (.inl (by rw [e]; rfl)) hno
          have h96 : (lst T.c T.nb).length = 96 := by
            have h1 := hxt.cnt
            have h2 : ¬ (lst T.c T.nb).length < 96 := fun e => hno (.inr (by rw [hn]; exact e))
            omega
          refine (twrite_big w T D hxt h.ws.d hd hn m h98 hmn pa c hc h96).mono ?_
          rintro e w1 ⟨rfl, hb⟩
          exact ⟨rfl, T, HalfT.same h.tp hb⟩
        · rw [if_neg hbig] at hE
          subst hE
          rw [if_pos rfl]
          have hyes : (T.c m).isSome = true ∨ (lst T.c T.nb).length < 96 := by
            rw [← hn]
            exact Classical.byContradiction (fun e => hbig (hroom.2 e))
          obtain ⟨p, rfl⟩ : ∃ p, pa = some p := by
            rcases hb.at_ with e | ⟨b, off, e, _⟩
            · rw [e] at hx; simp at hx
            · exact ⟨_, e⟩
          refine (twrite_ok w T D hxt h.ws.d hd hn m h98 hmn p c x hb hx hyes (by rw [hu.len]; exact hl)).mono ?_
          rintro e w1 ⟨rfl, T', q, u, h1, h2, h3, h4, h5, h6, h7, h8⟩
          exact ⟨rfl, T', HalfT.of h1 h2 hd hn hen (fun U' hr => hu.write h2.nb hmn h5 h6 h7 h8 h3 hr hyes)⟩
end Go.Proofs.YtflienghgobmoaaGreatDoor

namespace Go.Proofs.YtflienghgobmoaaGreatDoor
open Go.RowKit Rec
/-- an op that is handed in -/
structure OpX where
  k : Int
  n : Int
  x : Int
  ba : Option Addr
  bn : Nat
  bc : Nat
  ka : Option Addr
  kn : Nat
  kc : Nat
  B : List Int
  Kp : List Bool
def OpX.cs (q : OpX) : Array Value := #[.int .i64 q.k, .int .i64 q.n, .int .u8 q.x, .slice q.ba q.bn q.bc, .slice q.ka q.kn q.kc]
variable {w0 w w1 wx w2 w' : World} {P j j' : Nat} {D D' : Dk} {R R' : RDk} {T T' : Tx} {U U' : RTx} {K K' : Kb} {row' : List Dn}
theorem XS.ptrs (h : XS w0 w P D R T U K j) : w.cell? ⟨P, 0, none⟩ = some (.pointer (some ⟨D.d, 0, none⟩)) ∧ w.cell? ⟨P, 1, none⟩ = some (.pointer (some ⟨R.r, 0, none⟩)) ∧ w.cell? ⟨P, 2, none⟩ = some (.pointer (some ⟨T.t, 0, none⟩)) ∧ w.cell? ⟨P, 3, none⟩ = some (.pointer (some ⟨U.u, 0, none⟩)) := ⟨h.cell 0, h.cell 1, h.cell 2, h.cell 3⟩
theorem px_ptrs (h : w.heap[P]? = some (.cells (sdC D R T U K) 42 (0, 0))) : w.cell? ⟨P, 0, none⟩ = some (.pointer (some ⟨D.d, 0, none⟩)) ∧ w.cell? ⟨P, 1, none⟩ = some (.pointer (some ⟨R.r, 0, none⟩)) ∧ w.cell? ⟨P, 2, none⟩ = some (.pointer (some ⟨T.t, 0, none⟩)) ∧ w.cell? ⟨P, 3, none⟩ = some (.pointer (some ⟨U.u, 0, none⟩)) := ⟨cell_of_row _ _ 0 _ _ _ h, cell_of_row _ _ 1 _ _ _ h, cell_of_row _ _ 2 _ _ _ h, cell_of_row _ _ 3 _ _ _ h⟩
end Go.Proofs.YtflienghgobmoaaGreatDoor

namespace Go.Proofs.YtflienghgobmoaaGreatDoor
open Go.RowKit Rec
variable {w0 w w1 wx w2 w' : World} {P j j' : Nat} {D D' : Dk} {R R' : RDk} {T T' : Tx} {U U' : RTx} {K K' : Kb} {row' : List Dn}
theorem XS.fin (h : XS w0 w P D R T U K j) (h1 : OverAt w1 T.t) (f : Fr (fun k => k = T.t) w w1) (hx : Below w1.heap.size w1 wx) (hU : RTxAt w2 { U with ends := true }) (hm : UMv wx U w2 { U with ends := true }) (hj : j ≤ j') : XS w0 w2 P D R T { U with ends := true } K j' := by
  have hs1 := f.size
  have hs2 := hx.size
  have ht2 : T.all T.t := .inl (.inl rfl)
  have hne : ¬ U.all T.t := h.sep.ne (i := 2) (j := 3) (by omega) ht2
  have f2 : Fr U.all w1 w2 := (below_fr hx U.all).trans hm.fr (fun k e => .inl e)
  have hF := (f.mono (T := fun k => T.all k ∨ U.all k) (fun k e => .inl (by subst e; exact ht2))).trans f2 (fun k e => .inl (.inr e))
  refine h.tu (j' := j') hF ⟨fun e => (by cases e), fun _ => f2.heap h1 hne, fun k hk => Nat.lt_of_lt_of_le (h.tp.lt k hk) hF.size⟩ hU (Nat.le_trans h.ul hj) hj rfl rfl rfl (fun k e => .inl e) (fun k e => .inl e) (fun k hk e _ => ?_)
  have := h.tp.lt k e; omega
theorem XS.rowT (h : XS w0 w P D R T U K j) : ∃ cs : Array Value, cs.size = 4 ∧ w.heap[T.t]? = some (.cells cs 116 (0, 0)) := by
  cases hen : U.ends with
  | true => exact ⟨_, rfl, h.tp.over hen⟩
  | false => exact ⟨_, rfl, (h.tp.live hen).1.row⟩
end Go.Proofs.YtflienghgobmoaaGreatDoor
namespace Go.Proofs.YtflienghgobmoaaGreatDoor
open Go.RowKit Rec
variable {w0 w w1 wx w2 w' : World} {P j j' : Nat} {D D' : Dk} {R R' : RDk} {T T' : Tx} {U U' : RTx} {K K' : Kb} {row' : List Dn}
set_option maxRecDepth 100000 in
theorem rbegin6_any (w : World) (r : Nat) : Calls Tryz.prog 23 #[.pointer (some ⟨r, 0, none⟩)] w fun e w' => ∃ U, e = .returned (.pointer (some ⟨U.u, 0, none⟩)) ∧ RTxAt w' U ∧ U.r = r ∧ U.row = [] ∧ U.ends = false ∧ U.rv = .slice none 0 0 ∧ w.heap.size ≤ U.u ∧ Below w.heap.size w w' := by
  have HB : Hid (Below w.heap.size w (w.alloc (.cells #[.pointer (some ⟨r, 0, none⟩), .slice none 0 0, .bool false] 119))) := (Below.refl _ _).alloc (Nat.le_refl _) _
  have HR : Hid (RTxAt (w.alloc (.cells #[.pointer (some ⟨r, 0, none⟩), .slice none 0 0, .bool false] 119)) ⟨w.heap.size, r, .slice none 0 0, [], false⟩) := ⟨heap_alloc_new _ _, ⟨rfl, .inl ⟨rfl, rfl⟩⟩, Nat.zero_le _, (fun q h => by cases h)⟩
  go_enter Tryz.func23, Tryz.ntmps23
  go_wp2
  go_ret
  exact ⟨⟨w.heap.size, r, .slice none 0 0, [], false⟩, rfl, HR.out, rfl, rfl, rfl, rfl, Nat.le_refl _, HB.out⟩
/-- who has which blocks, but for the transactions -/
def cpB (D : Dk) (R : RDk) (K : Kb) (P : Nat) : Nat → Nat → Prop
  | 0, k => D.all k
  | 1, k => R.all k
  | 4, k => K.all k
  | 5, k => k = P
  | _, _ => False
/-- all but the transactions -/
structure XB (w0 w : World) (P : Nat) (D : Dk) (R : RDk) (K : Kb) (j : Nat) (c2 c3 : Value) : Prop where
  ws : WS w0 w D R (200 * j)
  rs : Rs D.abs
  bk : KbI w K
  bn : K.bn ≤ 2 * j
  im : K.im ≤ 2 * j
  px : w.heap[P]? = some (.cells #[.pointer (some ⟨D.d, 0, none⟩), .pointer (some ⟨R.r, 0, none⟩), c2, c3, .int .i64 (K.n : Int), .int .i64 98, .int .i64 (gI K.n), .int .i64 (gD K.n), .int .i64 (gC K.n)] 42 (0, 0))
  sep : Sep (cpB D R K P)
  far : ∀ i k, cpB D R K P i k → w0.heap.size ≤ k
theorem cpB_cps {D : Dk} {R : RDk} {K : Kb} {P i k : Nat} (T : Tx) (U : RTx) (h : cpB D R K P i k) : cps D R T U K P i k := by
  match i, h with
  | 0, h => exact h
  | 1, h => exact h
  | 4, h => exact h
  | 5, h => exact h
  | 2, h => exact h.elim
  | 3, h => exact h.elim
  | _ + 6, h => exact h.elim
theorem XS.base (h : XS w0 w P D R T U K j) : XB w0 w P D R K j (.pointer (some ⟨T.t, 0, none⟩)) (.pointer (some ⟨U.u, 0, none⟩)) := by
  obtain ⟨lab, hl⟩ := h.sep
  exact ⟨h.ws, h.rs, h.bk, h.bn, h.im, h.px, ⟨lab, fun i k e => hl i k (cpB_cps T U e)⟩, fun i k e => h.far i k (cpB_cps T U e)⟩
variable {c2 c3 : Value}
theorem XB.lt (h : XB w0 w P D R K j c2 c3) : ∀ i k, cpB D R K P i k → k < w.heap.size
  | 0, k, e => h.ws.lt (.inl e)
  | 1, k, e => h.ws.lt (.inr e)
  | 4, k, e => h.bk.lt e
  | 5, k, e => by have e : k = P := e; rw [e]; exact heap_lt h.px
  | 2, k, e => e.elim
  | 3, k, e => e.elim
  | _ + 6, k, e => e.elim
theorem XB.on (h : XB w0 w P D R K j c2 c3) (hb : Below w.heap.size w w') : XB w0 w' P D R K j c2 c3 :=
  ⟨h.ws.on hb, h.rs, h.bk.on hb, h.bn, h.im, (hb.block _ (heap_lt h.px)).trans h.px, h.sep, h.far⟩
theorem XB.set (h : XB w0 w P D R K j c2 c3) (f : Fr (fun k => k = P) w w') {c2' c3' : Value} (hp : w'.heap[P]? = some (.cells #[.pointer (some ⟨D.d, 0, none⟩), .pointer (some ⟨R.r, 0, none⟩), c2', c3', .int .i64 (K.n : Int), .int .i64 98, .int .i64 (gI K.n), .int .i64 (gD K.n), .int .i64 (gC K.n)] 42 (0, 0))) : XB w0 w' P D R K j c2' c3' :=
  ⟨h.ws.fr f (fun k e e2 => by subst e2; exact e.elim (fun e => h.sep.ne (i := 0) (j := 5) (by omega) e rfl) (fun e => h.sep.ne (i := 1) (j := 5) (by omega) e rfl)) (fun k e => h.far 5 k e), h.rs, h.bk.fr f (fun k e e2 => h.sep.ne (i := 4) (j := 5) (by omega) e e2), h.bn, h.im, hp, h.sep, h.far⟩
theorem XB.cell (h : XB w0 w P D R K j c2 c3) (i : Nat) : w.cell? ⟨P, i, none⟩ = (#[.pointer (some ⟨D.d, 0, none⟩), .pointer (some ⟨R.r, 0, none⟩), c2, c3, .int .i64 (K.n : Int), .int .i64 98, .int .i64 (gI K.n), .int .i64 (gD K.n), .int .i64 (gC K.n)] : Array Value)[i]? := cell_of_row _ _ i _ _ _ h.px
/-- with new transactions -/
theorem XB.with_ (h : XB w0 w P D R K j (.pointer (some ⟨T.t, 0, none⟩)) (.pointer (some ⟨U.u, 0, none⟩))) (hT : TxAt w T) (hd : T.d = D.d) (hn : T.nb = D.nb) (hc : T.c = fun _ => none) (hu : T.us = []) (hU : RTxAt w U) (hur : U.r = R.r) (hro : U.row = []) (hen : U.ends = false)
    (n1 n2 : Nat) (h12 : n1 ≤ n2) (hold : ∀ i k, cpB D R K P i k → k < n1) (hw0 : w0.heap.size ≤ n1) (hTn : ∀ k, T.all k → n1 ≤ k ∧ k < n2) (hUn : ∀ k, U.all k → n2 ≤ k) : XS w0 w P D R T U K j := by
  have hb : ∀ i k, cps D R T U K P i k → cpB D R K P i k ∨ (i = 2 ∧ T.all k) ∨ (i = 3 ∧ U.all k) := fun i k e => by
    match i, e with
    | 0, e => exact .inl e
    | 1, e => exact .inl e
    | 2, e => exact .inr (.inl ⟨rfl, e⟩)
    | 3, e => exact .inr (.inr ⟨rfl, e⟩)
    | 4, e => exact .inl e
    | 5, e => exact .inl e
    | _ + 6, e => exact e.elim
  refine ⟨h.ws, h.rs, ⟨fun _ => ⟨hT, hd.symm, hn.symm, TU.new hc hu hro⟩, (fun e => by rw [hen] at e; cases e), fun k hk => hT.lt hk⟩, hU, hur, by rw [hro]; exact Nat.zero_le _, h.bk, h.bn, h.im, h.px, h.sep.step (fun k => n1 ≤ k) (fun i k e => ?_) (fun i i' k hk e e' => ?_), fun i k e => ?_⟩
  · rcases hb i k e with e | ⟨_, e⟩ | ⟨_, e⟩
    · exact .inl e
    · exact .inr (hTn k e).1
    · exact .inr (Nat.le_trans h12 (hUn k e))
  · rcases hb i k e with e | ⟨e1, e⟩ | ⟨e1, e⟩
    · have := hold i k e; omega
    · rcases hb i' k e' with e' | ⟨e2, e'⟩ | ⟨e2, e'⟩
      · have := hold i' k e'; omega
      · rw [e1, e2]
      · have := hTn k e; have := hUn k e'; omega
    · rcases hb i' k e' with e' | ⟨e2, e'⟩ | ⟨e2, e'⟩
      · have := hold i' k e'; omega
      · have := hTn k e'; have := hUn k e; omega
      · rw [e1, e2]
  · rcases hb i k e with e | ⟨_, e⟩ | ⟨_, e⟩
    · exact h.far i k e
    · exact Nat.le_trans hw0 (hTn k e).1
    · exact Nat.le_trans hw0 (Nat.le_trans h12 (hUn k e))
end Go.Proofs.YtflienghgobmoaaGreatDoor

namespace Go.Proofs.YtflienghgobmoaaGreatDoor
open Go.RowKit Rec
variable {w0 w w1 wx w2 w' : World} {P j j' : Nat} {D D' : Dk} {R R' : RDk} {T T' : Tx} {U U' : RTx} {K K' : Kb} {row' : List Dn} {c2 c3 : Value}
set_option maxRecDepth 100000 in
set_option maxHeartbeats 8000000 in
theorem begins_any (h : XB w0 w P D R K j c2 c3) (_n2 : c2.oneCell' = true) (_n3 : c3.oneCell' = true) : Calls Tryz.prog 10 #[.pointer (some ⟨P, 0, none⟩)] w fun e w' => e = .returned (.bool true) ∧ ∃ T U, XS w0 w' P D R T U K j := by
  have hnb : D.nb = R.nb := h.ws.t.tie.nb
  have hnb2 := h.ws.t.r.nb0
  have HX : Hid (XB w0 w P D R K j c2 c3) := h
  have HN : Hid (D.nb ≤ 16384) := by show D.nb ≤ 16384; omega
  have d0 : w.cell? ⟨P, 0, none⟩ = some (.pointer (some ⟨D.d, 0, none⟩)) := h.cell 0
  clear h hnb hnb2
  go_enter Tryz.func10, Tryz.ntmps10
  go_upto_region 2 with (go_at_call 22; refine (begin_any w D.d D.nb HN.out).mono ?_; rintro e w1 ⟨T, rfl, h1, h2, h3, h4, h5⟩
                         have H1 : Hid (TMine w w1 T ∧ T.d = D.d ∧ T.nb = D.nb ∧ T.c = (fun _ => none) ∧ T.us = []) := ⟨h1, h2, h3, h4, h5⟩
                         have hx := HX.out.on h1.bel
                         have e2 : w1.cell? ⟨P, 2, none⟩ = some c2 := hx.cell 2
                         have f2 : w1.frozen? ⟨P, 2, none⟩ = false := frozen_of_row _ _ 2 _ _ hx.px
                         clear h1 h2 h3 h4 h5 hx d0)
  obtain ⟨w2, hw2⟩ : ∃ w2, w1.setCell ⟨P, 2, none⟩ (.pointer (some ⟨T.t, 0, none⟩)) = w2 := ⟨_, rfl⟩
  have H2 : Hid (XB w0 w2 P D R K j (.pointer (some ⟨T.t, 0, none⟩)) c3 ∧ Fr (fun k => k = P) w1 w2) := by
    have hx := HX.out.on H1.out.1.bel
    have hs := heap_setCell_same w1 P 2 _ _ (.pointer (some ⟨T.t, 0, none⟩)) hx.px
    have f : Fr (fun k => k = P) w1 (w1.setCell ⟨P, 2, none⟩ (.pointer (some ⟨T.t, 0, none⟩))) := Fr.set
    rw [hw2] at hs f
    exact ⟨hx.set f hs, f⟩
  rw [hw2]
  have d1 : w2.cell? ⟨P, 1, none⟩ = some (.pointer (some ⟨R.r, 0, none⟩)) := H2.out.1.cell 1
  clear hw2 e2 f2
  go_upto_region 3 with (go_at_call 23; refine (rbegin6_any w2 R.r).mono ?_; rintro e w3 ⟨U, rfl, h1, h2, h3, h4, h5, h6, h7⟩
                         have H3 : Hid (RTxAt w3 U ∧ U.r = R.r ∧ U.row = [] ∧ U.ends = false ∧ U.rv = .slice none 0 0 ∧ w2.heap.size ≤ U.u ∧ Below w2.heap.size w2 w3) := ⟨h1, h2, h3, h4, h5, h6, h7⟩
                         have hx := H2.out.1.on h7
                         have e3 : w3.cell? ⟨P, 3, none⟩ = some c3 := hx.cell 3
                         have f3 : w3.frozen? ⟨P, 3, none⟩ = false := frozen_of_row _ _ 3 _ _ hx.px
                         clear h1 h2 h3 h4 h5 h6 h7 hx d1)
  obtain ⟨w4, hw4⟩ : ∃ w4, w3.setCell ⟨P, 3, none⟩ (.pointer (some ⟨U.u, 0, none⟩)) = w4 := ⟨_, rfl⟩
  have H4 : Hid (XB w0 w4 P D R K j (.pointer (some ⟨T.t, 0, none⟩)) (.pointer (some ⟨U.u, 0, none⟩)) ∧ Fr (fun k => k = P) w3 w4) := by
    have hx := H2.out.1.on H3.out.2.2.2.2.2.2
    have hs := heap_setCell_same w3 P 3 _ _ (.pointer (some ⟨U.u, 0, none⟩)) hx.px
    have f : Fr (fun k => k = P) w3 (w3.setCell ⟨P, 3, none⟩ (.pointer (some ⟨U.u, 0, none⟩))) := Fr.set
    rw [hw4] at hs f
    exact ⟨hx.set f hs, f⟩
  rw [hw4]
  have d2 : w4.cell? ⟨P, 2, none⟩ = some (.pointer (some ⟨T.t, 0, none⟩)) := H4.out.1.cell 2
  clear hw4 e3 f3
  go_wp2
  go_ret
  obtain ⟨hm, hd, hn, hc, hu⟩ := H1.out
  obtain ⟨gU, gr, gro, gen, grv, gu, gb⟩ := H3.out
  have hP : P < w.heap.size := HX.out.lt 5 P rfl
  have s1 := hm.bel.size
  have s2 := H2.out.2.size
  have s3 := gb.size
  refine ⟨rfl, T, U, H4.out.1.with_ (n1 := w.heap.size) (n2 := w2.heap.size) ?_ hd hn hc hu ?_ gr gro gen (by omega) (fun i k e => HX.out.lt i k e) HX.out.ws.be.size (fun k e => ⟨hm.far k e, Nat.lt_of_lt_of_le (hm.at_.lt e) s2⟩) (fun k e => ?_)⟩
  · refine ((hm.at_.fr H2.out.2 (fun k e e2 => ?_)).on gb).fr H4.out.2 (fun k e e2 => ?_)
    · have := hm.far k e; omega
    · have := hm.far k e; omega
  · refine gU.fr H4.out.2 (fun k e e2 => ?_)
    rcases e with e | e
    · omega
    · rw [grv] at e; cases e
  · rcases e with e | e
    · omega
    · rw [grv] at e; cases e
end Go.Proofs.YtflienghgobmoaaGreatDoor

namespace Go.Proofs.YtflienghgobmoaaGreatDoor
open Go.RowKit Rec
variable {w0 w w1 wx w2 w' : World} {P j j' : Nat} {D D' : Dk} {R R' : RDk} {T T' : Tx} {U U' : RTx} {K K' : Kb} {row' : List Dn} {c2 c3 : Value}
end Go.Proofs.YtflienghgobmoaaGreatDoor

namespace Go.Proofs.YtflienghgobmoaaGreatDoor
open Go.RowKit Rec
variable {w0 w w1 wx w2 w' : World} {P j j' : Nat} {D D' : Dk} {R R' : RDk} {T T' : Tx} {U U' : RTx} {K K' : Kb} {row' : List Dn} {c2 c3 : Value}
/-- the program's commit, the document's not yet -/
structure HalfC (w w1 : World) (D : Dk) (T : Tx) (U : RTx) (D' : Dk) : Prop where
  d : Disk w1 D'
  fr : Fr (fun k => D.all k ∨ k = T.t) w w1
  al : ∀ k, D'.all k → D.all k ∨ w.heap.size ≤ k
  dd : D'.d = D.d
  nb : D'.nb = D.nb
  abs : D'.abs = rcA6 D.abs U
  o : OverAt w1 T.t
theorem comok6 (h : XS w0 w P D R T U K j) (hen : U.ends = false) : wl U.row D.nb = [] ∨ ComOk D.nb (wl U.row D.nb) (vls U.row D.nb) := by
  obtain ⟨hx, hd, hn, hu⟩ := h.tp.live hen
  obtain ⟨e1, e2⟩ := hu.lists hx.ok
  rw [hn, ← e1, ← e2]
  by_cases hne : lst T.c T.nb = []
  · exact .inl (by rw [hne]; rfl)
  · have h98 : 98 ≤ T.nb := by
      cases e : lst T.c T.nb with
      | nil => exact absurd e hne
      | cons q l =>
        obtain ⟨i, hi, hq⟩ := lst_mem (c := T.c) (n := T.nb) (q := q) (by rw [e]; exact List.mem_cons_self)
        have := hx.ok.lo i q hq
        omega
    exact .inr (lst_ok hx.ok (fun i q hq => (hx.blk i q hq).len) h98 hx.n16 hne hx.cnt)
theorem half_commit (h : XS w0 w P D R T U K j) (hT : TabAt w0) (hj : 200 * j + 200 ≤ 1000000000) : Calls Tryz.prog 40 #[.pointer (some ⟨T.t, 0, none⟩)] w fun e w1 => e = .returned (.int .i64 (rcE6 D.abs U)) ∧ ∃ D', HalfC w w1 D T U D' := by
  have hTw : TabAt w := hT.on h.ws.be
  cases hen : U.ends with
  | true =>
    have e1 : rcE6 D.abs U = 61 := by unfold rcE6; rw [if_pos hen]
    have e2 : rcA6 D.abs U = D.abs := by unfold rcA6; rw [if_pos hen]
    rw [e1]
    refine (commit_over w T.t (h.tp.over hen)).mono ?_
    rintro e w1 ⟨rfl, rfl⟩
    exact ⟨rfl, D, h.ws.d, Fr.refl _ _, fun _ e => .inl e, rfl, rfl, e2.symm, h.tp.over hen⟩
  | false =>
    obtain ⟨hx, hd, hn, hu⟩ := h.tp.live hen
    obtain ⟨l1, l2⟩ := hu.lists hx.ok
    have hDt : ∀ k, D.all k → ¬ T.all k := fun k e e' => h.sep.ne (i := 0) (j := 2) (by omega) e e'
    have htt : T.all T.t := .inl (.inl rfl)
    have hnbw : D.abs.nb = T.nb := hn
    have hrow : ∀ {wa wb : World} {E : Dk}, Below w.heap.size w wa → Mv wa D wb E → wb.heap[T.t]? = some (.cells T.cells 116 (0, 0)) := fun hb hm => ((hx.on hb).fr hm.fr (fun k e e2 => hDt k (Dk.hasAll e2) e)).row
    by_cases hne : lst T.c T.nb = []
    · have hw : wl U.row T.nb = [] := by rw [← l1, hne]; rfl
      have e1 : rcE6 D.abs U = 0 := by unfold rcE6; rw [if_neg (by rw [hen]; simp), hnbw, if_pos hw]
      have e2 : rcA6 D.abs U = D.abs := by unfold rcA6; rw [if_neg (by rw [hen]; simp), hnbw, if_pos hw]
      rw [e1]
      refine (tcommit_any w T hx (fun r w2 => r = 0 ∧ Below w.heap.size w w2) 0 (by rw [hne]; rfl) (fun wx va vc hb _ => ?_)).mono ?_
      · refine (commit_nil wx _ va vc).mono ?_
        rintro e w' ⟨rfl, rfl⟩
        exact ⟨0, rfl, ⟨rfl, hb⟩, (hx.on hb).row⟩
      · rintro e w' ⟨r, w2, rfl, ⟨rfl, hb⟩, ho, hF⟩
        refine ⟨rfl, D, (h.ws.d.on hb).fr hF (fun k hk e => ?_), ((below_fr hb (fun k => k = T.t)).trans hF (fun k e => .inl e)).mono (fun k e => .inr e), fun _ e => .inl e, rfl, rfl, e2.symm, ho⟩
        subst e; exact hDt _ hk htt
    · have hp : 0 < (lst T.c T.nb).length := by
        cases e : lst T.c T.nb with
        | nil => exact absurd e hne
        | cons a l => simp
      have hwne : wl U.row T.nb ≠ [] := fun e => by
        have := hu.wlen hx.ok
        rw [e] at this
        simp at this; omega
      have e1 : rcE6 D.abs U = D.abs.takeE (commitA (nsB (lst T.c T.nb)) (dsB (lst T.c T.nb))) := by unfold rcE6; rw [if_neg (by rw [hen]; simp), hnbw, if_neg hwne, l1, l2]
      have e2 : rcA6 D.abs U = D.abs.take (commitA (nsB (lst T.c T.nb)) (dsB (lst T.c T.nb))) := by unfold rcA6; rw [if_neg (by rw [hen]; simp), hnbw, if_neg hwne, l1, l2]
      rw [e1]
      have ok : ComOk D.nb (nsB (lst T.c T.nb)) (dsB (lst T.c T.nb)) := by
        have := (comok6 h hen).resolve_left (by rw [hn]; exact hwne)
        rw [hn, ← l1, ← l2] at this
        rw [hn]; exact this
      have h96 := hx.cnt
      refine (tcommit_any w T hx (fun r w2 => r = D.abs.takeE (commitA (nsB (lst T.c T.nb)) (dsB (lst T.c T.nb))) ∧ ∃ w1 E, Below w.heap.size w w1 ∧ DoneAt w1 D w2 E (commitA (nsB (lst T.c T.nb)) (dsB (lst T.c T.nb)))) _ rfl (fun wx va vc hb hB => ?_)).mono ?_
      · obtain ⟨g, rfl, hB2⟩ := hB.resolve_left hne
        have := commit_ok wx D (h.ws.d.on hb) (hTw.on hb) g _ vc _ hB2 rfl hp ok (fun q hq hh => by
          obtain ⟨i, hi, e⟩ := lst_mem hq
          exact hDt q.g (Dk.hasAll hh) (.inr (.inl ⟨i, q, e, rfl⟩))) (h.ws.roomN hj _ (by omega))
        rw [hd] at this
        refine this.mono ?_
        rintro e w' ⟨rfl, E, hE⟩
        exact ⟨_, rfl, ⟨rfl, wx, E, hb, hE⟩, hrow hb hE.mv⟩
      · rintro e w' ⟨r, w2, rfl, ⟨rfl, w1, E, hb, hE⟩, ho, hF⟩
        have hs1 := hb.size
        have hEal : ∀ k, E.all k → D.all k ∨ w.heap.size ≤ k := fun k e => (hE.al k e).imp id (fun e => by omega)
        refine ⟨rfl, E, hE.disk.fr hF (fun k hk e => ?_), ?_, hEal, hE.mv.d, hE.mv.nb, by rw [e2]; exact hE.abs, ho⟩
        · subst e
          rcases hEal _ hk with e | e
          · exact hDt _ e htt
          · have := hx.lt htt; omega
        · refine ((below_fr hb (fun k => D.all k ∨ k = T.t)).trans (hE.mv.fr.mono (fun k e => Dk.hasAll e)) (fun k e => .inl (.inl e))).trans (hF.mono (T := fun k => k = T.t) (fun k e => e)) (fun k e => .inl (.inr e))
end Go.Proofs.YtflienghgobmoaaGreatDoor

namespace Go.Proofs.YtflienghgobmoaaGreatDoor
open Go.RowKit Rec
variable {w0 w w1 wx w2 w' : World} {P j j' : Nat} {D D' : Dk} {R R' : RDk} {T T' : Tx} {U U' : RTx} {K K' : Kb} {row' : List Dn} {c2 c3 : Value}
theorem rcA6_keep (a : AD) (U : RTx) : (rcA6 a U).keep = a.keep := by
  unfold rcA6
  split
  · rfl
  · split
    · rfl
    · exact keep_take _ _
set_option maxRecDepth 100000 in
set_option maxHeartbeats 8000000 in
theorem rxcommit_end (w : World) (a : AD) (R : RDk) (j : Nat) (h : RT w a R j) (U : RTx) (hU : RTxAt w U) (hen : U.ends = true) :
    Calls Tryz.prog 41 #[.pointer (some ⟨U.u, 0, none⟩)] w fun e w' => e = .returned (.int .i64 (rcE6 a U)) ∧ ∃ R', RcX w R U w' (rcA6 a U) R' (j + 198) := by
  have c2 : w.cell? ⟨U.u, 2, none⟩ = some (.bool U.ends) := hU.cell 2
  have hu : ({ U with ends := true } : RTx) = U := by cases U; simp at hen; subst hen; rfl
  have HP : Hid (RcX w R U w a R (j + 198)) := ⟨h.up (by omega), by rw [hu]; exact hU, Fr.refl _ _, fun _ e => .inl e, rfl⟩
  rw [hen] at c2
  unfold rcE6 rcA6
  rw [if_pos hen, if_pos hen]
  clear h hU
  go_enter Tryz.func41, Tryz.ntmps41
  go_wp2
  go_ret
  exact ⟨rfl, R, HP.out⟩
theorem rxcommit_all (w : World) (a : AD) (R : RDk) (j : Nat) (h : RT w a R j) (U : RTx) (hU : RTxAt w U) (hr : U.r = R.r) (hap : ∀ k, U.all k → ¬ R.all k) (ok : wl U.row a.nb = [] ∨ U.ends = true ∨ ComOk R.nb (wl U.row a.nb) (vls U.row a.nb)) (hj : j + 198 ≤ 1000000000) :
    Calls Tryz.prog 41 #[.pointer (some ⟨U.u, 0, none⟩)] w fun e w' => e = .returned (.int .i64 (rcE6 a U)) ∧ ∃ R', RcX w R U w' (rcA6 a U) R' (j + 198) := by
  rcases ok with ok | ok | ok
  · exact rxcommit_any w a R j h U hU hr hap (.inl ok) hj
  · exact rxcommit_end w a R j h U hU ok
  · exact rxcommit_any w a R j h U hU hr hap (.inr ok) hj
theorem XS.midc (h : XS w0 w P D R T U K j) (hC : HalfC w w1 D T U D') (hx : Below w1.heap.size w1 wx) : RTxAt wx U ∧ RT wx D.abs R (200 * j) ∧ wx.heap[P]? = some (.cells (sdC D R T U K) 42 (0, 0)) := by
  have htt : T.all T.t := .inl (.inl rfl)
  have hS : ∀ i k, i ≠ 0 → i ≠ 2 → cps D R T U K P i k → ¬ (D.all k ∨ k = T.t) := fun i k h0 h2 e e2 => by
    rcases e2 with e2 | e2
    · exact h.sep.ne (i := i) (j := 0) h0 e e2
    · exact h.sep.ne (i := i) (j := 2) h2 e (e2 ▸ htt)
  refine ⟨(h.ux.fr hC.fr (fun k e => hS 3 k (by omega) (by omega) e)).on hx, (h.ws.t.fr hC.fr (fun k e => hS 1 k (by omega) (by omega) e)).on hx, ?_⟩
  have h1 := hC.fr.heap h.px (hS 5 P (by omega) (by omega) rfl)
  exact (hx.block _ (heap_lt h1)).trans h1
theorem XS.com (h : XS w0 w P D R T U K j) (hC : HalfC w w1 D T U D') (hx : Below w1.heap.size w1 wx) (hR : RcX wx R U w2 (rcA6 D.abs U) R' (200 * j + 198)) : XS w0 w2 P D' R' T { U with ends := true } K (j + 1) := by
  have htt : T.all T.t := .inl (.inl rfl)
  have huu : U.all U.u := .inl rfl
  have s1 := hC.fr.size
  have s2 := hx.size
  have s3 := hR.fr.size
  have l1 : ∀ k, R.all k → k < w.heap.size := fun k e => h.lt 1 k e
  have l3 : U.u < w.heap.size := h.lt 3 _ huu
  have l2 : ∀ k, T.all k → k < w.heap.size := fun k e => h.lt 2 k e
  have hD'lt : ∀ k, D'.all k → k < w1.heap.size := fun k e => hC.d.ltAll e
  have hDne : ∀ k, D'.all k → ¬ (R.all k ∨ k = U.u) := fun k e e2 => by
    rcases hC.al k e with e | e
    · rcases e2 with e2 | e2
      · exact h.sep.ne (i := 0) (j := 1) (by omega) e e2
      · exact h.sep.ne (i := 0) (j := 3) (by omega) e (e2 ▸ huu)
    · rcases e2 with e2 | e2
      · have := l1 k e2; omega
      · omega
  have hap : ∀ k, D'.all k → ¬ R'.all k := fun k e e2 => by
    rcases hR.al k e2 with e2 | e2
    · exact hDne k e (.inl e2)
    · have := hD'lt k e; omega
  have hF : Fr (fun k => ∃ i, i ≤ 3 ∧ cps D R T U K P i k) w w2 := by
    refine ((hC.fr.mono (T := fun k => ∃ i, i ≤ 3 ∧ cps D R T U K P i k) (fun k e => ?_)).trans (below_fr hx (fun _ => False)) (fun k e => e.elim)).trans hR.fr (fun k e => .inl ?_)
    · rcases e with e | e
      · exact ⟨0, by omega, e⟩
      · exact ⟨2, by omega, e ▸ htt⟩
    · rcases e with e | e
      · exact ⟨1, by omega, e⟩
      · exact ⟨3, by omega, e ▸ huu⟩
  have hnb : D'.abs.nb = D.abs.nb := hC.nb
  have hkd : D'.keep = D.keep := by
    have e : D'.abs.keep = D.abs.keep := by rw [hC.abs, rcA6_keep]
    exact e
  refine h.gen hF ⟨(hC.d.on hx).fr hR.fr hDne, by rw [hC.abs]; exact hR.t.up (by omega), hap, fun k e => ?_, h.ws.be.trans ((hF.below w0.heap.size (fun k ⟨i, _, e⟩ => h.far i k e) h.ws.be.size)), by rw [hkd]; exact h.ws.kd⟩ ?_ ⟨fun e => (by cases e), fun _ => ?_, fun k hk => by have := l2 k hk; omega⟩ hR.u (by rw [hR.r]; exact h.ur) (Nat.le_trans h.ul (by omega)) (by omega) hC.dd hR.r rfl rfl (fun i k hi e => ?_) (fun i i' k hi hi' hk e e' => ?_)
  · rcases e with e | e
    · rcases hC.al k e with e | e
      · exact h.far 0 k e
      · exact Nat.le_trans h.ws.be.size e
    · rcases hR.al k e with e | e
      · exact h.far 1 k e
      · have := h.ws.be.size; omega
  · rw [hC.abs]
    unfold rcA6
    cases hen : U.ends with
    | true => exact h.rs
    | false =>
      rcases comok6 h hen with e | e
      · have e : wl U.row D.abs.nb = [] := e
        rw [if_neg (by decide), if_pos e]; exact h.rs
      · rw [if_neg (by decide)]
        split
        · exact h.rs
        · exact h.rs.commit e
  · refine hR.fr.heap ((hx.block _ (heap_lt hC.o)).trans hC.o) (fun e => ?_)
    rcases e with e | e
    · exact h.sep.ne (i := 1) (j := 2) (by omega) e htt
    · exact h.sep.ne (i := 3) (j := 2) (by omega) (e ▸ huu) htt
  · match i, hi, e with
    | 0, _, e => exact hC.al k e
    | 1, _, e => exact (hR.al k e).imp id (fun e => by omega)
    | 2, _, e => exact .inl e
    | 3, _, e => exact .inl e
  · have n2 : ¬ T.all k := fun e => by have := l2 k e; omega
    have n3 : ¬ U.all k := fun e => by have := h.lt 3 k e; omega
    match i, i', hi, hi', e, e' with
    | 0, 0, _, _, _, _ => rfl
    | 1, 1, _, _, _, _ => rfl
    | 0, 1, _, _, e, e' => exact absurd e' (hap k e)
    | 1, 0, _, _, e, e' => exact absurd e (hap k e')
    | 2, _, _, _, e, _ => exact absurd e n2
    | 3, _, _, _, e, _ => exact absurd e n3
    | _, 2, _, _, _, e' => exact absurd e' n2
    | _, 3, _, _, _, e' => exact absurd e' n3
    | _ + 4, _, hi, _, _, _ => exact absurd hi (by omega)
    | _, _ + 4, _, hi', _, _ => exact absurd hi' (by omega)
end Go.Proofs.YtflienghgobmoaaGreatDoor

namespace Go.Proofs.YtflienghgobmoaaGreatDoor
open Go.RowKit Rec
variable {w0 w w1 wx w2 w' : World} {P j j' : Nat} {D D' : Dk} {R R' : RDk} {T T' : Tx} {U U' : RTx} {K K' : Kb} {row' : List Dn} {c2 c3 : Value}
/-- the program's disk has gone on, the document's not yet -/
structure HalfA (w w1 : World) (D D' : Dk) (a' : AD) : Prop where
  d : Disk w1 D'
  mv : Mv w D w1 D'
  al : Al w.heap.size D D'
  abs : D'.abs = a'
theorem XS.mida {a' : AD} (h : XS w0 w P D R T U K j) (hA : HalfA w w1 D D' a') (hx : Below w1.heap.size w1 wx) : RT wx D.abs R (200 * j) ∧ wx.heap[P]? = some (.cells (sdC D R T U K) 42 (0, 0)) := by
  have hS : ∀ i k, i ≠ 0 → cps D R T U K P i k → ¬ D.has k := fun i k h0 e e2 => h.sep.ne (i := i) (j := 0) h0 e (Dk.hasAll e2)
  refine ⟨(h.ws.t.fr hA.mv.fr (fun k e => hS 1 k (by omega) e)).on hx, ?_⟩
  have h1 := hA.mv.fr.heap h.px (hS 5 P (by omega) rfl)
  exact (hx.block _ (heap_lt h1)).trans h1
theorem XS.arm {a' : AD} (h : XS w0 w P D R T U K j) (hA : HalfA w w1 D D' a') (hx : Below w1.heap.size w1 wx) (hM : RM wx R w2 a' R' (200 * j)) (hkd : a'.keep.length ≤ 1000000000000000) (hrs : Rs a') : XS w0 w2 P D' R' T U K (j + 1) := by
  have s1 := hA.mv.fr.size
  have s2 := hx.size
  have s3 := hM.fr.size
  have l1 : ∀ k, R.all k → k < w.heap.size := fun k e => h.lt 1 k e
  have l2 : ∀ k, T.all k → k < w.heap.size := fun k e => h.lt 2 k e
  have hD'lt : ∀ k, D'.all k → k < w1.heap.size := fun k e => hA.d.ltAll e
  have hDne : ∀ k, D'.all k → ¬ R.all k := fun k e e2 => by
    rcases hA.al k e with e | e
    · exact h.sep.ne (i := 0) (j := 1) (by omega) e e2
    · have := l1 k e2; omega
  have hap : ∀ k, D'.all k → ¬ R'.all k := fun k e e2 => by
    rcases hM.al k e2 with e2 | e2
    · exact hDne k e e2
    · have := hD'lt k e; omega
  have hF : Fr (fun k => ∃ i, i ≤ 3 ∧ cps D R T U K P i k) w w2 :=
    ((hA.mv.fr.mono (T := fun k => ∃ i, i ≤ 3 ∧ cps D R T U K P i k) (fun k e => ⟨0, by omega, Dk.hasAll e⟩)).trans (below_fr hx (fun _ => False)) (fun k e => e.elim)).trans hM.fr (fun k e => .inl ⟨1, by omega, e⟩)
  have hF2 : Fr (fun k => D.all k ∨ R.all k) w w2 :=
    ((hA.mv.fr.mono (T := fun k => D.all k ∨ R.all k) (fun k e => .inl (Dk.hasAll e))).trans (below_fr hx (fun _ => False)) (fun k e => e.elim)).trans hM.fr (fun k e => .inl (.inr e))
  have hne : ∀ i k, i ≠ 0 → i ≠ 1 → cps D R T U K P i k → ¬ (D.all k ∨ R.all k) := fun i k h0 h1 e e2 => e2.elim (fun e2 => h.sep.ne (i := i) (j := 0) h0 e e2) (fun e2 => h.sep.ne (i := i) (j := 1) h1 e e2)
  have hke : D'.keep = a'.keep := by have := congrArg AD.keep hA.abs; exact this
  refine h.gen hF ⟨(hA.d.on hx).fr hM.fr hDne, by rw [hA.abs]; exact hM.t.up (by omega), hap, fun k e => ?_, h.ws.be.trans (hF.below w0.heap.size (fun k ⟨i, _, e⟩ => h.far i k e) h.ws.be.size), by rw [hke]; exact hkd⟩ (by rw [hA.abs]; exact hrs) (h.tp.fr hF2 (fun k e => hne 2 k (by omega) (by omega) e) hA.mv.d hA.mv.nb) (h.ux.fr hF2 (fun k e => hne 3 k (by omega) (by omega) e)) (by rw [hM.r]; exact h.ur) (Nat.le_trans h.ul (by omega)) (by omega) hA.mv.d hM.r rfl rfl (fun i k hi e => ?_) (fun i i' k hi hi' hk e e' => ?_)
  · rcases e with e | e
    · rcases hA.al k e with e | e
      · exact h.far 0 k e
      · exact Nat.le_trans h.ws.be.size e
    · rcases hM.al k e with e | e
      · exact h.far 1 k e
      · have := h.ws.be.size; omega
  · match i, hi, e with
    | 0, _, e => exact hA.al k e
    | 1, _, e => exact (hM.al k e).imp id (fun e => by omega)
    | 2, _, e => exact .inl e
    | 3, _, e => exact .inl e
  · have n2 : ¬ T.all k := fun e => by have := l2 k e; omega
    have n3 : ¬ U.all k := fun e => by have := h.lt 3 k e; omega
    match i, i', hi, hi', e, e' with
    | 0, 0, _, _, _, _ => rfl
    | 1, 1, _, _, _, _ => rfl
    | 0, 1, _, _, e, e' => exact absurd e' (hap k e)
    | 1, 0, _, _, e, e' => exact absurd e (hap k e')
    | 2, _, _, _, e, _ => exact absurd e n2
    | 3, _, _, _, e, _ => exact absurd e n3
    | _, 2, _, _, _, e' => exact absurd e' n2
    | _, 3, _, _, _, e' => exact absurd e' n3
    | _ + 4, _, hi, _, _, _ => exact absurd hi (by omega)
    | _, _ + 4, _, hi', _, _ => exact absurd hi' (by omega)
theorem Rs.arm {a : AD} (h : Rs a) (t : Int) (L : List Bool) : Rs (armA a t L) := by
  unfold armA
  split
  · exact h
  · exact ⟨h.len, h.pen, h.up, h.dn⟩
end Go.Proofs.YtflienghgobmoaaGreatDoor
