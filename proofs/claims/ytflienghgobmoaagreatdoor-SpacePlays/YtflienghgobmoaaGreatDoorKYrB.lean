import Derived.Test.YtflienghgobmoaaGreatDoorKYqA
import Derived.Test.YtflienghgobmoaaGreatDoorKYpA
import Derived.Test.YtflienghgobmoaaGreatDoorYqF
import Derived.Deep.RegionHeld3
namespace Go.Proofs.YtflienghgobmoaaGreatDoor
open Go.RowKit Rec
variable {w0 w w1 wx w2 w' : World} {P j j' : Nat} {D D' : Dk} {R R' : RDk} {T T' : Tx} {U U' : RTx} {K K' : Kb}
theorem fd_cong {lo n : Nat} {B B' : Nat → List Int} {M : Nat} (h : ∀ k, k < M → B k = B' k) (j : Nat) (hj : j < 4096 * M) : fd lo n B j = fd lo n B' j := by
  unfold fd isT
  rw [h (j / 4096) (by omega)]
/-- what Take tells is one thing -/
theorem TkO.one {n : Nat} {E : Nat → Int} {B : Nat → List Int} {rv rv2 : Nat} {er er2 : Int} {l l2 : List Dn} (h : TkO U n E B rv er l) (h2 : TkO U n E B rv2 er2 l2) : rv = rv2 ∧ er = er2 ∧ l = l2 := by
  have key : ∀ i k, IsLo (fd (nD n) n (fun k => B (98 + k))) i → (∀ k, 4096 * k ≤ i → E (98 + k) = 0) → E (98 + k) ≠ 0 → (∀ j, j < 4096 * k → fd (nD n) n (fun k => B (98 + k)) j = false) → False := fun i k q1 q2 q3 q4 => by
    by_cases e : 4096 * k ≤ i
    · exact q3 (q2 k e)
    · have := q4 i (by omega)
      rw [q1.1] at this; cases this
  rcases h with ⟨i, a1, a2, a3⟩ | ⟨b1, b2, rfl, rfl, rfl⟩ | ⟨k, c1, c2, c3, c4, rfl, rfl, rfl⟩
  · rcases h2 with ⟨i2, d1, d2, d3⟩ | ⟨d1, _, _⟩ | ⟨k2, d1, d2, d3, d4, _⟩
    · obtain rfl := a1.eq d1
      rcases a3 with ⟨x1, rfl, rfl, rfl⟩ | ⟨x1, x2, rfl, rfl, rfl⟩ | ⟨x1, x2, rfl, rfl, rfl⟩
      · rcases d3 with ⟨y1, rfl, rfl, rfl⟩ | ⟨y1, _⟩ | ⟨y1, _⟩
        · exact ⟨rfl, rfl, rfl⟩
        · exact absurd y1 x1
        · exact absurd y1 x1
      · rcases d3 with ⟨y1, _⟩ | ⟨y1, y2, rfl, rfl, rfl⟩ | ⟨y1, y2, _⟩
        · exact absurd x1 y1
        · exact ⟨rfl, rfl, rfl⟩
        · exact absurd y2 x2
      · rcases d3 with ⟨y1, _⟩ | ⟨y1, y2, _⟩ | ⟨y1, y2, rfl, rfl, rfl⟩
        · exact absurd x1 y1
        · exact absurd x2 y2
        · exact ⟨rfl, rfl, rfl⟩
    · have := d1 i (fd_bd a1.1).2; rw [a1.1] at this; cases this
    · exact (key i k2 a1 a2 d2 d4).elim
  · rcases h2 with ⟨i2, d1, d2, d3⟩ | ⟨_, _, rfl, rfl, rfl⟩ | ⟨k2, d1, d2, _⟩
    · have := b1 i2 (fd_bd d1.1).2; rw [d1.1] at this; cases this
    · exact ⟨rfl, rfl, rfl⟩
    · exact absurd (b2 k2 d1) d2
  · rcases h2 with ⟨i2, d1, d2, d3⟩ | ⟨_, d2, _⟩ | ⟨k2, d1, d2, d3, d4, rfl, rfl, rfl⟩
    · exact (key i2 k d1 d2 c2 c4).elim
    · exact absurd (d2 k c1) c2
    · have hk : k = k2 := by
        rcases Nat.lt_trichotomy k k2 with e | e | e
        · exact absurd (d3 k e) c2
        · exact e
        · exact absurd (c3 k2 e) d2
      subst hk
      exact ⟨rfl, rfl, rfl⟩
end Go.Proofs.YtflienghgobmoaaGreatDoor

namespace Go.Proofs.YtflienghgobmoaaGreatDoor
open Go.RowKit Rec
variable {w0 w w1 wx w2 w' : World} {P j j' : Nat} {D D' : Dk} {R R' : RDk} {T T' : Tx} {U U' : RTx} {K K' : Kb}
/-- is there room for a put -/
theorem rwE_room {nb m : Nat} (he : U.ends = false) (h98 : 98 ≤ m) (hm : m < nb) : rwE U nb (m : Int) 512 = if lpB U.row (m : Nat) U.row.length = none ∧ 96 ≤ (wl U.row nb).length then 60 else 0 := by
  unfold rwE
  rw [if_neg (by rw [he]; simp), if_neg (by omega), if_neg (by simp)]
/-- after one put, virtually -/
theorem TU.one {A : Nat} {x : List Int} {U1 : RTx} (h : TU T U) (ok : COk T.c T.nb) (h98 : 98 ≤ A) (hA : A < T.nb) (hr : (T.c A).isSome = true ∨ (lst T.c T.nb).length < 96) (hU : U1.row = U.row ++ [⟨(A : Int), x⟩]) : ∃ T1 : Tx, TU T1 U1 ∧ COk T1.c T1.nb ∧ T1.nb = T.nb ∧ ∃ q : Bk, q.x = x ∧ T1.c = ups T.c A (some q) := by
  refine ⟨{ T with c := ups T.c A (some ⟨(A : Int), 0, 0, x⟩), us := T.us ++ [⟨0, 0, 0, 0, A, T.c A⟩] }, h.write rfl hA rfl rfl rfl rfl rfl hU hr, ?_, rfl, _, rfl, rfl⟩
  exact ok.ups _ h98 hA (fun y hy => by cases hy; rfl)
theorem room2 {A i : Nat} {x : List Int} {U1 : RTx} (h : TU T U) (ok : COk T.c T.nb) (h98 : 98 ≤ A) (hA : A < T.nb) (hr : (T.c A).isSome = true ∨ (lst T.c T.nb).length < 96) (hU : U1.row = U.row ++ [⟨(A : Int), x⟩]) (hne : i ≠ A) : (lpB U1.row (i : Nat) U1.row.length = none ∧ 96 ≤ (wl U1.row T.nb).length) ↔ ¬ ((T.c i).isSome = true ∨ (lst T.c T.nb).length + (if (T.c A).isSome then 0 else 1) < 96) := by
  obtain ⟨T1, h1, ok1, n1, q, _, hc⟩ := h.one ok h98 hA hr hU
  have := h1.room ok1 i
  rw [n1, hc, ups_other _ _ hne, lst_len_ups hA] at this
  exact this
theorem HalfT.big {n : Nat} (h : XS w0 w P D R T U K j) (he : U.ends = false) (hb : BigE w0 w w1 D T T' n) : HalfT w w1 T T' U D U.row := by
  obtain ⟨hx, hd, hnb, hu⟩ := h.tp.live he
  refine HalfT.of hb.spc.ses.tx hb.mv hd hnb he (fun U' hU' => ?_)
  have h2 := hu.cong hU'
  exact ⟨by rw [hb.us]; exact h2.len, by rw [hb.us, hb.c]; exact h2.same, by rw [hb.us, hb.c, hb.mv.nb]; exact h2.cnt⟩
/-- Take on the program's side -/
theorem ptake (h : XS w0 w P D R T U K j) (hn : D.nb = K.n) (hl : U.row.length + 2 ≤ 1000000) :
    Calls Tryz.prog 24 #[.pointer (some ⟨T.t, 0, none⟩), geoV K.n] w fun e w1 => ∃ (rv : Nat) (er : Int) (row' : List Dn) (T' : Tx), e = .returned (.tuple #[.int .i64 (rv : Int), .int .i64 er]) ∧ HalfT w w1 T T' U D row' ∧ TkO U K.n (fun i => rxE D.abs U (i : Int)) (fun i => rxB D.abs U (i : Int)) rv er row' := by
  have hlo := h.bk.lo
  have hhi := h.bk.hi
  have HN := nM_bd hlo hhi
  cases hen : U.ends with
  | true =>
    have e61 : ∀ i : Int, rxE D.abs U i = 61 := fun i => by unfold rxE; rw [if_pos hen]
    refine (take_low w T.t K.n 61 (by decide) (fun wx hb => low_err wx T.t K.n hlo hhi 61 (by decide) ((rdNo_over (h.tp.over hen) 98).on hb))).mono ?_
    rintro e w1 ⟨rfl, hb⟩
    exact ⟨0, 61, U.row, T, rfl, HalfT.same h.tp hb, .inr (.inr ⟨0, by omega, by show rxE _ _ _ ≠ 0; rw [e61]; decide, fun k hk => absurd hk (Nat.not_lt_zero _), fun j hj => absurd hj (by omega), rfl, (e61 _).symm, rfl⟩)⟩
  | false =>
    have hs := h.spc hen hn
    obtain ⟨hx, hd, hnb, hu⟩ := h.tp.live hen
    have hTn : T.nb = K.n := by rw [← hnb]; exact hn
    obtain ⟨M, hK⟩ := kpre_ex D T K.n
    have hM := hK.le
    have hrd : ∀ k, k < M → rxE D.abs U ((98 + k : Nat) : Int) = 0 ∧ rxB D.abs U ((98 + k : Nat) : Int) = tv D T (98 + k) := fun k hk => (h.rd hen hn (98 + k) (by omega)).1 (hK.rd k hk)
    have hno : M < nM K.n → rxE D.abs U ((98 + M : Nat) : Int) = 30 := fun hk => (h.rd hen hn (98 + M) (by omega)).2 (hK.no hk)
    have hfc : ∀ j, j < 4096 * M → fd (nD K.n) K.n (fun k => rxB D.abs U ((98 + k : Nat) : Int)) j = fd (nD K.n) K.n (bmp D T) j := fun j hj => fd_cong (M := M) (fun k hk => (hrd k hk).2) j hj
    by_cases hct : ct (fd (nD K.n) K.n (bmp D T)) (4096 * M) = 0
    · have hz := ct_zero.1 hct
      refine (take_low w T.t K.n (if M = nM K.n then 90 else 30) (by split <;> decide) (fun wx hb => low_no w0 wx D T K.n (hs.on hb) M hK hct)).mono ?_
      rintro e w1 ⟨rfl, hb⟩
      refine ⟨0, _, U.row, T, rfl, HalfT.same h.tp hb, ?_⟩
      by_cases hMe : M = nM K.n
      · refine .inr (.inl ⟨fun j hj => ?_, fun k hk => (hrd k (by omega)).1, rfl, by rw [if_pos hMe], rfl⟩)
        have hj2 : j < 4096 * M := by rw [hMe]; omega
        have := hfc j hj2
        rw [hz j hj2] at this
        exact this
      · refine .inr (.inr ⟨M, by omega, by show rxE _ _ _ ≠ 0; rw [hno (by omega)]; decide, fun k hk => (hrd k hk).1, fun j hj => ?_, rfl, by rw [if_neg hMe]; exact (hno (by omega)).symm, rfl⟩)
        have := hfc j hj
        rw [hz j hj] at this
        exact this
    · obtain ⟨i, hiM, hLo⟩ := lo_of_ct hct
      have hbd := fd_bd hLo.1
      have hA : i / 4096 < M := by omega
      have hLo2 : IsLo (fd (nD K.n) K.n (fun k => rxB D.abs U ((98 + k : Nat) : Int))) i := ⟨by rw [hfc i hiM]; exact hLo.1, fun j hj => by rw [hfc j (by omega)]; exact hLo.2 j hj⟩
      have hEk : ∀ k, 4096 * k ≤ i → rxE D.abs U ((98 + k : Nat) : Int) = 0 := fun k hk => (hrd k (by omega)).1
      have hAn : 98 + i / 4096 < T.nb := by omega
      have hin : i < T.nb := by omega
      have hne : i ≠ 98 + i / 4096 := by have := hbd.1; unfold nD nM at this; omega
      have h98i : 98 ≤ i := by have := hbd.1; unfold nD at this; omega
      have e1 : rwE U K.n ((98 + i / 4096 : Nat) : Int) 512 = if lpB U.row ((98 + i / 4096 : Nat) : Int) U.row.length = none ∧ 96 ≤ (wl U.row K.n).length then 60 else 0 := rwE_room hen (by omega) (by omega)
      have e2 : rwE (withRow U (rowT1 U (fun i => rxB D.abs U (i : Int)) i)) K.n (i : Int) 512 = if lpB (withRow U (rowT1 U (fun i => rxB D.abs U (i : Int)) i)).row (i : Int) (withRow U (rowT1 U (fun i => rxB D.abs U (i : Int)) i)).row.length = none ∧ 96 ≤ (wl (withRow U (rowT1 U (fun i => rxB D.abs U (i : Int)) i)).row K.n).length then 60 else 0 := rwE_room hen h98i (by omega)
      have r1 := hu.room hx.ok (98 + i / 4096)
      rw [hTn] at r1
      have hus : T.us.length + 2 ≤ 1000000 := by rw [hu.len]; exact hl
      by_cases hr1 : (T.c (98 + i / 4096)).isSome = true ∨ (lst T.c K.n).length < 96
      · have z1 : rwE U K.n ((98 + i / 4096 : Nat) : Int) 512 = 0 := by rw [e1, if_neg (fun e => r1.1 e hr1)]
        have r2 := room2 (i := i) (x := bput (rxB D.abs U ((98 + i / 4096 : Nat) : Int)) (i % 4096) true) (U1 := withRow U (rowT1 U (fun i => rxB D.abs U (i : Int)) i)) hu hx.ok (by omega) hAn (by rw [hTn]; exact hr1) rfl hne
        rw [hTn] at r2
        by_cases hr2 : (T.c i).isSome = true ∨ (lst T.c K.n).length + (if (T.c (98 + i / 4096)).isSome then 0 else 1) < 96
        · have z2 : rwE (withRow U (rowT1 U (fun i => rxB D.abs U (i : Int)) i)) K.n (i : Int) 512 = 0 := by rw [e2, if_neg (fun e => r2.1 e hr2)]
          refine (stake_ok w0 w D T K.n hs i hLo hr1 hr2 hus M hK hiM).mono ?_
          rintro e w1 ⟨rfl, T', hx'⟩
          refine ⟨i, 0, _, T', rfl, HalfT.of (row' := rowT1 U (fun i => rxB D.abs U (i : Int)) i ++ [⟨(i : Int), zn 512⟩]) hx'.spc.ses.tx hx'.mv hd hnb hen (fun U' hU' => ?_), .inl ⟨i, hLo2, hEk, .inr (.inr ⟨z1, z2, rfl, rfl, rfl⟩)⟩⟩
          obtain ⟨q, q2, u, u2, c1, c2, c3, c4, c5, c6, c7, c8⟩ := hx'.uu
          have hb1 : bput (bmp D T (i / 4096)) (i % 4096) true = bput (rxB D.abs U ((98 + i / 4096 : Nat) : Int)) (i % 4096) true := by rw [(hrd _ hA).2]; rfl
          rw [hb1] at c2
          have t1 : TU { T with c := ups T.c (98 + i / 4096) (some q), us := T.us ++ [u] } (withRow U (rowT1 U (fun i => rxB D.abs U (i : Int)) i)) := hu.write rfl hAn rfl rfl c5 c6 c2 rfl (by rw [hTn]; exact hr1)
          refine t1.write (i := i) (x := zn 512) (q := q2) (u := u2) hx'.mv.nb hin c1 c4 c7 c8 c3 hU' ?_
          show (ups T.c (98 + i / 4096) (some q) i).isSome = true ∨ (lst (ups T.c (98 + i / 4096) (some q)) T.nb).length < 96
          rw [ups_other _ _ hne, lst_len_ups hAn, hTn]
          exact hr2
        · have z2 : rwE (withRow U (rowT1 U (fun i => rxB D.abs U (i : Int)) i)) K.n (i : Int) 512 = 60 := by rw [e2, if_pos (r2.2 hr2)]
          refine (stake_60 w0 w D T K.n hs i hLo (fun e => hr2 e.2) hus M hK hiM).mono ?_
          rintro e w1 ⟨rfl, T', hx'⟩
          exact ⟨0, 60, _, T', rfl, HalfT.big h hen hx', .inl ⟨i, hLo2, hEk, .inr (.inl ⟨z1, by rw [z2]; decide, rfl, z2.symm, rfl⟩)⟩⟩
      · have z1 : rwE U K.n ((98 + i / 4096 : Nat) : Int) 512 = 60 := by rw [e1, if_pos (r1.2 hr1)]
        refine (stake_60 w0 w D T K.n hs i hLo (fun e => hr1 e.1) hus M hK hiM).mono ?_
        rintro e w1 ⟨rfl, T', hx'⟩
        exact ⟨0, 60, _, T', rfl, HalfT.big h hen hx', .inl ⟨i, hLo2, hEk, .inl ⟨by rw [z1]; decide, rfl, z1.symm, rfl⟩⟩⟩
end Go.Proofs.YtflienghgobmoaaGreatDoor

namespace Go.Proofs.YtflienghgobmoaaGreatDoor
open Go.RowKit Go.Maps Rec
set_option maxRecDepth 100000 in
set_option maxHeartbeats 4000000 in
theorem give_big (w0 w : World) (D : Dk) (T : Tx) (n : Nat) (h : Spc w0 w D T n) (i : Nat) (h0 : nD n ≤ i) (hi : i < n) (hb : isT (bmp D T) i = true) (hr : T.c (98 + i / 4096) = none) (hu : (lst T.c n).length = 96) (hrd : rdb D T (98 + i / 4096)) :
    Calls Tryz.prog 27 #[.pointer (some ⟨T.t, 0, none⟩), geoV n, .int .i64 (i : Int)] w fun e w' => e = .returned (.int .i64 60) ∧ Below w.heap.size w w' := by
  have hk : i / 4096 < nM n := by unfold nM; omega
  have hl := h.bm.len (i / 4096) hk
  have HA : Hid (∀ o, Below w.heap.size w (w.alloc o)) := fun o => (Below.refl _ _).alloc (Nat.le_refl _) o
  have HD : Hid (∀ wx, Calls Tryz.prog 71 #[geoV n, .int .i64 (i : Int)] wx fun e w' => e = .returned (.bool true) ∧ Below wx.heap.size wx w') := fun wx => isData_yes wx n (i : Int) (by omega) (by omega)
  have HF : Hid (∀ wx, Below w.heap.size w wx → Calls Tryz.prog 72 #[.pointer (some ⟨T.t, 0, none⟩), geoV n, .int .i64 (i : Int)] wx fun e w' => ∃ g cap, e = .returned (.tuple #[plV i g cap, .int .i64 0]) ∧ wx.heap.size ≤ g ∧ OwnB w' g cap (bmp D T (i / 4096)) ∧ Below wx.heap.size wx w') := fun wx hb => find_ok w0 wx D T n (h.on hb) i hi hrd
  have HT : Hid (∀ wx g cap, OwnB wx g cap (bmp D T (i / 4096)) → Calls Tryz.prog 73 #[plV i g cap] wx fun e w' => e = .returned (.bool true) ∧ Below wx.heap.size wx w') := fun wx g cap ho => by
    have := taken_bit wx i g cap _ ho.bytes hl
    rw [← hb]
    exact this
  have HP : Hid (∀ wx g cap, Below w.heap.size w wx → OwnB wx g cap (bmp D T (i / 4096)) → w.heap.size ≤ g → Calls Tryz.prog 74 #[plV i g cap, .pointer (some ⟨T.t, 0, none⟩), .bool false] wx fun e w' => e = .returned (.int .i64 60) ∧ Below w.heap.size w w') := fun wx g cap hbx ho hg => by
    refine (put_big w0 w wx D T n h hbx i g cap hi ho hg false hr hu).mono ?_
    rintro e w' ⟨rfl, f⟩
    exact ⟨rfl, hbx.trans (f.below _ (fun k hk => by have hk : k = g := hk; omega) hbx.size)⟩
  obtain ⟨A, hA⟩ : ∃ A, 98 + i / 4096 = A := ⟨_, rfl⟩
  obtain ⟨J, hJ⟩ : ∃ J, i % 4096 = J := ⟨_, rfl⟩
  unfold plV at HF HT HP
  rw [hA, hJ] at HF HT HP
  clear h hA hJ hk hl hb hr hu hrd
  go_enter Tryz.func27, Tryz.ntmps27
  unfold geoV
  unfold geoV at HF HD
  obtain ⟨wz, hwz⟩ : ∃ wz, w.alloc (.cells #[.int .i64 (n : Int), .int .i64 98, .int .i64 (gI n), .int .i64 (gD n), .int .i64 (gC n)] 36) = wz := ⟨_, rfl⟩
  have HZ : Hid (Below w.heap.size w wz ∧ GeoAt wz w.heap.size n) := by
    rw [← hwz]; exact ⟨HA.out _, heap_alloc_new _ _⟩
  obtain ⟨z0, z1, z2, z3, z4⟩ := HZ.out.2.cells
  clear HA
  go_wp2_with (first
    | (go_at_call 71; refine (HD.out _).mono ?_; rintro e w1 ⟨rfl, h1⟩; have H1 : Hid (Below w.heap.size w w1) := HZ.out.1.trans (h1.mono HZ.out.1.size); obtain ⟨y0, y1, y2, y3, y4⟩ := (HZ.out.2.on h1).cells; clear h1 HD)
    | (go_at_call 72; refine (HF.out _ H1.out).mono ?_; rintro e w2 ⟨g, cap, rfl, h1, h2, h3⟩; have H2 : Hid (OwnB w2 g cap (bmp D T (i / 4096)) ∧ Below w.heap.size w w2 ∧ w.heap.size ≤ g) := ⟨h2, H1.out.trans (h3.mono H1.out.size), Nat.le_trans H1.out.size h1⟩; clear h1 h2 h3 HF)
    | (go_at_call 73; refine (HT.out _ _ _ (H2.out.1.on ((Below.refl _ _).alloc (Nat.le_refl _) _))).mono ?_; rintro e w3 ⟨rfl, hb⟩; have H3 : Hid (Below w.heap.size w w3 ∧ OwnB w3 g cap (bmp D T (i / 4096)) ∧ w.heap.size ≤ g) := ⟨(H2.out.2.1.alloc H2.out.2.1.size _).trans (hb.mono (H2.out.2.1.alloc H2.out.2.1.size _).size), (H2.out.1.on ((Below.refl _ _).alloc (Nat.le_refl _) _)).on hb, H2.out.2.2⟩; have x0 := (hb.cell (p := ⟨w2.heap.size, 0, none⟩) (by simp)); have x1 := (hb.cell (p := ⟨w2.heap.size, 1, none⟩) (by simp)); have x2 := (hb.cell (p := ⟨w2.heap.size, 2, none⟩) (by simp)); simp at x0 x1 x2; clear hb HT)
    | (go_at_call 74; refine (HP.out _ _ _ H3.out.1 H3.out.2.1 H3.out.2.2).mono ?_; rintro e w4 ⟨rfl, hx⟩; clear HP))
  go_ret
  exact ⟨rfl, hx⟩
variable {w0 w w1 wx w2 w' : World} {P j j' : Nat} {D D' : Dk} {R R' : RDk} {T T' : Tx} {U U' : RTx} {K K' : Kb}
theorem XS.e61 (he : U.ends = true) (i : Int) : rxE D.abs U i = 61 := by unfold rxE; rw [if_pos he]
/-- Give on the program's side -/
theorem pgive (h : XS w0 w P D R T U K j) (hn : D.nb = K.n) (hl : U.row.length + 1 ≤ 1000000) (i : Int) :
    Calls Tryz.prog 27 #[.pointer (some ⟨T.t, 0, none⟩), geoV K.n, .int .i64 i] w fun e w1 => e = .returned (.int .i64 (rgE U K.n (fun i => rxE D.abs U (i : Int)) (fun i => rxB D.abs U (i : Int)) i)) ∧ ∃ T', HalfT w w1 T T' U D (if rgE U K.n (fun i => rxE D.abs U (i : Int)) (fun i => rxB D.abs U (i : Int)) i = 0 then U.row ++ [⟨((98 + i.toNat / 4096 : Nat) : Int), bput (rxB D.abs U ((98 + i.toNat / 4096 : Nat) : Int)) (i.toNat % 4096) false⟩] else U.row) := by
  have hlo := h.bk.lo
  have hhi := h.bk.hi
  have HN := nM_bd hlo hhi
  by_cases hin : (nD K.n : Int) ≤ i ∧ i < (K.n : Int)
  rotate_left
  · have e0 : rgE U K.n (fun i => rxE D.abs U (i : Int)) (fun i => rxB D.abs U (i : Int)) i = 91 := by unfold rgE; rw [if_neg hin]
    rw [e0, if_neg (by decide)]
    refine (give_not w T.t K.n i hin).mono ?_
    rintro e w1 ⟨rfl, hb⟩
    exact ⟨rfl, T, HalfT.same h.tp hb⟩
  · obtain ⟨m, rfl⟩ : ∃ m : Nat, i = (m : Int) := ⟨i.toNat, by omega⟩
    have hm0 : nD K.n ≤ m := by omega
    have hm : m < K.n := by omega
    have hA : 98 + m / 4096 < K.n := by omega
    have e0 : rgE U K.n (fun i => rxE D.abs U (i : Int)) (fun i => rxB D.abs U (i : Int)) (m : Int) = if rxE D.abs U ((98 + m / 4096 : Nat) : Int) = 0 then (if bt (rxB D.abs U ((98 + m / 4096 : Nat) : Int)) (m % 4096) then rwE U K.n ((98 + m / 4096 : Nat) : Int) 512 else 91) else rxE D.abs U ((98 + m / 4096 : Nat) : Int) := by
      unfold rgE
      rw [if_pos hin, Int.toNat_natCast]
    rw [e0, Int.toNat_natCast]
    cases hen : U.ends with
    | true =>
      rw [XS.e61 hen, if_neg (by decide), if_neg (by decide)]
      refine (give_err w T.t K.n hlo hhi 61 (by decide) m hm0 hm (rdNo_over (h.tp.over hen) _)).mono ?_
      rintro e w1 ⟨rfl, hb⟩
      exact ⟨rfl, T, HalfT.same h.tp hb⟩
    | false =>
      have hs := h.spc hen hn
      obtain ⟨hx, hd, hnb, hu⟩ := h.tp.live hen
      have hTn : T.nb = K.n := by rw [← hnb]; exact hn
      have hrd := h.rd hen hn (98 + m / 4096) hA
      by_cases hr : rdb D T (98 + m / 4096)
      · obtain ⟨q1, q2⟩ := hrd.1 hr
        have hbt : bt (rxB D.abs U ((98 + m / 4096 : Nat) : Int)) (m % 4096) = isT (bmp D T) m := by rw [q2]; rfl
        rw [q1, if_pos rfl, hbt]
        cases hb : isT (bmp D T) m with
        | false =>
          rw [if_neg (by decide), if_neg (by decide)]
          refine (give_free w0 w D T K.n hs m hm0 hm hb hr).mono ?_
          rintro e w1 ⟨rfl, hb⟩
          exact ⟨rfl, T, HalfT.same h.tp hb⟩
        | true =>
          rw [if_pos rfl]
          have e1 : rwE U K.n ((98 + m / 4096 : Nat) : Int) 512 = if lpB U.row ((98 + m / 4096 : Nat) : Int) U.row.length = none ∧ 96 ≤ (wl U.row K.n).length then 60 else 0 := rwE_room hen (by omega) (by omega)
          have r1 := hu.room hx.ok (98 + m / 4096)
          rw [hTn] at r1
          by_cases hr1 : (T.c (98 + m / 4096)).isSome = true ∨ (lst T.c K.n).length < 96
          · rw [e1, if_neg (fun e => r1.1 e hr1), if_pos rfl]
            refine (give_ok w0 w D T K.n hs m hm0 hm hb hr1 (by rw [hu.len]; exact hl) hr).mono ?_
            rintro e w1 ⟨rfl, T', hx'⟩
            refine ⟨rfl, T', HalfT.of hx'.spc.ses.tx hx'.mv hd hnb hen (fun U' hU' => ?_)⟩
            obtain ⟨q, c1, c2⟩ := hx'.c
            obtain ⟨u, c3, c4, c5⟩ := hx'.uu
            have hb1 : bput (bmp D T (m / 4096)) (m % 4096) false = bput (rxB D.abs U ((98 + m / 4096 : Nat) : Int)) (m % 4096) false := by rw [q2]; rfl
            rw [hb1] at c2
            exact hu.write hx'.mv.nb (by omega) c1 c3 c4 c5 c2 hU' (by rw [hTn]; exact hr1)
          · rw [e1, if_pos (r1.2 hr1), if_neg (by decide)]
            have hcn : T.c (98 + m / 4096) = none := by
              cases e : T.c (98 + m / 4096) with
              | none => rfl
              | some q => exact absurd (.inl (by rw [e]; rfl)) hr1
            have hc96 : (lst T.c K.n).length = 96 := by
              have := hx.cnt
              rw [hTn] at this
              have := fun e => hr1 (.inr e)
              omega
            refine (give_big w0 w D T K.n hs m hm0 hm hb hcn hc96 hr).mono ?_
            rintro e w1 ⟨rfl, hb⟩
            exact ⟨rfl, T, HalfT.same h.tp hb⟩
      · rw [hrd.2 hr, if_neg (by decide), if_neg (by decide)]
        refine (give_err w T.t K.n hlo hhi 30 (by decide) m hm0 hm (rdNo_down hs _ hA hr)).mono ?_
        rintro e w1 ⟨rfl, hb⟩
        exact ⟨rfl, T, HalfT.same h.tp hb⟩
/-- Used on the program's side -/
theorem pused (h : XS w0 w P D R T U K j) (hn : D.nb = K.n) (i : Int) (hbi : -9223372036854775808 ≤ i ∧ i ≤ 9223372036854775807) :
    Calls Tryz.prog 29 #[.pointer (some ⟨T.t, 0, none⟩), geoV K.n, .int .i64 i] w fun e w1 => e = .returned (.tuple #[.bool (if 0 ≤ i ∧ i < (K.n : Int) then (if rxE D.abs U ((98 + i.toNat / 4096 : Nat) : Int) = 0 then bt (rxB D.abs U ((98 + i.toNat / 4096 : Nat) : Int)) (i.toNat % 4096) else false) else false), .int .i64 (if 0 ≤ i ∧ i < (K.n : Int) then rxE D.abs U ((98 + i.toNat / 4096 : Nat) : Int) else 31)]) ∧ Below w.heap.size w w1 := by
  have hlo := h.bk.lo
  have hhi := h.bk.hi
  by_cases hin : 0 ≤ i ∧ i < (K.n : Int)
  · obtain ⟨m, rfl⟩ : ∃ m : Nat, i = (m : Int) := ⟨i.toNat, by omega⟩
    have hm : m < K.n := by omega
    have hA : 98 + m / 4096 < K.n := by omega
    rw [if_pos hin, if_pos hin, Int.toNat_natCast]
    cases hen : U.ends with
    | true =>
      rw [XS.e61 hen, if_neg (by decide)]
      exact used_err w T.t K.n hlo hhi 61 (by decide) m hm (rdNo_over (h.tp.over hen) _)
    | false =>
      have hs := h.spc hen hn
      have hrd := h.rd hen hn (98 + m / 4096) hA
      by_cases hr : rdb D T (98 + m / 4096)
      · obtain ⟨q1, q2⟩ := hrd.1 hr
        have hbt : bt (rxB D.abs U ((98 + m / 4096 : Nat) : Int)) (m % 4096) = isT (bmp D T) m := by rw [q2]; rfl
        rw [q1, if_pos rfl, hbt]
        exact used_any w0 w D T K.n hs m hm hr
      · rw [hrd.2 hr, if_neg (by decide)]
        exact used_err w T.t K.n hlo hhi 30 (by decide) m hm (rdNo_down hs _ hA hr)
  · rw [if_neg hin, if_neg hin]
    exact used_out w T.t K.n hlo hhi i hin hbi
/-- Free on both sides -/
theorem pfree (h : XS w0 w P D R T U K j) (hn : D.nb = K.n) : ∃ (c : Nat) (er : Int),
    (∀ wx, Below w.heap.size w wx → Calls Tryz.prog 31 #[.pointer (some ⟨T.t, 0, none⟩), geoV K.n] wx fun e w1 => e = .returned (.tuple #[.int .i64 (c : Int), .int .i64 er]) ∧ Below wx.heap.size wx w1) ∧
    (∀ wx, Below w.heap.size w wx → Calls Tryz.prog 32 #[.pointer (some ⟨U.u, 0, none⟩), geoV K.n] wx fun e w1 => e = .returned (.tuple #[.int .i64 (c : Int), .int .i64 er]) ∧ Below wx.heap.size wx w1) := by
  have hlo := h.bk.lo
  have hhi := h.bk.hi
  have HN := nM_bd hlo hhi
  have hrr := (h.rs9 hn).rr
  cases hen : U.ends with
  | true =>
    refine ⟨0, 61, fun wx hb => free_err wx T.t K.n hlo hhi 61 (by decide) ((rdNo_over (h.tp.over hen) 98).on hb), fun wx hb => ?_⟩
    have := rfree_any (hrr.on hb) 0 (Nat.zero_le _) (fun k hk => absurd hk (Nat.not_lt_zero _)) (fun _ => by show rxE _ _ _ ≠ 0; rw [XS.e61 hen]; decide)
    rw [if_neg (by omega), if_neg (by omega)] at this
    rw [show rxE D.abs U ((98 + 0 : Nat) : Int) = 61 from XS.e61 hen _] at this
    exact this
  | false =>
    have hs := h.spc hen hn
    obtain ⟨M, hK⟩ := kpre_ex D T K.n
    have hM := hK.le
    have hrd : ∀ k, k < M → rxE D.abs U ((98 + k : Nat) : Int) = 0 ∧ rxB D.abs U ((98 + k : Nat) : Int) = tv D T (98 + k) := fun k hk => (h.rd hen hn (98 + k) (by omega)).1 (hK.rd k hk)
    have hno : M < nM K.n → rxE D.abs U ((98 + M : Nat) : Int) = 30 := fun hk => (h.rd hen hn (98 + M) (by omega)).2 (hK.no hk)
    refine ⟨if M = nM K.n then ct (fd (nD K.n) K.n (bmp D T)) K.n else 0, eK K.n M, fun wx hb => free_any w0 wx D T K.n (hs.on hb) M hK, fun wx hb => ?_⟩
    have := rfree_any (hrr.on hb) M hM (fun k hk => (hrd k hk).1) (fun hk => by show rxE _ _ _ ≠ 0; rw [hno hk]; decide)
    by_cases hMe : M = nM K.n
    · have hc : ct (fd (nD K.n) K.n (fun k => rxB D.abs U ((98 + k : Nat) : Int))) (4096 * nM K.n) = ct (fd (nD K.n) K.n (bmp D T)) K.n := by
        rw [ct_cong (g := fd (nD K.n) K.n (bmp D T)) (fun j hj => fd_cong (M := nM K.n) (fun k hk => (hrd k (by omega)).2) j hj), ct_tail HN.2.2.1]
      rw [if_pos hMe, if_pos hMe] at this
      rw [if_pos hMe]
      unfold eK
      rw [if_pos hMe, ← hc]
      exact this
    · rw [if_neg hMe, if_neg hMe] at this
      rw [if_neg hMe]
      unfold eK
      rw [if_neg hMe, ← hno (by omega)]
      exact this
end Go.Proofs.YtflienghgobmoaaGreatDoor

namespace Go.Proofs.YtflienghgobmoaaGreatDoor
open Go.RowKit Go.Maps Rec
variable {w0 w w1 wx w2 w' : World} {P j j' : Nat} {D D' : Dk} {R R' : RDk} {T T' : Tx} {U U' : RTx} {K K' : Kb}
set_option maxRecDepth 100000 in
set_option maxHeartbeats 8000000 in
theorem zsameInts (w : World) (v1 v2 : Value) (l : List Int) (n : Nat) (hn : l.length = n) (hl : n ≤ 4000000) (h1 : IntsAt w v1 l) (h2 : IntsAt w v2 l) : Calls Tryz.prog 37 #[v1, v2] w fun e w' => e = .returned (.bool true) ∧ Below w.heap.size w w' := by
  obtain ⟨a, c, rfl, g1⟩ := h1
  obtain ⟨b, d, rfl, g2⟩ := h2
  have HG : Hid ((l = [] ∨ ∃ g, a = some ⟨g, 0, none⟩ ∧ ∀ j x, l[j]? = some x → w.cell? ⟨g, j, none⟩ = some (.int .i64 x)) ∧ (l = [] ∨ ∃ g, b = some ⟨g, 0, none⟩ ∧ ∀ j x, l[j]? = some x → w.cell? ⟨g, j, none⟩ = some (.int .i64 x))) := ⟨g1, g2⟩
  have HN : Hid (l.length = n) := hn
  rw [hn]
  clear g1 g2 hn
  go_enter Tryz.func37, Tryz.ntmps37
  go_upto_region 4 with (fail)
  go_loopw [13] (fun s wr => ∃ k : Nat, k ≤ n ∧ s = .int .i64 k ∧ Below w.heap.size w wr) (fun s _ => n - (intOf s).toNat)
  case atStart => exact ⟨0, Nat.zero_le _, rfl, by repeat (first | exact Below.refl _ _ | apply Below.drew)⟩
  case round =>
    obtain ⟨k, hk, rfl, hb⟩ := hrel
    have HB : Hid (Below w.heap.size w wr) := hb
    clear hb
    by_cases hlt : k < n
    · have hlen := HN.out
      obtain ⟨x, hx⟩ : ∃ x, l[k]? = some x := ⟨l[k]'(by omega), List.getElem?_eq_getElem _⟩
      have hne : l ≠ [] := fun e => by rw [e] at hx; simp at hx
      obtain ⟨ga, rfl, ca⟩ := HG.out.1.resolve_left hne
      obtain ⟨gb, rfl, cb⟩ := HG.out.2.resolve_left hne
      have e1 : wr.cell? ⟨ga, k, none⟩ = some (.int .i64 x) := (HB.out.cell (block_lt_of_cell (ca k x hx))).trans (ca k x hx)
      have e2 : wr.cell? ⟨gb, k, none⟩ = some (.int .i64 x) := (HB.out.cell (block_lt_of_cell (cb k x hx))).trans (cb k x hx)
      clear hlen hx hne ca cb
      go_upto_region 6 with (fail)
      go_region
      all_goals
        go_wp2
        exact ⟨⟨k + 1, hlt, rfl, by repeat (first | exact HB.out | apply Below.drew)⟩, by simp [intOf]; omega⟩
    · have hge : n ≤ k := by omega
      go_wp2
      go_ret
      exact ⟨rfl, HB.out⟩
set_option maxRecDepth 100000 in
set_option maxHeartbeats 8000000 in
theorem zsame (h : XS w0 w P D R T U K j) (i : Int) : Calls Tryz.prog 33 #[.pointer (some ⟨P, 0, none⟩), .int .i64 i] w fun e w' => e = .returned (.bool true) ∧ Below w.heap.size w w' := by
  have HX : Hid (XS w0 w P D R T U K j) := h
  obtain ⟨er, her⟩ : ∃ er, rxE D.abs U i = er := ⟨_, rfl⟩
  obtain ⟨l, hl⟩ : ∃ l, rxB D.abs U i = l := ⟨_, rfl⟩
  have HPr : Hid (∀ wx, Below w.heap.size w wx → Calls Tryz.prog 65 #[.pointer (some ⟨T.t, 0, none⟩), .int .i64 i] wx fun e w' => ∃ a c, e = .returned (.tuple #[.slice a l.length c, .int .i64 er]) ∧ AnsB wx.heap.size w' (.slice a l.length c) l ∧ Below wx.heap.size wx w') := fun wx hb => by
    have := pread6 (h.on hb) i; rw [her, hl] at this; exact this
  have HRr : Hid (∀ wx, Below w.heap.size w wx → Calls Tryz.prog 66 #[.pointer (some ⟨U.u, 0, none⟩), .int .i64 i] wx (RxP wx er l)) := fun wx hb => by
    have := rxread_any wx D.abs R (200 * j) (h.on hb).ws.t U (h.on hb).ux h.ur i; rw [her, hl] at this; exact this
  have HC : Hid (∀ wx, Below w.heap.size w wx → wx.cell? ⟨P, 2, none⟩ = some (.pointer (some ⟨T.t, 0, none⟩)) ∧ wx.cell? ⟨P, 3, none⟩ = some (.pointer (some ⟨U.u, 0, none⟩))) := fun wx hb => (h.on hb).ptrs.2.2
  obtain ⟨c2, c3⟩ := HC.out w (Below.refl _ _)
  obtain ⟨s, hs⟩ : ∃ s, strOfNums l = s := ⟨_, rfl⟩
  have HSs : Hid (∀ wx a n c, Bytes wx a l → l.length = n → (convert 22 9 (.slice a n c)).run Tryz.prog wx = .ok (.string s) wx) := fun wx a n c hB hn => by rw [← hs]; exact str_opt hB hn
  obtain ⟨m, hm⟩ : ∃ m, l.length = m := ⟨_, rfl⟩
  have HM : Hid (l.length = m) := hm
  rw [hm] at HPr
  clear h her hl hs hm
  go_enter Tryz.func33, Tryz.ntmps33
  go_upto_region 2 with (go_at_call 65; refine (HPr.out w (Below.refl _ _)).mono ?_; rintro e w1 ⟨a1, k1, rfl, h1, h2⟩; have H1 : Hid (Bytes w1 a1 l ∧ Below w.heap.size w w1) := (by obtain ⟨_, _, _, a, c, e3, h3⟩ := h1; cases e3; exact ⟨h3, h2⟩); clear h1 h2 c2 c3; obtain ⟨c2, c3⟩ := HC.out w1 H1.out.2)
  go_upto_region 3 with (go_at_call 66; refine (HRr.out w1 H1.out.2).mono ?_; rintro e w2 ⟨a2, n2, k2, rfl, h1, h2, h3⟩; have H2 : Hid (Bytes w2 a2 l ∧ l.length = n2 ∧ Bytes w2 a1 l ∧ Below w.heap.size w w2) := ⟨h1, h2, H1.out.1.on h3, H1.out.2.trans (h3.mono H1.out.2.size)⟩; clear h1 h2 h3 c2 c3)
  have q1 : (convert 22 9 (.slice a1 m k1)).run Tryz.prog w2 = .ok (.string s) w2 := HSs.out _ _ _ _ H2.out.2.2.1 HM.out
  have q2 : (convert 22 9 (.slice a2 n2 k2)).run Tryz.prog w2 = .ok (.string s) w2 := HSs.out _ _ _ _ H2.out.1 H2.out.2.1
  go_wp2
  go_ret
  exact ⟨rfl, H2.out.2.2.2⟩
set_option maxRecDepth 100000 in
set_option maxHeartbeats 8000000 in
theorem zwritten (h : XS w0 w P D R T U K j) : ∃ l : List Int, l.length ≤ 16384 ∧
    (∀ wx, Below w.heap.size w wx → Calls Tryz.prog 38 #[.pointer (some ⟨T.t, 0, none⟩)] wx (WrP wx l)) ∧ (∀ wx, Below w.heap.size w wx → Calls Tryz.prog 39 #[.pointer (some ⟨U.u, 0, none⟩)] wx (WrP wx l)) := by
  refine ⟨wrL U D.nb, ?_, fun wx hb => pwritten (h.on hb), fun wx hb => ?_⟩
  · unfold wrL
    split
    · simp
    · have := wl_len U.row D.nb
      have h2 := h.ws.t.r.nb0
      have h3 : D.nb = R.nb := h.ws.t.tie.nb
      omega
  · exact rwritten_any wx D.abs R (200 * j) (h.on hb).ws.t U (h.on hb).ux h.ur
set_option maxRecDepth 100000 in
set_option maxHeartbeats 8000000 in
theorem zalike (h : XS w0 w P D R T U K j) (i : Int) : Calls Tryz.prog 26 #[.pointer (some ⟨P, 0, none⟩), .int .i64 i] w fun e w' => e = .returned (.bool true) ∧ Below w.heap.size w w' := by
  have HX : Hid (XS w0 w P D R T U K j) := h
  have HSm : Hid (∀ wx k, Below w.heap.size w wx → Calls Tryz.prog 33 #[.pointer (some ⟨P, 0, none⟩), .int .i64 k] wx fun e w' => e = .returned (.bool true) ∧ Below wx.heap.size wx w') := fun wx k hb => zsame (h.on hb) k
  have HN := nM_bd h.bk.lo h.bk.hi
  obtain ⟨M, hM⟩ : ∃ M, nM K.n = M := ⟨_, rfl⟩
  have HC : Hid (∀ wx, Below w.heap.size w wx → wx.cell? ⟨P, 2, none⟩ = some (.pointer (some ⟨T.t, 0, none⟩)) ∧ wx.cell? ⟨P, 3, none⟩ = some (.pointer (some ⟨U.u, 0, none⟩)) ∧ wx.cell? ⟨P, 5, none⟩ = some (.int .i64 98) ∧ wx.cell? ⟨P, 6, none⟩ = some (.int .i64 ((98 + M : Nat) : Int))) := fun wx hb => by
    refine ⟨(h.on hb).ptrs.2.2.1, (h.on hb).ptrs.2.2.2, (h.on hb).cell 5, ?_⟩
    have := (h.on hb).cell 6
    rw [← hM, ← gI_nat]
    exact this
  obtain ⟨l, hl, HPW', HRW'⟩ := zwritten h
  have HPW : Hid (∀ wx, Below w.heap.size w wx → Calls Tryz.prog 38 #[.pointer (some ⟨T.t, 0, none⟩)] wx (WrP wx l)) := HPW'
  have HRW : Hid (∀ wx, Below w.heap.size w wx → Calls Tryz.prog 39 #[.pointer (some ⟨U.u, 0, none⟩)] wx (WrP wx l)) := HRW'
  have HLn : Hid (l.length ≤ 16384) := hl
  have hM4 : M ≤ 4 := by omega
  clear HPW' HRW' hl h hM HN
  obtain ⟨x2, x3, x5, x6⟩ := HC.out w (Below.refl _ _)
  go_enter Tryz.func26, Tryz.ntmps26
  go_upto_region 2 with fail
  go_loopw [5] (fun s5 wr => ∃ k : Nat, k ≤ M ∧ s5 = .int .i64 ((98 + k : Nat) : Int) ∧ Below w.heap.size w wr) (fun s5 _ => 98 + M - (intOf s5).toNat)
  case atStart => exact ⟨0, Nat.zero_le _, rfl, Below.refl _ _⟩
  case round =>
    obtain ⟨k, hk, rfl, hb⟩ := hrel
    have HB : Hid (Below w.heap.size w wr) := hb
    clear hb x2 x3 x5 x6
    obtain ⟨x2, x3, x5, x6⟩ := HC.out wr HB.out
    obtain ⟨K9, hK9⟩ : ∃ K9, 98 + k = K9 := ⟨_, rfl⟩
    have HK9 : Hid (98 + k = K9) := hK9
    rw [hK9]
    by_cases hlt : k < M
    · have hlt' : (K9 : Int) < ((98 + M : Nat) : Int) := by omega
      have hk9 : K9 ≤ 200 := by omega
      clear hK9
      go_wp2_with (go_at_call 33; refine (HSm.out wr _ HB.out).mono ?_; rintro e w2 ⟨rfl, h2⟩; have H2 : Hid (Below w.heap.size w w2) := HB.out.trans (h2.mono HB.out.size); clear h2)
      exact ⟨⟨k + 1, hlt, by have := HK9.out; go_num, H2.out⟩, by simp [intOf]; omega⟩
    · have hlt' : ¬ (K9 : Int) < ((98 + M : Nat) : Int) := by omega
      clear hK9
      go_upto_region 6 with fail
      have HBd : Hid (Below w.heap.size w wr.drew) := HB.out.drew
      have hS0 : wr.drew.cell? ⟨P, 2, none⟩ = some (.pointer (some ⟨T.t, 0, none⟩)) ∧ wr.drew.cell? ⟨P, 3, none⟩ = some (.pointer (some ⟨U.u, 0, none⟩)) := ⟨x2, x3⟩
      go_region_held3 (fun w' => w'.cell? ⟨P, 2, none⟩ = some (.pointer (some ⟨T.t, 0, none⟩)) ∧ w'.cell? ⟨P, 3, none⟩ = some (.pointer (some ⟨U.u, 0, none⟩))) (first | exact hS0 | exact hS1 | exact hS2 | exact hS3 | exact hS4) (first
        | (go_at_call 33; refine (HSm.out _ _ HBd.out).mono ?_; rintro e v1 ⟨rfl, q1⟩; have H1 : Hid (Below w.heap.size w v1) := HBd.out.trans (q1.mono HBd.out.size); have hS1 : v1.cell? ⟨P, 2, none⟩ = some (.pointer (some ⟨T.t, 0, none⟩)) ∧ v1.cell? ⟨P, 3, none⟩ = some (.pointer (some ⟨U.u, 0, none⟩)) := ⟨(HC.out v1 H1.out).1, (HC.out v1 H1.out).2.1⟩; clear q1)
        | (go_at_call 38; refine (HPW.out v1 H1.out).mono ?_; rintro e v2 ⟨a2, rfl, q1⟩; obtain ⟨g2, k2, rfl, _⟩ := owns_slice q1.row; have H2 : Hid (OwL 3 1 v1 v2 (.slice g2 l.length k2) l.length (l.map (Value.int .i64)) ∧ Below w.heap.size w v2) := ⟨q1, H1.out.trans (q1.bel.mono H1.out.size)⟩; have hS2 : v2.cell? ⟨P, 2, none⟩ = some (.pointer (some ⟨T.t, 0, none⟩)) ∧ v2.cell? ⟨P, 3, none⟩ = some (.pointer (some ⟨U.u, 0, none⟩)) := ⟨(HC.out v2 H2.out.2).1, (HC.out v2 H2.out.2).2.1⟩; clear q1)
        | (go_at_call 39; refine (HRW.out v2 H2.out.2).mono ?_; rintro e v3 ⟨a3, rfl, q1⟩; obtain ⟨g3, k3, rfl, _⟩ := owns_slice q1.row; have H3 : Hid (OwL 3 1 v2 v3 (.slice g3 l.length k3) l.length (l.map (Value.int .i64)) ∧ Below w.heap.size w v3) := ⟨q1, H2.out.2.trans (q1.bel.mono H2.out.2.size)⟩; have HI : Hid (IntsAt v3 (.slice g2 l.length k2) l ∧ IntsAt v3 (.slice g3 l.length k3) l) := ⟨owl_ints (H2.out.1.on q1.bel), owl_ints q1⟩; have hS3 : v3.cell? ⟨P, 2, none⟩ = some (.pointer (some ⟨T.t, 0, none⟩)) ∧ v3.cell? ⟨P, 3, none⟩ = some (.pointer (some ⟨U.u, 0, none⟩)) := ⟨(HC.out v3 H3.out.2).1, (HC.out v3 H3.out.2).2.1⟩; clear q1)
        | (go_at_call 37; refine (zsameInts v3 _ _ l l.length rfl (by have := HLn.out; omega) HI.out.1 HI.out.2).mono ?_; rintro e v4 ⟨rfl, q1⟩; have H4 : Hid (Below w.heap.size w v4) := H3.out.2.trans (q1.mono H3.out.2.size); have hS4 : v4.cell? ⟨P, 2, none⟩ = some (.pointer (some ⟨T.t, 0, none⟩)) ∧ v4.cell? ⟨P, 3, none⟩ = some (.pointer (some ⟨U.u, 0, none⟩)) := ⟨(HC.out v4 H4.out).1, (HC.out v4 H4.out).2.1⟩; clear q1)
        | fail)
      all_goals
        go_wp2
        go_ret
        exact ⟨rfl, H4.out⟩
end Go.Proofs.YtflienghgobmoaaGreatDoor
