import Derived.Test.YtdheojhfgeabhaaDoorKInK
import Derived.Test.YtdheojhfgeabhaaDoorKGeN
import Derived.Test.YtdheojhfgeabhaaDoorGeF
import Derived.Deep.OwnRows
namespace Go.Proofs.YtdheojhfgeabhaaDoor
open Go.RowKit Go.Maps Rec

/-- what the fixed law keeps beside its session -/
structure Kp9 (w : World) (T : Tx) (P X n : Nat) : Prop where
  geo : GeoAt w P n
  row : w.heap[X]? = some (.cells #[.int .i64 1, .int .i64 1, .int .i64 5, .int .i64 101, .int .i64 0, .int .i64 0, .int .i64 0, .int .i64 0, .int .i64 0, .int .i64 0, .int .i64 0, .int .i64 0, .int .i64 0, .int .i64 0, .int .i64 0] 24 (0, 0))
  aP : ¬ T.has P
  aX : ¬ T.has X
theorem Kp9.on {w w' : World} {T : Tx} {P X n : Nat} (h : Kp9 w T P X n) (hb : Below w.heap.size w w') : Kp9 w' T P X n := ⟨h.geo.on hb, (hb.block _ (heap_lt h.row)).trans h.row, h.aP, h.aX⟩
theorem Kp9.mv {w w' : World} {T T' : Tx} {P X n : Nat} (h : Kp9 w T P X n) (hm : TMv w T w' T') : Kp9 w' T' P X n :=
  ⟨hm.fr.heap h.geo h.aP, hm.fr.heap h.row h.aX, fun e => (hm.has _ e).elim h.aP (fun c => by have := heap_lt h.geo; omega), fun e => (hm.has _ e).elim h.aX (fun c => by have := heap_lt h.row; omega)⟩
structure Kb9 (w : World) (T : Tx) (g : Nat) : Prop where
  own : OwnB w g 64 (rby plR)
  ap : ¬ T.has g
theorem Kb9.on {w w' : World} {T : Tx} {g : Nat} (h : Kb9 w T g) (hb : Below w.heap.size w w') : Kb9 w' T g := ⟨h.own.on hb, h.ap⟩
theorem Kb9.mv {w w' : World} {T T' : Tx} {g : Nat} (h : Kb9 w T g) (hm : TMv w T w' T') : Kb9 w' T' g := ⟨h.own.fr hm.fr h.ap, fun e => (hm.has _ e).elim h.ap (fun c => by have := h.own.lt; omega)⟩
def hp1 : Nat → Nat → Int := upR (fun _ => z15) 8 plR
def hp2 : Nat → Nat → Int := upR hp1 1 plR
theorem plR_bd (i : Nat) : -9223372036854775808 ≤ plR i ∧ plR i ≤ 9223372036854775807 := by
  unfold plR
  repeat' split
  all_goals omega
theorem plR_use : inUs plR = true := by decide
theorem plR_may : rMay plR = true := by decide
theorem hp2_8 : hp2 8 = plR := by unfold hp2; rw [upR_other _ _ (by omega)]; unfold hp1; rw [upR_same]
theorem hp1_low : Lw (fun k => isFr (hp1 k)) 16 1 := .inr ⟨by omega, by omega, by decide, fun j h1 h2 => by omega⟩
theorem hp2_cnt : cf (fun k => isFr (hp2 k)) 16 = 13 := by decide
theorem nC128 : nC 128 = 16 := by decide
theorem plR_8 : nth (rby plR) 8 = 101 := by decide
set_option maxRecDepth 100000 in
set_option maxHeartbeats 8000000 in
theorem jfixed_any (w : World) (hT : TabAt w) : Calls Tryd.prog 4 #[] w fun e w' => e = .returned (.bool true) ∧ Below w.heap.size w w' := by
  have hptr := ptr_nil
  have hptT := ptr_nilT
  obtain ⟨n, hn⟩ : ∃ n : Nat, n = 128 := ⟨_, rfl⟩
  have HNew : Hid (Calls Tryd.prog 10 #[.int .i64 128] w fun e w' => ∃ D, e = .returned (.tuple #[.pointer (some ⟨D.d, 0, none⟩), .int .i64 0]) ∧ Mine w w' D ∧ D.full = zsA (512 * n) ∧ D.down = false ∧ D.nb = n) := by
    rw [hn]
    refine (new_rest w 128 (by omega) (by omega)).mono ?_
    rintro e w' ⟨D, l, rfl, hm, hr, hl, _⟩
    exact ⟨D, rfl, hm, hr.fullD.trans hl, hr.down, hr.size⟩
  have HOf : Hid (∀ wx, Calls Tryd.prog 11 #[.int .i64 128] wx fun e w' => e = .returned (.tuple #[.agg #[.int .i64 (n : Int), .int .i64 98, .int .i64 (gI n), .int .i64 (gD n), .int .i64 (gC n)], .int .i64 0]) ∧ Below wx.heap.size wx w') := fun wx => by
    rw [hn]; exact rof_ok wx 128 (by decide)
  have HBeg : Hid (∀ wx d, Calls Tryd.prog 12 #[.pointer (some ⟨d, 0, none⟩)] wx fun e w' => ∃ T, e = .returned (.pointer (some ⟨T.t, 0, none⟩)) ∧ TMine wx w' T ∧ T.d = d ∧ T.nb = n ∧ T.c = (fun _ => none) ∧ T.us = []) := fun wx d => begin_any wx d n (by omega)
  have HPl : Hid (∀ wx, Calls Tryd.prog 13 #[] wx fun e w' => e = .returned (.agg #[.int .i64 1, .int .i64 1, .int .i64 5, .int .i64 101, .int .i64 0, .int .i64 0, .int .i64 0, .int .i64 0, .int .i64 0, .int .i64 0, .int .i64 0, .int .i64 0, .int .i64 0, .int .i64 0, .int .i64 0]) ∧ Below wx.heap.size wx w') := fun wx => plain_any wx
  have HEn : Hid (∀ wx, Below w.heap.size w wx → Calls Tryd.prog 6 #[.agg #[.int .i64 1, .int .i64 1, .int .i64 5, .int .i64 101, .int .i64 0, .int .i64 0, .int .i64 0, .int .i64 0, .int .i64 0, .int .i64 0, .int .i64 0, .int .i64 0, .int .i64 0, .int .i64 0, .int .i64 0]] wx fun e w' => ∃ g, e = .returned (.tuple #[.slice (some ⟨g, 0, none⟩) 64 64, .int .i64 0]) ∧ wx.heap.size ≤ g ∧ OwnB w' g 64 (rby plR) ∧ Below wx.heap.size wx w') := fun wx hb => enc_ok wx plR plR_bd plR_may (hT.on hb)
  have HPut : Hid (∀ wx D T, Tb w wx D T n (fun _ => z15) 0 → Calls Tryd.prog 14 #[.pointer (some ⟨T.t, 0, none⟩), .agg #[.int .i64 (n : Int), .int .i64 98, .int .i64 (gI n), .int .i64 (gD n), .int .i64 (gC n)], .int .i64 8, .agg #[.int .i64 1, .int .i64 1, .int .i64 5, .int .i64 101, .int .i64 0, .int .i64 0, .int .i64 0, .int .i64 0, .int .i64 0, .int .i64 0, .int .i64 0, .int .i64 0, .int .i64 0, .int .i64 0, .int .i64 0]] wx fun e w' => e = .returned (.int .i64 0) ∧ ∃ T', T'.t = T.t ∧ Tb w w' D T' n hp1 1 ∧ TMv wx T w' T') := fun wx D T h => tput w wx D T n 0 _ h 8 (by omega) (by rw [hn, nC128]; omega) plR plR_bd plR_may (by omega) (by omega)
  have HTk : Hid (∀ wx D T t, T.t = t → Tb w wx D T n hp1 1 → Calls Tryd.prog 15 #[.pointer (some ⟨t, 0, none⟩), .agg #[.int .i64 (n : Int), .int .i64 98, .int .i64 (gI n), .int .i64 (gD n), .int .i64 (gC n)], .agg #[.int .i64 1, .int .i64 1, .int .i64 5, .int .i64 101, .int .i64 0, .int .i64 0, .int .i64 0, .int .i64 0, .int .i64 0, .int .i64 0, .int .i64 0, .int .i64 0, .int .i64 0, .int .i64 0, .int .i64 0]] wx fun e w' => e = .returned (.tuple #[.int .i64 1, .int .i64 0]) ∧ ∃ T', T'.t = t ∧ Tb w w' D T' n hp2 2 ∧ TMv wx T w' T') := fun wx D T t ht h => by
    subst ht
    exact ttake_ok w wx D T n 1 hp1 h 1 (by rw [hn, nC128]; exact hp1_low) (by omega) (by rw [hn, nC128]; omega) plR plR_bd plR_use (by omega) (by omega)
  have HGt : Hid (∀ wx D T t, T.t = t → Tb w wx D T n hp2 2 → Calls Tryd.prog 16 #[.pointer (some ⟨t, 0, none⟩), .agg #[.int .i64 (n : Int), .int .i64 98, .int .i64 (gI n), .int .i64 (gD n), .int .i64 (gC n)], .int .i64 8] wx fun e w' => e = .returned (.tuple #[.agg #[.int .i64 1, .int .i64 1, .int .i64 5, .int .i64 101, .int .i64 0, .int .i64 0, .int .i64 0, .int .i64 0, .int .i64 0, .int .i64 0, .int .i64 0, .int .i64 0, .int .i64 0, .int .i64 0, .int .i64 0], .int .i64 0]) ∧ Below wx.heap.size wx w') := fun wx D T t ht h => by
    subst ht
    have := tget w wx D T n 2 hp2 h 8 (by omega) (by rw [hn, nC128]; omega)
    rw [hp2_8] at this
    exact this
  have HFe : Hid (∀ wx D T t, T.t = t → Tb w wx D T n hp2 2 → Calls Tryd.prog 17 #[.pointer (some ⟨t, 0, none⟩), .agg #[.int .i64 (n : Int), .int .i64 98, .int .i64 (gI n), .int .i64 (gD n), .int .i64 (gC n)]] wx fun e w' => e = .returned (.tuple #[.int .i64 13, .int .i64 0]) ∧ Below wx.heap.size wx w') := fun wx D T t ht h => by
    subst ht
    have := tfree w wx D T n 2 hp2 h
    rw [hn, nC128, hp2_cnt] at this
    rw [hn]
    exact this
  have HD1 : Hid (∀ wx g cap, Below w.heap.size w wx → OwnB wx g cap (rby plR ++ [0]) → Calls Tryd.prog 9 #[.slice (some ⟨g, 0, none⟩) (64 + 1) cap] wx fun e w' => e = .returned (.tuple #[.agg #[.int .i64 0, .int .i64 0, .int .i64 0, .int .i64 0, .int .i64 0, .int .i64 0, .int .i64 0, .int .i64 0, .int .i64 0, .int .i64 0, .int .i64 0, .int .i64 0, .int .i64 0, .int .i64 0, .int .i64 0], .int .i64 32]) ∧ Below wx.heap.size wx w') := fun wx g cap hb ho => by
    have hl : (rby plR ++ [0]).length = 65 := by rw [List.length_append, rby_length]; rfl
    have hr := ho.room
    have := dec_any wx (some ⟨g, 0, none⟩) 65 cap _ hl ho.bytes (by omega) (hT.on hb)
    rw [decE_size (by omega), decX_ne (by rw [decE_size (by omega)]; omega)] at this
    exact this
  have HD2 : Hid (∀ wx g, Below w.heap.size w wx → OwnB wx g 64 (rby plR) → Calls Tryd.prog 9 #[.slice (some ⟨g, 0, none⟩) 64 64] wx fun e w' => e = .returned (.tuple #[.agg #[.int .i64 1, .int .i64 1, .int .i64 5, .int .i64 101, .int .i64 0, .int .i64 0, .int .i64 0, .int .i64 0, .int .i64 0, .int .i64 0, .int .i64 0, .int .i64 0, .int .i64 0, .int .i64 0, .int .i64 0], .int .i64 0]) ∧ Below wx.heap.size wx w') := fun wx g hb ho => by
    have := dec_any wx (some ⟨g, 0, none⟩) 64 64 _ (rby_length plR) ho.bytes (by omega) (hT.on hb)
    rw [decE_rby plR_may, inV_sm (decX_rby plR_may)] at this
    exact this
  have HT : Hid (TabAt w) := hT
  have HN : Hid (128 ≤ n ∧ n ≤ 16384) := ⟨by omega, by omega⟩
  have EQ : ∀ w, (binOp .eql 24 (.agg #[.int .i64 1, .int .i64 1, .int .i64 5, .int .i64 101, .int .i64 0, .int .i64 0, .int .i64 0, .int .i64 0, .int .i64 0, .int .i64 0, .int .i64 0, .int .i64 0, .int .i64 0, .int .i64 0, .int .i64 0]) (.agg #[.int .i64 1, .int .i64 1, .int .i64 5, .int .i64 101, .int .i64 0, .int .i64 0, .int .i64 0, .int .i64 0, .int .i64 0, .int .i64 0, .int .i64 0, .int .i64 0, .int .i64 0, .int .i64 0, .int .i64 0])).run Tryd.prog w = .ok (.bool true) w := fun w => by
    have := eqlI w plR plR
    rw [smB_iff.2 Sm.rfl] at this
    exact this
  clear hT hn
  go_enter Tryd.func4, Tryd.ntmps4
  go_upto_region 5 with (first
    | (go_at_call 10; refine HNew.out.mono ?_; rintro e w1 ⟨D, rfl, h1, h2, h3, h4⟩; have H1 : Hid (Mine w w1 D ∧ D.full = zsA (512 * n) ∧ D.down = false ∧ D.nb = n) := ⟨h1, h2, h3, h4⟩; clear h1 h2 h3 h4 HNew)
    | (go_at_call 11; refine (HOf.out _).mono ?_; rintro e w2 ⟨rfl, h1⟩; have H2 : Hid (Below w1.heap.size w1 w2) := h1; clear h1 HOf))
  obtain ⟨P, hP⟩ : ∃ P, w2.heap.size = P := ⟨_, rfl⟩
  obtain ⟨w3, hw3⟩ : ∃ w3, w2.alloc (.cells #[.int .i64 (n : Int), .int .i64 98, .int .i64 (gI n), .int .i64 (gD n), .int .i64 (gC n)] 40) = w3 := ⟨_, rfl⟩
  have H3 : Hid (Below w1.heap.size w1 w3 ∧ GeoAt w3 P n) := by
    rw [← hw3, ← hP]
    exact ⟨H2.out.alloc H2.out.size _, heap_alloc_new _ _⟩
  rw [hw3, hP]
  clear hw3
  as_aux_lemma =>
    go_upto_region 9 with (first
      | (go_at_call 12; refine (HBeg.out _ _).mono ?_; rintro e w4 ⟨T, rfl, h1, h2, h3, h4, h5⟩; have H4 : Hid (Tb w w4 D T n (fun _ => z15) 0 ∧ GeoAt w4 P n ∧ ¬ T.has P ∧ ∀ k, T.has k → k < w4.heap.size) := (by have hs := ses_begin (H1.out.1.on H3.out.1) h1 h2 (h3.trans H1.out.2.2.2.symm); exact ⟨tb_start HT.out hs H1.out.2.1 H1.out.2.2.1 h4 h5 h3 HN.out.1 HN.out.2, H3.out.2.on h1.bel, fun e => (by have := h1.far P (.inl e); have := heap_lt H3.out.2; omega), fun k hk => h1.at_.lt (.inl hk)⟩); clear h1 h2 h3 h4 h5 HBeg)
      | (go_at_call 13; refine (HPl.out _).mono ?_; rintro e w5 ⟨rfl, h1⟩; have H5 : Hid (Below w4.heap.size w4 w5) := h1; clear h1 HPl))
    obtain ⟨X, hX⟩ : ∃ X, w5.heap.size = X := ⟨_, rfl⟩
    obtain ⟨w6, hw6⟩ : ∃ w6, w5.alloc (.cells #[.int .i64 1, .int .i64 1, .int .i64 5, .int .i64 101, .int .i64 0, .int .i64 0, .int .i64 0, .int .i64 0, .int .i64 0, .int .i64 0, .int .i64 0, .int .i64 0, .int .i64 0, .int .i64 0, .int .i64 0] 24) = w6 := ⟨_, rfl⟩
    have H6 : Hid (Tb w w6 D T n (fun _ => z15) 0 ∧ Kp9 w6 T P X n) := by
      have hb : Below w4.heap.size w4 w6 := by rw [← hw6]; exact H5.out.alloc H5.out.size _
      refine ⟨H4.out.1.on hb, H4.out.2.1.on hb, ?_, H4.out.2.2.1, fun e => ?_⟩
      · rw [← hw6, ← hX]; exact heap_alloc_new _ _
      · have := H4.out.2.2.2 X e
        have := H5.out.size
        omega
    rw [hw6, hX]
    clear hw6
    have hr6 := H6.out.2.row
    obtain ⟨g0, g1, g2, g3, g4⟩ := H6.out.2.geo.cells
    have a0 : w6.cell? ⟨X, 0, none⟩ = some (.int .i64 1) := cell_of_row _ _ 0 _ _ _ hr6; have a1 : w6.cell? ⟨X, 1, none⟩ = some (.int .i64 1) := cell_of_row _ _ 1 _ _ _ hr6; have a2 : w6.cell? ⟨X, 2, none⟩ = some (.int .i64 5) := cell_of_row _ _ 2 _ _ _ hr6; have a3 : w6.cell? ⟨X, 3, none⟩ = some (.int .i64 101) := cell_of_row _ _ 3 _ _ _ hr6; have a4 : w6.cell? ⟨X, 4, none⟩ = some (.int .i64 0) := cell_of_row _ _ 4 _ _ _ hr6; have a5 : w6.cell? ⟨X, 5, none⟩ = some (.int .i64 0) := cell_of_row _ _ 5 _ _ _ hr6; have a6 : w6.cell? ⟨X, 6, none⟩ = some (.int .i64 0) := cell_of_row _ _ 6 _ _ _ hr6; have a7 : w6.cell? ⟨X, 7, none⟩ = some (.int .i64 0) := cell_of_row _ _ 7 _ _ _ hr6; have a8 : w6.cell? ⟨X, 8, none⟩ = some (.int .i64 0) := cell_of_row _ _ 8 _ _ _ hr6; have a9 : w6.cell? ⟨X, 9, none⟩ = some (.int .i64 0) := cell_of_row _ _ 9 _ _ _ hr6; have a10 : w6.cell? ⟨X, 10, none⟩ = some (.int .i64 0) := cell_of_row _ _ 10 _ _ _ hr6; have a11 : w6.cell? ⟨X, 11, none⟩ = some (.int .i64 0) := cell_of_row _ _ 11 _ _ _ hr6; have a12 : w6.cell? ⟨X, 12, none⟩ = some (.int .i64 0) := cell_of_row _ _ 12 _ _ _ hr6; have a13 : w6.cell? ⟨X, 13, none⟩ = some (.int .i64 0) := cell_of_row _ _ 13 _ _ _ hr6; have a14 : w6.cell? ⟨X, 14, none⟩ = some (.int .i64 0) := cell_of_row _ _ 14 _ _ _ hr6
    clear hr6
    as_aux_lemma =>
      go_upto_region 12 with (first
        | (go_at_call 6; refine (HEn.out _ H6.out.1.spc.ses.bel).mono ?_; rintro e w7 ⟨gb, rfl, h1, h2, h3⟩; have H7 : Hid (Tb w w7 D T n (fun _ => z15) 0 ∧ Kp9 w7 T P X n ∧ Kb9 w7 T gb) := ⟨H6.out.1.on h3, H6.out.2.on h3, h2, fun e => (by have := H6.out.1.spc.ses.tx.lt (.inl e); omega)⟩; have hr := H7.out.2.1.row; obtain ⟨i0, i1, i2, i3, i4⟩ := H7.out.2.1.geo.cells; have b0 : w7.cell? ⟨X, 0, none⟩ = some (.int .i64 1) := cell_of_row _ _ 0 _ _ _ hr; have b1 : w7.cell? ⟨X, 1, none⟩ = some (.int .i64 1) := cell_of_row _ _ 1 _ _ _ hr; have b2 : w7.cell? ⟨X, 2, none⟩ = some (.int .i64 5) := cell_of_row _ _ 2 _ _ _ hr; have b3 : w7.cell? ⟨X, 3, none⟩ = some (.int .i64 101) := cell_of_row _ _ 3 _ _ _ hr; have b4 : w7.cell? ⟨X, 4, none⟩ = some (.int .i64 0) := cell_of_row _ _ 4 _ _ _ hr; have b5 : w7.cell? ⟨X, 5, none⟩ = some (.int .i64 0) := cell_of_row _ _ 5 _ _ _ hr; have b6 : w7.cell? ⟨X, 6, none⟩ = some (.int .i64 0) := cell_of_row _ _ 6 _ _ _ hr; have b7 : w7.cell? ⟨X, 7, none⟩ = some (.int .i64 0) := cell_of_row _ _ 7 _ _ _ hr; have b8 : w7.cell? ⟨X, 8, none⟩ = some (.int .i64 0) := cell_of_row _ _ 8 _ _ _ hr; have b9 : w7.cell? ⟨X, 9, none⟩ = some (.int .i64 0) := cell_of_row _ _ 9 _ _ _ hr; have b10 : w7.cell? ⟨X, 10, none⟩ = some (.int .i64 0) := cell_of_row _ _ 10 _ _ _ hr; have b11 : w7.cell? ⟨X, 11, none⟩ = some (.int .i64 0) := cell_of_row _ _ 11 _ _ _ hr; have b12 : w7.cell? ⟨X, 12, none⟩ = some (.int .i64 0) := cell_of_row _ _ 12 _ _ _ hr; have b13 : w7.cell? ⟨X, 13, none⟩ = some (.int .i64 0) := cell_of_row _ _ 13 _ _ _ hr; have b14 : w7.cell? ⟨X, 14, none⟩ = some (.int .i64 0) := cell_of_row _ _ 14 _ _ _ hr; clear h1 h2 h3 hr HEn)
        | (go_at_call 14; refine (HPut.out _ D T H7.out.1).mono ?_; rintro e w8 ⟨rfl, T1, ht1, h1, h2⟩; have H8 : Hid (T1.t = T.t ∧ Tb w w8 D T1 n hp1 1 ∧ Kp9 w8 T1 P X n ∧ Kb9 w8 T1 gb) := ⟨ht1, h1, H7.out.2.1.mv h2, H7.out.2.2.mv h2⟩; have hr := H8.out.2.2.1.row; obtain ⟨j0, j1, j2, j3, j4⟩ := H8.out.2.2.1.geo.cells; have c0 : w8.cell? ⟨X, 0, none⟩ = some (.int .i64 1) := cell_of_row _ _ 0 _ _ _ hr; have c1 : w8.cell? ⟨X, 1, none⟩ = some (.int .i64 1) := cell_of_row _ _ 1 _ _ _ hr; have c2 : w8.cell? ⟨X, 2, none⟩ = some (.int .i64 5) := cell_of_row _ _ 2 _ _ _ hr; have c3 : w8.cell? ⟨X, 3, none⟩ = some (.int .i64 101) := cell_of_row _ _ 3 _ _ _ hr; have c4 : w8.cell? ⟨X, 4, none⟩ = some (.int .i64 0) := cell_of_row _ _ 4 _ _ _ hr; have c5 : w8.cell? ⟨X, 5, none⟩ = some (.int .i64 0) := cell_of_row _ _ 5 _ _ _ hr; have c6 : w8.cell? ⟨X, 6, none⟩ = some (.int .i64 0) := cell_of_row _ _ 6 _ _ _ hr; have c7 : w8.cell? ⟨X, 7, none⟩ = some (.int .i64 0) := cell_of_row _ _ 7 _ _ _ hr; have c8 : w8.cell? ⟨X, 8, none⟩ = some (.int .i64 0) := cell_of_row _ _ 8 _ _ _ hr; have c9 : w8.cell? ⟨X, 9, none⟩ = some (.int .i64 0) := cell_of_row _ _ 9 _ _ _ hr; have c10 : w8.cell? ⟨X, 10, none⟩ = some (.int .i64 0) := cell_of_row _ _ 10 _ _ _ hr; have c11 : w8.cell? ⟨X, 11, none⟩ = some (.int .i64 0) := cell_of_row _ _ 11 _ _ _ hr; have c12 : w8.cell? ⟨X, 12, none⟩ = some (.int .i64 0) := cell_of_row _ _ 12 _ _ _ hr; have c13 : w8.cell? ⟨X, 13, none⟩ = some (.int .i64 0) := cell_of_row _ _ 13 _ _ _ hr; have c14 : w8.cell? ⟨X, 14, none⟩ = some (.int .i64 0) := cell_of_row _ _ 14 _ _ _ hr; clear ht1 h1 h2 hr HPut)
        | (go_at_call 15; refine (HTk.out _ D T1 _ H8.out.1 H8.out.2.1).mono ?_; rintro e w9 ⟨rfl, T2, ht1, h1, h2⟩; have H9 : Hid (T2.t = T.t ∧ Tb w w9 D T2 n hp2 2 ∧ Kp9 w9 T2 P X n ∧ Kb9 w9 T2 gb) := ⟨ht1, h1, H8.out.2.2.1.mv h2, H8.out.2.2.2.mv h2⟩; obtain ⟨k0, k1, k2, k3, k4⟩ := H9.out.2.2.1.geo.cells; clear ht1 h1 h2 HTk))
      as_aux_lemma =>
        go_upto_region 13 with (go_at_call 16; refine (HGt.out _ D T2 _ H9.out.1 H9.out.2.1).mono ?_; rintro e wa ⟨rfl, h1⟩; have HA : Hid (Below w9.heap.size w9 wa) := h1; clear h1 HGt)
        obtain ⟨Y, hY⟩ : ∃ Y, wa.heap.size = Y := ⟨_, rfl⟩
        obtain ⟨wb, hwb⟩ : ∃ wb, wa.alloc (.cells #[.int .i64 1, .int .i64 1, .int .i64 5, .int .i64 101, .int .i64 0, .int .i64 0, .int .i64 0, .int .i64 0, .int .i64 0, .int .i64 0, .int .i64 0, .int .i64 0, .int .i64 0, .int .i64 0, .int .i64 0] 24) = wb := ⟨_, rfl⟩
        have HB : Hid (Below w9.heap.size w9 wb ∧ wb.heap[Y]? = some (.cells #[.int .i64 1, .int .i64 1, .int .i64 5, .int .i64 101, .int .i64 0, .int .i64 0, .int .i64 0, .int .i64 0, .int .i64 0, .int .i64 0, .int .i64 0, .int .i64 0, .int .i64 0, .int .i64 0, .int .i64 0] 24 (0, 0))) := by
          rw [← hwb, ← hY]; exact ⟨HA.out.alloc HA.out.size _, heap_alloc_new _ _⟩
        rw [hwb, hY]
        clear hwb
        obtain ⟨m0, m1, m2, m3, m4⟩ := (H9.out.2.2.1.on HB.out.1).geo.cells
        go_upto_region 14 with (go_at_call 17; refine (HFe.out _ D T2 _ H9.out.1 (H9.out.2.1.on HB.out.1)).mono ?_; rintro e wc ⟨rfl, h1⟩; have HC : Hid (Below w9.heap.size w9 wc ∧ wc.heap[Y]? = some (.cells #[.int .i64 1, .int .i64 1, .int .i64 5, .int .i64 101, .int .i64 0, .int .i64 0, .int .i64 0, .int .i64 0, .int .i64 0, .int .i64 0, .int .i64 0, .int .i64 0, .int .i64 0, .int .i64 0, .int .i64 0] 24 (0, 0))) := ⟨HB.out.1.trans (h1.mono HB.out.1.size), (h1.block _ (heap_lt HB.out.2)).trans HB.out.2⟩; clear h1 HFe)
        as_aux_lemma =>
          go_upto_region 15 with (first
            | (at_builtin; refine wp_full7 (w1 := wc) rfl (.tmp 72) (.tmp 73) rfl gb 64 (rby plR) 0 (by omega) (rby_length plR) rfl rfl (H9.out.2.2.2.own.on HC.out.1) (by omega) ?_; intro g' cap' wd hg ho hb; have HDd : Hid (Below wc.heap.size wc wd ∧ OwnB wd g' cap' (rby plR ++ [0])) := ⟨hb, ho⟩; clear hg ho hb)
            | (go_at_call 9; have hh := HD1.out; clear hh; refine (HD1.out _ g' cap' (H9.out.2.1.spc.ses.bel.trans ((HC.out.1.trans (HDd.out.1.mono HC.out.1.size)).mono H9.out.2.1.spc.ses.bel.size)) HDd.out.2).mono ?_; rintro e we ⟨rfl, h1⟩; have HE : Hid (Below w9.heap.size w9 we ∧ we.heap[Y]? = some (.cells #[.int .i64 1, .int .i64 1, .int .i64 5, .int .i64 101, .int .i64 0, .int .i64 0, .int .i64 0, .int .i64 0, .int .i64 0, .int .i64 0, .int .i64 0, .int .i64 0, .int .i64 0, .int .i64 0, .int .i64 0] 24 (0, 0))) := (by have hq := HC.out.1.trans (HDd.out.1.mono HC.out.1.size); have hy := (HDd.out.1.block _ (heap_lt HC.out.2)).trans HC.out.2; exact ⟨hq.trans (h1.mono hq.size), (h1.block _ (heap_lt hy)).trans hy⟩); clear h1 HD1))
          obtain ⟨wf, hwf⟩ : ∃ wf, we.alloc (.cells #[.int .i64 0, .int .i64 0, .int .i64 0, .int .i64 0, .int .i64 0, .int .i64 0, .int .i64 0, .int .i64 0, .int .i64 0, .int .i64 0, .int .i64 0, .int .i64 0, .int .i64 0, .int .i64 0, .int .i64 0] 24) = wf := ⟨_, rfl⟩
          have HF : Hid (Below w9.heap.size w9 wf ∧ wf.heap[Y]? = some (.cells #[.int .i64 1, .int .i64 1, .int .i64 5, .int .i64 101, .int .i64 0, .int .i64 0, .int .i64 0, .int .i64 0, .int .i64 0, .int .i64 0, .int .i64 0, .int .i64 0, .int .i64 0, .int .i64 0, .int .i64 0] 24 (0, 0))) := by
            have ha : Below we.heap.size we wf := by rw [← hwf]; exact (Below.refl _ _).alloc (Nat.le_refl _) _
            exact ⟨HE.out.1.trans (ha.mono HE.out.1.size), (ha.block _ (heap_lt HE.out.2)).trans HE.out.2⟩
          rw [hwf]
          clear hwf
          as_aux_lemma =>
            go_upto_region 16 with (go_at_call 9; refine (HD2.out _ gb (H9.out.2.1.spc.ses.bel.trans (HF.out.1.mono H9.out.2.1.spc.ses.bel.size)) (H9.out.2.2.2.own.on HF.out.1)).mono ?_; rintro e wg ⟨rfl, h1⟩; have HGg : Hid (Below w9.heap.size w9 wg ∧ wg.heap[Y]? = some (.cells #[.int .i64 1, .int .i64 1, .int .i64 5, .int .i64 101, .int .i64 0, .int .i64 0, .int .i64 0, .int .i64 0, .int .i64 0, .int .i64 0, .int .i64 0, .int .i64 0, .int .i64 0, .int .i64 0, .int .i64 0] 24 (0, 0))) := ⟨HF.out.1.trans (h1.mono HF.out.1.size), (h1.block _ (heap_lt HF.out.2)).trans HF.out.2⟩; clear h1 HD2)
            obtain ⟨Z, hZ⟩ : ∃ Z, wg.heap.size = Z := ⟨_, rfl⟩
            obtain ⟨wh, hwh⟩ : ∃ wh, wg.alloc (.cells #[.int .i64 1, .int .i64 1, .int .i64 5, .int .i64 101, .int .i64 0, .int .i64 0, .int .i64 0, .int .i64 0, .int .i64 0, .int .i64 0, .int .i64 0, .int .i64 0, .int .i64 0, .int .i64 0, .int .i64 0] 24) = wh := ⟨_, rfl⟩
            have HH : Hid (Below w9.heap.size w9 wh ∧ wh.heap[Y]? = some (.cells #[.int .i64 1, .int .i64 1, .int .i64 5, .int .i64 101, .int .i64 0, .int .i64 0, .int .i64 0, .int .i64 0, .int .i64 0, .int .i64 0, .int .i64 0, .int .i64 0, .int .i64 0, .int .i64 0, .int .i64 0] 24 (0, 0)) ∧ wh.heap[Z]? = some (.cells #[.int .i64 1, .int .i64 1, .int .i64 5, .int .i64 101, .int .i64 0, .int .i64 0, .int .i64 0, .int .i64 0, .int .i64 0, .int .i64 0, .int .i64 0, .int .i64 0, .int .i64 0, .int .i64 0, .int .i64 0] 24 (0, 0))) := by
              have ha : Below wg.heap.size wg wh := by rw [← hwh]; exact (Below.refl _ _).alloc (Nat.le_refl _) _
              refine ⟨HGg.out.1.trans (ha.mono HGg.out.1.size), (ha.block _ (heap_lt HGg.out.2)).trans HGg.out.2, ?_⟩
              rw [← hwh, ← hZ]; exact heap_alloc_new _ _
            rw [hwh, hZ]
            clear hwh
            as_aux_lemma =>
              have hrX := (H9.out.2.2.1.on HH.out.1).row
              have x0 : wh.cell? ⟨X, 0, none⟩ = some (.int .i64 1) := cell_of_row _ _ 0 _ _ _ hrX; have x1 : wh.cell? ⟨X, 1, none⟩ = some (.int .i64 1) := cell_of_row _ _ 1 _ _ _ hrX; have x2 : wh.cell? ⟨X, 2, none⟩ = some (.int .i64 5) := cell_of_row _ _ 2 _ _ _ hrX; have x3 : wh.cell? ⟨X, 3, none⟩ = some (.int .i64 101) := cell_of_row _ _ 3 _ _ _ hrX; have x4 : wh.cell? ⟨X, 4, none⟩ = some (.int .i64 0) := cell_of_row _ _ 4 _ _ _ hrX; have x5 : wh.cell? ⟨X, 5, none⟩ = some (.int .i64 0) := cell_of_row _ _ 5 _ _ _ hrX; have x6 : wh.cell? ⟨X, 6, none⟩ = some (.int .i64 0) := cell_of_row _ _ 6 _ _ _ hrX; have x7 : wh.cell? ⟨X, 7, none⟩ = some (.int .i64 0) := cell_of_row _ _ 7 _ _ _ hrX; have x8 : wh.cell? ⟨X, 8, none⟩ = some (.int .i64 0) := cell_of_row _ _ 8 _ _ _ hrX; have x9 : wh.cell? ⟨X, 9, none⟩ = some (.int .i64 0) := cell_of_row _ _ 9 _ _ _ hrX; have x10 : wh.cell? ⟨X, 10, none⟩ = some (.int .i64 0) := cell_of_row _ _ 10 _ _ _ hrX; have x11 : wh.cell? ⟨X, 11, none⟩ = some (.int .i64 0) := cell_of_row _ _ 11 _ _ _ hrX; have x12 : wh.cell? ⟨X, 12, none⟩ = some (.int .i64 0) := cell_of_row _ _ 12 _ _ _ hrX; have x13 : wh.cell? ⟨X, 13, none⟩ = some (.int .i64 0) := cell_of_row _ _ 13 _ _ _ hrX; have x14 : wh.cell? ⟨X, 14, none⟩ = some (.int .i64 0) := cell_of_row _ _ 14 _ _ _ hrX
              have y0 : wh.cell? ⟨Y, 0, none⟩ = some (.int .i64 1) := cell_of_row _ _ 0 _ _ _ HH.out.2.1; have y1 : wh.cell? ⟨Y, 1, none⟩ = some (.int .i64 1) := cell_of_row _ _ 1 _ _ _ HH.out.2.1; have y2 : wh.cell? ⟨Y, 2, none⟩ = some (.int .i64 5) := cell_of_row _ _ 2 _ _ _ HH.out.2.1; have y3 : wh.cell? ⟨Y, 3, none⟩ = some (.int .i64 101) := cell_of_row _ _ 3 _ _ _ HH.out.2.1; have y4 : wh.cell? ⟨Y, 4, none⟩ = some (.int .i64 0) := cell_of_row _ _ 4 _ _ _ HH.out.2.1; have y5 : wh.cell? ⟨Y, 5, none⟩ = some (.int .i64 0) := cell_of_row _ _ 5 _ _ _ HH.out.2.1; have y6 : wh.cell? ⟨Y, 6, none⟩ = some (.int .i64 0) := cell_of_row _ _ 6 _ _ _ HH.out.2.1; have y7 : wh.cell? ⟨Y, 7, none⟩ = some (.int .i64 0) := cell_of_row _ _ 7 _ _ _ HH.out.2.1; have y8 : wh.cell? ⟨Y, 8, none⟩ = some (.int .i64 0) := cell_of_row _ _ 8 _ _ _ HH.out.2.1; have y9 : wh.cell? ⟨Y, 9, none⟩ = some (.int .i64 0) := cell_of_row _ _ 9 _ _ _ HH.out.2.1; have y10 : wh.cell? ⟨Y, 10, none⟩ = some (.int .i64 0) := cell_of_row _ _ 10 _ _ _ HH.out.2.1; have y11 : wh.cell? ⟨Y, 11, none⟩ = some (.int .i64 0) := cell_of_row _ _ 11 _ _ _ HH.out.2.1; have y12 : wh.cell? ⟨Y, 12, none⟩ = some (.int .i64 0) := cell_of_row _ _ 12 _ _ _ HH.out.2.1; have y13 : wh.cell? ⟨Y, 13, none⟩ = some (.int .i64 0) := cell_of_row _ _ 13 _ _ _ HH.out.2.1; have y14 : wh.cell? ⟨Y, 14, none⟩ = some (.int .i64 0) := cell_of_row _ _ 14 _ _ _ HH.out.2.1
              have z0 : wh.cell? ⟨Z, 0, none⟩ = some (.int .i64 1) := cell_of_row _ _ 0 _ _ _ HH.out.2.2; have z1 : wh.cell? ⟨Z, 1, none⟩ = some (.int .i64 1) := cell_of_row _ _ 1 _ _ _ HH.out.2.2; have z2 : wh.cell? ⟨Z, 2, none⟩ = some (.int .i64 5) := cell_of_row _ _ 2 _ _ _ HH.out.2.2; have z3 : wh.cell? ⟨Z, 3, none⟩ = some (.int .i64 101) := cell_of_row _ _ 3 _ _ _ HH.out.2.2; have z4 : wh.cell? ⟨Z, 4, none⟩ = some (.int .i64 0) := cell_of_row _ _ 4 _ _ _ HH.out.2.2; have z5 : wh.cell? ⟨Z, 5, none⟩ = some (.int .i64 0) := cell_of_row _ _ 5 _ _ _ HH.out.2.2; have z6 : wh.cell? ⟨Z, 6, none⟩ = some (.int .i64 0) := cell_of_row _ _ 6 _ _ _ HH.out.2.2; have z7 : wh.cell? ⟨Z, 7, none⟩ = some (.int .i64 0) := cell_of_row _ _ 7 _ _ _ HH.out.2.2; have z8 : wh.cell? ⟨Z, 8, none⟩ = some (.int .i64 0) := cell_of_row _ _ 8 _ _ _ HH.out.2.2; have z9 : wh.cell? ⟨Z, 9, none⟩ = some (.int .i64 0) := cell_of_row _ _ 9 _ _ _ HH.out.2.2; have z10 : wh.cell? ⟨Z, 10, none⟩ = some (.int .i64 0) := cell_of_row _ _ 10 _ _ _ HH.out.2.2; have z11 : wh.cell? ⟨Z, 11, none⟩ = some (.int .i64 0) := cell_of_row _ _ 11 _ _ _ HH.out.2.2; have z12 : wh.cell? ⟨Z, 12, none⟩ = some (.int .i64 0) := cell_of_row _ _ 12 _ _ _ HH.out.2.2; have z13 : wh.cell? ⟨Z, 13, none⟩ = some (.int .i64 0) := cell_of_row _ _ 13 _ _ _ HH.out.2.2; have z14 : wh.cell? ⟨Z, 14, none⟩ = some (.int .i64 0) := cell_of_row _ _ 14 _ _ _ HH.out.2.2
              have hb8 : wh.cell? ⟨gb, 8, none⟩ = some (.int .u8 101) := by
                have := (H9.out.2.2.2.own.on HH.out.1).cell 8 (by rw [rby_length]; omega)
                rw [plR_8] at this
                exact this
              go_wp2
              go_ret
              exact ⟨rfl, H9.out.2.1.spc.ses.bel.trans (HH.out.1.mono H9.out.2.1.spc.ses.bel.size)⟩
end Go.Proofs.YtdheojhfgeabhaaDoor

namespace Go.Proofs.YtdheojhfgeabhaaDoor
open Go.RowKit Go.Maps Rec

theorem info_ino : (Tryd.prog.info? 24).map (fun i => (i.zero, i.size, i.bytes)) = some (some (inV z15), 15, 120) := by kernel_rfl
end Go.Proofs.YtdheojhfgeabhaaDoor
