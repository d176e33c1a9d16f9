import Derived.Test.YtmgonolliccjaaaDoorSnS
import Derived.Deep.CutBlock
namespace Go.Proofs.YtmgonolliccjaaaDoor
open Go.RowKit Rec Sc
theorem noC (p : Int) (nm : ByteArray) (b : ET) : (eC (noL p nm b)).toArray = #[.int .i64 (-1 - b.1 % 1073741824), .string ⟨#[97]⟩, .int .i64 1, .int .i64 (16 + b.1 % 1073741824), .string ⟨#[97]⟩, .int .i64 1, .int .i64 p, .string nm, .int .i64 0, .int .i64 p, .string nm, .int .i64 (-1 - b.2.2 % 1073741824), .int .i64 p, .string nm, .int .i64 (4294967296 + b.2.2 % 1073741824), .int .i64 p, .string ⟨#[]⟩, .int .i64 1, .int .i64 p, .string ⟨#[46]⟩, .int .i64 1, .int .i64 p, .string ⟨#[46, 46]⟩, .int .i64 1, .int .i64 p, .string (⟨#[97, 47]⟩ ++ b.2.1), .int .i64 1, .int .i64 p, .string (b.2.1 ++ ⟨#[0]⟩), .int .i64 1, .int .i64 p, .string ⟨#[49, 50, 51, 52, 53, 54, 55, 56, 57, 48, 49, 50, 51, 52, 53, 54, 55, 56, 57, 48, 49, 50, 51, 52, 53, 54, 55, 56]⟩, .int .i64 1] := rfl
theorem OwnE.ofNo {w : World} {nb : Nat} {p : Int} {nm : ByteArray} {b : ET} (h : w.heap[nb]? = some (.cells #[.int .i64 (-1 - b.1 % 1073741824), .string ⟨#[97]⟩, .int .i64 1, .int .i64 (16 + b.1 % 1073741824), .string ⟨#[97]⟩, .int .i64 1, .int .i64 p, .string nm, .int .i64 0, .int .i64 p, .string nm, .int .i64 (-1 - b.2.2 % 1073741824), .int .i64 p, .string nm, .int .i64 (4294967296 + b.2.2 % 1073741824), .int .i64 p, .string ⟨#[]⟩, .int .i64 1, .int .i64 p, .string ⟨#[46]⟩, .int .i64 1, .int .i64 p, .string ⟨#[46, 46]⟩, .int .i64 1, .int .i64 p, .string (⟨#[97, 47]⟩ ++ b.2.1), .int .i64 1, .int .i64 p, .string (b.2.1 ++ ⟨#[0]⟩), .int .i64 1, .int .i64 p, .string ⟨#[49, 50, 51, 52, 53, 54, 55, 56, 57, 48, 49, 50, 51, 52, 53, 54, 55, 56, 57, 48, 49, 50, 51, 52, 53, 54, 55, 56]⟩, .int .i64 1] 27 (0, 0))) : OwnE w nb 11 (noL p nm b) := by
  rw [← noC] at h
  refine ⟨⟨_, h, rfl, ?_⟩, Nat.le_refl _, by unfold maxLen; omega⟩
  rw [List.take_of_length_le (by rw [eC_len]; omega)]
set_option maxRecDepth 100000 in
set_option maxHeartbeats 16000000 in
theorem refused_any (w : World) (a : Option Addr) (n c : Nat) (L : List Int) (cc : CT) (bd : ET) (hB : Bytes w a L) (hn : L.length = n) (hcs : cc.2.2.2.size ≤ 9223372036854775807) (hbs : bd.2.1.size ≤ 1000000000000000) (hT : TabAt w) :
    Calls Tryd.prog 5 #[.slice a n c, .agg #[.int .i64 cc.1, .int .i64 cc.2.1, .int .i64 cc.2.2.1, .string cc.2.2.2], .agg #[.int .i64 bd.1, .string bd.2.1, .int .i64 bd.2.2]] w fun e w' => e = .returned (.bool true) ∧ Below w.heap.size w w' := by
  obtain ⟨o, E, hO⟩ := make512
  have HO : Hid (∀ w : World, OwnB (w.alloc o) w.heap.size 512 z512) := hO
  have hln : n ≤ 1000000000000000 := by rw [← hn]; exact hB.len
  obtain ⟨P, hP⟩ : ∃ P, w.heap.size = P := ⟨_, rfl⟩
  obtain ⟨wb, hwb⟩ : ∃ wb, (w.alloc (.cells #[.int .i64 cc.1, .int .i64 cc.2.1, .int .i64 cc.2.2.1, .string cc.2.2.2] 30)).alloc (.cells #[.int .i64 bd.1, .string bd.2.1, .int .i64 bd.2.2] 27) = wb := ⟨_, rfl⟩
  have HBb : Hid (Below w.heap.size w wb ∧ wb.heap.size = P + 2 ∧ Bx wb P cc bd) := by
    rw [← hwb, ← hP]
    refine ⟨((Below.refl _ _).alloc (Nat.le_refl _) _).alloc (by simp) _, by simp, ?_, ?_⟩
    · rw [Below.heap_alloc _ _ _ (by simp)]; exact heap_alloc_new _ _
    · have := heap_alloc_new (w.alloc (.cells #[.int .i64 cc.1, .int .i64 cc.2.1, .int .i64 cc.2.2.1, .string cc.2.2.2] 30)) (.cells #[.int .i64 bd.1, .string bd.2.1, .int .i64 bd.2.2] 27)
      rw [World.size_alloc] at this
      exact this
  have HF : Hid (Calls Tryd.prog 8 #[] wb fun e w' => e = .returned (.bool true) ∧ Below wb.heap.size wb w') := sfixed_any wb (hT.on HBb.out.1)
  have HT : Hid (TabAt w) := hT
  have HB : Hid (Bytes w a L) := hB
  have HM : Hid (∀ (wx : World) (v : Int), Calls Tryd.prog 11 #[.int .i64 v, .int .i64 1073741824] wx fun e w' => e = .returned (.int .i64 (v % 1073741824)) ∧ wx = w') := fun wx v => modI_any wx v 1073741824 (by omega) (by omega)
  clear hO hT hB
  go_enter Tryd.func5, Tryd.ntmps5
  go_upto_block 0 with (first
    | (go_at_call 8; refine HF.out.mono ?_; rintro e w1 ⟨rfl, hb1⟩; have HB1 : Hid (Below w.heap.size w w1 ∧ P + 2 ≤ w1.heap.size ∧ Bx w1 P cc bd) := ⟨HBb.out.1.trans (hb1.mono HBb.out.1.size), by rw [← HBb.out.2.1]; exact hb1.size, HBb.out.2.2.on hb1⟩; clear hb1))
  clear HF HBb hwb
  obtain ⟨q, hq⟩ : ∃ q, w1.heap.size = q := ⟨_, rfl⟩
  obtain ⟨w2, hw2⟩ : ∃ w2, w1.alloc o = w2 := ⟨_, rfl⟩
  have hqP : P + 2 ≤ q := by rw [← hq]; exact HB1.out.2.1
  have H2 : Hid (OwnB w2 q 512 z512 ∧ Below w.heap.size w w2 ∧ Bx w2 P cc bd) := by
    have h1 : Below w1.heap.size w1 (w1.alloc o) := (Below.refl _ _).alloc (Nat.le_refl _) _
    rw [← hw2, ← hq]
    exact ⟨HO.out w1, HB1.out.1.trans (h1.mono HB1.out.1.size), HB1.out.2.2.on h1⟩
  rw [hw2, hq]
  clear hw2 hq HB1 HO E
  go_cut [] (fun wx => ∃ M : List Int, M.length = 512 ∧ OwnB wx q 512 M ∧ Below w.heap.size w wx ∧ Bx wx P cc bd)
  case first => as_aux_lemma =>
    go_wp2
    go_loopw [8] (fun i wr => ∃ (k : Nat) (M : List Int), k ≤ n ∧ k ≤ 512 ∧ i = .int .i64 k ∧ M.length = 512 ∧ OwnB wr q 512 M ∧ Below w.heap.size w wr ∧ Bx wr P cc bd) (fun i _ => n - (intOf i).toNat)
    case atStart => exact ⟨0, z512, Nat.zero_le _, Nat.zero_le _, rfl, by simp, H2.out⟩
    case round =>
      obtain ⟨k, M, hk, hk5, rfl, hM, hI⟩ := hrel
      have HI : Hid (OwnB wr q 512 M ∧ Below w.heap.size w wr ∧ Bx wr P cc bd) := hI
      clear hI H2
      by_cases hlt : k < n
      · have hlt' : (k : Int) < (n : Int) := by omega
        by_cases hl5 : k < 512
        · have hl5' : (k : Int) < 512 := by omega
          obtain ⟨b1, o1, rfl, h1⟩ : ∃ b o, a = some ⟨b, o, none⟩ ∧ wr.cell? ⟨b, o + k, none⟩ = some (.int .u8 (nth L k)) := by
            rcases HB.out.at_ with e | ⟨b, o, e, hc⟩
            · subst e; simp at hn; omega
            · exact ⟨b, o, e, (HI.out.2.1.cell (block_lt_of_cell (hc k (by omega)))).trans (hc k (by omega))⟩
          have k0 := HI.out.1.cell k (by omega)
          have k1 := HI.out.1.frozen k
          have H3 : Hid (OwnB (wr.setCell ⟨q, k, none⟩ (.int .u8 (nth L k))) q 512 (M.set k (nth L k)) ∧ Below w.heap.size w (wr.setCell ⟨q, k, none⟩ (.int .u8 (nth L k))) ∧ Bx (wr.setCell ⟨q, k, none⟩ (.int .u8 (nth L k))) P cc bd) := ⟨HI.out.1.set k _ (by omega) (HB.out.wf k), HI.out.2.1.setCell (show w.heap.size ≤ q by omega) _, HI.out.2.2.grown (q := q) grown_set (by omega) (by omega)⟩
          go_wp2
          go_roundw
          case rel =>
            first
              | exact ⟨k + 1, M.set k (nth L k), by omega, by omega, by go_num, by rw [List.length_set]; exact hM, H3.out⟩
              | ((repeat apply Exists.intro)
                 refine ⟨?_, rfl⟩
                 exact ⟨k + 1, M.set k (nth L k), by omega, by omega, by go_num, by rw [List.length_set]; exact hM, H3.out⟩)
          case measure => simp [intOf]; omega
        · have hl5' : ¬ (k : Int) < 512 := by omega
          go_wp2
          go_meet
          exact ⟨M, hM, HI.out⟩
      · have hlt' : ¬ (k : Int) < (n : Int) := by omega
        go_wp2
        go_meet
        exact ⟨M, hM, HI.out⟩
  case rest =>
    obtain ⟨M, hM, hI⟩ := hcut
    have HI : Hid (OwnB wc q 512 M ∧ Below w.heap.size w wc ∧ Bx wc P cc bd) := hI
    clear hI H2 HB
    obtain ⟨p, hp⟩ : ∃ p : Nat, cc.1 % 16 = p := ⟨(cc.1 % 16).toNat, by omega⟩
    have hp16 : p < 16 := by omega
    obtain ⟨i, hi⟩ : ∃ i : Int, 1 + cc.2.1 % 4294967295 = i := ⟨_, rfl⟩
    have HEn : Hid (∀ wx, Calls Tryd.prog 9 #[.agg #[.int .i64 cc.1, .int .i64 cc.2.1, .int .i64 cc.2.2.1, .string cc.2.2.2]] wx fun e w' => ∃ nm, e = .returned (.agg #[.int .i64 (p : Int), .string nm, .int .i64 i]) ∧ Sc.good ⟨nm, i⟩ ∧ Below wx.heap.size wx w') := fun wx => by
      refine (centry_any wx cc.1 cc.2.1 cc.2.2.1 cc.2.2.2 hcs).mono ?_
      rintro e w' ⟨⟨nm, h1, h2⟩, h3⟩
      rw [hp, hi] at h1
      exact ⟨nm, h1, ⟨h2, by show 1 ≤ i; omega, by show i ≤ 4294967295; omega⟩, h3⟩
    clear hp hi hcs
    go_upto_region 10 with (first
      | (at_builtin; refine wp_bcopy (w7 := wc) rfl (.tmp 35) (.tmp 36) rfl rfl ⟨q, 0, none⟩ 512 512 M rfl hM HI.out.1.bytes (by omega) ?_
         intro u cu w3 ho hb hu hcu
         have H3 : Hid (OwnB w3 u cu M ∧ Below wc.heap.size wc w3 ∧ wc.heap.size ≤ u) := ⟨ho, hb, hu⟩
         have hbx : Bx w3 P cc bd := HI.out.2.2.on hb
         have c0 : w3.cell? ⟨P, 0, none⟩ = some (.int .i64 cc.1) := cell_of_row _ _ 0 _ _ _ hbx.c
         have c1 : w3.cell? ⟨P, 1, none⟩ = some (.int .i64 cc.2.1) := cell_of_row _ _ 1 _ _ _ hbx.c
         have c2 : w3.cell? ⟨P, 2, none⟩ = some (.int .i64 cc.2.2.1) := cell_of_row _ _ 2 _ _ _ hbx.c
         have c3 : w3.cell? ⟨P, 3, none⟩ = some (.string cc.2.2.2) := cell_of_row _ _ 3 _ _ _ hbx.c
         clear ho hb hu hbx)
      | (go_at_call 9; refine (HEn.out _).mono ?_; rintro e w4 ⟨nm, rfl, hg4, hb4⟩
         have HG : Hid (Sc.good ⟨nm, i⟩) := hg4
         have HB4 : Hid (Below wc.heap.size wc w4 ∧ Below w3.heap.size w3 w4) := ⟨H3.out.2.1.trans (hb4.mono H3.out.2.1.size), hb4⟩
         clear hg4 hb4 c0 c1 c2 c3))
    obtain ⟨X, hX⟩ : ∃ X, w4.heap.size = X := ⟨_, rfl⟩
    obtain ⟨w5, hw5⟩ : ∃ w5, w4.alloc (.cells #[.int .i64 (p : Int), .string nm, .int .i64 i] 27) = w5 := ⟨_, rfl⟩
    have hnms : nm.size ≤ 27 := (name_ne HG.out.1).2.1
    have H5 : Hid ((OwnB w5 q 512 M ∧ OwnB w5 u cu M ∧ Below w.heap.size w w5 ∧ Bx w5 P cc bd ∧ w5.heap[X]? = some (.cells #[.int .i64 (p : Int), .string nm, .int .i64 i] 27 (0, 0))) ∧ (q < u ∧ u < X ∧ X < w5.heap.size)) := by
      have h1 : Below w4.heap.size w4 w5 := by rw [← hw5]; exact (Below.refl _ _).alloc (Nat.le_refl _) _
      have hq4 : Below wc.heap.size wc w5 := HB4.out.1.trans (h1.mono HB4.out.1.size)
      have h34 : Below w3.heap.size w3 w5 := HB4.out.2.trans (h1.mono HB4.out.2.size)
      have hxx : w5.heap[X]? = some (.cells #[.int .i64 (p : Int), .string nm, .int .i64 i] 27 (0, 0)) := by rw [← hw5, ← hX]; exact heap_alloc_new _ _
      refine ⟨⟨HI.out.1.on hq4, H3.out.1.on h34, HI.out.2.1.trans (hq4.mono HI.out.2.1.size), HI.out.2.2.on hq4, hxx⟩, ?_, ?_, heap_lt hxx⟩
      · have := HI.out.1.lt; have := H3.out.2.2; omega
      · have := H3.out.1.lt; have := HB4.out.2.size; omega
    rw [hw5, hX]
    clear hw5 hX HI H3 HB4 HEn
    go_cut [11] (fun s11 wx => ∃ nb, s11 = .slice (some ⟨nb, 0, none⟩) 11 11 ∧ w5.heap.size ≤ nb ∧ OwnE wx nb 11 (noL (p : Int) nm bd) ∧ Below w5.heap.size w5 wx)
    case first =>
      have m1 : 0 ≤ bd.1 % 1073741824 ∧ bd.1 % 1073741824 < 1073741824 := by omega
      have m2 : 0 ≤ bd.2.2 % 1073741824 ∧ bd.2.2 % 1073741824 < 1073741824 := by omega
      have r1 : IntKind.i64.wrap (-1 - bd.1 % 1073741824) = -1 - bd.1 % 1073741824 := by rw [IntKind.wrap_i64]; omega
      have r2 : IntKind.i64.wrap (16 + bd.1 % 1073741824) = 16 + bd.1 % 1073741824 := by rw [IntKind.wrap_i64]; omega
      have r3 : IntKind.i64.wrap (-1 - bd.2.2 % 1073741824) = -1 - bd.2.2 % 1073741824 := by rw [IntKind.wrap_i64]; omega
      have r4 : IntKind.i64.wrap (4294967296 + bd.2.2 % 1073741824) = 4294967296 + bd.2.2 % 1073741824 := by rw [IntKind.wrap_i64]; omega
      have z0 : w5.drew.cell? ⟨P + 1, 0, none⟩ = some (.int .i64 bd.1) := cell_of_row _ _ 0 _ _ _ H5.out.1.2.2.2.1.b
      have z1 : w5.drew.cell? ⟨P + 1, 1, none⟩ = some (.string bd.2.1) := cell_of_row _ _ 1 _ _ _ H5.out.1.2.2.2.1.b
      have z2 : w5.drew.cell? ⟨P + 1, 2, none⟩ = some (.int .i64 bd.2.2) := cell_of_row _ _ 2 _ _ _ H5.out.1.2.2.2.1.b
      have y0 : w5.drew.cell? ⟨X, 0, none⟩ = some (.int .i64 (p : Int)) := cell_of_row _ _ 0 _ _ _ H5.out.1.2.2.2.2
      have y1 : w5.drew.cell? ⟨X, 1, none⟩ = some (.string nm) := cell_of_row _ _ 1 _ _ _ H5.out.1.2.2.2.2
      have HAl : Hid (∀ o', Below w5.heap.size w5 (w5.alloc o')) := fun o' => (Below.refl _ _).alloc (Nat.le_refl _) _
      have a0 : ∀ o', (w5.alloc o').cell? ⟨P + 1, 0, none⟩ = some (.int .i64 bd.1) := fun o' => cell_of_row _ _ 0 _ _ _ (H5.out.1.2.2.2.1.on (HAl.out o')).b
      have a1 : ∀ o', (w5.alloc o').cell? ⟨P + 1, 1, none⟩ = some (.string bd.2.1) := fun o' => cell_of_row _ _ 1 _ _ _ (H5.out.1.2.2.2.1.on (HAl.out o')).b
      have a2 : ∀ o', (w5.alloc o').cell? ⟨P + 1, 2, none⟩ = some (.int .i64 bd.2.2) := fun o' => cell_of_row _ _ 2 _ _ _ (H5.out.1.2.2.2.1.on (HAl.out o')).b
      have a3 : ∀ o', (w5.alloc o').cell? ⟨X, 0, none⟩ = some (.int .i64 (p : Int)) := fun o' => cell_of_row _ _ 0 _ _ _ (((HAl.out o').block X H5.out.2.2.2).trans H5.out.1.2.2.2.2)
      have a4 : ∀ o', (w5.alloc o').cell? ⟨X, 1, none⟩ = some (.string nm) := fun o' => cell_of_row _ _ 1 _ _ _ (((HAl.out o').block X H5.out.2.2.2).trans H5.out.1.2.2.2.2)
      have t1 : 2 + bd.2.1.size ≤ 9223372036854775807 := by omega
      have t2 : bd.2.1.size ≤ 9223372036854775806 := by omega
      have t3 : ¬ 9223372036854775807 < 2 + bd.2.1.size := by omega
      have t4 : ¬ 9223372036854775807 < bd.2.1.size + 1 := by omega
      have t5 : ¬ (9223372036854775807 : Int) < 2 + (bd.2.1.size : Int) := by omega
      have t6 : ¬ (9223372036854775807 : Int) < (bd.2.1.size : Int) + 1 := by omega
      have t7 : bd.2.1.size + 1 ≤ 9223372036854775807 := by omega
      clear H5
      go_region_held3 (fun w' => w'.cell? ⟨P + 1, 0, none⟩ = some (.int .i64 bd.1) ∧ w'.cell? ⟨P + 1, 1, none⟩ = some (.string bd.2.1) ∧ w'.cell? ⟨P + 1, 2, none⟩ = some (.int .i64 bd.2.2) ∧ w'.cell? ⟨X, 0, none⟩ = some (.int .i64 (p : Int)) ∧ w'.cell? ⟨X, 1, none⟩ = some (.string nm)) (go_keep)
        (first
          | (go_at_call 11; refine (HM.out _ _).mono ?_; rintro e w' ⟨rfl, rfl⟩))
      all_goals
        go_wp2_with fail
        go_meet
        exact ⟨_, rfl, Nat.le_refl _, OwnE.ofNo (heap_alloc_new _ _), (HAl.out _).drew⟩
    case rest =>
      obtain ⟨nb, rfl, hnb, hoE, hb6⟩ := hcut
      rename World => w6
      have hqu := H5.out.2.1
      have huX := H5.out.2.2.1
      have hX5 := H5.out.2.2.2
      have HK : Hid (∀ wx, Below w6.heap.size w6 wx → OwnB wx q 512 M ∧ OwnB wx u cu M ∧ Below w.heap.size w wx ∧ wx.heap[X]? = some (.cells #[.int .i64 (p : Int), .string nm, .int .i64 i] 27 (0, 0)) ∧ OwnE wx nb 11 (noL (p : Int) nm bd)) := fun wx hb => by
        have hb5 : Below w5.heap.size w5 wx := hb6.trans (hb.mono hb6.size)
        exact ⟨H5.out.1.1.on hb5, H5.out.1.2.1.on hb5, H5.out.1.2.2.1.trans (hb5.mono H5.out.1.2.2.1.size), (hb5.block X hX5).trans H5.out.1.2.2.2.2, hoE.on hb⟩
      have HNo : Hid (∀ q', q' ∈ noL (p : Int) nm bd → mst q'.1 q'.2.1 q'.2.2 = false ∧ q'.2.1.size ≤ 9223372036854775807) := noL_no _ _ _ hbs (by omega)
      clear H5 hoE hb6 hnb
      go_upto_block 2 with fail
      go_cut [] (fun wx => Below w6.heap.size w6 wx)
      case first => as_aux_lemma =>
        go_wp2
        go_loopw [12] (fun s12 wr => ∃ k : Nat, k ≤ 11 ∧ s12 = .int .i64 (k : Int) ∧ Below w6.heap.size w6 wr) (fun s12 _ => 11 - (intOf s12).toNat)
        case atStart => exact ⟨0, Nat.zero_le _, rfl, Below.refl _ _⟩
        case round =>
          obtain ⟨k, hk, rfl, hI⟩ := hrel
          have HI : Hid (Below w6.heap.size w6 wr) := hI
          clear hI
          by_cases hlt : k < 11
          · have hlt' : (k : Int) < 11 := by omega
            have hl11 : (noL (p : Int) nm bd).length = 11 := rfl
            obtain ⟨x, hx⟩ : ∃ x, (noL (p : Int) nm bd)[k]? = some x := ⟨_, List.getElem?_eq_getElem (by omega)⟩
            obtain ⟨c0, c1, c2⟩ := (HK.out _ HI.out).2.2.2.2.cell hx
            have hnx := HNo.out x (List.mem_of_getElem? hx)
            have HP : Hid (Calls Tryd.prog 10 #[.slice (some ⟨q, 0, none⟩) 512 512, .agg #[.int .i64 x.1, .string x.2.1, .int .i64 x.2.2]] wr fun e w' => e = .returned (.int .i64 140) ∧ Below wr.heap.size wr w') := put_no wr _ 512 x.1 x.2.1 x.2.2 hnx.2 hnx.1
            clear hx hnx hl11
            go_wp2_with (first
              | (go_at_call 10; refine HP.out.mono ?_; rintro r w9 ⟨rfl, h9⟩; have H9 : Hid (Below wr.heap.size wr w9) := h9; clear h9))
            go_roundw
            case rel =>
              first
                | exact ⟨k + 1, by omega, by go_num, HI.out.trans (H9.out.mono HI.out.size)⟩
                | ((repeat apply Exists.intro)
                   refine ⟨?_, rfl⟩
                   exact ⟨k + 1, by omega, by go_num, HI.out.trans (H9.out.mono HI.out.size)⟩)
            case measure => simp [intOf]; omega
          · obtain rfl : k = 11 := by omega
            go_wp2
            go_meet
            exact HI.out
      case rest =>
        have H7 : Hid (Below w6.heap.size w6 wc) := hcut
        clear hcut
        rename World => w7
        obtain ⟨p0, hp0⟩ : ∃ p0, -1 - bd.1 % 1073741824 = p0 := ⟨_, rfl⟩
        obtain ⟨p1, hp1⟩ : ∃ p1, 16 + bd.1 % 1073741824 = p1 := ⟨_, rfl⟩
        have HS : Hid (∀ wx, Below w6.heap.size w6 wx → wx.cell? ⟨nb, 0, none⟩ = some (.int .i64 p0) ∧ wx.cell? ⟨nb, 3, none⟩ = some (.int .i64 p1) ∧ wx.cell? ⟨X, 0, none⟩ = some (.int .i64 (p : Int)) ∧ wx.cell? ⟨X, 1, none⟩ = some (.string nm) ∧ wx.cell? ⟨X, 2, none⟩ = some (.int .i64 i)) := fun wx hb => by
          obtain ⟨_, _, _, h4, h5⟩ := HK.out wx hb
          refine ⟨?_, ?_, cell_of_row _ _ 0 _ _ _ h4, cell_of_row _ _ 1 _ _ _ h4, cell_of_row _ _ 2 _ _ _ h4⟩
          · rw [← hp0]; exact (h5.cell (k := 0) rfl).1
          · rw [← hp1]; exact (h5.cell (k := 1) rfl).1
        have HC0 : Hid (∀ wx, Calls Tryd.prog 12 #[.slice (some ⟨q, 0, none⟩) 512 512, .int .i64 p0] wx fun e w' => e = .returned (.int .i64 140) ∧ wx = w') := fun wx => clr_no wx _ 512 p0 (plc_neg (by omega))
        have HC1 : Hid (∀ wx, Calls Tryd.prog 12 #[.slice (some ⟨q, 0, none⟩) 512 512, .int .i64 p1] wx fun e w' => e = .returned (.int .i64 140) ∧ wx = w') := fun wx => clr_no wx _ 512 p1 (plc_neg (by omega))
        have HC2 : Hid (∀ wx, Calls Tryd.prog 10 #[.slice (some ⟨q, 0, none⟩) 511 512, .agg #[.int .i64 (p : Int), .string nm, .int .i64 i]] wx fun e w' => e = .returned (.int .i64 32) ∧ Below wx.heap.size wx w') := fun wx => put_size wx _ 511 512 _ _ _ (by decide)
        have HC3 : Hid (∀ wx, Calls Tryd.prog 12 #[.slice (some ⟨q, 1, none⟩) 511 511, .int .i64 0] wx fun e w' => e = .returned (.int .i64 32) ∧ wx = w') := fun wx => clr_size wx _ 511 511 0 (by decide)
        have HC4 : Hid (∀ wx, Below w6.heap.size w6 wx → Calls Tryd.prog 16 #[.slice (some ⟨q, 0, none⟩) 512 512, .slice (some ⟨u, 0, none⟩) 512 cu] wx fun e w' => e = .returned (.bool true) ∧ Below w6.heap.size w6 w') := fun wx hb => by
          obtain ⟨h1, h2, _⟩ := HK.out wx hb
          refine (sameB_any wx _ _ 512 512 512 cu M M h1.bytes h2.bytes hM hM).mono ?_
          rintro e w' ⟨rfl, k, rfl⟩
          exact ⟨by simp, hb.trans ((drewN_below wx k).mono hb.size)⟩
        clear hp0 hp1
        go_upto_region 16 with fail
        have HD : Hid (Below w6.heap.size w6 w7.drew) := H7.out.drew
        obtain ⟨s0, s1, s2, s3, s4⟩ := HS.out _ HD.out
        go_cut [145] (fun s145 wx => s145 = .bool false ∧ Below w6.heap.size w6 wx)
        case first =>
          go_region_held3 (fun w' => w'.cell? ⟨nb, 0, none⟩ = some (.int .i64 p0) ∧ w'.cell? ⟨nb, 3, none⟩ = some (.int .i64 p1) ∧ w'.cell? ⟨X, 0, none⟩ = some (.int .i64 (p : Int)) ∧ w'.cell? ⟨X, 1, none⟩ = some (.string nm) ∧ w'.cell? ⟨X, 2, none⟩ = some (.int .i64 i)) (with_reducible (first
            | exact HS.out _ HD.out
            | exact HS.out _ K2.out
            | exact HS.out _ K4.out))
            (first
              | (go_at_call 12; have hh := HC0.out; clear hh; refine (HC0.out _).mono ?_; rintro e w' ⟨rfl, rfl⟩; clear HC0)
              | (go_at_call 12; have hh := HC1.out; clear hh; refine (HC1.out _).mono ?_; rintro e w' ⟨rfl, rfl⟩; clear HC1)
              | (go_at_call 10; refine (HC2.out _).mono ?_; rintro e v2 ⟨rfl, h2⟩; have K2 : Hid (Below w6.heap.size w6 v2) := HD.out.trans (h2.mono HD.out.size); clear h2)
              | (go_at_call 12; refine (HC3.out _).mono ?_; rintro e w' ⟨rfl, rfl⟩)
              | (go_at_call 16; refine (HC4.out _ K2.out).mono ?_; rintro e v4 ⟨rfl, h4⟩; have K4 : Hid (Below w6.heap.size w6 v4) := h4; clear h4))
          all_goals
            go_wp2
            go_meet
            exact ⟨rfl, K4.out⟩
        case rest =>
          obtain ⟨rfl, hcut⟩ := hcut
          have H8 : Hid (Below w6.heap.size w6 wc) := hcut
          clear hcut HC0 HC1 HC2 HC3 HC4 s0 s1 s2 s3 s4 HD H7
          rename World => w8
          have hq0 : q ≠ 0 := by have := HT.out.size; omega
          obtain ⟨k1, k2, k3, k4, _⟩ := HK.out _ H8.out
          have x0 : w8.cell? ⟨X, 0, none⟩ = some (.int .i64 (p : Int)) := cell_of_row _ _ 0 _ _ _ k4
          have x1 : w8.cell? ⟨X, 1, none⟩ = some (.string nm) := cell_of_row _ _ 1 _ _ _ k4
          have x2 : w8.cell? ⟨X, 2, none⟩ = some (.int .i64 i) := cell_of_row _ _ 2 _ _ _ k4
          obtain ⟨M1, hM1⟩ : ∃ M1, ov M (32 * p) 32 (cb ⟨nm, i⟩) = M1 := ⟨_, rfl⟩
          have hM1l : M1.length = 512 := by rw [← hM1, ov_length]; exact hM
          have HM1 : Hid (∀ j, j < 512 → j / 32 ≠ p → nth M1 j = nth M j) := fun j hj hne => by rw [← hM1, nth_ov _ _ _ _ _ (by omega), if_neg (by omega)]
          have HP : Hid (Calls Tryd.prog 10 #[.slice (some ⟨q, 0, none⟩) 512 512, .agg #[.int .i64 (p : Int), .string nm, .int .i64 i]] w8 fun r w' => r = .returned (.int .i64 0) ∧ OwnB w' q 512 M1 ∧ OwnB w' u cu M ∧ Below w.heap.size w w' ∧ w'.heap[X]? = some (.cells #[.int .i64 (p : Int), .string nm, .int .i64 i] 27 (0, 0))) := by
            refine (sput_ok w8 q 512 512 M p ⟨nm, i⟩ hp16 k1 (by omega) (by omega) (HT.out.on k3) hq0 HG.out).mono ?_
            rintro r w' ⟨rfl, o1, o2⟩
            rw [hM1] at o1
            exact ⟨rfl, o1, k2.grown o2 (fun e => by cases e; omega), k3.grown o2 k3.size (fun j e => by cases e; omega), (o2.block X (heap_lt k4) (fun e => by cases e; omega)).trans k4⟩
          clear k1 k2 k3 k4 hM1
          go_upto_block 4 with (first
            | (go_at_call 10; refine HP.out.mono ?_; rintro r w9 ⟨rfl, h9⟩; have H9 : Hid (OwnB w9 q 512 M1 ∧ OwnB w9 u cu M ∧ Below w.heap.size w w9 ∧ w9.heap[X]? = some (.cells #[.int .i64 (p : Int), .string nm, .int .i64 i] 27 (0, 0))) := h9; clear h9))
          clear HP x0 x1 x2 HS HK H8
          go_cut [] (fun wx => ∃ k, wx = w9.drewN k)
          case first => as_aux_lemma =>
            go_wp2
            go_loopw [13] (fun s13 wr => ∃ k d : Nat, k ≤ 512 ∧ s13 = .int .i64 (k : Int) ∧ wr = w9.drewN d) (fun s13 _ => 512 - (intOf s13).toNat)
            case atStart => exact ⟨0, 0, Nat.zero_le _, rfl, rfl⟩
            case round =>
              obtain ⟨k, d, hk, rfl, rfl⟩ := hrel
              by_cases hlt : k < 512
              · have hlt' : (k : Int) < 512 := by omega
                have e0 : w9.cell? ⟨X, 0, none⟩ = some (.int .i64 (p : Int)) := cell_of_row _ _ 0 _ _ _ H9.out.2.2.2
                have e1 := H9.out.1.cell k (by omega)
                have e2 := H9.out.2.1.cell k (by omega)
                by_cases hkp : k / 32 = p
                · have hkp' : (k : Int) / 32 = (p : Int) := by omega
                  go_wp2
                  go_quiet (fail)
                  go_wp2
                  go_roundw
                  case rel => exact ⟨k + 1, _, by omega, by go_num, rfl⟩
                  case measure => simp [intOf]; omega
                · obtain ⟨d32, hd32⟩ : ∃ d32 : Int, (k : Int) / 32 = d32 := ⟨_, rfl⟩
                  have hb32 : 0 ≤ d32 ∧ d32 < 16 := by omega
                  have hwd : IntKind.i64.wrap d32 = d32 := by rw [IntKind.wrap_i64]; omega
                  have hbn : (d32 != (p : Int)) = true := by rw [bne_iff_ne]; omega
                  have hkd : decide (d32 = (p : Int)) = false := decide_eq_false (by omega)
                  have hkb : (d32 == (p : Int)) = false := by rw [beq_eq_false_iff_ne]; omega
                  have he := HM1.out k hlt hkp
                  rw [he] at e1
                  clear he
                  go_wp2
                  go_quiet (fail)
                  go_wp2
                  go_roundw
                  case rel => exact ⟨k + 1, _, by omega, by go_num, rfl⟩
                  case measure => simp [intOf]; omega
              · obtain rfl : k = 512 := by omega
                go_wp2
                go_meet
                exact ⟨d, rfl⟩
          case rest =>
            obtain ⟨d, hwc⟩ := hcut
            subst hwc
            have hb9 := drewN_below w9 d
            have h1 := H9.out.1.on hb9
            have h2 := H9.out.2.1.on hb9
            have h3 : Below w.heap.size w (w9.drewN d) := H9.out.2.2.1.trans (hb9.mono H9.out.2.2.1.size)
            have h4 : (w9.drewN d).heap[X]? = some (.cells #[.int .i64 (p : Int), .string nm, .int .i64 i] 27 (0, 0)) := (hb9.block X (heap_lt H9.out.2.2.2)).trans H9.out.2.2.2
            obtain ⟨M2, hM2⟩ : ∃ M2, ov M1 (32 * p) 32 (fun _ => 0) = M2 := ⟨_, rfl⟩
            have hM2l : M2.length = 512 := by rw [← hM2, ov_length]; exact hM1l
            have HM2 : Hid (∀ j, j < 512 → (j / 32 ≠ p → nth M2 j = nth M j) ∧ (j / 32 = p → nth M2 j = 0)) := fun j hj => ⟨fun hne => by rw [← hM2, nth_ov _ _ _ _ _ (by omega), if_neg (by omega)]; exact HM1.out j hj hne, fun he => by rw [← hM2, nth_ov _ _ _ _ _ (by omega), if_pos (by omega)]⟩
            have e0 : (w9.drewN d).cell? ⟨X, 0, none⟩ = some (.int .i64 (p : Int)) := cell_of_row _ _ 0 _ _ _ h4
            have e0' : w9.cell? ⟨X, 0, none⟩ = some (.int .i64 (p : Int)) := cell_of_row _ _ 0 _ _ _ H9.out.2.2.2
            have HP : Hid (Calls Tryd.prog 12 #[.slice (some ⟨q, 0, none⟩) 512 512, .int .i64 (p : Int)] (w9.drewN d) fun r w' => r = .returned (.int .i64 0) ∧ OwnB w' q 512 M2 ∧ OwnB w' u cu M ∧ Below w.heap.size w w' ∧ w'.heap[X]? = some (.cells #[.int .i64 (p : Int), .string nm, .int .i64 i] 27 (0, 0))) := by
              refine (clr_ok (w9.drewN d) q 512 512 M1 p hp16 h1 (by omega) (by omega)).mono ?_
              rintro r w' ⟨rfl, o1, o2⟩
              rw [hM2] at o1
              exact ⟨rfl, o1, h2.grown o2 (fun e => by cases e; omega), h3.grown o2 h3.size (fun j e => by cases e; omega), (o2.block X (heap_lt h4) (fun e => by cases e; omega)).trans h4⟩
            clear h1 h2 h3 h4 hb9 hM2 H9
            go_upto_block 6 with (first
              | (go_at_call 12; refine HP.out.mono ?_; rintro r w10 ⟨rfl, h9⟩; have H10 : Hid (OwnB w10 q 512 M2 ∧ OwnB w10 u cu M ∧ Below w.heap.size w w10 ∧ w10.heap[X]? = some (.cells #[.int .i64 (p : Int), .string nm, .int .i64 i] 27 (0, 0))) := h9; clear h9))
            clear HP e0 e0'
            go_wp2
            go_loopw [14] (fun s14 wr => ∃ k d : Nat, k ≤ 512 ∧ s14 = .int .i64 (k : Int) ∧ wr = w10.drewN d) (fun s14 _ => 512 - (intOf s14).toNat)
            case atStart => exact ⟨0, 0, Nat.zero_le _, rfl, rfl⟩
            case round =>
              obtain ⟨k, d2, hk, rfl, rfl⟩ := hrel
              by_cases hlt : k < 512
              · have hlt' : (k : Int) < 512 := by omega
                have e0 : w10.cell? ⟨X, 0, none⟩ = some (.int .i64 (p : Int)) := cell_of_row _ _ 0 _ _ _ H10.out.2.2.2
                have e1 := H10.out.1.cell k (by omega)
                have e2 := H10.out.2.1.cell k (by omega)
                by_cases hkp : k / 32 = p
                · have hkp' : (k : Int) / 32 = (p : Int) := by omega
                  have he := (HM2.out k hlt).2 hkp
                  rw [he] at e1
                  clear he
                  go_wp2
                  go_quiet (fail)
                  go_wp2
                  go_roundw
                  case rel => exact ⟨k + 1, _, by omega, by go_num, rfl⟩
                  case measure => simp [intOf]; omega
                · obtain ⟨d32, hd32⟩ : ∃ d32 : Int, (k : Int) / 32 = d32 := ⟨_, rfl⟩
                  have hb32 : 0 ≤ d32 ∧ d32 < 16 := by omega
                  have hwd : IntKind.i64.wrap d32 = d32 := by rw [IntKind.wrap_i64]; omega
                  have hbn : (d32 != (p : Int)) = true := by rw [bne_iff_ne]; omega
                  have hkd : decide (d32 = (p : Int)) = false := decide_eq_false (by omega)
                  have hkb : (d32 == (p : Int)) = false := by rw [beq_eq_false_iff_ne]; omega
                  have he := (HM2.out k hlt).1 hkp
                  rw [he] at e1
                  clear he
                  go_wp2
                  go_quiet (fail)
                  go_wp2
                  go_roundw
                  case rel => exact ⟨k + 1, _, by omega, by go_num, rfl⟩
                  case measure => simp [intOf]; omega
              · obtain rfl : k = 512 := by omega
                go_wp2
                go_ret
                exact ⟨rfl, H10.out.2.2.1.trans ((drewN_below w10 d2).mono H10.out.2.2.1.size)⟩
end Go.Proofs.YtmgonolliccjaaaDoor
