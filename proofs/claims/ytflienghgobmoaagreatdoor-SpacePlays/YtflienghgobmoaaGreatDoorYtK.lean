import Derived.Test.YtflienghgobmoaaGreatDoorKSpK
import Derived.Test.YtflienghgobmoaaGreatDoorKKbA
namespace Go.Proofs.YtflienghgobmoaaGreatDoor
open Go.RowKit Go.Maps Rec
theorem eql_ptrZ (w : World) (p : Addr) : (binOp .eql 27 (.pointer (some p)) (.pointer none)).run Tryz.prog w = .ok (.bool false) w := by
  have h : ∀ d : Nat, (Op.equalIn (d + 1) 27 (.pointer (some p)) (.pointer none)).run Tryz.prog w = .ok false w := fun d => by
    simp [Op.equalIn, run_underlying Tryz.underlying27]
  simp only [binOp]
  simp [Op.equal, Op.maxDepth, h 9999]
theorem eql_ptrZR (w : World) (p : Addr) : (binOp .eql 31 (.pointer (some p)) (.pointer none)).run Tryz.prog w = .ok (.bool false) w := by
  have h : ∀ d : Nat, (Op.equalIn (d + 1) 31 (.pointer (some p)) (.pointer none)).run Tryz.prog w = .ok false w := fun d => by
    simp [Op.equalIn, run_underlying Tryz.underlying31]
  simp only [binOp]
  simp [Op.equal, Op.maxDepth, h 9999]
theorem newOn {w w4 w5 : World} {D : Dk} {R : RDk} {j : Nat} (h : NewW w w4 D R j) (hb : Below w4.heap.size w4 w5) : NewW w w5 D R j := ⟨h.d.on hb, h.t.on hb, h.ap, h.nd, h.be.trans (hb.mono h.be.size), h.kd⟩
set_option maxRecDepth 100000 in
set_option maxHeartbeats 16000000 in
theorem spacePlays_any (w : World) (N : Int) (hN : -9223372036854775808 ≤ N ∧ N ≤ 9223372036854775807) (ba : Option Addr) (bl bc : Nat) (rest : Int) (hr : 0 ≤ rest ∧ rest < 256) (sa : Option Addr) (sl sc : Nat) (bs : List Int) (hb : Bytes w ba bs) (hl : bs.length = bl) (L : List OpZ) (hL : SrZ w sa L) (hm : L.length = sl) (hT : TabAt w) :
    Calls Tryz.prog 3 #[csV N (.slice ba bl bc) rest (.slice sa sl sc)] w fun e w' => e = .returned (.bool true) ∧ Below w.heap.size w w' := by
  have HL : Hid (SrZ w sa L ∧ L.length = sl ∧ TabAt w) := ⟨hL, hm, hT⟩
  have HB : Hid (∀ wx, Calls Tryz.prog 9 #[csV N (.slice ba bl bc) rest (.slice sa sl sc)] wx fun e w' => e = .returned (.int .i64 (nBl N : Nat)) ∧ Below wx.heap.size wx w') := fun wx => blocks9 wx N hN ba bl bc rest sa sl sc
  have HIm : Hid (∀ wx, Below w.heap.size w wx → Calls Tryz.prog 5 #[csV N (.slice ba bl bc) rest (.slice sa sl sc)] wx fun e w' => ∃ g, e = .returned (.slice (some ⟨g, 0, none⟩) (512 * nBl N) (512 * nBl N)) ∧ wx.heap.size ≤ g ∧ Below wx.heap.size wx w' ∧ ∃ l, OwnB w' g (512 * nBl N) l ∧ Img l (nBl N) (fB (nBl N) bs rest)) := fun wx hbx => image9 wx N hN ba bl bc rest hr sa sl sc bs (hb.on hbx) hl
  have hnb := nBl_bd N
  obtain ⟨n, hn⟩ : ∃ n, nBl N = n := ⟨_, rfl⟩
  rw [hn] at HB hnb HIm
  clear hn hN hb hl hL hm hT
  have HN : Hid (128 ≤ n ∧ n ≤ 16384) := ⟨hnb.1, by omega⟩
  have HG : Hid (∀ wx, Calls Tryz.prog 8 #[.int .i64 (n : Int)] wx fun e w' => e = .returned (geoV n) ∧ Below wx.heap.size wx w') := fun wx => geo9 wx n hnb.1 (by omega)
  have HOp : Hid (∀ wx p l, Bytes wx (some p) l → l.length = 512 * n → Calls Tryz.prog 6 #[.slice (some p) (512 * n : Nat) (512 * n)] wx fun e w' => ∃ d0, e = .returned (.tuple #[.pointer (some ⟨d0, 0, none⟩), .int .i64 0]) ∧ ∃ nw L capL, (wx.heap.size ≤ d0 ∧ wx.heap.size ≤ nw ∧ wx.heap.size ≤ L) ∧ Disk w' (newDk d0 L nw capL n l) ∧ Below wx.heap.size wx w') := fun wx p l h1 h2 => by
    refine (open_yes wx p (512 * n) n l h1 h2 (by omega) (by omega)).mono ?_
    rintro e w' ⟨d, nw, L, capL, rfl, h3, h4, h5, h6, h7⟩
    exact ⟨d, rfl, nw, L, capL, ⟨h3, h4, h5⟩, h6, h7⟩
  have HOf : Hid (∀ wx p l, Bytes wx (some p) l → l.length = 512 * n → Calls Tryz.prog 7 #[.slice (some p) (512 * n : Nat) (512 * n)] wx fun e w' => ∃ r, e = .returned (.tuple #[.pointer (some ⟨r, 0, none⟩), .int .i64 0]) ∧ ∃ g cap, (wx.heap.size ≤ r ∧ wx.heap.size ≤ g) ∧ RDisk w' (newR r n g cap l) ∧ Below wx.heap.size wx w') := fun wx p l h1 h2 => by
    refine (of_yesR wx p (512 * n) n l h1 h2 (by omega) (by omega)).mono ?_
    rintro e w' ⟨r, g, cap, rfl, h3, h4, h5, h6⟩
    exact ⟨r, rfl, g, cap, ⟨h3, h4⟩, h5, h6⟩
  obtain ⟨K5, hK5⟩ : ∃ K, 512 * n = K := ⟨_, rfl⟩
  have HKn : Hid (512 * n = K5) := hK5
  rw [hK5] at HIm HOp HOf
  clear hK5 hnb
  unfold csV at HB HIm
  unfold csV
  unfold geoV at HG
  obtain ⟨Q, hQ⟩ : ∃ Q, w.heap.size = Q := ⟨_, rfl⟩
  obtain ⟨wz, hwz⟩ : ∃ wz, w.alloc (.cells #[.int .i64 N, .slice ba bl bc, .int .u8 rest, .slice sa sl sc] 25) = wz := ⟨_, rfl⟩
  have HZ : Hid (Below w.heap.size w wz ∧ CsAt wz Q N (.slice ba bl bc) rest (.slice sa sl sc) ∧ w.heap.size = Q) := by
    rw [← hwz]
    exact ⟨(Below.refl _ _).alloc (Nat.le_refl _) _, by rw [← hQ]; exact heap_alloc_new _ _, hQ⟩
  obtain ⟨z0, z1, z2, z3⟩ := HZ.out.2.1.cells
  have E1 := eql_ptrZ
  have E2 := eql_ptrZR
  go_enter Tryz.func3, Tryz.ntmps3
  go_upto_region 1 with fail
  try rw [hwz]
  try rw [hQ]
  clear hwz hQ
  go_upto_region 2 with (go_at_call 5; refine (HIm.out _ HZ.out.1).mono ?_; rintro e w1 ⟨g, rfl, h1, h2, l, h3, h4⟩; have H1 : Hid (Below wz.heap.size wz w1 ∧ OwnB w1 g K5 l ∧ Img l n (fB n bs rest)) := ⟨h2, h3, h4⟩; clear h1 h2 h3 h4 HIm)
  go_upto_region 3 with (go_at_call 6; refine (HOp.out _ _ l H1.out.2.1.bytes (by rw [H1.out.2.2.len]; exact HKn.out)).mono ?_; rintro e w2 ⟨d0, rfl, nw, L2, capL, h1, h2, h3⟩; have H2 : Hid ((w1.heap.size ≤ d0 ∧ w1.heap.size ≤ nw ∧ w1.heap.size ≤ L2) ∧ Disk w2 (newDk d0 L2 nw capL n l) ∧ Below w1.heap.size w1 w2 ∧ OwnB w2 g K5 l) := ⟨h1, h2, h3, H1.out.2.1.on h3⟩; clear h1 h2 h3 HOp)
  go_upto_region 4 with (go_at_call 7; refine (HOf.out _ _ l H2.out.2.2.2.bytes (by rw [H1.out.2.2.len]; exact HKn.out)).mono ?_; rintro e w3 ⟨r0, rfl, g4, cap4, h1, h2, h3⟩; have H3 : Hid ((w2.heap.size ≤ r0 ∧ w2.heap.size ≤ g4) ∧ RDisk w3 (newR r0 n g4 cap4 l) ∧ Below w2.heap.size w2 w3) := ⟨h1, h2, h3⟩; clear h1 h2 h3 HOf)
  have HNw : Hid (NewW wz w3 (newDk d0 L2 nw capL n l) (newR r0 n g4 cap4 l) 0) := new_ww H2.out.1 H2.out.2.1 H3.out.1 H3.out.2.1 H1.out.1 H2.out.2.2.1 (Below.refl _ _) H3.out.2.2
  have HZ3 : Hid (CsAt w3 Q N (.slice ba bl bc) rest (.slice sa sl sc)) := HZ.out.2.1.on HNw.out.be
  clear z0 z1 z2 z3
  obtain ⟨z0, z1, z2, z3⟩ := HZ3.out.cells
  go_upto_region 7 with (first
    | (go_at_call 9; refine (HB.out _).mono ?_; rintro e w4 ⟨rfl, h1⟩; have H4 : Hid (Below w3.heap.size w3 w4) := h1; clear h1 HB)
    | (go_at_call 8; refine (HG.out _).mono ?_; rintro e w5 ⟨rfl, h1⟩; have H5 : Hid (Below w4.heap.size w4 w5) := h1; clear h1 HG))
  have HN5 : Hid (NewW wz w5 (newDk d0 L2 nw capL n l) (newR r0 n g4 cap4 l) 0) := newOn HNw.out (H4.out.trans (H5.out.mono H4.out.size))
  have HP0 : Hid (XB wz (w5.alloc (.cells #[.pointer (some ⟨d0, 0, none⟩), .pointer (some ⟨r0, 0, none⟩), .pointer none, .pointer none, .int .i64 (n : Int), .int .i64 98, .int .i64 (gI n), .int .i64 (gD n), .int .i64 (gC n)] 42)) w5.heap.size (newDk d0 L2 nw capL n l) (newR r0 n g4 cap4 l) ⟨n⟩ 0 (.pointer none) (.pointer none)) := zstart (K := ⟨n⟩) HN5.out (rs_newZ d0 L2 nw capL n l H1.out.2.2.len (H1.out.2.2.one HN.out.1)) HN.out.1 HN.out.2
  obtain ⟨P, hP⟩ : ∃ P, w5.heap.size = P := ⟨_, rfl⟩
  obtain ⟨wp, hwp⟩ : ∃ wp, w5.alloc (.cells #[.pointer (some ⟨d0, 0, none⟩), .pointer (some ⟨r0, 0, none⟩), .pointer none, .pointer none, .int .i64 (n : Int), .int .i64 98, .int .i64 (gI n), .int .i64 (gD n), .int .i64 (gC n)] 42) = wp := ⟨_, rfl⟩
  rw [hwp, hP] at HP0
  try rw [hP]
  try rw [hwp]
  clear hP hwp HN5 HNw H5 H4 H3 H2 HZ3 z0 z1 z2 z3
  go_upto_region 9 with (go_at_call 10; refine (begins_any HP0.out rfl rfl).mono ?_; rintro e w6 ⟨rfl, T0, U0, h6⟩; have H6 : Hid (∃ D R T U K, XS wz w6 P D R T U K 0 ∧ K.kb = n ∧ D.nb = n) := ⟨_, _, T0, U0, ⟨n⟩, h6, rfl, rfl⟩; clear h6 HP0)
  go_wp2
  go_loopw [9] (fun s9 wr => ∃ i : Nat, s9 = .int .i64 (i : Int) ∧ i ≤ 120 ∧ i ≤ sl ∧ ∃ D R T U K, XS wz wr P D R T U K (2 * i) ∧ K.kb = n ∧ D.nb = n) (fun s9 _ => 120 - (intOf s9).toNat)
  case atStart => exact ⟨0, rfl, Nat.zero_le _, Nat.zero_le _, H6.out⟩
  case round =>
    obtain ⟨i, rfl, hi, his, D, R, T, U, K, hX, hkb, hnb⟩ := hrel
    have HX : Hid (XS wz wr P D R T U K (2 * i) ∧ K.kb = n ∧ D.nb = n) := ⟨hX, hkb, hnb⟩
    clear hX hkb hnb H6
    have HZr : Hid (CsAt wr Q N (.slice ba bl bc) rest (.slice sa sl sc)) := HZ.out.2.1.on HX.out.1.ws.be
    have z3 := HZr.out.cells.2.2.2
    by_cases hlm : i < sl ∧ i < 120
    · have hlmb : (i : Int) < (sl : Int) := by omega
      have hib : (i : Int) < 120 := by omega
      have hil : i < L.length := by rw [HL.out.2.1]; exact hlm.1
      obtain ⟨q, hq⟩ : ∃ q, L[i]? = some q := ⟨_, List.getElem?_eq_getElem hil⟩
      obtain ⟨b, off, rfl, _⟩ := HL.out.1.at_.resolve_left (by intro e; rw [e] at hil; simp at hil)
      have HQ : Hid (OpZIn q) := HL.out.1.each q (List.mem_of_getElem? hq)
      obtain ⟨s0, s1, s2⟩ := HL.out.1.cells (HZ.out.1.trans (HX.out.1.ws.be.mono HZ.out.1.size)) hq
      obtain ⟨qk, qn, qx⟩ := q
      simp only at s0 s1 s2
      clear hil hq
      have HSt : Hid (∀ wx, XS wz wx P D R T U K (2 * i) → Calls Tryz.prog 11 #[.pointer (some ⟨P, 0, none⟩), .agg #[.int .i64 qk, .int .i64 qn, .int .u8 qx]] wx (PlZ wz P (2 * i) n)) := fun wx hx => by
        have hk : K.kb = n := HX.out.2.1
        have := zplay_any hx (HX.out.2.2.trans hk.symm) (by have := HN.out; show 98 ≤ K.kb; omega) (HL.out.2.2.on HZ.out.1) (by omega) qk qn qx HQ.out.1 HQ.out.2
        rw [hk] at this
        exact this
      go_upto_region 13 with (go_at_call 11; refine (HSt.out _ HX.out.1).mono ?_; rintro e w1 ⟨rfl, D', R', T', U', K', hE, hk1, hk2⟩; have HP1 : Hid (XS wz w1 P D' R' T' U' K' (2 * (i + 1)) ∧ K'.kb = n ∧ D'.nb = n) := ⟨hE, hk1, hk2⟩; clear hE hk1 hk2 s0 s1 s2 z3)
      go_roundw
      case rel => exact ⟨i + 1, by go_num, by omega, by omega, D', R', T', U', K', HP1.out⟩
      case measure => simp [intOf]; omega
    · obtain ⟨d', hd'⟩ : ∃ d', D.d = d' := ⟨_, rfl⟩
      obtain ⟨r', hr'⟩ : ∃ r', R.r = r' := ⟨_, rfl⟩
      obtain ⟨wn, hwn⟩ : ∃ wn : Int, R.wr = wn := ⟨_, rfl⟩
      obtain ⟨fn, hfn⟩ : ∃ fn : Int, R.fl = fn := ⟨_, rfl⟩
      have HCs : Hid (∀ wx, Below wr.heap.size wr wx → wx.cell? ⟨P, 0, none⟩ = some (.pointer (some ⟨d', 0, none⟩)) ∧ wx.cell? ⟨P, 1, none⟩ = some (.pointer (some ⟨r', 0, none⟩)) ∧ wx.cell? ⟨r', 5, none⟩ = some (.int .i64 wn) ∧ wx.cell? ⟨r', 6, none⟩ = some (.int .i64 fn)) := fun wx hb => by
        have h := HX.out.1.on hb
        have p0 := h.ptrs.1
        have p1 := h.ptrs.2.1
        have p5 := h.ws.t.r.cell 5
        have p6 := h.ws.t.r.cell 6
        rw [hd'] at p0
        rw [hr'] at p1 p5 p6
        rw [← hwn, ← hfn]
        exact ⟨p0, p1, p5, p6⟩
      have HSp : Hid (∀ wx, Below wr.heap.size wr wx → Calls Tryz.prog 12 #[.pointer (some ⟨d', 0, none⟩)] wx fun e w' => e = .returned (.tuple #[.int .i64 wn, .int .i64 fn]) ∧ Below wx.heap.size wx w') := fun wx hb => by
        have h := HX.out.1.on hb
        have := steps_any wx D h.ws.d
        have t5 : (D.wr : Int) = R.wr := h.ws.t.tie.wr
        have t6 : (D.fl : Int) = R.fl := h.ws.t.tie.fl
        rw [hd', t5, t6, hwn, hfn] at this
        exact this
      clear hd' hr' hwn hfn
      have c0 := (HCs.out wr (Below.refl _ _)).1
      rcases (show ¬ i < sl ∨ (i < sl ∧ ¬ i < 120) by omega) with hz | ⟨hz, hz2⟩
      · have hz' : ¬ (i : Int) < (sl : Int) := by omega
        clear hlm hz
        go_upto_region 15 with (go_at_call 12; refine (HSp.out wr (Below.refl _ _)).mono ?_; rintro e w2 ⟨rfl, hb⟩; have H2 : Hid (Below wr.heap.size wr w2) := hb; clear hb z3 c0)
        obtain ⟨c0, c1, c5, c6⟩ := HCs.out w2 H2.out
        go_wp2
        go_ret
        exact ⟨rfl, (HZ.out.1.trans (HX.out.1.ws.be.mono HZ.out.1.size)).trans (H2.out.mono (HZ.out.1.trans (HX.out.1.ws.be.mono HZ.out.1.size)).size)⟩
      · have hz' : (i : Int) < (sl : Int) := by omega
        have hz3 : ¬ (i : Int) < 120 := by omega
        clear hlm hz hz2
        go_upto_region 15 with (go_at_call 12; refine (HSp.out wr (Below.refl _ _)).mono ?_; rintro e w2 ⟨rfl, hb⟩; have H2 : Hid (Below wr.heap.size wr w2) := hb; clear hb z3 c0)
        obtain ⟨c0, c1, c5, c6⟩ := HCs.out w2 H2.out
        go_wp2
        go_ret
        exact ⟨rfl, (HZ.out.1.trans (HX.out.1.ws.be.mono HZ.out.1.size)).trans (H2.out.mono (HZ.out.1.trans (HX.out.1.ws.be.mono HZ.out.1.size)).size)⟩
end Go.Proofs.YtflienghgobmoaaGreatDoor
