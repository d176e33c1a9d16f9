import Derived.Test.YtpbpblpbjkegfaaSpK
import Derived.Test.YtpbpblpbjkegfaaKADo
import Derived.Test.YtpbpblpbjkegfaaTxK
import Derived.Test.YtpbpblpbjkegfaaSpP
namespace Go.Proofs.Ytpbpblpbjkegfaa
open Go.RowKit Go.Maps Rec

theorem res_tmp_row {fn : Func} {p u : Tmp} {ty : TypeId} (h : fn.results = #[.tmp u, .cell p ty]) (tmps : Array Value) (w : World) (g : Nat) (cs : Array Value)
    (hp : tmps.getD p undef = .pointer (some ⟨g, 0, none⟩)) (hl : (loadVar ty ⟨g, 0, none⟩).run Try.prog w = .ok (.agg cs) w) :
    (results fn tmps).run Try.prog w = .ok (.tuple #[tmps.getD u undef, .agg cs]) w := by
  have e : (results fn tmps).run Try.prog w = ((asAddr (tmps.getD p undef)).run Try.prog w).andThen fun a w₁ => ((loadVar ty a).run Try.prog w₁).andThen fun v w₂ => .ok (.tuple #[tmps.getD u undef, v]) w₂ := by
    simp only [results, h]
    simp [Sem.run_bind, Result.andThen]
  rw [e, hp]
  simp [asAddr, hl]
/-- a session that was just opened on a case's disk -/
structure OpE (w0 w : World) (D : Dk) (T : Tx) (n : Nat) (f : Nat → Bool) : Prop where
  spc : Spc w0 w D T n
  c : T.c = fun _ => none
  us : T.us = []
  top : ∀ i, nD n ≤ i → i < n → tv D T i = one 7
  bit : ∀ i, i < 4096 * nM n → isT (bmp D T) i = f i
theorem OpE.on {w0 w w' : World} {D : Dk} {T : Tx} {n : Nat} {f : Nat → Bool} (h : OpE w0 w D T n f) (hb : Below w.heap.size w w') : OpE w0 w' D T n f := ⟨h.spc.on hb, h.c, h.us, h.top, h.bit⟩
theorem op_of {w0 w : World} {D : Dk} {T : Tx} {n : Nat} {f : Nat → Bool} {l : List Int} (hs : Ses w0 w D T) (hF : Fresh D.abs n l) (hc : T.c = fun _ => none) (hu : T.us = []) (hn : T.nb = n) (h0 : 128 ≤ n) (h1 : n ≤ 16384) (hI : Img l n f) : OpE w0 w D T n f := by
  have hN := nM_bd h0 h1
  have hfull : D.full = l := by
    rw [abs_full, AD.full, hF.pen, hF.las]
    rfl
  have htv : ∀ i, tv D T i = bck l i := fun i => by rw [tv, hc, hfull]
  have hnth : ∀ i, i < n → ∀ j, j < 512 → nth (bck l i) j = nth l (512 * i + j) := fun i hi j hj => nth_blk hI.len hi j hj
  have hlen : ∀ i, i < n → (bck l i).length = 512 := fun i hi => blk_length hI.len hi
  refine ⟨⟨hs, hF.down, hn, h0, h1, fun i hi => ?_⟩, hc, hu, fun i h2 h3 => ?_, fun i hi => ?_⟩
  · rw [htv]
    refine ⟨hlen i hi, fun j => ?_⟩
    by_cases hj : j < 512
    · rw [hnth i hi j hj]; exact hI.wf _
    · rw [nth_out _ _ (by rw [hlen i hi]; omega)]; omega
  · rw [htv]
    refine ext_nth (by rw [hlen i h3, one, List.length_replicate]) fun j hj => ?_
    rw [hlen i h3] at hj
    rw [hnth i h3 j hj, hI.top _ (by omega) (by omega), one, nth_rep _ _ _ hj]
  · have hb : bn (bck l (98 + i / 4096)) (i % 4096) = bn l (401408 + i) := by
      rw [bn, bn, hnth _ (by omega) _ (by omega), show 512 * (98 + i / 4096) + i % 4096 / 8 = (401408 + i) / 8 by omega, show i % 4096 % 8 = (401408 + i) % 8 by omega]
    rw [isT, bmp, htv, bt, hb, hI.bit i hi]
    cases f i <;> rfl
theorem op_box {w w3 w7 w8 : World} {D : Dk} {T : Tx} {n k : Nat} {f : Nat → Bool} (h : OpE w3 w7 D T n f) (hb : Below w.heap.size w w3) (hf : Fr (fun j => j = k) w7 w8) (h0 : w.heap.size ≤ k) (h1 : k < w3.heap.size) (hD : ∀ k, D.all k → w3.heap.size ≤ k) : OpE w w8 D T n f := by
  have hs : Ses w w7 D T := ⟨h.spc.ses.dk.far' hb, h.spc.ses.tx, h.spc.ses.d, h.spc.ses.nb, h.spc.ses.ap1, h.spc.ses.ap2, fun k hk => Nat.le_trans hb.size (h.spc.ses.far k hk)⟩
  refine ⟨⟨hs.fr hf (fun j hj => by have hj : j = k := hj; omega) (fun j hj e => ?_) (fun j hj e => ?_), h.spc.dn, h.spc.nb, h.spc.lo, h.spc.hi, h.spc.ok⟩, h.c, h.us, h.top, h.bit⟩
  · have e : j = k := e
    have := h.spc.ses.far j hj
    omega
  · have e : j = k := e
    have := hD j hj
    omega
theorem used0 (w0 w : World) (D : Dk) (T : Tx) (n : Nat) (bs : List Int) (rest : Int) (h : OpE w0 w D T n (fB n bs rest)) :
    Calls Try.prog 16 #[.pointer (some ⟨T.t, 0, none⟩), geoV n, .int .i64 0] w fun e w' => e = .returned (.tuple #[.bool true, .int .i64 0]) ∧ Below w.heap.size w w' := by
  have hN := nM_bd h.spc.lo h.spc.hi
  have := used_any w0 w D T n h.spc 0 (by omega)
  rw [h.bit 0 (by omega), fB, decide_eq_true (.inl (by omega))] at this
  exact this
set_option maxRecDepth 100000 in
set_option maxHeartbeats 16000000 in
theorem opened9 (w : World) (N : Int) (hN : -9223372036854775808 ≤ N ∧ N ≤ 9223372036854775807) (ba : Option Addr) (bl bc : Nat) (rest : Int) (hr : 0 ≤ rest ∧ rest < 256) (sa : Option Addr) (sl sc : Nat) (bs : List Int) (hb : Bytes w ba bs) (hl : bs.length = bl) :
    Calls Try.prog 5 #[csV N (.slice ba bl bc) rest (.slice sa sl sc)] w fun e w' => ∃ T, e = .returned (.tuple #[.pointer (some ⟨T.t, 0, none⟩), geoV (nBl N : Nat)]) ∧ ∃ D, OpE w w' D T (nBl N) (fB (nBl N) bs rest) := by
  have HB : Hid (∀ wx, Calls Try.prog 19 #[csV N (.slice ba bl bc) rest (.slice sa sl sc)] wx fun e w' => e = .returned (.int .i64 (nBl N : Nat)) ∧ Below wx.heap.size wx w') := fun wx => blocks9 wx N hN ba bl bc rest sa sl sc
  have HIm : Hid (∀ wx, Below w.heap.size w wx → Calls Try.prog 21 #[csV N (.slice ba bl bc) rest (.slice sa sl sc)] wx fun e w' => ∃ g, e = .returned (.slice (some ⟨g, 0, none⟩) (512 * nBl N) (512 * nBl N)) ∧ wx.heap.size ≤ g ∧ Below wx.heap.size wx w' ∧ ∃ l, OwnB w' g (512 * nBl N) l ∧ Img l (nBl N) (fB (nBl N) bs rest)) := fun wx hbx => image9 wx N hN ba bl bc rest hr sa sl sc bs (hb.on hbx) hl
  have hnb := nBl_bd N
  obtain ⟨n, hn⟩ : ∃ n, nBl N = n := ⟨_, rfl⟩
  rw [hn] at HB hnb HIm
  rw [hn]
  clear hn hN hb
  have hNm := nM_bd hnb.1 (by omega)
  have HG : Hid (∀ wx, Calls Try.prog 18 #[.int .i64 (n : Int)] wx fun e w' => e = .returned (geoV n) ∧ Below wx.heap.size wx w') := fun wx => geo9 wx n hnb.1 (by omega)
  have HOp : Hid (∀ wx p l, Bytes wx (some p) l → l.length = 512 * n → Calls Try.prog 20 #[.slice (some p) (512 * n : Nat) (512 * n)] wx fun e w' => ∃ d0, e = .returned (.tuple #[.pointer (some ⟨d0, 0, none⟩), .int .i64 0]) ∧ ∃ D, D.d = d0 ∧ Mine wx w' D ∧ Fresh D.abs n l) := fun wx p l h1 h2 => by
    refine (open_fresh wx p (512 * n) n l h1 h2 (by omega) (by omega)).mono ?_
    rintro e w' ⟨D, rfl, h3, h4⟩
    exact ⟨D.d, rfl, D, rfl, h3, h4⟩
  obtain ⟨K, hK⟩ : ∃ K, 512 * n = K := ⟨_, rfl⟩
  have HKn : Hid (512 * n = K) := hK
  rw [hK] at HIm HOp
  clear hK
  unfold csV at HB HIm
  unfold csV
  unfold geoV at HG
  obtain ⟨wz, hwz⟩ : ∃ wz, (w.alloc (.cells #[.int .i64 N, .slice ba bl bc, .int .u8 rest, .slice sa sl sc] 25)).alloc (.cells #[.int .i64 0, .int .i64 0, .int .i64 0, .int .i64 0, .int .i64 0] 28) = wz := ⟨_, rfl⟩
  have HZ : Hid (Below w.heap.size w wz ∧ CsAt wz w.heap.size N (.slice ba bl bc) rest (.slice sa sl sc) ∧ wz.heap[w.heap.size + 1]? = some (.cells #[.int .i64 0, .int .i64 0, .int .i64 0, .int .i64 0, .int .i64 0] 28 (0, 0))) := by
    rw [← hwz]
    refine ⟨((Below.refl _ _).alloc (Nat.le_refl _) _).alloc (by simp) _, (Below.heap_alloc _ _ _ (by simp)).trans (heap_alloc_new _ _), ?_⟩
    have := heap_alloc_new (w.alloc (.cells #[.int .i64 N, .slice ba bl bc, .int .u8 rest, .slice sa sl sc] 25)) (.cells #[.int .i64 0, .int .i64 0, .int .i64 0, .int .i64 0, .int .i64 0] 28)
    rw [World.size_alloc] at this
    exact this
  obtain ⟨z0, z1, z2, z3⟩ := HZ.out.2.1.cells
  have hpn := ptr_nil
  have hpt := ptr_nilT
  go_enter Try.func5, Try.ntmps5
  go_upto_region 2 with (first
    | (go_at_call 19; refine (HB.out _).mono ?_; rintro e w1 ⟨rfl, h1⟩; have H1 : Hid (Below wz.heap.size wz w1) := h1; clear h1 HB)
    | (go_at_call 18; refine (HG.out _).mono ?_; rintro e w2 ⟨rfl, h1⟩; have H2 : Hid (Below w1.heap.size w1 w2) := h1; clear h1 HG))
  obtain ⟨P4, hP4⟩ : ∃ P4, w2.heap.size = P4 := ⟨_, rfl⟩
  obtain ⟨w3, hw3⟩ : ∃ w3, w2.alloc (.cells #[.int .i64 (n : Int), .int .i64 98, .int .i64 (gI n), .int .i64 (gD n), .int .i64 (gC n)] 28) = w3 := ⟨_, rfl⟩
  have H3 : Hid (Below w.heap.size w w3 ∧ GeoAt w3 P4 n ∧ CsAt w3 w.heap.size N (.slice ba bl bc) rest (.slice sa sl sc) ∧ w3.heap[w.heap.size + 1]? = some (.cells #[.int .i64 0, .int .i64 0, .int .i64 0, .int .i64 0, .int .i64 0] 28 (0, 0)) ∧ w.heap.size + 1 < P4) := by
    have h9 := heap_lt HZ.out.2.2
    have h8 := H1.out.size
    have h7 := H2.out.size
    have hb2 : Below wz.heap.size wz w2 := H1.out.trans (H2.out.mono h8)
    have hb3 : Below w2.heap.size w2 w3 := by rw [← hw3]; exact (Below.refl _ _).alloc (Nat.le_refl _) _
    have hb4 : Below wz.heap.size wz w3 := hb2.trans (hb3.mono hb2.size)
    refine ⟨HZ.out.1.trans (hb4.mono HZ.out.1.size), ?_, HZ.out.2.1.on hb4, (hb4.block _ h9).trans HZ.out.2.2, by omega⟩
    rw [← hw3, ← hP4]; exact heap_alloc_new _ _
  rw [hw3, hP4]
  clear hw3 hwz z0 z1 z2 z3
  obtain ⟨c0, c1, c2, c3⟩ := H3.out.2.2.1.cells
  have HC : Hid (∀ wx, Below w3.heap.size w3 wx → GeoAt wx P4 n ∧ wx.heap[w.heap.size + 1]? = some (.cells #[.int .i64 0, .int .i64 0, .int .i64 0, .int .i64 0, .int .i64 0] 28 (0, 0))) := fun wx hb => ⟨H3.out.2.1.on hb, (hb.block _ (heap_lt H3.out.2.2.2.1)).trans H3.out.2.2.2.1⟩
  go_upto_region 11 with (first
    | (go_at_call 21; refine (HIm.out _ H3.out.1).mono ?_; rintro e w4 ⟨g, rfl, h1, h2, l, h3, h4⟩; have H4 : Hid (Below w3.heap.size w3 w4 ∧ OwnB w4 g K l ∧ Img l n (fB n bs rest)) := ⟨h2, h3, h4⟩; clear h1 h2 h3 h4 HIm)
    | (go_at_call 20; refine (HOp.out _ _ l H4.out.2.1.bytes (by rw [H4.out.2.2.len]; exact HKn.out)).mono ?_; rintro e w5 ⟨d0, rfl, D, hd, h1, h2⟩; have H5 : Hid (D.d = d0 ∧ Mine w4 w5 D ∧ Fresh D.abs n l) := ⟨hd, h1, h2⟩; clear hd h1 h2 HOp)
    | (go_at_call 22; refine (begin_ses w3 w5 D (H5.out.2.1.far' H4.out.1) d0 H5.out.1).mono ?_; rintro e w6 ⟨T, rfl, h1, h2, h3, h4⟩; have H6 : Hid (OpE w3 w6 D T n (fB n bs rest) ∧ Below w3.heap.size w3 w6) := ⟨op_of h1 H5.out.2.2 h2 h3 (h1.nb.symm.trans H5.out.2.2.size) hnb.1 (by omega) H4.out.2.2, (H4.out.1.trans (H5.out.2.1.bel.mono H4.out.1.size)).trans (h4.mono (Nat.le_trans H4.out.1.size H5.out.2.1.bel.size))⟩; obtain ⟨y0, y1, y2, y3, y4⟩ := (HC.out _ H6.out.2).1.cells; clear h1 h2 h3 h4)
    | (go_at_call 16; refine (used0 w3 w6 D T n bs rest H6.out.1).mono ?_; rintro e w7 ⟨rfl, hb⟩; have H7 : Hid ((OpE w3 w7 D T n (fB n bs rest) ∧ Below w3.heap.size w3 w7) ∧ ∀ k, D.all k → w3.heap.size ≤ k) := ⟨⟨H6.out.1.on hb, H6.out.2.trans (hb.mono H6.out.2.size)⟩, (H6.out.1.on hb).spc.ses.dk.far⟩; obtain ⟨x0, x1, x2, x3, x4⟩ := (HC.out _ H7.out.1.2).1.cells; have hrw := (HC.out _ H7.out.1.2).2; have q0 : w7.cell? ⟨w.heap.size + 1, 0, none⟩ = some (.int .i64 0) := (by rw [cell_of_row _ _ _ _ _ _ hrw]; rfl); have q1 : w7.cell? ⟨w.heap.size + 1, 1, none⟩ = some (.int .i64 0) := (by rw [cell_of_row _ _ _ _ _ _ hrw]; rfl); have q2 : w7.cell? ⟨w.heap.size + 1, 2, none⟩ = some (.int .i64 0) := (by rw [cell_of_row _ _ _ _ _ _ hrw]; rfl); have q3 : w7.cell? ⟨w.heap.size + 1, 3, none⟩ = some (.int .i64 0) := (by rw [cell_of_row _ _ _ _ _ _ hrw]; rfl); have q4 : w7.cell? ⟨w.heap.size + 1, 4, none⟩ = some (.int .i64 0) := (by rw [cell_of_row _ _ _ _ _ _ hrw]; rfl); have qf : ∀ j, w7.frozen? ⟨w.heap.size + 1, j, none⟩ = false := (fun j => frozen_of_row _ _ _ _ _ hrw); clear hb hrw))
  go_region
  all_goals go_wp2
  all_goals
    have hrw := (HC.out _ H7.out.1.2).2
    have r1 := heap_setCell_same _ _ 0 _ _ (.int .i64 (n : Int)) hrw
    have r2 := heap_setCell_same _ _ 1 _ _ (.int .i64 98) r1
    have r3 := heap_setCell_same _ _ 2 _ _ (.int .i64 (gI n)) r2
    have r4 := heap_setCell_same _ _ 3 _ _ (.int .i64 (gD n)) r3
    have r5 := heap_setCell_same _ _ 4 _ _ (.int .i64 (gC n)) r4
    have k0 := cell_of_row _ _ 0 _ _ _ r5
    have k1 := cell_of_row _ _ 1 _ _ _ r5
    have k2 := cell_of_row _ _ 2 _ _ _ r5
    have k3 := cell_of_row _ _ 3 _ _ _ r5
    have k4 := cell_of_row _ _ 4 _ _ _ r5
    have hFr : Fr (fun k => k = w.heap.size + 1) w7 (((((w7.setCell ⟨w.heap.size + 1, 0, none⟩ (.int .i64 (n : Int))).setCell ⟨w.heap.size + 1, 1, none⟩ (.int .i64 98)).setCell ⟨w.heap.size + 1, 2, none⟩ (.int .i64 (gI n))).setCell ⟨w.heap.size + 1, 3, none⟩ (.int .i64 (gD n))).setCell ⟨w.heap.size + 1, 4, none⟩ (.int .i64 (gC n))) := (((Fr.set.trans Fr.set (fun _ hk => .inl hk)).trans Fr.set (fun _ hk => .inl hk)).trans Fr.set (fun _ hk => .inl hk)).trans Fr.set (fun _ hk => .inl hk)
    refine bodyPost_ret (res_tmp_row rfl _ _ (w.heap.size + 1) #[.int .i64 (n : Int), .int .i64 98, .int .i64 (gI n), .int .i64 (gD n), .int .i64 (gC n)] rfl (by simp [go_sem, k0, k1, k2, k3, k4])) rfl ?_
    have hlt := H3.out.2.2.2.2
    have hs3 := heap_lt H3.out.2.1
    refine ⟨T, rfl, D, (op_box H7.out.1.1 H3.out.1 hFr (by omega) (by omega) H7.out.2).on (by repeat (first | exact Below.refl _ _ | apply Below.drew))⟩
end Go.Proofs.Ytpbpblpbjkegfaa

namespace Go.Proofs.Ytpbpblpbjkegfaa
open Go.RowKit Go.Maps Rec

set_option maxRecDepth 100000 in
set_option maxHeartbeats 4000000 in
theorem stake_big (w0 w : World) (D : Dk) (T : Tx) (n : Nat) (h : Spc w0 w D T n) (i : Nat) (hi : IsLo (fd (nD n) n (bmp D T)) i) (hnb : n ≤ 1000) (hr1 : T.c (98 + i / 4096) = none) (hr3 : T.c i = none) (hr2 : (lst T.c n).length = 95 ∨ (lst T.c n).length = 96) (hu : T.us.length + 2 ≤ 1000000) :
    Calls Try.prog 6 #[.pointer (some ⟨T.t, 0, none⟩), geoV n] w fun e w' => e = .returned (.tuple #[.int .i64 0, .int .i64 60]) ∧ ∃ T', BigE w0 w w' D T T' n := by
  have hbd := fd_bd hi.1
  have HA : Hid (∀ o, Below w.heap.size w (w.alloc o)) := fun o => (Below.refl _ _).alloc (Nat.le_refl _) o
  have HL : Hid (∀ wx, Below w.heap.size w wx → Calls Try.prog 23 #[.pointer (some ⟨T.t, 0, none⟩), geoV n] wx fun e w' => e = .returned (.tuple #[.int .i64 (i : Int), .int .i64 0]) ∧ Below wx.heap.size wx w') := fun wx hb => low_yes w0 wx D T n (h.on hb) i hi
  have HO : Hid (∀ wx, Below w.heap.size w wx → Calls Try.prog 24 #[.pointer (some ⟨T.t, 0, none⟩), geoV n, .int .i64 (i : Int)] wx fun e w' => e = .returned (.int .i64 60) ∧ ∃ T', BigE w0 w w' D T T' n) := fun wx hb => by
    have h9 : Calls Try.prog 24 #[.pointer (some ⟨T.t, 0, none⟩), geoV n, .int .i64 (i : Int)] wx fun e w' => e = .returned (.int .i64 60) ∧ ∃ T', BigE w0 wx w' D T T' n := by
      rcases hr2 with h95 | h96
      · exact occupy_95 w0 wx D T n (h.on hb) i hbd.1 hbd.2 hnb hr1 hr3 h95 hu
      · exact occupy_96 w0 wx D T n (h.on hb) i hbd.1 hbd.2 hnb hr1 h96
    refine h9.mono ?_
    rintro e w' ⟨rfl, T', hx⟩
    exact ⟨rfl, T', (TMv.on hb).trans hx.mv, hx.spc, hx.c, hx.us⟩
  clear h hi hr1 hr2 hr3 hu
  obtain ⟨wz, hwz⟩ : ∃ wz, w.alloc (.cells #[.int .i64 (n : Int), .int .i64 98, .int .i64 (gI n), .int .i64 (gD n), .int .i64 (gC n)] 28) = wz := ⟨_, rfl⟩
  have HZ : Hid (Below w.heap.size w wz ∧ GeoAt wz w.heap.size n) := by
    rw [← hwz]; exact ⟨HA.out _, heap_alloc_new _ _⟩
  obtain ⟨z0, z1, z2, z3, z4⟩ := HZ.out.2.cells
  clear HA
  go_enter Try.func6, Try.ntmps6
  unfold geoV
  unfold geoV at HL HO
  go_wp2_with (first
    | (go_at_call 23; refine (HL.out _ HZ.out.1).mono ?_; rintro e w1 ⟨rfl, h1⟩; have H1 : Hid (Below w.heap.size w w1) := HZ.out.1.trans (h1.mono HZ.out.1.size); obtain ⟨y0, y1, y2, y3, y4⟩ := (HZ.out.2.on h1).cells; clear h1 HL)
    | (go_at_call 24; refine (HO.out _ H1.out).mono ?_; rintro e w2 ⟨rfl, T', hx⟩; clear HO))
  go_ret2
  exact ⟨rfl, T', hx⟩
end Go.Proofs.Ytpbpblpbjkegfaa
