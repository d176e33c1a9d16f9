import Derived.Test.YtdheojhfgeabhaaDoorTxBm
namespace Go.Proofs.YtdheojhfgeabhaaDoor
open Go.RowKit Go.Maps Rec

theorem Ses.write_same {w0 w w' : World} {D : Dk} {T : Tx} (h : Ses w0 w D T) (hb : Below w.heap.size w w') : Ses w0 w' D T := h.on hb
set_option maxRecDepth 100000 in
set_option maxHeartbeats 4000000 in
/-- a Write of a block that may not be -/
theorem twrite_blk (w : World) (T : Tx) (D : Dk) (h : TxAt w T) (hD : Disk w D) (hd : D.d = T.d) (hn : D.nb = T.nb) (i : Int) (hi : i < 98 ∨ (T.nb : Int) ≤ i) (v : Value) :
    Calls Tryd.prog 30 #[.pointer (some ⟨T.t, 0, none⟩), .int .i64 i, v] w fun e w' => e = .returned (.int .i64 31) ∧ Below w.heap.size w w' := by
  have HB0 : Hid (Below w.heap.size w ((w.alloc (.cells #[.pointer (some ⟨T.t, 0, none⟩)] 43)).alloc (.cells #[.int .i64 i] 3))) := ((Below.refl _ w).alloc (Nat.le_refl _) _).alloc (by simp) _
  have HMT : Hid (∀ wx, Below w.heap.size w wx → Calls Tryd.prog 43 #[.pointer (some ⟨T.t, 0, none⟩), .int .i64 i, .int .i64 98] wx fun e w' => e = .returned (.int .i64 31) ∧ wx = w') := fun wx hbx => by
    have := mayTouch_any wx T D (h.on hbx) (hD.on hbx) hd hn i 98
    rw [show touchT T.nb i 98 = 31 from by unfold touchT; rw [if_pos hi]] at this
    exact this
  clear h hD hd hn hi
  go_enter Tryd.func30, Tryd.ntmps30
  go_wp2_with (go_at_call 43; refine (HMT.out _ HB0.out).mono ?_; rintro e w' ⟨rfl, rfl⟩)
  go_ret
  exact ⟨rfl, HB0.out⟩
set_option maxRecDepth 100000 in
set_option maxHeartbeats 4000000 in
/-- .. of another length -/
theorem twrite_size (w : World) (T : Tx) (D : Dk) (h : TxAt w T) (hD : Disk w D) (hd : D.d = T.d) (hn : D.nb = T.nb) (i : Nat) (h0 : 98 ≤ i) (h1 : i < T.nb) (a : Option Addr) (l c : Nat) (hl : l < 512) :
    Calls Tryd.prog 30 #[.pointer (some ⟨T.t, 0, none⟩), .int .i64 (i : Int), .slice a l c] w fun e w' => e = .returned (.int .i64 32) ∧ Below w.heap.size w w' := by
  have HB0 : Hid (Below w.heap.size w ((w.alloc (.cells #[.pointer (some ⟨T.t, 0, none⟩)] 43)).alloc (.cells #[.int .i64 (i : Int)] 3))) := ((Below.refl _ w).alloc (Nat.le_refl _) _).alloc (by simp) _
  have HMT : Hid (∀ wx, Below w.heap.size w wx → Calls Tryd.prog 43 #[.pointer (some ⟨T.t, 0, none⟩), .int .i64 (i : Int), .int .i64 98] wx fun e w' => e = .returned (.int .i64 0) ∧ wx = w') := fun wx hbx => by
    have := mayTouch_any wx T D (h.on hbx) (hD.on hbx) hd hn (i : Int) 98
    rw [show touchT T.nb (i : Int) 98 = 0 from touchT_ok (first := 98) h0 h1] at this
    exact this
  have hne : ((l : Int) == 512) = false := by simp; omega
  clear h hD hd hn
  go_enter Tryd.func30, Tryd.ntmps30
  go_wp2_with (go_at_call 43; refine (HMT.out _ HB0.out).mono ?_; rintro e w' ⟨rfl, rfl⟩)
  go_ret
  exact ⟨rfl, HB0.out⟩
set_option maxRecDepth 100000 in
set_option maxHeartbeats 4000000 in
/-- .. of a block too many -/
theorem twrite_big (w : World) (T : Tx) (D : Dk) (h : TxAt w T) (hD : Disk w D) (hd : D.d = T.d) (hn : D.nb = T.nb) (i : Nat) (h0 : 98 ≤ i) (h1 : i < T.nb) (a : Option Addr) (c : Nat) (hci : T.c i = none) (h96 : (lst T.c T.nb).length = 96) :
    Calls Tryd.prog 30 #[.pointer (some ⟨T.t, 0, none⟩), .int .i64 (i : Int), .slice a 512 c] w fun e w' => e = .returned (.int .i64 60) ∧ Below w.heap.size w w' := by
  have HB0 : Hid (Below w.heap.size w ((w.alloc (.cells #[.pointer (some ⟨T.t, 0, none⟩)] 43)).alloc (.cells #[.int .i64 (i : Int)] 3))) := ((Below.refl _ w).alloc (Nat.le_refl _) _).alloc (by simp) _
  have HMT : Hid (∀ wx, Below w.heap.size w wx → Calls Tryd.prog 43 #[.pointer (some ⟨T.t, 0, none⟩), .int .i64 (i : Int), .int .i64 98] wx fun e w' => e = .returned (.int .i64 0) ∧ wx = w') := fun wx hbx => by
    have := mayTouch_any wx T D (h.on hbx) (hD.on hbx) hd hn (i : Int) 98
    rw [show touchT T.nb (i : Int) 98 = 0 from touchT_ok (first := 98) h0 h1] at this
    exact this
  have HT : Hid (TxAt w T) := h
  have hi16 : i ≤ 16384 := by have := h.n16; omega
  have HC : Hid (T.c i = none ∧ (lst T.c T.nb).length = 96) := ⟨hci, h96⟩
  clear h hD hd hn hci h96 h0 h1
  go_enter Tryd.func30, Tryd.ntmps30
  go_upto_region 6 with (go_at_call 43; refine (HMT.out _ HB0.out).mono ?_; rintro e w' ⟨rfl, rfl⟩)
  obtain ⟨wa, hwa⟩ : ∃ wa, (w.alloc (.cells #[.pointer (some ⟨T.t, 0, none⟩)] 43)).alloc (.cells #[.int .i64 (i : Int)] 3) = wa := ⟨_, rfl⟩
  have HBa : Hid (Below w.heap.size w wa) := by rw [← hwa]; exact HB0.out
  have hca : wa.cell? ⟨w.heap.size, 0, none⟩ = some (.pointer (some ⟨T.t, 0, none⟩)) := by rw [← hwa]; simp
  have hcb : wa.cell? ⟨w.heap.size + 1, 0, none⟩ = some (.int .i64 (i : Int)) := by rw [← hwa]; simp
  have hc1 : wa.cell? ⟨T.t, 1, none⟩ = some (.map (some T.mb)) := (HT.out.on HBa.out).cell 1
  have hs2 : wa.heap.size = w.heap.size + 2 := by rw [← hwa]; simp
  have HTa : Hid (TxAt wa T) := HT.out.on HBa.out
  rw [hwa]
  clear hwa HB0 HMT
  have hlk0 : ∀ wx, Below wa.heap.size wa wx → (Instr.lookup 62 (.map (some T.mb)) (.int .i64 (i : Int)) true).run Tryd.prog wx = .ok (.tuple #[.slice none 0 0, .bool false]) wx := fun wx hb => by
    have := (HTa.out.map.on hb).look HTa.out.ok i hi16
    rw [HC.out.1] at this
    exact this
  have hlk := hlk0 wa.drew (Below.refl _ wa).drew
  have hlkA := hlk0 (wa.alloc (.cells #[.slice none 0 0] 25)).drew ((Below.refl _ wa).alloc (Nat.le_refl _) _).drew
  have hlkB := hlk0 (wa.alloc (.cells #[.bool false] 4)).drew ((Below.refl _ wa).alloc (Nat.le_refl _) _).drew
  have hlkAB := hlk0 ((wa.alloc (.cells #[.slice none 0 0] 25)).alloc (.cells #[.bool false] 4)).drew (((Below.refl _ wa).alloc (Nat.le_refl _) _).alloc (by simp) _).drew
  have hlkBA := hlk0 ((wa.alloc (.cells #[.bool false] 4)).alloc (.cells #[.slice none 0 0] 25)).drew (((Below.refl _ wa).alloc (Nat.le_refl _) _).alloc (by simp) _).drew
  have hl1 : w.heap.size < wa.heap.size := by omega
  have hl2 : w.heap.size + 1 < wa.heap.size := by omega
  have hl3 : T.t < wa.heap.size := HTa.out.lt (.inl (.inl rfl))
  clear hlk0 hs2
  go_cut [8, 9] (fun s8 s9 wx => ∃ bb bw : Nat, s8 = .pointer (some ⟨bb, 0, none⟩) ∧ s9 = .pointer (some ⟨bw, 0, none⟩) ∧ Bx wa wx bb bw (.slice none 0 0) false)
  case first =>
    go_region
    all_goals
      go_wp2
      go_meet
      case rel => exact ⟨_, _, rfl, rfl, by first | exact bx_ab _ _ _ | exact bx_ba _ _ _⟩
  case rest =>
  obtain ⟨bb, bw, rfl, rfl, hbx⟩ := hcut
  have HX2 : Hid (Bx wa wc bb bw (.slice none 0 0) false) := hbx
  have HTc : Hid (TxAt wc T) := HTa.out.on hbx.bel
  have cw : wc.cell? ⟨bw, 0, none⟩ = some (.bool false) := by rw [cell_of_row _ _ _ _ _ _ hbx.w]; rfl
  have ca2 : wc.cell? ⟨w.heap.size, 0, none⟩ = some (.pointer (some ⟨T.t, 0, none⟩)) := (hbx.bel.cell hl1).trans hca
  have c12 : wc.cell? ⟨T.t, 1, none⟩ = some (.map (some T.mb)) := HTc.out.cell 1
  clear hlk hlkA hlkB hlkAB hlkBA hca hcb hc1 hbx
  have hlen : ∀ ty, (Builtin.len_ #[62] ty #[.map (some T.mb)]).run Tryd.prog wc = .ok (.int .i64 96) wc := fun ty => by
    have := HTc.out.map.len ty
    rw [HC.out.2] at this
    exact this
  go_upto_region 7 with (fail)
  go_wp2
  go_ret
  exact ⟨rfl, HBa.out.trans (HX2.out.bel.mono HBa.out.size)⟩
theorem lst_len_del {c : Cm} {n i : Nat} (h : i < n) {q : Bk} (hq : c i = some q) : (lst (ups c i none) n).length + 1 = (lst c n).length := by
  rw [lst_ups c n i _ h, lst_split c n i h, hq]
  simp
  omega
end Go.Proofs.YtdheojhfgeabhaaDoor
