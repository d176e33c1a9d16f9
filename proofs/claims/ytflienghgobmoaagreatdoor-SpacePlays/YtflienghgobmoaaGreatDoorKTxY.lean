import Derived.Test.YtflienghgobmoaaGreatDoorKTxW
import Derived.Deep.RegionHeldLaw
import Derived.Test.YtflienghgobmoaaGreatDoorKWalC
import Derived.Test.YtflienghgobmoaaGreatDoorKWFm
namespace Go.Proofs.YtflienghgobmoaaGreatDoor
open Go.RowKit Go.Maps Rec

/-- two variables of a call's own -/
structure Bx (wa wx : World) (bb bw : Nat) (v : Value) (bo : Bool) : Prop where
  b : wx.heap[bb]? = some (.cells #[v] 22 (0, 0))
  w : wx.heap[bw]? = some (.cells #[.bool bo] 4 (0, 0))
  bel : Below wa.heap.size wa wx
  fb : wa.heap.size ≤ bb
  fw : wa.heap.size ≤ bw
theorem bx_ab (wa : World) (v : Value) (bo : Bool) : Bx wa ((wa.alloc (.cells #[v] 22)).alloc (.cells #[.bool bo] 4)).drew wa.heap.size (wa.heap.size + 1) v bo := by
  refine ⟨?_, ?_, (((Below.refl _ wa).alloc (Nat.le_refl _) _).alloc (by simp) _).drew, Nat.le_refl _, by omega⟩
  · exact (Below.heap_alloc _ _ _ (by simp)).trans (heap_alloc_new _ _)
  · have := heap_alloc_new (wa.alloc (.cells #[v] 22)) (.cells #[.bool bo] 4)
    rwa [World.size_alloc] at this
theorem bx_ba (wa : World) (v : Value) (bo : Bool) : Bx wa ((wa.alloc (.cells #[.bool bo] 4)).alloc (.cells #[v] 22)).drew (wa.heap.size + 1) wa.heap.size v bo := by
  refine ⟨?_, ?_, (((Below.refl _ wa).alloc (Nat.le_refl _) _).alloc (by simp) _).drew, by omega, Nat.le_refl _⟩
  · have := heap_alloc_new (wa.alloc (.cells #[.bool bo] 4)) (.cells #[v] 22)
    rwa [World.size_alloc] at this
  · exact (Below.heap_alloc _ _ _ (by simp)).trans (heap_alloc_new _ _)
/-- behind the store into the map -/
structure Md (w wx : World) (T : Tx) (i : Nat) (q : Bk) (u : Un) : Prop where
  tx : TxAt wx (T.setC (ups T.c i (some q)))
  mv : TMv w T wx (T.setC (ups T.c i (some q)))
  un : UnAt wx T.t u
  ua : ∀ k, u.all k → ¬ T.has k
  uh : ∀ k, u.all k → T.held k ∨ w.heap.size ≤ k
theorem md_of {w w5 w6 : World} {T : Tx} {i : Nat} {q : Bk} {u : Un} (hT : TxAt w T) (hb : Below w.heap.size w w5) (hM : MapAt w6 T.mb (ups T.c i (some q)) T.nb) (hF : Fr (fun k => k = T.mb) w5 w6) (hB : BlkAt w5 q.g q.x) (hg : w.heap.size ≤ q.g) (hq : q.n = (i : Int)) (h0 : 98 ≤ i) (h1 : i < T.nb) (hl : (lst (ups T.c i (some q)) T.nb).length ≤ 96)
    (hu : UnAt w5 T.t u) (hua : ∀ k, u.all k → T.held k ∨ w.heap.size ≤ k) : Md w w6 T i q u := by
  have ht : ∀ k, T.has k → k < w.heap.size := fun k hk => hT.lt (.inl hk)
  have hn : ∀ k, u.all k → ¬ T.has k := fun k hk hh => (hua k hk).elim (fun e => hT.ap3 k e hh) (fun e => by have := ht k hh; omega)
  refine ⟨(hT.on hb).setC hM hF (fun x hx => ?_) h0 h1 hl, ?_, hu.fr hF (fun k hk e => hn k hk (.inr (.inl e))), hn, hua⟩
  · cases hx
    exact ⟨hB, fun hh => by have := ht _ hh; omega, hq⟩
  · have hm : TMv w5 T w6 T := ⟨hF.mono (fun k hk => .inr (.inl hk)), fun k hk => .inl hk, fun k hk => .inl hk, rfl, rfl, rfl⟩
    have hm2 := (TMv.on hb).trans hm
    refine ⟨hm2.fr, fun k hk => ?_, fun k hk => .inl hk, rfl, rfl, rfl⟩
    rcases hk with hk | hk
    · exact .inl (.inl hk)
    · rcases setC_held hk with hk | ⟨x, hx, rfl⟩
      · exact .inl (.inr hk)
      · cases hx; exact .inr hg
theorem cnt_put {c : Cm} {n i : Nat} {q : Bk} (h : (lst c n).length ≤ 96) (hi : i < n) (hr : (c i).isSome = true ∨ (lst c n).length < 96) : (lst (ups c i (some q)) n).length ≤ 96 := by
  rw [lst_len_ups hi]
  rcases hr with e | e
  · rw [e]; simpa using h
  · split <;> omega
theorem UnAt.on {w w' : World} {t : Nat} {u : Un} (h : UnAt w t u) (x : Below w.heap.size w w') : UnAt w' t u := h.fr (below_fr x (fun _ => False)) (fun _ _ e => e)
theorem md_push {w wc W w7 : World} {T : Tx} {i : Nat} {q : Bk} {u : Un} {ua : Option Addr} {uc g7 c7 : Nat} (h : Md w wc T i q u) (hW : Below wc.heap.size wc W) (huv : T.uv = .slice ua T.us.length uc) (hub : 98 ≤ u.i ∧ u.i < T.nb ∧ ∀ q, u.old = some q → q.n = (u.i : Int)) (hl : T.us.length + 1 ≤ 4000000)
    (ho : w7.ownsRow 0 1 1 (.slice (some ⟨g7, 0, none⟩) (T.us.length + 1) c7) (T.us.length + 1) (T.us.map Un.v ++ [u.v])) (hf : Fr (fun k => (Value.slice ua T.us.length uc).ownBlock = some k) W w7) (hg : (Value.slice ua T.us.length uc).ownBlock = some g7 ∨ W.heap.size ≤ g7) :
    (∃ T', TxAt (w7.setCell ⟨T.t, 2, none⟩ (.slice (some ⟨g7, 0, none⟩) (T.us.length + 1) c7)) T' ∧ TMv w T (w7.setCell ⟨T.t, 2, none⟩ (.slice (some ⟨g7, 0, none⟩) (T.us.length + 1) c7)) T' ∧ T'.c = ups T.c i (some q) ∧ T'.us = T.us ++ [u]) ∧ w7.cell? ⟨T.t, 2, none⟩ = some (.slice ua T.us.length uc) ∧ w7.frozen? ⟨T.t, 2, none⟩ = false ∧ w7.cell? ⟨u.bt, 0, none⟩ = some (.pointer (some ⟨T.t, 0, none⟩)) := by
  rw [← huv] at hf hg
  have hx := h.tx.on hW
  have hP := TxAt.push (T := T.setC (ups T.c i (some q))) hx (h.un.on hW) h.ua hub hl ho hf hg
  have hF : Fr T.has w (w7.setCell ⟨T.t, 2, none⟩ (.slice (some ⟨g7, 0, none⟩) (T.us.length + 1) c7)) := (h.mv.fr.trans (below_fr hW (fun _ => False)) (fun _ e => e.elim)).trans hP.2 (fun k hk => .inl hk)
  have hrow : w7.heap[T.t]? = some (.cells T.cells 116 (0, 0)) := hf.heap hx.row (fun e => (hx.ap2 T.t e).1 rfl)
  have hs1 := h.mv.fr.size
  have hs2 := hW.size
  have hasL : ∀ k, ((T.setC (ups T.c i (some q))).setU (.slice (some ⟨g7, 0, none⟩) (T.us.length + 1) c7) (T.us ++ [u])).has k → T.has k ∨ w.heap.size ≤ k := fun k hk => by
    rcases hk with e | e | e
    · exact .inl (.inl e)
    · exact .inl (.inr (.inl e))
    · have e : g7 = k := by
        have : (Value.slice (some ⟨g7, 0, none⟩) (T.us.length + 1) c7).ownBlock = some k := e
        simpa [Value.ownBlock] using this
      subst e
      rcases hg with e | e
      · exact .inl (.inr (.inr e))
      · exact .inr (by omega)
  refine ⟨⟨_, hP.1, ⟨hF, fun k hk => ?_, hasL, rfl, rfl, rfl⟩, rfl, rfl⟩, ?_, frozen_of_row _ _ _ _ _ hrow, hf.cell (h.un.on hW).ct (fun e => h.ua _ (.inr (.inr (.inl rfl))) (.inr (.inr e)))⟩
  · rcases hk with hk | hk | ⟨y, hy, hk⟩
    · exact (hasL k hk).elim (fun e => .inl (.inl e)) .inr
    · exact h.mv.al k (.inr (.inl hk))
    · rcases List.mem_append.1 hy with hy | hy
      · exact .inl (.inr (.inr ⟨y, hy, hk⟩))
      · simp at hy; subst hy
        exact (h.uh k hk).elim (fun e => .inl (.inr e)) .inr
  · rw [cell_of_row _ _ _ _ _ _ hrow, ← huv]; rfl
theorem news_f (wc : World) (v : Value) (t : TypeId) : ∀ (j : Nat) (y : Value), [v][j]? = some y → (wc.alloc (.cells #[v] t)).drew.cell? ((⟨wc.heap.size, 0, none⟩ : Addr).add j) = some y := fun j y hj => by
  have hc : (wc.alloc (.cells #[v] t)).drew.cell? ((⟨wc.heap.size, 0, none⟩ : Addr).add j) = (wc.alloc (.cells #[v] t)).cell? ((⟨wc.heap.size, 0, none⟩ : Addr).add j) := rfl
  rw [hc, Addr.add_lit, cell_of_row _ _ _ _ _ _ (heap_alloc_new _ _), Nat.zero_add]
  rw [← hj]
  match j with
  | 0 => rfl
  | j + 1 => simp
set_option maxRecDepth 100000 in
set_option maxHeartbeats 4000000 in
theorem twrite_ok (w : World) (T : Tx) (D : Dk) (h : TxAt w T) (hD : Disk w D) (hd : D.d = T.d) (hn : D.nb = T.nb) (i : Nat) (h0 : 98 ≤ i) (h1 : i < T.nb) (p : Addr) (c : Nat) (x : List Int) (hb : Bytes w (some p) x) (hx : x.length = 512) (hr : (T.c i).isSome = true ∨ (lst T.c T.nb).length < 96) (hu : T.us.length + 1 ≤ 4000000) :
    Calls Tryz.prog 34 #[.pointer (some ⟨T.t, 0, none⟩), .int .i64 (i : Int), .slice (some p) 512 c] w fun e w' => e = .returned (.int .i64 0) ∧ ∃ T' q u, TxAt w' T' ∧ TMv w T w' T' ∧ q.x = x ∧ q.n = (i : Int) ∧ T'.c = ups T.c i (some q) ∧ T'.us = T.us ++ [u] ∧ u.i = i ∧ u.old = T.c i := by
  have HB0 : Hid (Below w.heap.size w ((w.alloc (.cells #[.pointer (some ⟨T.t, 0, none⟩)] 39)).alloc (.cells #[.int .i64 (i : Int)] 3))) := ((Below.refl _ w).alloc (Nat.le_refl _) _).alloc (by simp) _
  have HMT : Hid (∀ wx, Below w.heap.size w wx → Calls Tryz.prog 77 #[.pointer (some ⟨T.t, 0, none⟩), .int .i64 (i : Int), .int .i64 98] wx fun e w' => e = .returned (.int .i64 0) ∧ wx = w') := fun wx hbx => by
    have := mayTouch_any wx T D (h.on hbx) (hD.on hbx) hd hn (i : Int) 98
    rw [show touchT T.nb (i : Int) 98 = 0 from touchT_ok (first := 98) h0 h1] at this
    exact this
  have HT : Hid (TxAt w T) := h
  have HX : Hid (Bytes w (some p) x) := hb
  have HXL : Hid (x.length = 512) := hx
  have HR : Hid ((T.c i).isSome = true ∨ (lst T.c T.nb).length < 96) := hr
  have HI : Hid (98 ≤ i ∧ i < T.nb ∧ i ≤ 16384 ∧ T.us.length + 1 ≤ 4000000) := ⟨h0, h1, by have := h.n16; omega, hu⟩
  clear h hD hd hn hb hx hr h0 h1 hu
  go_enter Tryz.func34, Tryz.ntmps34
  go_upto_region 6 with (go_at_call 77; refine (HMT.out _ HB0.out).mono ?_; rintro e w' ⟨rfl, rfl⟩)
  obtain ⟨wa, hwa⟩ : ∃ wa, (w.alloc (.cells #[.pointer (some ⟨T.t, 0, none⟩)] 39)).alloc (.cells #[.int .i64 (i : Int)] 3) = wa := ⟨_, rfl⟩
  have HBa : Hid (Below w.heap.size w wa) := by rw [← hwa]; exact HB0.out
  have hca : wa.cell? ⟨w.heap.size, 0, none⟩ = some (.pointer (some ⟨T.t, 0, none⟩)) := by rw [← hwa]; simp
  have hcb : wa.cell? ⟨w.heap.size + 1, 0, none⟩ = some (.int .i64 (i : Int)) := by rw [← hwa]; simp
  have hc1 : wa.cell? ⟨T.t, 1, none⟩ = some (.map (some T.mb)) := (HT.out.on HBa.out).cell 1
  have HSa : Hid (wa.heap.size = w.heap.size + 2) := by rw [← hwa]; simp [Hid]
  have HTa : Hid (TxAt wa T) := HT.out.on HBa.out
  rw [hwa]
  clear hwa HB0 HMT
  obtain ⟨va, vn, vc, hvo⟩ : ∃ va vn vc, optV (T.c i) = .slice va vn vc := by
    cases T.c i with
    | none => exact ⟨_, _, _, rfl⟩
    | some q => exact ⟨_, _, _, rfl⟩
  obtain ⟨bo, hbo⟩ : ∃ bo, (T.c i).isSome = bo := ⟨_, rfl⟩
  have hlk0 : ∀ wx, Below wa.heap.size wa wx → (Instr.lookup 113 (.map (some T.mb)) (.int .i64 (i : Int)) true).run Tryz.prog wx = .ok (.tuple #[.slice va vn vc, .bool bo]) wx := fun wx hb => by
    rw [← hvo, ← hbo]
    exact (HTa.out.map.on hb).look HTa.out.ok i HI.out.2.2.1
  have hlk := hlk0 wa.drew (Below.refl _ wa).drew
  have hlkA := hlk0 (wa.alloc (.cells #[.slice none 0 0] 22)).drew ((Below.refl _ wa).alloc (Nat.le_refl _) _).drew
  have hlkB := hlk0 (wa.alloc (.cells #[.bool false] 4)).drew ((Below.refl _ wa).alloc (Nat.le_refl _) _).drew
  have hlkAB := hlk0 ((wa.alloc (.cells #[.slice none 0 0] 22)).alloc (.cells #[.bool false] 4)).drew (((Below.refl _ wa).alloc (Nat.le_refl _) _).alloc (by simp) _).drew
  have hlkBA := hlk0 ((wa.alloc (.cells #[.bool false] 4)).alloc (.cells #[.slice none 0 0] 22)).drew (((Below.refl _ wa).alloc (Nat.le_refl _) _).alloc (by simp) _).drew
  have hl1 : w.heap.size < wa.heap.size := by have := HSa.out; omega
  have hl2 : w.heap.size + 1 < wa.heap.size := by have := HSa.out; omega
  have hl3 : T.t < wa.heap.size := HTa.out.lt (.inl (.inl rfl))
  clear hlk0
  have HVO : Hid (optV (T.c i) = .slice va vn vc) := hvo
  have HBO : Hid ((T.c i).isSome = bo) := hbo
  clear hvo hbo
  go_cut [8, 9] (fun s8 s9 wx => ∃ bb bw : Nat, s8 = .pointer (some ⟨bb, 0, none⟩) ∧ s9 = .pointer (some ⟨bw, 0, none⟩) ∧ Bx wa wx bb bw (.slice va vn vc) bo)
  case first =>
    go_region
    all_goals
      go_wp2
      go_meet
      case rel => exact ⟨_, _, rfl, rfl, by first | exact bx_ab _ _ _ | exact bx_ba _ _ _⟩
  case rest =>
  obtain ⟨bb, bw, rfl, rfl, hbx⟩ := hcut
  have HX2 : Hid (Bx wa wc bb bw (.slice va vn vc) bo) := hbx
  have HTc : Hid (TxAt wc T) := HTa.out.on hbx.bel
  have cb : wc.cell? ⟨bb, 0, none⟩ = some (.slice va vn vc) := by rw [cell_of_row _ _ _ _ _ _ hbx.b]; rfl
  have cw : wc.cell? ⟨bw, 0, none⟩ = some (.bool bo) := by rw [cell_of_row _ _ _ _ _ _ hbx.w]; rfl
  have ca2 : wc.cell? ⟨w.heap.size, 0, none⟩ = some (.pointer (some ⟨T.t, 0, none⟩)) := (hbx.bel.cell hl1).trans hca
  have cb2 : wc.cell? ⟨w.heap.size + 1, 0, none⟩ = some (.int .i64 (i : Int)) := (hbx.bel.cell hl2).trans hcb
  have c12 : wc.cell? ⟨T.t, 1, none⟩ = some (.map (some T.mb)) := HTc.out.cell 1
  clear hlk hlkA hlkB hlkAB hlkBA hca hcb hc1 hbx
  have hlen := fun ty => HTc.out.map.len ty
  obtain ⟨n, hn⟩ : ∃ n, (lst T.c T.nb).length = n := ⟨_, rfl⟩
  rw [hn] at hlen
  have HNn : Hid ((lst T.c T.nb).length = n) := hn
  clear hn
  go_upto_region 7 with (fail)
  go_cut [37] (fun s wx => s = .bool false ∧ wc = wx)
  case first =>
    by_cases hbo : bo = true
    · subst hbo
      go_wp2
      go_meet
      case rel => exact ⟨rfl, rfl⟩
    · have hbo : bo = false := by simpa using hbo
      subst hbo
      have hn96 : n < 96 := by
        have := HR.out
        rw [HBO.out, HNn.out] at this
        simpa using this
      have hne : ((n : Int) == 96) = false := by simp; omega
      go_wp2
      go_meet
      case rel => exact ⟨by simp, rfl⟩
  case rest =>
  obtain ⟨rfl, rfl⟩ := hcut
  have HU : Hid (UnAt wc T.t ⟨bw, bb, w.heap.size, w.heap.size + 1, i, T.c i⟩) := ⟨by rw [cw]; exact congrArg (fun b => some (Value.bool b)) HBO.out.symm, by rw [cb]; exact congrArg some HVO.out.symm, ca2, cb2, fun q hq => HTc.out.blk i q hq⟩
  have HUA : Hid (∀ k, Un.all ⟨bw, bb, w.heap.size, w.heap.size + 1, i, T.c i⟩ k → T.held k ∨ w.heap.size ≤ k) := fun k hk => by
    have e1 := HX2.out.fb
    have e2 := HX2.out.fw
    have e3 := HSa.out
    rcases hk with rfl | rfl | rfl | rfl | ⟨q, hq, rfl⟩
    · exact .inr (by omega)
    · exact .inr (by omega)
    · exact .inr (Nat.le_refl _)
    · exact .inr (by show w.heap.size ≤ w.heap.size + 1; omega)
    · exact .inl (.inl ⟨i, q, hq, rfl⟩)
  have HBc : Hid (Below w.heap.size w wc) := HBa.out.trans (HX2.out.bel.mono HBa.out.size)
  have HCl : Hid (∀ wx, Below wc.heap.size wc wx → Calls Tryz.prog 19 #[.slice (some p) 512 c] wx fun e w' => ∃ g cap, e = .returned (.slice (some ⟨g, 0, none⟩) 512 cap) ∧ wx.heap.size ≤ g ∧ OwnB w' g cap x ∧ Below wc.heap.size wc w') := fun wx hbx => by
    refine (bclone_any wx p 512 c x ((HX.out.on HBc.out).on hbx) HXL.out (by omega)).mono ?_
    rintro e w' ⟨g, cap, rfl, h1, h2, h3⟩
    exact ⟨g, cap, rfl, h1, h2, hbx.trans (h3.mono hbx.size)⟩
  go_upto_region 9 with (fail)
  go_cut [44] (fun s wx => ∃ g cap : Nat, s = .slice (some ⟨g, 0, none⟩) 512 cap ∧ Md w wx T i ⟨i, g, cap, x⟩ ⟨bw, bb, w.heap.size, w.heap.size + 1, i, T.c i⟩)
  case first =>
    go_region_law (go_simp; go_at_call 19; refine (HCl.out _ (Below.refl _ wc).drew).mono ?_; rintro e w5 ⟨g5, cap5, rfl, hg5, ho5, hb5⟩; have H5l : Hid ((lst (ups T.c i (some ⟨i, g5, cap5, x⟩)) T.nb).length ≤ 96) := cnt_put HTc.out.cnt HI.out.2.1 HR.out; obtain ⟨w6, hr6, hm6, hf6⟩ := (HTc.out.on hb5).map.store (i := i) HTc.out.ok HI.out.2.1 HTc.out.n16 ⟨i, g5, cap5, x⟩ rfl (Nat.le_trans H5l.out (by omega)); have H6 : Hid (Md w w6 T i ⟨i, g5, cap5, x⟩ ⟨bw, bb, w.heap.size, w.heap.size + 1, i, T.c i⟩) := md_of HT.out (HBc.out.trans (hb5.mono HBc.out.size)) hm6 hf6 (BlkAt.of ho5 HXL.out) (Nat.le_trans HBc.out.size hg5) rfl HI.out.1 HI.out.2.1 H5l.out (HU.out.on hb5) HUA.out; have hr7 : (Instr.mapUpdate 113 (.map (some T.mb)) (.int .i64 (i : Int)) (.slice (some ⟨g5, 0, none⟩) 512 cap5)).run Tryz.prog w5 = .ok () w6 := hr6; have d1 : w5.cell? ⟨w.heap.size, 0, none⟩ = some (.pointer (some ⟨T.t, 0, none⟩)) := (hb5.cell (block_lt_of_cell ca2)).trans ca2; have d2 : w5.cell? ⟨w.heap.size + 1, 0, none⟩ = some (.int .i64 (i : Int)) := (hb5.cell (block_lt_of_cell cb2)).trans cb2; have d3 : w5.cell? ⟨T.t, 1, none⟩ = some (.map (some T.mb)) := (hb5.cell (block_lt_of_cell c12)).trans c12; clear hg5 ho5 hb5 hr6 hm6 hf6)
    all_goals
      go_wp2
      go_meet
      case rel => exact ⟨g5, cap5, rfl, H6.out⟩
  case rest =>
  obtain ⟨g5, cap5, rfl, hmd⟩ := hcut
  obtain ⟨u, hue⟩ : ∃ u : Un, (⟨bw, bb, w.heap.size, w.heap.size + 1, i, T.c i⟩ : Un) = u := ⟨_, rfl⟩
  have HUV : Hid (u.v = .func (.func 78) #[] #[.pointer (some ⟨bw, 0, none⟩), .pointer (some ⟨bb, 0, none⟩), .pointer (some ⟨w.heap.size, 0, none⟩), .pointer (some ⟨w.heap.size + 1, 0, none⟩)]) := by rw [← hue]; rfl
  have HUi : Hid (u.i = i ∧ u.old = T.c i ∧ u.bt = w.heap.size) := by rw [← hue]; exact ⟨rfl, rfl, rfl⟩
  have HUB : Hid (98 ≤ u.i ∧ u.i < T.nb ∧ ∀ q, u.old = some q → q.n = (u.i : Int)) := by rw [HUi.out.1, HUi.out.2.1]; exact ⟨HI.out.1, HI.out.2.1, fun q hq => HT.out.ok.num i q hq⟩
  rw [hue] at hmd
  have HMd : Hid (Md w wc T i ⟨i, g5, cap5, x⟩ u) := hmd
  clear hue hmd HU HUA HCl HX2 HTc HBc hlen HNn
  have f0 : wc.cell? ⟨w.heap.size, 0, none⟩ = some (.pointer (some ⟨T.t, 0, none⟩)) := by rw [← HUi.out.2.2]; exact HMd.out.un.ct
  have hmf : ∀ (fn : Fn) (first cap : Array Value) (w : World), (Instr.makeFunc fn first cap).run Tryz.prog w = .ok (.func fn first cap) w := fun _ _ _ _ => rfl
  obtain ⟨ua, uc, huv, _⟩ := owns_slice HMd.out.tx.und
  have f2 : wc.cell? ⟨T.t, 2, none⟩ = some (.slice ua T.us.length uc) := (HMd.out.tx.cell 2).trans (congrArg some huv)
  have hl5 : w.heap.size < wc.heap.size := block_lt_of_cell f0
  have hl6 : T.t < wc.heap.size := block_lt_of_cell f2
  have HW : Hid ((wc.alloc (.cells #[u.v] 1)).drew.ownsRow 0 1 1 (.slice ua T.us.length uc) T.us.length (T.us.map Un.v)) := by
    have := owns_on HMd.out.tx.und (((Below.refl _ wc).alloc (Nat.le_refl _) (.cells #[u.v] 1)).drew)
    rw [show (T.setC (ups T.c i (some ⟨i, g5, cap5, x⟩))).uv = .slice ua T.us.length uc from huv] at this
    exact this
  obtain ⟨i1, j1, j2, j3, j4⟩ := info_parts infoF0
  have HWb : Hid (Below wc.heap.size wc (wc.alloc (.cells #[u.v] 1)).drew) := ((Below.refl _ wc).alloc (Nat.le_refl _) _).drew
  have HUVo : Hid (T.uv = .slice ua T.us.length uc) := huv
  have HNf : Hid (∀ (j : Nat) (y : Value), [u.v][j]? = some y → (wc.alloc (.cells #[u.v] 1)).drew.cell? ((⟨wc.heap.size, 0, none⟩ : Addr).add j) = some y) := news_f wc u.v _
  have HOc : Hid (∀ y ∈ [u.v], y.oneCell' = true) := by intro y hy; simp at hy; subst hy; rw [HUV.out]; rfl
  clear huv
  rw [HUV.out] at HW HWb HNf HOc
  go_upto_region 10 with (fail)
  have hne : w.heap.size ≠ T.t := fun e => by have := HT.out.lt (k := T.t) (.inl (.inl rfl)); omega
  have hne2 : T.t ≠ w.heap.size := fun e => hne e.symm
  refine wp_region_held_drew (S := fun wx => wx.cell? ⟨w.heap.size, 0, none⟩ = some (.pointer (some ⟨T.t, 0, none⟩))) (by kernel_rfl) ?_ (fun hHeld => ?_)
  · (try dsimp only); first | assumption | go_keep
  refine wpAnyH_take (i := 0) (v := ?_) rfl (by kernel_rfl) (by kernel_rfl) (by kernel_rfl) (fun _ _ _ h => h) (Or.inl ⟨by rfl, ?_⟩) (by assumption) ?_
  rotate_left
  focus (intro w hSw; (try dsimp only at hSw); go_simp; (try (with_reducible rfl)); done)
  try go_simp
  refine wpAnyH_take (i := 1) (v := ?_) rfl (by kernel_rfl) (by kernel_rfl) (by kernel_rfl) (fun _ _ _ h => h) (Or.inl ⟨by rfl, ?_⟩) (by assumption) ?_
  rotate_left
  focus (intro w hSw; (try dsimp only at hSw); go_simp; (try (with_reducible rfl)); done)
  try go_simp
  refine wpAnyH_take (i := 2) (v := ?_) rfl (by kernel_rfl) (by kernel_rfl) (by kernel_rfl) (fun _ _ _ h => h) (Or.inl ⟨by rfl, ?_⟩) (by assumption) ?_
  rotate_left
  focus (intro w hSw; (try dsimp only at hSw); go_simp; (try (with_reducible rfl)); done)
  try go_simp
  refine wpAnyH_take (i := 3) (v := ?_) rfl (by kernel_rfl) (by kernel_rfl) (by kernel_rfl) (fun _ _ _ h => h) (Or.inl ⟨by rfl, ?_⟩) (by assumption) ?_
  rotate_left
  focus (intro w hSw; (try dsimp only at hSw); go_simp; (try (with_reducible rfl)); done)
  try go_simp
  refine wpAnyH_take (i := 5) (v := ?_) rfl (by kernel_rfl) (by kernel_rfl) (by kernel_rfl) (fun _ _ _ h => h) (Or.inl ⟨by rfl, ?_⟩) (by assumption) ?_
  rotate_left
  focus (intro w hSw; (try dsimp only at hSw); go_simp; (try (with_reducible rfl)); done)
  try go_simp
  refine wpAnyH_ready (rs := [4, 6]) (by kernel_rfl) (by simp) ?_
  refine AllReadyH.cons rfl (fun K hK => ?_) ?_
  · go_simp
    refine hK.out _ _ ?_ (fun hHeld => ?_)
    · (try dsimp only); first | assumption | go_keep
    clear hK K
    refine wpAnyH_ready (rs := [6]) (by kernel_rfl) (by simp) ?_
    refine AllReadyH.cons rfl (fun K hK => ?_) ?_
    · go_simp
      refine hK.out _ _ ?_ (fun hHeld => ?_)
      · (try dsimp only); first | assumption | go_keep
      clear hK K
      refine wpAnyH_ready (rs := [7]) (by kernel_rfl) (by simp) ?_
      refine AllReadyH.cons rfl (fun K hK => ?_) ?_
      · (refine step_own rfl (.tmp 49) (.tmp 51) 114 rfl 1 i1 _ 1 8 Tryz.underlying114 j1 j2 j3 j4 rfl (by decide) (.slice ua T.us.length uc) T.us.length (T.us.map Un.v) (by simp [Act.eval]) HW.out ⟨wc.heap.size, 0, none⟩ 1 1 _ (by simp [Act.eval]) (by decide) rfl HNf.out HOc.out (by unfold maxLen; have := HI.out.2.2.2; omega) (by have := HI.out.2.2.2; omega) ?_; intro g7 c7 w7 ho hf hg; rw [← HUV.out] at ho; obtain ⟨h7, e7, f7, b7⟩ := md_push HMd.out HWb.out HUVo.out HUB.out HI.out.2.2.2 ho hf hg; rw [HUi.out.2.2] at b7; have H7 : Hid (∃ T', TxAt (w7.setCell ⟨T.t, 2, none⟩ (.slice (some ⟨g7, 0, none⟩) (T.us.length + 1) c7)) T' ∧ TMv w T (w7.setCell ⟨T.t, 2, none⟩ (.slice (some ⟨g7, 0, none⟩) (T.us.length + 1) c7)) T' ∧ T'.c = ups T.c i (some ⟨i, g5, cap5, x⟩) ∧ T'.us = T.us ++ [u]) := h7; clear h7 ho hf hg)
        refine hK.out _ _ ?_ (fun hHeld => ?_)
        · (try dsimp only); first | assumption | go_keep
        clear hK K
        refine wpAnyH_take (i := 8) (v := ?_) rfl (by kernel_rfl) (by kernel_rfl) (by kernel_rfl) (fun _ _ _ h => h) (Or.inl ⟨by rfl, ?_⟩) (by assumption) ?_
        rotate_left
        focus (intro w hSw; (try dsimp only at hSw); go_simp; (try (with_reducible rfl)); done)
        try go_simp
        refine wpAnyH_take (i := 9) (v := ?_) rfl (by kernel_rfl) (by kernel_rfl) (by kernel_rfl) (fun _ _ _ h => h) (Or.inl ⟨by rfl, ?_⟩) (by assumption) ?_
        rotate_left
        focus (intro w hSw; (try dsimp only at hSw); go_simp; (try (with_reducible rfl)); done)
        try go_simp
        refine wpAnyH_ready (rs := [10]) (by kernel_rfl) (by simp) ?_
        refine AllReadyH.cons rfl (fun K hK => ?_) ?_
        · go_simp
          refine hK.out _ _ ?_ (fun hHeld => ?_)
          · (try dsimp only); first | assumption | go_keep
          clear hK K
          refine wpAnyH_done (by kernel_rfl) ?_ _
          go_wp2
          go_ret
          obtain ⟨T', q1, q2, q3, q4⟩ := H7.out
          exact ⟨rfl, T', _, u, q1, q2, rfl, rfl, q3, q4, HUi.out.1, HUi.out.2.1⟩
        exact AllReadyH.nil
      exact AllReadyH.nil
    exact AllReadyH.nil
  refine AllReadyH.cons rfl (fun K hK => ?_) ?_
  · go_simp
    refine hK.out _ _ ?_ (fun hHeld => ?_)
    · (try dsimp only); first | assumption | go_keep
    clear hK K
    refine wpAnyH_ready (rs := [4]) (by kernel_rfl) (by simp) ?_
    refine AllReadyH.cons rfl (fun K hK => ?_) ?_
    · go_simp
      refine hK.out _ _ ?_ (fun hHeld => ?_)
      · (try dsimp only); first | assumption | go_keep
      clear hK K
      refine wpAnyH_ready (rs := [7]) (by kernel_rfl) (by simp) ?_
      refine AllReadyH.cons rfl (fun K hK => ?_) ?_
      · (refine step_own rfl (.tmp 49) (.tmp 51) 114 rfl 1 i1 _ 1 8 Tryz.underlying114 j1 j2 j3 j4 rfl (by decide) (.slice ua T.us.length uc) T.us.length (T.us.map Un.v) (by simp [Act.eval]) HW.out ⟨wc.heap.size, 0, none⟩ 1 1 _ (by simp [Act.eval]) (by decide) rfl HNf.out HOc.out (by unfold maxLen; have := HI.out.2.2.2; omega) (by have := HI.out.2.2.2; omega) ?_; intro g7 c7 w7 ho hf hg; rw [← HUV.out] at ho; obtain ⟨h7, e7, f7, b7⟩ := md_push HMd.out HWb.out HUVo.out HUB.out HI.out.2.2.2 ho hf hg; rw [HUi.out.2.2] at b7; have H7 : Hid (∃ T', TxAt (w7.setCell ⟨T.t, 2, none⟩ (.slice (some ⟨g7, 0, none⟩) (T.us.length + 1) c7)) T' ∧ TMv w T (w7.setCell ⟨T.t, 2, none⟩ (.slice (some ⟨g7, 0, none⟩) (T.us.length + 1) c7)) T' ∧ T'.c = ups T.c i (some ⟨i, g5, cap5, x⟩) ∧ T'.us = T.us ++ [u]) := h7; clear h7 ho hf hg)
        refine hK.out _ _ ?_ (fun hHeld => ?_)
        · (try dsimp only); first | assumption | go_keep
        clear hK K
        refine wpAnyH_take (i := 8) (v := ?_) rfl (by kernel_rfl) (by kernel_rfl) (by kernel_rfl) (fun _ _ _ h => h) (Or.inl ⟨by rfl, ?_⟩) (by assumption) ?_
        rotate_left
        focus (intro w hSw; (try dsimp only at hSw); go_simp; (try (with_reducible rfl)); done)
        try go_simp
        refine wpAnyH_take (i := 9) (v := ?_) rfl (by kernel_rfl) (by kernel_rfl) (by kernel_rfl) (fun _ _ _ h => h) (Or.inl ⟨by rfl, ?_⟩) (by assumption) ?_
        rotate_left
        focus (intro w hSw; (try dsimp only at hSw); go_simp; (try (with_reducible rfl)); done)
        try go_simp
        refine wpAnyH_ready (rs := [10]) (by kernel_rfl) (by simp) ?_
        refine AllReadyH.cons rfl (fun K hK => ?_) ?_
        · go_simp
          refine hK.out _ _ ?_ (fun hHeld => ?_)
          · (try dsimp only); first | assumption | go_keep
          clear hK K
          refine wpAnyH_done (by kernel_rfl) ?_ _
          go_wp2
          go_ret
          obtain ⟨T', q1, q2, q3, q4⟩ := H7.out
          exact ⟨rfl, T', _, u, q1, q2, rfl, rfl, q3, q4, HUi.out.1, HUi.out.2.1⟩
        exact AllReadyH.nil
      exact AllReadyH.nil
    exact AllReadyH.nil
  exact AllReadyH.nil
end Go.Proofs.YtflienghgobmoaaGreatDoor

namespace Go.Proofs.YtflienghgobmoaaGreatDoor
open Go.RowKit Rec

/-- what a put does -/
def AD.do (a : AD) (b x : Int) (fl : Bool) : AD := if fl then a.flush else a.write (b % a.nb).toNat (one x)
end Go.Proofs.YtflienghgobmoaaGreatDoor

namespace Go.Proofs.YtflienghgobmoaaGreatDoor
open Go.RowKit Rec

/-- block i full of i -/
def frs (m : Nat) : List Int := (List.range m).flatMap (fun i : Nat => one (i : Int))
end Go.Proofs.YtflienghgobmoaaGreatDoor

namespace Go.Proofs.YtflienghgobmoaaGreatDoor
open Go.RowKit Rec

/-- an act among the arguments -/
structure ActW where
  kind : Int
  b : Int
  a : Option Addr
  c : Nat
  x : List Int
def ActW.cells (q : ActW) : List Value := [.int .i64 q.kind, .int .i64 q.b, .slice q.a q.x.length q.c]
/-- what of an act counts -/
def ActW.abs (q : ActW) : Int × Int × List Int := (q.kind, q.b, q.x)
/-- acts in a row of one's own -/
def OkActW (w : World) (m : Nat) (q : ActW) : Prop := (q.kind = 2 ∧ q.a = none ∧ q.c = 0 ∧ q.x = []) ∨ (q.kind = 1 ∧ 0 ≤ q.b ∧ q.b < m ∧ q.x.length = 512 ∧ ∃ g cap, q.a = some ⟨g, 0, none⟩ ∧ OwnB w g cap q.x)
structure AcW (w : World) (m : Nat) (v : Value) (L : List ActW) : Prop where
  row : w.ownsRow 0 177 3 v L.length (L.flatMap ActW.cells)
  each : ∀ q ∈ L, OkActW w m q
theorem OkActW.on {w w' : World} {m : Nat} {q : ActW} (h : OkActW w m q) (x : Below w.heap.size w w') : OkActW w' m q := by
  rcases h with h | ⟨h1, h2, h3, h4, g, cap, h5, h6⟩
  · exact .inl h
  · exact .inr ⟨h1, h2, h3, h4, g, cap, h5, h6.on x⟩
theorem OkActW.fr {S : Nat → Prop} {w w' : World} {m : Nat} {q : ActW} (h : OkActW w m q) (x : Fr S w w') (hS : ∀ g cap, OwnB w g cap q.x → ¬ S g) : OkActW w' m q := by
  rcases h with h | ⟨h1, h2, h3, h4, g, cap, h5, h6⟩
  · exact .inl h
  · exact .inr ⟨h1, h2, h3, h4, g, cap, h5, h6.fr x (hS g cap h6)⟩
theorem AcW.on {w w' : World} {m : Nat} {v : Value} {L : List ActW} (h : AcW w m v L) (x : Below w.heap.size w w') : AcW w' m v L :=
  ⟨owns_fr h.row (below_fr x (fun k => w.heap.size ≤ k)) (fun _ hk => Nat.not_le.2 (owns_block h.row hk)), fun q hq => (h.each q hq).on x⟩
theorem ownA_new {w : World} {g cap : Nat} {x : List Int} {v : Value} {n : Nat} {xs : List Value} (hO : OwnB w g cap x) (h : w.ownsRow 0 177 3 v n xs) : ¬ v.ownBlock = some g := fun e => by
  obtain ⟨cur, hg, _⟩ := hO.row
  rcases h.2 with ⟨rfl, _⟩ | ⟨g', cap', cur', rfl, _, hg', _⟩
  · cases e
  · cases e
    rw [hg] at hg'
    cases hg'
theorem AcW.frs {S : Nat → Prop} {w w' : World} {m : Nat} {v : Value} {L : List ActW} (h : AcW w m v L) (x : Fr S w w') (h1 : ∀ k, v.ownBlock = some k → ¬ S k) (h2 : ∀ q ∈ L, ∀ p, q.a = some p → ¬ S p.block) : AcW w' m v L :=
  ⟨owns_fr h.row x h1, fun q hq => by
    rcases h.each q hq with z | ⟨z1, z2, z3, z4, g, cap, z5, z6⟩
    · exact .inl z
    · exact .inr ⟨z1, z2, z3, z4, g, cap, z5, z6.fr x (h2 q hq _ z5)⟩⟩
/-- within the tape's copying -/
structure TpV (w wr : World) (m : Nat) (v : Value) (T : List (Int × Int × List Int)) (k : Nat) (L : List ActW) : Prop where
  row : AcW wr m v L
  len : L.length = k
  ab : L.map ActW.abs = T.take k
  own : ∀ j, v.ownBlock = some j → w.heap.size ≤ j
  adr : ∀ q ∈ L, ∀ p, q.a = some p → w.heap.size ≤ p.block
  bel : Below w.heap.size w wr
theorem TpV.next {w wr wa wb : World} {m g cap k : Nat} {v : Value} {T : List (Int × Int × List Int)} {L : List ActW} {q : Int × Int × List Int} {r : ActW} (h : TpV w wr m v T k L) (hq : T[k]? = some q) (ha : Below wr.heap.size wr wa) (hr : OkActW wa m r) (hab : r.abs = q) (hra : ∀ p, r.a = some p → w.heap.size ≤ p.block)
    (ho : wb.ownsRow 0 177 3 (.slice (some ⟨g, 0, none⟩) (k + 1) cap) (k + 1) (L.flatMap ActW.cells ++ r.cells)) (hf : Fr (fun j => v.ownBlock = some j) wa wb) (hg : v.ownBlock = some g ∨ wa.heap.size ≤ g) : TpV w wb m (.slice (some ⟨g, 0, none⟩) (k + 1) cap) T (k + 1) (L ++ [r]) := by
  refine ⟨⟨by rw [List.length_append, List.flatMap_append, h.len]; simpa using ho, fun x hx => ?_⟩, by rw [List.length_append, h.len]; rfl, ?_, fun j hj => ?_, fun x hx => ?_, ?_⟩
  · rcases List.mem_append.1 hx with hx | hx
    · exact ((h.row.each x hx).on ha).fr hf (fun g cap hO => ownA_new hO (h.row.on ha).row)
    · rw [List.mem_singleton] at hx; subst hx
      exact hr.fr hf (fun g cap hO => ownA_new hO (h.row.on ha).row)
  · rw [List.map_append, h.ab, List.take_add_one, hq]
    show _ ++ [r.abs] = _ ++ [q]
    rw [hab]
  · cases hj
    exact hg.elim (h.own g) (fun e => Nat.le_trans h.bel.size (Nat.le_trans ha.size e))
  · rcases List.mem_append.1 hx with hx | hx
    · exact h.adr x hx
    · rw [List.mem_singleton] at hx; subst hx; exact hra
  · exact (h.bel.trans (ha.mono h.bel.size)).trans (hf.below _ h.own (Nat.le_trans h.bel.size ha.size))
end Go.Proofs.YtflienghgobmoaaGreatDoor

namespace Go.Proofs.YtflienghgobmoaaGreatDoor
open Go.RowKit Rec

/-- a disk that was opened over bytes -/
structure Fresh (a : AD) (nb : Nat) (l : List Int) : Prop where
  size : a.nb = nb
  las : a.las = l
  pen : a.P = []
  down : a.down = false
  at_ : a.at_ = 0
  len : l.length = 512 * nb
  wr : a.wr = 0
  fl : a.fl = 0
  tape : a.T = []
  keep : a.keep = []
theorem Fresh.full {D : Dk} {nb : Nat} {l : List Int} (h : Fresh D.abs nb l) : D.full = l := by rw [abs_full, AD.full_fw, h.pen, h.las]; rfl
theorem Fresh.room {a : AD} {nb : Nat} {l : List Int} (h : Fresh a nb l) (n : Nat) (hn : n ≤ 1000000) : RoomN a n := ⟨by rw [h.pen]; simp; omega, by rw [h.tape]; simp; omega, by rw [h.wr]; omega, by rw [h.fl]; omega, by rw [h.keep]; simp⟩
theorem Fresh.home {a : AD} {nb : Nat} {l : List Int} (h : Fresh a nb l) :
    a.takeE (homeA (logH l nb)) = 0 ∧ (a.take (homeA (logH l nb))).las = behind l nb ∧ (a.take (homeA (logH l nb))).wr = (logN l nb).length + 1 ∧ (a.take (homeA (logH l nb))).fl = 2 ∧ (a.take (homeA (logH l nb))).T = (grp [logH l nb, [(1, zs)]]).map actT := by
  rw [homeA_grp]
  obtain ⟨e1, e2⟩ := take_grp [logH l nb, [(1, zs)]] a h.pen h.down (by rw [h.at_]; exact .inl (Int.le_refl _))
  rw [e1, e2]
  refine ⟨rfl, ?_, ?_, ?_, ?_⟩
  · show fw a.las ([logH l nb, [(1, zs)]].flatten) = _
    rw [flt2, fw_append, h.las]; rfl
  · show a.wr + ([logH l nb, [(1, zs)]].flatten).length = _
    rw [flt2, List.length_append, logH_length, h.wr, Nat.zero_add]; rfl
  · show a.fl + 2 = 2
    rw [h.fl]
  · show a.T ++ _ = _
    rw [h.tape]; rfl
end Go.Proofs.YtflienghgobmoaaGreatDoor

namespace Go.Proofs.YtflienghgobmoaaGreatDoor
open Go.RowKit Rec

structure PutR where
  b : Int
  x : Int
  fl : Bool
structure PutAt (w : World) (b off : Nat) (q : PutR) : Prop where
  f0 : w.cell? ⟨b, off, none⟩ = some (.int .i64 q.b)
  f1 : w.cell? ⟨b, off + 1, none⟩ = some (.int .u8 q.x)
  f2 : w.cell? ⟨b, off + 2, none⟩ = some (.bool q.fl)
structure Puts (w : World) (a0 : Option Addr) (L : List PutR) : Prop where
  at_ : L = [] ∨ ∃ b off, a0 = some ⟨b, off, none⟩ ∧ ∀ i q, L[i]? = some q → PutAt w b (off + i * 3) q
  each : ∀ q ∈ L, 0 ≤ q.x ∧ q.x < 256
  len : L.length ≤ 9223372036854775807
theorem Puts.on {w w' : World} {a0 : Option Addr} {L : List PutR} (h : Puts w a0 L) (x : Below w.heap.size w w') : Puts w' a0 L := by
  refine ⟨?_, h.each, h.len⟩
  rcases h.at_ with e | ⟨b, off, e, hc⟩
  · exact .inl e
  · have f := below_fr x (fun _ => False)
    exact .inr ⟨b, off, e, fun i q hq => ⟨f.cell (hc i q hq).f0 (fun e => e), f.cell (hc i q hq).f1 (fun e => e), f.cell (hc i q hq).f2 (fun e => e)⟩⟩
theorem Bools.on {w w' : World} {v : Value} {l : List Bool} (h : Bools w v l) (x : Below w.heap.size w w') : Bools w' v l := by
  obtain ⟨a, c, rfl, hl⟩ := h
  refine ⟨a, c, rfl, ?_⟩
  rcases hl with rfl | ⟨b, off, rfl, hc⟩
  · exact .inl rfl
  · exact .inr ⟨b, off, rfl, fun i y hy => (below_fr x (fun _ => False)).cell (hc i y hy) (fun e => e)⟩
/-- behind k writes, nothing armed -/
structure ChI (a : AD) (m : Nat) (L : List PutR) (k : Nat) : Prop where
  nb : a.nb = m
  las : a.las = frs m
  P : a.P = (L.take k).map (fun q => ((q.b % (m : Int)).toNat, one q.x))
  T : a.T.length = k
  wr : a.wr = k
  fl : a.fl = 0
  at_ : a.at_ = 0
  keep : a.keep = []
  down : a.down = false
theorem ChI.next {a : AD} {m k : Nat} {L : List PutR} {q : PutR} (h : ChI a m L k) (hq : L[k]? = some q) : ChI (a.do q.b q.x false) m L (k + 1) ∧ a.stepE = 0 := by
  have h1 : ¬ a.at_ = 1 := by rw [h.at_]; decide
  have h0 : ¬ (0 : Int) < a.at_ := by rw [h.at_]; decide
  have e : a.do q.b q.x false = { a with P := a.P ++ [((q.b % (m : Int)).toNat, one q.x)], T := a.T ++ [(1, (((q.b % (m : Int)).toNat : Nat) : Int), one q.x)], wr := a.wr + 1 } := by
    show AD.write _ _ _ = _
    unfold AD.write
    rw [if_neg h1, h.nb]
    show AD.tick _ = _
    unfold AD.tick
    exact if_neg h0
  refine ⟨?_, by unfold AD.stepE; rw [if_neg h1]⟩
  rw [e]
  refine ⟨h.nb, h.las, ?_, ?_, ?_, h.fl, h.at_, h.keep, h.down⟩
  · show a.P ++ _ = _
    rw [h.P, List.take_add_one, hq, List.map_append]; rfl
  · show (a.T ++ _).length = _
    rw [List.length_append, h.T]; rfl
  · show a.wr + 1 = _
    rw [h.wr]
theorem ChI.room {a : AD} {m k : Nat} {L : List PutR} (h : ChI a m L k) (hk : k ≤ 200) : RoomD a := by
  refine ⟨?_, by rw [h.T]; omega, by rw [h.wr]; omega, by rw [h.fl]; omega, by rw [h.keep]; simp⟩
  rw [h.P, List.length_map, List.length_take]; omega
theorem blk_wr (l : List Int) (n b j : Nat) (x : List Int) (hl : l.length = 512 * n) (hj : j < n) (hx : x.length = 512) : bck (wr l b x) j = if j = b then x else bck l j := by
  have e1 : (wr l b x).length = 512 * n := by rw [wr_length, hl]
  have e2 := blk_length e1 hj
  by_cases h : j = b
  · rw [if_pos h]
    refine ext_nth (by rw [e2, hx]) fun i hi => ?_
    rw [e2] at hi
    rw [nth_blk e1 hj i hi, nth_wr _ _ _ _ (by rw [hl]; omega), if_pos (by omega), show (512 * j + i) % 512 = i by omega]
  · rw [if_neg h]
    refine ext_nth (by rw [e2, blk_length hl hj]) fun i hi => ?_
    rw [e2] at hi
    rw [nth_blk e1 hj i hi, nth_blk hl hj i hi, nth_wr _ _ _ _ (by rw [hl]; omega), if_neg (by omega)]
end Go.Proofs.YtflienghgobmoaaGreatDoor
