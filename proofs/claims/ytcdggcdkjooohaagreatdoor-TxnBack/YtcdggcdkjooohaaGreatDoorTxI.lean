import Derived.Test.YtcdggcdkjooohaaGreatDoorKTxG
namespace Go.Proofs.YtcdggcdkjooohaaGreatDoor
open Go.RowKit Go.Maps Rec

def now0 (k : Nat) : Nat → Int := fun j => if 98 ≤ j ∧ j < k then (j : Int) else 0
theorem now0_succ (k : Nat) (h : 98 ≤ k) : updF (now0 k) k (k : Int) = now0 (k + 1) := by
  funext j
  unfold updF now0
  by_cases e : j = k
  · subst e; rw [if_pos rfl, if_pos (by omega)]
  · rw [if_neg e]
    by_cases e2 : 98 ≤ j ∧ j < k
    · rw [if_pos e2, if_pos (by omega)]
    · rw [if_neg e2, if_neg (by omega)]
theorem cnt0 (c0 : Cm) : Cnt c0 c0 (now0 118) (fun _ => false) := fun i h0 h1 => by
  have e : now0 118 i = (i : Int) := by unfold now0; rw [if_pos ⟨h0, h1⟩]
  rw [e]
  exact ⟨by omega, (fun h => by cases h), fun _ => ⟨rfl, rfl⟩⟩
theorem range_row {w : World} {b : Nat} {cs : Array Value} {t : TypeId} (h : w.heap[b]? = some (.cells cs t (0, 0))) : w.rangeAt b 0 cs.toList := fun j v hv => by
  rw [cell_of_row _ _ _ _ _ _ h, Nat.zero_add]
  simpa using hv
theorem there_row {w : World} {b n : Nat} {cs : Array Value} {t : TypeId} (h : w.heap[b]? = some (.cells cs t (0, 0))) (hn : cs.size = n) : w.there b 0 n := fun j hj => by
  rw [cell_of_row _ _ _ _ _ _ h]
  refine ⟨?_, frozen_of_row _ _ _ _ _ h⟩
  rw [Nat.zero_add, Array.getElem?_eq_getElem (by omega)]; rfl
theorem fr_setCells (b : Nat) : ∀ (vs : List Value) (o : Nat) (w : World), Fr (fun k => k = b) w (w.setCells b o vs)
  | [], _, w => Fr.refl _ w
  | v :: vs, o, _ => (Fr.set (g := b) (k := o) (v := v)).trans (fr_setCells b vs (o + 1) _) (fun _ hk => .inl hk)
theorem FS.out {w0 w wr w' : World} {D : Dk} {T0 T : Tx} {s : Nat} {now : Nat → Int} {is : Nat → Bool} (h : FS w0 w wr D T0 T s now is) (hF : Fr (fun k => k = s ∨ k = s + 1) wr w') : Ses w0 w' D T ∧ TMv w T0 w' T := by
  have hl := h.lo
  have hd0 : w0.heap.size ≤ s := by
    have := h.ses.dk.far D.d (.inl (.inl rfl))
    have := h.nd D.d (.inl (.inl rfl))
    omega
  refine ⟨⟨⟨h.ses.dk.disk.fr hF (fun k hk e => ?_), h.ses.dk.far, h.ses.dk.bel.trans (hF.below _ (fun k hk => ?_) h.ses.dk.bel.size)⟩, h.ses.tx.fr hF (fun k hk e => ?_), h.ses.d, h.ses.nb, h.ses.ap1, h.ses.ap2, h.ses.far⟩, ⟨h.mv.fr.trans hF (fun k hk => .inr ?_), h.mv.al, h.mv.has, h.mv.t, h.mv.d, h.mv.nb⟩⟩
  · have := h.nd k hk
    rcases e with e | e <;> omega
  · rcases hk with e | e <;> omega
  · rcases e with e | e
    · exact h.na k (by omega) (by omega) hk
    · exact h.na k (by omega) (by omega) hk
  · rcases hk with e | e <;> omega
theorem results_fill (tmps : Array Value) (w : World) (b1 b2 : Nat) (cu cb : List Value) (h4 : tmps.getD 4 undef = .pointer (some ⟨b1, 0, none⟩)) (h5 : tmps.getD 5 undef = .pointer (some ⟨b2, 0, none⟩)) (r1 : w.rangeAt b1 0 cu) (r2 : w.rangeAt b2 0 cb)
    (z3 : (Tryz.prog.info? 28).map (·.size) = some cu.length) (z4 : (Tryz.prog.info? 29).map (·.size) = some cb.length) :
    (results Tryz.f10 tmps).run Tryz.prog w = .ok (.tuple #[.agg cu.toArray, .agg cb.toArray, tmps.getD 6 undef]) w := by
  have l1 := run_loadVar_mid (P := Tryz.prog) w b1 0 28 cu _ r1 Tryz.underlying28 rfl z3
  have l2 := run_loadVar_mid (P := Tryz.prog) w b2 0 29 cb _ r2 Tryz.underlying29 rfl z4
  have h4' : tmps[4]?.getD undef = .pointer (some ⟨b1, 0, none⟩) := by simpa using h4
  have h5' : tmps[5]?.getD undef = .pointer (some ⟨b2, 0, none⟩) := by simpa using h5
  simp [results, Tryz.results10, h4', h5', asAddr, l1, l2]
theorem fill_end {w0 w wz : World} {D : Dk} {T0 T : Tx} {s n k : Nat} {now : Nat → Int} {is : Nat → Bool} {tmps : Array Value} {cu cb : List Value} (hZ : FS w0 w wz D T0 T s now is) (hK : min n 60 = k) (hE : Ext T0 T k) (hC : Cnt T0.c T.c now is) (hcu : (rowU now).toList = cu) (hcb : (rowB is).toList = cb)
    (h4 : tmps.getD 4 undef = .pointer (some ⟨s, 0, none⟩)) (h5 : tmps.getD 5 undef = .pointer (some ⟨s + 1, 0, none⟩)) (h6 : tmps.getD 6 undef = .bool true)
    (q3 : wz.drew.there s 0 cu.toArray.size) (q4 : wz.drew.there (s + 1) 0 cb.toArray.size)
    (z3 : (Tryz.prog.info? 28).map (·.size) = some cu.length) (z4 : (Tryz.prog.info? 29).map (·.size) = some cb.length) :
    bodyPost Tryz.prog Tryz.f10 (fun e w' => ∃ T now is, e = .returned (.tuple #[.agg (rowU now), .agg (rowB is), .bool true]) ∧ Ses w0 w' D T ∧ TMv w T0 w' T ∧ Ext T0 T (min n 60) ∧ Cnt T0.c T.c now is) .ret { tmps := tmps, defers := [] } ((wz.drew.setCells s 0 cu).setCells (s + 1) 0 cb) := by
  have F1 := fr_setCells s cu 0 wz.drew
  have F2 := fr_setCells (s + 1) cb 0 (wz.drew.setCells s 0 cu)
  have F0 : Fr (fun _ => False) wz wz.drew := below_fr (Below.refl _ wz).drew _
  have hF : Fr (fun k => k = s ∨ k = s + 1) wz ((wz.drew.setCells s 0 cu).setCells (s + 1) 0 cb) := ((F0.mono (fun _ e => e.elim)).trans (F1.mono (fun _ e => .inl e)) (fun _ e => .inl e)).trans (F2.mono (T := fun k => k = s ∨ k = s + 1) (fun _ e => .inr e)) (fun _ e => .inl e)
  obtain ⟨o1, o2⟩ := hZ.out hF
  have r1 : ((wz.drew.setCells s 0 cu).setCells (s + 1) 0 cb).rangeAt s 0 cu := World.rangeAt_setCells_apart (World.rangeAt_setCells_same _ _ _ _ (by simpa using q3)) _ _ _ (.inl (by omega))
  have r2 : ((wz.drew.setCells s 0 cu).setCells (s + 1) 0 cb).rangeAt (s + 1) 0 cb := World.rangeAt_setCells_same _ _ _ _ (World.there_setCells (by simpa using q4) _ _ _)
  refine ⟨rfl, _, results_fill tmps _ s (s + 1) cu cb h4 h5 r1 r2 z3 z4, T, now, is, ?_, o1, o2, by rw [hK]; exact hE, hC⟩
  rw [h6, ← hcu, ← hcb, Array.toArray_toList, Array.toArray_toList]
set_option maxRecDepth 100000 in
set_option maxHeartbeats 8000000 in
theorem fill_any (w0 w : World) (D : Dk) (T0 : Tx) (S : Ses w0 w D T0) (hn : T0.nb = 118) (a : Option Addr) (n c : Nat) (P : List (Int × Int)) (hP : PtsAt w0 a P) (hl : P.length = n) (hu : T0.us.length ≤ 900000) :
    Calls Tryz.prog 10 #[.pointer (some ⟨T0.t, 0, none⟩), .slice a n c] w fun e w' => ∃ T now is, e = .returned (.tuple #[.agg (rowU now), .agg (rowB is), .bool true]) ∧ Ses w0 w' D T ∧ TMv w T0 w' T ∧ Ext T0 T (min n 60) ∧ Cnt T0.c T.c now is := by
  have HS : Hid (FS w0 w ((((w.alloc (.cells (rowU fun _ => 0) 28)).alloc (.cells (rowB fun _ => false) 29)).alloc (.cells (rowU fun _ => 0) 28)).alloc (.cells (rowB fun _ => false) 29)) D T0 T0 w.heap.size (fun _ => 0) (fun _ => false)) := FS.start S
  have HP : Hid (∀ wx, Below w0.heap.size w0 wx → PtsAt wx a P) := fun wx hb => hP.on hb
  have HN : Hid (P.length = n ∧ T0.nb = 118 ∧ T0.us.length ≤ 900000) := ⟨hl, hn, hu⟩
  obtain ⟨t0, ht0⟩ : ∃ t0, T0.t = t0 := ⟨_, rfl⟩
  have HT0 : Hid (T0.t = t0) := ht0
  rw [ht0]
  clear S hP hl hn hu ht0
  go_enter Tryz.func10, Tryz.ntmps10
  go_upto_region 4 with (fail)
  rw [zeroU, zeroB]
  obtain ⟨w1, hw1⟩ : ∃ w1, (((w.alloc (.cells (rowU fun _ => 0) 28)).alloc (.cells (rowB fun _ => false) 29)).alloc (.cells (rowU fun _ => 0) 28)).alloc (.cells (rowB fun _ => false) 29) = w1 := ⟨_, rfl⟩
  rw [hw1] at HS ⊢
  obtain ⟨s, hs⟩ : ∃ s, w.heap.size = s := ⟨_, rfl⟩
  rw [hs] at HS
  rw [show w.heap.size + 1 + 1 + 1 = s + 3 by omega, show w.heap.size + 1 + 1 = s + 2 by omega, show w.heap.size + 1 = s + 1 by omega, hs]
  clear hw1 hs
  go_loopw [9] (fun s9 wr => ∃ k : Nat, 98 ≤ k ∧ k ≤ 118 ∧ s9 = .int .i64 k ∧ FS w0 w wr D T0 T0 s (now0 k) (fun _ => false)) (fun s _ => 118 - (intOf s).toNat)
  case atStart => exact ⟨98, by omega, by omega, rfl, by have := HS.out; rw [show (fun _ => (0 : Int)) = now0 98 from by funext j; unfold now0; rw [if_neg (by omega)]] at this; exact this⟩
  case round =>
    obtain ⟨k, hk0, hk, rfl, hR⟩ := hrel
    have HR : Hid (FS w0 w wr D T0 T0 s (now0 k) (fun _ => false)) := hR
    by_cases hlt : k < 118
    · have hu8 : IntKind.u8.wrap (k : Int) = (k : Int) := by simp [IntKind.wrap, IntKind.bits, IntKind.signed]; omega
      have hc : wr.cell? ⟨s + 2, k, none⟩ = some (.int .u8 (now0 k k)) := by rw [cell_of_row _ _ _ _ _ _ hR.ra]; exact rowU_at _ _ hlt
      have hf : wr.frozen? ⟨s + 2, k, none⟩ = false := frozen_of_row _ _ _ _ _ hR.ra
      clear hR
      go_wp2
      exact ⟨⟨k + 1, by omega, by omega, rfl, by rw [← now0_succ k hk0]; exact HR.out.setA k k⟩, by simp [intOf]; omega⟩
    · have hk118 : k = 118 := by omega
      have hge : 118 ≤ k := by omega
      have HR0 : Hid (FS w0 w wr D T0 T0 s (now0 118) (fun _ => false)) := by rw [hk118] at hR; exact hR
      clear hR HS hk118 HR
      obtain ⟨k1, hk1⟩ : ∃ k1, k = k1 := ⟨_, rfl⟩
      subst hk1
      go_upto_region 8 with (fail)
      go_loopw [22] (fun s22 wx => ∃ (k : Nat) (T : Tx) (now : Nat → Int) (is : Nat → Bool), k ≤ n ∧ k ≤ 60 ∧ s22 = .int .i64 k ∧ FS w0 w wx D T0 T s now is ∧ Ext T0 T k ∧ Cnt T0.c T.c now is) (fun s _ => n - (intOf s).toNat)
      case atStart => exact ⟨0, T0, _, _, Nat.zero_le _, by omega, rfl, HR0.out, Ext.refl _, cnt0 _⟩
      case round =>
        obtain ⟨k, T, now, is, hkn, hk6, rfl, hF, hE, hC⟩ := hrel
        have HF : Hid (FS w0 w wr D T0 T s now is ∧ Ext T0 T k ∧ Cnt T0.c T.c now is) := ⟨hF, hE, hC⟩
        have HTt : Hid (T.t = t0) := by have := hF.mv.t; rw [HT0.out] at this; exact this
        clear hF hE hC HR0
        by_cases hlt : k < n
        · have hm : k < P.length := by rw [HN.out.1]; exact hlt
          obtain ⟨q, hq⟩ : ∃ q, P[k]? = some q := ⟨P[k], List.getElem?_eq_getElem hm⟩
          obtain ⟨b, off, rfl, hc⟩ : ∃ b off, a = some ⟨b, off, none⟩ ∧ wr.cell? ⟨b, off + k * 2, none⟩ = some (.int .i64 q.1) ∧ wr.cell? ⟨b, off + k * 2 + 1, none⟩ = some (.int .u8 q.2) ∧ 0 ≤ q.2 ∧ q.2 < 256 := by
            rcases (HP.out _ HF.out.1.ses.bel).at_ with e | ⟨b, off, rfl, hc⟩
            · rw [e] at hm; simp at hm
            · exact ⟨b, off, rfl, hc k q hq⟩
          obtain ⟨d1, d2, hy⟩ := hc
          have HY : Hid (0 ≤ q.2 ∧ q.2 < 256) := hy
          generalize q.1 = qa at d1
          generalize q.2 = qb at d2 HY
          clear hy hq hm
          obtain ⟨m, hm⟩ : ∃ m : Nat, 98 + qa % 20 = (m : Int) := ⟨(98 + qa % 20).toNat, by omega⟩
          have hm0 : 98 ≤ m := by omega
          have hm1 : m < 118 := by omega
          have hm2 : (m : Int) < 118 := by omega
          have HPl : Hid (∀ wx, Calls Tryz.prog 45 #[.agg #[.int .i64 qa, .int .u8 qb]] wx fun e w' => e = .returned (.int .i64 (m : Int)) ∧ Below wx.heap.size wx w') := fun wx => by
            have := place_any wx qa qb
            rw [hm] at this
            exact this
          clear hm
          have HB2 : Hid (Below wr.heap.size wr (wr.alloc (.cells #[.int .i64 qa, .int .u8 qb] 104))) := (Below.refl _ wr).alloc (Nat.le_refl _) _
          by_cases h60 : k < 60
          · go_upto_region 11 with (fail)
            obtain ⟨w2, hw2⟩ : ∃ w2, wr.alloc (.cells #[.int .i64 qa, .int .u8 qb] 104) = w2 := ⟨_, rfl⟩
            obtain ⟨bp, hbp⟩ : ∃ bp, wr.heap.size = bp := ⟨_, rfl⟩
            have p1 : w2.cell? ⟨bp, 0, none⟩ = some (.int .i64 qa) := by rw [← hw2, ← hbp]; simp
            have p2 : w2.cell? ⟨bp, 1, none⟩ = some (.int .u8 qb) := by rw [← hw2, ← hbp]; simp
            have HF2 : Hid (FS w0 w w2 D T0 T s now is) := by have := HF.out.1.on HB2.out; rw [hw2] at this; exact this
            have HTl : Hid (∀ kk, T.all kk → kk < bp) := fun kk h => by rw [← hbp]; exact HF.out.1.ses.tx.lt h
            have HBp : Hid (s + 3 < bp) := by rw [← hbp]; exact heap_lt HF.out.1.rb
            rw [hw2, hbp]
            clear hw2 hbp HB2
            have HWr : Hid (∀ wx, Below w2.heap.size w2 wx → ∀ g cc, OwnB wx g cc (one qb) → Calls Tryz.prog 36 #[.pointer (some ⟨t0, 0, none⟩), .int .i64 (m : Int), .slice (some ⟨g, 0, none⟩) 512 cc] wx fun e w' => e = .returned (.int .i64 0) ∧ ∃ T', (FS w0 w w' D T0 T' s now is ∧ Ext T0 T' (k + 1) ∧ Cnt T0.c T'.c (updF now m qb) (updF is m true)) ∧ w'.cell? ⟨bp, 0, none⟩ = some (.int .i64 qa) ∧ w'.cell? ⟨bp, 1, none⟩ = some (.int .u8 qb)) := fun wx hb g cc ho => by
              have hS := HF2.out.on hb
              have hnb : T.nb = 118 := by rw [HF2.out.mv.nb]; exact HN.out.2.1
              have hul : T.us.length + 1 ≤ 1000000 := by
                obtain ⟨ext, e1, e2, _⟩ := HF.out.2.1
                rw [e1, List.length_append, e2]
                have := HN.out.2.2
                omega
              have := ses_write w0 wx D T hS.ses m hm0 (by omega) ⟨g, 0, none⟩ cc (one qb) ho.bytes (one_length _) (.inr (by have := lst_few (c := T.c) (by have := hS.ses.tx.ok; rw [hnb] at this; exact this); rw [hnb]; omega)) hul
              rw [HTt.out] at this
              refine this.mono ?_
              rintro e w' ⟨rfl, T', q, u, s1, s2, s3, s4, s5, s6, s7, s8⟩
              have nb1 : ¬ T.has bp := fun e => Nat.lt_irrefl _ (HTl.out bp (.inl e))
              exact ⟨rfl, T', ⟨hS.write s1 s2, HF.out.2.1.next s5 s6 s7 s8, by rw [s5]; exact HF.out.2.2.put m q qb HY.out s3⟩, s2.fr.cell ((hb.cell (block_lt_of_cell p1)).trans p1) nb1, s2.fr.cell ((hb.cell (block_lt_of_cell p2)).trans p2) nb1⟩
            go_cut [36] (fun sv wx => sv = .bool false ∧ ∃ T', (FS w0 w wx D T0 T' s now is ∧ Ext T0 T' (k + 1) ∧ Cnt T0.c T'.c (updF now m qb) (updF is m true)) ∧ wx.cell? ⟨bp, 0, none⟩ = some (.int .i64 qa) ∧ wx.cell? ⟨bp, 1, none⟩ = some (.int .u8 qb))
            case first =>
              go_region_law (go_simp; first
                | (go_at_call 45; refine (HPl.out _).mono ?_; rintro e w3 ⟨rfl, hb⟩; have H3 : Hid (Below w2.heap.size w2 w3) := (Below.refl _ w2).drew.trans hb; have p3 : w3.cell? ⟨bp, 1, none⟩ = some (.int .u8 qb) := (H3.out.cell (block_lt_of_cell p2)).trans p2; clear hb)
                | (go_at_call 17; refine (lblock_any _ qb HY.out).mono ?_; rintro e w4 ⟨rfl, ho, hb⟩; have H4 : Hid (Below w2.heap.size w2 w4 ∧ OwnB w4 w3.heap.size 512 (one qb)) := ⟨H3.out.trans (hb.mono H3.out.size), ho⟩; clear ho hb)
                | (go_at_call 36; refine (HWr.out _ H4.out.1 _ _ H4.out.2).mono ?_; rintro e w5 ⟨rfl, T', hx, p5, p6⟩; have H5 : Hid (FS w0 w w5 D T0 T' s now is ∧ Ext T0 T' (k + 1) ∧ Cnt T0.c T'.c (updF now m qb) (updF is m true)) := hx; clear hx))
              all_goals
                go_wp2
                go_meet
                case rel => exact ⟨rfl, T', H5.out, p5, p6⟩
            case rest =>
            obtain ⟨rfl, T', hx, p5, p6⟩ := hcut
            have H5 : Hid (FS w0 w wc D T0 T' s now is ∧ Ext T0 T' (k + 1) ∧ Cnt T0.c T'.c (updF now m qb) (updF is m true)) := hx
            have HA : Hid (∀ wx, Below wc.heap.size wc wx → wx.cell? ⟨s + 2, m, none⟩ = some (.int .u8 (now m)) ∧ wx.frozen? ⟨s + 2, m, none⟩ = false ∧ wx.cell? ⟨bp, 1, none⟩ = some (.int .u8 qb)) := fun wx hb => by
              have := H5.out.1.on hb
              exact ⟨by rw [cell_of_row _ _ _ _ _ _ this.ra]; exact rowU_at _ _ hm1, frozen_of_row _ _ _ _ _ this.ra, (hb.cell (block_lt_of_cell p6)).trans p6⟩
            clear hx HWr
            go_upto_region 13 with (fail)
            go_region_law (go_simp; go_at_call 45; refine (HPl.out _).mono ?_; rintro e w6 ⟨rfl, hb⟩; have H6 : Hid (Below wc.heap.size wc w6) := (Below.refl _ wc).drew.trans hb; obtain ⟨a1, a2, a3⟩ := HA.out _ H6.out; clear hb)
            all_goals
              obtain ⟨w7, hw7⟩ : ∃ w7, w6.setCell ⟨s + 2, m, none⟩ (.int .u8 qb) = w7 := ⟨_, rfl⟩
              have H7 : Hid (FS w0 w w7 D T0 T' s (updF now m qb) is) := by rw [← hw7]; exact (H5.out.1.on H6.out).setA m qb
              have hF7 : Fr (fun k => k = s + 2) w6 w7 := by rw [← hw7]; exact Fr.set
              have p7 : w7.cell? ⟨bp, 0, none⟩ = some (.int .i64 qa) := hF7.cell ((H6.out.cell (block_lt_of_cell p5)).trans p5) (by have := HBp.out; show ¬ bp = s + 2; omega)
              have p8 : w7.cell? ⟨bp, 1, none⟩ = some (.int .u8 qb) := hF7.cell a3 (by have := HBp.out; show ¬ bp = s + 2; omega)
              have HA7 : Hid (∀ wx, Below w7.heap.size w7 wx → wx.cell? ⟨s + 3, m, none⟩ = some (.bool (is m)) ∧ wx.frozen? ⟨s + 3, m, none⟩ = false) := fun wx hb => by
                have := H7.out.on hb
                exact ⟨by rw [cell_of_row _ _ _ _ _ _ this.rb]; exact rowB_at _ _ hm1, frozen_of_row _ _ _ _ _ this.rb⟩
              rw [hw7]
              clear hw7 hF7 a1 a2 a3 H6
              go_wp2_with (go_at_call 45; refine (HPl.out _).mono ?_; rintro e w8 ⟨rfl, hb⟩; have H8 : Hid (Below w7.heap.size w7 w8) := hb; obtain ⟨a1, a2⟩ := HA7.out _ hb; clear hb)
              exact ⟨⟨k + 1, T', _, _, hlt, h60, rfl, (H7.out.on H8.out).setB m true, H5.out.2⟩, by simp [intOf]; omega⟩
          · have hk60 : k = 60 := by omega
            have h60' : 60 ≤ k := by omega
            have HK : Hid (min n 60 = k) := by show min n 60 = k; omega
            clear hk60
            go_upto_region 16 with (fail)
            obtain ⟨wz, hwz⟩ : ∃ wz, wr.alloc (.cells #[.int .i64 qa, .int .u8 qb] 104) = wz := ⟨_, rfl⟩
            have HZ : Hid (FS w0 w wz D T0 T s now is) := by have := HF.out.1.on HB2.out; rw [hwz] at this; exact this
            rw [hwz]
            clear hwz HB2
            obtain ⟨cu, hcu⟩ : ∃ cu, (rowU now).toList = cu := ⟨_, rfl⟩
            obtain ⟨cb, hcb⟩ : ∃ cb, (rowB is).toList = cb := ⟨_, rfl⟩
            have n1 : cu.length = 118 := by rw [← hcu]; simp [rowU]
            have n2 : cb.length = 118 := by rw [← hcb]; simp [rowB]
            have q1 : wz.drew.rangeAt (s + 2) 0 cu := by rw [← hcu]; exact (World.rangeAt_drew _ _ _ _).2 (range_row HZ.out.ra)
            have q2 : wz.drew.rangeAt (s + 3) 0 cb := by rw [← hcb]; exact (World.rangeAt_drew _ _ _ _).2 (range_row HZ.out.rb)
            have q3 : wz.drew.there s 0 cu.toArray.size := by rw [List.size_toArray, n1]; exact (World.there_drew _ _ _ _).2 (there_row HZ.out.r1 (by simp [rowU]))
            have q4 : wz.drew.there (s + 1) 0 cb.toArray.size := by rw [List.size_toArray, n2]; exact (World.there_drew _ _ _ _).2 (there_row HZ.out.r2 (by simp [rowB]))
            have z1 := Tryz.underlying28
            have z2 := Tryz.underlying29
            have z3 : (Tryz.prog.info? 28).map (·.size) = some cu.length := by rw [n1]; kernel_rfl
            have z4 : (Tryz.prog.info? 29).map (·.size) = some cb.length := by rw [n2]; kernel_rfl
            have z7 : (cu.toArray).all (·.oneCell') = true := all_oneCell_toArray (by intro v hv; rw [← hcu] at hv; simp [rowU] at hv; obtain ⟨j, _, rfl⟩ := hv; rfl)
            have z8 : (cb.toArray).all (·.oneCell') = true := all_oneCell_toArray (by intro v hv; rw [← hcb] at hv; simp [rowB] at hv; obtain ⟨j, _, rfl⟩ := hv; rfl)
            have Q : Hid ((wz.drew.rangeAt (s + 2) 0 cu ∧ wz.drew.rangeAt (s + 3) 0 cb) ∧ (wz.drew.there s 0 cu.toArray.size ∧ wz.drew.there (s + 1) 0 cb.toArray.size)) := ⟨⟨q1, q2⟩, q3, q4⟩
            have Z : Hid (((Tryz.prog.info? 28).map (·.size) = some cu.length ∧ (Tryz.prog.info? 29).map (·.size) = some cb.length) ∧ (cu.toArray).all (·.oneCell') = true ∧ (cb.toArray).all (·.oneCell') = true) := ⟨⟨z3, z4⟩, z7, z8⟩
            have HC : Hid ((rowU now).toList = cu ∧ (rowB is).toList = cb) := ⟨hcu, hcb⟩
            clear q1 q2 q3 q4 z1 z2 z3 z4 z7 z8 hcu hcb n1 n2
            refine wp_region_any (by as_aux_lemma => kernel_rfl) ?_
            try (change wpAny _ _ _ _ _ _ _ (World.drew _))
            refine wpAny_ready (rs := [0, 1]) (by as_aux_lemma => kernel_rfl) (by simp) ?_
            refine AllReady.cons rfl (fun K hK => ?_) ?_
            · (rw [if_pos (by simp [Region.wanted])]; refine wp_load_mid 28 (.tmp 7) rfl (s + 2) 0 rfl cu _ (by first | exact Q.out.1.1 | exact World.rangeAt_setCells_apart Q.out.1.1 _ _ _ (.inl (by omega))) Tryz.underlying28 rfl Z.out.1.1 ?_)
              try go_simp
              first
                | (refine hK _ _ ?_; clear hK K)
                | skip
              refine wpAny_ready (rs := [1, 2]) (by as_aux_lemma => kernel_rfl) (by simp) ?_
              refine AllReady.cons rfl (fun K hK => ?_) ?_
              · (rw [if_pos (by simp [Region.wanted])]; refine wp_load_mid 29 (.tmp 8) rfl (s + 3) 0 rfl cb _ (by first | exact Q.out.1.2 | exact World.rangeAt_setCells_apart Q.out.1.2 _ _ _ (.inl (by omega))) Tryz.underlying29 rfl Z.out.1.2 ?_)
                try go_simp
                first
                  | (refine hK _ _ ?_; clear hK K)
                  | skip
                refine wpAny_ready (rs := [2]) (by as_aux_lemma => kernel_rfl) (by simp) ?_
                refine AllReady.cons rfl (fun K hK => ?_) ?_
                · (rw [if_pos (by simp [Region.wanted])]; refine wp_store_mid 28 (.tmp 4) (.tmp 48) rfl s 0 cu.toArray rfl rfl Q.out.2.1 Z.out.1.1 Z.out.2.1 ?_)
                  try go_simp
                  first
                    | (refine hK _ _ ?_; clear hK K)
                    | skip
                  refine wpAny_ready (rs := [3]) (by as_aux_lemma => kernel_rfl) (by simp) ?_
                  refine AllReady.cons rfl (fun K hK => ?_) ?_
                  · (rw [if_pos (by simp [Region.wanted])]; refine wp_store_mid 29 (.tmp 5) (.tmp 49) rfl (s + 1) 0 cb.toArray rfl rfl (World.there_setCells Q.out.2.2 _ _ _) Z.out.1.2 Z.out.2.2 ?_)
                    try go_simp
                    first
                      | (refine hK _ _ ?_; clear hK K)
                      | skip
                    refine wpAny_take (i := 4) (v := ?_) rfl (by as_aux_lemma => kernel_rfl) (by as_aux_lemma => kernel_rfl) (by as_aux_lemma => kernel_rfl) (fun _ _ _ h => h) (Or.inl ⟨by as_aux_lemma => kernel_rfl, ?_⟩) ?_
                    rotate_left
                    focus (intro w; go_simp; (try (with_reducible rfl)); done)
                    go_simp
                    refine wpAny_done (by kernel_rfl) ?_ _
                    go_wp2
                    exact fill_end HZ.out HK.out HF.out.2.1 HF.out.2.2 HC.out.1 HC.out.2 rfl rfl rfl Q.out.2.1 Q.out.2.2 Z.out.1.1 Z.out.1.2
                  exact AllReady.nil
                exact AllReady.nil
              refine AllReady.cons rfl (fun K hK => ?_) ?_
              · (rw [if_pos (by simp [Region.wanted])]; refine wp_store_mid 28 (.tmp 4) (.tmp 48) rfl s 0 cu.toArray rfl rfl Q.out.2.1 Z.out.1.1 Z.out.2.1 ?_)
                try go_simp
                first
                  | (refine hK _ _ ?_; clear hK K)
                  | skip
                refine wpAny_ready (rs := [1]) (by as_aux_lemma => kernel_rfl) (by simp) ?_
                refine AllReady.cons rfl (fun K hK => ?_) ?_
                · (rw [if_pos (by simp [Region.wanted])]; refine wp_load_mid 29 (.tmp 8) rfl (s + 3) 0 rfl cb _ (by first | exact Q.out.1.2 | exact World.rangeAt_setCells_apart Q.out.1.2 _ _ _ (.inl (by omega))) Tryz.underlying29 rfl Z.out.1.2 ?_)
                  try go_simp
                  first
                    | (refine hK _ _ ?_; clear hK K)
                    | skip
                  refine wpAny_ready (rs := [3]) (by as_aux_lemma => kernel_rfl) (by simp) ?_
                  refine AllReady.cons rfl (fun K hK => ?_) ?_
                  · (rw [if_pos (by simp [Region.wanted])]; refine wp_store_mid 29 (.tmp 5) (.tmp 49) rfl (s + 1) 0 cb.toArray rfl rfl (World.there_setCells Q.out.2.2 _ _ _) Z.out.1.2 Z.out.2.2 ?_)
                    try go_simp
                    first
                      | (refine hK _ _ ?_; clear hK K)
                      | skip
                    refine wpAny_take (i := 4) (v := ?_) rfl (by as_aux_lemma => kernel_rfl) (by as_aux_lemma => kernel_rfl) (by as_aux_lemma => kernel_rfl) (fun _ _ _ h => h) (Or.inl ⟨by as_aux_lemma => kernel_rfl, ?_⟩) ?_
                    rotate_left
                    focus (intro w; go_simp; (try (with_reducible rfl)); done)
                    go_simp
                    refine wpAny_done (by kernel_rfl) ?_ _
                    go_wp2
                    exact fill_end HZ.out HK.out HF.out.2.1 HF.out.2.2 HC.out.1 HC.out.2 rfl rfl rfl Q.out.2.1 Q.out.2.2 Z.out.1.1 Z.out.1.2
                  exact AllReady.nil
                exact AllReady.nil
              exact AllReady.nil
            refine AllReady.cons rfl (fun K hK => ?_) ?_
            · (rw [if_pos (by simp [Region.wanted])]; refine wp_load_mid 29 (.tmp 8) rfl (s + 3) 0 rfl cb _ (by first | exact Q.out.1.2 | exact World.rangeAt_setCells_apart Q.out.1.2 _ _ _ (.inl (by omega))) Tryz.underlying29 rfl Z.out.1.2 ?_)
              try go_simp
              first
                | (refine hK _ _ ?_; clear hK K)
                | skip
              refine wpAny_ready (rs := [0]) (by as_aux_lemma => kernel_rfl) (by simp) ?_
              refine AllReady.cons rfl (fun K hK => ?_) ?_
              · (rw [if_pos (by simp [Region.wanted])]; refine wp_load_mid 28 (.tmp 7) rfl (s + 2) 0 rfl cu _ (by first | exact Q.out.1.1 | exact World.rangeAt_setCells_apart Q.out.1.1 _ _ _ (.inl (by omega))) Tryz.underlying28 rfl Z.out.1.1 ?_)
                try go_simp
                first
                  | (refine hK _ _ ?_; clear hK K)
                  | skip
                refine wpAny_ready (rs := [2]) (by as_aux_lemma => kernel_rfl) (by simp) ?_
                refine AllReady.cons rfl (fun K hK => ?_) ?_
                · (rw [if_pos (by simp [Region.wanted])]; refine wp_store_mid 28 (.tmp 4) (.tmp 48) rfl s 0 cu.toArray rfl rfl Q.out.2.1 Z.out.1.1 Z.out.2.1 ?_)
                  try go_simp
                  first
                    | (refine hK _ _ ?_; clear hK K)
                    | skip
                  refine wpAny_ready (rs := [3]) (by as_aux_lemma => kernel_rfl) (by simp) ?_
                  refine AllReady.cons rfl (fun K hK => ?_) ?_
                  · (rw [if_pos (by simp [Region.wanted])]; refine wp_store_mid 29 (.tmp 5) (.tmp 49) rfl (s + 1) 0 cb.toArray rfl rfl (World.there_setCells Q.out.2.2 _ _ _) Z.out.1.2 Z.out.2.2 ?_)
                    try go_simp
                    first
                      | (refine hK _ _ ?_; clear hK K)
                      | skip
                    refine wpAny_take (i := 4) (v := ?_) rfl (by as_aux_lemma => kernel_rfl) (by as_aux_lemma => kernel_rfl) (by as_aux_lemma => kernel_rfl) (fun _ _ _ h => h) (Or.inl ⟨by as_aux_lemma => kernel_rfl, ?_⟩) ?_
                    rotate_left
                    focus (intro w; go_simp; (try (with_reducible rfl)); done)
                    go_simp
                    refine wpAny_done (by kernel_rfl) ?_ _
                    go_wp2
                    exact fill_end HZ.out HK.out HF.out.2.1 HF.out.2.2 HC.out.1 HC.out.2 rfl rfl rfl Q.out.2.1 Q.out.2.2 Z.out.1.1 Z.out.1.2
                  exact AllReady.nil
                exact AllReady.nil
              exact AllReady.nil
            exact AllReady.nil
        · have hkn' : k = n := by omega
          have HZ : Hid (FS w0 w wr D T0 T s now is) := HF.out.1
          have HK : Hid (min n 60 = k) := by show min n 60 = k; omega
          have hge2 : n ≤ k := by omega
          clear hkn'
          go_upto_region 16 with (fail)
          obtain ⟨cu, hcu⟩ : ∃ cu, (rowU now).toList = cu := ⟨_, rfl⟩
          obtain ⟨cb, hcb⟩ : ∃ cb, (rowB is).toList = cb := ⟨_, rfl⟩
          have n1 : cu.length = 118 := by rw [← hcu]; simp [rowU]
          have n2 : cb.length = 118 := by rw [← hcb]; simp [rowB]
          have q1 : wr.drew.rangeAt (s + 2) 0 cu := by rw [← hcu]; exact (World.rangeAt_drew _ _ _ _).2 (range_row HZ.out.ra)
          have q2 : wr.drew.rangeAt (s + 3) 0 cb := by rw [← hcb]; exact (World.rangeAt_drew _ _ _ _).2 (range_row HZ.out.rb)
          have q3 : wr.drew.there s 0 cu.toArray.size := by rw [List.size_toArray, n1]; exact (World.there_drew _ _ _ _).2 (there_row HZ.out.r1 (by simp [rowU]))
          have q4 : wr.drew.there (s + 1) 0 cb.toArray.size := by rw [List.size_toArray, n2]; exact (World.there_drew _ _ _ _).2 (there_row HZ.out.r2 (by simp [rowB]))
          have z1 := Tryz.underlying28
          have z2 := Tryz.underlying29
          have z3 : (Tryz.prog.info? 28).map (·.size) = some cu.length := by rw [n1]; kernel_rfl
          have z4 : (Tryz.prog.info? 29).map (·.size) = some cb.length := by rw [n2]; kernel_rfl
          have z7 : (cu.toArray).all (·.oneCell') = true := all_oneCell_toArray (by intro v hv; rw [← hcu] at hv; simp [rowU] at hv; obtain ⟨j, _, rfl⟩ := hv; rfl)
          have z8 : (cb.toArray).all (·.oneCell') = true := all_oneCell_toArray (by intro v hv; rw [← hcb] at hv; simp [rowB] at hv; obtain ⟨j, _, rfl⟩ := hv; rfl)
          have Q : Hid ((wr.drew.rangeAt (s + 2) 0 cu ∧ wr.drew.rangeAt (s + 3) 0 cb) ∧ (wr.drew.there s 0 cu.toArray.size ∧ wr.drew.there (s + 1) 0 cb.toArray.size)) := ⟨⟨q1, q2⟩, q3, q4⟩
          have Z : Hid (((Tryz.prog.info? 28).map (·.size) = some cu.length ∧ (Tryz.prog.info? 29).map (·.size) = some cb.length) ∧ (cu.toArray).all (·.oneCell') = true ∧ (cb.toArray).all (·.oneCell') = true) := ⟨⟨z3, z4⟩, z7, z8⟩
          have HC : Hid ((rowU now).toList = cu ∧ (rowB is).toList = cb) := ⟨hcu, hcb⟩
          clear q1 q2 q3 q4 z1 z2 z3 z4 z7 z8 hcu hcb n1 n2
          refine wp_region_any (by as_aux_lemma => kernel_rfl) ?_
          try (change wpAny _ _ _ _ _ _ _ (World.drew _))
          refine wpAny_ready (rs := [0, 1]) (by as_aux_lemma => kernel_rfl) (by simp) ?_
          refine AllReady.cons rfl (fun K hK => ?_) ?_
          · (rw [if_pos (by simp [Region.wanted])]; refine wp_load_mid 28 (.tmp 7) rfl (s + 2) 0 rfl cu _ (by first | exact Q.out.1.1 | exact World.rangeAt_setCells_apart Q.out.1.1 _ _ _ (.inl (by omega))) Tryz.underlying28 rfl Z.out.1.1 ?_)
            try go_simp
            first
              | (refine hK _ _ ?_; clear hK K)
              | skip
            refine wpAny_ready (rs := [1, 2]) (by as_aux_lemma => kernel_rfl) (by simp) ?_
            refine AllReady.cons rfl (fun K hK => ?_) ?_
            · (rw [if_pos (by simp [Region.wanted])]; refine wp_load_mid 29 (.tmp 8) rfl (s + 3) 0 rfl cb _ (by first | exact Q.out.1.2 | exact World.rangeAt_setCells_apart Q.out.1.2 _ _ _ (.inl (by omega))) Tryz.underlying29 rfl Z.out.1.2 ?_)
              try go_simp
              first
                | (refine hK _ _ ?_; clear hK K)
                | skip
              refine wpAny_ready (rs := [2]) (by as_aux_lemma => kernel_rfl) (by simp) ?_
              refine AllReady.cons rfl (fun K hK => ?_) ?_
              · (rw [if_pos (by simp [Region.wanted])]; refine wp_store_mid 28 (.tmp 4) (.tmp 48) rfl s 0 cu.toArray rfl rfl Q.out.2.1 Z.out.1.1 Z.out.2.1 ?_)
                try go_simp
                first
                  | (refine hK _ _ ?_; clear hK K)
                  | skip
                refine wpAny_ready (rs := [3]) (by as_aux_lemma => kernel_rfl) (by simp) ?_
                refine AllReady.cons rfl (fun K hK => ?_) ?_
                · (rw [if_pos (by simp [Region.wanted])]; refine wp_store_mid 29 (.tmp 5) (.tmp 49) rfl (s + 1) 0 cb.toArray rfl rfl (World.there_setCells Q.out.2.2 _ _ _) Z.out.1.2 Z.out.2.2 ?_)
                  try go_simp
                  first
                    | (refine hK _ _ ?_; clear hK K)
                    | skip
                  refine wpAny_take (i := 4) (v := ?_) rfl (by as_aux_lemma => kernel_rfl) (by as_aux_lemma => kernel_rfl) (by as_aux_lemma => kernel_rfl) (fun _ _ _ h => h) (Or.inl ⟨by as_aux_lemma => kernel_rfl, ?_⟩) ?_
                  rotate_left
                  focus (intro w; go_simp; (try (with_reducible rfl)); done)
                  go_simp
                  refine wpAny_done (by kernel_rfl) ?_ _
                  go_wp2
                  exact fill_end HZ.out HK.out HF.out.2.1 HF.out.2.2 HC.out.1 HC.out.2 rfl rfl rfl Q.out.2.1 Q.out.2.2 Z.out.1.1 Z.out.1.2
                exact AllReady.nil
              exact AllReady.nil
            refine AllReady.cons rfl (fun K hK => ?_) ?_
            · (rw [if_pos (by simp [Region.wanted])]; refine wp_store_mid 28 (.tmp 4) (.tmp 48) rfl s 0 cu.toArray rfl rfl Q.out.2.1 Z.out.1.1 Z.out.2.1 ?_)
              try go_simp
              first
                | (refine hK _ _ ?_; clear hK K)
                | skip
              refine wpAny_ready (rs := [1]) (by as_aux_lemma => kernel_rfl) (by simp) ?_
              refine AllReady.cons rfl (fun K hK => ?_) ?_
              · (rw [if_pos (by simp [Region.wanted])]; refine wp_load_mid 29 (.tmp 8) rfl (s + 3) 0 rfl cb _ (by first | exact Q.out.1.2 | exact World.rangeAt_setCells_apart Q.out.1.2 _ _ _ (.inl (by omega))) Tryz.underlying29 rfl Z.out.1.2 ?_)
                try go_simp
                first
                  | (refine hK _ _ ?_; clear hK K)
                  | skip
                refine wpAny_ready (rs := [3]) (by as_aux_lemma => kernel_rfl) (by simp) ?_
                refine AllReady.cons rfl (fun K hK => ?_) ?_
                · (rw [if_pos (by simp [Region.wanted])]; refine wp_store_mid 29 (.tmp 5) (.tmp 49) rfl (s + 1) 0 cb.toArray rfl rfl (World.there_setCells Q.out.2.2 _ _ _) Z.out.1.2 Z.out.2.2 ?_)
                  try go_simp
                  first
                    | (refine hK _ _ ?_; clear hK K)
                    | skip
                  refine wpAny_take (i := 4) (v := ?_) rfl (by as_aux_lemma => kernel_rfl) (by as_aux_lemma => kernel_rfl) (by as_aux_lemma => kernel_rfl) (fun _ _ _ h => h) (Or.inl ⟨by as_aux_lemma => kernel_rfl, ?_⟩) ?_
                  rotate_left
                  focus (intro w; go_simp; (try (with_reducible rfl)); done)
                  go_simp
                  refine wpAny_done (by kernel_rfl) ?_ _
                  go_wp2
                  exact fill_end HZ.out HK.out HF.out.2.1 HF.out.2.2 HC.out.1 HC.out.2 rfl rfl rfl Q.out.2.1 Q.out.2.2 Z.out.1.1 Z.out.1.2
                exact AllReady.nil
              exact AllReady.nil
            exact AllReady.nil
          refine AllReady.cons rfl (fun K hK => ?_) ?_
          · (rw [if_pos (by simp [Region.wanted])]; refine wp_load_mid 29 (.tmp 8) rfl (s + 3) 0 rfl cb _ (by first | exact Q.out.1.2 | exact World.rangeAt_setCells_apart Q.out.1.2 _ _ _ (.inl (by omega))) Tryz.underlying29 rfl Z.out.1.2 ?_)
            try go_simp
            first
              | (refine hK _ _ ?_; clear hK K)
              | skip
            refine wpAny_ready (rs := [0]) (by as_aux_lemma => kernel_rfl) (by simp) ?_
            refine AllReady.cons rfl (fun K hK => ?_) ?_
            · (rw [if_pos (by simp [Region.wanted])]; refine wp_load_mid 28 (.tmp 7) rfl (s + 2) 0 rfl cu _ (by first | exact Q.out.1.1 | exact World.rangeAt_setCells_apart Q.out.1.1 _ _ _ (.inl (by omega))) Tryz.underlying28 rfl Z.out.1.1 ?_)
              try go_simp
              first
                | (refine hK _ _ ?_; clear hK K)
                | skip
              refine wpAny_ready (rs := [2]) (by as_aux_lemma => kernel_rfl) (by simp) ?_
              refine AllReady.cons rfl (fun K hK => ?_) ?_
              · (rw [if_pos (by simp [Region.wanted])]; refine wp_store_mid 28 (.tmp 4) (.tmp 48) rfl s 0 cu.toArray rfl rfl Q.out.2.1 Z.out.1.1 Z.out.2.1 ?_)
                try go_simp
                first
                  | (refine hK _ _ ?_; clear hK K)
                  | skip
                refine wpAny_ready (rs := [3]) (by as_aux_lemma => kernel_rfl) (by simp) ?_
                refine AllReady.cons rfl (fun K hK => ?_) ?_
                · (rw [if_pos (by simp [Region.wanted])]; refine wp_store_mid 29 (.tmp 5) (.tmp 49) rfl (s + 1) 0 cb.toArray rfl rfl (World.there_setCells Q.out.2.2 _ _ _) Z.out.1.2 Z.out.2.2 ?_)
                  try go_simp
                  first
                    | (refine hK _ _ ?_; clear hK K)
                    | skip
                  refine wpAny_take (i := 4) (v := ?_) rfl (by as_aux_lemma => kernel_rfl) (by as_aux_lemma => kernel_rfl) (by as_aux_lemma => kernel_rfl) (fun _ _ _ h => h) (Or.inl ⟨by as_aux_lemma => kernel_rfl, ?_⟩) ?_
                  rotate_left
                  focus (intro w; go_simp; (try (with_reducible rfl)); done)
                  go_simp
                  refine wpAny_done (by kernel_rfl) ?_ _
                  go_wp2
                  exact fill_end HZ.out HK.out HF.out.2.1 HF.out.2.2 HC.out.1 HC.out.2 rfl rfl rfl Q.out.2.1 Q.out.2.2 Z.out.1.1 Z.out.1.2
                exact AllReady.nil
              exact AllReady.nil
            exact AllReady.nil
          exact AllReady.nil
end Go.Proofs.YtcdggcdkjooohaaGreatDoor

