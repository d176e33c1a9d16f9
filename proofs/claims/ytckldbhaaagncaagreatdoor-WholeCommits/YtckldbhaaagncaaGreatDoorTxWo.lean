import Derived.Test.YtckldbhaaagncaaGreatDoorTxWp
namespace Go.Proofs.YtckldbhaaagncaaGreatDoor
open Go.RowKit Go.Maps Rec

theorem JbsAt.on {w w' : World} {a : Option Addr} {J : List JbR} (h : JbsAt w a J) (hb : Below w.heap.size w w') : JbsAt w' a J := by
  refine ⟨h.len, h.at_.imp id ?_⟩
  rintro ⟨b, off, rfl, hc⟩
  exact ⟨b, off, rfl, fun i q hq => ⟨fun j v hv => (below_fr hb (fun _ => False)).cell ((hc i q hq).1 j v hv) (fun e => e), (hc i q hq).2.on hb⟩⟩
theorem WcA.more {w0 wr : World} {nb : Nat} {R R' : List (Nat × Array Value × Nat)} {E : Dk} {l : List Int} {sI : Value} {is : List Int} {i : Nat} (h : WcA w0 nb R wr E l sI is i) (hk : Kp wr R') : WcA w0 nb R' wr E l sI is i :=
  ⟨h.mine, h.rest, h.hol, h.c1, h.c2, h.c3, h.c4, h.ints, h.il, h.ir, h.ap, hk⟩
theorem jobs_row {w : World} {gJ cap m gP : Nat} {J : List JbR} (h : w.ownsRow 0 38 5 (.slice (some ⟨gJ, 0, none⟩) (1 + m) cap) (1 + m) ((job0 gP :: J).flatMap JbR.cells)) (_hm : J.length = m) :
    ∃ cur : Array Value, w.heap[gJ]? = some (.cells cur 38 (0, 0)) ∧ ∀ mI q, (job0 gP :: J)[mI]? = some q → ∀ j v, q.cells[j]? = some v → cur[mI * 5 + j]? = some v := by
  rcases h.2 with ⟨hv, _⟩ | ⟨g', cap', cur, hv, _, hg, _, _, _, h5⟩
  · cases hv
  · cases hv
    refine ⟨cur, hg, fun mI q hq j v hv => ?_⟩
    have hlt : mI < (job0 gP :: J).length := by
      rcases Nat.lt_or_ge mI (job0 gP :: J).length with h | h
      · exact h
      · rw [List.getElem?_eq_none h] at hq; cases hq
    have hj : j < 5 := by
      rcases Nat.lt_or_ge j 5 with h | h
      · exact h
      · rw [List.getElem?_eq_none (by simp [JbR.cells]; omega)] at hv; cases hv
    have e := flat5 (job0 gP :: J) mI hlt j hj
    rw [List.getElem?_eq_getElem hlt] at hq
    rw [Option.some.inj hq, hv, ← h5, List.getElem?_take] at e
    split at e
    · simpa using e
    · cases e
theorem jobs_ok {w wx : World} {a : Option Addr} {J : List JbR} {gP : Nat} (hJ : JbsAt w a J) (hx : Below w.heap.size w wx) (hp : wx.heap[gP]? = some (.cells #[.int .i64 0, .int .i64 5, .int .i64 1, .int .i64 6] 31 (0, 0))) {mI : Nat} {q : JbR} (hq : (job0 gP :: J)[mI]? = some q) : JbOk wx q := by
  cases mI with
  | zero =>
    cases hq
    have hc := fun k => cell_of_row wx gP k _ _ _ hp
    refine ⟨⟨by simp [job0], .inr ⟨gP, 0, rfl, fun i p hi => ?_⟩⟩, ⟨⟨none, 0, rfl, .inl rfl⟩, fun _ => rfl, by simp [job0], by simp [job0], by simp [job0]⟩, ⟨by simp [job0], .inl rfl⟩⟩
    match i, hi with
    | 0, hi => cases hi; exact ⟨hc 0, hc 1⟩
    | 1, hi => cases hi; exact ⟨hc 2, hc 3⟩
    | i + 2, hi => simp [job0] at hi
  | succ mI =>
    have hq' : J[mI]? = some q := by simpa using hq
    rcases (hJ.on hx).at_ with e | ⟨b, off, _, hc⟩
    · rw [e] at hq'; cases hq'
    · exact (hc mI q hq').2
/-- 'make(store, n)' -/
theorem wp_makeS {ops : Array Oper} {rest : List Oper} {o : Oper} {a : Act} {Q : Exit → Act → World → Prop} {w : World} (hg : o.guard = none) (l c : Operand) (hop : o.op = Op.makeSlice 29 l c)
    (kl kc : IntKind) (L C : Int) (n : Nat) (hl : a.eval l = .int kl L) (hc : a.eval c = .int kc C) (hL : L = (n : Int)) (hC : C = (n : Int)) (hn : n ≤ 4294967296)
    (hK : ∀ w', OwnI w' w.heap.size n (zn n) → Below w.heap.size w w' → wpList Tryz.prog ops Q rest (a.put o.dst (.slice (some ⟨w.heap.size, 0, none⟩) n n)) w') :
    wpList Tryz.prog ops Q (o :: rest) a w := by
  obtain ⟨i0, hi, hz0, hz1, hz2⟩ := info_parts info3
  subst hL hC
  refine wpList_make_row w hg l c 29 hop 3 i0 _ Tryz.underlying29 hi hz0 hz1 rfl kl kc n hl hc (by rw [hz2]; omega) (by omega) ?_
  refine hK _ (OwnI.of ⟨by simp [zn], .inr ⟨_, _, _, rfl, Nat.zero_le _, heap_alloc_new _ _, Nat.le_refl _, by unfold maxLen; omega, ?_, ?_⟩⟩ (zn_length n) (by omega)) ((Below.refl _ _).alloc (Nat.le_refl _) _)
  · rw [← Array.length_toList, made_list, List.length_replicate, Nat.mul_one]
  · rw [made_list, zn, List.map_replicate, List.take_replicate, Nat.mul_one, Nat.min_self]
theorem intsAt_own {w : World} {g n cap : Nat} {l : List Int} (h : OwnI w g cap l) (hl : l.length = n) : IntsAt w (.slice (some ⟨g, 0, none⟩) n cap) l := by
  subst hl
  refine ⟨_, _, rfl, .inr ⟨g, rfl, fun j x hj => ?_⟩⟩
  have hlt : j < l.length := by
    rcases Nat.lt_or_ge j l.length with h | h
    · exact h
    · rw [List.getElem?_eq_none h] at hj; cases hj
  rw [h.cell j hlt]
  have : nth l j = x := by simp [nth, List.getD, hj]
  rw [this]
theorem holds0 (nb : Nat) : HoldsL (zsA (512 * nb)) (List.replicate (nb - 98) (-1)) := fun i hi => by
  have hi' : i < nb - 98 := by simpa using hi
  rw [zsA_block nb (98 + i) (by omega), nth_rep _ _ _ hi']
  rfl
def filN (n k : Nat) : List Int := ov (zn n) 0 k (fun _ => -1)
theorem filN_len (n k : Nat) : (filN n k).length = n := by rw [filN, ov_length, zn_length]
theorem filN_all (n : Nat) : filN n n = List.replicate n (-1) := by
  refine ext_nth (by rw [filN_len, List.length_replicate]) fun i hi => ?_
  have hi' : i < n := by rw [filN_len] at hi; exact hi
  rw [filN, nth_ov _ _ _ _ _ (by rw [zn_length]; exact hi'), if_pos (by omega), nth_rep _ _ _ hi']
set_option maxRecDepth 100000 in
set_option maxHeartbeats 16000000 in
theorem wcommits_any (w : World) (x : Int) (a : Option Addr) (m c : Nat) (J : List JbR) (hJ : JbsAt w a J) (hm : J.length = m) (hz : a = none → c = 0) (h88 : m * 88 ≤ 140737488351232) (hT : TabAt w) :
    Calls Tryz.prog 3 #[.int .i64 x, .slice a m c] w fun e w' => e = .returned (.bool true) ∧ Below w.heap.size w w' := by
  have HT : Hid (TabAt w) := hT
  have HJ : Hid (JbsAt w a J ∧ J.length = m ∧ (a = none → c = 0)) := ⟨hJ, hm, hz⟩
  obtain ⟨nb, hnb⟩ : ∃ nb : Nat, 100 + x % 60 = (nb : Int) := ⟨(100 + x % 60).toNat, by omega⟩
  have hnb1 : 100 ≤ nb ∧ nb ≤ 159 := by omega
  have HMd : Hid (Calls Tryz.prog 4 #[.int .i64 x, .int .i64 60] w fun e w' => e = .returned (.int .i64 ((nb : Int) - 100)) ∧ w = w') := by
    have := ymod_any w x 60 (by omega) (by omega)
    rw [show x % ((60 : Nat) : Int) = (nb : Int) - 100 by omega] at this
    exact this
  have hnbi : 100 + ((nb : Int) - 100) = (nb : Int) := by omega
  have hptr := ptr_nil
  have hptT := ptr_nilT
  clear hT hJ hm hz hnb
  obtain ⟨n, hn⟩ : ∃ n, nb - 98 = n := ⟨_, rfl⟩
  have HN : Hid (nb - 98 = n) := hn
  have hni : (nb : Int) - 98 = (n : Int) := by omega
  have hn1 : 2 ≤ n ∧ n ≤ 61 := by omega
  clear hn
  go_enter Tryz.func3, Tryz.ntmps3
  go_upto_region 6 with (first
    | (go_at_call 4; refine HMd.out.mono ?_; rintro e w' ⟨rfl, rfl⟩)
    | (go_at_call 5; refine (new_rest w nb (by omega) (by omega)).mono ?_; rintro e w1 ⟨D, l, rfl, hM, hR, hl, hw, hf, ht, hk⟩; have HD : Hid (Mine w w1 D ∧ Rest D.abs nb l ∧ l = zsA (512 * nb) ∧ D.abs.wr = 0 ∧ D.abs.fl = 0 ∧ D.abs.T = [] ∧ D.abs.keep = []) := ⟨hM, hR, hl, hw, hf, (by show D.tap.map _ = []; rw [ht]; rfl), hk⟩; clear hM hR hl hw hf ht hk; obtain ⟨d0, hd0⟩ : ∃ d0, D.d = d0 := ⟨_, rfl⟩; have HDd : Hid (D.d = d0) := hd0; rw [hd0]; clear hd0)
    | (at_make; refine wp_makeS rfl _ _ rfl _ _ _ _ n rfl rfl (by omega) (by omega) (by omega) ?_; intro w2 ho hb; have HO2 : Hid (OwnI w2 w1.heap.size n (zn n) ∧ Below w1.heap.size w1 w2) := ⟨ho, hb⟩; clear ho hb))
  generalize hg0 : w1.heap.size = gI at *
  have HgI : Hid (w1.heap.size = gI) := hg0
  clear hg0
  go_wp2_with fail
  go_loopw [8] (fun i wr => ∃ k : Nat, k ≤ n ∧ i = .int .i64 k ∧ OwnI wr gI n (filN n k) ∧ Below gI w1 wr) (fun i _ => n - (intOf i).toNat)
  case atStart => exact ⟨0, Nat.zero_le _, rfl, by unfold filN; rw [ov_zero]; exact HO2.out.1, HO2.out.2⟩
  case round =>
    clear HO2
    obtain ⟨k, hk, rfl, ho, hb⟩ := hrel
    have HO : Hid (OwnI wr gI n (filN n k) ∧ Below gI w1 wr) := ⟨ho, hb⟩
    clear ho hb
    by_cases hlt : k < n
    · have hli : (k : Int) < (n : Int) := by omega
      have d := HO.out.1.cell k (by rw [filN_len]; exact hlt)
      have f := HO.out.1.frozen k
      have HS : Hid (OwnI (wr.setCell ⟨gI, k, none⟩ (.int .i64 (-1))) gI n (filN n (k + 1)) ∧ Below gI w1 (wr.setCell ⟨gI, k, none⟩ (.int .i64 (-1)))) := by
        have z := HO.out.1.set k (-1)
        have z2 := ov_set (zn n) 0 k (fun _ => (-1 : Int)) (by rw [zn_length]; omega)
        rw [Nat.zero_add] at z2
        unfold filN at z
        rw [z2] at z
        exact ⟨z, HO.out.2.trans (Fr.below Fr.set gI (fun q hq => by rw [hq]; exact Nat.le_refl _) (by have z3 := HO.out.2.size; rw [HgI.out] at z3; exact z3))⟩
      go_wp2
      exact ⟨⟨k + 1, by omega, by go_num, HS.out.1, HS.out.2⟩, by simp [intOf]; omega⟩
    · have hkn : n = k := by omega
      subst hkn
      have hli : ¬ (n : Int) < (n : Int) := by omega
      obtain ⟨ho, hb⟩ := HO.out
      rw [filN_all] at ho
      have hb1 : Below w.heap.size w wr := HD.out.1.bel.trans ((HgI.out ▸ hb : Below w1.heap.size w1 wr).mono HD.out.1.bel.size)
      have hA : WcA w nb [] wr D l (.slice (some ⟨gI, 0, none⟩) n n) (List.replicate n (-1)) 0 := by
        obtain ⟨d1, d2, d3, d4, d5, d6, d7⟩ := HD.out
        have hb2 : Below w1.heap.size w1 wr := HgI.out ▸ hb
        refine ⟨d1.on hb2, d2, by rw [d3, ← HN.out]; exact holds0 nb, by rw [d4]; omega, by rw [d5]; omega, by rw [d6]; simp, d7, intsAt_own ho List.length_replicate, by rw [List.length_replicate, HN.out], fun j => ?_, fun g hg => ?_, fun r hr => by cases hr⟩
        · by_cases hj : j < n
          · rw [nth_rep _ _ _ hj]; omega
          · rw [nth_out _ _ (by rw [List.length_replicate]; omega)]; omega
        · have e : gI = g := Option.some.inj hg
          subst e
          exact ⟨fun ha => by have := d1.disk.allLt ha; have := HgI.out; omega, ho.lt⟩
      have HA : Hid (WcA w nb [] wr D l (.slice (some ⟨gI, 0, none⟩) n n) (List.replicate n (-1)) 0) := hA
      have HB : Hid (Below w.heap.size w wr) := hb1
      clear ho hb hb1 hA HO HD
      have HPx : Hid (Below wr.heap.size wr (wr.alloc (.cells #[.int .i64 0, .int .i64 5, .int .i64 1, .int .i64 6] 31))) := (Below.refl _ _).alloc (Nat.le_refl _) _
      have HPr : Hid ((wr.alloc (.cells #[.int .i64 0, .int .i64 5, .int .i64 1, .int .i64 6] 31)).heap[wr.heap.size]? = some (.cells #[.int .i64 0, .int .i64 5, .int .i64 1, .int .i64 6] 31 (0, 0))) := heap_alloc_new _ _
      go_upto_region 11 with (at_builtin; refine wp_jobs (wx := wr.alloc (.cells #[.int .i64 0, .int .i64 5, .int .i64 1, .int .i64 6] 31)) rfl (.tmp 51) (.tmp 52) rfl wr.heap.size m c a J ((HJ.out.1.on HB.out).on HPx.out) HJ.out.2.1 HJ.out.2.2 h88 (wr.heap.size + 1) (by simp) rfl rfl ?_; intro gJ capJ w4 hj4 hg4 hb4; have HJ4 : Hid (w4.ownsRow 0 38 5 (.slice (some ⟨gJ, 0, none⟩) (1 + m) capJ) (1 + m) ((job0 wr.heap.size :: J).flatMap JbR.cells)) := hj4; have HB4 : Hid (Below wr.heap.size wr w4) := HPx.out.trans (hb4.mono HPx.out.size); have HP4 : Hid (w4.heap[wr.heap.size]? = some (.cells #[.int .i64 0, .int .i64 5, .int .i64 1, .int .i64 6] 31 (0, 0))) := (below_fr hb4 (fun _ => False)).heap HPr.out (fun e => e); clear hj4 hg4 hb4)
      have HA3 : Hid (WcA w nb [] w4 D l (.slice (some ⟨gI, 0, none⟩) n n) (List.replicate n (-1)) 0) := HA.out.on HB4.out
      generalize wr.heap.size = gP at *
      obtain ⟨cur, hcur, hcurc⟩ : ∃ cur : Array Value, w4.heap[gJ]? = some (.cells cur 38 (0, 0)) ∧ ∀ mI q, (job0 gP :: J)[mI]? = some q → ∀ j v, q.cells[j]? = some v → cur[mI * 5 + j]? = some v := jobs_row HJ4.out HJ.out.2.1
      have HQ : Hid (∀ wx, Below w.heap.size w wx → wx.heap[gP]? = some (.cells #[.int .i64 0, .int .i64 5, .int .i64 1, .int .i64 6] 31 (0, 0)) → ∀ mI q, (job0 gP :: J)[mI]? = some q → JbOk wx q) := fun wx hx hp mI q hq => jobs_ok HJ.out.1 hx hp hq
      have HCu : Hid (∀ mI q, (job0 gP :: J)[mI]? = some q → ∀ j v, q.cells[j]? = some v → cur[mI * 5 + j]? = some v) := hcurc
      have HA4 : Hid (WcA w nb [(gP, #[.int .i64 0, .int .i64 5, .int .i64 1, .int .i64 6], 31), (gJ, cur, 38)] w4 D l (.slice (some ⟨gI, 0, none⟩) n n) (List.replicate n (-1)) 0) := HA3.out.more (fun r hr => by
        rcases List.mem_cons.1 hr with rfl | hr
        · exact ⟨HP4.out, .inl rfl⟩
        · rcases List.mem_cons.1 hr with rfl | hr
          · exact ⟨hcur, .inr rfl⟩
          · cases hr)
      have HJl : Hid ((job0 gP :: J).length = 1 + m) := by show _ = _; rw [List.length_cons, HJ.out.2.1, Nat.add_comm]
      have HD0 : Hid (D.d = d0) := HDd.out
      clear hcur hcurc HA3 HJ4 HB4 HP4 HPx HPr HA HB HDd HJ HMd HgI hptr
      go_wp2_with fail
      go_loopw [5, 7, 9] (fun s5 s7 i wq => ∃ (k : Nat) (E : Dk) (l is : List Int) (g cap : Nat), k ≤ 30 ∧ k ≤ 1 + m ∧ i = .int .i64 k ∧ s5 = .pointer (some ⟨E.d, 0, none⟩) ∧ s7 = .slice (some ⟨g, 0, none⟩) n cap ∧ WcA w nb [(gP, #[.int .i64 0, .int .i64 5, .int .i64 1, .int .i64 6], 31), (gJ, cur, 38)] wq E l (.slice (some ⟨g, 0, none⟩) n cap) is k) (fun _ _ i _ => 30 - (intOf i).toNat)
      case atStart => exact ⟨0, D, l, _, gI, n, by omega, by omega, rfl, by rw [HD0.out], rfl, HA4.out⟩
      case round =>
        clear HA4 HD0
        rename World => wB
        obtain ⟨k, E, lE, is, g, cap, hk30, hkm, rfl, rfl, rfl, hA⟩ := hrel
        have HA : Hid (WcA w nb [(gP, #[.int .i64 0, .int .i64 5, .int .i64 1, .int .i64 6], 31), (gJ, cur, 38)] wB E lE (.slice (some ⟨g, 0, none⟩) n cap) is k) := hA
        by_cases hgo : k < 1 + m ∧ k < 30
        · obtain ⟨hg1, hg2⟩ := hgo
          have hg1i : (k : Int) < 1 + (m : Int) := by omega
          have hg2i : (k : Int) < 30 := by omega
          obtain ⟨q, hq⟩ : ∃ q, (job0 gP :: J)[k]? = some q := ⟨_, List.getElem?_eq_getElem (by rw [HJl.out]; exact hg1)⟩
          have hrow := (hA.kp (gJ, cur, 38) (by simp)).1
          have hpr := (hA.kp (gP, #[.int .i64 0, .int .i64 5, .int .i64 1, .int .i64 6], 31) (by simp)).1
          have HOk : Hid (JbOk wB q) := HQ.out wB hA.mine.bel hpr k q hq
          have j0 : wB.cell? ⟨gJ, k * 5, none⟩ = some (.slice q.pa q.P.length q.pc) := by rw [cell_of_row _ _ _ _ _ _ hrow]; exact HCu.out k q hq 0 _ rfl
          have j1 : wB.cell? ⟨gJ, k * 5 + 1, none⟩ = some (.bool q.lets) := by rw [cell_of_row _ _ _ _ _ _ hrow]; exact HCu.out k q hq 1 _ rfl
          have j2 : wB.cell? ⟨gJ, k * 5 + 2, none⟩ = some (.int .i64 q.cut.t) := by rw [cell_of_row _ _ _ _ _ _ hrow]; exact HCu.out k q hq 2 _ rfl
          have j3 : wB.cell? ⟨gJ, k * 5 + 3, none⟩ = some (.slice q.cut.a q.cut.keep.length q.cut.c) := by rw [cell_of_row _ _ _ _ _ _ hrow]; exact HCu.out k q hq 3 _ rfl
          have j4 : wB.cell? ⟨gJ, k * 5 + 4, none⟩ = some (.slice q.ca q.C.length q.cc) := by rw [cell_of_row _ _ _ _ _ _ hrow]; exact HCu.out k q hq 4 _ rfl
          have HQ2 : Hid (∀ wx, Below w.heap.size w wx → wx.heap[gP]? = some (.cells #[.int .i64 0, .int .i64 5, .int .i64 1, .int .i64 6] 31 (0, 0)) → JbOk wx q) := fun wx hx hp => HQ.out wx hx hp k q hq
          have HK0 : Hid (k = 0 → q = job0 gP) := fun e => by subst e; exact (Option.some.inj hq).symm
          clear hA hrow hpr hq
          have HAx : Hid (WcA w nb ((wB.heap.size, #[.slice q.pa q.P.length q.pc, .bool q.lets, .int .i64 q.cut.t, .slice q.cut.a q.cut.keep.length q.cut.c, .slice q.ca q.C.length q.cc], 38) :: [(gP, #[.int .i64 0, .int .i64 5, .int .i64 1, .int .i64 6], 31), (gJ, cur, 38)]) (wB.alloc (.cells #[.slice q.pa q.P.length q.pc, .bool q.lets, .int .i64 q.cut.t, .slice q.cut.a q.cut.keep.length q.cut.c, .slice q.ca q.C.length q.cc] 38)) E lE (.slice (some ⟨g, 0, none⟩) n cap) is k) := (HA.out.on ((Below.refl _ _).alloc (Nat.le_refl _) _)).more (fun r hr => by
            rcases List.mem_cons.1 hr with rfl | hr
            · exact ⟨heap_alloc_new _ _, .inr rfl⟩
            · exact (HA.out.kp.on ((Below.refl _ _).alloc (Nat.le_refl _) _)) r hr)
          go_upto_region 15 with fail
          generalize wB.alloc (.cells #[.slice q.pa q.P.length q.pc, .bool q.lets, .int .i64 q.cut.t, .slice q.cut.a q.cut.keep.length q.cut.c, .slice q.ca q.C.length q.cc] 38) = wX at *
          generalize wB.heap.size = gX at *
          have HOk2 : Hid (∀ wx, Below w.heap.size w wx → Kp wx ((gX, #[.slice q.pa q.P.length q.pc, .bool q.lets, .int .i64 q.cut.t, .slice q.cut.a q.cut.keep.length q.cut.c, .slice q.ca q.C.length q.cc], 38) :: [(gP, #[.int .i64 0, .int .i64 5, .int .i64 1, .int .i64 6], 31), (gJ, cur, 38)]) → JbOk wx q) := fun wx hx hkp => HQ2.out wx hx (hkp (gP, #[.int .i64 0, .int .i64 5, .int .i64 1, .int .i64 6], 31) (by simp)).1
          clear HA HOk j0 j1 j2 j3 j4
          obtain ⟨dE, hdE⟩ : ∃ dE, E.d = dE := ⟨_, rfl⟩
          have HdE : Hid (E.d = dE) := hdE
          rw [hdE]
          clear hdE
          go_upto_region 18 with (go_at_call 6; refine (wc_begin HAx.out q.P dE HdE.out).mono ?_; rintro e wT ⟨T, rfl, hWT, hbT⟩; obtain ⟨t0, ht0⟩ : ∃ t0, T.t = t0 := ⟨_, rfl⟩; have HTt : Hid (T.t = t0) := ht0; rw [ht0]; have HWT : Hid (WcT w nb ((gX, #[.slice q.pa q.P.length q.pc, .bool q.lets, .int .i64 q.cut.t, .slice q.cut.a q.cut.keep.length q.cut.c, .slice q.ca q.C.length q.cc], 38) :: [(gP, #[.int .i64 0, .int .i64 5, .int .i64 1, .int .i64 6], 31), (gJ, cur, 38)]) (.slice (some ⟨g, 0, none⟩) n cap) is k wX.heap.size q.P wT E lE T 0) := hWT; clear hWT hbT ht0)
          clear HAx
          generalize wX.heap.size = nB at *
          obtain ⟨pn, hpn⟩ : ∃ pn, q.P.length = pn := ⟨_, rfl⟩
          have Hpn : Hid (q.P.length = pn) := hpn
          clear hpn
          go_wp2_with fail
          go_loopw [12] (fun i wq => ∃ (kk : Nat) (T2 : Tx), kk ≤ 90 ∧ kk ≤ pn ∧ i = .int .i64 kk ∧ WcT w nb ((gX, #[.slice q.pa q.P.length q.pc, .bool q.lets, .int .i64 q.cut.t, .slice q.cut.a q.cut.keep.length q.cut.c, .slice q.ca q.C.length q.cc], 38) :: [(gP, #[.int .i64 0, .int .i64 5, .int .i64 1, .int .i64 6], 31), (gJ, cur, 38)]) (.slice (some ⟨g, 0, none⟩) n cap) is k nB q.P wq E lE T2 kk ∧ T2.t = t0) (fun i _ => 90 - (intOf i).toNat)
          case atStart => exact ⟨0, T, by omega, by omega, rfl, HWT.out, HTt.out⟩
          case round =>
            clear HWT HTt
            rename World => wq
            obtain ⟨kk, T2, hk90, hkpn, rfl, hW, hTt⟩ := hrel
            have HW : Hid (WcT w nb ((gX, #[.slice q.pa q.P.length q.pc, .bool q.lets, .int .i64 q.cut.t, .slice q.cut.a q.cut.keep.length q.cut.c, .slice q.ca q.C.length q.cc], 38) :: [(gP, #[.int .i64 0, .int .i64 5, .int .i64 1, .int .i64 6], 31), (gJ, cur, 38)]) (.slice (some ⟨g, 0, none⟩) n cap) is k nB q.P wq E lE T2 kk) := hW
            have HTt : Hid (T2.t = t0) := hTt
            have hx0 : wq.cell? ⟨gX, 0, none⟩ = some (.slice q.pa pn q.pc) := by
              rw [cell_of_row _ _ _ _ _ _ (hW.a.kp (gX, #[.slice q.pa q.P.length q.pc, .bool q.lets, .int .i64 q.cut.t, .slice q.cut.a q.cut.keep.length q.cut.c, .slice q.ca q.C.length q.cc], 38) (by simp)).1, ← Hpn.out]; rfl
            clear hW hTt
            by_cases hgo2 : kk < pn ∧ kk < 90
            · as_aux_lemma =>
                obtain ⟨hkp, h90⟩ := hgo2
                have hkpi : (kk : Int) < (pn : Int) := by omega
                have h90i : (kk : Int) < 90 := by omega
                obtain ⟨⟨p1, p2⟩, hp⟩ : ∃ p, q.P[kk]? = some p := ⟨_, List.getElem?_eq_getElem (by rw [Hpn.out]; exact hkp)⟩
                obtain ⟨pb, poff, hpa, _⟩ : ∃ pb poff, q.pa = some ⟨pb, poff, none⟩ ∧ True := by
                  rcases (HOk2.out wq HW.out.a.mine.bel HW.out.a.kp).puts.at_ with e | ⟨b, off, e, _⟩
                  · rw [e] at hp; cases hp
                  · exact ⟨b, off, e, trivial⟩
                have HC : Hid (∀ wx, Below w.heap.size w wx → Kp wx ((gX, #[.slice q.pa q.P.length q.pc, .bool q.lets, .int .i64 q.cut.t, .slice q.cut.a q.cut.keep.length q.cut.c, .slice q.ca q.C.length q.cc], 38) :: [(gP, #[.int .i64 0, .int .i64 5, .int .i64 1, .int .i64 6], 31), (gJ, cur, 38)]) → wx.cell? ⟨gX, 0, none⟩ = some (.slice (some ⟨pb, poff, none⟩) pn q.pc) ∧ wx.cell? ⟨pb, poff + kk * 2, none⟩ = some (.int .i64 p1) ∧ wx.cell? ⟨pb, poff + kk * 2 + 1, none⟩ = some (.int .i64 p2)) := fun wx hx hkp => by
                  refine ⟨?_, ?_⟩
                  · rw [cell_of_row _ _ _ _ _ _ (hkp (gX, #[.slice q.pa q.P.length q.pc, .bool q.lets, .int .i64 q.cut.t, .slice q.cut.a q.cut.keep.length q.cut.c, .slice q.ca q.C.length q.cc], 38) (by simp)).1, ← hpa, ← Hpn.out]; rfl
                  · rcases (HOk2.out wx hx hkp).puts.at_ with e | ⟨b, off, e, hc⟩
                    · rw [e] at hp; cases hp
                    · rw [hpa] at e
                      cases e
                      exact hc kk _ hp
                rw [hpa] at hx0
                obtain ⟨ix, hix⟩ : ∃ ix : Nat, (ix : Int) = p1 % (n : Int) := ⟨(p1 % (n : Int)).toNat, by have := Int.emod_nonneg p1 (b := (n : Int)) (by omega); omega⟩
                have hixn : ix < n := by have := Int.emod_lt_of_pos p1 (b := (n : Int)) (by omega); omega
                obtain ⟨vv, hvv0⟩ : ∃ vv : Nat, p2 % 1000 = (vv : Int) := ⟨(p2 % 1000).toNat, by omega⟩
                have hvv : vv < 1000 := by omega
                have HM1 : Hid (∀ wx, Calls Tryz.prog 4 #[.int .i64 p1, .int .i64 (n : Int)] wx fun e w' => e = .returned (.int .i64 (ix : Int)) ∧ wx = w') := fun wx => by
                  have := ymod_any wx p1 n (by omega) (by omega)
                  rw [← hix] at this
                  exact this
                have HM2 : Hid (∀ wx, Calls Tryz.prog 4 #[.int .i64 p2, .int .i64 1000] wx fun e w' => e = .returned (.int .i64 (vv : Int)) ∧ wx = w') := fun wx => by
                  have := ymod_any wx p2 1000 (by omega) (by omega)
                  rw [show ((1000 : Nat) : Int) = 1000 from rfl, hvv0] at this
                  exact this
                have HIx : Hid ((ix : Int) = (p1, p2).1 % ((nb - 98 : Nat) : Int)) := by rw [HN.out]; exact hix
                have HVv : Hid (vv = ((p1, p2).2 % 1000).toNat) := by show vv = (p2 % 1000).toNat; rw [hvv0]; rfl
                have Hp : Hid (q.P[kk]? = some (p1, p2)) := hp
                have HDr : Hid (Below wq.heap.size wq wq.drew) := (Below.refl _ wq).drew
                have HC0 : Hid (wq.drew.cell? ⟨gX, 0, none⟩ = some (.slice (some ⟨pb, poff, none⟩) pn q.pc) ∧ wq.drew.cell? ⟨pb, poff + kk * 2, none⟩ = some (.int .i64 p1) ∧ wq.drew.cell? ⟨pb, poff + kk * 2 + 1, none⟩ = some (.int .i64 p2)) := HC.out _ (HW.out.on HDr.out).a.mine.bel (HW.out.on HDr.out).a.kp
                have hwr : IntKind.i64.wrap (98 + (ix : Int)) = 98 + (ix : Int) := by rw [IntKind.wrap_i64]; omega
                clear hix hvv0 hp hpa
                go_upto_region 21 with fail
                refine wp_region_held_drew (S := (fun wx => wx.cell? ⟨gX, 0, none⟩ = some (.slice (some ⟨pb, poff, none⟩) pn q.pc) ∧ wx.cell? ⟨pb, poff + kk * 2, none⟩ = some (.int .i64 p1) ∧ wx.cell? ⟨pb, poff + kk * 2 + 1, none⟩ = some (.int .i64 p2))) (by as_aux_lemma => kernel_rfl) ?_ (fun hHeld => ?_)
                · (try dsimp only); first | assumption | exact HC0.out | exact hS7 | exact hS8
                refine wpAnyH_take (i := 0) (v := ?_) rfl (by as_aux_lemma => kernel_rfl) (by as_aux_lemma => kernel_rfl) (by as_aux_lemma => kernel_rfl) (fun _ _ _ h => h) (Or.inl ⟨by as_aux_lemma => kernel_rfl, ?_⟩) (by assumption) ?_
                rotate_left
                focus (intro w hSw; (try dsimp only at hSw); obtain ⟨hS1, hS2, hS3⟩ := hSw; go_simp; (try (with_reducible rfl)); done)
                try go_simp
                refine wpAnyH_take (i := 1) (v := ?_) rfl (by as_aux_lemma => kernel_rfl) (by as_aux_lemma => kernel_rfl) (by as_aux_lemma => kernel_rfl) (fun _ _ _ h => h) (Or.inl ⟨by as_aux_lemma => kernel_rfl, ?_⟩) (by assumption) ?_
                rotate_left
                focus (intro w hSw; (try dsimp only at hSw); obtain ⟨hS1, hS2, hS3⟩ := hSw; go_simp; (try (with_reducible rfl)); done)
                try go_simp
                refine wpAnyH_take (i := 2) (v := ?_) rfl (by as_aux_lemma => kernel_rfl) (by as_aux_lemma => kernel_rfl) (by as_aux_lemma => kernel_rfl) (fun _ _ _ h => h) (Or.inl ⟨by as_aux_lemma => kernel_rfl, ?_⟩) (by assumption) ?_
                rotate_left
                focus (intro w hSw; (try dsimp only at hSw); obtain ⟨hS1, hS2, hS3⟩ := hSw; go_simp; (try (with_reducible rfl)); done)
                try go_simp
                refine wpAnyH_take (i := 3) (v := ?_) rfl (by as_aux_lemma => kernel_rfl) (by as_aux_lemma => kernel_rfl) (by as_aux_lemma => kernel_rfl) (fun _ _ _ h => h) (Or.inl ⟨by as_aux_lemma => kernel_rfl, ?_⟩) (by assumption) ?_
                rotate_left
                focus (intro w hSw; (try dsimp only at hSw); obtain ⟨hS1, hS2, hS3⟩ := hSw; go_simp; (try (with_reducible rfl)); done)
                try go_simp
                refine wpAnyH_take (i := 4) (v := ?_) rfl (by as_aux_lemma => kernel_rfl) (by as_aux_lemma => kernel_rfl) (by as_aux_lemma => kernel_rfl) (fun _ _ _ h => h) (Or.inl ⟨by as_aux_lemma => kernel_rfl, ?_⟩) (by assumption) ?_
                rotate_left
                focus (intro w hSw; (try dsimp only at hSw); obtain ⟨hS1, hS2, hS3⟩ := hSw; go_simp; (try (with_reducible rfl)); done)
                try go_simp
                refine wpAnyH_take (i := 5) (v := ?_) rfl (by as_aux_lemma => kernel_rfl) (by as_aux_lemma => kernel_rfl) (by as_aux_lemma => kernel_rfl) (fun _ _ _ h => h) (Or.inl ⟨by as_aux_lemma => kernel_rfl, ?_⟩) (by assumption) ?_
                rotate_left
                focus (intro w hSw; (try dsimp only at hSw); obtain ⟨hS1, hS2, hS3⟩ := hSw; go_simp; (try (with_reducible rfl)); done)
                try go_simp
                refine wpAnyH_take (i := 6) (v := ?_) rfl (by as_aux_lemma => kernel_rfl) (by as_aux_lemma => kernel_rfl) (by as_aux_lemma => kernel_rfl) (fun _ _ _ h => h) (Or.inl ⟨by as_aux_lemma => kernel_rfl, ?_⟩) (by assumption) ?_
                rotate_left
                focus (intro w hSw; (try dsimp only at hSw); obtain ⟨hS1, hS2, hS3⟩ := hSw; go_simp; (try (with_reducible rfl)); done)
                try go_simp
                refine wpAnyH_take (i := 7) (v := ?_) rfl (by as_aux_lemma => kernel_rfl) (by as_aux_lemma => kernel_rfl) (by as_aux_lemma => kernel_rfl) (fun _ _ _ h => h) (Or.inl ⟨by as_aux_lemma => kernel_rfl, ?_⟩) (by assumption) ?_
                rotate_left
                focus (intro w hSw; (try dsimp only at hSw); obtain ⟨hS1, hS2, hS3⟩ := hSw; go_simp; (try (with_reducible rfl)); done)
                try go_simp
                refine wpAnyH_take (i := 8) (v := ?_) rfl (by as_aux_lemma => kernel_rfl) (by as_aux_lemma => kernel_rfl) (by as_aux_lemma => kernel_rfl) (fun _ _ _ h => h) (Or.inl ⟨by as_aux_lemma => kernel_rfl, ?_⟩) (by assumption) ?_
                rotate_left
                focus (intro w hSw; (try dsimp only at hSw); obtain ⟨hS1, hS2, hS3⟩ := hSw; go_simp; (try (with_reducible rfl)); done)
                try go_simp
                refine wpAnyH_take (i := 11) (v := ?_) rfl (by as_aux_lemma => kernel_rfl) (by as_aux_lemma => kernel_rfl) (by as_aux_lemma => kernel_rfl) (fun _ _ _ h => h) (Or.inl ⟨by as_aux_lemma => kernel_rfl, ?_⟩) (by assumption) ?_
                rotate_left
                focus (intro w hSw; (try dsimp only at hSw); obtain ⟨hS1, hS2, hS3⟩ := hSw; go_simp; (try (with_reducible rfl)); done)
                try go_simp
                refine wpAnyH_take (i := 12) (v := ?_) rfl (by as_aux_lemma => kernel_rfl) (by as_aux_lemma => kernel_rfl) (by as_aux_lemma => kernel_rfl) (fun _ _ _ h => h) (Or.inl ⟨by as_aux_lemma => kernel_rfl, ?_⟩) (by assumption) ?_
                rotate_left
                focus (intro w hSw; (try dsimp only at hSw); obtain ⟨hS1, hS2, hS3⟩ := hSw; go_simp; (try (with_reducible rfl)); done)
                try go_simp
                refine wpAnyH_take (i := 13) (v := ?_) rfl (by as_aux_lemma => kernel_rfl) (by as_aux_lemma => kernel_rfl) (by as_aux_lemma => kernel_rfl) (fun _ _ _ h => h) (Or.inl ⟨by as_aux_lemma => kernel_rfl, ?_⟩) (by assumption) ?_
                rotate_left
                focus (intro w hSw; (try dsimp only at hSw); obtain ⟨hS1, hS2, hS3⟩ := hSw; go_simp; (try (with_reducible rfl)); done)
                try go_simp
                refine wpAnyH_take (i := 14) (v := ?_) rfl (by as_aux_lemma => kernel_rfl) (by as_aux_lemma => kernel_rfl) (by as_aux_lemma => kernel_rfl) (fun _ _ _ h => h) (Or.inl ⟨by as_aux_lemma => kernel_rfl, ?_⟩) (by assumption) ?_
                rotate_left
                focus (intro w hSw; (try dsimp only at hSw); obtain ⟨hS1, hS2, hS3⟩ := hSw; go_simp; (try (with_reducible rfl)); done)
                try go_simp
                refine wpAnyH_take (i := 15) (v := ?_) rfl (by as_aux_lemma => kernel_rfl) (by as_aux_lemma => kernel_rfl) (by as_aux_lemma => kernel_rfl) (fun _ _ _ h => h) (Or.inl ⟨by as_aux_lemma => kernel_rfl, ?_⟩) (by assumption) ?_
                rotate_left
                focus (intro w hSw; (try dsimp only at hSw); obtain ⟨hS1, hS2, hS3⟩ := hSw; go_simp; (try (with_reducible rfl)); done)
                try go_simp
                refine wpAnyH_take (i := 16) (v := ?_) rfl (by as_aux_lemma => kernel_rfl) (by as_aux_lemma => kernel_rfl) (by as_aux_lemma => kernel_rfl) (fun _ _ _ h => h) (Or.inl ⟨by as_aux_lemma => kernel_rfl, ?_⟩) (by assumption) ?_
                rotate_left
                focus (intro w hSw; (try dsimp only at hSw); obtain ⟨hS1, hS2, hS3⟩ := hSw; go_simp; (try (with_reducible rfl)); done)
                try go_simp
                refine wpAnyH_ready (rs := [9]) (by as_aux_lemma => kernel_rfl) (by simp) ?_
                refine AllReadyH.cons rfl (fun K hK => ?_) ?_
                · (go_simp; go_at_call 4; refine (HM1.out _).mono ?_; rintro e w' ⟨rfl, rfl⟩; go_simp)
                  refine hK.out _ _ ?_ (fun hHeld => ?_)
                  · (try dsimp only); first | assumption | exact HC0.out | exact hS7 | exact hS8
                  clear hK K
                  refine wpAnyH_take (i := 10) (v := ?_) rfl (by as_aux_lemma => kernel_rfl) (by as_aux_lemma => kernel_rfl) (by as_aux_lemma => kernel_rfl) (fun _ _ _ h => h) (Or.inl ⟨by as_aux_lemma => kernel_rfl, ?_⟩) (by assumption) ?_
                  rotate_left
                  focus (intro w hSw; (try dsimp only at hSw); obtain ⟨hS1, hS2, hS3⟩ := hSw; go_simp; (try (with_reducible rfl)); done)
                  try go_simp
                  refine wpAnyH_ready (rs := [17]) (by as_aux_lemma => kernel_rfl) (by simp) ?_
                  refine AllReadyH.cons rfl (fun K hK => ?_) ?_
                  · (go_simp; go_at_call 4; refine (HM2.out _).mono ?_; rintro e w' ⟨rfl, rfl⟩; go_simp)
                    refine hK.out _ _ ?_ (fun hHeld => ?_)
                    · (try dsimp only); first | assumption | exact HC0.out | exact hS7 | exact hS8
                    clear hK K
                    refine wpAnyH_ready (rs := [18]) (by as_aux_lemma => kernel_rfl) (by simp) ?_
                    refine AllReadyH.cons rfl (fun K hK => ?_) ?_
                    · (go_simp; go_at_call 8; refine (filled_any _ vv hvv).mono ?_; rintro e w7 ⟨rfl, ho, hb⟩; have H7 : Hid (WcT w nb ((gX, #[.slice q.pa q.P.length q.pc, .bool q.lets, .int .i64 q.cut.t, .slice q.cut.a q.cut.keep.length q.cut.c, .slice q.ca q.C.length q.cc], 38) :: [(gP, #[.int .i64 0, .int .i64 5, .int .i64 1, .int .i64 6], 31), (gJ, cur, 38)]) (.slice (some ⟨g, 0, none⟩) n cap) is k nB q.P w7 E lE T2 kk ∧ OwnB w7 wq.drew.heap.size 512 (fil vv)) := ⟨(HW.out.on HDr.out).on hb, ho⟩; have hS7 := HC.out w7 H7.out.1.a.mine.bel H7.out.1.a.kp; clear ho hb; go_simp)
                      refine hK.out _ _ ?_ (fun hHeld => ?_)
                      · (try dsimp only); first | assumption | exact HC0.out | exact hS7 | exact hS8
                      clear hK K
                      refine wpAnyH_ready (rs := [19]) (by as_aux_lemma => kernel_rfl) (by simp) ?_
                      refine AllReadyH.cons rfl (fun K hK => ?_) ?_
                      · (go_simp; go_at_call 7; refine (wc_write H7.out.1 (by omega) h90 (p1, p2) Hp.out _ 512 ix HIx.out (HVv.out ▸ H7.out.2) t0 HTt.out).mono ?_; rintro e w8 ⟨rfl, T3, hw8, ht8⟩; have H8 : Hid (WcT w nb ((gX, #[.slice q.pa q.P.length q.pc, .bool q.lets, .int .i64 q.cut.t, .slice q.cut.a q.cut.keep.length q.cut.c, .slice q.ca q.C.length q.cc], 38) :: [(gP, #[.int .i64 0, .int .i64 5, .int .i64 1, .int .i64 6], 31), (gJ, cur, 38)]) (.slice (some ⟨g, 0, none⟩) n cap) is k nB q.P w8 E lE T3 (kk + 1) ∧ T3.t = t0) := ⟨hw8, ht8⟩; have hS8 := HC.out w8 hw8.a.mine.bel hw8.a.kp; clear hw8 ht8; go_simp)
                        refine hK.out _ _ ?_ (fun hHeld => ?_)
                        · (try dsimp only); first | assumption | exact HC0.out | exact hS7 | exact hS8
                        clear hK K
                        refine wpAnyH_take (i := 20) (v := ?_) rfl (by as_aux_lemma => kernel_rfl) (by as_aux_lemma => kernel_rfl) (by as_aux_lemma => kernel_rfl) (fun _ _ _ h => h) (Or.inl ⟨by as_aux_lemma => kernel_rfl, ?_⟩) (by assumption) ?_
                        rotate_left
                        focus (intro w hSw; (try dsimp only at hSw); obtain ⟨hS1, hS2, hS3⟩ := hSw; go_simp; (try (with_reducible rfl)); done)
                        try go_simp
                        refine wpAnyH_done (by as_aux_lemma => kernel_rfl) ?_ _
                        go_wp2
                        exact ⟨⟨kk + 1, T3, by omega, by omega, by go_num, H8.out.1, H8.out.2⟩, by simp [intOf]; omega⟩
                      exact AllReadyH.nil
                    exact AllReadyH.nil
                  exact AllReadyH.nil
                exact AllReadyH.nil
            · have Hend : Hid (q.P.length ≤ kk ∨ kk = 90) := by show q.P.length ≤ kk ∨ kk = 90; rw [Hpn.out]; omega
              have HTk : Hid (q.P.take kk = q.P.take 90) := by
                rcases Hend.out with h | h
                · show _ = _
                  rw [List.take_of_length_le h, List.take_of_length_le (by omega)]
                · show _ = _
                  rw [h]
              have hK : ((kk : Int) < (pn : Int) ∧ ¬ (kk : Int) < 90) ∨ ¬ (kk : Int) < (pn : Int) := by omega
              clear hgo2
              have HPt : Hid (Calls Tryz.prog 9 #[(.slice (some ⟨g, 0, none⟩) n cap), .slice q.pa pn q.pc, .int .i64 90] wq fun e w' => ∃ g5 c5, e = .returned (.slice (some ⟨g5, 0, none⟩) n c5) ∧ WcT w nb ((gX, #[.slice q.pa q.P.length q.pc, .bool q.lets, .int .i64 q.cut.t, .slice q.cut.a q.cut.keep.length q.cut.c, .slice q.ca q.C.length q.cc], 38) :: [(gP, #[.int .i64 0, .int .i64 5, .int .i64 1, .int .i64 6], 31), (gJ, cur, 38)]) (.slice (some ⟨g, 0, none⟩) n cap) is k nB q.P w' E lE T2 kk ∧ Nt w' E T2 (.slice (some ⟨g5, 0, none⟩) n c5) (putL is (q.P.take 90))) := by
                refine (stput_any wq (some ⟨g, 0, none⟩) n cap is HW.out.a.ints (by rw [HW.out.a.il]; exact HN.out) (by omega) (by omega) q.pa pn q.pc q.P (HOk2.out wq HW.out.a.mine.bel HW.out.a.kp).puts Hpn.out).mono ?_
                rintro e w5 ⟨g5, c5, rfl, hg5, hI5, hb5⟩
                refine ⟨g5, c5, rfl, HW.out.on hb5, hI5, fun y hy => ?_⟩
                have ey : g5 = y := Option.some.inj hy
                subst ey
                refine ⟨fun e => ?_, fun e => ?_, ?_⟩
                · have := HW.out.a.mine.disk.allLt e; omega
                · have := HW.out.ses.tx.lt e; omega
                · obtain ⟨g6, e6, hc6⟩ := hI5.cellAt 0 (by rw [putL_length, HW.out.a.il, HN.out]; omega)
                  cases e6
                  exact block_lt_of_cell hc6
              rcases hK with ⟨k1, k2⟩ | k1
              all_goals
                as_aux_lemma =>
                  go_upto_region 24 with (go_at_call 9; refine HPt.out.mono ?_; rintro e w5 ⟨g5, c5, rfl, hw5, hn5⟩; have H5 : Hid (WcT w nb ((gX, #[.slice q.pa q.P.length q.pc, .bool q.lets, .int .i64 q.cut.t, .slice q.cut.a q.cut.keep.length q.cut.c, .slice q.ca q.C.length q.cc], 38) :: [(gP, #[.int .i64 0, .int .i64 5, .int .i64 1, .int .i64 6], 31), (gJ, cur, 38)]) (.slice (some ⟨g, 0, none⟩) n cap) is k nB q.P w5 E lE T2 kk ∧ Nt w5 E T2 (.slice (some ⟨g5, 0, none⟩) n c5) (putL is (q.P.take 90))) := ⟨hw5, hn5⟩; clear hw5 hn5)
                  clear HPt HW
                  go_wp2_with fail
                  go_loopw [14] (fun i wz => ∃ j : Nat, j ≤ n ∧ i = .int .i64 j ∧ WcT w nb ((gX, #[.slice q.pa q.P.length q.pc, .bool q.lets, .int .i64 q.cut.t, .slice q.cut.a q.cut.keep.length q.cut.c, .slice q.ca q.C.length q.cc], 38) :: [(gP, #[.int .i64 0, .int .i64 5, .int .i64 1, .int .i64 6], 31), (gJ, cur, 38)]) (.slice (some ⟨g, 0, none⟩) n cap) is k nB q.P wz E lE T2 kk ∧ Nt wz E T2 (.slice (some ⟨g5, 0, none⟩) n c5) (putL is (q.P.take 90))) (fun i _ => n - (intOf i).toNat)
                  case atStart => exact ⟨0, by omega, rfl, H5.out.1, H5.out.2⟩
                  case round =>
                    clear H5
                    rename World => wz
                    obtain ⟨j, hj, rfl, hW, hN2⟩ := hrel
                    have HW : Hid (WcT w nb ((gX, #[.slice q.pa q.P.length q.pc, .bool q.lets, .int .i64 q.cut.t, .slice q.cut.a q.cut.keep.length q.cut.c, .slice q.ca q.C.length q.cc], 38) :: [(gP, #[.int .i64 0, .int .i64 5, .int .i64 1, .int .i64 6], 31), (gJ, cur, 38)]) (.slice (some ⟨g, 0, none⟩) n cap) is k nB q.P wz E lE T2 kk ∧ Nt wz E T2 (.slice (some ⟨g5, 0, none⟩) n c5) (putL is (q.P.take 90))) := ⟨hW, hN2⟩
                    by_cases hjn : j < n
                    · have hjni : (j : Int) < (n : Int) := by omega
                      obtain ⟨nv, hnv⟩ : ∃ nv, nth (putL is (q.P.take 90)) j = nv := ⟨_, rfl⟩
                      have hnb2 := putL_bd (q.P.take 90) is hW.a.ir j
                      rw [hnv] at hnb2
                      have HNv : Hid (nth (putL is (q.P.take 90)) j = nv) := hnv
                      have HIc : Hid (∀ wx, Below wz.heap.size wz wx → wx.cell? ⟨g5, j, none⟩ = some (.int .i64 nv)) := fun wx hb => by
                        obtain ⟨g6, e6, hc6⟩ := (hN2.ints.on hb).cellAt j (by rw [putL_length, hW.a.il, HN.out]; exact hjn)
                        cases e6
                        rw [← hnv]; exact hc6
                      have HRd : Hid (Calls Tryz.prog 10 #[.pointer (some ⟨t0, 0, none⟩), .int .i64 (98 + (j : Int))] wz fun e w' => ∃ g cap, e = .returned (.tuple #[.slice (some ⟨g, 0, none⟩) 512 cap, .int .i64 0]) ∧ OwnB w' g cap (wantB nv) ∧ Below wz.heap.size wz w') := by
                        have := wc_read hW j (by rw [HN.out]; exact hjn) t0 HTt.out
                        rw [HTk.out, hnv] at this
                        exact this
                      obtain ⟨o5, E5, ho5⟩ := make512
                      clear hW hN2 hnv
                      by_cases hn0 : 0 ≤ nv
                      · as_aux_lemma =>
                          obtain ⟨vn, rfl⟩ : ∃ vn : Nat, nv = (vn : Int) := ⟨nv.toNat, by omega⟩
                          have HWb : Hid (wantB (vn : Int) = fil vn) := by show _ = _; unfold wantB; rw [if_pos (by omega), Int.toNat_natCast]
                          go_wp2_with (first
                            | (go_at_call 10; refine HRd.out.mono ?_; rintro e w6 ⟨g6, c6, rfl, ho, hb⟩; rw [HWb.out] at ho; have H6 : Hid (OwnB w6 g6 c6 (fil vn) ∧ Below wz.heap.size wz w6 ∧ Below wz.heap.size wz (w6.alloc o5)) := ⟨ho, hb, hb.alloc hb.size _⟩; have i6 := HIc.out _ H6.out.2.2; clear ho hb)
                            | (go_at_call 8; refine (filled_any _ vn (by omega)).mono ?_; rintro e w7 ⟨rfl, ho, hb⟩; rw [World.size_alloc] at ho; have H7 : Hid (OwnB w7 (w6.heap.size + 1) 512 (fil vn) ∧ OwnB w7 g6 c6 (fil vn) ∧ Below wz.heap.size wz w7) := ⟨ho, (H6.out.1.on ((Below.refl _ _).alloc (Nat.le_refl _) _)).on hb, H6.out.2.2.trans (hb.mono H6.out.2.2.size)⟩; have HSm : Hid (Calls Tryz.prog 11 #[.slice (some ⟨g6, 0, none⟩) 512 c6, .slice (some ⟨w6.heap.size + 1, 0, none⟩) 512 512] w7 fun e w' => e = .returned (.bool true) ∧ w7 = w') := (same_any _ _ _ 512 _ _ (fil vn) (fil vn) H7.out.2.1.bytes H7.out.1.bytes (fil_length _) (fil_length _) true (decide_eq_true rfl).symm); clear ho hb)
                            | (go_at_call 11; refine HSm.out.mono ?_; rintro e w' ⟨rfl, rfl⟩))
                          exact ⟨⟨j + 1, by omega, by go_num, HW.out.1.on H7.out.2.2, HW.out.2.on H7.out.2.2⟩, by simp [intOf]; omega⟩
                      · as_aux_lemma =>
                          have HWb : Hid (wantB nv = zn 512) := by show _ = _; unfold wantB; rw [if_neg hn0]; rfl
                          go_wp2_with (first
                            | (go_at_call 10; refine HRd.out.mono ?_; rintro e w6 ⟨g6, c6, rfl, ho, hb⟩; rw [HWb.out] at ho; have H6 : Hid (OwnB (w6.alloc o5) g6 c6 (zn 512) ∧ OwnB (w6.alloc o5) w6.heap.size 512 (zn 512) ∧ Below wz.heap.size wz (w6.alloc o5)) := ⟨ho.on ((Below.refl _ _).alloc (Nat.le_refl _) _), ho5 w6, hb.alloc hb.size _⟩; have i6 := HIc.out _ H6.out.2.2; clear ho hb)
                            | (go_at_call 11; refine (same_any _ _ _ 512 _ _ (zn 512) (zn 512) H6.out.1.bytes H6.out.2.1.bytes (zn_length _) (zn_length _) true (decide_eq_true rfl).symm).mono ?_; rintro e w' ⟨rfl, rfl⟩))
                          exact ⟨⟨j + 1, by omega, by go_num, HW.out.1.on H6.out.2.2, HW.out.2.on H6.out.2.2⟩, by simp [intOf]; omega⟩
                    · have hjni : ¬ (j : Int) < (n : Int) := by omega
                      have hkp := hW.a.kp (gX, #[.slice q.pa q.P.length q.pc, .bool q.lets, .int .i64 q.cut.t, .slice q.cut.a q.cut.keep.length q.cut.c, .slice q.ca q.C.length q.cc], 38) (.head _)
                      have hcX := fun i => cell_of_row _ _ i _ _ _ hkp.1
                      have hX1 : wz.cell? ⟨gX, 1, none⟩ = some (.bool q.lets) := hcX 1
                      have hX2 : wz.cell? ⟨gX, 2, none⟩ = some (.int .i64 q.cut.t) := hcX 2
                      have hX3 : wz.cell? ⟨gX, 3, none⟩ = some (.slice q.cut.a q.cut.keep.length q.cut.c) := hcX 3
                      have HNl : Hid ((putL is (q.P.take 90)).length = nb - 98) := by show _ = _; rw [putL_length]; exact hW.a.il
                      have HNr : Hid (∀ i, -1 ≤ nth (putL is (q.P.take 90)) i ∧ nth (putL is (q.P.take 90)) i < 1000) := putL_bd (q.P.take 90) is hW.a.ir
                      have HIl : Hid (is.length = nb - 98) := hW.a.il
                      have HIr : Hid (∀ i, -1 ≤ nth is i ∧ nth is i < 1000) := hW.a.ir
                      have HOk3 : Hid (JbOk wz q) := HOk2.out wz hW.a.mine.bel hW.a.kp
                      clear hkp hcX hW hN2
                      rcases hle : q.lets with _ | _
                      · rw [hle] at hX1
                        by_cases hk0 : k = 0
                        · as_aux_lemma =>
                            have hk0i : ¬ ((0 : Int) < (k : Int)) := by omega
                            have HCo : Hid (Calls Tryz.prog 16 #[.pointer (some ⟨t0, 0, none⟩)] wz fun e w' => e = .returned (.int .i64 0) ∧ ∃ E', WcE w nb ((gX, #[.slice q.pa q.P.length q.pc, .bool q.lets, .int .i64 q.cut.t, .slice q.cut.a q.cut.keep.length q.cut.c, .slice q.ca q.C.length q.cc], 38) :: [(gP, #[.int .i64 0, .int .i64 5, .int .i64 1, .int .i64 6], 31), (gJ, cur, 38)]) (.slice (some ⟨g, 0, none⟩) n cap) (.slice (some ⟨g5, 0, none⟩) n c5) is (putL is (q.P.take 90)) k w' E' dE false) := by
                              have hr := wc_noarm HW.out.1 Hend.out hk90 HW.out.2 HdE.out
                              exact wc_com hr (HT.out.on hr.ses.dk.bel) (by omega) (by omega) t0 HTt.out false (by simp [fallsB])
                            clear hX2 hX3
                            go_wp2_with (first
                              | (go_at_call 16; refine HCo.out.mono ?_; rintro e w8 ⟨rfl, E8, h8⟩; have H8 : Hid (WcE w nb ((gX, #[.slice q.pa q.P.length q.pc, .bool q.lets, .int .i64 q.cut.t, .slice q.cut.a q.cut.keep.length q.cut.c, .slice q.ca q.C.length q.cc], 38) :: [(gP, #[.int .i64 0, .int .i64 5, .int .i64 1, .int .i64 6], 31), (gJ, cur, 38)]) (.slice (some ⟨g, 0, none⟩) n cap) (.slice (some ⟨g5, 0, none⟩) n c5) is (putL is (q.P.take 90)) k w8 E8 dE false) := h8; clear h8)
                              | (go_at_call 17; refine (wcE_down H8.out).mono ?_; rintro e w' ⟨rfl, rfl⟩)
                              | (go_at_call 15; have hh := H8.out; clear hh; refine (wc_disarm H8.out HNl.out HNr.out).mono ?_; rintro e w9 ⟨rfl, D9, l9, hd9, hA9⟩; have H9 : Hid (D9.d = dE ∧ WcA w nb ((gX, #[.slice q.pa q.P.length q.pc, .bool q.lets, .int .i64 q.cut.t, .slice q.cut.a q.cut.keep.length q.cut.c, .slice q.ca q.C.length q.cc], 38) :: [(gP, #[.int .i64 0, .int .i64 5, .int .i64 1, .int .i64 6], 31), (gJ, cur, 38)]) w9 D9 l9 (.slice (some ⟨g5, 0, none⟩) n c5) (putL is (q.P.take 90)) (k + 1)) := ⟨hd9, hA9⟩; clear hd9 hA9)
                              | (go_at_call 14; refine (wcA_holds H9.out.2 HN.out (by omega) H9.out.1).mono ?_; rintro e w10 ⟨rfl, hb10⟩; have H10 : Hid (Below w9.heap.size w9 w10) := hb10; clear hb10)
                              | (go_at_call 18; refine (wcA_pending (H9.out.2.on H10.out) H9.out.1).mono ?_; rintro e w11 ⟨g11, c11, rfl, hb11⟩; have H11 : Hid (Below w10.heap.size w10 w11) := hb11; clear hb11))
                            exact ⟨⟨k + 1, D9, l9, (putL is (q.P.take 90)), g5, c5, by omega, by omega, by go_num, by rw [H9.out.1], rfl, ((H9.out.2.on H10.out).on H11.out).tail⟩, by simp [intOf]; omega⟩
                        · have hk0i : (0 : Int) < (k : Int) := by omega
                          have hk0n : ((k : Int) == 0) = false := beq_eq_false_iff_ne.2 (by omega)
                          have HAr : Hid (Calls Tryz.prog 15 #[.pointer (some ⟨dE, 0, none⟩), .agg #[.int .i64 q.cut.t, .slice q.cut.a q.cut.keep.length q.cut.c]] wz fun e w' => e = .returned (.int .i64 0) ∧ ∃ A, WcR w nb ((gX, #[.slice q.pa q.P.length q.pc, .bool q.lets, .int .i64 q.cut.t, .slice q.cut.a q.cut.keep.length q.cut.c, .slice q.ca q.C.length q.cc], 38) :: [(gP, #[.int .i64 0, .int .i64 5, .int .i64 1, .int .i64 6], 31), (gJ, cur, 38)]) (.slice (some ⟨g, 0, none⟩) n cap) (.slice (some ⟨g5, 0, none⟩) n c5) is (putL is (q.P.take 90)) k w' A lE T2 dE q.cut.t q.cut.keep E.abs) := wc_arm HW.out.1 Hend.out hk90 HW.out.2 HdE.out q.cut HOk3.out.cut
                          go_upto_region 39 with (go_at_call 15; refine HAr.out.mono ?_; rintro e w6 ⟨rfl, A6, h6⟩; have H6 : Hid (WcR w nb ((gX, #[.slice q.pa q.P.length q.pc, .bool q.lets, .int .i64 q.cut.t, .slice q.cut.a q.cut.keep.length q.cut.c, .slice q.ca q.C.length q.cc], 38) :: [(gP, #[.int .i64 0, .int .i64 5, .int .i64 1, .int .i64 6], 31), (gJ, cur, 38)]) (.slice (some ⟨g, 0, none⟩) n cap) (.slice (some ⟨g5, 0, none⟩) n c5) is (putL is (q.P.take 90)) k w6 A6 lE T2 dE q.cut.t q.cut.keep E.abs) := h6; clear h6)
                          clear HAr hX1 hX2 hX3 HW HOk3
                          obtain ⟨fb, hfb⟩ : ∃ fb, fallsB (lst T2.c nb).length q.cut.t = fb := ⟨_, rfl⟩
                          have HCo : Hid (Calls Tryz.prog 16 #[.pointer (some ⟨t0, 0, none⟩)] w6 fun e w' => e = .returned (.int .i64 (if fb then 30 else 0)) ∧ ∃ E', WcE w nb ((gX, #[.slice q.pa q.P.length q.pc, .bool q.lets, .int .i64 q.cut.t, .slice q.cut.a q.cut.keep.length q.cut.c, .slice q.ca q.C.length q.cc], 38) :: [(gP, #[.int .i64 0, .int .i64 5, .int .i64 1, .int .i64 6], 31), (gJ, cur, 38)]) (.slice (some ⟨g, 0, none⟩) n cap) (.slice (some ⟨g5, 0, none⟩) n c5) is (putL is (q.P.take 90)) k w' E' dE fb) := wc_com H6.out (HT.out.on H6.out.ses.dk.bel) (by omega) (by omega) t0 HTt.out fb hfb
                          clear hfb H6
                          cases fb with
                          | false =>
                            as_aux_lemma =>
                              go_wp2_with (first
                                | (go_at_call 16; refine HCo.out.mono ?_; rintro e w8 ⟨rfl, E8, h8⟩; have H8 : Hid (WcE w nb ((gX, #[.slice q.pa q.P.length q.pc, .bool q.lets, .int .i64 q.cut.t, .slice q.cut.a q.cut.keep.length q.cut.c, .slice q.ca q.C.length q.cc], 38) :: [(gP, #[.int .i64 0, .int .i64 5, .int .i64 1, .int .i64 6], 31), (gJ, cur, 38)]) (.slice (some ⟨g, 0, none⟩) n cap) (.slice (some ⟨g5, 0, none⟩) n c5) is (putL is (q.P.take 90)) k w8 E8 dE false) := h8; clear h8)
                                | (go_at_call 17; refine (wcE_down H8.out).mono ?_; rintro e w' ⟨rfl, rfl⟩)
                                | (go_at_call 15; have hh := H8.out; clear hh; refine (wc_disarm H8.out HNl.out HNr.out).mono ?_; rintro e w9 ⟨rfl, D9, l9, hd9, hA9⟩; have H9 : Hid (D9.d = dE ∧ WcA w nb ((gX, #[.slice q.pa q.P.length q.pc, .bool q.lets, .int .i64 q.cut.t, .slice q.cut.a q.cut.keep.length q.cut.c, .slice q.ca q.C.length q.cc], 38) :: [(gP, #[.int .i64 0, .int .i64 5, .int .i64 1, .int .i64 6], 31), (gJ, cur, 38)]) w9 D9 l9 (.slice (some ⟨g5, 0, none⟩) n c5) (putL is (q.P.take 90)) (k + 1)) := ⟨hd9, hA9⟩; clear hd9 hA9)
                                | (go_at_call 14; refine (wcA_holds H9.out.2 HN.out (by omega) H9.out.1).mono ?_; rintro e w10 ⟨rfl, hb10⟩; have H10 : Hid (Below w9.heap.size w9 w10) := hb10; clear hb10)
                                | (go_at_call 18; refine (wcA_pending (H9.out.2.on H10.out) H9.out.1).mono ?_; rintro e w11 ⟨g11, c11, rfl, hb11⟩; have H11 : Hid (Below w10.heap.size w10 w11) := hb11; clear hb11))
                              exact ⟨⟨k + 1, D9, l9, (putL is (q.P.take 90)), g5, c5, by omega, by omega, by go_num, by rw [H9.out.1], rfl, ((H9.out.2.on H10.out).on H11.out).tail⟩, by simp [intOf]; omega⟩
                          | true =>
                            as_aux_lemma =>
                              go_upto_region 46 with (first
                                | (go_at_call 16; refine HCo.out.mono ?_; rintro e w8 ⟨rfl, E8, h8⟩; have H8 : Hid (WcE w nb ((gX, #[.slice q.pa q.P.length q.pc, .bool q.lets, .int .i64 q.cut.t, .slice q.cut.a q.cut.keep.length q.cut.c, .slice q.ca q.C.length q.cc], 38) :: [(gP, #[.int .i64 0, .int .i64 5, .int .i64 1, .int .i64 6], 31), (gJ, cur, 38)]) (.slice (some ⟨g, 0, none⟩) n cap) (.slice (some ⟨g5, 0, none⟩) n c5) is (putL is (q.P.take 90)) k w8 E8 dE true) := h8; have hX4 : w8.cell? ⟨gX, 4, none⟩ = some (.slice q.ca q.C.length q.cc) := (by rw [cell_of_row _ _ _ _ _ _ (h8.kp (gX, #[.slice q.pa q.P.length q.pc, .bool q.lets, .int .i64 q.cut.t, .slice q.cut.a q.cut.keep.length q.cut.c, .slice q.ca q.C.length q.cc], 38) (.head _)).1]; rfl); clear h8)
                                | (go_at_call 17; refine (wcE_down H8.out).mono ?_; rintro e w' ⟨rfl, rfl⟩))
                              have HMe : Hid (Calls Tryz.prog 19 #[.pointer (some ⟨dE, 0, none⟩), .slice q.ca q.C.length q.cc] w8 fun e w' => ∃ F, e = .returned (.tuple #[.pointer (some ⟨F.d, 0, none⟩), .bool true]) ∧ Below w8.heap.size w8 w' ∧ Mine w w' F ∧ Rest F.abs nb F.las ∧ F.abs.wr ≤ 1000 ∧ F.abs.fl ≤ 1000 ∧ F.abs.T.length ≤ 1000 ∧ F.abs.keep = [] ∧ (∀ g, g < w8.heap.size → ¬ F.all g) ∧ (HoldsL F.las is ∨ HoldsL F.las (putL is (q.P.take 90)))) := wc_mended H8.out (HT.out.on H8.out.mine.bel) (by omega) (by omega) HIl.out HNl.out q.ca q.C.length q.cc q.C (HOk2.out w8 H8.out.mine.bel H8.out.kp).again rfl
                              go_upto_region 50 with (go_at_call 19; refine HMe.out.mono ?_; rintro e w9 ⟨F, rfl, f1, f2, f3, f4, f5, f6, f7, f8, f9⟩; obtain ⟨dF, hdF⟩ : ∃ dF, F.d = dF := ⟨_, rfl⟩; rw [hdF]; have HF : Hid (F.d = dF ∧ Below w8.heap.size w8 w9 ∧ Mine w w9 F ∧ Rest F.abs nb F.las ∧ F.abs.wr ≤ 1000 ∧ F.abs.fl ≤ 1000 ∧ F.abs.T.length ≤ 1000 ∧ F.abs.keep = [] ∧ (∀ g, g < w8.heap.size → ¬ F.all g) ∧ (HoldsL F.las is ∨ HoldsL F.las (putL is (q.P.take 90)))) := ⟨hdF, f1, f2, f3, f4, f5, f6, f7, f8, f9⟩; clear f1 f2 f3 f4 f5 f6 f7 f8 f9 hdF)
                              clear HMe hX4 HCo
                              by_cases hh1 : HoldsL F.las (putL is (q.P.take 90))
                              · as_aux_lemma =>
                                  have HA9 : Hid (WcA w nb ((gX, #[.slice q.pa q.P.length q.pc, .bool q.lets, .int .i64 q.cut.t, .slice q.cut.a q.cut.keep.length q.cut.c, .slice q.ca q.C.length q.cc], 38) :: [(gP, #[.int .i64 0, .int .i64 5, .int .i64 1, .int .i64 6], 31), (gJ, cur, 38)]) w9 F F.las (.slice (some ⟨g5, 0, none⟩) n c5) (putL is (q.P.take 90)) (k + 1)) := wc_after HF.out.2.2.1 HF.out.2.2.2.1 HF.out.2.2.2.2.1 HF.out.2.2.2.2.2.1 HF.out.2.2.2.2.2.2.1 HF.out.2.2.2.2.2.2.2.1 HF.out.2.2.2.2.2.2.2.2.1 HF.out.2.1 H8.out.i2 hh1 HNl.out HNr.out H8.out.kp
                                  go_wp2_with (go_at_call 14; refine (wcA_holds HA9.out HN.out (by omega) HF.out.1).mono ?_; rintro e w10 ⟨rfl, hb10⟩; have H10 : Hid (Below w9.heap.size w9 w10) := hb10; clear hb10)
                                  exact ⟨⟨k + 1, F, F.las, (putL is (q.P.take 90)), g5, c5, by omega, by omega, by go_num, by rw [HF.out.1], rfl, (HA9.out.on H10.out).tail⟩, by simp [intOf]; omega⟩
                              · as_aux_lemma =>
                                  have HA9 : Hid (WcA w nb ((gX, #[.slice q.pa q.P.length q.pc, .bool q.lets, .int .i64 q.cut.t, .slice q.cut.a q.cut.keep.length q.cut.c, .slice q.ca q.C.length q.cc], 38) :: [(gP, #[.int .i64 0, .int .i64 5, .int .i64 1, .int .i64 6], 31), (gJ, cur, 38)]) w9 F F.las (.slice (some ⟨g, 0, none⟩) n cap) is (k + 1)) := wc_after HF.out.2.2.1 HF.out.2.2.2.1 HF.out.2.2.2.2.1 HF.out.2.2.2.2.2.1 HF.out.2.2.2.2.2.2.1 HF.out.2.2.2.2.2.2.2.1 HF.out.2.2.2.2.2.2.2.2.1 HF.out.2.1 H8.out.i1 (HF.out.2.2.2.2.2.2.2.2.2.resolve_right hh1) HIl.out HIr.out H8.out.kp
                                  have HH1 : Hid (Calls Tryz.prog 14 #[(.slice (some ⟨g5, 0, none⟩) n c5), .pointer (some ⟨dF, 0, none⟩)] w9 fun e w' => e = .returned (.bool false) ∧ Below w9.heap.size w9 w') := wcF_holds HF.out.2.2.1 HF.out.2.2.2.1 (H8.out.i2.on HF.out.2.1).ints (by rw [HNl.out]; exact HN.out) (by omega) HNr.out HF.out.1 false ⟨fun h => (by cases h), fun h => absurd h hh1⟩
                                  clear hh1
                                  go_wp2_with (first
                                    | (go_at_call 14; have hh := HH1.out; clear hh; refine HH1.out.mono ?_; rintro e w10 ⟨rfl, hb10⟩; have H10 : Hid (Below w9.heap.size w9 w10) := hb10; clear hb10 HH1)
                                    | (go_at_call 14; refine (wcA_holds (HA9.out.on H10.out) HN.out (by omega) HF.out.1).mono ?_; rintro e w11 ⟨rfl, hb11⟩; have H11 : Hid (Below w10.heap.size w10 w11) := hb11; clear hb11))
                                  exact ⟨⟨k + 1, F, F.las, is, g, cap, by omega, by omega, by go_num, by rw [HF.out.1], rfl, ((HA9.out.on H10.out).on H11.out).tail⟩, by simp [intOf]; omega⟩
                      · as_aux_lemma =>
                          rw [hle] at hX1
                          have HAb : Hid (Calls Tryz.prog 12 #[.pointer (some ⟨t0, 0, none⟩)] wz fun e w' => e = .returned (.tuple #[]) ∧ OverAt w' t0 ∧ WcA w nb ((gX, #[.slice q.pa q.P.length q.pc, .bool q.lets, .int .i64 q.cut.t, .slice q.cut.a q.cut.keep.length q.cut.c, .slice q.ca q.C.length q.cc], 38) :: [(gP, #[.int .i64 0, .int .i64 5, .int .i64 1, .int .i64 6], 31), (gJ, cur, 38)]) w' E lE (.slice (some ⟨g, 0, none⟩) n cap) is k) := by
                            have h1 := abort_any wz T2.t T2.cells rfl HW.out.1.ses.tx.row
                            rw [HTt.out] at h1
                            refine h1.mono ?_
                            rintro e w6 ⟨rfl, ho, hf⟩
                            exact ⟨rfl, ho, HW.out.1.over (by rw [HTt.out]; exact hf)⟩
                          clear hX2 hX3
                          go_wp2_with (first
                            | (go_at_call 12; refine HAb.out.mono ?_; rintro e w6 ⟨rfl, ho6, hA6⟩; have H6 : Hid (OverAt w6 t0 ∧ WcA w nb ((gX, #[.slice q.pa q.P.length q.pc, .bool q.lets, .int .i64 q.cut.t, .slice q.cut.a q.cut.keep.length q.cut.c, .slice q.ca q.C.length q.cc], 38) :: [(gP, #[.int .i64 0, .int .i64 5, .int .i64 1, .int .i64 6], 31), (gJ, cur, 38)]) w6 E lE (.slice (some ⟨g, 0, none⟩) n cap) is k) := ⟨ho6, hA6⟩; clear ho6 hA6)
                            | (go_at_call 13; refine (over_yes w6 t0 H6.out.1).mono ?_; rintro e w' ⟨rfl, rfl⟩)
                            | (go_at_call 14; refine (wcA_holds H6.out.2 HN.out (by omega) HdE.out).mono ?_; rintro e w7 ⟨rfl, hb7⟩; have H7 : Hid (Below w6.heap.size w6 w7) := hb7; clear hb7))
                          exact ⟨⟨k + 1, E, lE, is, g, cap, by omega, by omega, by go_num, by rw [HdE.out], rfl, ((H6.out.2.on H7.out).tail).succ⟩, by simp [intOf]; omega⟩
        · have hgo' : ((k : Int) < 1 + (m : Int) ∧ ¬ (k : Int) < 30) ∨ ¬ (k : Int) < 1 + (m : Int) := by omega
          rcases hgo' with ⟨e1, e2⟩ | e1
          all_goals
            go_wp2
            go_ret
            exact ⟨rfl, HA.out.mine.bel⟩
end Go.Proofs.YtckldbhaaagncaaGreatDoor
