import Derived.Test.YtccocjipgbeaeabCutsM
namespace Go.Proofs.Ytccocjipgbeaeab
open Go.RowKit Adk

structure CuW (w wr : World) (d c g cap m K : Nat) (keep : List Bool) (k acts : Nat) (D C : Dk) : Prop where
  two : Two w wr D C g cap m
  ed : D.d = d
  ec : C.d = c
  la : LaI D.abs m k
  rep : Rep m D.abs
  T : D.abs.T.length = acts
  ph : (k < K ∧ C.abs = D.abs.arm ((K : Int) - k) keep ∧ D.abs.wr + D.abs.fl = k) ∨ (K ≤ k ∧ CutAt D.abs C.abs K keep)
theorem CuW.on {w wr wx : World} {d c g cap m K k acts : Nat} {keep : List Bool} {D C : Dk} (h : CuW w wr d c g cap m K keep k acts D C) (x : Below wr.heap.size wr wx) : CuW w wx d c g cap m K keep k acts D C :=
  ⟨h.two.on x, h.ed, h.ec, h.la, h.rep, h.T, h.ph⟩
theorem Puts.take {w : World} {a : Option Addr} {L : List PutR} (h : Puts w a L) (n : Nat) : Puts w a (L.take n) := by
  refine ⟨?_, fun q hq => h.each q (List.mem_of_mem_take hq), by rw [List.length_take]; have := h.len; omega⟩
  rcases h.at_ with e | ⟨b, off, e, hc⟩
  · exact .inl (by rw [e]; simp)
  · refine .inr ⟨b, off, e, fun i q hq => hc i q ?_⟩
    rw [List.getElem?_take] at hq
    split at hq
    · exact hq
    · cases hq
theorem CuW.room {w wr : World} {d c g cap m K k acts : Nat} {keep : List Bool} {D C : Dk} (h : CuW w wr d c g cap m K keep k acts D C) (hk : k ≤ 200) (hC : C.abs = D.abs.arm ((K : Int) - k) keep) (hl : keep.length ≤ 9223372036854775807) : Room C.abs := by
  rw [hC]
  have r := h.la.room hk
  exact ⟨r.p, r.t, r.w, r.f, hl⟩
/-- one step more on both, ahead of the cut -/
theorem CuW.both {w wr w2 w3 : World} {d c g cap m K k acts : Nat} {keep : List Bool} {D C D' C' : Dk} {b x : Int} {fl : Bool} (h : CuW w wr d c g cap m K keep k acts D C) (hC : C.abs = D.abs.arm ((K : Int) - k) keep) (hn : D.abs.wr + D.abs.fl = k) (hk : k + 1 < K)
    (h1 : Disk w2 C') (h2 : Mv wr C w2 C') (h3 : Al wr.heap.size C C') (h4 : C'.abs = C.abs.do b x fl) (g1 : Disk w3 D') (g2 : Mv w2 D w3 D') (g3 : Al w2.heap.size D D') (g4 : D'.abs = D.abs.do b x fl) : CuW w w3 d c g cap m K keep (k + 1) (acts + 1) D' C' := by
  have a0 := h.la.at_
  refine ⟨(h.two.mvC h1 h2 h3).mvD g1 g2 g3, g2.d.trans h.ed, h2.d.trans h.ec, ?_, ?_, ?_, .inl ⟨hk, ?_, ?_⟩⟩
  · rw [g4]; cases fl with
    | true => exact (h.la.next_f b x).1
    | false => exact (h.la.next_w b x).1
  · rw [g4]; cases fl with
    | true => exact h.rep.next_f a0 b x
    | false => exact h.rep.next_w a0 b x
  · rw [g4]; cases fl with
    | true => rw [do_f b x a0]; show (D.abs.T ++ _).length = _; rw [List.length_append, h.T]; rfl
    | false => rw [do_w b x a0]; show (D.abs.T ++ _).length = _; rw [List.length_append, h.T]; rfl
  · rw [h4, hC, (arm_next a0 (by omega) b x fl).1, g4]
    congr 1
    omega
  · rw [g4]; cases fl with
    | true => rw [do_f b x a0]; show D.abs.wr + (D.abs.fl + 1) = _; omega
    | false => rw [do_w b x a0]; show D.abs.wr + 1 + D.abs.fl = _; omega
/-- the cut at a write -/
theorem CuW.cutw {w wr w2 w3 : World} {d c g cap m K k acts : Nat} {keep : List Bool} {D C D' C' : Dk} {b x : Int} (h : CuW w wr d c g cap m K keep k acts D C) (hC : C.abs = D.abs.arm ((K : Int) - k) keep) (hn : D.abs.wr + D.abs.fl = k) (hk : k + 1 = K)
    (h1 : Disk w2 C') (h2 : Mv wr C w2 C') (h3 : Al wr.heap.size C C') (h4 : C'.abs = C.abs.do b x false) (g1 : Disk w3 D') (g2 : Mv w2 D w3 D') (g3 : Al w2.heap.size D D') (g4 : D'.abs = D.abs.do b x false) : CuW w w3 d c g cap m K keep (k + 1) (acts + 1) D' C' := by
  have a0 := h.la.at_
  refine ⟨(h.two.mvC h1 h2 h3).mvD g1 g2 g3, g2.d.trans h.ed, h2.d.trans h.ec, by rw [g4]; exact (h.la.next_w b x).1, by rw [g4]; exact h.rep.next_w a0 b x, ?_, .inr ⟨by omega, ?_⟩⟩
  · rw [g4, do_w b x a0]; show (D.abs.T ++ _).length = _; rw [List.length_append, h.T]; rfl
  · rw [g4, h4, hC, show (K : Int) - k = 1 by omega]
    have := (cut_w (keep := keep) a0 b x).1
    rw [hn, hk] at this
    exact this
theorem LaI.more {a : AD} {m k : Nat} (h : LaI a m k) : LaI a m (k + 1) := ⟨h.nb, h.len, by have := h.P; omega, by have := h.T; omega, by have := h.wr; omega, by have := h.fl; omega, h.at_, h.keep, h.down⟩
/-- the cut at a flush -/
theorem CuW.cutf {w wr w2 : World} {d c g cap m K k acts : Nat} {keep : List Bool} {D C C' : Dk} {b x : Int} (h : CuW w wr d c g cap m K keep k acts D C) (hC : C.abs = D.abs.arm ((K : Int) - k) keep) (hn : D.abs.wr + D.abs.fl = k) (hk : k + 1 = K)
    (h1 : Disk w2 C') (h2 : Mv wr C w2 C') (h3 : Al wr.heap.size C C') (h4 : C'.abs = C.abs.do b x true) : CuW w w2 d c g cap m K keep (k + 1) acts D C' := by
  refine ⟨h.two.mvC h1 h2 h3, h.ed, h2.d.trans h.ec, h.la.more, h.rep, h.T, .inr ⟨by omega, ?_⟩⟩
  rw [h4, hC, show (K : Int) - k = 1 by omega]
  have := (cut_f (a := D.abs) (keep := keep) b x).1
  rw [hn, hk] at this
  exact this
theorem CuW.dead {w wr w2 : World} {d c g cap m K k acts : Nat} {keep : List Bool} {D C : Dk} (h : CuW w wr d c g cap m K keep k acts D C) (hk : K ≤ k) (hp : CutAt D.abs C.abs K keep) (x : Below wr.heap.size wr w2) : CuW w w2 d c g cap m K keep (k + 1) acts D C :=
  ⟨h.two.on x, h.ed, h.ec, h.la.more, h.rep, h.T, .inr ⟨by omega, hp⟩⟩
set_option maxRecDepth 100000 in
set_option maxHeartbeats 16000000 in
theorem cuts_any (w : World) (n : Int) (pa : Option Addr) (pc : Nat) (At : Int) (ka : Option Addr) (kc : Nat) (L : List PutR) (keep : List Bool) (hP : Puts w pa L) (hcap : L.length ≤ pc) (hK : Bools w (.slice ka keep.length kc) keep) (hkn : ka = none → kc = 0) (hkl : keep.length ≤ 140737488351232) :
    Calls Try.prog 3 #[.int .i64 n, .slice pa L.length pc, .int .i64 At, .slice ka keep.length kc] w fun e w' => e = .returned (.bool true) ∧ Below w.heap.size w w' := by
  have hll := hP.len
  have HP : Hid (Puts w pa L) := hP
  have HK : Hid (Bools w (.slice ka keep.length kc) keep) := hK
  clear hP hK
  go_enter Try.func3, Try.ntmps3
  go_upto_if 42 with (first
    | (go_at_call 5; refine (fresh_any _ n).mono ?_; rintro e w1 ⟨d, L0, nw, capL, g, cap, m, rfl, hm, hm1, hm9, q1, q2, q3, q4, q5, hD, hO, hb⟩; have H1 : Hid ((Disk w1 (newDk d L0 nw capL m (frs m)) ∧ OwnB w1 g cap (frs m)) ∧ Below w.heap.size w w1 ∧ (w.heap.size ≤ d ∧ w.heap.size ≤ L0 ∧ w.heap.size ≤ nw ∧ w.heap.size ≤ g) ∧ ¬ (newDk d L0 nw capL m (frs m)).has g) := ⟨⟨hD, hO⟩, hb, ⟨q1, q2, q3, q4⟩, q5⟩; clear hD hO hb q1 q2 q3 q4 q5)
    | (go_at_call 5; refine (fresh_any _ n).mono ?_; rintro e w2 ⟨c, L2, nw2, capL2, g2, cap2, m2, rfl, hm2, hm12, hm92, q1, q2, q3, q4, q5, hD, hO, hb⟩; have H2 : Hid (Disk w2 (newDk c L2 nw2 capL2 m2 (frs m2)) ∧ Below w1.heap.size w1 w2 ∧ (w1.heap.size ≤ c ∧ w1.heap.size ≤ L2 ∧ w1.heap.size ≤ nw2)) := ⟨hD, hb, q1, q2, q3⟩; clear hD hO hb q1 q2 q3 q4 q5))
  obtain rfl : m = m2 := by omega
  clear hm hm2 hm12 hm92
  have HTw : Hid (Two w w2 (newDk d L0 nw capL m (frs m)) (newDk c L2 nw2 capL2 m (frs m)) g cap m) := by
    obtain ⟨⟨hD, hO⟩, hb, ⟨p1, p2, p3, p4⟩, p5⟩ := H1.out
    obtain ⟨hD2, hb2, r1, r2, r3⟩ := H2.out
    have hs := hb.size
    have cC : ∀ k, (newDk c L2 nw2 capL2 m (frs m)).all k → w1.heap.size ≤ k := by
      rintro k ((e | e | e | e | e) | e | ⟨_, hp, _⟩ | ⟨_, hp, _⟩)
      · have e : k = c := e; omega
      · have e : k = L2 := e; omega
      · have e : k = nw2 := e; omega
      · cases e
      · cases e
      · cases e
      · cases hp
      · cases hp
    refine ⟨hD.on hb2, hD2, fun k hk e => ?_, fun k hk e => ?_, fun k hk => ?_, fun k hk => ?_, hO.on hb2, p5, fun e => ?_, hb.trans (hb2.mono hs)⟩
    · have := hD.allLt hk; have := cC k (.inl e); omega
    · have := cC k hk; have := hD.hasLt e; omega
    · rcases hk with e | e | e | e | e
      · have e : k = d := e; omega
      · have e : k = L0 := e; omega
      · have e : k = nw := e; omega
      · cases e
      · cases e
    · have := cC k (.inl hk); omega
    · have := cC g (.inl e); have := hO.lt; omega
  clear H1 H2
  go_cut [1] (fun s1 wx => wx = w2 ∧ ∃ P : List PutR, P.length ≤ 60 ∧ Puts w pa P ∧ s1 = .slice pa P.length pc)
  case first =>
    by_cases h60 : 60 < L.length
    · have h60' : 60 < (L.length : Int) := by omega
      go_wp2
      go_meet
      case rel => exact ⟨rfl, L.take 60, by rw [List.length_take]; omega, HP.out.take 60, by rw [List.length_take, Nat.min_eq_left (by omega)]⟩
    · go_wp2
      go_meet
      case rel => exact ⟨rfl, L, by omega, HP.out, rfl⟩
  case rest =>
  obtain ⟨rfl, P, hPl, hPP, rfl⟩ := hcut
  clear HP hll hcap
  have HP : Hid (Puts w pa P) := hPP
  clear hPP
  obtain ⟨J, hJ⟩ : ∃ J : Nat, At % ((P.length + 3 : Nat) : Int) = (J : Int) := ⟨(At % ((P.length + 3 : Nat) : Int)).toNat, by have := Int.emod_nonneg At (b := ((P.length + 3 : Nat) : Int)) (by omega); omega⟩
  have hJm : J < P.length + 3 := by have := Int.emod_lt_of_pos At (b := ((P.length + 3 : Nat) : Int)) (by omega); omega
  have HJ : Hid (At % ((P.length + 3 : Nat) : Int) = (J : Int)) := hJ
  clear hJ
  have HM : Hid (∀ wx, Calls Try.prog 6 #[.int .i64 At, .int .i64 ((P.length : Int) + 3)] wx fun e w' => e = .returned (.int .i64 J) ∧ wx = w') := fun wx => by
    have z := mod_any wx At (P.length + 3) (by omega) (by omega)
    rw [HJ.out] at z
    exact z
  go_upto_region 8 with (go_at_call 6; refine (HM.out _).mono ?_; rintro e w' ⟨rfl, rfl⟩)
  go_upto_region 12 with (go_at_call 7; refine (arm_yes _ (newDk c L2 nw2 capL2 m (frs m)) HTw.out.dc (1 + (J : Int)) ka kc keep (HK.out.on HTw.out.bel) hkn (by omega) (by omega) rfl).mono ?_; rintro e w3 ⟨rfl, C0, z1, z2, z3, z4⟩; have H3 : Hid (CuW w w3 d c g cap m (J + 1) keep 0 0 (newDk d L0 nw capL m (frs m)) C0) := ⟨HTw.out.mvC z1 z2 z3, rfl, z2.d, ⟨rfl, frs_length m, Nat.le_refl _, Nat.le_refl _, Nat.le_refl _, Nat.le_refl _, rfl, rfl, rfl⟩, rep_zero m, rfl, .inl ⟨by omega, by rw [z4]; show AD.arm _ _ _ = AD.arm _ _ _; congr 1; omega, rfl⟩⟩; clear z1 z2 z3 z4)
  clear HTw
  go_loopw [13, 14, 15, 16, 59, 60, 61, 62, 63, 64, 65, 66, 67, 68, 69, 70, 71, 72, 73, 74, 75, 76, 77, 78, 79, 80, 81, 82, 83, 84, 85, 86, 87, 88, 89, 90, 91, 92, 93, 94, 95, 96, 97, 98, 99, 100, 101, 102, 103] (fun ac _ _ _ i _ _ _ _ _ _ _ _ _ _ _ _ _ _ _ _ _ _ _ _ _ _ _ _ _ _ _ _ _ _ _ _ _ _ _ _ _ _ _ _ _ _ _ _ wr => ∃ k acts : Nat, k ≤ P.length ∧ i = .int .i64 k ∧ ac = .int .i64 acts ∧ ∃ D C, CuW w wr d c g cap m (J + 1) keep k acts D C) (fun _ _ _ _ i _ _ _ _ _ _ _ _ _ _ _ _ _ _ _ _ _ _ _ _ _ _ _ _ _ _ _ _ _ _ _ _ _ _ _ _ _ _ _ _ _ _ _ _ _ => P.length - (intOf i).toNat)
  case atStart => exact ⟨0, 0, Nat.zero_le _, rfl, rfl, _, _, H3.out⟩
  case round =>
    obtain ⟨k, acts, hk, rfl, rfl, D, C, hW⟩ := hrel
    have hd1 := hW.ed
    have hd2 := hW.ec
    subst hd1 hd2
    clear H3
    have HW : Hid (CuW w wr D.d C.d g cap m (J + 1) keep k acts D C) := hW
    clear hW
    by_cases hlt : k < P.length
    · have hPr := HP.out.on HW.out.two.bel
      obtain ⟨b, off, rfl, hc⟩ := hPr.at_.resolve_left (by intro e; rw [e] at hlt; simp at hlt)
      obtain ⟨q, hq⟩ : ∃ q, P[k]? = some q := ⟨P[k], by simp [hlt]⟩
      have hqx := hPr.each q (List.mem_of_getElem? hq)
      obtain ⟨c0, c1, c2⟩ := hc k q hq
      clear hPr hc hq
      obtain ⟨qb, qx, qf⟩ := q
      simp only at c0 c1 c2 hqx
      have HX : Hid (0 ≤ qx ∧ qx < 256) := hqx
      clear hqx
      have HA : Hid (Below wr.heap.size wr (wr.alloc (.cells #[.int .i64 qb, .int .u8 qx, .bool qf] 34))) := (Below.refl _ _).alloc (Nat.le_refl _) _
      have HR := heap_alloc_new wr (.cells #[.int .i64 qb, .int .u8 qx, .bool qf] 34)
      have HC : Hid (∀ j, (wr.alloc (.cells #[.int .i64 qb, .int .u8 qx, .bool qf] 34)).cell? ⟨wr.heap.size, j, none⟩ = (#[Value.int .i64 qb, .int .u8 qx, .bool qf])[j]?) := fun j => cell_of_row _ _ _ _ _ _ HR
      clear HR
      go_upto_region 14 with fail
      generalize hwa : wr.alloc (.cells #[.int .i64 qb, .int .u8 qx, .bool qf] 34) = wa at *
      have HWa : Hid (CuW w wa D.d C.d g cap m (J + 1) keep k acts D C) := HW.out.on HA.out
      have S0 : wa.cell? ⟨wr.heap.size, 0, none⟩ = some (.int .i64 qb) := HC.out 0
      have S1 : wa.cell? ⟨wr.heap.size, 1, none⟩ = some (.int .u8 qx) := HC.out 1
      have S2 : wa.cell? ⟨wr.heap.size, 2, none⟩ = some (.bool qf) := HC.out 2
      have HS : Hid (¬ D.has wr.heap.size ∧ ¬ C.has wr.heap.size) := ⟨fun e => absurd (HW.out.two.dd.hasLt e) (by omega), fun e => absurd (HW.out.two.dc.hasLt e) (by omega)⟩
      have hDd : D.down = false := HW.out.la.down
      have hac : acts ≤ 60 := by have := HW.out.la.T; rw [HW.out.T] at this; omega
      clear hwa HC c0 c1 c2 HA HW
      rcases HWa.out.ph with hph | ⟨hph1, hph2⟩
      · have hCd : C.down = false := by
          have : C.abs.down = false := by rw [hph.2.1]; exact HWa.out.la.down
          exact this
        have HPh : Hid (k < J + 1 ∧ C.abs = D.abs.arm (((J + 1 : Nat) : Int) - k) keep ∧ D.abs.wr + D.abs.fl = k) := hph
        clear hph
        by_cases hKK : k + 1 < J + 1
        · cases qf
          · have h2 : 1 < ((J + 1 : Nat) : Int) - k := by omega
            have hlt2 : (k : Int) + 1 < 1 + (J : Int) := by omega
            go_upto_region 16 with (go_at_call 8; refine (do_write _ C HWa.out.two.dc qb qx HX.out hCd (HWa.out.room (by omega) HPh.out.2.1 (by omega))).mono ?_; rintro e w5 ⟨rfl, C', y1, y2, y3, y4⟩; rw [show C.abs.stepE = 0 from by rw [HPh.out.2.1]; exact (arm_next HWa.out.la.at_ h2 qb qx false).2]; have HY : Hid (Disk w5 C' ∧ Mv wa C w5 C' ∧ Al wa.heap.size C C' ∧ C'.abs = C.abs.do qb qx false) := ⟨y1, y2, y3, y4⟩; have T0 : w5.cell? ⟨wr.heap.size, 0, none⟩ = some (.int .i64 qb) := y2.fr.cell S0 HS.out.2; have T1 : w5.cell? ⟨wr.heap.size, 1, none⟩ = some (.int .u8 qx) := y2.fr.cell S1 HS.out.2; have T2 : w5.cell? ⟨wr.heap.size, 2, none⟩ = some (.bool false) := y2.fr.cell S2 HS.out.2; clear y1 y2 y3 y4)
            have HD5 : Hid (Disk w5 D) := (HWa.out.two.mvC HY.out.1 HY.out.2.1 HY.out.2.2.1).dd
            go_wp2_with (go_at_call 8; refine (do_write _ D HD5.out qb qx HX.out hDd (HWa.out.la.room (by omega))).mono ?_; rintro e w6 ⟨rfl, D', y1, y2, y3, y4⟩; rw [HWa.out.la.step]; have HZ : Hid (CuW w w6 D.d C.d g cap m (J + 1) keep (k + 1) (acts + 1) D' C') := HWa.out.both HPh.out.2.1 HPh.out.2.2 (by omega) HY.out.1 HY.out.2.1 HY.out.2.2.1 HY.out.2.2.2 y1 y2 y3 y4; clear y1 y2 y3 y4)
            exact ⟨⟨k + 1, acts + 1, hlt, by first | rfl | (congr 1; omega), by first | rfl | (congr 1; omega), D', C', HZ.out⟩, by simp [intOf]; omega⟩
          · have h2 : 1 < ((J + 1 : Nat) : Int) - k := by omega
            have hlt2 : (k : Int) + 1 < 1 + (J : Int) := by omega
            go_upto_region 16 with (go_at_call 8; refine (do_flush _ C HWa.out.two.dc qb qx hCd (HWa.out.room (by omega) HPh.out.2.1 (by omega))).mono ?_; rintro e w5 ⟨rfl, C', y1, y2, y3, y4⟩; rw [show C.abs.stepE = 0 from by rw [HPh.out.2.1]; exact (arm_next HWa.out.la.at_ h2 qb qx true).2]; have HY : Hid (Disk w5 C' ∧ Mv wa C w5 C' ∧ Al wa.heap.size C C' ∧ C'.abs = C.abs.do qb qx true) := ⟨y1, y2, y3, y4⟩; have T0 : w5.cell? ⟨wr.heap.size, 0, none⟩ = some (.int .i64 qb) := y2.fr.cell S0 HS.out.2; have T1 : w5.cell? ⟨wr.heap.size, 1, none⟩ = some (.int .u8 qx) := y2.fr.cell S1 HS.out.2; have T2 : w5.cell? ⟨wr.heap.size, 2, none⟩ = some (.bool true) := y2.fr.cell S2 HS.out.2; clear y1 y2 y3 y4)
            have HD5 : Hid (Disk w5 D) := (HWa.out.two.mvC HY.out.1 HY.out.2.1 HY.out.2.2.1).dd
            go_wp2_with (go_at_call 8; refine (do_flush _ D HD5.out qb qx hDd (HWa.out.la.room (by omega))).mono ?_; rintro e w6 ⟨rfl, D', y1, y2, y3, y4⟩; rw [HWa.out.la.step]; have HZ : Hid (CuW w w6 D.d C.d g cap m (J + 1) keep (k + 1) (acts + 1) D' C') := HWa.out.both HPh.out.2.1 HPh.out.2.2 (by omega) HY.out.1 HY.out.2.1 HY.out.2.2.1 HY.out.2.2.2 y1 y2 y3 y4; clear y1 y2 y3 y4)
            exact ⟨⟨k + 1, acts + 1, hlt, by first | rfl | (congr 1; omega), by first | rfl | (congr 1; omega), D', C', HZ.out⟩, by simp [intOf]; omega⟩
        · have hk1 : k < J + 1 := HPh.out.1
          cases qf
          · have hKk : k = J := by omega
            go_upto_region 15 with (go_at_call 8; refine (do_write _ C HWa.out.two.dc qb qx HX.out hCd (HWa.out.room (by omega) HPh.out.2.1 (by omega))).mono ?_; rintro e w5 ⟨rfl, C', y1, y2, y3, y4⟩; rw [show C.abs.stepE = 30 from by rw [HPh.out.2.1, show ((J + 1 : Nat) : Int) - k = 1 by omega]; rfl]; have HY : Hid (Disk w5 C' ∧ Mv wa C w5 C' ∧ Al wa.heap.size C C' ∧ C'.abs = C.abs.do qb qx false) := ⟨y1, y2, y3, y4⟩; have HDo : Hid (∀ wx, Below w5.heap.size w5 wx → Calls Try.prog 9 #[.pointer (some ⟨C.d, 0, none⟩)] wx fun e w' => e = .returned (.bool true) ∧ wx = w') := fun wx hx => (by rw [← y2.d]; exact (down_any wx C' (y1.on hx)).mono (fun e w' h => ⟨by rw [h.1, show C'.down = true from (show C'.abs.down = true from by rw [y4, HPh.out.2.1, show ((J + 1 : Nat) : Int) - k = 1 by omega]; rfl)], h.2⟩)); have T0 : w5.cell? ⟨wr.heap.size, 0, none⟩ = some (.int .i64 qb) := y2.fr.cell S0 HS.out.2; have T1 : w5.cell? ⟨wr.heap.size, 1, none⟩ = some (.int .u8 qx) := y2.fr.cell S1 HS.out.2; have T2 : w5.cell? ⟨wr.heap.size, 2, none⟩ = some (.bool false) := y2.fr.cell S2 HS.out.2; clear y1 y2 y3 y4)
            have HD5 : Hid (Disk w5 D) := (HWa.out.two.mvC HY.out.1 HY.out.2.1 HY.out.2.2.1).dd
            go_upto_region 22 with (go_at_call 9; refine (HDo.out _ (Below.refl _ _)).mono ?_; rintro e w' ⟨rfl, rfl⟩)
            go_wp2_with (go_at_call 8; refine (do_write _ D HD5.out qb qx HX.out hDd (HWa.out.la.room (by omega))).mono ?_; rintro e w6 ⟨rfl, D', y1, y2, y3, y4⟩; rw [HWa.out.la.step]; have HZ : Hid (CuW w w6 D.d C.d g cap m (J + 1) keep (k + 1) (acts + 1) D' C') := HWa.out.cutw HPh.out.2.1 HPh.out.2.2 (by omega) HY.out.1 HY.out.2.1 HY.out.2.2.1 HY.out.2.2.2 y1 y2 y3 y4; clear y1 y2 y3 y4)
            exact ⟨⟨k + 1, acts + 1, hlt, by first | rfl | (congr 1; omega), by first | rfl | (congr 1; omega), D', C', HZ.out⟩, by simp [intOf]; omega⟩
          · have hKk : k = J := by omega
            go_upto_region 15 with (go_at_call 8; refine (do_flush _ C HWa.out.two.dc qb qx hCd (HWa.out.room (by omega) HPh.out.2.1 (by omega))).mono ?_; rintro e w5 ⟨rfl, C', y1, y2, y3, y4⟩; rw [show C.abs.stepE = 30 from by rw [HPh.out.2.1, show ((J + 1 : Nat) : Int) - k = 1 by omega]; rfl]; have HY : Hid (Disk w5 C' ∧ Mv wa C w5 C' ∧ Al wa.heap.size C C' ∧ C'.abs = C.abs.do qb qx true) := ⟨y1, y2, y3, y4⟩; have HDo : Hid (∀ wx, Below w5.heap.size w5 wx → Calls Try.prog 9 #[.pointer (some ⟨C.d, 0, none⟩)] wx fun e w' => e = .returned (.bool true) ∧ wx = w') := fun wx hx => (by rw [← y2.d]; exact (down_any wx C' (y1.on hx)).mono (fun e w' h => ⟨by rw [h.1, show C'.down = true from (show C'.abs.down = true from by rw [y4, HPh.out.2.1, show ((J + 1 : Nat) : Int) - k = 1 by omega]; rfl)], h.2⟩)); have T0 : w5.cell? ⟨wr.heap.size, 0, none⟩ = some (.int .i64 qb) := y2.fr.cell S0 HS.out.2; have T1 : w5.cell? ⟨wr.heap.size, 1, none⟩ = some (.int .u8 qx) := y2.fr.cell S1 HS.out.2; have T2 : w5.cell? ⟨wr.heap.size, 2, none⟩ = some (.bool true) := y2.fr.cell S2 HS.out.2; clear y1 y2 y3 y4)
            go_wp2_with (go_at_call 9; refine (HDo.out _ (Below.refl _ _)).mono ?_; rintro e w' ⟨rfl, rfl⟩)
            have HZ : CuW w w5 D.d C.d g cap m (J + 1) keep (k + 1) acts D C' := HWa.out.cutf HPh.out.2.1 HPh.out.2.2 (by omega) HY.out.1 HY.out.2.1 HY.out.2.2.1 HY.out.2.2.2
            exact ⟨⟨k + 1, acts, hlt, by first | rfl | (congr 1; omega), rfl, D, C', HZ⟩, by simp [intOf]; omega⟩
      · have hCd : C.down = true := hph2.down
        have HPh2 : Hid (CutAt D.abs C.abs (J + 1) keep) := hph2
        clear hph2
        have hnl : ¬ (k : Int) + 1 < 1 + (J : Int) := by omega
        have hne : ¬ (k : Int) + 1 = 1 + (J : Int) := by omega
        go_wp2_with (first
          | (go_at_call 8; refine (do_down _ C HWa.out.two.dc qb qx qf HX.out hCd).mono ?_; rintro e w5 ⟨rfl, hb5⟩; have H5 : Hid (CuW w w5 D.d C.d g cap m (J + 1) keep (k + 1) acts D C) := HWa.out.dead hph1 HPh2.out hb5; clear hb5)
          | (go_at_call 9; refine (down_any _ C H5.out.two.dc).mono ?_; rintro e w' ⟨rfl, rfl⟩; rw [hCd]))
        exact ⟨⟨k + 1, acts, hlt, rfl, rfl, D, C, H5.out⟩, by simp [intOf]; omega⟩
    · have hkP : k = P.length := by omega
      have HM : Hid (D.nb = m ∧ C.nb = m) := by
        refine ⟨HW.out.la.nb, ?_⟩
        have h1 := HW.out.two.dc.lasl
        have h2 : C.abs.las.length = 512 * m := by
          rcases HW.out.ph with ⟨_, h, _⟩ | ⟨_, h⟩
          · rw [h]; exact HW.out.la.len
          · rw [h.las]; show (lay _ _ _ _ _).length = _; rw [lay_length]; exact HW.out.la.len
        have h3 : C.las.length = 512 * m := h2
        omega
      have HTT : Hid (C.abs.T = D.abs.T ∧ D.abs.T.length = acts) := ⟨by
        rcases HW.out.ph with ⟨_, h, _⟩ | ⟨_, h⟩
        · rw [h]; rfl
        · exact h.T, HW.out.T⟩
      have hac : acts ≤ 60 := by have := HW.out.la.T; rw [HW.out.T] at this; omega
      go_upto_region 27 with ((go_at_call 10; refine (tape0_any _ D HW.out.two.dd).mono ?_; rintro e w5 ⟨v1, T1, rfl, y1, y2, y3, y4, y5⟩; have HF1 : Hid ((∀ k, v1.ownBlock = some k → wr.heap.size ≤ k) ∧ ∀ q ∈ T1, ∀ p, q.a = some p → wr.heap.size ≤ p.block) := ⟨y4, y5⟩; clear y4 y5; have H5 : Hid (AcR w5 m v1 T1 ∧ T1.map ActR.abs = D.abs.T ∧ Below wr.heap.size wr w5) := ⟨by rw [← HM.out.1]; exact y1, y2, y3⟩; clear y1 y2 y3))
      go_upto_region 28 with (go_at_call 10; refine (tape0_any _ C (HW.out.two.dc.on H5.out.2.2)).mono ?_; rintro e w6 ⟨v2, T2, rfl, y1, y2, y3, y4, y5⟩; clear y4 y5; have H6 : Hid (AcR w6 m v1 T1 ∧ AcR w6 m v2 T2 ∧ T2.map ActR.abs = D.abs.T ∧ Below wr.heap.size wr w6) := ⟨H5.out.1.on y3, by rw [← HM.out.2]; exact y1, by rw [y2, HTT.out.1], H5.out.2.2.trans (y3.mono H5.out.2.2.size)⟩; clear y1 y2 y3)
      obtain ⟨a1, cc1, rfl⟩ : ∃ a1 cc1, v1 = .slice a1 acts cc1 := by
        obtain ⟨a, cx, hv, _⟩ := owns_slice H6.out.1.row
        have hl : T1.length = acts := by have := congrArg List.length H5.out.2.1; rw [List.length_map, HTT.out.2] at this; exact this
        rw [hl] at hv
        exact ⟨a, cx, hv⟩
      obtain ⟨a2, cc2, rfl⟩ : ∃ a2 cc2, v2 = .slice a2 acts cc2 := by
        obtain ⟨a, cx, hv, _⟩ := owns_slice H6.out.2.1.row
        have hl : T2.length = acts := by have := congrArg List.length H6.out.2.2.1; rw [List.length_map, HTT.out.2] at this; exact this
        rw [hl] at hv
        exact ⟨a, cx, hv⟩
      have HL1 : Hid (T1.length = acts ∧ T2.length = acts) := by
        have e1 := congrArg List.length H5.out.2.1
        have e2 := congrArg List.length H6.out.2.2.1
        rw [List.length_map, HTT.out.2] at e1 e2
        exact ⟨e1, e2⟩
      have HSa : Hid (Calls Try.prog 11 #[.slice a1 acts cc1, .slice a2 acts cc2] w6 fun e w' => e = .returned (.bool true) ∧ Below w6.heap.size w6 w') := by
        have z1 := H6.out.1.acts (by rw [HL1.out.1]; omega)
        have z2 := H6.out.2.1.acts (by rw [HL1.out.2]; omega)
        exact sameActs_any w6 a1 a2 acts cc1 cc2 T1 T2 z1.2.1 z2.2.1 (by rw [H5.out.2.1, H6.out.2.2.1]) HL1.out.1
      go_upto_region 30 with (go_at_call 11; refine HSa.out.mono ?_; rintro e w7 ⟨rfl, hb7⟩; have H7 : Hid (Below w6.heap.size w6 w7) := hb7; clear hb7)
      have HB7 : Hid (Below wr.heap.size wr w7) := H6.out.2.2.2.trans (H7.out.mono H6.out.2.2.2.size)
      have HW7 : Hid (CuW w w7 D.d C.d g cap m (J + 1) keep k acts D C) := HW.out.on HB7.out
      have HA7 : Hid (AcR w7 m (.slice a1 acts cc1) T1 ∧ T1.map ActR.abs = D.abs.T) := ⟨H6.out.1.on H7.out, H5.out.2.1⟩
      have HX : Hid (aft m (frs m) T1 keep = (D.abs.cut (kpOf keep)).las) := HW.out.rep.after T1 H5.out.2.1 keep
      have HXl : Hid ((aft m (frs m) T1 keep).length = 512 * m) := by rw [aft_length, frs_length]; exact rfl
      have HNo : Hid (∀ k, C.has k → k < wr.heap.size) := fun k hk => HW.out.two.dc.hasLt hk
      clear H5 H6 H7 HB7 HW HSa
      have HAf : Hid (∀ wx, Below w.heap.size w wx → AcR wx m (.slice a1 acts cc1) T1 → OwnB wx g cap (frs m) → Calls Try.prog 13 #[.slice (some ⟨g, 0, none⟩) (512 * m : Nat) cap, .slice a1 acts cc1, .slice ka keep.length kc] wx fun e w' => ∃ g' cap', e = .returned (.tuple #[.slice (some ⟨g', 0, none⟩) (512 * m : Nat) cap', .int .i64 0]) ∧ OwnB w' g' cap' (aft m (frs m) T1 keep) ∧ Below wx.heap.size wx w') := by
        intro wx hb hr ho
        have z := hr.acts (by rw [HL1.out.1]; omega)
        have hn : acts = T1.length := HL1.out.1.symm
        subst hn
        refine (after_ok wx ⟨g, 0, none⟩ cap m (frs m) a1 cc1 T1 _ keep ho.bytes (frs_length m) (by omega) (by omega) z.2.1 z.2.2 (HK.out.on hb) (by omega)).mono ?_
        rintro e w' ⟨g', c', h1, _, h2, h3⟩
        exact ⟨g', c', h1, h2, h3⟩
      obtain ⟨S, hS⟩ : ∃ S : Nat, S = min P.length (J + 1) := ⟨_, rfl⟩
      have HS : Hid (S = min P.length (J + 1)) := hS
      clear hS
      go_upto_if 121 with fail
      go_cut [] (fun wx => ∃ C' : Dk, C'.d = C.d ∧ Disk wx C' ∧ C'.nb = m ∧ C'.las = aft m (frs m) T1 keep ∧ C'.wr + C'.fl = S ∧ AcR wx m (.slice a1 acts cc1) T1 ∧ OwnB wx g cap (frs m) ∧ Below w.heap.size w wx)
      case first =>
        rcases HW7.out.ph with hph | ⟨hph1, hph2⟩
        · have HPh : Hid (C.abs = D.abs.arm (((J + 1 : Nat) : Int) - k) keep ∧ D.abs.wr + D.abs.fl = k) := hph.2
          have hkJ : P.length < J + 1 := by omega
          have hkJ' : (P.length : Int) < 1 + (J : Int) := by omega
          have hCd : C.down = false := by
            have : C.abs.down = false := by rw [HPh.out.1]; exact HW7.out.la.down
            exact this
          have HE : Hid ((C.cut (kpOf keep)).las = aft m (frs m) T1 keep ∧ C.wr + C.fl = P.length) := by
            refine ⟨?_, ?_⟩
            · rw [HX.out]
              have e := abs_cut C (kpOf keep)
              have e2 : (C.cut (kpOf keep)).las = (C.cut (kpOf keep)).abs.las := rfl
              rw [e2, e, HPh.out.1]; rfl
            · have e : C.abs.wr + C.abs.fl = k := by rw [HPh.out.1]; exact HPh.out.2
              rw [← hkP]; exact e
          clear hph
          go_wp2_with (first
            | (go_at_call 9; refine (down_any _ C HW7.out.two.dc).mono ?_; rintro e w' ⟨rfl, rfl⟩; rw [hCd])
            | (go_at_call 12; refine (crash_any _ C HW7.out.two.dc _ keep (HK.out.on HW7.out.two.bel) (fun hl j hj e => absurd (HW7.out.two.c2 j e) (Nat.not_le.2 (HK.out.lt hl hj))) (by omega)).mono ?_; rintro e w8 ⟨rfl, y1, y2⟩; have H8 : Hid (Disk w8 (C.cut (kpOf keep)) ∧ Fr C.has w7 w8) := ⟨y1, y2.fr⟩; have HB8 : Hid (Below w.heap.size w w8) := HW7.out.two.bel.trans (y2.below _ HW7.out.two.bel.size HW7.out.two.c2).1; clear y1 y2))
          go_meet
          case rel =>
            exact ⟨C.cut (kpOf keep), rfl, H8.out.1, HM.out.2, HE.out.1, by rw [HS.out, Nat.min_eq_left (by omega)]; exact HE.out.2, HA7.out.1.frs H8.out.2 (fun k hk e => absurd (HNo.out k e) (Nat.not_lt.2 (HF1.out.1 k hk))) (fun q hq p hp e => absurd (HNo.out _ e) (Nat.not_lt.2 (HF1.out.2 q hq p hp))), HW7.out.two.im.fr H8.out.2 HW7.out.two.i2, HB8.out⟩
        · have hJk : J + 1 ≤ P.length := by omega
          have hnJ : ¬ (P.length : Int) < 1 + (J : Int) := by omega
          have HE : Hid (C.las = aft m (frs m) T1 keep ∧ C.wr + C.fl = J + 1) := ⟨by rw [HX.out]; exact hph2.las, hph2.n⟩
          clear hph2
          go_wp2
          go_meet
          case rel => exact ⟨C, rfl, HW7.out.two.dc, HM.out.2, HE.out.1, by rw [HS.out, Nat.min_eq_right hJk]; exact HE.out.2, HA7.out.1, HW7.out.two.im, HW7.out.two.bel⟩
      case rest =>
      obtain ⟨C', hC1, hC2, hC3, hC4, hC5, hC6, hC7, hC8⟩ := hcut
      have H8 : Hid (Disk wc C' ∧ C'.nb = m ∧ C'.las = aft m (frs m) T1 keep ∧ AcR wc m (.slice a1 acts cc1) T1 ∧ OwnB wc g cap (frs m) ∧ Below w.heap.size w wc) := ⟨hC2, hC3, hC4, hC6, hC7, hC8⟩
      have HE3 : Hid (∀ wx, Below wc.heap.size wc wx → Calls Try.prog 14 #[.pointer (some ⟨C.d, 0, none⟩)] wx fun e w' => e = .returned (.tuple #[.int .i64 C'.wr, .int .i64 C'.fl]) ∧ Below wx.heap.size wx w') := fun wx hx => by rw [← hC1]; exact steps_any wx C' (hC2.on hx)
      have HE4 : Hid (∀ wx, Below wc.heap.size wc wx → Calls Try.prog 15 #[.pointer (some ⟨C.d, 0, none⟩)] wx fun e w' => ∃ g' cap', e = .returned (.slice (some ⟨g', 0, none⟩) (512 * m : Nat) cap') ∧ OwnB w' g' cap' (aft m (frs m) T1 keep) ∧ Below wx.heap.size wx w') := fun wx hx => by
        rw [← hC1]
        refine (image_any wx C' (hC2.on hx)).mono ?_
        rintro e w' ⟨g', c', h1, _, h2, h3⟩
        rw [hC3] at h1
        exact ⟨g', c', h1, by rw [← hC4]; exact h2, h3⟩
      have hcw := hC2.wrs
      have hcf := hC2.fls
      obtain ⟨ua, hua⟩ : ∃ a, C'.wr = a := ⟨_, rfl⟩
      obtain ⟨ub, hub⟩ : ∃ a, C'.fl = a := ⟨_, rfl⟩
      rw [hua, hub] at HE3 hC5
      rw [hua] at hcw
      rw [hub] at hcf
      have p0 : IntKind.i64.wrap ((ua : Int) + (ub : Int)) = (S : Int) := by rw [IntKind.wrap_i64]; omega
      clear hC1 hC2 hC3 hC4 hC5 hC6 hC7 hC8 hua hub hcw hcf HW7 HA7 HX HNo HM HTT HF1
      go_upto_if 143 with (first
        | (go_at_call 13; refine (HAf.out _ H8.out.2.2.2.2.2 H8.out.2.2.2.1 H8.out.2.2.2.2.1).mono ?_; rintro e w9 ⟨g9, c9, rfl, ho9, hb9⟩; have H9 : Hid (OwnB w9 g9 c9 (aft m (frs m) T1 keep) ∧ Below wc.heap.size wc w9) := ⟨ho9, hb9⟩; clear ho9 hb9)
        | (go_at_call 14; refine (HE3.out _ H9.out.2).mono ?_; rintro e w10 ⟨rfl, hb10⟩; have H10 : Hid (OwnB w10 g9 c9 (aft m (frs m) T1 keep) ∧ Below wc.heap.size wc w10) := ⟨H9.out.1.on hb10, H9.out.2.trans (hb10.mono H9.out.2.size)⟩; clear hb10))
      have HBw : Hid (Below w.heap.size w w10) := H8.out.2.2.2.2.2.trans (H10.out.2.mono H8.out.2.2.2.2.2.size)
      go_cut [23] (fun s wx => w10 = wx ∧ s = .int .i64 S)
      case first =>
        by_cases hlt3 : J + 1 < P.length
        · have hlt4 : 1 + (J : Int) < (P.length : Int) := by omega
          go_wp2
          go_meet
          case rel => exact ⟨rfl, by rw [HS.out, Nat.min_eq_right (by omega)]; congr 1; omega⟩
        · have hlt4 : ¬ 1 + (J : Int) < (P.length : Int) := by omega
          go_wp2
          go_meet
          case rel => exact ⟨rfl, by rw [HS.out, Nat.min_eq_left (by omega)]⟩
      case rest =>
      obtain ⟨rfl, rfl⟩ := hcut
      have HD10 : Hid (Below w10.heap.size w10 w10.drew) := (Below.refl _ w10).drew
      have HI : Hid (∃ g, True) := ⟨0, trivial⟩
      have e1 : (convert 25 9 (.slice (some ⟨g9, 0, none⟩) (512 * m) c9)).run Try.prog w10.drew = .ok (.string (strOfNums (aft m (frs m) T1 keep))) w10.drew := str_opt (H10.out.1.bytes.on HD10.out) HXl.out
      clear H9 HE3 HAf H8 HS HK hkn hkl hPl HP hJm HJ hk hlt hkP hac HL1 HI
      go_upto_region 39 with fail
      go_cut [8] (fun s8 wx => s8 = .bool true ∧ Below w.heap.size w wx)
      case first =>
        refine wp_region_any (by kernel_rfl) ?_
        try (change wpAny _ _ _ _ _ _ _ (World.drew _))
        refine wpAny_take (i := 0) (v := ?_) rfl (by kernel_rfl) (by kernel_rfl) (by kernel_rfl) (fun _ _ _ h => h) (Or.inl ⟨by kernel_rfl, ?_⟩) ?_
        rotate_left
        focus (intro w; go_simp; (try (with_reducible rfl)); done)
        go_simp
        refine wpAny_take (i := 1) (v := ?_) rfl (by kernel_rfl) (by kernel_rfl) (by kernel_rfl) (fun _ _ _ h => h) (Or.inl ⟨by kernel_rfl, ?_⟩) ?_
        rotate_left
        focus (intro w; go_simp; (try (with_reducible rfl)); done)
        go_simp
        refine wpAny_take (i := 2) (v := ?_) rfl (by kernel_rfl) (by kernel_rfl) (by kernel_rfl) (fun _ _ _ h => h) (Or.inl ⟨by kernel_rfl, ?_⟩) ?_
        rotate_left
        focus (intro w; go_simp; (try (with_reducible rfl)); done)
        go_simp
        refine wpAny_take (i := 3) (v := ?_) rfl (by kernel_rfl) (by kernel_rfl) (by kernel_rfl) (fun _ _ _ h => h) (Or.inl ⟨by kernel_rfl, ?_⟩) ?_
        rotate_left
        focus (intro w; go_simp; (try (with_reducible rfl)); done)
        go_simp
        refine wpAny_take (i := 6) (v := ?_) rfl (by kernel_rfl) (by kernel_rfl) (by kernel_rfl) (fun _ _ _ h => h) (Or.inl ⟨by kernel_rfl, ?_⟩) ?_
        rotate_left
        focus (intro w; go_simp; (try (with_reducible rfl)); done)
        go_simp
        refine wpAny_ready (rs := [4, 7]) (by kernel_rfl) (by simp) ?_
        refine AllReady.cons rfl (fun K hK => ?_) ?_
        · (go_simp; go_at_call 15; refine (HE4.out _ (H10.out.2.trans (HD10.out.mono H10.out.2.size))).mono ?_; rintro e w11 ⟨g11, c11, rfl, ho11, hb11⟩; have H11 : Hid (Below w.heap.size w w11) := (HBw.out.trans (HD10.out.mono HBw.out.size)).trans (hb11.mono (Nat.le_trans HBw.out.size HD10.out.size)); have e2 : (convert 25 9 (.slice (some ⟨g9, 0, none⟩) (512 * m) c9)).run Try.prog w11 = .ok (.string (strOfNums (aft m (frs m) T1 keep))) w11 := str_opt (H10.out.1.bytes.on (HD10.out.trans hb11)) HXl.out; have e3 : (convert 25 9 (.slice (some ⟨g11, 0, none⟩) (512 * m) c11)).run Try.prog w11 = .ok (.string (strOfNums (aft m (frs m) T1 keep))) w11 := str_opt ho11.bytes HXl.out; clear ho11 hb11)
          try go_simp
          first
            | (refine hK _ _ ?_; clear hK K)
            | skip
          refine wpAny_ready (rs := [5, 7]) (by kernel_rfl) (by simp) ?_
          refine AllReady.cons rfl (fun K hK => ?_) ?_
          · go_simp
            try go_simp
            first
              | (refine hK _ _ ?_; clear hK K)
              | skip
            refine wpAny_ready (rs := [7]) (by kernel_rfl) (by simp) ?_
            refine AllReady.cons rfl (fun K hK => ?_) ?_
            · go_simp
              try go_simp
              first
                | (refine hK _ _ ?_; clear hK K)
                | skip
              refine wpAny_take (i := 8) (v := ?_) rfl (by kernel_rfl) (by kernel_rfl) (by kernel_rfl) (fun _ _ _ h => h) (Or.inl ⟨by kernel_rfl, ?_⟩) ?_
              rotate_left
              focus (intro w; go_simp; (try (with_reducible rfl)); done)
              go_simp
              refine wpAny_take (i := 9) (v := ?_) rfl (by kernel_rfl) (by kernel_rfl) (by kernel_rfl) (fun _ _ _ h => h) (Or.inl ⟨by kernel_rfl, ?_⟩) ?_
              rotate_left
              focus (intro w; go_simp; (try (with_reducible rfl)); done)
              go_simp
              refine wpAny_take (i := 10) (v := ?_) rfl (by kernel_rfl) (by kernel_rfl) (by kernel_rfl) (fun _ _ _ h => h) (Or.inl ⟨by kernel_rfl, ?_⟩) ?_
              rotate_left
              focus (intro w; go_simp; (try (with_reducible rfl)); done)
              go_simp
              refine wpAny_take (i := 11) (v := ?_) rfl (by kernel_rfl) (by kernel_rfl) (by kernel_rfl) (fun _ _ _ h => h) (Or.inl ⟨by kernel_rfl, ?_⟩) ?_
              rotate_left
              focus (intro w; go_simp; (try (with_reducible rfl)); done)
              go_simp
              refine wpAny_take (i := 12) (v := ?_) rfl (by kernel_rfl) (by kernel_rfl) (by kernel_rfl) (fun _ _ _ h => h) (Or.inl ⟨by kernel_rfl, ?_⟩) ?_
              rotate_left
              focus (intro w; go_simp; (try (with_reducible rfl)); done)
              go_simp
              refine wpAny_take (i := 13) (v := ?_) rfl (by kernel_rfl) (by kernel_rfl) (by kernel_rfl) (fun _ _ _ h => h) (Or.inl ⟨by kernel_rfl, ?_⟩) ?_
              rotate_left
              focus (intro w; go_simp; (try (with_reducible rfl)); done)
              go_simp
              refine wpAny_take (i := 14) (v := ?_) rfl (by kernel_rfl) (by kernel_rfl) (by kernel_rfl) (fun _ _ _ h => h) (Or.inl ⟨by kernel_rfl, ?_⟩) ?_
              rotate_left
              focus (intro w; go_simp; (try (with_reducible rfl)); done)
              go_simp
              refine wpAny_take (i := 15) (v := ?_) rfl (by kernel_rfl) (by kernel_rfl) (by kernel_rfl) (fun _ _ _ h => h) (Or.inl ⟨by kernel_rfl, ?_⟩) ?_
              rotate_left
              focus (intro w; go_simp; (try (with_reducible rfl)); done)
              go_simp
              refine wpAny_take (i := 16) (v := ?_) rfl (by kernel_rfl) (by kernel_rfl) (by kernel_rfl) (fun _ _ _ h => h) (Or.inl ⟨by kernel_rfl, ?_⟩) ?_
              rotate_left
              focus (intro w; go_simp; (try (with_reducible rfl)); done)
              go_simp
              refine wpAny_take (i := 17) (v := ?_) rfl (by kernel_rfl) (by kernel_rfl) (by kernel_rfl) (fun _ _ _ h => h) (Or.inl ⟨by kernel_rfl, ?_⟩) ?_
              rotate_left
              focus (intro w; go_simp; (try (with_reducible rfl)); done)
              go_simp
              refine wpAny_done (by kernel_rfl) ?_ _
              go_wp2
              go_meet
              case rel => exact ⟨rfl, H11.out⟩
            exact AllReady.nil
          refine AllReady.cons rfl (fun K hK => ?_) ?_
          · go_simp
            try go_simp
            first
              | (refine hK _ _ ?_; clear hK K)
              | skip
            refine wpAny_ready (rs := [5]) (by kernel_rfl) (by simp) ?_
            refine AllReady.cons rfl (fun K hK => ?_) ?_
            · go_simp
              try go_simp
              first
                | (refine hK _ _ ?_; clear hK K)
                | skip
              refine wpAny_take (i := 8) (v := ?_) rfl (by kernel_rfl) (by kernel_rfl) (by kernel_rfl) (fun _ _ _ h => h) (Or.inl ⟨by kernel_rfl, ?_⟩) ?_
              rotate_left
              focus (intro w; go_simp; (try (with_reducible rfl)); done)
              go_simp
              refine wpAny_take (i := 9) (v := ?_) rfl (by kernel_rfl) (by kernel_rfl) (by kernel_rfl) (fun _ _ _ h => h) (Or.inl ⟨by kernel_rfl, ?_⟩) ?_
              rotate_left
              focus (intro w; go_simp; (try (with_reducible rfl)); done)
              go_simp
              refine wpAny_take (i := 10) (v := ?_) rfl (by kernel_rfl) (by kernel_rfl) (by kernel_rfl) (fun _ _ _ h => h) (Or.inl ⟨by kernel_rfl, ?_⟩) ?_
              rotate_left
              focus (intro w; go_simp; (try (with_reducible rfl)); done)
              go_simp
              refine wpAny_take (i := 11) (v := ?_) rfl (by kernel_rfl) (by kernel_rfl) (by kernel_rfl) (fun _ _ _ h => h) (Or.inl ⟨by kernel_rfl, ?_⟩) ?_
              rotate_left
              focus (intro w; go_simp; (try (with_reducible rfl)); done)
              go_simp
              refine wpAny_take (i := 12) (v := ?_) rfl (by kernel_rfl) (by kernel_rfl) (by kernel_rfl) (fun _ _ _ h => h) (Or.inl ⟨by kernel_rfl, ?_⟩) ?_
              rotate_left
              focus (intro w; go_simp; (try (with_reducible rfl)); done)
              go_simp
              refine wpAny_take (i := 13) (v := ?_) rfl (by kernel_rfl) (by kernel_rfl) (by kernel_rfl) (fun _ _ _ h => h) (Or.inl ⟨by kernel_rfl, ?_⟩) ?_
              rotate_left
              focus (intro w; go_simp; (try (with_reducible rfl)); done)
              go_simp
              refine wpAny_take (i := 14) (v := ?_) rfl (by kernel_rfl) (by kernel_rfl) (by kernel_rfl) (fun _ _ _ h => h) (Or.inl ⟨by kernel_rfl, ?_⟩) ?_
              rotate_left
              focus (intro w; go_simp; (try (with_reducible rfl)); done)
              go_simp
              refine wpAny_take (i := 15) (v := ?_) rfl (by kernel_rfl) (by kernel_rfl) (by kernel_rfl) (fun _ _ _ h => h) (Or.inl ⟨by kernel_rfl, ?_⟩) ?_
              rotate_left
              focus (intro w; go_simp; (try (with_reducible rfl)); done)
              go_simp
              refine wpAny_take (i := 16) (v := ?_) rfl (by kernel_rfl) (by kernel_rfl) (by kernel_rfl) (fun _ _ _ h => h) (Or.inl ⟨by kernel_rfl, ?_⟩) ?_
              rotate_left
              focus (intro w; go_simp; (try (with_reducible rfl)); done)
              go_simp
              refine wpAny_take (i := 17) (v := ?_) rfl (by kernel_rfl) (by kernel_rfl) (by kernel_rfl) (fun _ _ _ h => h) (Or.inl ⟨by kernel_rfl, ?_⟩) ?_
              rotate_left
              focus (intro w; go_simp; (try (with_reducible rfl)); done)
              go_simp
              refine wpAny_done (by kernel_rfl) ?_ _
              go_wp2
              go_meet
              case rel => exact ⟨rfl, H11.out⟩
            exact AllReady.nil
          exact AllReady.nil
        refine AllReady.cons rfl (fun K hK => ?_) ?_
        · go_simp
          try go_simp
          first
            | (refine hK _ _ ?_; clear hK K)
            | skip
          refine wpAny_ready (rs := [4]) (by kernel_rfl) (by simp) ?_
          refine AllReady.cons rfl (fun K hK => ?_) ?_
          · (go_simp; go_at_call 15; refine (HE4.out _ (H10.out.2.trans (HD10.out.mono H10.out.2.size))).mono ?_; rintro e w11 ⟨g11, c11, rfl, ho11, hb11⟩; have H11 : Hid (Below w.heap.size w w11) := (HBw.out.trans (HD10.out.mono HBw.out.size)).trans (hb11.mono (Nat.le_trans HBw.out.size HD10.out.size)); have e2 : (convert 25 9 (.slice (some ⟨g9, 0, none⟩) (512 * m) c9)).run Try.prog w11 = .ok (.string (strOfNums (aft m (frs m) T1 keep))) w11 := str_opt (H10.out.1.bytes.on (HD10.out.trans hb11)) HXl.out; have e3 : (convert 25 9 (.slice (some ⟨g11, 0, none⟩) (512 * m) c11)).run Try.prog w11 = .ok (.string (strOfNums (aft m (frs m) T1 keep))) w11 := str_opt ho11.bytes HXl.out; clear ho11 hb11)
            try go_simp
            first
              | (refine hK _ _ ?_; clear hK K)
              | skip
            refine wpAny_ready (rs := [5]) (by kernel_rfl) (by simp) ?_
            refine AllReady.cons rfl (fun K hK => ?_) ?_
            · go_simp
              try go_simp
              first
                | (refine hK _ _ ?_; clear hK K)
                | skip
              refine wpAny_take (i := 8) (v := ?_) rfl (by kernel_rfl) (by kernel_rfl) (by kernel_rfl) (fun _ _ _ h => h) (Or.inl ⟨by kernel_rfl, ?_⟩) ?_
              rotate_left
              focus (intro w; go_simp; (try (with_reducible rfl)); done)
              go_simp
              refine wpAny_take (i := 9) (v := ?_) rfl (by kernel_rfl) (by kernel_rfl) (by kernel_rfl) (fun _ _ _ h => h) (Or.inl ⟨by kernel_rfl, ?_⟩) ?_
              rotate_left
              focus (intro w; go_simp; (try (with_reducible rfl)); done)
              go_simp
              refine wpAny_take (i := 10) (v := ?_) rfl (by kernel_rfl) (by kernel_rfl) (by kernel_rfl) (fun _ _ _ h => h) (Or.inl ⟨by kernel_rfl, ?_⟩) ?_
              rotate_left
              focus (intro w; go_simp; (try (with_reducible rfl)); done)
              go_simp
              refine wpAny_take (i := 11) (v := ?_) rfl (by kernel_rfl) (by kernel_rfl) (by kernel_rfl) (fun _ _ _ h => h) (Or.inl ⟨by kernel_rfl, ?_⟩) ?_
              rotate_left
              focus (intro w; go_simp; (try (with_reducible rfl)); done)
              go_simp
              refine wpAny_take (i := 12) (v := ?_) rfl (by kernel_rfl) (by kernel_rfl) (by kernel_rfl) (fun _ _ _ h => h) (Or.inl ⟨by kernel_rfl, ?_⟩) ?_
              rotate_left
              focus (intro w; go_simp; (try (with_reducible rfl)); done)
              go_simp
              refine wpAny_take (i := 13) (v := ?_) rfl (by kernel_rfl) (by kernel_rfl) (by kernel_rfl) (fun _ _ _ h => h) (Or.inl ⟨by kernel_rfl, ?_⟩) ?_
              rotate_left
              focus (intro w; go_simp; (try (with_reducible rfl)); done)
              go_simp
              refine wpAny_take (i := 14) (v := ?_) rfl (by kernel_rfl) (by kernel_rfl) (by kernel_rfl) (fun _ _ _ h => h) (Or.inl ⟨by kernel_rfl, ?_⟩) ?_
              rotate_left
              focus (intro w; go_simp; (try (with_reducible rfl)); done)
              go_simp
              refine wpAny_take (i := 15) (v := ?_) rfl (by kernel_rfl) (by kernel_rfl) (by kernel_rfl) (fun _ _ _ h => h) (Or.inl ⟨by kernel_rfl, ?_⟩) ?_
              rotate_left
              focus (intro w; go_simp; (try (with_reducible rfl)); done)
              go_simp
              refine wpAny_take (i := 16) (v := ?_) rfl (by kernel_rfl) (by kernel_rfl) (by kernel_rfl) (fun _ _ _ h => h) (Or.inl ⟨by kernel_rfl, ?_⟩) ?_
              rotate_left
              focus (intro w; go_simp; (try (with_reducible rfl)); done)
              go_simp
              refine wpAny_take (i := 17) (v := ?_) rfl (by kernel_rfl) (by kernel_rfl) (by kernel_rfl) (fun _ _ _ h => h) (Or.inl ⟨by kernel_rfl, ?_⟩) ?_
              rotate_left
              focus (intro w; go_simp; (try (with_reducible rfl)); done)
              go_simp
              refine wpAny_done (by kernel_rfl) ?_ _
              go_wp2
              go_meet
              case rel => exact ⟨rfl, H11.out⟩
            exact AllReady.nil
          exact AllReady.nil
        exact AllReady.nil
      case rest =>
      obtain ⟨rfl, hbf⟩ := hcut
      go_wp2
      go_ret
      exact ⟨rfl, hbf⟩
end Go.Proofs.Ytccocjipgbeaeab
