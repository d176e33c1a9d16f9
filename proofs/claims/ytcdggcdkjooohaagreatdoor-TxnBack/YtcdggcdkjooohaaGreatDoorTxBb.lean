import Derived.Test.YtcdggcdkjooohaaGreatDoorTxBa
namespace Go.Proofs.YtcdggcdkjooohaaGreatDoor
open Go.RowKit Go.Maps Rec

/-- the list so far -/
structure IR (w0 wr : World) (v : Value) (L : List Bk) : Prop where
  row : wr.ownsRow 0 3 1 v L.length ((L.map Bk.n).map (Value.int .i64))
  far : ∀ b, v.ownBlock = some b → w0.heap.size ≤ b
  bel : Below w0.heap.size w0 wr
theorem IR.on {w0 w w' : World} {v : Value} {L : List Bk} (h : IR w0 w v L) (hb : Below w.heap.size w w') : IR w0 w' v L := ⟨owns_on h.row hb, h.far, h.bel.trans (hb.mono h.bel.size)⟩
theorem news_a (w : World) (v : Value) (t : TypeId) : ∀ (j : Nat) (y : Value), [v][j]? = some y → (w.alloc (.cells #[v] t)).cell? ((⟨w.heap.size, 0, none⟩ : Addr).add j) = some y := fun j y hj => by
  rw [Addr.add_lit, cell_of_row _ _ _ _ _ _ (heap_alloc_new _ _), Nat.zero_add]
  rw [← hj]
  match j with
  | 0 => rfl
  | j + 1 => simp
theorem IR.next {w0 wr w1 w' : World} {v : Value} {L : List Bk} {q : Bk} {g c : Nat} (h : IR w0 wr v L) (hb : Below wr.heap.size wr w1) (ho : w'.ownsRow 0 3 1 (.slice (some ⟨g, 0, none⟩) (L.length + 1) c) (L.length + 1) ((L.map Bk.n).map (Value.int .i64) ++ [.int .i64 q.n])) (hf : Fr (fun b => v.ownBlock = some b) w1 w') (hg : v.ownBlock = some g ∨ w1.heap.size ≤ g) : IR w0 w' (.slice (some ⟨g, 0, none⟩) (L.length + 1) c) (L ++ [q]) := by
  have hs := h.bel.size
  have hs1 := hb.size
  refine ⟨?_, fun b hk => ?_, (h.bel.trans (hb.mono hs)).trans (hf.below _ h.far (by omega))⟩
  · rw [List.length_append, List.map_append, List.map_append]; exact ho
  · cases hk
    rcases hg with e | e
    · exact h.far _ e
    · show w0.heap.size ≤ g
      omega
theorem lst_k {w : World} {T : Tx} (_ : TxAt w T) (k : Nat) : (lst T.c k).length ≤ k := by
  have := List.length_filterMap_le T.c (List.range k)
  simpa [lst] using this

/-- the transaction between two rounds -/
structure Rd (w0 w : World) (D : Dk) (T : Tx) (A B : Nat) (now : Nat → Int) (is : Nat → Bool) (v : Value) (l : List Int) (c : Cm) (n t : Nat) : Prop where
  rn : Rn w0 w D T A B now is v l
  c : T.c = c
  us : T.us.length = n
  t : T.t = t
  nb : T.nb = 118
theorem Rd.on {w0 w w' : World} {D : Dk} {T : Tx} {A B : Nat} {now : Nat → Int} {is : Nat → Bool} {v : Value} {l : List Int} {c : Cm} {n t : Nat} (h : Rd w0 w D T A B now is v l c n t) (hb : Below w.heap.size w w') : Rd w0 w' D T A B now is v l c n t := ⟨h.rn.on hb, h.c, h.us, h.t, h.nb⟩
theorem Rd.back {w0 w : World} {D : Dk} {T T' : Tx} {A B : Nat} {now : Nat → Int} {is : Nat → Bool} {v : Value} {l : List Int} {c c' : Cm} {n n' t k : Nat} (h : Rd w0 w D T' A B now is v l c' n' t) (hE : Ext T T' k) (hc : T.c = c) (hn : T.us.length = n) (hl : (lst c 118).length ≤ 96) :
    Calls Tryz.prog 13 #[.pointer (some ⟨t, 0, none⟩), .int .i64 (n : Int)] w fun e w' => e = .returned (.int .i64 0) ∧ ∃ T2, Rd w0 w' D T2 A B now is v l c n t ∧ T2.us = T.us := by
  have := ses_back w0 w D T T' k h.rn.ses h.nb hE n hn (by rw [hc]; exact hl)
  rw [h.t] at this
  refine this.mono ?_
  rintro e w' ⟨rfl, T2, s1, s2, s3, s4⟩
  exact ⟨rfl, T2, ⟨h.rn.mv s1 s2, s3.trans hc, by rw [s4]; exact hn, s2.t.trans h.t, s2.nb.trans h.nb⟩, s4⟩
theorem Rd.bad {w0 w : World} {D : Dk} {T : Tx} {A B : Nat} {now : Nat → Int} {is : Nat → Bool} {v : Value} {l : List Int} {c : Cm} {n t : Nat} (h : Rd w0 w D T A B now is v l c n t) (i : Int) (hi : i < 0 ∨ (n : Int) < i) :
    Calls Tryz.prog 13 #[.pointer (some ⟨t, 0, none⟩), .int .i64 i] w fun e w' => e = .returned (.int .i64 62) ∧ w = w' := by
  have := tback_bad w T h.rn.ses.tx i (by rw [h.us]; exact hi)
  rw [h.t] at this
  exact this
theorem Rd.fill {w0 w : World} {D : Dk} {T : Tx} {A B : Nat} {now : Nat → Int} {is : Nat → Bool} {v : Value} {l : List Int} {c : Cm} {n t : Nat} (h : Rd w0 w D T A B now is v l c n t) (a : Option Addr) (m cc : Nat) (P : List (Int × Int)) (hP : PtsAt w0 a P) (hl : P.length = m) (k : Nat) (hk : min m 60 = k) (hn : n ≤ 900000) :
    Calls Tryz.prog 10 #[.pointer (some ⟨t, 0, none⟩), .slice a m cc] w fun e w' => ∃ T2 now2 is2, e = .returned (.tuple #[.agg (rowU now2), .agg (rowB is2), .bool true]) ∧ Rd w0 w' D T2 A B now is v l T2.c (n + k) t ∧ Ext T T2 k := by
  have := fill_any w0 w D T h.rn.ses h.nb a m cc P hP hl (by rw [h.us]; exact hn)
  rw [h.t, hk] at this
  refine this.mono ?_
  rintro e w' ⟨T2, now2, is2, rfl, s1, s2, s3, _⟩
  refine ⟨T2, now2, is2, rfl, ⟨h.rn.mv s1 s2, rfl, ?_, s2.t.trans h.t, s2.nb.trans h.nb⟩, s3⟩
  obtain ⟨ext, e1, e2, _⟩ := s3
  rw [e1, List.length_append, h.us, e2]
theorem Rd.mark {w0 w : World} {D : Dk} {T : Tx} {A B : Nat} {now : Nat → Int} {is : Nat → Bool} {v : Value} {l : List Int} {c : Cm} {n t : Nat} (h : Rd w0 w D T A B now is v l c n t) :
    Calls Tryz.prog 11 #[.pointer (some ⟨t, 0, none⟩)] w fun e w' => e = .returned (.tuple #[.int .i64 (n : Int), .int .i64 0]) ∧ Below w.heap.size w w' := by
  have := mark_any w T h.rn.ses.tx
  rw [h.t, h.us] at this
  exact this
set_option maxRecDepth 100000 in
set_option maxHeartbeats 32000000 in
theorem backl_any (w : World) (a0 a1 a2 : Option Addr) (n0 c0 n1 c1 n2 c2 : Nat) (P0 P1 P2 : List (Int × Int)) (hP0 : PtsAt w a0 P0) (hl0 : P0.length = n0) (hP1 : PtsAt w a1 P1) (hl1 : P1.length = n1) (hP2 : PtsAt w a2 P2) (hl2 : P2.length = n2) (hT : TabAt w) :
    Calls Tryz.prog 3 #[.slice a0 n0 c0, .slice a1 n1 c1, .slice a2 n2 c2] w fun e w' => e = .returned (.bool true) ∧ Below w.heap.size w w' := by
  have HF : Hid (Calls Tryz.prog 7 #[.int .i64 118] w fun e w' => ∃ D d0, e = .returned (.pointer (some ⟨d0, 0, none⟩)) ∧ D.d = d0 ∧ Mine w w' D ∧ Fresh D.abs 118 (fr6 118)) := by
    refine (fresh6 w 118 (by omega) (by omega)).mono ?_
    rintro e w' ⟨D, rfl, h1, h2⟩
    exact ⟨D, _, rfl, rfl, h1, h2⟩
  have HTb : Hid (∀ wx, Below w.heap.size w wx → TabAt wx) := fun wx hb => hT.on hb
  have HP : Hid ((PtsAt w a0 P0 ∧ P0.length = n0) ∧ (PtsAt w a1 P1 ∧ P1.length = n1) ∧ (PtsAt w a2 P2 ∧ P2.length = n2)) := ⟨⟨hP0, hl0⟩, ⟨hP1, hl1⟩, ⟨hP2, hl2⟩⟩
  obtain ⟨m, hm⟩ : ∃ m, min n0 60 = m := ⟨_, rfl⟩
  obtain ⟨p, hp⟩ : ∃ p, min n1 60 = p := ⟨_, rfl⟩
  obtain ⟨r, hr⟩ : ∃ r, min n2 60 = r := ⟨_, rfl⟩
  have hm60 : m ≤ 60 := by omega
  have hp60 : p ≤ 60 := by omega
  have hr60 : r ≤ 60 := by omega
  have HK : Hid (min n0 60 = m ∧ min n1 60 = p ∧ min n2 60 = r) := ⟨hm, hp, hr⟩
  have HT0 : Hid (∀ wx, Calls Tryz.prog 12 #[.slice a0 n0 c0] wx fun e w' => e = .returned (.int .i64 (m : Int)) ∧ wx = w') := fun wx => by rw [← hm]; exact taken_any wx a0 n0 c0
  have HT1 : Hid (∀ wx, Calls Tryz.prog 12 #[.slice a1 n1 c1] wx fun e w' => e = .returned (.int .i64 (p : Int)) ∧ wx = w') := fun wx => by rw [← hp]; exact taken_any wx a1 n1 c1
  have HT2 : Hid (∀ wx, Calls Tryz.prog 12 #[.slice a2 n2 c2] wx fun e w' => e = .returned (.int .i64 (r : Int)) ∧ wx = w') := fun wx => by rw [← hr]; exact taken_any wx a2 n2 c2
  have hptr := ptr_nil
  have hptT := ptr_nilT
  clear hT hP0 hl0 hP1 hl1 hP2 hl2 hm hp hr
  go_enter Tryz.func3, Tryz.ntmps3
  go_upto_region 7 with (first
    | (go_at_call 7; refine HF.out.mono ?_; rintro e w1 ⟨D, d0, rfl, hd0, hm, hf⟩; have H1 : Hid (Mine w w1 D ∧ Fresh D.abs 118 (fr6 118) ∧ D.d = d0) := ⟨hm, hf, hd0⟩; clear hm hf hd0)
    | (go_at_call 8; refine (known_any w1 (HTb.out _ H1.out.1.bel)).mono ?_; rintro e w2 ⟨rfl, hb⟩; have H2 : Hid (Mine w w2 D) := H1.out.1.on hb; clear hb)
    | (go_at_call 9; refine (begin_ses w w2 D H2.out d0 H1.out.2.2).mono ?_; rintro e w3 ⟨T, rfl, hs, hc, hu, hb⟩; have H3 : Hid (Ses w w3 D T ∧ T.c = (fun _ => none) ∧ T.us = []) := ⟨hs, hc, hu⟩; clear hs hc hu hb))
  clear HF H2
  obtain ⟨t0, ht0⟩ : ∃ t0, T.t = t0 := ⟨_, rfl⟩
  have HFl : Hid (Calls Tryz.prog 10 #[.pointer (some ⟨t0, 0, none⟩), .slice a0 n0 c0] w3 fun e w' => ∃ T1 now is, e = .returned (.tuple #[.agg (rowU now), .agg (rowB is), .bool true]) ∧ Ses w w' D T1 ∧ Cnt (fun _ => none) T1.c now is ∧ T1.t = t0 ∧ T1.us.length = m ∧ T1.nb = 118) := by
    have hn : T.nb = 118 := by rw [← H3.out.1.nb]; exact H1.out.2.1.size
    have := fill_any w w3 D T H3.out.1 hn a0 n0 c0 P0 HP.out.1.1 HP.out.1.2 (by rw [H3.out.2.2]; simp)
    rw [ht0, H3.out.2.1, HK.out.1] at this
    refine this.mono ?_
    rintro e w' ⟨T1, now, is, rfl, s1, s2, s3, s4⟩
    refine ⟨T1, now, is, rfl, s1, s4, by rw [s2.t]; exact ht0, ?_, by rw [s2.nb]; exact hn⟩
    obtain ⟨ext, e1, e2, _⟩ := s3
    rw [e1, H3.out.2.2, List.nil_append, e2]
  rw [ht0]
  clear ht0 H3
  go_upto_region 8 with (first
    | (go_at_call 10; refine HFl.out.mono ?_; rintro e w4 ⟨T1, now, is, rfl, hs, hc, ht⟩; have H4 : Hid (Ses w w4 D T1 ∧ Cnt (fun _ => none) T1.c now is ∧ T1.t = t0 ∧ T1.us.length = m ∧ T1.nb = 118) := ⟨hs, hc, ht⟩; clear hs hc ht)
    | (have hh := H4.out; clear hh; refine wp_storeU rfl (.tmp 9) (.tmp 45) rfl w4.heap.size now rfl rfl (there_u w4) ?_; intro w4a h4a f4a; have H4a : Hid (w4a.rangeAt w4.heap.size 0 (rowU now).toList ∧ Fr (fun k => k = w4.heap.size) ((w4.alloc (.cells Tryz.zeroCells28 28)).alloc (.cells Tryz.zeroCells29 29)) w4a) := ⟨h4a, f4a⟩; clear h4a f4a)
    | (have hh := H4a.out; clear hh; refine wp_storeB rfl (.tmp 10) (.tmp 46) rfl (w4.heap.size + 1) is rfl rfl (there_b H4a.out.2) ?_; intro w5 h5 f5; have H5 : Hid (Pre6 w w5 D T1 w4.heap.size (w4.heap.size + 1) now is) := pre6_of H4.out.1 H4.out.2.1 H4a.out.1 H4a.out.2 h5 f5; clear h5 f5))
  have HU : Hid (T1.t = t0 ∧ T1.us.length = m ∧ T1.nb = 118) := H4.out.2.2
  clear HFl H4a H4
  obtain ⟨A, hA⟩ : ∃ A, w4.heap.size = A := ⟨_, rfl⟩
  rw [hA] at H5
  obtain ⟨B, hB⟩ : ∃ B, A + 1 = B := ⟨_, rfl⟩
  rw [hB] at H5
  rw [hA, hB]
  clear hA hB
  have HFr : Hid (Fresh D.abs 118 (fr6 118) ∧ D.d = d0) := ⟨H1.out.2.1, H1.out.2.2⟩
  clear H1
  have HMk : Hid (Calls Tryz.prog 11 #[.pointer (some ⟨t0, 0, none⟩)] w5 fun e w' => e = .returned (.tuple #[.int .i64 (m : Int), .int .i64 0]) ∧ Below w5.heap.size w5 w') := by
    have := mark_any w5 T1 H5.out.ses.tx
    rw [HU.out.1, HU.out.2.1] at this
    exact this
  go_upto_region 11 with (first
    | (go_at_call 11; refine HMk.out.mono ?_; rintro e w6 ⟨rfl, hb⟩; have H6 : Hid (Pre6 w w6 D T1 A B now is) := H5.out.on hb; clear hb)
    | (go_at_call 12; refine (HT0.out _).mono ?_; rintro e w' ⟨rfl, rfl⟩))
  clear HMk H5 HT0
  go_upto_region 13 with (fail)
  go_loopw [14, 15] (fun s8 s9 wr => ∃ k : Nat, 98 ≤ k ∧ k ≤ 118 ∧ s9 = .int .i64 k ∧ IR w6 wr s8 (lst T1.c k)) (fun _ s _ => 118 - (intOf s).toNat)
  case atStart => exact ⟨98, by omega, by omega, rfl, ⟨by rw [lst_low H6.out.ses.tx.ok 98 (by omega)]; exact ⟨rfl, .inl ⟨rfl, rfl⟩⟩, (fun b hb => by cases hb), Below.refl _ _⟩⟩
  case round =>
    obtain ⟨k, hk0, hk1, rfl, hI⟩ := hrel
    have HI : Hid (IR w6 wr u14 (lst T1.c k)) := hI
    clear hI
    by_cases hlt : k < 118
    · obtain ⟨bk, hbk⟩ : ∃ bk, is k = bk := ⟨_, rfl⟩
      have b0 : wr.cell? ⟨B, k, none⟩ = some (.bool bk) := by rw [← hbk]; exact (H6.out.on HI.out.bel).rw.cb k hlt
      have HBk : Hid (bk = (T1.c k).isSome) := by rw [← hbk]; exact H6.out.cnt.is k hk0 hlt
      have hki : (k : Int) < 118 := by omega
      clear hbk
      cases bk with
      | true =>
        obtain ⟨q, hq⟩ : ∃ q, T1.c k = some q := Option.isSome_iff_exists.1 HBk.out.symm
        have HQ : Hid (lst T1.c (k + 1) = lst T1.c k ++ [q] ∧ q.n = (k : Int)) := ⟨by rw [lst_next, hq]; rfl, H6.out.ses.tx.ok.num k q hq⟩
        clear hq
        obtain ⟨i0, hi, hz0, hz1, hz2⟩ := info_parts info3
        go_wp2_with (at_builtin; refine wp_own rfl (.tmp 72) (.tmp 74) 36 rfl 3 i0 _ 1 8 Tryz.underlying36 hi hz0 hz1 hz2 rfl (by decide) u14 (lst T1.c k).length _ rfl (owns_on HI.out.row ((Below.refl _ _).alloc (Nat.le_refl _) _)) ⟨wr.heap.size, 0, none⟩ 1 1 [.int .i64 (k : Int)] rfl (by omega) rfl (news_a wr _ _) (by intro u hu; simp at hu; subst hu; rfl) (by have := lst_k H6.out.ses.tx k; unfold maxLen; omega) (by have := lst_k H6.out.ses.tx k; omega) ?_; intro g2 c2 w10 ho hf hg; have H10 : Hid (IR w6 w10 (.slice (some ⟨g2, 0, none⟩) ((lst T1.c k).length + 1) c2) (lst T1.c (k + 1))) := by rw [HQ.out.1]; exact HI.out.next (q := q) ((Below.refl _ _).alloc (Nat.le_refl _) _) (by rw [HQ.out.2]; exact ho) hf hg)
        exact ⟨⟨k + 1, by omega, hlt, rfl, H10.out⟩, by simp [intOf]; omega⟩
      | false =>
        have HQ : Hid (lst T1.c (k + 1) = lst T1.c k) := by
          have := HBk.out
          rw [lst_next, Option.isSome_eq_false_iff.1 this.symm |> Option.isNone_iff_eq_none.1]; simp [Hid]
        go_wp2
        exact ⟨⟨k + 1, by omega, hlt, rfl, by rw [HQ.out]; exact HI.out⟩, by simp [intOf]; omega⟩
    · have hge : 118 ≤ k := by omega
      have hk : k = 118 := by omega
      obtain ⟨ln, hln⟩ : ∃ ln, (lst T1.c 118).length = ln := ⟨_, rfl⟩
      have HX : Hid (Rd w wr D T1 A B now is u14 ((lst T1.c 118).map Bk.n) T1.c m t0) := by
        have hI := HI.out
        rw [hk] at hI
        have hx := H6.out.on hI.bel
        exact ⟨⟨hx.ses, hx.rw, ⟨hx.nA.1, hx.nA.2.1⟩, ⟨hx.nB.1, hx.nB.2.1⟩, ints_of hI.row (by simp), fun g hg => ⟨fun e => by have := H6.out.ses.tx.lt e; have := hI.far g hg; omega, owns_block hI.row hg⟩⟩, rfl, HU.out.2.1, HU.out.1, HU.out.2.2⟩
      have HCn : Hid (Cnt (fun _ => none) T1.c now is ∧ (lst T1.c 118).length = ln ∧ ln ≤ 96) := by
        refine ⟨H6.out.cnt, hln, ?_⟩
        have := H6.out.ses.tx.cnt
        rw [HU.out.2.2, hln] at this
        exact this
      clear hk HI H6 hln
      obtain ⟨la, lc, hu14, _⟩ := HX.out.rn.ints
      rw [List.length_map, HCn.out.2.1] at hu14
      subst hu14
      obtain ⟨V0, hV0⟩ : ∃ V0, (Value.slice la ln lc) = V0 := ⟨_, rfl⟩
      rw [hV0] at HX
      have HV : Hid (V0 = .slice la ln lc) := hV0.symm
      rw [hV0]
      clear hV0
      go_upto_region 18 with (fail)
      go_loopw [16] (fun s16 wr => ∃ (j : Nat) (T : Tx), j ≤ 2 ∧ s16 = .int .i64 j ∧ Rd w wr D T A B now is V0 ((lst T1.c 118).map Bk.n) T1.c m t0) (fun s _ => 2 - (intOf s).toNat)
      case atStart => exact ⟨0, T1, by omega, rfl, HX.out⟩
      case round =>
        clear HX
        obtain ⟨j, Tr, hj, rfl, hR⟩ := hrel
        have HR : Hid (Rd w wr D Tr A B now is V0 ((lst T1.c 118).map Bk.n) T1.c m t0) := hR
        clear hR
        by_cases hj2 : j < 2
        · have hji : (j : Int) < 2 := by omega
          have HF2 : Hid (Calls Tryz.prog 10 #[.pointer (some ⟨t0, 0, none⟩), .slice a1 n1 c1] wr fun e w' => ∃ T2 now2 is2, e = .returned (.tuple #[.agg (rowU now2), .agg (rowB is2), .bool true]) ∧ Rd w w' D T2 A B now is V0 ((lst T1.c 118).map Bk.n) T2.c (m + p) t0 ∧ Ext Tr T2 p) := HR.out.fill a1 n1 c1 P1 HP.out.2.1.1 HP.out.2.1.2 p HK.out.2.1 (by omega)
          go_upto_region 21 with (first
            | (go_at_call 10; refine HF2.out.mono ?_; rintro e w19 ⟨T2, now2, is2, rfl, hx⟩; have H19 : Hid (Rd w w19 D T2 A B now is V0 ((lst T1.c 118).map Bk.n) T2.c (m + p) t0 ∧ Ext Tr T2 p) := hx; clear hx)
            | (have hh := H19.out; clear hh; refine wp_storeU rfl (.tmp 17) (.tmp 84) rfl w19.heap.size now2 rfl rfl (there_u w19) ?_; intro w19a h4a f4a; have H19a : Hid (Fr (fun k => k = w19.heap.size) ((w19.alloc (.cells Tryz.zeroCells28 28)).alloc (.cells Tryz.zeroCells29 29)) w19a) := f4a; clear h4a f4a)
            | (have hh := H19a.out; clear hh; refine wp_storeB rfl (.tmp 18) (.tmp 85) rfl (w19.heap.size + 1) is2 rfl rfl (there_b H19a.out) ?_; intro w20 h5 f5; have H20 : Hid (Rd w w20 D T2 A B now is V0 ((lst T1.c 118).map Bk.n) T2.c (m + p) t0) := H19.out.1.on (bel6 H19a.out f5); clear h5 f5))
          have HE2 : Hid (Ext Tr T2 p) := H19.out.2
          clear HF2 H19a H19
          have HMk : Hid (Calls Tryz.prog 11 #[.pointer (some ⟨t0, 0, none⟩)] w20 fun e w' => e = .returned (.tuple #[.int .i64 ((m : Int) + (p : Int)), .int .i64 0]) ∧ Below w20.heap.size w20 w') := by
            have := H20.out.mark
            rw [Int.natCast_add] at this
            exact this
          have q1 : wrap64 ((m : Int) + (p : Int)) = (m : Int) + (p : Int) := by rw [wrap64]; omega
          go_upto_region 24 with (first
            | (go_at_call 11; refine HMk.out.mono ?_; rintro e w21 ⟨rfl, hb⟩; have H21 : Hid (Rd w w21 D T2 A B now is V0 ((lst T1.c 118).map Bk.n) T2.c (m + p) t0) := H20.out.on hb; clear hb)
            | (go_at_call 12; refine (HT1.out _).mono ?_; rintro e w' ⟨rfl, rfl⟩))
          clear HMk H20
          have HF3 : Hid (Calls Tryz.prog 10 #[.pointer (some ⟨t0, 0, none⟩), .slice a2 n2 c2] w21 fun e w' => ∃ T3 now3 is3, e = .returned (.tuple #[.agg (rowU now3), .agg (rowB is3), .bool true]) ∧ Rd w w' D T3 A B now is V0 ((lst T1.c 118).map Bk.n) T3.c (m + p + r) t0 ∧ Ext T2 T3 r) := H21.out.fill a2 n2 c2 P2 HP.out.2.2.1 HP.out.2.2.2 r HK.out.2.2 (by omega)
          go_upto_region 25 with (go_at_call 10; refine HF3.out.mono ?_; rintro e w24 ⟨T3, now3, is3, rfl, hx⟩; have H24 : Hid (Rd w w24 D T3 A B now is V0 ((lst T1.c 118).map Bk.n) T3.c (m + p + r) t0 ∧ Ext T2 T3 r) := hx; clear hx)
          clear HF3
          have HB1 : Hid (Calls Tryz.prog 13 #[.pointer (some ⟨t0, 0, none⟩), .int .i64 ((m : Int) + (p : Int) + (r : Int) + 1)] w24 fun e w' => e = .returned (.int .i64 62) ∧ w24 = w') := H24.out.1.bad _ (.inr (by omega))
          have HB2 : Hid (Calls Tryz.prog 13 #[.pointer (some ⟨t0, 0, none⟩), .int .i64 ((m : Int) + (p : Int))] w24 fun e w' => e = .returned (.int .i64 0) ∧ ∃ T4, Rd w w' D T4 A B now is V0 ((lst T1.c 118).map Bk.n) T2.c (m + p) t0 ∧ T4.us = T2.us) := by
            have hc := H21.out.rn.ses.tx.cnt
            rw [H21.out.nb] at hc
            have := H24.out.1.back H24.out.2 rfl H21.out.us hc
            rw [Int.natCast_add] at this
            exact this
          have HB3 : Hid (∀ wx T4, Rd w wx D T4 A B now is V0 ((lst T1.c 118).map Bk.n) T2.c (m + p) t0 → Calls Tryz.prog 13 #[.pointer (some ⟨t0, 0, none⟩), .int .i64 ((m : Int) + (p : Int) + 1)] wx fun e w' => e = .returned (.int .i64 62) ∧ wx = w') := fun wx T4 h => h.bad _ (.inr (by omega))
          have HB4 : Hid (∀ wx T4, Rd w wx D T4 A B now is V0 ((lst T1.c 118).map Bk.n) T2.c (m + p) t0 → T4.us = T2.us → Calls Tryz.prog 13 #[.pointer (some ⟨t0, 0, none⟩), .int .i64 (m : Int)] wx fun e w' => e = .returned (.int .i64 0) ∧ ∃ T5, Rd w w' D T5 A B now is V0 ((lst T1.c 118).map Bk.n) T1.c m t0) := fun wx T4 h hu => by
            obtain ⟨ext, e1, e2, e3⟩ := HE2.out
            have hE : Ext Tr T4 p := ⟨ext, by rw [hu, e1], e2, by rw [h.c]; exact e3⟩
            refine (h.back hE HR.out.c HR.out.us (by rw [HCn.out.2.1]; exact HCn.out.2.2)).mono ?_
            rintro e w' ⟨rfl, T5, h5, _⟩
            exact ⟨rfl, T5, h5⟩
          have HB5 : Hid (∀ wx T5, Rd w wx D T5 A B now is V0 ((lst T1.c 118).map Bk.n) T1.c m t0 → Calls Tryz.prog 13 #[.pointer (some ⟨t0, 0, none⟩), .int .i64 ((m : Int) + 1)] wx fun e w' => e = .returned (.int .i64 62) ∧ wx = w') := fun wx T5 h => h.bad _ (.inr (by omega))
          have HB6 : Hid (∀ wx T5, Rd w wx D T5 A B now is V0 ((lst T1.c 118).map Bk.n) T1.c m t0 → Calls Tryz.prog 13 #[.pointer (some ⟨t0, 0, none⟩), .int .i64 (-1)] wx fun e w' => e = .returned (.int .i64 62) ∧ wx = w') := fun wx T5 h => h.bad _ (.inl (by omega))
          have q2 : wrap64 ((m : Int) + (p : Int) + (r : Int)) = (m : Int) + (p : Int) + (r : Int) := by rw [wrap64]; omega
          have q3 : wrap64 ((m : Int) + (p : Int) + (r : Int) + 1) = (m : Int) + (p : Int) + (r : Int) + 1 := by rw [wrap64]; omega
          have q4 : wrap64 ((m : Int) + (p : Int) + 1) = (m : Int) + (p : Int) + 1 := by rw [wrap64]; omega
          have q5 : wrap64 ((m : Int) + 1) = (m : Int) + 1 := by rw [wrap64]; omega
          clear H21
          go_upto_region 27 with (first
            | (go_at_call 12; refine (HT2.out _).mono ?_; rintro e w' ⟨rfl, rfl⟩)
            | (go_at_call 13; have hh := HB1.out; clear hh; refine HB1.out.mono ?_; rintro e w' ⟨rfl, rfl⟩; have K2 : Hid True := trivial; clear HB1)
            | (go_at_call 13; have hh := K2.out; clear hh; refine HB2.out.mono ?_; rintro e w25 ⟨rfl, T4, h4, h4u⟩; have H25 : Hid (Rd w w25 D T4 A B now is V0 ((lst T1.c 118).map Bk.n) T2.c (m + p) t0 ∧ T4.us = T2.us) := ⟨h4, h4u⟩; have K3 : Hid True := trivial; clear K2 HB2 h4 h4u)
            | (go_at_call 13; have hh := K3.out; clear hh; refine (HB3.out w25 T4 H25.out.1).mono ?_; rintro e w' ⟨rfl, rfl⟩; have K4 : Hid True := trivial; clear K3)
            | (go_at_call 13; have hh := K4.out; clear hh; refine (HB4.out w25 T4 H25.out.1 H25.out.2).mono ?_; rintro e w26 ⟨rfl, T5, h5⟩; have H26 : Hid (Rd w w26 D T5 A B now is V0 ((lst T1.c 118).map Bk.n) T1.c m t0) := h5; have K5 : Hid True := trivial; clear K4 h5)
            | (go_at_call 13; have hh := K5.out; clear hh; refine (HB5.out w26 T5 H26.out).mono ?_; rintro e w' ⟨rfl, rfl⟩; have K6 : Hid True := trivial; clear K5)
            | (go_at_call 13; have hh := K6.out; clear hh; refine (HB6.out w26 T5 H26.out).mono ?_; rintro e w' ⟨rfl, rfl⟩; clear K6))
          clear HB3 HB4 HB5 HB6 H25 H24 q1 q2 q3 q4 q5
          have HWt : Hid (Calls Tryz.prog 15 #[.pointer (some ⟨t0, 0, none⟩)] w26 fun e w' => ∃ v, e = .returned v ∧ IntsAt w' v ((lst T1.c 118).map Bk.n) ∧ Below w26.heap.size w26 w') := by
            have hx := H26.out
            have := written_any w26 T5 hx.rn.ses.tx
            rw [hx.t, hx.nb, hx.c] at this
            refine this.mono ?_
            rintro e w' ⟨v, rfl, hr, _, hb⟩
            exact ⟨v, rfl, ints_of hr (by simp), hb⟩
          have HL : Hid (((lst T1.c 118).map Bk.n).length ≤ 1000000) := by
            have := HCn.out.2
            simp [Hid]
            omega
          go_upto_region 29 with (first
            | (go_at_call 15; refine HWt.out.mono ?_; rintro e w27 ⟨v, rfl, hv, hb⟩; have H27 : Hid (IntsAt w27 v ((lst T1.c 118).map Bk.n) ∧ Rd w w27 D T5 A B now is V0 ((lst T1.c 118).map Bk.n) T1.c m t0) := ⟨hv, H26.out.on hb⟩; clear hv hb)
            | (go_at_call 14; refine (sameInts_yes w27 v V0 _ _ rfl HL.out H27.out.1 H27.out.2.rn.ints).mono ?_; rintro e w28 ⟨rfl, hb⟩; have H28 : Hid (Rd w w28 D T5 A B now is V0 ((lst T1.c 118).map Bk.n) T1.c m t0) := H27.out.2.on hb; clear hb))
          clear HWt H26
          have HRd : Hid (∀ wx, Below w28.heap.size w28 wx → ∀ i : Nat, 98 ≤ i → i < 118 → Calls Tryz.prog 16 #[.pointer (some ⟨t0, 0, none⟩), .int .i64 (i : Int)] wx fun e w' => ∃ g cap, e = .returned (.tuple #[.slice (some ⟨g, 0, none⟩) 512 cap, .int .i64 0]) ∧ OwnB w' g cap (one (now i)) ∧ Below wx.heap.size wx w') := fun wx hb i h0 h1 => by
            have hx := H28.out.on hb
            have hs := hx.rn.ses
            have hn := hx.nb
            have := tread_any wx T5 D hs.tx hs.dk.disk hs.d hs.nb HFr.out.1.down i (by omega)
            rw [hx.t] at this
            refine this.mono ?_
            rintro e w' ⟨g, cap, rfl, _, ho, hb⟩
            have hv := HCn.out.1.val i h0 h1
            rw [HFr.out.1.full, hx.c] at ho
            rw [← hv]
            exact ⟨g, cap, rfl, ho, hb⟩
          go_upto_region 30 with (fail)
          go_loopw [22] (fun s22 wr => ∃ k : Nat, 98 ≤ k ∧ k ≤ 118 ∧ s22 = .int .i64 k ∧ Below w28.heap.size w28 wr) (fun s _ => 118 - (intOf s).toNat)
          case atStart => exact ⟨98, by omega, by omega, rfl, Below.refl _ _⟩
          case round =>
            obtain ⟨k, hk0, hk1, rfl, hI⟩ := hrel
            have HI : Hid (Below w28.heap.size w28 wr) := hI
            clear hI
            by_cases hlt : k < 118
            · obtain ⟨nk, hnk⟩ : ∃ nk, now k = nk := ⟨_, rfl⟩
              have HNk : Hid (0 ≤ nk ∧ nk < 256) := by rw [← hnk]; exact (HCn.out.1 k hk0 hlt).1
              have HR1 : Hid (Calls Tryz.prog 16 #[.pointer (some ⟨t0, 0, none⟩), .int .i64 (k : Int)] wr fun e w' => ∃ g cap, e = .returned (.tuple #[.slice (some ⟨g, 0, none⟩) 512 cap, .int .i64 0]) ∧ OwnB w' g cap (one nk) ∧ Below wr.heap.size wr w') := by rw [← hnk]; exact HRd.out wr HI.out k hk0 hlt
              have HCl : Hid (∀ wx, Below w28.heap.size w28 wx → wx.cell? ⟨A, k, none⟩ = some (.int .u8 nk)) := fun wx hb => by
                rw [← hnk]
                exact (H28.out.on hb).rn.rw.cu k hlt
              clear hnk
              go_upto_region 33 with (go_at_call 16; refine HR1.out.mono ?_; rintro e w33 ⟨ga, ca, rfl, ho, hb⟩; have H33 : Hid (OwnB w33 ga ca (one nk) ∧ Below w28.heap.size w28 w33) := ⟨ho, HI.out.trans (hb.mono HI.out.size)⟩; clear ho hb)
              have HCa : Hid (∀ wx, Below w33.heap.size w33 wx → (convert 40 9 (.slice (some ⟨ga, 0, none⟩) 512 ca)).run Tryz.prog wx = .ok (.string (strOfNums (one nk))) wx) := fun wx hb => str_opt (H33.out.1.bytes.on hb) (one_length _)
              have HD : Hid (Below w33.heap.size w33 w33.drew) := (Below.refl _ w33).drew
              have e0 := HCa.out _ HD.out
              have a0' := HCl.out _ H33.out.2
              have hki : (k : Int) < 118 := by omega
              go_cut [182] (fun s wx => s = .bool false ∧ Below w33.heap.size w33 wx)
              case first => as_aux_lemma =>
                refine wp_region_any (by as_aux_lemma => kernel_rfl) ?_
                try (change wpAny _ _ _ _ _ _ _ (World.drew _))
                refine wpAny_take (i := 0) (v := ?_) rfl (by as_aux_lemma => kernel_rfl) (by as_aux_lemma => kernel_rfl) (by as_aux_lemma => kernel_rfl) (fun _ _ _ h => h) (Or.inl ⟨by as_aux_lemma => kernel_rfl, ?_⟩) ?_
                rotate_left
                focus (intro w; go_simp; (try (with_reducible rfl)); done)
                go_simp
                refine wpAny_take (i := 1) (v := ?_) rfl (by as_aux_lemma => kernel_rfl) (by as_aux_lemma => kernel_rfl) (by as_aux_lemma => kernel_rfl) (fun _ _ _ h => h) (Or.inl ⟨by as_aux_lemma => kernel_rfl, ?_⟩) ?_
                rotate_left
                focus (intro w; go_simp; (try (with_reducible rfl)); done)
                go_simp
                refine wpAny_take (i := 2) (v := ?_) rfl (by as_aux_lemma => kernel_rfl) (by as_aux_lemma => kernel_rfl) (by as_aux_lemma => kernel_rfl) (fun _ _ _ h => h) (Or.inl ⟨by as_aux_lemma => kernel_rfl, ?_⟩) ?_
                rotate_left
                focus (intro w; go_simp; (try (with_reducible rfl)); done)
                go_simp
                refine wpAny_take (i := 3) (v := ?_) rfl (by as_aux_lemma => kernel_rfl) (by as_aux_lemma => kernel_rfl) (by as_aux_lemma => kernel_rfl) (fun _ _ _ h => h) (Or.inl ⟨by as_aux_lemma => kernel_rfl, ?_⟩) ?_
                rotate_left
                focus (intro w; go_simp; (try (with_reducible rfl)); done)
                go_simp
                refine wpAny_take (i := 5) (v := ?_) rfl (by as_aux_lemma => kernel_rfl) (by as_aux_lemma => kernel_rfl) (by as_aux_lemma => kernel_rfl) (fun _ _ _ h => h) (Or.inl ⟨by as_aux_lemma => kernel_rfl, ?_⟩) ?_
                rotate_left
                focus (intro w; go_simp; (try (with_reducible rfl)); done)
                go_simp
                refine wpAny_take (i := 6) (v := ?_) rfl (by as_aux_lemma => kernel_rfl) (by as_aux_lemma => kernel_rfl) (by as_aux_lemma => kernel_rfl) (fun _ _ _ h => h) (Or.inl ⟨by as_aux_lemma => kernel_rfl, ?_⟩) ?_
                rotate_left
                focus (intro w; go_simp; (try (with_reducible rfl)); done)
                go_simp
                refine wpAny_ready (rs := [4, 7]) (by as_aux_lemma => kernel_rfl) (by simp) ?_
                refine AllReady.cons rfl (fun K hK => ?_) ?_
                · go_simp
                  try go_simp
                  first
                    | (refine hK _ _ ?_; clear hK K)
                    | skip
                  refine wpAny_ready (rs := [7]) (by as_aux_lemma => kernel_rfl) (by simp) ?_
                  refine AllReady.cons rfl (fun K hK => ?_) ?_
                  · go_simp
                    try go_simp
                    first
                      | (refine hK _ _ ?_; clear hK K)
                      | skip
                    refine wpAny_ready (rs := [8]) (by as_aux_lemma => kernel_rfl) (by simp) ?_
                    refine AllReady.cons rfl (fun K hK => ?_) ?_
                    · (go_simp; go_at_call 17; refine (lblock_any _ nk HNk.out).mono ?_; rintro e w34 ⟨rfl, ho, hb⟩; have H34 : Hid (Below w33.heap.size w33 w34) := HD.out.trans (hb.mono HD.out.size); have e1 := HCa.out _ H34.out; have e2 : (convert 40 9 (.slice (some ⟨w33.heap.size, 0, none⟩) 512 512)).run Tryz.prog w34 = .ok (.string (strOfNums (one nk))) w34 := str_opt ho.bytes (one_length _); clear ho hb)
                      try go_simp
                      first
                        | (refine hK _ _ ?_; clear hK K)
                        | skip
                      refine wpAny_ready (rs := [9]) (by as_aux_lemma => kernel_rfl) (by simp) ?_
                      refine AllReady.cons rfl (fun K hK => ?_) ?_
                      · go_simp
                        try go_simp
                        first
                          | (refine hK _ _ ?_; clear hK K)
                          | skip
                        refine wpAny_take (i := 10) (v := ?_) rfl (by as_aux_lemma => kernel_rfl) (by as_aux_lemma => kernel_rfl) (by as_aux_lemma => kernel_rfl) (fun _ _ _ h => h) (Or.inl ⟨by as_aux_lemma => kernel_rfl, ?_⟩) ?_
                        rotate_left
                        focus (intro w; go_simp; (try (with_reducible rfl)); done)
                        go_simp
                        refine wpAny_take (i := 11) (v := ?_) rfl (by as_aux_lemma => kernel_rfl) (by as_aux_lemma => kernel_rfl) (by as_aux_lemma => kernel_rfl) (fun _ _ _ h => h) (Or.inl ⟨by as_aux_lemma => kernel_rfl, ?_⟩) ?_
                        rotate_left
                        focus (intro w; go_simp; (try (with_reducible rfl)); done)
                        go_simp
                        refine wpAny_done (by kernel_rfl) ?_ _
                        go_wp2
                        go_meet
                        case rel => exact ⟨by simp, H34.out⟩
                      exact AllReady.nil
                    exact AllReady.nil
                  exact AllReady.nil
                refine AllReady.cons rfl (fun K hK => ?_) ?_
                · go_simp
                  try go_simp
                  first
                    | (refine hK _ _ ?_; clear hK K)
                    | skip
                  refine wpAny_ready (rs := [4, 8]) (by as_aux_lemma => kernel_rfl) (by simp) ?_
                  refine AllReady.cons rfl (fun K hK => ?_) ?_
                  · go_simp
                    try go_simp
                    first
                      | (refine hK _ _ ?_; clear hK K)
                      | skip
                    refine wpAny_ready (rs := [8]) (by as_aux_lemma => kernel_rfl) (by simp) ?_
                    refine AllReady.cons rfl (fun K hK => ?_) ?_
                    · (go_simp; go_at_call 17; refine (lblock_any _ nk HNk.out).mono ?_; rintro e w34 ⟨rfl, ho, hb⟩; have H34 : Hid (Below w33.heap.size w33 w34) := HD.out.trans (hb.mono HD.out.size); have e1 := HCa.out _ H34.out; have e2 : (convert 40 9 (.slice (some ⟨w33.heap.size, 0, none⟩) 512 512)).run Tryz.prog w34 = .ok (.string (strOfNums (one nk))) w34 := str_opt ho.bytes (one_length _); clear ho hb)
                      try go_simp
                      first
                        | (refine hK _ _ ?_; clear hK K)
                        | skip
                      refine wpAny_ready (rs := [9]) (by as_aux_lemma => kernel_rfl) (by simp) ?_
                      refine AllReady.cons rfl (fun K hK => ?_) ?_
                      · go_simp
                        try go_simp
                        first
                          | (refine hK _ _ ?_; clear hK K)
                          | skip
                        refine wpAny_take (i := 10) (v := ?_) rfl (by as_aux_lemma => kernel_rfl) (by as_aux_lemma => kernel_rfl) (by as_aux_lemma => kernel_rfl) (fun _ _ _ h => h) (Or.inl ⟨by as_aux_lemma => kernel_rfl, ?_⟩) ?_
                        rotate_left
                        focus (intro w; go_simp; (try (with_reducible rfl)); done)
                        go_simp
                        refine wpAny_take (i := 11) (v := ?_) rfl (by as_aux_lemma => kernel_rfl) (by as_aux_lemma => kernel_rfl) (by as_aux_lemma => kernel_rfl) (fun _ _ _ h => h) (Or.inl ⟨by as_aux_lemma => kernel_rfl, ?_⟩) ?_
                        rotate_left
                        focus (intro w; go_simp; (try (with_reducible rfl)); done)
                        go_simp
                        refine wpAny_done (by kernel_rfl) ?_ _
                        go_wp2
                        go_meet
                        case rel => exact ⟨by simp, H34.out⟩
                      exact AllReady.nil
                    exact AllReady.nil
                  refine AllReady.cons rfl (fun K hK => ?_) ?_
                  · (go_simp; go_at_call 17; refine (lblock_any _ nk HNk.out).mono ?_; rintro e w34 ⟨rfl, ho, hb⟩; have H34 : Hid (Below w33.heap.size w33 w34) := HD.out.trans (hb.mono HD.out.size); have e1 := HCa.out _ H34.out; have e2 : (convert 40 9 (.slice (some ⟨w33.heap.size, 0, none⟩) 512 512)).run Tryz.prog w34 = .ok (.string (strOfNums (one nk))) w34 := str_opt ho.bytes (one_length _); clear ho hb)
                    try go_simp
                    first
                      | (refine hK _ _ ?_; clear hK K)
                      | skip
                    refine wpAny_ready (rs := [4, 9]) (by as_aux_lemma => kernel_rfl) (by simp) ?_
                    refine AllReady.cons rfl (fun K hK => ?_) ?_
                    · go_simp
                      try go_simp
                      first
                        | (refine hK _ _ ?_; clear hK K)
                        | skip
                      refine wpAny_ready (rs := [9]) (by as_aux_lemma => kernel_rfl) (by simp) ?_
                      refine AllReady.cons rfl (fun K hK => ?_) ?_
                      · go_simp
                        try go_simp
                        first
                          | (refine hK _ _ ?_; clear hK K)
                          | skip
                        refine wpAny_take (i := 10) (v := ?_) rfl (by as_aux_lemma => kernel_rfl) (by as_aux_lemma => kernel_rfl) (by as_aux_lemma => kernel_rfl) (fun _ _ _ h => h) (Or.inl ⟨by as_aux_lemma => kernel_rfl, ?_⟩) ?_
                        rotate_left
                        focus (intro w; go_simp; (try (with_reducible rfl)); done)
                        go_simp
                        refine wpAny_take (i := 11) (v := ?_) rfl (by as_aux_lemma => kernel_rfl) (by as_aux_lemma => kernel_rfl) (by as_aux_lemma => kernel_rfl) (fun _ _ _ h => h) (Or.inl ⟨by as_aux_lemma => kernel_rfl, ?_⟩) ?_
                        rotate_left
                        focus (intro w; go_simp; (try (with_reducible rfl)); done)
                        go_simp
                        refine wpAny_done (by kernel_rfl) ?_ _
                        go_wp2
                        go_meet
                        case rel => exact ⟨by simp, H34.out⟩
                      exact AllReady.nil
                    refine AllReady.cons rfl (fun K hK => ?_) ?_
                    · go_simp
                      try go_simp
                      first
                        | (refine hK _ _ ?_; clear hK K)
                        | skip
                      refine wpAny_ready (rs := [4]) (by as_aux_lemma => kernel_rfl) (by simp) ?_
                      refine AllReady.cons rfl (fun K hK => ?_) ?_
                      · go_simp
                        try go_simp
                        first
                          | (refine hK _ _ ?_; clear hK K)
                          | skip
                        refine wpAny_take (i := 10) (v := ?_) rfl (by as_aux_lemma => kernel_rfl) (by as_aux_lemma => kernel_rfl) (by as_aux_lemma => kernel_rfl) (fun _ _ _ h => h) (Or.inl ⟨by as_aux_lemma => kernel_rfl, ?_⟩) ?_
                        rotate_left
                        focus (intro w; go_simp; (try (with_reducible rfl)); done)
                        go_simp
                        refine wpAny_take (i := 11) (v := ?_) rfl (by as_aux_lemma => kernel_rfl) (by as_aux_lemma => kernel_rfl) (by as_aux_lemma => kernel_rfl) (fun _ _ _ h => h) (Or.inl ⟨by as_aux_lemma => kernel_rfl, ?_⟩) ?_
                        rotate_left
                        focus (intro w; go_simp; (try (with_reducible rfl)); done)
                        go_simp
                        refine wpAny_done (by kernel_rfl) ?_ _
                        go_wp2
                        go_meet
                        case rel => exact ⟨by simp, H34.out⟩
                      exact AllReady.nil
                    exact AllReady.nil
                  exact AllReady.nil
                exact AllReady.nil
              case rest =>
              obtain ⟨rfl, hb⟩ := hcut
              have HW : Hid (Below w28.heap.size w28 wc) := H33.out.2.trans (hb.mono H33.out.2.size)
              clear e0 a0' HCa HD HR1 hb
              go_wp2
              exact ⟨⟨k + 1, by omega, hlt, rfl, HW.out⟩, by simp [intOf]; omega⟩
            · have hge : 118 ≤ k := by omega
              clear HRd
              go_wp2
              exact ⟨⟨j + 1, T5, by omega, rfl, H28.out.on HI.out⟩, by simp [intOf]; omega⟩
        · have hjg : 2 ≤ j := by omega
          have HCm : Hid (Calls Tryz.prog 18 #[.pointer (some ⟨t0, 0, none⟩)] wr fun e w' => e = .returned (.int .i64 0) ∧ BkE w w' d0 A B now is ln) := by
            have hx := HR.out
            have := back_commit w wr D Tr A B now is V0 _ hx.rn (HTb.out _ hx.rn.ses.bel) HFr.out.1 (by rw [hx.c]; exact HCn.out.1) ln (by rw [hx.c]; exact HCn.out.2.1)
            rw [hx.t, HFr.out.2] at this
            exact this
          go_upto_region 37 with (go_at_call 18; refine HCm.out.mono ?_; rintro e w35 ⟨rfl, hx⟩; have H35 : Hid (BkE w w35 d0 A B now is ln) := hx; clear hx)
          clear HCm HR
          obtain ⟨E, ls, k1, k2, k3, k4, k5⟩ := H35.out.dk
          have HE : Hid (Mine w w35 E ∧ E.d = d0 ∧ Rw w35 A B now is) := ⟨k1, k2, H35.out.rw⟩
          have HE5 : Hid ((ln = 0 ∧ E.wr = 0 ∧ E.fl = 0) ∨ (ln ≠ 0 ∧ E.wr = 2 * ln + 2 ∧ E.fl = 4)) := k5
          have HRd : Hid (∀ wx, Below w35.heap.size w35 wx → ∀ i : Nat, 98 ≤ i → i < 118 → Calls Tryz.prog 19 #[.pointer (some ⟨d0, 0, none⟩), .int .i64 (i : Int)] wx fun e w' => ∃ g cap, e = .returned (.tuple #[.slice (some ⟨g, 0, none⟩) 512 cap, .int .i64 0]) ∧ OwnB w' g cap (one (now i)) ∧ Below wx.heap.size wx w') := fun wx hb i h0 h1 => by
            have hn : E.nb = 118 := k3.size
            have := read_yes wx E (k1.disk.on hb) i (by omega) k3.down
            rw [k3.fullD, k4 i h0 h1, k2] at this
            refine this.mono ?_
            rintro e w' ⟨g, cap, rfl, _, ho, hb⟩
            exact ⟨g, cap, rfl, ho, hb⟩
          clear k1 k2 k3 k4 k5 H35
          go_upto_region 38 with (fail)
          go_loopw [25] (fun s25 wr => ∃ k : Nat, 98 ≤ k ∧ k ≤ 118 ∧ s25 = .int .i64 k ∧ Below w35.heap.size w35 wr) (fun s _ => 118 - (intOf s).toNat)
          case atStart => exact ⟨98, by omega, by omega, rfl, Below.refl _ _⟩
          case round =>
            obtain ⟨k, hk0, hk1, rfl, hI⟩ := hrel
            have HI : Hid (Below w35.heap.size w35 wr) := hI
            clear hI
            by_cases hlt : k < 118
            · obtain ⟨nk, hnk⟩ : ∃ nk, now k = nk := ⟨_, rfl⟩
              have HNk : Hid (0 ≤ nk ∧ nk < 256) := by rw [← hnk]; exact (HCn.out.1 k hk0 hlt).1
              have HR1 : Hid (Calls Tryz.prog 19 #[.pointer (some ⟨d0, 0, none⟩), .int .i64 (k : Int)] wr fun e w' => ∃ g cap, e = .returned (.tuple #[.slice (some ⟨g, 0, none⟩) 512 cap, .int .i64 0]) ∧ OwnB w' g cap (one nk) ∧ Below wr.heap.size wr w') := by rw [← hnk]; exact HRd.out wr HI.out k hk0 hlt
              have HCl : Hid (∀ wx, Below w35.heap.size w35 wx → wx.cell? ⟨A, k, none⟩ = some (.int .u8 nk)) := fun wx hb => by
                rw [← hnk]
                exact (HE.out.2.2.on hb).cu k hlt
              clear hnk
              go_upto_region 41 with (go_at_call 19; refine HR1.out.mono ?_; rintro e w41 ⟨ga, ca, rfl, ho, hb⟩; have H41 : Hid (OwnB w41 ga ca (one nk) ∧ Below w35.heap.size w35 w41) := ⟨ho, HI.out.trans (hb.mono HI.out.size)⟩; clear ho hb)
              have HCa : Hid (∀ wx, Below w41.heap.size w41 wx → (convert 40 9 (.slice (some ⟨ga, 0, none⟩) 512 ca)).run Tryz.prog wx = .ok (.string (strOfNums (one nk))) wx) := fun wx hb => str_opt (H41.out.1.bytes.on hb) (one_length _)
              have HD : Hid (Below w41.heap.size w41 w41.drew) := (Below.refl _ w41).drew
              have e0 := HCa.out _ HD.out
              have a0' := HCl.out _ H41.out.2
              have hki : (k : Int) < 118 := by omega
              go_cut [207] (fun s wx => s = .bool false ∧ Below w41.heap.size w41 wx)
              case first => as_aux_lemma =>
                refine wp_region_any (by as_aux_lemma => kernel_rfl) ?_
                try (change wpAny _ _ _ _ _ _ _ (World.drew _))
                refine wpAny_take (i := 0) (v := ?_) rfl (by as_aux_lemma => kernel_rfl) (by as_aux_lemma => kernel_rfl) (by as_aux_lemma => kernel_rfl) (fun _ _ _ h => h) (Or.inl ⟨by as_aux_lemma => kernel_rfl, ?_⟩) ?_
                rotate_left
                focus (intro w; go_simp; (try (with_reducible rfl)); done)
                go_simp
                refine wpAny_take (i := 1) (v := ?_) rfl (by as_aux_lemma => kernel_rfl) (by as_aux_lemma => kernel_rfl) (by as_aux_lemma => kernel_rfl) (fun _ _ _ h => h) (Or.inl ⟨by as_aux_lemma => kernel_rfl, ?_⟩) ?_
                rotate_left
                focus (intro w; go_simp; (try (with_reducible rfl)); done)
                go_simp
                refine wpAny_take (i := 2) (v := ?_) rfl (by as_aux_lemma => kernel_rfl) (by as_aux_lemma => kernel_rfl) (by as_aux_lemma => kernel_rfl) (fun _ _ _ h => h) (Or.inl ⟨by as_aux_lemma => kernel_rfl, ?_⟩) ?_
                rotate_left
                focus (intro w; go_simp; (try (with_reducible rfl)); done)
                go_simp
                refine wpAny_take (i := 3) (v := ?_) rfl (by as_aux_lemma => kernel_rfl) (by as_aux_lemma => kernel_rfl) (by as_aux_lemma => kernel_rfl) (fun _ _ _ h => h) (Or.inl ⟨by as_aux_lemma => kernel_rfl, ?_⟩) ?_
                rotate_left
                focus (intro w; go_simp; (try (with_reducible rfl)); done)
                go_simp
                refine wpAny_take (i := 5) (v := ?_) rfl (by as_aux_lemma => kernel_rfl) (by as_aux_lemma => kernel_rfl) (by as_aux_lemma => kernel_rfl) (fun _ _ _ h => h) (Or.inl ⟨by as_aux_lemma => kernel_rfl, ?_⟩) ?_
                rotate_left
                focus (intro w; go_simp; (try (with_reducible rfl)); done)
                go_simp
                refine wpAny_take (i := 6) (v := ?_) rfl (by as_aux_lemma => kernel_rfl) (by as_aux_lemma => kernel_rfl) (by as_aux_lemma => kernel_rfl) (fun _ _ _ h => h) (Or.inl ⟨by as_aux_lemma => kernel_rfl, ?_⟩) ?_
                rotate_left
                focus (intro w; go_simp; (try (with_reducible rfl)); done)
                go_simp
                refine wpAny_ready (rs := [4, 7]) (by as_aux_lemma => kernel_rfl) (by simp) ?_
                refine AllReady.cons rfl (fun K hK => ?_) ?_
                · go_simp
                  try go_simp
                  first
                    | (refine hK _ _ ?_; clear hK K)
                    | skip
                  refine wpAny_ready (rs := [7]) (by as_aux_lemma => kernel_rfl) (by simp) ?_
                  refine AllReady.cons rfl (fun K hK => ?_) ?_
                  · go_simp
                    try go_simp
                    first
                      | (refine hK _ _ ?_; clear hK K)
                      | skip
                    refine wpAny_ready (rs := [8]) (by as_aux_lemma => kernel_rfl) (by simp) ?_
                    refine AllReady.cons rfl (fun K hK => ?_) ?_
                    · (go_simp; go_at_call 17; refine (lblock_any _ nk HNk.out).mono ?_; rintro e w42 ⟨rfl, ho, hb⟩; have H42 : Hid (Below w41.heap.size w41 w42) := HD.out.trans (hb.mono HD.out.size); have f1 := HCa.out _ H42.out; have f2 : (convert 40 9 (.slice (some ⟨w41.heap.size, 0, none⟩) 512 512)).run Tryz.prog w42 = .ok (.string (strOfNums (one nk))) w42 := str_opt ho.bytes (one_length _); clear ho hb)
                      try go_simp
                      first
                        | (refine hK _ _ ?_; clear hK K)
                        | skip
                      refine wpAny_ready (rs := [9]) (by as_aux_lemma => kernel_rfl) (by simp) ?_
                      refine AllReady.cons rfl (fun K hK => ?_) ?_
                      · go_simp
                        try go_simp
                        first
                          | (refine hK _ _ ?_; clear hK K)
                          | skip
                        refine wpAny_take (i := 10) (v := ?_) rfl (by as_aux_lemma => kernel_rfl) (by as_aux_lemma => kernel_rfl) (by as_aux_lemma => kernel_rfl) (fun _ _ _ h => h) (Or.inl ⟨by as_aux_lemma => kernel_rfl, ?_⟩) ?_
                        rotate_left
                        focus (intro w; go_simp; (try (with_reducible rfl)); done)
                        go_simp
                        refine wpAny_take (i := 11) (v := ?_) rfl (by as_aux_lemma => kernel_rfl) (by as_aux_lemma => kernel_rfl) (by as_aux_lemma => kernel_rfl) (fun _ _ _ h => h) (Or.inl ⟨by as_aux_lemma => kernel_rfl, ?_⟩) ?_
                        rotate_left
                        focus (intro w; go_simp; (try (with_reducible rfl)); done)
                        go_simp
                        refine wpAny_done (by kernel_rfl) ?_ _
                        go_wp2
                        go_meet
                        case rel => exact ⟨by simp, H42.out⟩
                      exact AllReady.nil
                    exact AllReady.nil
                  exact AllReady.nil
                refine AllReady.cons rfl (fun K hK => ?_) ?_
                · go_simp
                  try go_simp
                  first
                    | (refine hK _ _ ?_; clear hK K)
                    | skip
                  refine wpAny_ready (rs := [4, 8]) (by as_aux_lemma => kernel_rfl) (by simp) ?_
                  refine AllReady.cons rfl (fun K hK => ?_) ?_
                  · go_simp
                    try go_simp
                    first
                      | (refine hK _ _ ?_; clear hK K)
                      | skip
                    refine wpAny_ready (rs := [8]) (by as_aux_lemma => kernel_rfl) (by simp) ?_
                    refine AllReady.cons rfl (fun K hK => ?_) ?_
                    · (go_simp; go_at_call 17; refine (lblock_any _ nk HNk.out).mono ?_; rintro e w42 ⟨rfl, ho, hb⟩; have H42 : Hid (Below w41.heap.size w41 w42) := HD.out.trans (hb.mono HD.out.size); have f1 := HCa.out _ H42.out; have f2 : (convert 40 9 (.slice (some ⟨w41.heap.size, 0, none⟩) 512 512)).run Tryz.prog w42 = .ok (.string (strOfNums (one nk))) w42 := str_opt ho.bytes (one_length _); clear ho hb)
                      try go_simp
                      first
                        | (refine hK _ _ ?_; clear hK K)
                        | skip
                      refine wpAny_ready (rs := [9]) (by as_aux_lemma => kernel_rfl) (by simp) ?_
                      refine AllReady.cons rfl (fun K hK => ?_) ?_
                      · go_simp
                        try go_simp
                        first
                          | (refine hK _ _ ?_; clear hK K)
                          | skip
                        refine wpAny_take (i := 10) (v := ?_) rfl (by as_aux_lemma => kernel_rfl) (by as_aux_lemma => kernel_rfl) (by as_aux_lemma => kernel_rfl) (fun _ _ _ h => h) (Or.inl ⟨by as_aux_lemma => kernel_rfl, ?_⟩) ?_
                        rotate_left
                        focus (intro w; go_simp; (try (with_reducible rfl)); done)
                        go_simp
                        refine wpAny_take (i := 11) (v := ?_) rfl (by as_aux_lemma => kernel_rfl) (by as_aux_lemma => kernel_rfl) (by as_aux_lemma => kernel_rfl) (fun _ _ _ h => h) (Or.inl ⟨by as_aux_lemma => kernel_rfl, ?_⟩) ?_
                        rotate_left
                        focus (intro w; go_simp; (try (with_reducible rfl)); done)
                        go_simp
                        refine wpAny_done (by kernel_rfl) ?_ _
                        go_wp2
                        go_meet
                        case rel => exact ⟨by simp, H42.out⟩
                      exact AllReady.nil
                    exact AllReady.nil
                  refine AllReady.cons rfl (fun K hK => ?_) ?_
                  · (go_simp; go_at_call 17; refine (lblock_any _ nk HNk.out).mono ?_; rintro e w42 ⟨rfl, ho, hb⟩; have H42 : Hid (Below w41.heap.size w41 w42) := HD.out.trans (hb.mono HD.out.size); have f1 := HCa.out _ H42.out; have f2 : (convert 40 9 (.slice (some ⟨w41.heap.size, 0, none⟩) 512 512)).run Tryz.prog w42 = .ok (.string (strOfNums (one nk))) w42 := str_opt ho.bytes (one_length _); clear ho hb)
                    try go_simp
                    first
                      | (refine hK _ _ ?_; clear hK K)
                      | skip
                    refine wpAny_ready (rs := [4, 9]) (by as_aux_lemma => kernel_rfl) (by simp) ?_
                    refine AllReady.cons rfl (fun K hK => ?_) ?_
                    · go_simp
                      try go_simp
                      first
                        | (refine hK _ _ ?_; clear hK K)
                        | skip
                      refine wpAny_ready (rs := [9]) (by as_aux_lemma => kernel_rfl) (by simp) ?_
                      refine AllReady.cons rfl (fun K hK => ?_) ?_
                      · go_simp
                        try go_simp
                        first
                          | (refine hK _ _ ?_; clear hK K)
                          | skip
                        refine wpAny_take (i := 10) (v := ?_) rfl (by as_aux_lemma => kernel_rfl) (by as_aux_lemma => kernel_rfl) (by as_aux_lemma => kernel_rfl) (fun _ _ _ h => h) (Or.inl ⟨by as_aux_lemma => kernel_rfl, ?_⟩) ?_
                        rotate_left
                        focus (intro w; go_simp; (try (with_reducible rfl)); done)
                        go_simp
                        refine wpAny_take (i := 11) (v := ?_) rfl (by as_aux_lemma => kernel_rfl) (by as_aux_lemma => kernel_rfl) (by as_aux_lemma => kernel_rfl) (fun _ _ _ h => h) (Or.inl ⟨by as_aux_lemma => kernel_rfl, ?_⟩) ?_
                        rotate_left
                        focus (intro w; go_simp; (try (with_reducible rfl)); done)
                        go_simp
                        refine wpAny_done (by kernel_rfl) ?_ _
                        go_wp2
                        go_meet
                        case rel => exact ⟨by simp, H42.out⟩
                      exact AllReady.nil
                    refine AllReady.cons rfl (fun K hK => ?_) ?_
                    · go_simp
                      try go_simp
                      first
                        | (refine hK _ _ ?_; clear hK K)
                        | skip
                      refine wpAny_ready (rs := [4]) (by as_aux_lemma => kernel_rfl) (by simp) ?_
                      refine AllReady.cons rfl (fun K hK => ?_) ?_
                      · go_simp
                        try go_simp
                        first
                          | (refine hK _ _ ?_; clear hK K)
                          | skip
                        refine wpAny_take (i := 10) (v := ?_) rfl (by as_aux_lemma => kernel_rfl) (by as_aux_lemma => kernel_rfl) (by as_aux_lemma => kernel_rfl) (fun _ _ _ h => h) (Or.inl ⟨by as_aux_lemma => kernel_rfl, ?_⟩) ?_
                        rotate_left
                        focus (intro w; go_simp; (try (with_reducible rfl)); done)
                        go_simp
                        refine wpAny_take (i := 11) (v := ?_) rfl (by as_aux_lemma => kernel_rfl) (by as_aux_lemma => kernel_rfl) (by as_aux_lemma => kernel_rfl) (fun _ _ _ h => h) (Or.inl ⟨by as_aux_lemma => kernel_rfl, ?_⟩) ?_
                        rotate_left
                        focus (intro w; go_simp; (try (with_reducible rfl)); done)
                        go_simp
                        refine wpAny_done (by kernel_rfl) ?_ _
                        go_wp2
                        go_meet
                        case rel => exact ⟨by simp, H42.out⟩
                      exact AllReady.nil
                    exact AllReady.nil
                  exact AllReady.nil
                exact AllReady.nil
              case rest =>
              obtain ⟨rfl, hb⟩ := hcut
              have HW : Hid (Below w35.heap.size w35 wc) := H41.out.2.trans (hb.mono H41.out.2.size)
              clear e0 a0' HCa HD HR1 hb
              go_wp2
              exact ⟨⟨k + 1, by omega, hlt, rfl, HW.out⟩, by simp [intOf]; omega⟩
            · have hge : 118 ≤ k := by omega
              clear HRd
              have HSt : Hid (Calls Tryz.prog 20 #[.pointer (some ⟨d0, 0, none⟩)] wr fun e w' => e = .returned (.tuple #[.int .i64 (E.wr : Int), .int .i64 (E.fl : Int)]) ∧ Below wr.heap.size wr w') := by
                have := steps_any wr E (HE.out.1.disk.on HI.out)
                rw [HE.out.2.1] at this
                exact this
              have HZ : Hid (Below w.heap.size w wr) := HE.out.1.bel.trans (HI.out.mono HE.out.1.bel.size)
              have hv := HV.out
              subst hv
              obtain ⟨wn, hwn⟩ : ∃ wn, E.wr = wn := ⟨_, rfl⟩
              obtain ⟨fn, hfn⟩ : ∃ fn, E.fl = fn := ⟨_, rfl⟩
              rw [hwn, hfn] at HSt HE5
              clear hwn hfn
              rcases HE5.out with ⟨z1, z2, z3⟩ | ⟨z1, z2, z3⟩
              · subst z1 z2 z3
                clear HE5
                go_wp2_with (go_at_call 20; refine HSt.out.mono ?_; rintro e w43 ⟨rfl, hb⟩; have H43 : Hid (Below w.heap.size w w43) := HZ.out.trans (hb.mono HZ.out.size); clear hb)
                go_ret
                exact ⟨by simp, H43.out⟩
              · have y0 : ((ln : Int) == 0) = false := by simp; omega
                have y1 : wrap64 (2 * (ln : Int)) = 2 * (ln : Int) := by have := HCn.out.2.2; rw [wrap64]; omega
                have y2 : wrap64 (2 * (ln : Int) + 2) = 2 * (ln : Int) + 2 := by have := HCn.out.2.2; rw [wrap64]; omega
                have y3 : ((wn : Nat) : Int) = 2 * (ln : Int) + 2 := by omega
                have y4 : ((fn : Nat) : Int) = 4 := by omega
                rw [y3, y4] at HSt
                clear HE5 z1 z2 z3 y3 y4
                go_wp2_with (go_at_call 20; refine HSt.out.mono ?_; rintro e w43 ⟨rfl, hb⟩; have H43 : Hid (Below w.heap.size w w43) := HZ.out.trans (hb.mono HZ.out.size); clear hb)
                go_ret
                exact ⟨by simp, H43.out⟩
end Go.Proofs.YtcdggcdkjooohaaGreatDoor
