import Derived.Test.YtcdggcdkjooohaaDoorTxN0
namespace Go.Proofs.YtcdggcdkjooohaaDoor
open Go.RowKit Go.Maps Rec

/-- the list so far -/
structure IR (w0 wr : World) (v : Value) (L : List Bk) : Prop where
  row : wr.ownsRow 0 3 1 v L.length ((L.map Bk.n).map (Value.int .i64))
  far : ∀ b, v.ownBlock = some b → w0.heap.size ≤ b
  bel : Below w0.heap.size w0 wr
theorem IR.on {w0 w w' : World} {v : Value} {L : List Bk} (h : IR w0 w v L) (hb : Below w.heap.size w w') : IR w0 w' v L := ⟨owns_on h.row hb, h.far, h.bel.trans (hb.mono h.bel.size)⟩
theorem news_a (w : World) (v : Value) (t : TypeId) : ∀ (j : Nat) (y : Value), [v][j]? = some y → (w.alloc (.cells #[v] t)).cell? ((⟨w.heap.size, 0, none⟩ : Addr).add j) = some y := fun j y hj => by
  rw [Addr.add_lit, cell_of_row _ _ _ _ _ _ (heap_alloc_new _ _), Nat.zero_add]
  rw [← hj]
  match j with
  | 0 => rfl
  | j + 1 => simp
theorem IR.next {w0 wr w1 w' : World} {v : Value} {L : List Bk} {q : Bk} {g c : Nat} (h : IR w0 wr v L) (hb : Below wr.heap.size wr w1) (ho : w'.ownsRow 0 3 1 (.slice (some ⟨g, 0, none⟩) (L.length + 1) c) (L.length + 1) ((L.map Bk.n).map (Value.int .i64) ++ [.int .i64 q.n])) (hf : Fr (fun b => v.ownBlock = some b) w1 w') (hg : v.ownBlock = some g ∨ w1.heap.size ≤ g) : IR w0 w' (.slice (some ⟨g, 0, none⟩) (L.length + 1) c) (L ++ [q]) := by
  have hs := h.bel.size
  have hs1 := hb.size
  refine ⟨?_, fun b hk => ?_, (h.bel.trans (hb.mono hs)).trans (hf.below _ h.far (by omega))⟩
  · rw [List.length_append, List.map_append, List.map_append]; exact ho
  · cases hk
    rcases hg with e | e
    · exact h.far _ e
    · show w0.heap.size ≤ g
      omega
theorem lst_k {w : World} {T : Tx} (_ : TxAt w T) (k : Nat) : (lst T.c k).length ≤ k := by
  have := List.length_filterMap_le T.c (List.range k)
  simpa [lst] using this
set_option maxRecDepth 100000 in
set_option maxHeartbeats 16000000 in
theorem reads_any (w : World) (a : Option Addr) (n c : Nat) (P : List (Int × Int)) (hP : PtsAt w a P) (hl : P.length = n) (hT : TabAt w) :
    Calls Tryd.prog 4 #[.slice a n c] w fun e w' => e = .returned (.bool true) ∧ Below w.heap.size w w' := by
  have HF : Hid (Calls Tryd.prog 5 #[.int .i64 118] w fun e w' => ∃ D d0, e = .returned (.pointer (some ⟨d0, 0, none⟩)) ∧ D.d = d0 ∧ Mine w w' D ∧ Fresh D.abs 118 (fr6 118)) := by
    refine (fresh6 w 118 (by omega) (by omega)).mono ?_
    rintro e w' ⟨D, rfl, h1, h2⟩
    exact ⟨D, _, rfl, rfl, h1, h2⟩
  have HTb : Hid (∀ wx, Below w.heap.size w wx → TabAt wx) := fun wx hb => hT.on hb
  have HP : Hid (PtsAt w a P ∧ P.length = n) := ⟨hP, hl⟩
  have hptr := ptr_nil
  have hptT := ptr_nilT
  clear hT hP hl
  go_enter Tryd.func4, Tryd.ntmps4
  go_upto_region 5 with (first
    | (go_at_call 5; refine HF.out.mono ?_; rintro e w1 ⟨D, d0, rfl, hd0, hm, hf⟩; have H1 : Hid (Mine w w1 D ∧ Fresh D.abs 118 (fr6 118) ∧ D.d = d0) := ⟨hm, hf, hd0⟩; clear hm hf hd0)
    | (go_at_call 6; refine (known_any w1 (HTb.out _ H1.out.1.bel)).mono ?_; rintro e w2 ⟨rfl, hb⟩; have H2 : Hid (Mine w w2 D) := H1.out.1.on hb; clear hb)
    | (go_at_call 7; refine (begin_ses w w2 D H2.out d0 H1.out.2.2).mono ?_; rintro e w3 ⟨T, rfl, hs, hc, hu, hb⟩; have H3 : Hid (Ses w w3 D T ∧ T.c = (fun _ => none) ∧ T.us = []) := ⟨hs, hc, hu⟩; clear hs hc hu hb))
  clear HF H2
  obtain ⟨t0, ht0⟩ : ∃ t0, T.t = t0 := ⟨_, rfl⟩
  have HOv : Hid (Calls Tryd.prog 18 #[.pointer (some ⟨t0, 0, none⟩)] w3 fun e w' => e = .returned (.bool false) ∧ w3 = w') := by rw [← ht0]; exact over_no w3 T H3.out.1.tx
  have HFl : Hid (Calls Tryd.prog 19 #[.pointer (some ⟨t0, 0, none⟩), .slice a n c] w3 fun e w' => ∃ T1 now is, e = .returned (.tuple #[.agg (rowU now), .agg (rowB is), .bool true]) ∧ Ses w w' D T1 ∧ Cnt (fun _ => none) T1.c now is ∧ T1.t = t0) := by
    have hn : T.nb = 118 := by rw [← H3.out.1.nb]; exact H1.out.2.1.size
    have := fill_any w w3 D T H3.out.1 hn a n c P HP.out.1 HP.out.2 (by rw [H3.out.2.2]; simp)
    rw [ht0, H3.out.2.1] at this
    refine this.mono ?_
    rintro e w' ⟨T1, now, is, rfl, s1, s2, _, s4⟩
    exact ⟨T1, now, is, rfl, s1, s4, by rw [s2.t]; exact ht0⟩
  rw [ht0]
  clear ht0
  go_upto_region 7 with (go_at_call 18; refine HOv.out.mono ?_; rintro e w' ⟨rfl, rfl⟩)
  clear HOv H3
  go_upto_region 8 with (first
    | (go_at_call 19; refine HFl.out.mono ?_; rintro e w4 ⟨T1, now, is, rfl, hs, hc, ht⟩; have H4 : Hid (Ses w w4 D T1 ∧ Cnt (fun _ => none) T1.c now is ∧ T1.t = t0) := ⟨hs, hc, ht⟩; clear hs hc ht)
    | (have hh := H4.out; clear hh; refine wp_storeU rfl (.tmp 5) (.tmp 37) rfl w4.heap.size now rfl rfl (there_u w4) ?_; intro w4a h4a f4a; have H4a : Hid (w4a.rangeAt w4.heap.size 0 (rowU now).toList ∧ Fr (fun k => k = w4.heap.size) ((w4.alloc (.cells Tryd.zeroCells44 44)).alloc (.cells Tryd.zeroCells45 45)) w4a) := ⟨h4a, f4a⟩; clear h4a f4a)
    | (have hh := H4a.out; clear hh; refine wp_storeB rfl (.tmp 6) (.tmp 38) rfl (w4.heap.size + 1) is rfl rfl (there_b H4a.out.2) ?_; intro w5 h5 f5; have H5 : Hid (Pre6 w w5 D T1 w4.heap.size (w4.heap.size + 1) now is) := pre6_of H4.out.1 H4.out.2.1 H4a.out.1 H4a.out.2 h5 f5; clear h5 f5))
  have HT1 : Hid (T1.t = t0) := H4.out.2.2
  clear HFl H4a H4
  obtain ⟨A, hA⟩ : ∃ A, w4.heap.size = A := ⟨_, rfl⟩
  rw [hA] at H5
  obtain ⟨B, hB⟩ : ∃ B, A + 1 = B := ⟨_, rfl⟩
  rw [hB] at H5
  rw [hA, hB]
  clear hA hB
  have HFr : Hid (Fresh D.abs 118 (fr6 118) ∧ D.d = d0) := ⟨H1.out.2.1, H1.out.2.2⟩
  clear H1
  have HRd : Hid (∀ wx, Below w5.heap.size w5 wx → ∀ i : Nat, 98 ≤ i → i < 118 → Calls Tryd.prog 14 #[.pointer (some ⟨t0, 0, none⟩), .int .i64 (i : Int)] wx fun e w' => ∃ g cap, e = .returned (.tuple #[.slice (some ⟨g, 0, none⟩) 512 cap, .int .i64 0]) ∧ OwnB w' g cap (one (now i)) ∧ Below wx.heap.size wx w') := fun wx hb i h0 h1 => by
    have hx := H5.out.on hb
    have hn : T1.nb = 118 := by rw [← hx.ses.nb]; exact HFr.out.1.size
    have := tread_any wx T1 D hx.ses.tx hx.ses.dk.disk hx.ses.d hx.ses.nb HFr.out.1.down i (by omega)
    rw [HT1.out] at this
    refine this.mono ?_
    rintro e w' ⟨g, cap, rfl, _, ho, hb⟩
    have hv := hx.cnt.val i h0 h1
    rw [HFr.out.1.full] at ho
    rw [← hv]
    exact ⟨g, cap, rfl, ho, hb⟩
  have HDd : Hid (∀ wx, Below w5.heap.size w5 wx → ∀ i : Nat, 98 ≤ i → i < 118 → Calls Tryd.prog 16 #[.pointer (some ⟨d0, 0, none⟩), .int .i64 (i : Int)] wx fun e w' => ∃ g cap, e = .returned (.tuple #[.slice (some ⟨g, 0, none⟩) 512 cap, .int .i64 0]) ∧ OwnB w' g cap (one (i : Int)) ∧ Below wx.heap.size wx w') := fun wx hb i h0 h1 => by
    have hx := H5.out.on hb
    have hn : D.nb = 118 := HFr.out.1.size
    have := read_yes wx D hx.ses.dk.disk i (by omega) HFr.out.1.down
    rw [HFr.out.2, HFr.out.1.full, bck_98 i h0 h1] at this
    refine this.mono ?_
    rintro e w' ⟨g, cap, rfl, _, ho, hb⟩
    exact ⟨g, cap, rfl, ho, hb⟩
  go_upto_region 12 with (fail)
  go_loopw [8, 9] (fun s8 s9 wr => ∃ k : Nat, 98 ≤ k ∧ k ≤ 118 ∧ s9 = .int .i64 k ∧ IR w5 wr s8 (lst T1.c k)) (fun _ s _ => 118 - (intOf s).toNat)
  case atStart => exact ⟨98, by omega, by omega, rfl, ⟨by rw [lst_low H5.out.ses.tx.ok 98 (by omega)]; exact ⟨rfl, .inl ⟨rfl, rfl⟩⟩, (fun b hb => by cases hb), Below.refl _ _⟩⟩
  case round =>
    obtain ⟨k, hk0, hk1, rfl, hI⟩ := hrel
    have HI : Hid (IR w5 wr u8 (lst T1.c k)) := hI
    clear hI
    by_cases hlt : k < 118
    · obtain ⟨nk, hnk⟩ : ∃ nk, now k = nk := ⟨_, rfl⟩
      obtain ⟨bk, hbk⟩ : ∃ bk, is k = bk := ⟨_, rfl⟩
      have HNk : Hid (0 ≤ nk ∧ nk < 256) := by rw [← hnk]; exact (H5.out.cnt k hk0 hlt).1
      have HR1 : Hid (Calls Tryd.prog 14 #[.pointer (some ⟨t0, 0, none⟩), .int .i64 (k : Int)] wr fun e w' => ∃ g cap, e = .returned (.tuple #[.slice (some ⟨g, 0, none⟩) 512 cap, .int .i64 0]) ∧ OwnB w' g cap (one nk) ∧ Below wr.heap.size wr w') := by rw [← hnk]; exact HRd.out wr HI.out.bel k hk0 hlt
      have HCl : Hid (∀ wx, Below w5.heap.size w5 wx → wx.cell? ⟨A, k, none⟩ = some (.int .u8 nk) ∧ wx.cell? ⟨B, k, none⟩ = some (.bool bk)) := fun wx hb => by
        rw [← hnk, ← hbk]
        exact ⟨(H5.out.on hb).rw.cu k hlt, (H5.out.on hb).rw.cb k hlt⟩
      have HBk : Hid (bk = (T1.c k).isSome) := by rw [← hbk]; exact H5.out.cnt.is k hk0 hlt
      clear hnk hbk
      go_upto_region 16 with (first
        | (go_at_call 14; refine HR1.out.mono ?_; rintro e w6 ⟨ga, ca, rfl, ho, hb⟩; have H6 : Hid (OwnB w6 ga ca (one nk) ∧ Below wr.heap.size wr w6 ∧ Below w5.heap.size w5 w6) := ⟨ho, hb, HI.out.bel.trans (hb.mono HI.out.bel.size)⟩; clear ho hb)
        | (go_at_call 16; refine (HDd.out w6 H6.out.2.2 k hk0 hlt).mono ?_; rintro e w7 ⟨gb, cb, rfl, ho, hb⟩; have H7 : Hid (OwnB w7 gb cb (one (k : Int)) ∧ Below w6.heap.size w6 w7 ∧ Below w5.heap.size w5 w7) := ⟨ho, hb, H6.out.2.2.trans (hb.mono H6.out.2.2.size)⟩; clear ho hb))
      have HCa : Hid (∀ wx, Below w7.heap.size w7 wx → (convert 32 9 (.slice (some ⟨ga, 0, none⟩) 512 ca)).run Tryd.prog wx = .ok (.string (strOfNums (one nk))) wx) := fun wx hb => str_opt ((H6.out.1.bytes.on H7.out.2.1).on hb) (one_length _)
      have HCb : Hid (∀ wx, Below w7.heap.size w7 wx → (convert 32 9 (.slice (some ⟨gb, 0, none⟩) 512 cb)).run Tryd.prog wx = .ok (.string (strOfNums (one (k : Int)))) wx) := fun wx hb => str_opt (H7.out.1.bytes.on hb) (one_length _)
      have HD : Hid (Below w7.heap.size w7 w7.drew) := (Below.refl _ w7).drew
      have e0 := HCa.out _ HD.out
      have a0 := (HCl.out _ H7.out.2.2).1
      have hu8 : IntKind.u8.wrap (k : Int) = (k : Int) := by simp [IntKind.wrap, IntKind.bits, IntKind.signed]; omega
      have hki : (k : Int) < 118 := by omega
      go_cut [82] (fun s wx => s = .bool false ∧ Below w7.heap.size w7 wx)
      case first =>
        refine wp_region_any (by as_aux_lemma => kernel_rfl) ?_
        try (change wpAny _ _ _ _ _ _ _ (World.drew _))
        refine wpAny_take (i := 0) (v := ?_) rfl (by as_aux_lemma => kernel_rfl) (by as_aux_lemma => kernel_rfl) (by as_aux_lemma => kernel_rfl) (fun _ _ _ h => h) (Or.inl ⟨by as_aux_lemma => kernel_rfl, ?_⟩) ?_
        rotate_left
        focus (intro w; go_simp; (try (with_reducible rfl)); done)
        go_simp
        refine wpAny_take (i := 1) (v := ?_) rfl (by as_aux_lemma => kernel_rfl) (by as_aux_lemma => kernel_rfl) (by as_aux_lemma => kernel_rfl) (fun _ _ _ h => h) (Or.inl ⟨by as_aux_lemma => kernel_rfl, ?_⟩) ?_
        rotate_left
        focus (intro w; go_simp; (try (with_reducible rfl)); done)
        go_simp
        refine wpAny_take (i := 2) (v := ?_) rfl (by as_aux_lemma => kernel_rfl) (by as_aux_lemma => kernel_rfl) (by as_aux_lemma => kernel_rfl) (fun _ _ _ h => h) (Or.inl ⟨by as_aux_lemma => kernel_rfl, ?_⟩) ?_
        rotate_left
        focus (intro w; go_simp; (try (with_reducible rfl)); done)
        go_simp
        refine wpAny_take (i := 3) (v := ?_) rfl (by as_aux_lemma => kernel_rfl) (by as_aux_lemma => kernel_rfl) (by as_aux_lemma => kernel_rfl) (fun _ _ _ h => h) (Or.inl ⟨by as_aux_lemma => kernel_rfl, ?_⟩) ?_
        rotate_left
        focus (intro w; go_simp; (try (with_reducible rfl)); done)
        go_simp
        refine wpAny_take (i := 4) (v := ?_) rfl (by as_aux_lemma => kernel_rfl) (by as_aux_lemma => kernel_rfl) (by as_aux_lemma => kernel_rfl) (fun _ _ _ h => h) (Or.inl ⟨by as_aux_lemma => kernel_rfl, ?_⟩) ?_
        rotate_left
        focus (intro w; go_simp; (try (with_reducible rfl)); done)
        go_simp
        refine wpAny_take (i := 5) (v := ?_) rfl (by as_aux_lemma => kernel_rfl) (by as_aux_lemma => kernel_rfl) (by as_aux_lemma => kernel_rfl) (fun _ _ _ h => h) (Or.inl ⟨by as_aux_lemma => kernel_rfl, ?_⟩) ?_
        rotate_left
        focus (intro w; go_simp; (try (with_reducible rfl)); done)
        go_simp
        refine wpAny_take (i := 6) (v := ?_) rfl (by as_aux_lemma => kernel_rfl) (by as_aux_lemma => kernel_rfl) (by as_aux_lemma => kernel_rfl) (fun _ _ _ h => h) (Or.inl ⟨by as_aux_lemma => kernel_rfl, ?_⟩) ?_
        rotate_left
        focus (intro w; go_simp; (try (with_reducible rfl)); done)
        go_simp
        refine wpAny_take (i := 7) (v := ?_) rfl (by as_aux_lemma => kernel_rfl) (by as_aux_lemma => kernel_rfl) (by as_aux_lemma => kernel_rfl) (fun _ _ _ h => h) (Or.inl ⟨by as_aux_lemma => kernel_rfl, ?_⟩) ?_
        rotate_left
        focus (intro w; go_simp; (try (with_reducible rfl)); done)
        go_simp
        refine wpAny_take (i := 9) (v := ?_) rfl (by as_aux_lemma => kernel_rfl) (by as_aux_lemma => kernel_rfl) (by as_aux_lemma => kernel_rfl) (fun _ _ _ h => h) (Or.inl ⟨by as_aux_lemma => kernel_rfl, ?_⟩) ?_
        rotate_left
        focus (intro w; go_simp; (try (with_reducible rfl)); done)
        go_simp
        refine wpAny_take (i := 10) (v := ?_) rfl (by as_aux_lemma => kernel_rfl) (by as_aux_lemma => kernel_rfl) (by as_aux_lemma => kernel_rfl) (fun _ _ _ h => h) (Or.inl ⟨by as_aux_lemma => kernel_rfl, ?_⟩) ?_
        rotate_left
        focus (intro w; go_simp; (try (with_reducible rfl)); done)
        go_simp
        refine wpAny_ready (rs := [8, 11]) (by as_aux_lemma => kernel_rfl) (by simp) ?_
        refine AllReady.cons rfl (fun K hK => ?_) ?_
        · go_simp
          try go_simp
          first
            | (refine hK _ _ ?_; clear hK K)
            | skip
          refine wpAny_ready (rs := [11]) (by as_aux_lemma => kernel_rfl) (by simp) ?_
          refine AllReady.cons rfl (fun K hK => ?_) ?_
          · go_simp
            try go_simp
            first
              | (refine hK _ _ ?_; clear hK K)
              | skip
            refine wpAny_ready (rs := [12]) (by as_aux_lemma => kernel_rfl) (by simp) ?_
            refine AllReady.cons rfl (fun K hK => ?_) ?_
            · (go_simp; go_at_call 11; refine (lblock_any _ nk HNk.out).mono ?_; rintro e w8 ⟨rfl, ho, hb⟩; have H8 : Hid (Below w7.heap.size w7 w8) := HD.out.trans (hb.mono HD.out.size); have e1 := HCa.out _ H8.out; have f1 := HCb.out _ H8.out; have e2 : (convert 32 9 (.slice (some ⟨w7.heap.size, 0, none⟩) 512 512)).run Tryd.prog w8 = .ok (.string (strOfNums (one nk))) w8 := str_opt ho.bytes (one_length _); clear ho hb)
              try go_simp
              first
                | (refine hK _ _ ?_; clear hK K)
                | skip
              refine wpAny_ready (rs := [13]) (by as_aux_lemma => kernel_rfl) (by simp) ?_
              refine AllReady.cons rfl (fun K hK => ?_) ?_
              · go_simp
                try go_simp
                first
                  | (refine hK _ _ ?_; clear hK K)
                  | skip
                refine wpAny_take (i := 14) (v := ?_) rfl (by as_aux_lemma => kernel_rfl) (by as_aux_lemma => kernel_rfl) (by as_aux_lemma => kernel_rfl) (fun _ _ _ h => h) (Or.inl ⟨by as_aux_lemma => kernel_rfl, ?_⟩) ?_
                rotate_left
                focus (intro w; go_simp; (try (with_reducible rfl)); done)
                go_simp
                refine wpAny_take (i := 15) (v := ?_) rfl (by as_aux_lemma => kernel_rfl) (by as_aux_lemma => kernel_rfl) (by as_aux_lemma => kernel_rfl) (fun _ _ _ h => h) (Or.inl ⟨by as_aux_lemma => kernel_rfl, ?_⟩) ?_
                rotate_left
                focus (intro w; go_simp; (try (with_reducible rfl)); done)
                go_simp
                refine wpAny_take (i := 16) (v := ?_) rfl (by as_aux_lemma => kernel_rfl) (by as_aux_lemma => kernel_rfl) (by as_aux_lemma => kernel_rfl) (fun _ _ _ h => h) (Or.inl ⟨by as_aux_lemma => kernel_rfl, ?_⟩) ?_
                rotate_left
                focus (intro w; go_simp; (try (with_reducible rfl)); done)
                go_simp
                refine wpAny_take (i := 17) (v := ?_) rfl (by as_aux_lemma => kernel_rfl) (by as_aux_lemma => kernel_rfl) (by as_aux_lemma => kernel_rfl) (fun _ _ _ h => h) (Or.inl ⟨by as_aux_lemma => kernel_rfl, ?_⟩) ?_
                rotate_left
                focus (intro w; go_simp; (try (with_reducible rfl)); done)
                go_simp
                refine wpAny_take (i := 19) (v := ?_) rfl (by as_aux_lemma => kernel_rfl) (by as_aux_lemma => kernel_rfl) (by as_aux_lemma => kernel_rfl) (fun _ _ _ h => h) (Or.inl ⟨by as_aux_lemma => kernel_rfl, ?_⟩) ?_
                rotate_left
                focus (intro w; go_simp; (try (with_reducible rfl)); done)
                go_simp
                refine wpAny_take (i := 20) (v := ?_) rfl (by as_aux_lemma => kernel_rfl) (by as_aux_lemma => kernel_rfl) (by as_aux_lemma => kernel_rfl) (fun _ _ _ h => h) (Or.inl ⟨by as_aux_lemma => kernel_rfl, ?_⟩) ?_
                rotate_left
                focus (intro w; go_simp; (try (with_reducible rfl)); done)
                go_simp
                refine wpAny_ready (rs := [18, 21]) (by as_aux_lemma => kernel_rfl) (by simp) ?_
                refine AllReady.cons rfl (fun K hK => ?_) ?_
                · go_simp
                  try go_simp
                  first
                    | (refine hK _ _ ?_; clear hK K)
                    | skip
                  refine wpAny_ready (rs := [21]) (by as_aux_lemma => kernel_rfl) (by simp) ?_
                  refine AllReady.cons rfl (fun K hK => ?_) ?_
                  · (go_simp; go_at_call 11; refine (lblock_any _ (k : Int) (by omega)).mono ?_; rintro e w9 ⟨rfl, ho, hb⟩; have H9 : Hid (Below w7.heap.size w7 w9) := H8.out.trans (hb.mono H8.out.size); have f2 := HCb.out _ H9.out; have f3 : (convert 32 9 (.slice (some ⟨w8.heap.size, 0, none⟩) 512 512)).run Tryd.prog w9 = .ok (.string (strOfNums (one (k : Int)))) w9 := str_opt ho.bytes (one_length _); clear ho hb)
                    try go_simp
                    first
                      | (refine hK _ _ ?_; clear hK K)
                      | skip
                    refine wpAny_ready (rs := [22]) (by as_aux_lemma => kernel_rfl) (by simp) ?_
                    refine AllReady.cons rfl (fun K hK => ?_) ?_
                    · go_simp
                      try go_simp
                      first
                        | (refine hK _ _ ?_; clear hK K)
                        | skip
                      refine wpAny_take (i := 23) (v := ?_) rfl (by as_aux_lemma => kernel_rfl) (by as_aux_lemma => kernel_rfl) (by as_aux_lemma => kernel_rfl) (fun _ _ _ h => h) (Or.inl ⟨by as_aux_lemma => kernel_rfl, ?_⟩) ?_
                      rotate_left
                      focus (intro w; go_simp; (try (with_reducible rfl)); done)
                      go_simp
                      refine wpAny_take (i := 24) (v := ?_) rfl (by as_aux_lemma => kernel_rfl) (by as_aux_lemma => kernel_rfl) (by as_aux_lemma => kernel_rfl) (fun _ _ _ h => h) (Or.inl ⟨by as_aux_lemma => kernel_rfl, ?_⟩) ?_
                      rotate_left
                      focus (intro w; go_simp; (try (with_reducible rfl)); done)
                      go_simp
                      refine wpAny_done (by kernel_rfl) ?_ _
                      go_wp2
                      go_meet
                      case rel => exact ⟨by simp, H9.out⟩
                    exact AllReady.nil
                  exact AllReady.nil
                refine AllReady.cons rfl (fun K hK => ?_) ?_
                · (go_simp; go_at_call 11; refine (lblock_any _ (k : Int) (by omega)).mono ?_; rintro e w9 ⟨rfl, ho, hb⟩; have H9 : Hid (Below w7.heap.size w7 w9) := H8.out.trans (hb.mono H8.out.size); have f2 := HCb.out _ H9.out; have f3 : (convert 32 9 (.slice (some ⟨w8.heap.size, 0, none⟩) 512 512)).run Tryd.prog w9 = .ok (.string (strOfNums (one (k : Int)))) w9 := str_opt ho.bytes (one_length _); clear ho hb)
                  try go_simp
                  first
                    | (refine hK _ _ ?_; clear hK K)
                    | skip
                  refine wpAny_ready (rs := [18, 22]) (by as_aux_lemma => kernel_rfl) (by simp) ?_
                  refine AllReady.cons rfl (fun K hK => ?_) ?_
                  · go_simp
                    try go_simp
                    first
                      | (refine hK _ _ ?_; clear hK K)
                      | skip
                    refine wpAny_ready (rs := [22]) (by as_aux_lemma => kernel_rfl) (by simp) ?_
                    refine AllReady.cons rfl (fun K hK => ?_) ?_
                    · go_simp
                      try go_simp
                      first
                        | (refine hK _ _ ?_; clear hK K)
                        | skip
                      refine wpAny_take (i := 23) (v := ?_) rfl (by as_aux_lemma => kernel_rfl) (by as_aux_lemma => kernel_rfl) (by as_aux_lemma => kernel_rfl) (fun _ _ _ h => h) (Or.inl ⟨by as_aux_lemma => kernel_rfl, ?_⟩) ?_
                      rotate_left
                      focus (intro w; go_simp; (try (with_reducible rfl)); done)
                      go_simp
                      refine wpAny_take (i := 24) (v := ?_) rfl (by as_aux_lemma => kernel_rfl) (by as_aux_lemma => kernel_rfl) (by as_aux_lemma => kernel_rfl) (fun _ _ _ h => h) (Or.inl ⟨by as_aux_lemma => kernel_rfl, ?_⟩) ?_
                      rotate_left
                      focus (intro w; go_simp; (try (with_reducible rfl)); done)
                      go_simp
                      refine wpAny_done (by kernel_rfl) ?_ _
                      go_wp2
                      go_meet
                      case rel => exact ⟨by simp, H9.out⟩
                    exact AllReady.nil
                  refine AllReady.cons rfl (fun K hK => ?_) ?_
                  · go_simp
                    try go_simp
                    first
                      | (refine hK _ _ ?_; clear hK K)
                      | skip
                    refine wpAny_ready (rs := [18]) (by as_aux_lemma => kernel_rfl) (by simp) ?_
                    refine AllReady.cons rfl (fun K hK => ?_) ?_
                    · go_simp
                      try go_simp
                      first
                        | (refine hK _ _ ?_; clear hK K)
                        | skip
                      refine wpAny_take (i := 23) (v := ?_) rfl (by as_aux_lemma => kernel_rfl) (by as_aux_lemma => kernel_rfl) (by as_aux_lemma => kernel_rfl) (fun _ _ _ h => h) (Or.inl ⟨by as_aux_lemma => kernel_rfl, ?_⟩) ?_
                      rotate_left
                      focus (intro w; go_simp; (try (with_reducible rfl)); done)
                      go_simp
                      refine wpAny_take (i := 24) (v := ?_) rfl (by as_aux_lemma => kernel_rfl) (by as_aux_lemma => kernel_rfl) (by as_aux_lemma => kernel_rfl) (fun _ _ _ h => h) (Or.inl ⟨by as_aux_lemma => kernel_rfl, ?_⟩) ?_
                      rotate_left
                      focus (intro w; go_simp; (try (with_reducible rfl)); done)
                      go_simp
                      refine wpAny_done (by kernel_rfl) ?_ _
                      go_wp2
                      go_meet
                      case rel => exact ⟨by simp, H9.out⟩
                    exact AllReady.nil
                  exact AllReady.nil
                exact AllReady.nil
              exact AllReady.nil
            exact AllReady.nil
          exact AllReady.nil
        refine AllReady.cons rfl (fun K hK => ?_) ?_
        · go_simp
          try go_simp
          first
            | (refine hK _ _ ?_; clear hK K)
            | skip
          refine wpAny_ready (rs := [8, 12]) (by as_aux_lemma => kernel_rfl) (by simp) ?_
          refine AllReady.cons rfl (fun K hK => ?_) ?_
          · go_simp
            try go_simp
            first
              | (refine hK _ _ ?_; clear hK K)
              | skip
            refine wpAny_ready (rs := [12]) (by as_aux_lemma => kernel_rfl) (by simp) ?_
            refine AllReady.cons rfl (fun K hK => ?_) ?_
            · (go_simp; go_at_call 11; refine (lblock_any _ nk HNk.out).mono ?_; rintro e w8 ⟨rfl, ho, hb⟩; have H8 : Hid (Below w7.heap.size w7 w8) := HD.out.trans (hb.mono HD.out.size); have e1 := HCa.out _ H8.out; have f1 := HCb.out _ H8.out; have e2 : (convert 32 9 (.slice (some ⟨w7.heap.size, 0, none⟩) 512 512)).run Tryd.prog w8 = .ok (.string (strOfNums (one nk))) w8 := str_opt ho.bytes (one_length _); clear ho hb)
              try go_simp
              first
                | (refine hK _ _ ?_; clear hK K)
                | skip
              refine wpAny_ready (rs := [13]) (by as_aux_lemma => kernel_rfl) (by simp) ?_
              refine AllReady.cons rfl (fun K hK => ?_) ?_
              · go_simp
                try go_simp
                first
                  | (refine hK _ _ ?_; clear hK K)
                  | skip
                refine wpAny_take (i := 14) (v := ?_) rfl (by as_aux_lemma => kernel_rfl) (by as_aux_lemma => kernel_rfl) (by as_aux_lemma => kernel_rfl) (fun _ _ _ h => h) (Or.inl ⟨by as_aux_lemma => kernel_rfl, ?_⟩) ?_
                rotate_left
                focus (intro w; go_simp; (try (with_reducible rfl)); done)
                go_simp
                refine wpAny_take (i := 15) (v := ?_) rfl (by as_aux_lemma => kernel_rfl) (by as_aux_lemma => kernel_rfl) (by as_aux_lemma => kernel_rfl) (fun _ _ _ h => h) (Or.inl ⟨by as_aux_lemma => kernel_rfl, ?_⟩) ?_
                rotate_left
                focus (intro w; go_simp; (try (with_reducible rfl)); done)
                go_simp
                refine wpAny_take (i := 16) (v := ?_) rfl (by as_aux_lemma => kernel_rfl) (by as_aux_lemma => kernel_rfl) (by as_aux_lemma => kernel_rfl) (fun _ _ _ h => h) (Or.inl ⟨by as_aux_lemma => kernel_rfl, ?_⟩) ?_
                rotate_left
                focus (intro w; go_simp; (try (with_reducible rfl)); done)
                go_simp
                refine wpAny_take (i := 17) (v := ?_) rfl (by as_aux_lemma => kernel_rfl) (by as_aux_lemma => kernel_rfl) (by as_aux_lemma => kernel_rfl) (fun _ _ _ h => h) (Or.inl ⟨by as_aux_lemma => kernel_rfl, ?_⟩) ?_
                rotate_left
                focus (intro w; go_simp; (try (with_reducible rfl)); done)
                go_simp
                refine wpAny_take (i := 19) (v := ?_) rfl (by as_aux_lemma => kernel_rfl) (by as_aux_lemma => kernel_rfl) (by as_aux_lemma => kernel_rfl) (fun _ _ _ h => h) (Or.inl ⟨by as_aux_lemma => kernel_rfl, ?_⟩) ?_
                rotate_left
                focus (intro w; go_simp; (try (with_reducible rfl)); done)
                go_simp
                refine wpAny_take (i := 20) (v := ?_) rfl (by as_aux_lemma => kernel_rfl) (by as_aux_lemma => kernel_rfl) (by as_aux_lemma => kernel_rfl) (fun _ _ _ h => h) (Or.inl ⟨by as_aux_lemma => kernel_rfl, ?_⟩) ?_
                rotate_left
                focus (intro w; go_simp; (try (with_reducible rfl)); done)
                go_simp
                refine wpAny_ready (rs := [18, 21]) (by as_aux_lemma => kernel_rfl) (by simp) ?_
                refine AllReady.cons rfl (fun K hK => ?_) ?_
                · go_simp
                  try go_simp
                  first
                    | (refine hK _ _ ?_; clear hK K)
                    | skip
                  refine wpAny_ready (rs := [21]) (by as_aux_lemma => kernel_rfl) (by simp) ?_
                  refine AllReady.cons rfl (fun K hK => ?_) ?_
                  · (go_simp; go_at_call 11; refine (lblock_any _ (k : Int) (by omega)).mono ?_; rintro e w9 ⟨rfl, ho, hb⟩; have H9 : Hid (Below w7.heap.size w7 w9) := H8.out.trans (hb.mono H8.out.size); have f2 := HCb.out _ H9.out; have f3 : (convert 32 9 (.slice (some ⟨w8.heap.size, 0, none⟩) 512 512)).run Tryd.prog w9 = .ok (.string (strOfNums (one (k : Int)))) w9 := str_opt ho.bytes (one_length _); clear ho hb)
                    try go_simp
                    first
                      | (refine hK _ _ ?_; clear hK K)
                      | skip
                    refine wpAny_ready (rs := [22]) (by as_aux_lemma => kernel_rfl) (by simp) ?_
                    refine AllReady.cons rfl (fun K hK => ?_) ?_
                    · go_simp
                      try go_simp
                      first
                        | (refine hK _ _ ?_; clear hK K)
                        | skip
                      refine wpAny_take (i := 23) (v := ?_) rfl (by as_aux_lemma => kernel_rfl) (by as_aux_lemma => kernel_rfl) (by as_aux_lemma => kernel_rfl) (fun _ _ _ h => h) (Or.inl ⟨by as_aux_lemma => kernel_rfl, ?_⟩) ?_
                      rotate_left
                      focus (intro w; go_simp; (try (with_reducible rfl)); done)
                      go_simp
                      refine wpAny_take (i := 24) (v := ?_) rfl (by as_aux_lemma => kernel_rfl) (by as_aux_lemma => kernel_rfl) (by as_aux_lemma => kernel_rfl) (fun _ _ _ h => h) (Or.inl ⟨by as_aux_lemma => kernel_rfl, ?_⟩) ?_
                      rotate_left
                      focus (intro w; go_simp; (try (with_reducible rfl)); done)
                      go_simp
                      refine wpAny_done (by kernel_rfl) ?_ _
                      go_wp2
                      go_meet
                      case rel => exact ⟨by simp, H9.out⟩
                    exact AllReady.nil
                  exact AllReady.nil
                refine AllReady.cons rfl (fun K hK => ?_) ?_
                · (go_simp; go_at_call 11; refine (lblock_any _ (k : Int) (by omega)).mono ?_; rintro e w9 ⟨rfl, ho, hb⟩; have H9 : Hid (Below w7.heap.size w7 w9) := H8.out.trans (hb.mono H8.out.size); have f2 := HCb.out _ H9.out; have f3 : (convert 32 9 (.slice (some ⟨w8.heap.size, 0, none⟩) 512 512)).run Tryd.prog w9 = .ok (.string (strOfNums (one (k : Int)))) w9 := str_opt ho.bytes (one_length _); clear ho hb)
                  try go_simp
                  first
                    | (refine hK _ _ ?_; clear hK K)
                    | skip
                  refine wpAny_ready (rs := [18, 22]) (by as_aux_lemma => kernel_rfl) (by simp) ?_
                  refine AllReady.cons rfl (fun K hK => ?_) ?_
                  · go_simp
                    try go_simp
                    first
                      | (refine hK _ _ ?_; clear hK K)
                      | skip
                    refine wpAny_ready (rs := [22]) (by as_aux_lemma => kernel_rfl) (by simp) ?_
                    refine AllReady.cons rfl (fun K hK => ?_) ?_
                    · go_simp
                      try go_simp
                      first
                        | (refine hK _ _ ?_; clear hK K)
                        | skip
                      refine wpAny_take (i := 23) (v := ?_) rfl (by as_aux_lemma => kernel_rfl) (by as_aux_lemma => kernel_rfl) (by as_aux_lemma => kernel_rfl) (fun _ _ _ h => h) (Or.inl ⟨by as_aux_lemma => kernel_rfl, ?_⟩) ?_
                      rotate_left
                      focus (intro w; go_simp; (try (with_reducible rfl)); done)
                      go_simp
                      refine wpAny_take (i := 24) (v := ?_) rfl (by as_aux_lemma => kernel_rfl) (by as_aux_lemma => kernel_rfl) (by as_aux_lemma => kernel_rfl) (fun _ _ _ h => h) (Or.inl ⟨by as_aux_lemma => kernel_rfl, ?_⟩) ?_
                      rotate_left
                      focus (intro w; go_simp; (try (with_reducible rfl)); done)
                      go_simp
                      refine wpAny_done (by kernel_rfl) ?_ _
                      go_wp2
                      go_meet
                      case rel => exact ⟨by simp, H9.out⟩
                    exact AllReady.nil
                  refine AllReady.cons rfl (fun K hK => ?_) ?_
                  · go_simp
                    try go_simp
                    first
                      | (refine hK _ _ ?_; clear hK K)
                      | skip
                    refine wpAny_ready (rs := [18]) (by as_aux_lemma => kernel_rfl) (by simp) ?_
                    refine AllReady.cons rfl (fun K hK => ?_) ?_
                    · go_simp
                      try go_simp
                      first
                        | (refine hK _ _ ?_; clear hK K)
                        | skip
                      refine wpAny_take (i := 23) (v := ?_) rfl (by as_aux_lemma => kernel_rfl) (by as_aux_lemma => kernel_rfl) (by as_aux_lemma => kernel_rfl) (fun _ _ _ h => h) (Or.inl ⟨by as_aux_lemma => kernel_rfl, ?_⟩) ?_
                      rotate_left
                      focus (intro w; go_simp; (try (with_reducible rfl)); done)
                      go_simp
                      refine wpAny_take (i := 24) (v := ?_) rfl (by as_aux_lemma => kernel_rfl) (by as_aux_lemma => kernel_rfl) (by as_aux_lemma => kernel_rfl) (fun _ _ _ h => h) (Or.inl ⟨by as_aux_lemma => kernel_rfl, ?_⟩) ?_
                      rotate_left
                      focus (intro w; go_simp; (try (with_reducible rfl)); done)
                      go_simp
                      refine wpAny_done (by kernel_rfl) ?_ _
                      go_wp2
                      go_meet
                      case rel => exact ⟨by simp, H9.out⟩
                    exact AllReady.nil
                  exact AllReady.nil
                exact AllReady.nil
              exact AllReady.nil
            exact AllReady.nil
          refine AllReady.cons rfl (fun K hK => ?_) ?_
          · (go_simp; go_at_call 11; refine (lblock_any _ nk HNk.out).mono ?_; rintro e w8 ⟨rfl, ho, hb⟩; have H8 : Hid (Below w7.heap.size w7 w8) := HD.out.trans (hb.mono HD.out.size); have e1 := HCa.out _ H8.out; have f1 := HCb.out _ H8.out; have e2 : (convert 32 9 (.slice (some ⟨w7.heap.size, 0, none⟩) 512 512)).run Tryd.prog w8 = .ok (.string (strOfNums (one nk))) w8 := str_opt ho.bytes (one_length _); clear ho hb)
            try go_simp
            first
              | (refine hK _ _ ?_; clear hK K)
              | skip
            refine wpAny_ready (rs := [8, 13]) (by as_aux_lemma => kernel_rfl) (by simp) ?_
            refine AllReady.cons rfl (fun K hK => ?_) ?_
            · go_simp
              try go_simp
              first
                | (refine hK _ _ ?_; clear hK K)
                | skip
              refine wpAny_ready (rs := [13]) (by as_aux_lemma => kernel_rfl) (by simp) ?_
              refine AllReady.cons rfl (fun K hK => ?_) ?_
              · go_simp
                try go_simp
                first
                  | (refine hK _ _ ?_; clear hK K)
                  | skip
                refine wpAny_take (i := 14) (v := ?_) rfl (by as_aux_lemma => kernel_rfl) (by as_aux_lemma => kernel_rfl) (by as_aux_lemma => kernel_rfl) (fun _ _ _ h => h) (Or.inl ⟨by as_aux_lemma => kernel_rfl, ?_⟩) ?_
                rotate_left
                focus (intro w; go_simp; (try (with_reducible rfl)); done)
                go_simp
                refine wpAny_take (i := 15) (v := ?_) rfl (by as_aux_lemma => kernel_rfl) (by as_aux_lemma => kernel_rfl) (by as_aux_lemma => kernel_rfl) (fun _ _ _ h => h) (Or.inl ⟨by as_aux_lemma => kernel_rfl, ?_⟩) ?_
                rotate_left
                focus (intro w; go_simp; (try (with_reducible rfl)); done)
                go_simp
                refine wpAny_take (i := 16) (v := ?_) rfl (by as_aux_lemma => kernel_rfl) (by as_aux_lemma => kernel_rfl) (by as_aux_lemma => kernel_rfl) (fun _ _ _ h => h) (Or.inl ⟨by as_aux_lemma => kernel_rfl, ?_⟩) ?_
                rotate_left
                focus (intro w; go_simp; (try (with_reducible rfl)); done)
                go_simp
                refine wpAny_take (i := 17) (v := ?_) rfl (by as_aux_lemma => kernel_rfl) (by as_aux_lemma => kernel_rfl) (by as_aux_lemma => kernel_rfl) (fun _ _ _ h => h) (Or.inl ⟨by as_aux_lemma => kernel_rfl, ?_⟩) ?_
                rotate_left
                focus (intro w; go_simp; (try (with_reducible rfl)); done)
                go_simp
                refine wpAny_take (i := 19) (v := ?_) rfl (by as_aux_lemma => kernel_rfl) (by as_aux_lemma => kernel_rfl) (by as_aux_lemma => kernel_rfl) (fun _ _ _ h => h) (Or.inl ⟨by as_aux_lemma => kernel_rfl, ?_⟩) ?_
                rotate_left
                focus (intro w; go_simp; (try (with_reducible rfl)); done)
                go_simp
                refine wpAny_take (i := 20) (v := ?_) rfl (by as_aux_lemma => kernel_rfl) (by as_aux_lemma => kernel_rfl) (by as_aux_lemma => kernel_rfl) (fun _ _ _ h => h) (Or.inl ⟨by as_aux_lemma => kernel_rfl, ?_⟩) ?_
                rotate_left
                focus (intro w; go_simp; (try (with_reducible rfl)); done)
                go_simp
                refine wpAny_ready (rs := [18, 21]) (by as_aux_lemma => kernel_rfl) (by simp) ?_
                refine AllReady.cons rfl (fun K hK => ?_) ?_
                · go_simp
                  try go_simp
                  first
                    | (refine hK _ _ ?_; clear hK K)
                    | skip
                  refine wpAny_ready (rs := [21]) (by as_aux_lemma => kernel_rfl) (by simp) ?_
                  refine AllReady.cons rfl (fun K hK => ?_) ?_
                  · (go_simp; go_at_call 11; refine (lblock_any _ (k : Int) (by omega)).mono ?_; rintro e w9 ⟨rfl, ho, hb⟩; have H9 : Hid (Below w7.heap.size w7 w9) := H8.out.trans (hb.mono H8.out.size); have f2 := HCb.out _ H9.out; have f3 : (convert 32 9 (.slice (some ⟨w8.heap.size, 0, none⟩) 512 512)).run Tryd.prog w9 = .ok (.string (strOfNums (one (k : Int)))) w9 := str_opt ho.bytes (one_length _); clear ho hb)
                    try go_simp
                    first
                      | (refine hK _ _ ?_; clear hK K)
                      | skip
                    refine wpAny_ready (rs := [22]) (by as_aux_lemma => kernel_rfl) (by simp) ?_
                    refine AllReady.cons rfl (fun K hK => ?_) ?_
                    · go_simp
                      try go_simp
                      first
                        | (refine hK _ _ ?_; clear hK K)
                        | skip
                      refine wpAny_take (i := 23) (v := ?_) rfl (by as_aux_lemma => kernel_rfl) (by as_aux_lemma => kernel_rfl) (by as_aux_lemma => kernel_rfl) (fun _ _ _ h => h) (Or.inl ⟨by as_aux_lemma => kernel_rfl, ?_⟩) ?_
                      rotate_left
                      focus (intro w; go_simp; (try (with_reducible rfl)); done)
                      go_simp
                      refine wpAny_take (i := 24) (v := ?_) rfl (by as_aux_lemma => kernel_rfl) (by as_aux_lemma => kernel_rfl) (by as_aux_lemma => kernel_rfl) (fun _ _ _ h => h) (Or.inl ⟨by as_aux_lemma => kernel_rfl, ?_⟩) ?_
                      rotate_left
                      focus (intro w; go_simp; (try (with_reducible rfl)); done)
                      go_simp
                      refine wpAny_done (by kernel_rfl) ?_ _
                      go_wp2
                      go_meet
                      case rel => exact ⟨by simp, H9.out⟩
                    exact AllReady.nil
                  exact AllReady.nil
                refine AllReady.cons rfl (fun K hK => ?_) ?_
                · (go_simp; go_at_call 11; refine (lblock_any _ (k : Int) (by omega)).mono ?_; rintro e w9 ⟨rfl, ho, hb⟩; have H9 : Hid (Below w7.heap.size w7 w9) := H8.out.trans (hb.mono H8.out.size); have f2 := HCb.out _ H9.out; have f3 : (convert 32 9 (.slice (some ⟨w8.heap.size, 0, none⟩) 512 512)).run Tryd.prog w9 = .ok (.string (strOfNums (one (k : Int)))) w9 := str_opt ho.bytes (one_length _); clear ho hb)
                  try go_simp
                  first
                    | (refine hK _ _ ?_; clear hK K)
                    | skip
                  refine wpAny_ready (rs := [18, 22]) (by as_aux_lemma => kernel_rfl) (by simp) ?_
                  refine AllReady.cons rfl (fun K hK => ?_) ?_
                  · go_simp
                    try go_simp
                    first
                      | (refine hK _ _ ?_; clear hK K)
                      | skip
                    refine wpAny_ready (rs := [22]) (by as_aux_lemma => kernel_rfl) (by simp) ?_
                    refine AllReady.cons rfl (fun K hK => ?_) ?_
                    · go_simp
                      try go_simp
                      first
                        | (refine hK _ _ ?_; clear hK K)
                        | skip
                      refine wpAny_take (i := 23) (v := ?_) rfl (by as_aux_lemma => kernel_rfl) (by as_aux_lemma => kernel_rfl) (by as_aux_lemma => kernel_rfl) (fun _ _ _ h => h) (Or.inl ⟨by as_aux_lemma => kernel_rfl, ?_⟩) ?_
                      rotate_left
                      focus (intro w; go_simp; (try (with_reducible rfl)); done)
                      go_simp
                      refine wpAny_take (i := 24) (v := ?_) rfl (by as_aux_lemma => kernel_rfl) (by as_aux_lemma => kernel_rfl) (by as_aux_lemma => kernel_rfl) (fun _ _ _ h => h) (Or.inl ⟨by as_aux_lemma => kernel_rfl, ?_⟩) ?_
                      rotate_left
                      focus (intro w; go_simp; (try (with_reducible rfl)); done)
                      go_simp
                      refine wpAny_done (by kernel_rfl) ?_ _
                      go_wp2
                      go_meet
                      case rel => exact ⟨by simp, H9.out⟩
                    exact AllReady.nil
                  refine AllReady.cons rfl (fun K hK => ?_) ?_
                  · go_simp
                    try go_simp
                    first
                      | (refine hK _ _ ?_; clear hK K)
                      | skip
                    refine wpAny_ready (rs := [18]) (by as_aux_lemma => kernel_rfl) (by simp) ?_
                    refine AllReady.cons rfl (fun K hK => ?_) ?_
                    · go_simp
                      try go_simp
                      first
                        | (refine hK _ _ ?_; clear hK K)
                        | skip
                      refine wpAny_take (i := 23) (v := ?_) rfl (by as_aux_lemma => kernel_rfl) (by as_aux_lemma => kernel_rfl) (by as_aux_lemma => kernel_rfl) (fun _ _ _ h => h) (Or.inl ⟨by as_aux_lemma => kernel_rfl, ?_⟩) ?_
                      rotate_left
                      focus (intro w; go_simp; (try (with_reducible rfl)); done)
                      go_simp
                      refine wpAny_take (i := 24) (v := ?_) rfl (by as_aux_lemma => kernel_rfl) (by as_aux_lemma => kernel_rfl) (by as_aux_lemma => kernel_rfl) (fun _ _ _ h => h) (Or.inl ⟨by as_aux_lemma => kernel_rfl, ?_⟩) ?_
                      rotate_left
                      focus (intro w; go_simp; (try (with_reducible rfl)); done)
                      go_simp
                      refine wpAny_done (by kernel_rfl) ?_ _
                      go_wp2
                      go_meet
                      case rel => exact ⟨by simp, H9.out⟩
                    exact AllReady.nil
                  exact AllReady.nil
                exact AllReady.nil
              exact AllReady.nil
            refine AllReady.cons rfl (fun K hK => ?_) ?_
            · go_simp
              try go_simp
              first
                | (refine hK _ _ ?_; clear hK K)
                | skip
              refine wpAny_ready (rs := [8]) (by as_aux_lemma => kernel_rfl) (by simp) ?_
              refine AllReady.cons rfl (fun K hK => ?_) ?_
              · go_simp
                try go_simp
                first
                  | (refine hK _ _ ?_; clear hK K)
                  | skip
                refine wpAny_take (i := 14) (v := ?_) rfl (by as_aux_lemma => kernel_rfl) (by as_aux_lemma => kernel_rfl) (by as_aux_lemma => kernel_rfl) (fun _ _ _ h => h) (Or.inl ⟨by as_aux_lemma => kernel_rfl, ?_⟩) ?_
                rotate_left
                focus (intro w; go_simp; (try (with_reducible rfl)); done)
                go_simp
                refine wpAny_take (i := 15) (v := ?_) rfl (by as_aux_lemma => kernel_rfl) (by as_aux_lemma => kernel_rfl) (by as_aux_lemma => kernel_rfl) (fun _ _ _ h => h) (Or.inl ⟨by as_aux_lemma => kernel_rfl, ?_⟩) ?_
                rotate_left
                focus (intro w; go_simp; (try (with_reducible rfl)); done)
                go_simp
                refine wpAny_take (i := 16) (v := ?_) rfl (by as_aux_lemma => kernel_rfl) (by as_aux_lemma => kernel_rfl) (by as_aux_lemma => kernel_rfl) (fun _ _ _ h => h) (Or.inl ⟨by as_aux_lemma => kernel_rfl, ?_⟩) ?_
                rotate_left
                focus (intro w; go_simp; (try (with_reducible rfl)); done)
                go_simp
                refine wpAny_take (i := 17) (v := ?_) rfl (by as_aux_lemma => kernel_rfl) (by as_aux_lemma => kernel_rfl) (by as_aux_lemma => kernel_rfl) (fun _ _ _ h => h) (Or.inl ⟨by as_aux_lemma => kernel_rfl, ?_⟩) ?_
                rotate_left
                focus (intro w; go_simp; (try (with_reducible rfl)); done)
                go_simp
                refine wpAny_take (i := 19) (v := ?_) rfl (by as_aux_lemma => kernel_rfl) (by as_aux_lemma => kernel_rfl) (by as_aux_lemma => kernel_rfl) (fun _ _ _ h => h) (Or.inl ⟨by as_aux_lemma => kernel_rfl, ?_⟩) ?_
                rotate_left
                focus (intro w; go_simp; (try (with_reducible rfl)); done)
                go_simp
                refine wpAny_take (i := 20) (v := ?_) rfl (by as_aux_lemma => kernel_rfl) (by as_aux_lemma => kernel_rfl) (by as_aux_lemma => kernel_rfl) (fun _ _ _ h => h) (Or.inl ⟨by as_aux_lemma => kernel_rfl, ?_⟩) ?_
                rotate_left
                focus (intro w; go_simp; (try (with_reducible rfl)); done)
                go_simp
                refine wpAny_ready (rs := [18, 21]) (by as_aux_lemma => kernel_rfl) (by simp) ?_
                refine AllReady.cons rfl (fun K hK => ?_) ?_
                · go_simp
                  try go_simp
                  first
                    | (refine hK _ _ ?_; clear hK K)
                    | skip
                  refine wpAny_ready (rs := [21]) (by as_aux_lemma => kernel_rfl) (by simp) ?_
                  refine AllReady.cons rfl (fun K hK => ?_) ?_
                  · (go_simp; go_at_call 11; refine (lblock_any _ (k : Int) (by omega)).mono ?_; rintro e w9 ⟨rfl, ho, hb⟩; have H9 : Hid (Below w7.heap.size w7 w9) := H8.out.trans (hb.mono H8.out.size); have f2 := HCb.out _ H9.out; have f3 : (convert 32 9 (.slice (some ⟨w8.heap.size, 0, none⟩) 512 512)).run Tryd.prog w9 = .ok (.string (strOfNums (one (k : Int)))) w9 := str_opt ho.bytes (one_length _); clear ho hb)
                    try go_simp
                    first
                      | (refine hK _ _ ?_; clear hK K)
                      | skip
                    refine wpAny_ready (rs := [22]) (by as_aux_lemma => kernel_rfl) (by simp) ?_
                    refine AllReady.cons rfl (fun K hK => ?_) ?_
                    · go_simp
                      try go_simp
                      first
                        | (refine hK _ _ ?_; clear hK K)
                        | skip
                      refine wpAny_take (i := 23) (v := ?_) rfl (by as_aux_lemma => kernel_rfl) (by as_aux_lemma => kernel_rfl) (by as_aux_lemma => kernel_rfl) (fun _ _ _ h => h) (Or.inl ⟨by as_aux_lemma => kernel_rfl, ?_⟩) ?_
                      rotate_left
                      focus (intro w; go_simp; (try (with_reducible rfl)); done)
                      go_simp
                      refine wpAny_take (i := 24) (v := ?_) rfl (by as_aux_lemma => kernel_rfl) (by as_aux_lemma => kernel_rfl) (by as_aux_lemma => kernel_rfl) (fun _ _ _ h => h) (Or.inl ⟨by as_aux_lemma => kernel_rfl, ?_⟩) ?_
                      rotate_left
                      focus (intro w; go_simp; (try (with_reducible rfl)); done)
                      go_simp
                      refine wpAny_done (by kernel_rfl) ?_ _
                      go_wp2
                      go_meet
                      case rel => exact ⟨by simp, H9.out⟩
                    exact AllReady.nil
                  exact AllReady.nil
                refine AllReady.cons rfl (fun K hK => ?_) ?_
                · (go_simp; go_at_call 11; refine (lblock_any _ (k : Int) (by omega)).mono ?_; rintro e w9 ⟨rfl, ho, hb⟩; have H9 : Hid (Below w7.heap.size w7 w9) := H8.out.trans (hb.mono H8.out.size); have f2 := HCb.out _ H9.out; have f3 : (convert 32 9 (.slice (some ⟨w8.heap.size, 0, none⟩) 512 512)).run Tryd.prog w9 = .ok (.string (strOfNums (one (k : Int)))) w9 := str_opt ho.bytes (one_length _); clear ho hb)
                  try go_simp
                  first
                    | (refine hK _ _ ?_; clear hK K)
                    | skip
                  refine wpAny_ready (rs := [18, 22]) (by as_aux_lemma => kernel_rfl) (by simp) ?_
                  refine AllReady.cons rfl (fun K hK => ?_) ?_
                  · go_simp
                    try go_simp
                    first
                      | (refine hK _ _ ?_; clear hK K)
                      | skip
                    refine wpAny_ready (rs := [22]) (by as_aux_lemma => kernel_rfl) (by simp) ?_
                    refine AllReady.cons rfl (fun K hK => ?_) ?_
                    · go_simp
                      try go_simp
                      first
                        | (refine hK _ _ ?_; clear hK K)
                        | skip
                      refine wpAny_take (i := 23) (v := ?_) rfl (by as_aux_lemma => kernel_rfl) (by as_aux_lemma => kernel_rfl) (by as_aux_lemma => kernel_rfl) (fun _ _ _ h => h) (Or.inl ⟨by as_aux_lemma => kernel_rfl, ?_⟩) ?_
                      rotate_left
                      focus (intro w; go_simp; (try (with_reducible rfl)); done)
                      go_simp
                      refine wpAny_take (i := 24) (v := ?_) rfl (by as_aux_lemma => kernel_rfl) (by as_aux_lemma => kernel_rfl) (by as_aux_lemma => kernel_rfl) (fun _ _ _ h => h) (Or.inl ⟨by as_aux_lemma => kernel_rfl, ?_⟩) ?_
                      rotate_left
                      focus (intro w; go_simp; (try (with_reducible rfl)); done)
                      go_simp
                      refine wpAny_done (by kernel_rfl) ?_ _
                      go_wp2
                      go_meet
                      case rel => exact ⟨by simp, H9.out⟩
                    exact AllReady.nil
                  refine AllReady.cons rfl (fun K hK => ?_) ?_
                  · go_simp
                    try go_simp
                    first
                      | (refine hK _ _ ?_; clear hK K)
                      | skip
                    refine wpAny_ready (rs := [18]) (by as_aux_lemma => kernel_rfl) (by simp) ?_
                    refine AllReady.cons rfl (fun K hK => ?_) ?_
                    · go_simp
                      try go_simp
                      first
                        | (refine hK _ _ ?_; clear hK K)
                        | skip
                      refine wpAny_take (i := 23) (v := ?_) rfl (by as_aux_lemma => kernel_rfl) (by as_aux_lemma => kernel_rfl) (by as_aux_lemma => kernel_rfl) (fun _ _ _ h => h) (Or.inl ⟨by as_aux_lemma => kernel_rfl, ?_⟩) ?_
                      rotate_left
                      focus (intro w; go_simp; (try (with_reducible rfl)); done)
                      go_simp
                      refine wpAny_take (i := 24) (v := ?_) rfl (by as_aux_lemma => kernel_rfl) (by as_aux_lemma => kernel_rfl) (by as_aux_lemma => kernel_rfl) (fun _ _ _ h => h) (Or.inl ⟨by as_aux_lemma => kernel_rfl, ?_⟩) ?_
                      rotate_left
                      focus (intro w; go_simp; (try (with_reducible rfl)); done)
                      go_simp
                      refine wpAny_done (by kernel_rfl) ?_ _
                      go_wp2
                      go_meet
                      case rel => exact ⟨by simp, H9.out⟩
                    exact AllReady.nil
                  exact AllReady.nil
                exact AllReady.nil
              exact AllReady.nil
            exact AllReady.nil
          exact AllReady.nil
        exact AllReady.nil
      case rest =>
      obtain ⟨rfl, hb⟩ := hcut
      have HW : Hid (IR w5 wc u8 (lst T1.c k)) := HI.out.on ((H6.out.2.1.trans (H7.out.2.1.mono H6.out.2.1.size)).trans (hb.mono (Nat.le_trans H6.out.2.1.size H7.out.2.1.size)))
      have b0 := (HCl.out _ HW.out.bel).2
      clear e0 a0 HCa HCb HD HR1 hb
      cases bk with
      | true =>
        obtain ⟨q, hq⟩ : ∃ q, T1.c k = some q := Option.isSome_iff_exists.1 HBk.out.symm
        have HQ : Hid (lst T1.c (k + 1) = lst T1.c k ++ [q] ∧ q.n = (k : Int)) := ⟨by rw [lst_next, hq]; rfl, H5.out.ses.tx.ok.num k q hq⟩
        clear hq
        obtain ⟨i0, hi, hz0, hz1, hz2⟩ := info_parts info3
        go_wp2_with (at_builtin; refine wp_own rfl (.tmp 86) (.tmp 88) 34 rfl 3 i0 _ 1 8 Tryd.underlying34 hi hz0 hz1 hz2 rfl (by decide) u8 (lst T1.c k).length _ rfl (owns_on HW.out.row ((Below.refl _ _).alloc (Nat.le_refl _) _)) ⟨wc.heap.size, 0, none⟩ 1 1 [.int .i64 (k : Int)] rfl (by omega) rfl (news_a wc _ _) (by intro u hu; simp at hu; subst hu; rfl) (by have := lst_k H5.out.ses.tx k; unfold maxLen; omega) (by have := lst_k H5.out.ses.tx k; omega) ?_; intro g2 c2 w10 ho hf hg; have H10 : Hid (IR w5 w10 (.slice (some ⟨g2, 0, none⟩) ((lst T1.c k).length + 1) c2) (lst T1.c (k + 1))) := by rw [HQ.out.1]; exact HW.out.next (q := q) ((Below.refl _ _).alloc (Nat.le_refl _) _) (by rw [HQ.out.2]; exact ho) hf hg)
        exact ⟨⟨k + 1, by omega, hlt, rfl, H10.out⟩, by simp [intOf]; omega⟩
      | false =>
        have HQ : Hid (lst T1.c (k + 1) = lst T1.c k) := by
          have := HBk.out
          rw [lst_next, Option.isSome_eq_false_iff.1 this.symm |> Option.isNone_iff_eq_none.1]; simp [Hid]
        go_wp2
        exact ⟨⟨k + 1, by omega, hlt, rfl, by rw [HQ.out]; exact HW.out⟩, by simp [intOf]; omega⟩
    · have hge : 118 ≤ k := by omega
      have hk : k = 118 := by omega
      have HX : Hid (IntsAt wr u8 ((lst T1.c 118).map Bk.n) ∧ Below w5.heap.size w5 wr) := by
        have := HI.out
        rw [hk] at this
        exact ⟨ints_of this.row (by simp), this.bel⟩
      clear hk HI HRd HDd
      have HL : Hid (((lst T1.c 118).map Bk.n).length ≤ 96) := by
        have h1 := H5.out.ses.tx.cnt
        have hn : T1.nb = 118 := by rw [← H5.out.ses.nb]; exact HFr.out.1.size
        rw [hn] at h1
        simpa [Hid] using h1
      have HWt : Hid (Calls Tryd.prog 12 #[.pointer (some ⟨t0, 0, none⟩)] wr fun e w' => ∃ v, e = .returned v ∧ IntsAt w' v ((lst T1.c 118).map Bk.n) ∧ Below wr.heap.size wr w') := by
        have hx := H5.out.on HX.out.2
        have hn : T1.nb = 118 := by rw [← hx.ses.nb]; exact HFr.out.1.size
        have := written_any wr T1 hx.ses.tx
        rw [HT1.out, hn] at this
        refine this.mono ?_
        rintro e w' ⟨v, rfl, hr, _, hb⟩
        exact ⟨v, rfl, ints_of hr (by simp), hb⟩
      go_upto_region 22 with (first
        | (go_at_call 12; refine HWt.out.mono ?_; rintro e w11 ⟨v, rfl, hv, hb⟩; have H11 : Hid (IntsAt w11 v ((lst T1.c 118).map Bk.n) ∧ Below wr.heap.size wr w11) := ⟨hv, hb⟩; clear hv hb)
        | (go_at_call 20; refine (sameInts_yes w11 v u8 _ _ rfl (Nat.le_trans HL.out (by omega)) H11.out.1 (HX.out.1.on H11.out.2)).mono ?_; rintro e w12 ⟨rfl, hb⟩; have H12 : Hid (Below w5.heap.size w5 w12) := (HX.out.2.trans (H11.out.2.mono HX.out.2.size)).trans (hb.mono (Nat.le_trans HX.out.2.size H11.out.2.size)); clear hb))
      clear HWt
      have HAb : Hid (Calls Tryd.prog 21 #[.pointer (some ⟨t0, 0, none⟩)] w12 fun e w' => e = .returned (.tuple #[]) ∧ OverAt w' t0 ∧ Mine w w' D) := by
        have hx := H5.out.on H12.out
        have := abort_any w12 T1.t T1.cells rfl hx.ses.tx.row
        rw [HT1.out] at this
        refine this.mono ?_
        rintro e w' ⟨rfl, ho, hF⟩
        refine ⟨rfl, ho, hx.ses.dk.disk.fr hF (fun k hk e => ?_), hx.ses.dk.far, hx.ses.dk.bel.trans (hF.below _ (fun k hk => ?_) hx.ses.dk.bel.size)⟩
        · have e : k = t0 := e
          rw [← HT1.out] at e
          exact hx.ses.ap2 k (.inl e) hk
        · have hk : k = t0 := hk
          rw [hk, ← HT1.out]
          exact hx.ses.far _ (.inl (.inl rfl))
      go_upto_region 23 with (go_at_call 21; refine HAb.out.mono ?_; rintro e w13 ⟨rfl, ho, hm⟩; have H13 : Hid (OverAt w13 t0 ∧ Mine w w13 D) := ⟨ho, hm⟩; clear ho hm)
      clear HAb
      have HSt : Hid (Calls Tryd.prog 17 #[.pointer (some ⟨d0, 0, none⟩)] w13 fun e w' => e = .returned (.tuple #[.int .i64 0, .int .i64 0]) ∧ Below w13.heap.size w13 w') := by
        have := steps_any w13 D H13.out.2.disk
        rw [show D.wr = 0 from HFr.out.1.wr, show D.fl = 0 from HFr.out.1.fl, HFr.out.2] at this
        exact this
      go_upto_region 25 with (first
        | (go_at_call 14; refine (read_over w13 t0 H13.out.1 98).mono ?_; rintro e w' ⟨rfl, rfl⟩)
        | (go_at_call 17; refine HSt.out.mono ?_; rintro e w14 ⟨rfl, hb⟩; have H14 : Hid (Below w13.heap.size w13 w14) := hb; clear hb))
      have HO : Hid (OverAt w14 t0) := (H14.out.block _ (heap_lt H13.out.1)).trans H13.out.1
      go_wp2_with (first
        | (go_at_call 18; refine (over_yes w14 t0 HO.out).mono ?_; rintro e w' ⟨rfl, rfl⟩)
        | (go_at_call 12; refine (written_over w14 t0 HO.out).mono ?_; rintro e w15 ⟨rfl, hb⟩; have H15 : Hid (Below w14.heap.size w14 w15) := hb; clear hb))
      go_ret
      exact ⟨by simp, H13.out.2.bel.trans ((H14.out.trans (H15.out.mono H14.out.size)).mono H13.out.2.bel.size)⟩
end Go.Proofs.YtcdggcdkjooohaaDoor
