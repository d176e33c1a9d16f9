import Derived.Test.YtamlbpbhlgmcoaaGreatDoorKWpH
namespace Go.Proofs.YtamlbpbhlgmcoaaGreatDoor
open Go.RowKit Rec
/-- may a log be read? -/
def opE (a : AD) : Int := if a.down then 30 else logE a.full a.nb
theorem RT.flen {w : World} {a : AD} {R : RDk} {j : Nat} (h : RT w a R j) (hd : a.down = false) : a.full.length = 512 * a.nb := by
  have hdo : a.down = R.out := h.tie.dn
  have hro : R.out = false := by rw [← hdo]; exact hd
  obtain ⟨o1, o2, _⟩ := h.tie.on hro
  have : a.full = alw R.f R.L R.L.length := by
    rw [← lsf_alw, ← o1, ← o2]; rfl
  rw [this, alw_length, h.r.flen, h.tie.nb]
/-- blocks that were read, a row of their own -/
structure DtL (w wr : World) (v : Value) (L : List BG) : Prop where
  row : wr.ownsRow 0 37 1 v L.length (L.map BG.v)
  each : ∀ q ∈ L, ∃ g, q.a = some ⟨g, 0, none⟩ ∧ OwnB wr g q.c q.x ∧ w.heap.size ≤ g
  far : ∀ k, v.ownBlock = some k → w.heap.size ≤ k
  bel : Below w.heap.size w wr
theorem DtL.zero {w wr : World} (hb : Below w.heap.size w wr) : DtL w wr (.slice none 0 0) [] := ⟨⟨rfl, .inl ⟨rfl, rfl⟩⟩, (fun q h => by cases h), (fun k h => by cases h), hb⟩
theorem DtL.on {w wr w' : World} {v : Value} {L : List BG} (h : DtL w wr v L) (hb : Below wr.heap.size wr w') : DtL w w' v L := ⟨owns_on h.row hb, fun q hq => by obtain ⟨g, e, ho, hg⟩ := h.each q hq; exact ⟨g, e, ho.on hb, hg⟩, h.far, h.bel.trans (hb.mono h.bel.size)⟩
theorem DtL.add {w wr wa w' : World} {v : Value} {L : List BG} {q : BG} {g g1 cap k : Nat} (h : DtL w wr v L) (hk : L.length = k) (ha : Below wr.heap.size wr wa) (hq : q.a = some ⟨g1, 0, none⟩ ∧ OwnB wa g1 q.c q.x ∧ w.heap.size ≤ g1) (h1 : w'.ownsRow 0 37 1 (.slice (some ⟨g, 0, none⟩) (k + 1) cap) (k + 1) (L.map BG.v ++ [q.v])) (h2 : Fr (fun k => v.ownBlock = some k) wa w') (h3 : v.ownBlock = some g ∨ wa.heap.size ≤ g) : DtL w w' (.slice (some ⟨g, 0, none⟩) (k + 1) cap) (L ++ [q]) := by
  subst hk
  have h' := h.on ha
  refine ⟨by rw [List.length_append, List.map_append]; exact h1, fun p hp => ?_, fun b e => ?_, h'.bel.trans (h2.below _ h.far h'.bel.size)⟩
  · rcases List.mem_append.1 hp with hp | hp
    · obtain ⟨g2, e, ho, hg⟩ := h'.each p hp
      exact ⟨g2, e, ho.fr h2 (own_apart7 h'.row ho (by decide)), hg⟩
    · rw [List.mem_singleton] at hp; subst hp
      exact ⟨g1, hq.1, hq.2.1.fr h2 (own_apart7 h'.row hq.2.1 (by decide)), hq.2.2⟩
  · cases e
    rcases h3 with h3 | h3
    · exact h.far _ h3
    · exact Nat.le_trans h'.bel.size h3
theorem DtL.data {w wr : World} {v : Value} {L : List BG} {n : Nat} (h : DtL w wr v L) (hn : L.length = n) (hl : n ≤ 1000000) : ∃ da dc, v = .slice da n dc ∧ Data wr da (dsG L) ∧ (L = [] ∨ ∃ b off, da = some ⟨b, off, none⟩ ∧ ∀ i q, L[i]? = some q → wr.cell? ⟨b, off + i, none⟩ = some q.v) := by
  subst hn
  obtain ⟨da, dc, e, _, hp, hc⟩ := owns_slice h.row
  refine ⟨da, dc, e, ⟨by rw [dsG_len]; omega, ?_⟩, ?_⟩
  · rcases hp with hp | ⟨g, rfl⟩
    · exact .inl (List.eq_nil_of_length_eq_zero (by rw [dsG_len]; exact hp))
    · refine .inr ⟨g, 0, rfl, fun i hi => ?_⟩
      rw [dsG_len] at hi
      have hq : L[i]? = some L[i] := List.getElem?_eq_getElem hi
      obtain ⟨g2, e2, ho, _⟩ := h.each L[i] (List.getElem_mem hi)
      rw [Nat.zero_add, row_dsG hq]
      refine ⟨L[i].a, L[i].c, (hc g 0 rfl).2.1 i _ (by rw [List.getElem?_map, hq]; rfl), by rw [e2]; exact ho.bytes, fun e => by rw [e2] at e; cases e⟩
  · rcases hp with hp | ⟨g, rfl⟩
    · exact .inl (List.eq_nil_of_length_eq_zero hp)
    · exact .inr ⟨g, 0, rfl, fun i q hq => by rw [Nat.zero_add]; exact (hc g 0 rfl).2.1 i _ (by rw [List.getElem?_map, hq]; rfl)⟩
/-- what log answers -/
def LgP (w : World) (a : AD) (e : Ending) (w' : World) : Prop := (opE a ≠ 0 ∧ e = .returned (.tuple #[.slice none 0 0, .slice none 0 0, .int .i64 (opE a)]) ∧ Below w.heap.size w w') ∨ (opE a = 0 ∧ ∃ sa nc da dc k L, e = .returned (.tuple #[.slice sa k nc, .slice da k dc, .int .i64 0]) ∧ L.length = k ∧ k ≤ 96 ∧ nsG L = logN a.full a.nb ∧ dsG L = logD a.full k ∧ NdA w' w' sa da L ∧ (∀ q ∈ L, ∃ g, q.a = some ⟨g, 0, none⟩ ∧ w.heap.size ≤ g) ∧ Below w.heap.size w w')
theorem logD_succ (F : List Int) (j : Nat) : logD F (j + 1) = logD F j ++ [bck F (2 + j)] := by unfold logD; rw [List.range_succ, List.map_append]; rfl
theorem numsL_hi (h : List Int) (n : Int) : (numsL h n).length ≤ 96 := by
  by_cases e : numsL h n = []
  · rw [e]; simp
  · have := numsL_some e; rw [this.2.2.2.1]; exact this.2.2.2.2.2.1
theorem numsE_vals {h : List Int} {n : Int} (hl : h.length = 512) (hz : numsE h n ≠ 0) : numsE h n = 41 := by
  unfold numsE at hz ⊢
  rw [if_pos hl] at hz ⊢
  split at hz
  · exact absurd rfl hz
  · next c => rw [if_neg c] ; split at hz
              · exact absurd rfl hz
              · next c2 => rw [if_neg c2]
set_option maxRecDepth 100000 in
set_option maxHeartbeats 4000000 in
theorem log_any (w : World) (a : AD) (R : RDk) (j : Nat) (h : RT w a R j) : Calls Tryz.prog 64 #[.pointer (some ⟨R.r, 0, none⟩)] w (LgP w a) := by
  have hdo : a.down = R.out := h.tie.dn
  have hnb : a.nb = R.nb := h.tie.nb
  have hnb0 := h.r.nb0
  have c4 : w.cell? ⟨R.r, 4, none⟩ = some (.bool R.out) := h.r.cell 4
  have HT : Hid (RT w a R j) := h
  have HB : Hid (Calls Tryz.prog 60 #[.pointer (some ⟨R.r, 0, none⟩)] w fun e w' => e = .returned (.int .i64 (R.nb : Int)) ∧ Below w.heap.size w w') := rdblocks_any w R h.r
  have HRd : Hid (∀ wx, Below w.heap.size w wx → a.down = false → ∀ i : Nat, i < a.nb → Calls Tryz.prog 93 #[.pointer (some ⟨R.r, 0, none⟩), .int .i64 i] wx fun e w' => ∃ g cap, e = .returned (.tuple #[.slice (some ⟨g, 0, none⟩) 512 cap, .int .i64 0]) ∧ wx.heap.size ≤ g ∧ OwnB w' g cap (bck a.full i) ∧ Below wx.heap.size wx w') := fun wx hx hd i hi => (h.on hx).read hd i hi
  clear h
  obtain ⟨r, hr⟩ : ∃ r, R.r = r := ⟨_, rfl⟩
  rw [hr] at HB HRd c4 ⊢
  obtain ⟨nb, hnb2⟩ : ∃ nb, R.nb = nb := ⟨_, rfl⟩
  rw [hnb2] at HB hnb0 hnb
  have HNb : Hid (a.nb = nb) := hnb
  clear hr hnb2 hnb
  obtain ⟨ou, hou⟩ : ∃ ou, R.out = ou := ⟨_, rfl⟩
  rw [hou] at c4 hdo
  have HDn : Hid (a.down = ou) := hdo
  clear hou hdo
  obtain ⟨i2, k1, k2, k3, k4⟩ := info_parts infoSy
  go_enter Tryz.func64, Tryz.ntmps64
  cases ou with
  | true =>
    have he : opE a = 30 := by unfold opE; rw [if_pos HDn.out]
    go_wp2
    go_ret3
    exact .inl ⟨by rw [he]; decide, by rw [he]; rfl, Below.refl _ _⟩
  | false =>
    have HO : Hid (opE a = logE a.full a.nb ∧ a.full.length = 512 * nb) := ⟨by unfold opE; rw [HDn.out]; rfl, by rw [← HNb.out]; exact HT.out.flen HDn.out⟩
    go_upto_region 4 with (go_at_call 60; refine HB.out.mono ?_; rintro e w1 ⟨rfl, hb⟩; have H1 : Hid (Below w.heap.size w w1) := hb; clear hb)
    clear c4
    by_cases h98 : nb < 98
    · have he : opE a = 31 := by rw [HO.out.1, HNb.out]; unfold logE; rw [if_pos h98]
      have h98b : (nb : Int) < 98 := by omega
      go_wp2
      go_ret3
      exact .inl ⟨by rw [he]; decide, by rw [he]; rfl, H1.out⟩
    · have h98b : ¬ (nb : Int) < 98 := by omega
      have HR1 : Hid (Calls Tryz.prog 93 #[.pointer (some ⟨r, 0, none⟩), .int .i64 1] w1 fun e w' => ∃ g cap, e = .returned (.tuple #[.slice (some ⟨g, 0, none⟩) 512 cap, .int .i64 0]) ∧ w1.heap.size ≤ g ∧ OwnB w' g cap (bck a.full 1) ∧ Below w1.heap.size w1 w') := HRd.out w1 H1.out HDn.out 1 (by rw [HNb.out]; omega)
      go_upto_region 7 with (go_at_call 93; refine HR1.out.mono ?_; rintro e w2 ⟨hg, hcap, rfl, h1, h2, h3⟩; have H2 : Hid (w1.heap.size ≤ hg ∧ OwnB w2 hg hcap (bck a.full 1) ∧ Below w1.heap.size w1 w2) := ⟨h1, h2, h3⟩; clear h1 h2 h3)
      have HB2 : Hid (Below w.heap.size w w2) := H1.out.trans (H2.out.2.2.mono H1.out.size)
      have HL1 : Hid ((bck a.full 1).length = 512) := bck_length a.full 1 nb HO.out.2 (by omega)
      go_upto_region 8 with (go_at_call 94; refine (rnums_any w2 (some ⟨hg, 0, none⟩) 512 hcap (bck a.full 1) (nb : Int) HL1.out H2.out.2.1.bytes).mono ?_; rintro e w3 ⟨v, rfl, h1, h2⟩; obtain ⟨sa, k, nc, rfl, hk, hI⟩ := numsAt_ints h1; have H3 : Hid ((numsL (bck a.full 1) (nb : Int)).length = k ∧ Ints w3 sa (numsL (bck a.full 1) (nb : Int)) ∧ Below w2.heap.size w2 w3) := ⟨hk, hI, h2⟩; clear h1 h2 hk hI)
      have HB3 : Hid (Below w.heap.size w w3) := HB2.out.trans (H3.out.2.2.mono HB2.out.size)
      obtain ⟨E, hE⟩ : ∃ E, numsE (bck a.full 1) (nb : Int) = E := ⟨_, rfl⟩
      rw [hE]
      have hk96 : k ≤ 96 := by rw [← H3.out.1]; exact numsL_hi _ _
      by_cases hz : E = 0
      · subst hz
        have HN : Hid (logN a.full a.nb = numsL (bck a.full 1) (nb : Int) ∧ logE a.full a.nb = if logN a.full a.nb = [] ∨ good (bck a.full 1) nb (logD a.full (logN a.full a.nb).length) = true then 0 else 41) := by
          refine ⟨by rw [HNb.out]; rfl, ?_⟩
          rw [HNb.out]; unfold logE; rw [if_neg h98, if_pos hE]
        clear hE
        go_wp2
        go_loopw [10, 11] (fun s10 s11 wr => ∃ m : Nat, m ≤ k ∧ s11 = .int .i64 m ∧ ∃ L, L.length = m ∧ nsG L = (numsL (bck a.full 1) (nb : Int)).take m ∧ dsG L = logD a.full m ∧ DtL w3 wr s10 L) (fun _ s11 _ => k - (intOf s11).toNat)
        case atStart => exact ⟨0, Nat.zero_le _, rfl, [], rfl, rfl, rfl, DtL.zero (Below.refl _ _)⟩
        case round =>
          obtain ⟨m, hm, rfl, L, hL1, hL2, hL3, hD⟩ := hrel
          have HD : Hid (DtL w3 wr u10 L ∧ L.length = m ∧ nsG L = (numsL (bck a.full 1) (nb : Int)).take m ∧ dsG L = logD a.full m) := ⟨hD, hL1, hL2, hL3⟩
          clear hD hL1 hL2 hL3
          have HBr : Hid (Below w.heap.size w wr) := HB3.out.trans (HD.out.1.bel.mono HB3.out.size)
          by_cases hlt : m < k
          · have HRm : Hid (Calls Tryz.prog 93 #[.pointer (some ⟨r, 0, none⟩), .int .i64 (2 + (m : Int))] wr fun e w' => ∃ g cap, e = .returned (.tuple #[.slice (some ⟨g, 0, none⟩) 512 cap, .int .i64 0]) ∧ wr.heap.size ≤ g ∧ OwnB w' g cap (bck a.full (2 + m)) ∧ Below wr.heap.size wr w') := by
              have := HRd.out wr HBr.out HDn.out (2 + m) (by rw [HNb.out]; omega)
              rw [show (((2 + m : Nat)) : Int) = 2 + (m : Int) by omega] at this
              exact this
            have HRow : Hid (wr.ownsRow 0 37 1 u10 m (L.map BG.v)) := by have := HD.out.1.row; rw [HD.out.2.1] at this; exact this
            go_wp2_with (first
              | (go_at_call 93; refine HRm.out.mono ?_; rintro e w4 ⟨g4, cap4, rfl, h1, h2, h3⟩; have H4 : Hid (wr.heap.size ≤ g4 ∧ OwnB w4 g4 cap4 (bck a.full (2 + m)) ∧ Below wr.heap.size wr w4) := ⟨h1, h2, h3⟩; clear h1 h2 h3)
              | (at_builtin; refine wp_own rfl (.tmp 48) (.tmp 50) 33 rfl 37 i2 _ 1 24 Tryz.underlying33 k1 k2 k3 k4 rfl (by decide) u10 m (L.map BG.v) rfl (owns_fr HRow.out (below_fr (H4.out.2.2.trans (((Below.refl w4.heap.size w4).alloc (Nat.le_refl _) _).mono H4.out.2.2.size)) (fun _ => False)) (fun _ _ e => e)) ⟨w4.heap.size, 0, none⟩ 1 1 [.slice (some ⟨g4, 0, none⟩) 512 cap4] rfl (by decide) rfl (news_of (heap_alloc_new w4 _) _ rfl) (by intro u hu; simp at hu; subst hu; rfl) (by unfold maxLen; omega) (by omega) ?_
                 intro g5 cap5 w5 h1 h2 h3
                 go_frame
                 have hlm : (bck a.full (2 + m)).length = 512 := bck_length a.full (2 + m) nb HO.out.2 (by omega)
                 have HE : Hid (DtL w3 w5 (.slice (some ⟨g5, 0, none⟩) (m + 1) cap5) (L ++ [⟨nth (numsL (bck a.full 1) (nb : Int)) m, some ⟨g4, 0, none⟩, cap4, bck a.full (2 + m)⟩])) := (by
                   have hba : Below w4.heap.size w4 (w4.alloc (.cells #[.slice (some ⟨g4, 0, none⟩) 512 cap4] 37)) := (Below.refl _ _).alloc (Nat.le_refl _) _
                   refine HD.out.1.add HD.out.2.1 (H4.out.2.2.trans (hba.mono H4.out.2.2.size)) ⟨rfl, H4.out.2.1.on hba, by have := H4.out.1; have := HD.out.1.bel.size; omega⟩ ?_ h2 h3
                   show w5.ownsRow 0 37 1 _ _ (L.map BG.v ++ [.slice (some ⟨g4, 0, none⟩) (bck a.full (2 + m)).length cap4])
                   rw [hlm]; exact h1)
                 clear h1 h2 h3 hlm))
            refine ⟨⟨m + 1, hlt, rfl, _, ?_, ?_, ?_, HE.out⟩, by simp [intOf]; omega⟩
            · rw [List.length_append, HD.out.2.1]; rfl
            · have hml : m < (numsL (bck a.full 1) (nb : Int)).length := by rw [H3.out.1]; exact hlt
              have e : (numsL (bck a.full 1) (nb : Int)).take (m + 1) = (numsL (bck a.full 1) (nb : Int)).take m ++ [nth (numsL (bck a.full 1) (nb : Int)) m] := by
                rw [List.take_add_one, List.getElem?_eq_getElem hml]
                unfold nth; rw [List.getD, List.getElem?_eq_getElem hml]; rfl
              unfold nsG at *
              rw [e, List.map_append, HD.out.2.2.1]; rfl
            · rw [logD_succ]; unfold dsG at *; rw [List.map_append, HD.out.2.2.2]; rfl
          · have hmk : m = k := by omega
            subst hmk
            obtain ⟨da, dc, rfl, hDa, hcells⟩ := HD.out.1.data HD.out.2.1 (by omega)
            have HDa : Hid (Data wr da (dsG L) ∧ (L = [] ∨ ∃ b off, da = some ⟨b, off, none⟩ ∧ ∀ i q, L[i]? = some q → wr.cell? ⟨b, off + i, none⟩ = some q.v)) := ⟨hDa, hcells⟩
            clear hDa hcells
            have HNs : Hid (nsG L = logN a.full a.nb ∧ dsG L = logD a.full m ∧ (logN a.full a.nb).length = m) := by
              have e : (numsL (bck a.full 1) (nb : Int)).take m = numsL (bck a.full 1) (nb : Int) := List.take_of_length_le (by rw [H3.out.1]; exact Nat.le_refl _)
              refine ⟨by rw [HN.out.1, HD.out.2.2.1, e], HD.out.2.2.2, by rw [HN.out.1]; exact H3.out.1⟩
            have HFin : Hid (∀ wx, Below wr.heap.size wr wx → opE a = 0 → LgP w a (.returned (.tuple #[.slice sa m nc, .slice da m dc, .int .i64 0])) wx) := fun wx hx h0 => by
              have hbx : Below w3.heap.size w3 wx := HD.out.1.bel.trans (hx.mono HD.out.1.bel.size)
              have hd' := HD.out.1.on hx
              refine .inr ⟨h0, sa, nc, da, dc, m, L, rfl, HD.out.2.1, hk96, HNs.out.1, HNs.out.2.1, ⟨?_, ?_, fun q hq => ?_, Below.refl _ _⟩, fun q hq => ?_, HB3.out.trans (hbx.mono HB3.out.size)⟩
              · rw [HNs.out.1, HN.out.1]; exact H3.out.2.1.on hbx
              · rcases HDa.out.2 with e | ⟨b, off, e, hc⟩
                · exact .inl e
                · exact .inr ⟨b, off, e, fun i q hq => (below_fr hx (fun _ => False)).cell (hc i q hq) (fun e => e)⟩
              · obtain ⟨g, e, ho, _⟩ := hd'.each q hq
                rw [e]; exact ho.bytes
              · obtain ⟨g, e, _, hg⟩ := hd'.each q hq
                exact ⟨g, e, Nat.le_trans HB3.out.size hg⟩
            by_cases hm0 : m = 0
            · subst hm0
              have h0 : opE a = 0 := by
                rw [HO.out.1, HN.out.2, if_pos (.inl (List.eq_nil_of_length_eq_zero HNs.out.2.2))]
              have hF := HFin.out wr (Below.refl _ _) h0
              have HF2 : Hid (LgP w a (.returned (.tuple #[.slice sa 0 nc, .slice da 0 dc, .int .i64 0])) wr) := hF
              clear hF
              go_wp2
              go_ret3
              exact HF2.out
            · have hm1 : (0 : Int) < (m : Int) := by omega
              have HGd : Hid (Calls Tryz.prog 95 #[.slice (some ⟨hg, 0, none⟩) 512 hcap, .int .i64 (nb : Int), .slice da m dc] wr fun e w' => e = .returned (.bool (good (bck a.full 1) (nb : Int) (dsG L))) ∧ Below wr.heap.size wr w') := rgood_any wr (some ⟨hg, 0, none⟩) da 512 hcap m dc (bck a.full 1) (dsG L) (nb : Int) HL1.out (by rw [dsG_len]; exact HD.out.2.1) (H2.out.2.1.on (H3.out.2.2.trans (HD.out.1.bel.mono H3.out.2.2.size))).bytes HDa.out.1
              obtain ⟨gd, hgd⟩ : ∃ gd, good (bck a.full 1) (nb : Int) (dsG L) = gd := ⟨_, rfl⟩
              rw [hgd] at HGd
              have hne : ¬ logN a.full a.nb = [] := fun e => hm0 (by rw [← HNs.out.2.2, e]; rfl)
              have hoe : opE a = if gd = true then 0 else 41 := by
                rw [HO.out.1, HN.out.2, HNs.out.2.2, ← HNs.out.2.1, hgd]
                by_cases c : gd = true
                · rw [if_pos (.inr c), if_pos c]
                · rw [if_neg (fun e => e.elim hne c), if_neg c]
              have HOE : Hid (opE a = if gd = true then 0 else 41) := hoe
              clear hoe
              clear hgd hne
              go_upto_if 61 with (go_at_call 95; refine HGd.out.mono ?_; rintro e w6 ⟨rfl, hb⟩; have H6 : Hid (Below wr.heap.size wr w6) := hb; clear hb)
              cases gd with
              | true =>
                have hF := HFin.out w6 H6.out (by rw [HOE.out]; rfl)
                have HF2 : Hid (LgP w a (.returned (.tuple #[.slice sa m nc, .slice da m dc, .int .i64 0])) w6) := hF
                clear hF
                go_wp2
                go_ret3
                exact HF2.out
              | false =>
                have he : opE a = 41 := by rw [HOE.out]; rfl
                go_wp2
                go_ret3
                exact .inl ⟨by rw [he]; decide, by rw [he]; rfl, HBr.out.trans (H6.out.mono HBr.out.size)⟩
      · have he : opE a = 41 := by
          rw [HO.out.1, HNb.out]; unfold logE
          rw [if_neg h98, if_neg (by rw [hE]; exact hz)]
          exact numsE_vals HL1.out (by rw [hE]; exact hz)
        go_wp2
        go_ret3
        exact .inl ⟨by rw [he]; decide, by rw [he]; rfl, HB3.out⟩
end Go.Proofs.YtamlbpbhlgmcoaaGreatDoor
