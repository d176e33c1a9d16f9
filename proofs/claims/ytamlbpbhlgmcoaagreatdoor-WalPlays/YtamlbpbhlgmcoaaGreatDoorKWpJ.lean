import Derived.Test.YtamlbpbhlgmcoaaGreatDoorWpI
namespace Go.Proofs.YtamlbpbhlgmcoaaGreatDoor
open Go.RowKit Rec
theorem log_nilJ {l : List Int} {nb : Nat} (hl : l.length = 512 * nb) (hn : 98 ≤ nb) (he : logE l nb = 0) (h0 : logN l nb = []) : bck l 1 = zs := by
  have h1 : numsE (bck l 1) nb = 0 := by
    unfold logE at he
    rw [if_neg (by omega)] at he
    by_cases c : numsE (bck l 1) nb = 0
    · exact c
    · rw [if_neg c] at he; exact he
  have hb : (bck l 1).length = 512 := bck_length l 1 nb hl (by omega)
  have hz : zr (bck l 1) 0 512 = true := by
    cases hz : zr (bck l 1) 0 512 with
    | true => rfl
    | false =>
      unfold numsE at h1
      rw [if_pos hb, hz] at h1
      have hH : isH (bck l 1) nb = true := by
        cases hH : isH (bck l 1) nb with
        | true => rfl
        | false => rw [hH] at h1; simp at h1
      unfold logN numsL at h0
      rw [if_pos ⟨hb, hz, hH⟩] at h0
      have e := hH
      simp only [isH, form, Bool.and_eq_true, decide_eq_true_eq] at e
      have h2 : 1 ≤ (nsOf (bck l 1)).length := by simpa [nsOf] using e.1.1.2.1
      rw [h0] at h2
      simp at h2
  have hz' : ∀ i, i < 512 → nth (bck l 1) (0 + i) = 0 := by simpa [zr] using hz
  refine ext_nth (by rw [hb, zs_length]) fun i hi => ?_
  rw [hb] at hi
  have := hz' i hi
  rw [Nat.zero_add] at this
  rw [this, nth_zs]
/-- a block as the document's Behind finds it, m numbers asked -/
def inB (F : List Int) (i : Nat) (ns : List Int) (ds : List (List Int)) : Nat → List Int
  | 0 => bck F i
  | m + 1 => if nth ns m = (i : Int) then row ds m else if i = 1 then zs else inB F i ns ds m
theorem inB_len {F : List Int} {i nb : Nat} {ns : List Int} {ds : List (List Int)} (hl : F.length = 512 * nb) (hi : i < nb) (hd : ∀ b, b ∈ ds → b.length = 512) (m : Nat) (hm : m ≤ ds.length) : (inB F i ns ds m).length = 512 := by
  induction m with
  | zero => exact bck_length F i nb hl hi
  | succ m ih =>
    rw [inB]
    split
    · exact hd _ (by unfold row; rw [List.getD, List.getElem?_eq_getElem (by omega)]; exact List.getElem_mem _)
    · split
      · exact zs_length
      · exact ih (by omega)
theorem inB_behind {F : List Int} {nb i : Nat} (hl : F.length = 512 * nb) (hn : 98 ≤ nb) (he : logE F nb = 0) (hi : i < nb) : inB F i (logN F nb) (logD F (logN F nb).length) (logN F nb).length = bck (behind F nb) i := by
  by_cases h0 : logN F nb = []
  · rw [behind_empty hl hn (log_nilJ hl hn he h0), h0]; rfl
  · have hdl : (logD F (logN F nb).length).length = (logN F nb).length := by simp [logD]
    rw [bck_behind F nb i hl hi]
    have hk0 : 0 < (logN F nb).length := by cases h : logN F nb with | nil => exact absurd h h0 | cons x xs => simp
    by_cases h1 : i = 1
    · subst h1
      rw [if_pos rfl]
      have : ∀ m, 0 < m → m ≤ (logN F nb).length → inB F 1 (logN F nb) (logD F (logN F nb).length) m = zs := fun m h0 hm => by
        cases m with
        | zero => omega
        | succ m =>
          obtain ⟨v, e, hv, _⟩ := logN_nat F nb m (by omega)
          rw [inB, if_neg (by rw [e]; omega), if_pos rfl]
      exact this _ hk0 (Nat.le_refl _)
    · rw [if_neg h1]
      have hH := logH_ok F nb hl hn
      have hlen : (logH F nb).length = (logN F nb).length := homes_length _ _ hdl
      have key : ∀ m, m ≤ (logN F nb).length → (∃ k, k < m ∧ nth (logN F nb) k = (i : Int)) → inB F i (logN F nb) (logD F (logN F nb).length) m = bck (fw F (logH F nb)) i := fun m => by
        induction m with
        | zero => rintro _ ⟨k, hk, _⟩; omega
        | succ m ih =>
          intro hm hex
          rw [inB]
          by_cases c : nth (logN F nb) m = (i : Int)
          · rw [if_pos c]
            have hp : (logH F nb)[m]'(by omega) = ((nth (logN F nb) m).toNat, row (logD F (logN F nb).length) m) := homes_get _ _ m (by rw [show homes _ _ = logH F nb from rfl]; omega)
            have hmem : ((nth (logN F nb) m).toNat, row (logD F (logN F nb).length) m) ∈ logH F nb := by rw [← hp]; exact List.getElem_mem _
            have := bck_fw_in F (logH F nb) nb hl hH.len hH.hi hH.once _ hmem
            rw [c] at this
            exact this.symm
          · rw [if_neg c, if_neg h1]
            obtain ⟨k, hk, e⟩ := hex
            exact ih (by omega) ⟨k, by by_cases e2 : k = m; · rw [e2] at e; exact absurd e c
                                       · omega, e⟩
      have key2 : ∀ m, m ≤ (logN F nb).length → (∀ k, k < m → nth (logN F nb) k ≠ (i : Int)) → inB F i (logN F nb) (logD F (logN F nb).length) m = bck F i := fun m => by
        induction m with
        | zero => intro _ _; rfl
        | succ m ih =>
          intro hm hno
          rw [inB, if_neg (hno m (by omega)), if_neg h1]
          exact ih (by omega) (fun k hk => hno k (by omega))
      by_cases c : ∃ k, k < (logN F nb).length ∧ nth (logN F nb) k = (i : Int)
      · exact key _ (Nat.le_refl _) c
      · rw [key2 _ (Nat.le_refl _) (fun k hk e => c ⟨k, hk, e⟩)]
        refine (bck_fw_out F (logH F nb) i nb hl hH.len hi (fun p hp e => ?_)).symm
        obtain ⟨k, hk, rfl⟩ := List.getElem_of_mem hp
        have hg : (logH F nb)[k] = ((nth (logN F nb) k).toNat, row (logD F (logN F nb).length) k) := homes_get _ _ k hk
        rw [hg] at e
        obtain ⟨v, e2, _, _⟩ := logN_nat F nb k (by omega)
        exact c ⟨k, by omega, by rw [e2] at e ⊢; simp at e; omega⟩
/-- what Behind answers -/
def BhP (w : World) (a : AD) (e : Ending) (w' : World) : Prop := (opE a ≠ 0 ∧ e = .returned (.tuple #[.slice none 0 0, .int .i64 (opE a)]) ∧ Below w.heap.size w w') ∨ (opE a = 0 ∧ ∃ g cap, e = .returned (.tuple #[.slice (some ⟨g, 0, none⟩) (512 * a.nb : Nat) cap, .int .i64 0]) ∧ OwnB w' g cap (behind a.full a.nb) ∧ w.heap.size ≤ g ∧ Below w.heap.size w w')
theorem take_blk (l : List Int) (i : Nat) : l.take (512 * (i + 1)) = l.take (512 * i) ++ bck l i := by
  rw [show 512 * (i + 1) = 512 * i + 512 by omega, List.take_add]; rfl
/-- the bytes so far -/
structure BhL (w2 wr : World) (v : Value) (F : List Int) (nb i : Nat) : Prop where
  row : wr.ownsRow 0 5 1 v (512 * i) (((behind F nb).take (512 * i)).map (Value.int .u8))
  far : ∀ k, v.ownBlock = some k → w2.heap.size ≤ k
  bel : Below w2.heap.size w2 wr
  wf : ∀ x, 0 ≤ nth ((behind F nb).take (512 * i)) x ∧ nth ((behind F nb).take (512 * i)) x < 256
theorem BhL.on {w2 wr w' : World} {v : Value} {F : List Int} {nb i : Nat} (h : BhL w2 wr v F nb i) (hb : Below wr.heap.size wr w') : BhL w2 w' v F nb i := ⟨owns_on h.row hb, h.far, h.bel.trans (hb.mono h.bel.size), h.wf⟩
theorem BhL.next {w2 wr wa w' : World} {v : Value} {F : List Int} {nb i g cap : Nat} {x : List Int} (h : BhL w2 wr v F nb i) (ha : Below wr.heap.size wr wa) (hx : x = bck (behind F nb) i) (hw : ∀ k, 0 ≤ nth x k ∧ nth x k < 256) (h1 : w'.ownsRow 0 5 1 (.slice (some ⟨g, 0, none⟩) (512 * i + 512) cap) (512 * i + 512) (((behind F nb).take (512 * i) ++ x).map (Value.int .u8))) (h2 : Fr (fun k => v.ownBlock = some k) wa w') (h3 : v.ownBlock = some g ∨ wa.heap.size ≤ g) : BhL w2 w' (.slice (some ⟨g, 0, none⟩) (512 * i + 512) cap) F nb (i + 1) := by
  have h' := h.on ha
  refine ⟨?_, fun b e => ?_, h'.bel.trans (h2.below _ h.far h'.bel.size), fun k => ?_⟩
  · rw [take_blk, ← hx, show 512 * (i + 1) = 512 * i + 512 by omega]; exact h1
  · cases e
    rcases h3 with h3 | h3
    · exact h.far _ h3
    · exact Nat.le_trans h'.bel.size h3
  · rw [take_blk, ← hx, nth_app]
    split
    · exact h.wf k
    · exact hw _
set_option maxRecDepth 100000 in
set_option maxHeartbeats 8000000 in
theorem rbehind_any (w : World) (a : AD) (R : RDk) (j : Nat) (h : RT w a R j) : Calls Tryz.prog 66 #[.pointer (some ⟨R.r, 0, none⟩)] w (BhP w a) := by
  have hnb : a.nb = R.nb := h.tie.nb
  have hnb0 := h.r.nb0
  have HT : Hid (RT w a R j) := h
  have HLg : Hid (Calls Tryz.prog 64 #[.pointer (some ⟨R.r, 0, none⟩)] w (LgP w a)) := log_any w a R j h
  have HB : Hid (∀ wx, Below w.heap.size w wx → Calls Tryz.prog 60 #[.pointer (some ⟨R.r, 0, none⟩)] wx fun e w' => e = .returned (.int .i64 (R.nb : Int)) ∧ Below wx.heap.size wx w') := fun wx hx => rdblocks_any wx R (h.r.on hx)
  have HRd : Hid (∀ wx, Below w.heap.size w wx → a.down = false → ∀ i : Nat, i < a.nb → Calls Tryz.prog 93 #[.pointer (some ⟨R.r, 0, none⟩), .int .i64 i] wx fun e w' => ∃ g cap, e = .returned (.tuple #[.slice (some ⟨g, 0, none⟩) 512 cap, .int .i64 0]) ∧ wx.heap.size ≤ g ∧ OwnB w' g cap (bck a.full i) ∧ Below wx.heap.size wx w') := fun wx hx hd i hi => (h.on hx).read hd i hi
  clear h
  obtain ⟨r, hr⟩ : ∃ r, R.r = r := ⟨_, rfl⟩
  rw [hr] at HB HRd HLg ⊢
  obtain ⟨nb, hnb2⟩ : ∃ nb, R.nb = nb := ⟨_, rfl⟩
  rw [hnb2] at HB hnb0 hnb
  have HNb : Hid (a.nb = nb) := hnb
  clear hr hnb2 hnb
  go_enter Tryz.func66, Tryz.ntmps66
  by_cases hop : opE a = 0
  · have hdn : a.down = false := by
      cases e : a.down with
      | false => rfl
      | true => unfold opE at hop; rw [e] at hop; simp at hop
    have hle : logE a.full nb = 0 := by rw [← HNb.out]; unfold opE at hop; rw [hdn] at hop; exact hop
    have h98 : 98 ≤ nb := by
      by_cases c : nb < 98
      · unfold logE at hle; rw [if_pos c] at hle; exact absurd hle (by decide)
      · omega
    have HO : Hid (opE a = 0 ∧ a.down = false ∧ logE a.full nb = 0 ∧ a.full.length = 512 * nb) := ⟨hop, hdn, hle, by rw [← HNb.out]; exact HT.out.flen hdn⟩
    have HLg2 : Hid (Calls Tryz.prog 64 #[.pointer (some ⟨r, 0, none⟩)] w fun e w' => ∃ sa nc da dc k L, e = .returned (.tuple #[.slice sa k nc, .slice da k dc, .int .i64 0]) ∧ L.length = k ∧ k ≤ 96 ∧ nsG L = logN a.full a.nb ∧ dsG L = logD a.full k ∧ NdA w' w' sa da L ∧ (∀ q ∈ L, ∃ g, q.a = some ⟨g, 0, none⟩ ∧ w.heap.size ≤ g) ∧ Below w.heap.size w w') := HLg.out.mono (fun e w' h => by
      rcases h with h | h
      · exact absurd hop h.1
      · exact h.2)
    clear hop hdn hle
    go_upto_region 2 with (go_at_call 64; refine HLg2.out.mono ?_; rintro e w2 ⟨sa, nc, da, dc, k, L, rfl, g1, g2, g3, g4, g5, _, g7⟩; have H2 : Hid (L.length = k ∧ nsG L = logN a.full nb ∧ dsG L = logD a.full k ∧ NdA w2 w2 sa da L ∧ Below w.heap.size w w2) := ⟨g1, by rw [← HNb.out]; exact g3, g4, g5, g7⟩; have hk96 : k ≤ 96 := g2; clear g1 g2 g3 g4 g5 g7)
    have HLen : Hid ((logN a.full nb).length = k ∧ ∀ b, b ∈ dsG L → b.length = 512) := by
      refine ⟨by rw [← H2.out.2.1, nsG_len]; exact H2.out.1, fun b hb => ?_⟩
      rw [H2.out.2.2.1] at hb
      unfold logD at hb
      obtain ⟨i, hi, rfl⟩ := List.mem_map.1 hb
      have := List.mem_range.1 hi
      exact bck_length _ _ nb HO.out.2.2.2 (by omega)
    go_wp2
    go_loopw [7, 8] (fun s7 s8 wr => ∃ i : Nat, i ≤ nb ∧ s8 = .int .i64 i ∧ BhL w2 wr s7 a.full nb i) (fun _ s8 _ => nb - (intOf s8).toNat)
    case atStart => exact ⟨0, Nat.zero_le _, rfl, ⟨⟨rfl, .inl ⟨rfl, rfl⟩⟩, (fun k e => by cases e), Below.refl _ _, (fun x => by simp [nth])⟩⟩
    case round =>
      obtain ⟨i, hi, rfl, hA⟩ := hrel
      obtain ⟨wo, hwo⟩ : ∃ wo, wr = wo := ⟨_, rfl⟩
      rw [hwo] at hA ⊢
      clear hwo
      have HA : Hid (BhL w2 wo u7 a.full nb i) := hA
      clear hA
      have HBo : Hid (Below w.heap.size w wo) := H2.out.2.2.2.2.trans (HA.out.bel.mono H2.out.2.2.2.2.size)
      have HBl : Hid (Calls Tryz.prog 60 #[.pointer (some ⟨r, 0, none⟩)] wo fun e w' => e = .returned (.int .i64 (nb : Int)) ∧ Below wo.heap.size wo w') := HB.out wo HBo.out
      by_cases hlt : i < nb
      · have hltb : (i : Int) < (nb : Int) := by omega
        go_upto_region 8 with (go_at_call 60; refine HBl.out.mono ?_; rintro e w3 ⟨rfl, hb⟩; have H3 : Hid (Below wo.heap.size wo w3) := hb; clear hb)
        have HB3 : Hid (Below w.heap.size w w3) := HBo.out.trans (H3.out.mono HBo.out.size)
        have HRi : Hid (Calls Tryz.prog 93 #[.pointer (some ⟨r, 0, none⟩), .int .i64 i] w3 fun e w' => ∃ g cap, e = .returned (.tuple #[.slice (some ⟨g, 0, none⟩) 512 cap, .int .i64 0]) ∧ w3.heap.size ≤ g ∧ OwnB w' g cap (bck a.full i) ∧ Below w3.heap.size w3 w') := HRd.out w3 HB3.out HO.out.2.1 i (by rw [HNb.out]; exact hlt)
        go_upto_region 9 with (go_at_call 93; refine HRi.out.mono ?_; rintro e w4 ⟨g4, cap4, rfl, h1, h2, h3⟩; have H4 : Hid (OwnB w4 g4 cap4 (bck a.full i) ∧ Below w3.heap.size w3 w4) := ⟨h2, h3⟩; clear h1 h2 h3)
        have HA4 : Hid (BhL w2 w4 u7 a.full nb i) := HA.out.on (H3.out.trans (H4.out.2.mono H3.out.size))
        have HIn : Hid (∀ m, m ≤ k → (inB a.full i (logN a.full nb) (dsG L) m).length = 512) := fun m hm => inB_len HO.out.2.2.2 hlt HLen.out.2 m (by rw [dsG_len, H2.out.1]; exact hm)
        generalize hz : (i : Int) = z
        have HZ : Hid ((i : Int) = z) := hz
        clear hz HRi
        rw [HZ.out] at hltb
        have hz0 : 0 ≤ z := by have := HZ.out; omega
        go_wp2
        go_loopw [9, 11] (fun s9 s11 wy => ∃ m : Nat, m ≤ k ∧ s11 = .int .i64 m ∧ ∃ b off c, s9 = .slice (some ⟨b, off, none⟩) 512 c ∧ Bytes wy (some ⟨b, off, none⟩) (inB a.full i (logN a.full nb) (dsG L) m) ∧ Below w4.heap.size w4 wy) (fun _ s11 _ => k - (intOf s11).toNat)
        case atStart => exact ⟨0, Nat.zero_le _, rfl, _, _, _, rfl, H4.out.1.bytes, Below.refl _ _⟩
        case round =>
          obtain ⟨m, hm, rfl, b9, o9, c9, rfl, hB9, hb9⟩ := hrel
          obtain ⟨wy, hwy⟩ : ∃ wy, wr = wy := ⟨_, rfl⟩
          rw [hwy] at hB9 hb9 ⊢
          clear hwy
          have H9 : Hid (Bytes wy (some ⟨b9, o9, none⟩) (inB a.full i (logN a.full nb) (dsG L) m) ∧ Below w4.heap.size w4 wy) := ⟨hB9, hb9⟩
          clear hB9 hb9
          have HBy : Hid (Below w2.heap.size w2 wy) := HA4.out.bel.trans (H9.out.2.mono HA4.out.bel.size)
          by_cases hlm : m < k
          · obtain ⟨q, hq⟩ : ∃ q, L[m]? = some q := ⟨_, List.getElem?_eq_getElem (by rw [H2.out.1]; exact hlm)⟩
            obtain ⟨⟨b1, o1, rfl, c1⟩, b2, o2, rfl, c2⟩ := (H2.out.2.2.2.1.on HBy.out).cell hq
            have hqx : Hid (nth (logN a.full nb) m = q.n ∧ row (dsG L) m = q.x ∧ Bytes wy q.a q.x ∧ q.x.length = 512 ∧ ∃ p, q.a = some p) := by
              have hmem := List.mem_of_getElem? hq
              have hl5 : q.x.length = 512 := HLen.out.2 q.x (List.mem_map.2 ⟨q, hmem, rfl⟩)
              have hby := (H2.out.2.2.2.1.each q hmem).on HBy.out
              refine ⟨by rw [← H2.out.2.1]; exact nth_nsG hq, row_dsG hq, hby, hl5, ?_⟩
              cases e : q.a with
              | some p => exact ⟨p, rfl⟩
              | none => rw [e] at hby; have := hby.nil; rw [this] at hl5; simp at hl5
            clear hq
            rw [hqx.out.2.2.2.1] at c2
            obtain ⟨pq, hpq⟩ := hqx.out.2.2.2.2
            rw [hpq] at c2
            obtain ⟨qn, hqn⟩ : ∃ qn, q.n = qn := ⟨_, rfl⟩
            rw [hqn] at c1
            have HQ : Hid (nth (logN a.full nb) m = qn ∧ row (dsG L) m = q.x ∧ Bytes wy (some pq) q.x) := ⟨by rw [hqx.out.1]; exact hqn, hqx.out.2.1, by rw [← hpq]; exact hqx.out.2.2.1⟩
            clear hpq hqn hqx
            have HL5 : Hid (q.x.length = 512) := by rw [← HQ.out.2.1]; exact HLen.out.2 _ (by unfold row; rw [List.getD, List.getElem?_eq_getElem (by rw [dsG_len, H2.out.1]; exact hlm)]; exact List.getElem_mem _)
            obtain ⟨bq, oq, hpq, _⟩ := HQ.out.2.2.at_.resolve_left (fun e => by have := HL5.out; rw [e] at this; simp at this)
            have hpq := Option.some.inj hpq
            subst hpq
            have HC : Hid (∀ wz, Below wy.heap.size wy wz → wz.cell? ⟨b1, o1 + m, none⟩ = some (.int .i64 qn) ∧ wz.cell? ⟨b2, o2 + m, none⟩ = some (.slice (some ⟨bq, oq, none⟩) 512 q.c)) := fun wz hb => ⟨(below_fr hb (fun _ => False)).cell c1 (fun e => e), (below_fr hb (fun _ => False)).cell c2 (fun e => e)⟩
            clear c1 c2
            have hltm : (m : Int) < (k : Int) := by omega
            by_cases hi1 : i = 1
            · have hz1 : z = 1 := by have := HZ.out; omega
              subst hz1
              go_upto_region 14 with (go_at_call 96; refine (rempty_any _).mono ?_; rintro e w6 ⟨g6, cap6, rfl, h1, h2, h3⟩; have H6 : Hid (OwnB w6 g6 cap6 zs ∧ Below wy.heap.size wy w6) := ⟨h1, h3⟩; clear h1 h2 h3)
              have c1 := (HC.out w6 H6.out.2).1
              have c2 := (HC.out w6 H6.out.2).2
              by_cases hqi : qn = 1
              · subst hqi
                go_wp2
                exact ⟨⟨m + 1, hlm, rfl, _, _, _, rfl, by rw [inB, HZ.out, if_pos HQ.out.1, HQ.out.2.1]; exact HQ.out.2.2.on H6.out.2, H9.out.2.trans (H6.out.2.mono H9.out.2.size)⟩, by simp [intOf]; omega⟩
              · go_wp2
                exact ⟨⟨m + 1, hlm, rfl, _, _, _, rfl, by rw [inB, HZ.out, HQ.out.1, if_neg hqi, if_pos hi1]; exact H6.out.1.bytes, H9.out.2.trans (H6.out.2.mono H9.out.2.size)⟩, by simp [intOf]; omega⟩
            · have hi1' : ¬ (z = 1) := by have := HZ.out; omega
              have c1 := (HC.out wy (Below.refl _ _)).1
              have c2 := (HC.out wy (Below.refl _ _)).2
              by_cases hqi : qn = z
              · subst hqi
                go_wp2
                exact ⟨⟨m + 1, hlm, rfl, _, _, _, rfl, by rw [inB, HZ.out, if_pos HQ.out.1, HQ.out.2.1]; exact HQ.out.2.2, H9.out.2⟩, by simp [intOf]; omega⟩
              · go_wp2
                exact ⟨⟨m + 1, hlm, rfl, _, _, _, rfl, by rw [inB, HZ.out, HQ.out.1, if_neg hqi, if_neg hi1]; exact H9.out.1, H9.out.2⟩, by simp [intOf]; omega⟩
          · have hmk : m = k := by omega
            subst hmk
            have HX : Hid (inB a.full i (logN a.full nb) (dsG L) m = bck (behind a.full nb) i) := by
              have := inB_behind HO.out.2.2.2 h98 HO.out.2.2.1 hlt
              rw [HLen.out.1, ← H2.out.2.2.1] at this
              exact this
            go_wp2_with (at_builtin; refine wp_bown rfl (.tmp 52) (.tmp 53) rfl u7 (512 * i) ((behind a.full nb).take (512 * i)) rfl (HA4.out.on H9.out.2).row ⟨b9, o9, none⟩ 512 c9 (inB a.full i (logN a.full nb) (dsG L) m) rfl (by decide) (HIn.out m (Nat.le_refl _)) H9.out.1 (by omega) ?_
                         intro g5 cap5 w5 h1 h2 h3
                         go_frame
                         have HE : Hid (BhL w2 w5 (.slice (some ⟨g5, 0, none⟩) (512 * i + 512) cap5) a.full nb (i + 1)) := HA4.out.next H9.out.2 HX.out H9.out.1.wf h1 h2 h3
                         clear h1 h2 h3)
            exact ⟨⟨i + 1, hlt, by rw [← HZ.out]; rfl, HE.out⟩, by have := HZ.out; simp [intOf]; omega⟩
      · have hin : i = nb := by omega
        subst hin
        go_wp2_with (go_at_call 60; refine HBl.out.mono ?_; rintro e w3 ⟨rfl, hb⟩; have H3 : Hid (Below wo.heap.size wo w3) := hb; clear hb)
        go_ret2
        have hA3 := HA.out.on H3.out
        have hrow := hA3.row
        have hlb : (behind a.full i).length = 512 * i := by rw [behind_length]; exact HO.out.2.2.2
        rw [List.take_of_length_le (by omega)] at hrow
        obtain ⟨va, vc, rfl, _, hp, _⟩ := owns_slice hrow
        obtain ⟨g, rfl⟩ := hp.resolve_left (by omega)
        refine .inr ⟨HO.out.1, g, vc, by rw [HNb.out]; rfl, ?_, ?_, HBo.out.trans (H3.out.mono HBo.out.size)⟩
        · rw [HNb.out]
          refine ownB_of hrow hlb (by omega) (fun x => ?_)
          have := hA3.wf x
          rw [List.take_of_length_le (by omega)] at this
          exact this
        · have := HA.out.far g rfl
          exact Nat.le_trans H2.out.2.2.2.2.size this
  · have HLg2 : Hid (Calls Tryz.prog 64 #[.pointer (some ⟨r, 0, none⟩)] w fun e w' => e = .returned (.tuple #[.slice none 0 0, .slice none 0 0, .int .i64 (opE a)]) ∧ Below w.heap.size w w') := HLg.out.mono (fun e w' h => by
      rcases h with h | h
      · exact h.2
      · exact absurd h.1 hop)
    have HOp : Hid (opE a ≠ 0) := hop
    obtain ⟨E, hE⟩ : ∃ E, opE a = E := ⟨_, rfl⟩
    rw [hE] at HLg2 hop
    have HE : Hid (opE a = E) := hE
    clear hE
    go_wp2_with (go_at_call 64; refine HLg2.out.mono ?_; rintro e w2 ⟨rfl, hb⟩; have H2 : Hid (Below w.heap.size w w2) := hb; clear hb)
    go_ret2
    exact .inl ⟨HOp.out, by rw [HE.out]; rfl, H2.out⟩
end Go.Proofs.YtamlbpbhlgmcoaaGreatDoor

namespace Go.Proofs.YtamlbpbhlgmcoaaGreatDoor
open Go.RowKit Rec
/-- what Recover does: its actions, its error, its number, the disk after it -/
def rcX (a : AD) : List WA := homeA (logH a.full a.nb)
def rcE (a : AD) : Int := if opE a = 0 then (if logN a.full a.nb = [] then 0 else a.takeE (rcX a)) else opE a
def rcK (a : AD) : Int := if opE a = 0 then (if logN a.full a.nb = [] then 0 else if a.takeE (rcX a) = 0 then ((logN a.full a.nb).length : Int) else 0) else 0
def rcT (a : AD) : AD := if opE a = 0 then (if logN a.full a.nb = [] then a else a.take (rcX a)) else a
/-- what Recover answers -/
def RcP (w : World) (R : RDk) (K E : Int) (A : AD) (j : Nat) (e : Ending) (w' : World) : Prop := e = .returned (.tuple #[.int .i64 K, .int .i64 E]) ∧ ∃ R', RM w R w' A R' j
set_option maxRecDepth 100000 in
set_option maxHeartbeats 8000000 in
theorem rrecover_any (w : World) (a : AD) (R : RDk) (j : Nat) (h : RT w a R j) (hj : j + 99 ≤ 100000000) : Calls Tryz.prog 28 #[.pointer (some ⟨R.r, 0, none⟩)] w (RcP w R (rcK a) (rcE a) (rcT a) (j + 99)) := by
  have hnb : a.nb = R.nb := h.tie.nb
  have HT : Hid (RT w a R j) := h
  have HLg : Hid (Calls Tryz.prog 64 #[.pointer (some ⟨R.r, 0, none⟩)] w (LgP w a)) := log_any w a R j h
  clear h
  obtain ⟨r, hr⟩ : ∃ r, R.r = r := ⟨_, rfl⟩
  have HR : Hid (R.r = r) := hr
  rw [hr] at HLg ⊢
  have HNb : Hid (a.nb = R.nb) := hnb
  clear hr hnb
  by_cases hop : opE a = 0
  · have HLg2 : Hid (Calls Tryz.prog 64 #[.pointer (some ⟨r, 0, none⟩)] w fun e w' => ∃ sa nc da dc k L, e = .returned (.tuple #[.slice sa k nc, .slice da k dc, .int .i64 0]) ∧ L.length = k ∧ k ≤ 96 ∧ nsG L = logN a.full a.nb ∧ dsG L = logD a.full k ∧ NdA w' w' sa da L ∧ (∀ q ∈ L, ∃ g, q.a = some ⟨g, 0, none⟩ ∧ w.heap.size ≤ g) ∧ Below w.heap.size w w') := HLg.out.mono (fun e w' h => by
      rcases h with h | h
      · exact absurd hop h.1
      · exact h.2)
    have hdn : a.down = false := by
      cases e : a.down with
      | false => rfl
      | true => unfold opE at hop; rw [e] at hop; simp at hop
    have hle : logE a.full a.nb = 0 := by unfold opE at hop; rw [hdn] at hop; exact hop
    have h98 : 98 ≤ a.nb := by
      by_cases c : a.nb < 98
      · unfold logE at hle; rw [if_pos (by omega)] at hle; exact absurd hle (by decide)
      · omega
    have HO : Hid (opE a = 0 ∧ 98 ≤ a.nb ∧ a.full.length = 512 * a.nb) := ⟨hop, h98, HT.out.flen hdn⟩
    unfold rcE rcK rcT
    rw [if_pos hop, if_pos hop, if_pos hop]
    clear hop hdn hle h98 HLg
    by_cases h0 : logN a.full a.nb = []
    · rw [if_pos h0, if_pos h0, if_pos h0]
      have HLg3 : Hid (Calls Tryz.prog 64 #[.pointer (some ⟨r, 0, none⟩)] w fun e w' => ∃ sa nc da dc, e = .returned (.tuple #[.slice sa (0 : Nat) nc, .slice da (0 : Nat) dc, .int .i64 0]) ∧ Below w.heap.size w w') := HLg2.out.mono (fun e w' ⟨sa, nc, da, dc, k, L, e1, g1, _, g3, _, _, _, g7⟩ => by
        have : k = 0 := by rw [← g1, ← nsG_len, g3, h0]; rfl
        subst this
        exact ⟨sa, nc, da, dc, e1, g7⟩)
      clear h0 HLg2
      go_enter Tryz.func28, Tryz.ntmps28
      go_upto_region 2 with (go_at_call 64; refine HLg3.out.mono ?_; rintro e w2 ⟨sa, nc, da, dc, rfl, g7⟩; have H2 : Hid (Below w.heap.size w w2) := g7; clear g7)
      go_wp2
      go_ret2
      exact ⟨rfl, R, HT.out.same (by omega) H2.out⟩
    · rw [if_neg h0, if_neg h0, if_neg h0]
      obtain ⟨E2, hE2⟩ : ∃ E2, a.takeE (rcX a) = E2 := ⟨_, rfl⟩
      obtain ⟨A2, hA2⟩ : ∃ A2, a.take (rcX a) = A2 := ⟨_, rfl⟩
      rw [hE2, hA2]
      have hEv : E2 = 0 ∨ E2 = 30 := by rw [← hE2]; exact takeE_vals _ _
      have HEA : Hid (a.takeE (rcX a) = E2 ∧ a.take (rcX a) = A2) := ⟨hE2, hA2⟩
      clear hE2 hA2
      obtain ⟨K, hK⟩ : ∃ K, (logN a.full a.nb).length = K := ⟨_, rfl⟩
      rw [hK]
      have hK0 : 0 < K := by rw [← hK]; cases h : logN a.full a.nb with | nil => exact absurd h h0 | cons x xs => simp
      have HLg3 : Hid (Calls Tryz.prog 64 #[.pointer (some ⟨r, 0, none⟩)] w fun e w' => ∃ sa nc da dc L, e = .returned (.tuple #[.slice sa K nc, .slice da K dc, .int .i64 0]) ∧ L.length = K ∧ K ≤ 96 ∧ nsG L = logN a.full a.nb ∧ dsG L = logD a.full K ∧ NdA w' w' sa da L ∧ (∀ q ∈ L, ∃ g, q.a = some ⟨g, 0, none⟩ ∧ w.heap.size ≤ g) ∧ Below w.heap.size w w') := HLg2.out.mono (fun e w' ⟨sa, nc, da, dc, k, L, e1, g1, g2, g3, g4, g5, g6, g7⟩ => by
        have : k = K := by rw [← g1, ← nsG_len, g3, hK]
        subst this
        exact ⟨sa, nc, da, dc, L, e1, g1, g2, g3, g4, g5, g6, g7⟩)
      have HK : Hid ((logN a.full a.nb).length = K) := hK
      clear h0 HLg2 hK
      have hK0b : ¬ (K : Int) = 0 := by omega
      go_enter Tryz.func28, Tryz.ntmps28
      go_upto_region 2 with (go_at_call 64; refine HLg3.out.mono ?_; rintro e w2 ⟨sa, nc, da, dc, L, rfl, g1, g2, g3, g4, g5, g6, g7⟩; have H2 : Hid (L.length = K ∧ nsG L = logN a.full a.nb ∧ dsG L = logD a.full K ∧ NdA w2 w2 sa da L ∧ (∀ q ∈ L, ∃ g, q.a = some ⟨g, 0, none⟩ ∧ w.heap.size ≤ g) ∧ Below w.heap.size w w2) := ⟨g1, g3, g4, g5, g6, g7⟩; have hk96 : K ≤ 96 := g2; clear g1 g2 g3 g4 g5 g6 g7)
      go_upto_region 5 with (go_at_call 65; refine (r5home_any w2 w2 sa da K nc dc L H2.out.2.2.2.1 H2.out.1 (by omega)).mono ?_; rintro e w3 ⟨aa, ak, g, cap, rfl, h3, hg⟩; have H3 : Hid (AcL w2 w2 w3 (.slice aa (K + 3) ak) (homL L ++ tailQ g cap zs) ∧ w2.heap.size ≤ g) := ⟨h3, hg⟩; clear h3 hg)
      have HTk : Hid (Calls Tryz.prog 63 #[.pointer (some ⟨r, 0, none⟩), .slice aa (K + 3) ak] w3 fun e w' => e = .returned (.int .i64 E2) ∧ ∃ R', RM w3 R w' A2 R' (j + (K + 3))) := by
        have hb3 : Below w.heap.size w w3 := H2.out.2.2.2.2.2.trans (H3.out.1.bel.mono H2.out.2.2.2.2.2.size)
        have hlen : (homL L ++ tailQ g cap zs).length = K + 3 := by rw [List.length_append, homL_len, H2.out.1]; rfl
        have hX : (homL L ++ tailQ g cap zs).map waQ = rcX a := by
          rw [waQ_home, H2.out.2.1, H2.out.2.2.1]; unfold rcX logH; rw [HK.out]
        have hs := H2.out.2.2.2.2.2.size
        have hc := rtake_any w3 a R j (HT.out.on hb3) aa (K + 3) ak _ (actsG H3.out.1 (Below.refl _ _) (by rw [hlen]; omega)) hlen (by omega) (fun q hq => by
          rw [← HNb.out]
          have h98 := HO.out.2.1
          rcases List.mem_append.1 hq with hq | hq
          · unfold homL at hq
            obtain ⟨p', hp', rfl⟩ := List.mem_map.1 hq
            obtain ⟨i, hi, rfl⟩ := List.getElem_of_mem hp'
            have hi2 : L[i]? = some L[i] := List.getElem?_eq_getElem hi
            obtain ⟨v, e, hv1, hv2⟩ := logN_nat a.full a.nb i (by rw [HK.out, ← H2.out.1]; exact hi)
            have e2 := nth_nsG hi2
            rw [H2.out.2.1, e] at e2
            have hl5 : (L[i]).x.length = 512 := by
              have hm : (L[i]).x ∈ dsG L := List.mem_map.2 ⟨_, hp', rfl⟩
              rw [H2.out.2.2.1] at hm
              unfold logD at hm
              obtain ⟨i', hi', e⟩ := List.mem_map.1 hm
              have := List.mem_range.1 hi'
              rw [← e]
              exact bck_length _ _ a.nb HO.out.2.2 (by omega)
            exact .inl ⟨rfl, by show 0 ≤ (L[i]).n; omega, by show (L[i]).n < _; omega, hl5⟩
          · simp only [tailQ, List.mem_cons, List.not_mem_nil, or_false] at hq
            rcases hq with rfl | rfl | rfl
            · exact .inr rfl
            · exact .inl ⟨rfl, by show (0 : Int) ≤ 1; omega, by show (1 : Int) < _; omega, zs_length⟩
            · exact .inr rfl) (fun b off e e2 => by
          have := H3.out.1.far b (by rw [e]; rfl)
          have := HT.out.r.lt e2
          omega) (fun q hq hx p e e2 => by
          have hlt := HT.out.r.lt e2
          rcases List.mem_append.1 hq with hq | hq
          · unfold homL at hq
            obtain ⟨p', hp', rfl⟩ := List.mem_map.1 hq
            obtain ⟨g', e3, hg'⟩ := H2.out.2.2.2.2.1 p' hp'
            have e4 : p'.a = some p := e
            rw [e3] at e4; cases e4; have hlt' : g' < w.heap.size := hlt; omega
          · simp only [tailQ, List.mem_cons, List.not_mem_nil, or_false] at hq
            rcases hq with rfl | rfl | rfl
            · exact hx rfl
            · cases e; have := H3.out.2; have e4 := hlt; simp only at e4; omega
            · exact hx rfl) (fun b off e => owns_block H3.out.1.row (by rw [e]; rfl))
        rw [hX, HR.out, HEA.out.1, HEA.out.2] at hc
        exact hc
      go_upto_region 6 with (go_at_call 63; refine HTk.out.mono ?_; rintro e w4 ⟨rfl, R', hM⟩; have H4 : Hid (RM w3 R w4 A2 R' (j + (K + 3))) := hM; clear hM)
      have HE : Hid (∃ R', RM w R w4 A2 R' (j + 99)) := by
        have hb3 : Below w.heap.size w w3 := H2.out.2.2.2.2.2.trans (H3.out.1.bel.mono H2.out.2.2.2.2.2.size)
        exact ⟨R', H4.out.t.up (by omega), (below_fr hb3 _).trans H4.out.fr (fun k e => .inl e), fun k e => (H4.out.al k e).imp id (fun e => Nat.le_trans hb3.size e), H4.out.r⟩
      rcases hEv with hz | hz
      · subst hz
        go_wp2
        go_ret2
        exact ⟨rfl, HE.out⟩
      · subst hz
        go_wp2
        go_ret2
        exact ⟨rfl, HE.out⟩
  · have HLg2 : Hid (Calls Tryz.prog 64 #[.pointer (some ⟨r, 0, none⟩)] w fun e w' => e = .returned (.tuple #[.slice none 0 0, .slice none 0 0, .int .i64 (opE a)]) ∧ Below w.heap.size w w') := HLg.out.mono (fun e w' h => by
      rcases h with h | h
      · exact h.2
      · exact absurd h.1 hop)
    unfold rcE rcK rcT
    rw [if_neg hop, if_neg hop, if_neg hop]
    obtain ⟨E, hE⟩ : ∃ E, opE a = E := ⟨_, rfl⟩
    rw [hE] at HLg2 hop ⊢
    clear hE HLg
    go_enter Tryz.func28, Tryz.ntmps28
    go_wp2_with (go_at_call 64; refine HLg2.out.mono ?_; rintro e w2 ⟨rfl, hb⟩; have H2 : Hid (Below w.heap.size w w2) := hb; clear hb)
    go_ret2
    exact ⟨rfl, R, HT.out.same (by omega) H2.out⟩
end Go.Proofs.YtamlbpbhlgmcoaaGreatDoor
