import Derived.Test.YtpheajiepnjhdaaDoorRoom
namespace Go.Proofs.YtpheajiepnjhdaaDoor
open Go.RowKit Rec

/-- a room as it is handed back -/
structure RoomEnd (B : Nat) (w : World) (p : Nat) (ds : List (List Int)) (m gD cD : Nat) (sF : Value) (vs fs : List Value) (gm : Nat) : Prop where
  row : w.heap[p]? = some (.cells #[.slice (some ⟨gD, 0, none⟩) (m + 1) cD, sF] 94 (0, 0))
  dat : w.ownsRow 0 23 1 (.slice (some ⟨gD, 0, none⟩) (m + 1) cD) (m + 1) (vs ++ [.slice (some ⟨gm, 0, none⟩) 4 4])
  ful : w.ownsRow 0 23 1 sF m fs
  els : ∀ i, i < m → ∃ g c, vs[i]? = some (.slice (some ⟨g, 0, none⟩) (Go.Proofs.YtpheajiepnjhdaaDoor.row ds i).length c) ∧ fs[i]? = some (.slice (some ⟨g, 0, none⟩) ((Go.Proofs.YtpheajiepnjhdaaDoor.row ds i).length + 1) c) ∧ OwnB w g c (Go.Proofs.YtpheajiepnjhdaaDoor.row ds i ++ [107]) ∧ B ≤ g
  mark : Bytes w (some ⟨gm, 0, none⟩) [109, 97, 114, 107]
theorem RoomAt.fin {B : Nat} {w w' : World} {p : Nat} {ds : List (List Int)} {m : Nat} {sD sF : Value} {vs fs : List Value} {gm g cap : Nat} (h : RoomAt B w p ds m sD sF vs fs) (hm : Bytes w (some ⟨gm, 0, none⟩) [109, 97, 114, 107]) (hmD : ¬ sD.ownBlock = some gm) (hmp : gm ≠ p)
    (ho : w'.ownsRow 0 23 1 (.slice (some ⟨g, 0, none⟩) (m + 1) cap) (m + 1) (vs ++ [.slice (some ⟨gm, 0, none⟩) 4 4])) (hf : Fr (fun k => sD.ownBlock = some k) w w') :
    RoomEnd B (w'.setCell ⟨p, 0, none⟩ (.slice (some ⟨g, 0, none⟩) (m + 1) cap)) p ds m g cap sF vs fs gm := by
  have hrow : w'.heap[p]? = some (.cells #[sD, sF] 94 (0, 0)) := hf.heap h.row (own_apartR h.dat h.row (by decide))
  have hs : Fr (fun i => i = p) w' (w'.setCell ⟨p, 0, none⟩ (.slice (some ⟨g, 0, none⟩) (m + 1) cap)) := Fr.set
  have hF : w'.ownsRow 0 23 1 sF m fs := owns_fr h.ful hf (fun k hk hk2 => h.ne k hk2 hk)
  refine ⟨heap_setCell_same _ _ _ _ _ _ hrow, owns_fr ho hs (fun k hk e => own_apartR ho hrow (by decide) (by rw [← e]; exact hk)), owns_fr hF hs (fun k hk e => own_apartR hF hrow (by decide) (by rw [← e]; exact hk)), fun i hi => ?_, hm.len, hm.wf, ?_⟩
  · obtain ⟨g1, c1, h1, h2, h3, h4⟩ := h.els i hi
    have h3' := h3.fr hf (own_apartB h.dat h3 (by decide))
    exact ⟨g1, c1, h1, h2, h3'.fr hs (ownB_apartR h3' hrow (by decide)), h4⟩
  · rcases hm.at_ with e | ⟨b, off, e, hc⟩
    · cases e
    · cases e
      exact .inr ⟨gm, 0, rfl, fun i hi => hs.cell (hf.cell (hc i hi) hmD) hmp⟩
set_option maxRecDepth 100000 in
set_option maxHeartbeats 4000000 in
theorem room_loop (w : World) (db doff m dc : Nat) (ds : List (List Int)) (hm : ds.length = m) (hD : Data w (some ⟨db, doff, none⟩) ds) (hS : Small ds) (hm0 : 0 < m) (hm9 : m ≤ 5864062014634) :
    Calls Tryd.prog 14 #[.slice (some ⟨db, doff, none⟩) m dc] w fun e w' => ∃ p gD cD sF vs fs gm, e = .returned (.pointer (some ⟨p, 0, none⟩)) ∧ RoomEnd w.heap.size w' p ds m gD cD sF vs fs gm ∧ Below w.heap.size w w' := by
  have HD : Hid (∀ wx, Below w.heap.size w wx → ∀ i, i < m → ∃ a' c, wx.cell? ⟨db, doff + i, none⟩ = some (.slice a' (row ds i).length c) ∧ Bytes wx a' (row ds i) ∧ (a' = none → c = 0)) := fun wx hx i hi => (hD.on hx).cell (by omega)
  have HSm : Hid (∀ i, i < m → (row ds i).length ≤ 140737488351232) := fun i hi => hS i (by omega)
  have HAl : Hid (∀ (w : World) (o : Obj), Below w.heap.size w (w.alloc o)) := fun w o => (Below.refl _ _).alloc (Nat.le_refl _) _
  clear hD hS
  go_enter Tryd.func14, Tryd.ntmps14
  go_wp2
  have HR0 : Hid (RoomAt w.heap.size (w.alloc (.cells #[.slice none 0 0, .slice none 0 0] 94)) w.heap.size ds 0 (.slice none 0 0) (.slice none 0 0) [] [] ∧ Below w.heap.size w (w.alloc (.cells #[.slice none 0 0, .slice none 0 0] 94))) := ⟨⟨heap_alloc_new _ _, ⟨rfl, .inl ⟨rfl, rfl⟩⟩, ⟨rfl, .inl ⟨rfl, rfl⟩⟩, fun i hi => absurd hi (by omega), (fun k e => by cases e), (fun k e => by cases e), (fun k e => by cases e)⟩, HAl.out w _⟩
  go_loopw [11] (fun s11 wr => ∃ (j : Nat) (sD sF : Value) (vs fs : List Value), j ≤ m ∧ s11 = .int .i64 j ∧ RoomAt w.heap.size wr w.heap.size ds j sD sF vs fs ∧ Below w.heap.size w wr) (fun s11 _ => m - (intOf s11).toNat)
  case atStart => exact ⟨0, _, _, [], [], Nat.zero_le _, rfl, HR0.out.1, HR0.out.2⟩
  case round =>
    obtain ⟨j, sD, sF, vs, fs, hj, rfl, hr, hb⟩ := hrel
    have HR : Hid (RoomAt w.heap.size wr w.heap.size ds j sD sF vs fs ∧ Below w.heap.size w wr) := ⟨hr, hb⟩
    clear hr hb
    by_cases hlt : j < m
    · obtain ⟨a1, c1, d1, d2, d3⟩ := HD.out _ HR.out.2 j hlt
      have HY : Hid (Bytes wr a1 (row ds j) ∧ (a1 = none → c1 = 0)) := ⟨d2, d3⟩
      obtain ⟨n, hn⟩ : ∃ n, (row ds j).length = n := ⟨_, rfl⟩
      have HN : Hid ((row ds j).length = n) := hn
      have hn9 : n ≤ 140737488351232 := by rw [← hn]; exact HSm.out j hlt
      rw [hn] at d1
      clear d2 d3 hn
      go_upto_region 6 with (first
        | (at_builtin; have hh := H1.out.1; clear hh; refine wp_mark (w1 := w1) rfl (.tmp 17) (.tmp 18) rfl wr.heap.size g1 n cap1 (row ds j) rfl rfl H1.out.1 HN.out H1.out.2.2 H1.out.2.1.size hn9 ?_; intro gc cc w2 hg ho hb hcc; have H2 : Hid (OwnB w2 gc cc (row ds j ++ [107]) ∧ wr.heap.size ≤ gc ∧ Below wr.heap.size wr w2) := ⟨ho, hg, H1.out.2.1.trans hb⟩; clear hg ho hb)
        | (at_builtin; refine wp_bany (w7 := wr) rfl (.tmp 15) (.tmp 16) rfl rfl a1 n c1 (row ds j) rfl HN.out HY.out.1 HY.out.2 hn9 ?_; intro g1 cap1 w1 ho hb hg; have H1 : Hid (OwnB w1 g1 cap1 (row ds j) ∧ Below wr.heap.size wr w1 ∧ wr.heap.size ≤ g1) := ⟨ho, hb, hg⟩; clear ho hb hg))
      clear d1
      have HR2 : Hid (RoomAt w.heap.size w2 w.heap.size ds j sD sF vs fs ∧ Below w.heap.size w w2) := ⟨HR.out.1.on H2.out.2.2, HR.out.2.trans (H2.out.2.2.mono HR.out.2.size)⟩
      obtain ⟨q0, q1, q2⟩ := HR2.out.1.cells
      have hmm : (row ds j).length + 1 = n + 1 := by rw [HN.out]
      have HRx : Hid (∀ g cap w', w'.ownsRow 0 23 1 (.slice (some ⟨g, 0, none⟩) (j + 1) cap) (j + 1) (fs ++ [.slice (some ⟨gc, 0, none⟩) (n + 1) cc]) → Fr (fun k => sF.ownBlock = some k) (w2.alloc (.cells #[.slice (some ⟨gc, 0, none⟩) (n + 1) cc] 23)) w' → (sF.ownBlock = some g ∨ (w2.alloc (.cells #[.slice (some ⟨gc, 0, none⟩) (n + 1) cc] 23)).heap.size ≤ g) → RoomMid w.heap.size (w'.setCell ⟨w.heap.size, 1, none⟩ (.slice (some ⟨g, 0, none⟩) (j + 1) cap)) w.heap.size ds j sD (.slice (some ⟨g, 0, none⟩) (j + 1) cap) vs fs gc cc ∧ Below w.heap.size w (w'.setCell ⟨w.heap.size, 1, none⟩ (.slice (some ⟨g, 0, none⟩) (j + 1) cap)) ∧ w'.cell? ⟨w.heap.size, 1, none⟩ = some sF ∧ w'.frozen? ⟨w.heap.size, 1, none⟩ = false) := by
        intro g cap w' h1 h2 h3
        have hr := HR2.out.1.on (HAl.out w2 (.cells #[.slice (some ⟨gc, 0, none⟩) (n + 1) cc] 23))
        have hb := HR2.out.2.trans ((HAl.out w2 (.cells #[.slice (some ⟨gc, 0, none⟩) (n + 1) cc] 23)).mono HR2.out.2.size)
        have hrow : w'.heap[w.heap.size]? = some (.cells #[sD, sF] 94 (0, 0)) := h2.heap hr.row (own_apartR hr.ful hr.row (by decide))
        have hb2 := hb.trans (h2.below w.heap.size hr.farF hb.size)
        refine ⟨hr.mid hb.size (H2.out.1.on (HAl.out w2 _)) (by rw [hmm]; exact h1) h2 h3, hb2.trans (Fr.below Fr.set _ (fun k hk => by rw [hk]; exact Nat.le_refl _) hb2.size), by rw [cell_of_row _ _ _ _ _ _ hrow]; rfl, frozen_of_row _ _ _ _ _ hrow⟩
      go_upto_region 7 with (at_builtin; refine wp_sown rfl (.tmp 24) (.tmp 26) rfl sF j fs rfl (owns_on HR2.out.1.ful (HAl.out w2 _)) ⟨w2.heap.size, 0, none⟩ 1 1 [.slice (some ⟨gc, 0, none⟩) (n + 1) cc] rfl (by omega) rfl (news1 w2 _) (fun u hu => by simp at hu; subst hu; rfl) (by omega) ?_; intro g3 cap3 w3 ho hf hg; obtain ⟨x1, x2, x3, x4⟩ := HRx.out g3 cap3 w3 ho hf hg; have H3 : Hid (RoomMid w.heap.size (w3.setCell ⟨w.heap.size, 1, none⟩ (.slice (some ⟨g3, 0, none⟩) (j + 1) cap3)) w.heap.size ds j sD (.slice (some ⟨g3, 0, none⟩) (j + 1) cap3) vs fs gc cc ∧ Below w.heap.size w (w3.setCell ⟨w.heap.size, 1, none⟩ (.slice (some ⟨g3, 0, none⟩) (j + 1) cap3))) := ⟨x1, x2⟩; clear ho hf hg x1 x2)
      clear x3 x4 q0 q1 q2
      generalize w3.setCell ⟨w.heap.size, 1, none⟩ (.slice (some ⟨g3, 0, none⟩) (j + 1) cap3) = w4 at H3 ⊢
      have HDr : Hid (Below w4.heap.size w4 w4.drew) := (Below.refl _ _).drew
      have H4 : Hid (RoomMid w.heap.size w4.drew w.heap.size ds j sD (.slice (some ⟨g3, 0, none⟩) (j + 1) cap3) vs fs gc cc ∧ Below w.heap.size w w4.drew) := ⟨H3.out.1.on HDr.out, H3.out.2.trans (HDr.out.mono H3.out.2.size)⟩
      have q0 : w4.cell? ⟨w.heap.size, 0, none⟩ = some sD := by rw [cell_of_row _ _ _ _ _ _ H3.out.1.row]; rfl
      have q0b : (w4.alloc (.cells #[.slice (some ⟨gc, 0, none⟩) n cc] 23)).cell? ⟨w.heap.size, 0, none⟩ = some sD := ((HAl.out w4 _).cell (block_lt_of_cell q0)).trans q0
      have hnc : (n : Int) ≤ (cc : Int) := by omega
      have HRy : Hid (∀ g cap w', w'.ownsRow 0 23 1 (.slice (some ⟨g, 0, none⟩) (j + 1) cap) (j + 1) (vs ++ [.slice (some ⟨gc, 0, none⟩) n cc]) → Fr (fun k => sD.ownBlock = some k) w4.drew w' → (sD.ownBlock = some g ∨ w4.drew.heap.size ≤ g) → RoomAt w.heap.size (w'.setCell ⟨w.heap.size, 0, none⟩ (.slice (some ⟨g, 0, none⟩) (j + 1) cap)) w.heap.size ds (j + 1) (.slice (some ⟨g, 0, none⟩) (j + 1) cap) (.slice (some ⟨g3, 0, none⟩) (j + 1) cap3) (vs ++ [.slice (some ⟨gc, 0, none⟩) n cc]) (fs ++ [.slice (some ⟨gc, 0, none⟩) (n + 1) cc]) ∧ Below w.heap.size w (w'.setCell ⟨w.heap.size, 0, none⟩ (.slice (some ⟨g, 0, none⟩) (j + 1) cap)) ∧ w'.cell? ⟨w.heap.size, 0, none⟩ = some sD ∧ w'.frozen? ⟨w.heap.size, 0, none⟩ = false) := by
        intro g cap w' h1 h2 h3
        have hrow : w'.heap[w.heap.size]? = some (.cells #[sD, .slice (some ⟨g3, 0, none⟩) (j + 1) cap3] 94 (0, 0)) := h2.heap H4.out.1.row (own_apartR H4.out.1.dat H4.out.1.row (by decide))
        have hb2 := H4.out.2.trans (h2.below w.heap.size H4.out.1.farD H4.out.2.size)
        have hx := H4.out.1.next H4.out.2.size (Nat.le_trans HR.out.2.size H2.out.2.1) (by rw [HN.out]; exact h1) h2 h3
        rw [HN.out] at hx
        refine ⟨hx, hb2.trans (Fr.below Fr.set _ (fun k hk => by rw [hk]; exact Nat.le_refl _) hb2.size), by rw [cell_of_row _ _ _ _ _ _ hrow]; rfl, frozen_of_row _ _ _ _ _ hrow⟩
      go_wp2
      go_region_law (refine step_s1 (w1 := w4.drew) rfl (.tmp 34) (.tmp 39) rfl sD j vs (.slice (some ⟨gc, 0, none⟩) n cc) rfl (by simp [Act.eval]) (by simp [Act.eval]) H4.out.1.dat (by omega) ?_; intro g5 cap5 w5 ho hf hg; obtain ⟨x1, x2, x3, x4⟩ := HRy.out g5 cap5 w5 ho hf hg; have H5 : Hid (RoomAt w.heap.size (w5.setCell ⟨w.heap.size, 0, none⟩ (.slice (some ⟨g5, 0, none⟩) (j + 1) cap5)) w.heap.size ds (j + 1) (.slice (some ⟨g5, 0, none⟩) (j + 1) cap5) (.slice (some ⟨g3, 0, none⟩) (j + 1) cap3) (vs ++ [.slice (some ⟨gc, 0, none⟩) n cc]) (fs ++ [.slice (some ⟨gc, 0, none⟩) (n + 1) cc]) ∧ Below w.heap.size w (w5.setCell ⟨w.heap.size, 0, none⟩ (.slice (some ⟨g5, 0, none⟩) (j + 1) cap5))) := ⟨x1, x2⟩; clear ho hf hg x1 x2)
      all_goals
        go_wp2
        go_round
        case rel => exact ⟨j + 1, _, _, _, _, by omega, by go_num, H5.out.1, H5.out.2⟩
        case measure => simp [intOf]; omega
    · obtain rfl : j = m := by omega
      obtain ⟨q0, q1, q2⟩ := HR.out.1.cells
      have hcv := conv_text wr #[.int .u8 109, .int .u8 97, .int .u8 114, .int .u8 107] 4 rfl
      have q0b : (wr.alloc (.cells #[.int .u8 109, .int .u8 97, .int .u8 114, .int .u8 107] 5 (4, 5))).cell? ⟨w.heap.size, 0, none⟩ = some sD := ((HAl.out wr _).cell (block_lt_of_cell q0)).trans q0
      have HW1 : Hid (∃ w1, w1 = wr.alloc (.cells #[.int .u8 109, .int .u8 97, .int .u8 114, .int .u8 107] 5 (4, 5))) := ⟨_, rfl⟩
      obtain ⟨w1, hw1⟩ := HW1.out
      have HR1 : Hid (RoomAt w.heap.size w1 w.heap.size ds j sD sF vs fs ∧ Below w.heap.size w w1 ∧ Bytes w1 (some ⟨wr.heap.size, 0, none⟩) [109, 97, 114, 107] ∧ ¬ sD.ownBlock = some wr.heap.size ∧ wr.heap.size ≠ w.heap.size) := by
        rw [hw1]
        refine ⟨HR.out.1.on (HAl.out wr _), HR.out.2.trans ((HAl.out wr _).mono HR.out.2.size), ⟨by simp, wf4 (by omega) (by omega) (by omega) (by omega), .inr ⟨_, _, rfl, fun i hi => ?_⟩⟩, fun e => ?_, ?_⟩
        · rw [cell_of_row _ _ _ _ _ _ (heap_alloc_new _ _)]
          have : i = 0 ∨ i = 1 ∨ i = 2 ∨ i = 3 := by simp at hi; omega
          rcases this with rfl | rfl | rfl | rfl <;> rfl
        · exact absurd (owns_block HR.out.1.dat e) (by omega)
        · have := heap_lt HR.out.1.row; omega
      rw [← hw1] at hcv q0b
      clear hw1 HW1
      have HRz : Hid (∀ g cap w', w'.ownsRow 0 23 1 (.slice (some ⟨g, 0, none⟩) (j + 1) cap) (j + 1) (vs ++ [.slice (some ⟨wr.heap.size, 0, none⟩) 4 4]) → Fr (fun k => sD.ownBlock = some k) (w1.alloc (.cells #[.slice (some ⟨wr.heap.size, 0, none⟩) 4 4] 23)) w' → RoomEnd w.heap.size (w'.setCell ⟨w.heap.size, 0, none⟩ (.slice (some ⟨g, 0, none⟩) (j + 1) cap)) w.heap.size ds j g cap sF vs fs wr.heap.size ∧ Below w.heap.size w (w'.setCell ⟨w.heap.size, 0, none⟩ (.slice (some ⟨g, 0, none⟩) (j + 1) cap)) ∧ w'.cell? ⟨w.heap.size, 0, none⟩ = some sD ∧ w'.frozen? ⟨w.heap.size, 0, none⟩ = false) := by
        intro g cap w' h1 h2
        have hA := HAl.out w1 (.cells #[.slice (some ⟨wr.heap.size, 0, none⟩) 4 4] 23)
        have hr := HR1.out.1.on hA
        have hb := HR1.out.2.1.trans (hA.mono HR1.out.2.1.size)
        have hrow : w'.heap[w.heap.size]? = some (.cells #[sD, sF] 94 (0, 0)) := h2.heap hr.row (own_apartR hr.dat hr.row (by decide))
        have hb2 := hb.trans (h2.below w.heap.size hr.farD hb.size)
        exact ⟨hr.fin (HR1.out.2.2.1.on hA) HR1.out.2.2.2.1 HR1.out.2.2.2.2 h1 h2, hb2.trans (Fr.below Fr.set _ (fun k hk => by rw [hk]; exact Nat.le_refl _) hb2.size), by rw [cell_of_row _ _ _ _ _ _ hrow]; rfl, frozen_of_row _ _ _ _ _ hrow⟩
      go_wp2_with (at_builtin; refine wp_sown rfl (.tmp 48) (.tmp 51) rfl sD j vs rfl (owns_on HR1.out.1.dat (HAl.out w1 _)) ⟨w1.heap.size, 0, none⟩ 1 1 [.slice (some ⟨wr.heap.size, 0, none⟩) 4 4] rfl (by omega) rfl (news1 w1 _) (fun u hu => by simp at hu; subst hu; rfl) (by omega) ?_; intro g3 cap3 w3 ho hf hg; obtain ⟨x1, x2, x3, x4⟩ := HRz.out g3 cap3 w3 ho hf; have H3 : Hid (RoomEnd w.heap.size (w3.setCell ⟨w.heap.size, 0, none⟩ (.slice (some ⟨g3, 0, none⟩) (j + 1) cap3)) w.heap.size ds j g3 cap3 sF vs fs wr.heap.size ∧ Below w.heap.size w (w3.setCell ⟨w.heap.size, 0, none⟩ (.slice (some ⟨g3, 0, none⟩) (j + 1) cap3))) := ⟨x1, x2⟩; clear ho hf hg x1 x2)
      go_ret
      exact ⟨w.heap.size, g3, cap3, sF, vs, fs, wr.heap.size, rfl, H3.out.1, H3.out.2⟩
end Go.Proofs.YtpheajiepnjhdaaDoor
