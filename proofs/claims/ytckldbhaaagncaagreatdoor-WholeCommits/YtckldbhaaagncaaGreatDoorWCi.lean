import Derived.Test.YtckldbhaaagncaaGreatDoorKWHo
namespace Go.Proofs.YtckldbhaaagncaaGreatDoor
open Go.RowKit Rec

set_option maxRecDepth 100000 in
set_option maxHeartbeats 1600000 in
theorem commit_nil (w : World) (v : Value) (a : Option Addr) (c : Nat) :
    Calls Tryz.prog 27 #[v, .slice a 0 c] w fun e w' => e = .returned (.int .i64 0) ∧ w = w' := by
  go_enter Tryz.func27, Tryz.ntmps27
  go_wp2
  go_ret
  exact ⟨rfl, rfl⟩
theorem commitA_length (nb : Nat) (ns : List Int) (ds : List (List Int)) (ok : ComOk nb ns ds) : (commitA ns ds).length = 2 * ns.length + 6 := by
  rw [commitA_grp, grp_length_cons, grp_length_cons, grp_length_cons, grp_length_cons, logW_length, homes_length ns ds ok.dl, ok.dl]
  simp only [grp, List.length_cons, List.length_nil]
  omega
theorem stp_new (w : World) (D : Dk) (hD : ∀ k, D.has k → k < w.heap.size) : Stp w.heap.size (w.alloc (.cells #[.pointer (some ⟨D.d, 0, none⟩), .slice none 0 0] 88)) D w.heap.size [] := by
  obtain ⟨hb, hr⟩ := rows1 w #[.pointer (some ⟨D.d, 0, none⟩), .slice none 0 0] 88
  exact ⟨⟨.slice none 0 0, [], ⟨hr, ⟨rfl, .inl ⟨rfl, rfl⟩⟩, fun i t ht => by simp at ht, fun e => absurd (hD _ e) (Nat.lt_irrefl _), fun k hk => by cases hk⟩, fun k hk => by cases hk⟩, Nat.le_refl _, hb.size, hD⟩
set_option maxRecDepth 100000 in
set_option maxHeartbeats 4000000 in
theorem commit_ok (w : World) (D : Dk) (h : Disk w D) (hT : TabAt w) (b n c : Nat) (L : List Bk) (hL : BlocksAt w b L) (hn : L.length = n) (h0 : 0 < n) (ok : ComOk D.nb (nsB L) (dsB L)) (ha : ∀ q ∈ L, ¬ D.has q.g) (hr : RoomN D.abs (2 * n + 6)) :
    Calls Tryz.prog 27 #[.pointer (some ⟨D.d, 0, none⟩), .slice (some ⟨b, 0, none⟩) n c] w fun e w' => e = .returned (.int .i64 (D.abs.takeE (commitA (nsB L) (dsB L)))) ∧ ∃ E, DoneAt w D w' E (commitA (nsB L) (dsB L)) := by
  have hnl : (nsB L).length = n := by simp [nsB, hn]
  have hdl : (dsB L).length = n := by simp [dsB, hn]
  have h96 : n ≤ 96 := by have := ok.hi; omega
  have HAp : Hid (Calls Tryz.prog 35 #[.slice (some ⟨b, 0, none⟩) n c] w fun e w' => ∃ a nc da dc, e = .returned (.tuple #[.slice (some ⟨a, 0, none⟩) n nc, .slice (some ⟨da, 0, none⟩) n dc]) ∧ Below w.heap.size w w' ∧ Ints w' (some ⟨a, 0, none⟩) (nsB L) ∧ Data w' (some ⟨da, 0, none⟩) (dsB L) ∧ Lists w' D a da n (nsB L) (dsB L)) := by
    refine (apart_any w b n c L hL hn h0 (by omega)).mono ?_
    rintro e w' ⟨s2, s3, rfl, hA⟩
    obtain ⟨a, nc, da, dc, rfl, rfl, h1, h2, h3⟩ := hA.lists hL hn h0 ok ha
    exact ⟨a, nc, da, dc, rfl, hA.bel, h1, h2, h3⟩
  have HD : Hid (∀ wx, Below w.heap.size w wx → Disk wx D ∧ TabAt wx) := fun wx hb => ⟨h.on hb, hT.on hb⟩
  have HDl : Hid (∀ k, D.has k → k < w.heap.size) := fun k hk => h.hasLt hk
  have HO : Hid (ComOk D.nb (nsB L) (dsB L)) := ok
  have HR : Hid (RoomN D.abs (commitA (nsB L) (dsB L)).length) := by
    show RoomN D.abs _
    rw [commitA_length _ _ _ ok, hnl]; exact hr
  have HCl : Hid ((commitA (nsB L) (dsB L)).length = 2 * n + 6) := by rw [← hnl]; exact commitA_length _ _ _ ok
  have HNl : Hid ((nsB L).length = n ∧ (dsB L).length = n) := ⟨hnl, hdl⟩
  have hnb : 98 ≤ D.nb := ok.n98
  have hz : ¬ (n : Int) = 0 := by omega
  obtain ⟨ns, hns⟩ : ∃ ns, nsB L = ns := ⟨_, rfl⟩
  obtain ⟨ds, hds⟩ : ∃ ds, dsB L = ds := ⟨_, rfl⟩
  rw [hns, hds] at HAp HO HR HCl HNl ⊢
  clear hT hL hn ok ha hr hnl hdl hns hds h
  go_enter Tryz.func27, Tryz.ntmps27
  go_upto_region 7 with (first
    | (go_at_call 35; refine HAp.out.mono ?_; rintro e w1 ⟨a, nc, da, dc, rfl, hb, h1, h2, h3⟩; have H1 : Hid (Below w.heap.size w w1 ∧ Ints w1 (some ⟨a, 0, none⟩) ns ∧ Data w1 (some ⟨da, 0, none⟩) ds ∧ Lists w1 D a da n ns ds) := ⟨hb, h1, h2, h3⟩; clear hb h1 h2 h3)
    | (go_at_call 32; have hh := H1.out; clear hh; refine (blocks_any _ D (HD.out _ H1.out.1).1).mono ?_; rintro e w' ⟨rfl, rfl⟩)
    | (go_at_call 36; have hh := H1.out; clear hh; refine (header_ok _ D.nb a nc da dc n ns ds HO.out HNl.out.1 H1.out.2.1 H1.out.2.2.1 (HD.out _ H1.out.1).2).mono ?_; rintro e w2 ⟨g, rfl, ho, hg, hb⟩; have H2 : Hid (Below w.heap.size w w2 ∧ OwnB w2 g 512 (made ns ds) ∧ w1.heap.size ≤ g ∧ Lists w2 D a da n ns ds) := ⟨H1.out.1.trans (hb.mono H1.out.1.size), ho, hg, H1.out.2.2.2.on hb⟩; clear ho hg hb))
  have H3 : Hid (Stp w2.heap.size (w2.alloc (.cells #[.pointer (some ⟨D.d, 0, none⟩), .slice none 0 0] 88)) D w2.heap.size []) := stp_new w2 D (fun k hk => Nat.lt_of_lt_of_le (HDl.out k hk) H2.out.1.size)
  obtain ⟨w3, hw3⟩ : ∃ w3, w3 = w2.alloc (.cells #[.pointer (some ⟨D.d, 0, none⟩), .slice none 0 0] 88) := ⟨_, rfl⟩
  have H3b : Hid (Below w2.heap.size w2 w3) := by rw [hw3]; exact (rows1 w2 _ _).1
  rw [← hw3] at H3
  go_wp2_with fail
  rw [← hw3]
  clear hw3
  obtain ⟨B, hB⟩ : ∃ B, w2.heap.size = B := ⟨_, rfl⟩
  have HB : Hid (w2.heap.size = B) := hB
  rw [hB] at H3 H3b ⊢
  clear hB
  have HG : Hid (¬ D.has g) := fun e => by have := HDl.out _ e; have := H2.out.2.2.1; have := H1.out.1.size; omega
  have HL : Hid (∀ wx, Below B w2 wx → Lists wx D a da n ns ds ∧ BlkAt wx g (made ns ds) ∧ Below w.heap.size w wx) := fun wx hb => by
    rw [← HB.out] at hb
    exact ⟨H2.out.2.2.2.on hb, (BlkAt.of H2.out.2.1 (made_length _ _)).on hb, H2.out.1.trans (hb.mono H2.out.1.size)⟩
  go_loopw [36] (fun s wr => ∃ j : Nat, j ≤ n ∧ s = .int .i64 j ∧ Stp B wr D B (((logW ds).take j).map some) ∧ Below B w2 wr) (fun s _ => n - (intOf s).toNat)
  case atStart => exact ⟨0, Nat.zero_le _, rfl, by simpa using H3.out, H3b.out⟩
  case round =>
    obtain ⟨j, hj, rfl, hs, hb⟩ := hrel
    have HS : Hid (Stp B wr D B (((logW ds).take j).map some) ∧ Below B w2 wr) := ⟨hs, hb⟩
    clear hs hb
    by_cases hlt : j < n
    · obtain ⟨g', c', r1, r2, r3⟩ := (HL.out _ HS.out.2).1.rows j hlt
      have HW : Hid (Calls Tryz.prog 37 #[.pointer (some ⟨B, 0, none⟩), .int .i64 (2 + (j : Int)), .slice (some ⟨g', 0, none⟩) 512 c'] wr fun e w' => e = .returned (.tuple #[]) ∧ Stp B w' D B (((logW ds).take (j + 1)).map some) ∧ Below B w2 w') := by
        refine (stp_write B wr D B _ HS.out.1 (2 + j) g' c' _ r2 r3 (by omega) (by rw [List.length_map, List.length_take]; omega)).mono ?_
        rintro e w' ⟨rfl, x1, x2⟩
        refine ⟨rfl, ?_, HS.out.2.trans x2⟩
        rw [logW_get ds j (by rw [HNl.out.2]; exact hlt), List.map_append]
        exact x1
      clear r2 r3
      go_wp2_with (go_at_call 37; refine HW.out.mono ?_; rintro e w4 ⟨rfl, h1, b1⟩; have H4 : Hid (Stp B w4 D B (((logW ds).take (j + 1)).map some) ∧ Below B w2 w4) := ⟨h1, b1⟩; clear h1 b1)
      go_round
      case rel => exact ⟨j + 1, by omega, by go_num, H4.out⟩
      case measure => simp [intOf]; omega
    · have e : j = n := by omega
      have HS2 : Hid (Stp B wr D B ((logW ds).map some) ∧ Below B w2 wr) := by
        have := HS.out
        rw [List.take_of_length_le (by rw [logW_length, HNl.out.2]; omega)] at this
        exact this
      have hl2 : ((logW ds).map some).length = n := by rw [List.length_map, logW_length, HNl.out.2]
      have HF : Hid (Calls Tryz.prog 38 #[.pointer (some ⟨B, 0, none⟩)] wr fun e w' => e = .returned (.tuple #[]) ∧ Stp B w' D B ((logW ds).map some ++ [none]) ∧ Below B wr w') := stp_flush B wr D B _ HS2.out.1 (by omega)
      have HH : Hid (∀ w', Stp B w' D B ((logW ds).map some ++ [none]) → Below B w2 w' → Calls Tryz.prog 39 #[.pointer (some ⟨B, 0, none⟩), .slice (some ⟨g, 0, none⟩) 512 512] w' fun e w'' => e = .returned (.tuple #[]) ∧ Stp B w'' D B ((logW ds).map some ++ [none] ++ [some (1, made ns ds), none]) ∧ Below B w' w'') := fun w' h1 h2 => stp_header B w' D B _ h1 g 512 _ (HL.out _ h2).2.1 HG.out (by omega) (by rw [List.length_append, hl2]; simp; omega)
      have HM : Hid (∀ w', Stp B w' D B ((logW ds).map some ++ [none] ++ [some (1, made ns ds), none]) → Below B w2 w' → Calls Tryz.prog 40 #[.pointer (some ⟨B, 0, none⟩), .slice (some ⟨a, 0, none⟩) n nc, .slice (some ⟨da, 0, none⟩) n dc] w' fun e w'' => e = .returned (.tuple #[]) ∧ Stp B w'' D B (commitA ns ds) ∧ Below B w' w'') := fun w' h1 h2 => by
        have := home_any B w' D B _ h1 a nc da dc n ns ds (fun wx hx => (HL.out _ (h2.trans hx)).1) (by omega) (by rw [List.length_append, List.length_append, hl2]; simp; omega)
        have e : (logW ds).map some ++ [none] ++ [some (1, made ns ds), none] ++ homeA (homes ns ds) = commitA ns ds := by unfold commitA; simp only [List.append_assoc, List.cons_append, List.nil_append]
        rwa [e] at this
      have HC : Hid (∀ w', Stp B w' D B (commitA ns ds) → Below B w2 w' → Calls Tryz.prog 41 #[.pointer (some ⟨B, 0, none⟩)] w' fun e w'' => e = .returned (.int .i64 (D.abs.takeE (commitA ns ds))) ∧ ∃ E, DoneAt w D w'' E (commitA ns ds)) := fun w' h1 h2 => by
        obtain ⟨v, fs, x1, x2⟩ := h1.at_
        have hb := (HL.out _ h2).2.2
        refine (carry_any w' D (HD.out _ hb).1 B v fs _ x1 HR.out (by rw [HCl.out]; omega)).mono ?_
        rintro e w'' ⟨rfl, E, hE⟩
        exact ⟨rfl, E, hE.from hb⟩
      clear hl2 HS
      go_wp2_with (first
        | (go_at_call 38; refine HF.out.mono ?_; rintro e w4 ⟨rfl, h1, b1⟩; have H4 : Hid (Stp B w4 D B ((logW ds).map some ++ [none]) ∧ Below B w2 w4) := ⟨h1, HS2.out.2.trans b1⟩; clear h1 b1)
        | (go_at_call 39; have hh := H4.out; clear hh; refine (HH.out _ H4.out.1 H4.out.2).mono ?_; rintro e w5 ⟨rfl, h1, b1⟩; have H5 : Hid (Stp B w5 D B ((logW ds).map some ++ [none] ++ [some (1, made ns ds), none]) ∧ Below B w2 w5) := ⟨h1, H4.out.2.trans b1⟩; clear h1 b1)
        | (go_at_call 40; have hh := H5.out; clear hh; refine (HM.out _ H5.out.1 H5.out.2).mono ?_; rintro e w6 ⟨rfl, h1, b1⟩; have H6 : Hid (Stp B w6 D B (commitA ns ds) ∧ Below B w2 w6) := ⟨h1, H5.out.2.trans b1⟩; clear h1 b1)
        | (go_at_call 41; have hh := H6.out; clear hh; refine (HC.out _ H6.out.1 H6.out.2).mono ?_; rintro e w7 ⟨rfl, hE⟩; have H7 : Hid (∃ E, DoneAt w D w7 E (commitA ns ds)) := hE; clear hE))
      go_ret
      exact ⟨rfl, H7.out⟩
end Go.Proofs.YtckldbhaaagncaaGreatDoor
