import Derived.Test.YtamlbpbhlgmcoaaGreatDoorKWCo
import Derived.Test.YtamlbpbhlgmcoaaGreatDoorKWBi
namespace Go.Proofs.YtamlbpbhlgmcoaaGreatDoor
open Go.RowKit Rec

theorem ComOk.may16 {nb : Nat} {ns : List Int} {ds : List (List Int)} (h : ComOk nb ns ds) : may ns 16384 = true :=
  may_mono ns nb 16384 h.ris (fun i hi => by have := pre_bd ns nb h.ris i hi; have := h.n16; omega)
theorem ComOk.make {nb : Nat} {ns : List Int} {ds : List (List Int)} (h : ComOk nb ns ds) : makeE ns ds = 0 := by
  unfold makeE
  rw [if_pos ⟨⟨h.lo, h.hi⟩, h.may16⟩, if_pos]
  unfold blk
  rw [Bool.and_eq_true, decide_eq_true_eq, decide_eq_true_eq]
  exact ⟨h.dl, h.bl⟩
set_option maxRecDepth 100000 in
set_option maxHeartbeats 1600000 in
theorem header_ok (w : World) (nb a nc da dc k : Nat) (ns : List Int) (ds : List (List Int)) (ok : ComOk nb ns ds) (hk : ns.length = k) (hI : Ints w (some ⟨a, 0, none⟩) ns) (hD : Data w (some ⟨da, 0, none⟩) ds) (hT : TabAt w) :
    Calls Tryz.prog 43 #[.int .i64 nb, .slice (some ⟨a, 0, none⟩) k nc, .slice (some ⟨da, 0, none⟩) k dc] w fun e w' => ∃ g, e = .returned (.tuple #[.slice (some ⟨g, 0, none⟩) 512 512, .int .i64 0]) ∧ OwnB w' g 512 (made ns ds) ∧ w.heap.size ≤ g ∧ Below w.heap.size w w' := by
  have h1 := ok.lo
  have h2 := ok.hi
  rw [hk] at h1 h2
  obtain ⟨m, rfl⟩ : ∃ m, k = m + 1 := ⟨k - 1, by omega⟩
  have hc : w.cell? ⟨a, m, none⟩ = some (.int .i64 (nth ns m)) := by have := hI.cell (i := m) (by omega); rwa [Nat.zero_add] at this
  have hb := (pre_bd ns nb ok.ris m (by omega)).2
  have hlt : ¬ (nb : Int) ≤ nth ns m := by omega
  obtain ⟨V, hV⟩ : ∃ V, nth ns m = V := ⟨_, rfl⟩
  rw [hV] at hc hlt
  have hm1 : ((m + 1 : Nat) : Int) - 1 = (m : Int) := by omega
  have HM : Hid (Calls Tryz.prog 80 #[.slice (some ⟨a, 0, none⟩) (m + 1) nc, .slice (some ⟨da, 0, none⟩) (m + 1) dc] w fun e w' => ∃ g, e = .returned (.tuple #[.slice (some ⟨g, 0, none⟩) 512 512, .int .i64 0]) ∧ OwnB w' g 512 (made ns ds) ∧ w.heap.size ≤ g ∧ Below w.heap.size w w') := by
    refine (make_any w _ _ (m + 1) nc (m + 1) dc ns ds hk (by rw [ok.dl, hk]) hI hD hT).mono ?_
    rintro e w' ⟨v, rfl, hv, hb⟩
    rcases hv with ⟨h, _⟩ | ⟨h, g, rfl, ho, hg⟩
    · exact absurd ok.make h
    · exact ⟨g, by rw [h], ho, hg, hb⟩
  clear hI hD hT hb hV ok hk
  go_enter Tryz.func43, Tryz.ntmps43
  go_wp2_with (go_at_call 80; refine HM.out.mono ?_; rintro e w1 ⟨g, rfl, ho, hg, hb⟩; have H1 : Hid (OwnB w1 g 512 (made ns ds) ∧ w.heap.size ≤ g ∧ Below w.heap.size w w1) := ⟨ho, hg, hb⟩; clear ho hg hb)
  go_ret2
  exact ⟨g, rfl, H1.out⟩
theorem row_dsB (L : List Bk) (i : Nat) (q : Bk) (h : L[i]? = some q) : row (dsB L) i = q.x := by
  unfold row dsB
  simp [List.getD, h]
/-- the lists that apart makes -/
theorem ApAt.lists {w w' : World} {D : Dk} {b n : Nat} {L : List Bk} {s2 s3 : Value} (h : ApAt w w' L n s2 s3) (hL : BlocksAt w b L) (hn : L.length = n) (h0 : 0 < n) (ok : ComOk D.nb (nsB L) (dsB L)) (ha : ∀ q ∈ L, ¬ D.has q.g) :
    ∃ a nc da dc, s2 = .slice (some ⟨a, 0, none⟩) n nc ∧ s3 = .slice (some ⟨da, 0, none⟩) n dc ∧ Ints w' (some ⟨a, 0, none⟩) (nsB L) ∧ Data w' (some ⟨da, 0, none⟩) (dsB L) ∧ Lists w' D a da n (nsB L) (dsB L) := by
  obtain ⟨a, nc, rfl⟩ := own_some h.nums h0
  obtain ⟨da, dc, rfl⟩ := own_some h.rows h0
  have ht : L.take n = L := by rw [← hn, List.take_length]
  have h1 := h.nums
  have h2 := h.rows
  rw [ht] at h1 h2
  have hI : Ints w' (some ⟨a, 0, none⟩) (nsB L) := (OwnI.of h1 (by simp [nsB, hn]) (by have := ok.hi; simp [nsB, hn] at this; omega)).ints
  have hB := hL.on h.bel
  have hc : ∀ i q, L[i]? = some q → w'.cell? ⟨da, i, none⟩ = some q.v := fun i q hq => by
    have := h2.cells (g := da) rfl i q.v (by simp [hq])
    rw [Addr.add_lit] at this
    simpa using this
  refine ⟨a, nc, da, dc, rfl, rfl, hI, ⟨by have := ok.hi; have := ok.dl; simp [dsB, nsB] at *; omega, .inr ⟨da, 0, rfl, fun i hi => ?_⟩⟩, ⟨fun i hi => ⟨?_, ?_⟩, fun i hi => ?_, by simp [nsB, hn], by simp [dsB, hn]⟩⟩
  · have hi' : i < L.length := by simpa [dsB] using hi
    obtain ⟨q, hq⟩ : ∃ q, L[i]? = some q := ⟨L[i], List.getElem?_eq_getElem hi'⟩
    have b3 := (hB.at_ i q hq).2.2
    refine ⟨some ⟨q.g, 0, none⟩, q.c, ?_, ?_, fun e => by cases e⟩
    · rw [Nat.zero_add, row_dsB L i q hq, b3.len]; exact hc i q hq
    · rw [row_dsB L i q hq]; exact b3.bytes
  · have := hI.cell (i := i) (by simp [nsB, hn]; exact hi)
    rwa [Nat.zero_add] at this
  · have := pre_bd _ _ ok.ris i (by simp [nsB, hn]; exact hi)
    omega
  · have hi' : i < L.length := by omega
    obtain ⟨q, hq⟩ : ∃ q, L[i]? = some q := ⟨L[i], List.getElem?_eq_getElem hi'⟩
    refine ⟨q.g, q.c, hc i q hq, ?_, ha q (List.mem_of_getElem? hq)⟩
    rw [row_dsB L i q hq]
    exact (hB.at_ i q hq).2.2
theorem DoneAt.from {w w1 : World} {D : Dk} {w' : World} {E : Dk} {acts : List WA} (h : DoneAt w1 D w' E acts) (hb : Below w.heap.size w w1) : DoneAt w D w' E acts :=
  ⟨h.disk, (mv_on w w1 D hb).trans h.mv, fun k hk => (h.al k hk).imp id (fun e => Nat.le_trans hb.size e), h.abs⟩
theorem logW_get (ds : List (List Int)) (j : Nat) (hj : j < ds.length) : (logW ds).take (j + 1) = (logW ds).take j ++ [(2 + j, row ds j)] := by
  rw [List.take_add_one, List.getElem?_eq_getElem (by rw [logW_length]; exact hj)]
  simp [logW]
end Go.Proofs.YtamlbpbhlgmcoaaGreatDoor

namespace Go.Proofs.YtamlbpbhlgmcoaaGreatDoor
open Go.RowKit Rec

set_option maxRecDepth 100000 in
set_option maxHeartbeats 1600000 in
theorem commit_nil (w : World) (v : Value) (a : Option Addr) (c : Nat) :
    Calls Tryz.prog 19 #[v, .slice a 0 c] w fun e w' => e = .returned (.int .i64 0) ∧ w = w' := by
  go_enter Tryz.func19, Tryz.ntmps19
  go_wp2
  go_ret
  exact ⟨rfl, rfl⟩
theorem commitA_length (nb : Nat) (ns : List Int) (ds : List (List Int)) (ok : ComOk nb ns ds) : (commitA ns ds).length = 2 * ns.length + 6 := by
  rw [commitA_grp, grp_length_cons, grp_length_cons, grp_length_cons, grp_length_cons, logW_length, homes_length ns ds ok.dl, ok.dl]
  simp only [grp, List.length_cons, List.length_nil]
  omega
theorem stp_new (w : World) (D : Dk) (hD : ∀ k, D.has k → k < w.heap.size) : Stp w.heap.size (w.alloc (.cells #[.pointer (some ⟨D.d, 0, none⟩), .slice none 0 0] 89)) D w.heap.size [] := by
  obtain ⟨hb, hr⟩ := rows1 w #[.pointer (some ⟨D.d, 0, none⟩), .slice none 0 0] 89
  exact ⟨⟨.slice none 0 0, [], ⟨hr, ⟨rfl, .inl ⟨rfl, rfl⟩⟩, fun i t ht => by simp at ht, fun e => absurd (hD _ e) (Nat.lt_irrefl _), fun k hk => by cases hk⟩, fun k hk => by cases hk⟩, Nat.le_refl _, hb.size, hD⟩
set_option maxRecDepth 100000 in
set_option maxHeartbeats 4000000 in
theorem commit_ok (w : World) (D : Dk) (h : Disk w D) (hT : TabAt w) (b n c : Nat) (L : List Bk) (hL : BlocksAt w b L) (hn : L.length = n) (h0 : 0 < n) (ok : ComOk D.nb (nsB L) (dsB L)) (ha : ∀ q ∈ L, ¬ D.has q.g) (hr : RoomN D.abs (2 * n + 6)) :
    Calls Tryz.prog 19 #[.pointer (some ⟨D.d, 0, none⟩), .slice (some ⟨b, 0, none⟩) n c] w fun e w' => e = .returned (.int .i64 (D.abs.takeE (commitA (nsB L) (dsB L)))) ∧ ∃ E, DoneAt w D w' E (commitA (nsB L) (dsB L)) := by
  have hnl : (nsB L).length = n := by simp [nsB, hn]
  have hdl : (dsB L).length = n := by simp [dsB, hn]
  have h96 : n ≤ 96 := by have := ok.hi; omega
  have HAp : Hid (Calls Tryz.prog 42 #[.slice (some ⟨b, 0, none⟩) n c] w fun e w' => ∃ a nc da dc, e = .returned (.tuple #[.slice (some ⟨a, 0, none⟩) n nc, .slice (some ⟨da, 0, none⟩) n dc]) ∧ Below w.heap.size w w' ∧ Ints w' (some ⟨a, 0, none⟩) (nsB L) ∧ Data w' (some ⟨da, 0, none⟩) (dsB L) ∧ Lists w' D a da n (nsB L) (dsB L)) := by
    refine (apart_any w b n c L hL hn h0 (by omega)).mono ?_
    rintro e w' ⟨s2, s3, rfl, hA⟩
    obtain ⟨a, nc, da, dc, rfl, rfl, h1, h2, h3⟩ := hA.lists hL hn h0 ok ha
    exact ⟨a, nc, da, dc, rfl, hA.bel, h1, h2, h3⟩
  have HD : Hid (∀ wx, Below w.heap.size w wx → Disk wx D ∧ TabAt wx) := fun wx hb => ⟨h.on hb, hT.on hb⟩
  have HDl : Hid (∀ k, D.has k → k < w.heap.size) := fun k hk => h.hasLt hk
  have HO : Hid (ComOk D.nb (nsB L) (dsB L)) := ok
  have HR : Hid (RoomN D.abs (commitA (nsB L) (dsB L)).length) := by
    show RoomN D.abs _
    rw [commitA_length _ _ _ ok, hnl]; exact hr
  have HCl : Hid ((commitA (nsB L) (dsB L)).length = 2 * n + 6) := by rw [← hnl]; exact commitA_length _ _ _ ok
  have HNl : Hid ((nsB L).length = n ∧ (dsB L).length = n) := ⟨hnl, hdl⟩
  have hnb : 98 ≤ D.nb := ok.n98
  have hz : ¬ (n : Int) = 0 := by omega
  obtain ⟨ns, hns⟩ : ∃ ns, nsB L = ns := ⟨_, rfl⟩
  obtain ⟨ds, hds⟩ : ∃ ds, dsB L = ds := ⟨_, rfl⟩
  rw [hns, hds] at HAp HO HR HCl HNl ⊢
  clear hT hL hn ok ha hr hnl hdl hns hds h
  go_enter Tryz.func19, Tryz.ntmps19
  go_upto_region 7 with (first
    | (go_at_call 42; refine HAp.out.mono ?_; rintro e w1 ⟨a, nc, da, dc, rfl, hb, h1, h2, h3⟩; have H1 : Hid (Below w.heap.size w w1 ∧ Ints w1 (some ⟨a, 0, none⟩) ns ∧ Data w1 (some ⟨da, 0, none⟩) ds ∧ Lists w1 D a da n ns ds) := ⟨hb, h1, h2, h3⟩; clear hb h1 h2 h3)
    | (go_at_call 44; have hh := H1.out; clear hh; refine (blocks_any _ D (HD.out _ H1.out.1).1).mono ?_; rintro e w' ⟨rfl, rfl⟩)
    | (go_at_call 43; have hh := H1.out; clear hh; refine (header_ok _ D.nb a nc da dc n ns ds HO.out HNl.out.1 H1.out.2.1 H1.out.2.2.1 (HD.out _ H1.out.1).2).mono ?_; rintro e w2 ⟨g, rfl, ho, hg, hb⟩; have H2 : Hid (Below w.heap.size w w2 ∧ OwnB w2 g 512 (made ns ds) ∧ w1.heap.size ≤ g ∧ Lists w2 D a da n ns ds) := ⟨H1.out.1.trans (hb.mono H1.out.1.size), ho, hg, H1.out.2.2.2.on hb⟩; clear ho hg hb))
  have H3 : Hid (Stp w2.heap.size (w2.alloc (.cells #[.pointer (some ⟨D.d, 0, none⟩), .slice none 0 0] 89)) D w2.heap.size []) := stp_new w2 D (fun k hk => Nat.lt_of_lt_of_le (HDl.out k hk) H2.out.1.size)
  obtain ⟨w3, hw3⟩ : ∃ w3, w3 = w2.alloc (.cells #[.pointer (some ⟨D.d, 0, none⟩), .slice none 0 0] 89) := ⟨_, rfl⟩
  have H3b : Hid (Below w2.heap.size w2 w3) := by rw [hw3]; exact (rows1 w2 _ _).1
  rw [← hw3] at H3
  go_wp2_with fail
  rw [← hw3]
  clear hw3
  obtain ⟨B, hB⟩ : ∃ B, w2.heap.size = B := ⟨_, rfl⟩
  have HB : Hid (w2.heap.size = B) := hB
  rw [hB] at H3 H3b ⊢
  clear hB
  have HG : Hid (¬ D.has g) := fun e => by have := HDl.out _ e; have := H2.out.2.2.1; have := H1.out.1.size; omega
  have HL : Hid (∀ wx, Below B w2 wx → Lists wx D a da n ns ds ∧ BlkAt wx g (made ns ds) ∧ Below w.heap.size w wx) := fun wx hb => by
    rw [← HB.out] at hb
    exact ⟨H2.out.2.2.2.on hb, (BlkAt.of H2.out.2.1 (made_length _ _)).on hb, H2.out.1.trans (hb.mono H2.out.1.size)⟩
  go_loopw [36] (fun s wr => ∃ j : Nat, j ≤ n ∧ s = .int .i64 j ∧ Stp B wr D B (((logW ds).take j).map some) ∧ Below B w2 wr) (fun s _ => n - (intOf s).toNat)
  case atStart => exact ⟨0, Nat.zero_le _, rfl, by simpa using H3.out, H3b.out⟩
  case round =>
    obtain ⟨j, hj, rfl, hs, hb⟩ := hrel
    have HS : Hid (Stp B wr D B (((logW ds).take j).map some) ∧ Below B w2 wr) := ⟨hs, hb⟩
    clear hs hb
    by_cases hlt : j < n
    · obtain ⟨g', c', r1, r2, r3⟩ := (HL.out _ HS.out.2).1.rows j hlt
      have HW : Hid (Calls Tryz.prog 45 #[.pointer (some ⟨B, 0, none⟩), .int .i64 (2 + (j : Int)), .slice (some ⟨g', 0, none⟩) 512 c'] wr fun e w' => e = .returned (.tuple #[]) ∧ Stp B w' D B (((logW ds).take (j + 1)).map some) ∧ Below B w2 w') := by
        refine (stp_write B wr D B _ HS.out.1 (2 + j) g' c' _ r2 r3 (by omega) (by rw [List.length_map, List.length_take]; omega)).mono ?_
        rintro e w' ⟨rfl, x1, x2⟩
        refine ⟨rfl, ?_, HS.out.2.trans x2⟩
        rw [logW_get ds j (by rw [HNl.out.2]; exact hlt), List.map_append]
        exact x1
      clear r2 r3
      go_wp2_with (go_at_call 45; refine HW.out.mono ?_; rintro e w4 ⟨rfl, h1, b1⟩; have H4 : Hid (Stp B w4 D B (((logW ds).take (j + 1)).map some) ∧ Below B w2 w4) := ⟨h1, b1⟩; clear h1 b1)
      go_round
      case rel => exact ⟨j + 1, by omega, by go_num, H4.out⟩
      case measure => simp [intOf]; omega
    · have e : j = n := by omega
      have HS2 : Hid (Stp B wr D B ((logW ds).map some) ∧ Below B w2 wr) := by
        have := HS.out
        rw [List.take_of_length_le (by rw [logW_length, HNl.out.2]; omega)] at this
        exact this
      have hl2 : ((logW ds).map some).length = n := by rw [List.length_map, logW_length, HNl.out.2]
      have HF : Hid (Calls Tryz.prog 46 #[.pointer (some ⟨B, 0, none⟩)] wr fun e w' => e = .returned (.tuple #[]) ∧ Stp B w' D B ((logW ds).map some ++ [none]) ∧ Below B wr w') := stp_flush B wr D B _ HS2.out.1 (by omega)
      have HH : Hid (∀ w', Stp B w' D B ((logW ds).map some ++ [none]) → Below B w2 w' → Calls Tryz.prog 47 #[.pointer (some ⟨B, 0, none⟩), .slice (some ⟨g, 0, none⟩) 512 512] w' fun e w'' => e = .returned (.tuple #[]) ∧ Stp B w'' D B ((logW ds).map some ++ [none] ++ [some (1, made ns ds), none]) ∧ Below B w' w'') := fun w' h1 h2 => stp_header B w' D B _ h1 g 512 _ (HL.out _ h2).2.1 HG.out (by omega) (by rw [List.length_append, hl2]; simp; omega)
      have HM : Hid (∀ w', Stp B w' D B ((logW ds).map some ++ [none] ++ [some (1, made ns ds), none]) → Below B w2 w' → Calls Tryz.prog 48 #[.pointer (some ⟨B, 0, none⟩), .slice (some ⟨a, 0, none⟩) n nc, .slice (some ⟨da, 0, none⟩) n dc] w' fun e w'' => e = .returned (.tuple #[]) ∧ Stp B w'' D B (commitA ns ds) ∧ Below B w' w'') := fun w' h1 h2 => by
        have := home_any B w' D B _ h1 a nc da dc n ns ds (fun wx hx => (HL.out _ (h2.trans hx)).1) (by omega) (by rw [List.length_append, List.length_append, hl2]; simp; omega)
        have e : (logW ds).map some ++ [none] ++ [some (1, made ns ds), none] ++ homeA (homes ns ds) = commitA ns ds := by unfold commitA; simp only [List.append_assoc, List.cons_append, List.nil_append]
        rwa [e] at this
      have HC : Hid (∀ w', Stp B w' D B (commitA ns ds) → Below B w2 w' → Calls Tryz.prog 49 #[.pointer (some ⟨B, 0, none⟩)] w' fun e w'' => e = .returned (.int .i64 (D.abs.takeE (commitA ns ds))) ∧ ∃ E, DoneAt w D w'' E (commitA ns ds)) := fun w' h1 h2 => by
        obtain ⟨v, fs, x1, x2⟩ := h1.at_
        have hb := (HL.out _ h2).2.2
        refine (carry_any w' D (HD.out _ hb).1 B v fs _ x1 HR.out (by rw [HCl.out]; omega)).mono ?_
        rintro e w'' ⟨rfl, E, hE⟩
        exact ⟨rfl, E, hE.from hb⟩
      clear hl2 HS
      go_wp2_with (first
        | (go_at_call 46; refine HF.out.mono ?_; rintro e w4 ⟨rfl, h1, b1⟩; have H4 : Hid (Stp B w4 D B ((logW ds).map some ++ [none]) ∧ Below B w2 w4) := ⟨h1, HS2.out.2.trans b1⟩; clear h1 b1)
        | (go_at_call 47; have hh := H4.out; clear hh; refine (HH.out _ H4.out.1 H4.out.2).mono ?_; rintro e w5 ⟨rfl, h1, b1⟩; have H5 : Hid (Stp B w5 D B ((logW ds).map some ++ [none] ++ [some (1, made ns ds), none]) ∧ Below B w2 w5) := ⟨h1, H4.out.2.trans b1⟩; clear h1 b1)
        | (go_at_call 48; have hh := H5.out; clear hh; refine (HM.out _ H5.out.1 H5.out.2).mono ?_; rintro e w6 ⟨rfl, h1, b1⟩; have H6 : Hid (Stp B w6 D B (commitA ns ds) ∧ Below B w2 w6) := ⟨h1, H5.out.2.trans b1⟩; clear h1 b1)
        | (go_at_call 49; have hh := H6.out; clear hh; refine (HC.out _ H6.out.1 H6.out.2).mono ?_; rintro e w7 ⟨rfl, hE⟩; have H7 : Hid (∃ E, DoneAt w D w7 E (commitA ns ds)) := hE; clear hE))
      go_ret
      exact ⟨rfl, H7.out⟩
end Go.Proofs.YtamlbpbhlgmcoaaGreatDoor

namespace Go.Proofs.YtamlbpbhlgmcoaaGreatDoor
open Go.RowKit Rec

/-- what a put does -/
def AD.do (a : AD) (b x : Int) (fl : Bool) : AD := if fl then a.flush else a.write (b % a.nb).toNat (one x)
end Go.Proofs.YtamlbpbhlgmcoaaGreatDoor

namespace Go.Proofs.YtamlbpbhlgmcoaaGreatDoor
open Go.RowKit Rec

/-- block i full of i -/
def frs (m : Nat) : List Int := (List.range m).flatMap (fun i : Nat => one (i : Int))
end Go.Proofs.YtamlbpbhlgmcoaaGreatDoor

namespace Go.Proofs.YtamlbpbhlgmcoaaGreatDoor
open Go.RowKit Rec

structure PutR where
  b : Int
  x : Int
  fl : Bool
structure PutAt (w : World) (b off : Nat) (q : PutR) : Prop where
  f0 : w.cell? ⟨b, off, none⟩ = some (.int .i64 q.b)
  f1 : w.cell? ⟨b, off + 1, none⟩ = some (.int .u8 q.x)
  f2 : w.cell? ⟨b, off + 2, none⟩ = some (.bool q.fl)
structure Puts (w : World) (a0 : Option Addr) (L : List PutR) : Prop where
  at_ : L = [] ∨ ∃ b off, a0 = some ⟨b, off, none⟩ ∧ ∀ i q, L[i]? = some q → PutAt w b (off + i * 3) q
  each : ∀ q ∈ L, 0 ≤ q.x ∧ q.x < 256
  len : L.length ≤ 9223372036854775807
theorem Puts.on {w w' : World} {a0 : Option Addr} {L : List PutR} (h : Puts w a0 L) (x : Below w.heap.size w w') : Puts w' a0 L := by
  refine ⟨?_, h.each, h.len⟩
  rcases h.at_ with e | ⟨b, off, e, hc⟩
  · exact .inl e
  · have f := below_fr x (fun _ => False)
    exact .inr ⟨b, off, e, fun i q hq => ⟨f.cell (hc i q hq).f0 (fun e => e), f.cell (hc i q hq).f1 (fun e => e), f.cell (hc i q hq).f2 (fun e => e)⟩⟩
theorem Bools.on {w w' : World} {v : Value} {l : List Bool} (h : Bools w v l) (x : Below w.heap.size w w') : Bools w' v l := by
  obtain ⟨a, c, rfl, hl⟩ := h
  refine ⟨a, c, rfl, ?_⟩
  rcases hl with rfl | ⟨b, off, rfl, hc⟩
  · exact .inl rfl
  · exact .inr ⟨b, off, rfl, fun i y hy => (below_fr x (fun _ => False)).cell (hc i y hy) (fun e => e)⟩
/-- behind k writes, nothing armed -/
structure ChI (a : AD) (m : Nat) (L : List PutR) (k : Nat) : Prop where
  nb : a.nb = m
  las : a.las = frs m
  P : a.P = (L.take k).map (fun q => ((q.b % (m : Int)).toNat, one q.x))
  T : a.T.length = k
  wr : a.wr = k
  fl : a.fl = 0
  at_ : a.at_ = 0
  keep : a.keep = []
  down : a.down = false
theorem ChI.next {a : AD} {m k : Nat} {L : List PutR} {q : PutR} (h : ChI a m L k) (hq : L[k]? = some q) : ChI (a.do q.b q.x false) m L (k + 1) ∧ a.stepE = 0 := by
  have h1 : ¬ a.at_ = 1 := by rw [h.at_]; decide
  have h0 : ¬ (0 : Int) < a.at_ := by rw [h.at_]; decide
  have e : a.do q.b q.x false = { a with P := a.P ++ [((q.b % (m : Int)).toNat, one q.x)], T := a.T ++ [(1, (((q.b % (m : Int)).toNat : Nat) : Int), one q.x)], wr := a.wr + 1 } := by
    show AD.write _ _ _ = _
    unfold AD.write
    rw [if_neg h1, h.nb]
    show AD.tick _ = _
    unfold AD.tick
    exact if_neg h0
  refine ⟨?_, by unfold AD.stepE; rw [if_neg h1]⟩
  rw [e]
  refine ⟨h.nb, h.las, ?_, ?_, ?_, h.fl, h.at_, h.keep, h.down⟩
  · show a.P ++ _ = _
    rw [h.P, List.take_add_one, hq, List.map_append]; rfl
  · show (a.T ++ _).length = _
    rw [List.length_append, h.T]; rfl
  · show a.wr + 1 = _
    rw [h.wr]
theorem ChI.room {a : AD} {m k : Nat} {L : List PutR} (h : ChI a m L k) (hk : k ≤ 200) : RoomD a := by
  refine ⟨?_, by rw [h.T]; omega, by rw [h.wr]; omega, by rw [h.fl]; omega, by rw [h.keep]; simp⟩
  rw [h.P, List.length_map, List.length_take]; omega
theorem blk_wr (l : List Int) (n b j : Nat) (x : List Int) (hl : l.length = 512 * n) (hj : j < n) (hx : x.length = 512) : bck (wr l b x) j = if j = b then x else bck l j := by
  have e1 : (wr l b x).length = 512 * n := by rw [wr_length, hl]
  have e2 := blk_length e1 hj
  by_cases h : j = b
  · rw [if_pos h]
    refine ext_nth (by rw [e2, hx]) fun i hi => ?_
    rw [e2] at hi
    rw [nth_blk e1 hj i hi, nth_wr _ _ _ _ (by rw [hl]; omega), if_pos (by omega), show (512 * j + i) % 512 = i by omega]
  · rw [if_neg h]
    refine ext_nth (by rw [e2, blk_length hl hj]) fun i hi => ?_
    rw [e2] at hi
    rw [nth_blk e1 hj i hi, nth_blk hl hj i hi, nth_wr _ _ _ _ (by rw [hl]; omega), if_neg (by omega)]
end Go.Proofs.YtamlbpbhlgmcoaaGreatDoor

namespace Go.Proofs.YtamlbpbhlgmcoaaGreatDoor
open Go.RowKit Rec

/-- nothing armed, so many steps -/
structure LaI (a : AD) (m k : Nat) : Prop where
  nb : a.nb = m
  len : a.las.length = 512 * m
  P : a.P.length ≤ k
  T : a.T.length ≤ k
  wr : a.wr ≤ k
  fl : a.fl ≤ k
  at_ : a.at_ = 0
  keep : a.keep = []
  down : a.down = false
theorem LaI.room {a : AD} {m k : Nat} (h : LaI a m k) (hk : k ≤ 200) : RoomD a :=
  ⟨by have := h.P; omega, by have := h.T; omega, by have := h.wr; omega, by have := h.fl; omega, by rw [h.keep]; simp⟩
theorem LaI.step {a : AD} {m k : Nat} (h : LaI a m k) : a.stepE = 0 := by unfold AD.stepE; rw [if_neg (by rw [h.at_]; decide)]
theorem do_f {a : AD} (b x : Int) (h : a.at_ = 0) : a.do b x true = { a with fl := a.fl + 1, T := a.T ++ [(2, 0, [])], las := a.full, P := [] } := by
  show AD.flush _ = _
  unfold AD.flush
  rw [if_neg (by rw [h]; decide)]
  have e : AD.tick { a with fl := a.fl + 1 } = { a with fl := a.fl + 1 } := by
    unfold AD.tick
    exact if_neg (by show ¬ (0 : Int) < a.at_; rw [h]; decide)
  simp only [e]
  rfl
theorem LaI.next_f {a : AD} {m k : Nat} (h : LaI a m k) (b x : Int) : LaI (a.do b x true) m (k + 1) ∧ (a.do b x true).las = a.full ∧ (a.do b x true).full = a.full := by
  refine ⟨?_, ?_, ?_⟩
  · rw [do_f b x h.at_]
    exact ⟨h.nb, by show a.full.length = _; unfold AD.full; rw [lay_length]; exact h.len, by show 0 ≤ _; omega, by show (a.T ++ _).length ≤ _; have := h.T; simp; omega, by show a.wr ≤ _; have := h.wr; omega, by show a.fl + 1 ≤ _; have := h.fl; omega, h.at_, h.keep, h.down⟩
  · rw [do_f b x h.at_]
  · rw [do_f b x h.at_]; rfl
theorem bools_of {w : World} {v : Value} {l : List Bool} (h : w.ownsRow 0 4 1 v l.length (l.map Value.bool)) : Bools w v l := by
  obtain ⟨a, c, rfl, _, hg, hc⟩ := owns_slice h
  refine ⟨a, c, rfl, ?_⟩
  rcases hg with h0 | ⟨g, rfl⟩
  · exact .inl (List.eq_nil_of_length_eq_zero h0)
  · refine .inr ⟨g, 0, rfl, fun i x hx => ?_⟩
    rw [Nat.zero_add]
    exact (hc g 0 rfl).2.1 i _ (by rw [List.getElem?_map, hx]; rfl)
end Go.Proofs.YtamlbpbhlgmcoaaGreatDoor

namespace Go.Proofs.YtamlbpbhlgmcoaaGreatDoor
open Go.RowKit Rec

/-- an act among the arguments -/
structure ActR where
  kind : Int
  b : Int
  a : Option Addr
  c : Nat
  x : List Int
def ActR.cells (q : ActR) : List Value := [.int .i64 q.kind, .int .i64 q.b, .slice q.a q.x.length q.c]
structure ActAt (w : World) (b off : Nat) (q : ActR) : Prop where
  f0 : w.cell? ⟨b, off, none⟩ = some (.int .i64 q.kind)
  f1 : w.cell? ⟨b, off + 1, none⟩ = some (.int .i64 q.b)
  f2 : w.cell? ⟨b, off + 2, none⟩ = some (.slice q.a q.x.length q.c)
structure Acts (w : World) (a0 : Option Addr) (L : List ActR) : Prop where
  at_ : L = [] ∨ ∃ b off, a0 = some ⟨b, off, none⟩ ∧ ∀ i q, L[i]? = some q → ActAt w b (off + i * 3) q
  each : ∀ q ∈ L, Bytes w q.a q.x
  len : L.length ≤ 3518437208780
theorem Acts.on {w w' : World} {a0 : Option Addr} {L : List ActR} (h : Acts w a0 L) (x : Below w.heap.size w w') : Acts w' a0 L := by
  refine ⟨?_, fun q hq => (h.each q hq).on x, h.len⟩
  rcases h.at_ with e | ⟨b, off, e, hc⟩
  · exact .inl e
  · have f := below_fr x (fun _ => False)
    exact .inr ⟨b, off, e, fun i q hq => ⟨f.cell (hc i q hq).f0 (fun e => e), f.cell (hc i q hq).f1 (fun e => e), f.cell (hc i q hq).f2 (fun e => e)⟩⟩
/-- what is wrong with an act -/
def actE (nb : Nat) (q : ActR) : Int := if q.kind = 1 then (if 0 ≤ q.b ∧ q.b < nb then (if q.x.length = 512 then 0 else 32) else 31) else if q.kind = 2 then 0 else 1
def AD.tk1 (a : AD) (q : ActR) : AD := if q.kind = 1 then a.write q.b.toNat q.x else a.flush
/-- behind so many acts -/
def AD.takes (a : AD) (L : List ActR) : Nat → AD
  | 0 => a
  | k + 1 => (a.takes L k).tk1 (L.getD k ⟨0, 0, none, 0, []⟩)
theorem LaI.take {a : AD} {m k : Nat} (h : LaI a m k) (q : ActR) (_ : actE m q = 0) : LaI (a.tk1 q) m (k + 1) := by
  unfold AD.tk1
  split
  · unfold AD.write
    rw [if_neg (by rw [h.at_]; decide)]
    show LaI (AD.tick _) _ _
    unfold AD.tick
    rw [if_neg (by show ¬ (0 : Int) < a.at_; rw [h.at_]; decide)]
    exact ⟨h.nb, h.len, by show (a.P ++ _).length ≤ _; have := h.P; simp; omega, by show (a.T ++ _).length ≤ _; have := h.T; simp; omega, by show a.wr + 1 ≤ _; have := h.wr; omega, by show a.fl ≤ _; have := h.fl; omega, h.at_, h.keep, h.down⟩
  · exact (h.next_f 0 0).1
def AD0 (nb : Nat) (l : List Int) : AD := ⟨nb, l, [], [], 0, 0, 0, [], false⟩
/-- what lasts of an image behind acts -/
def aft (nb : Nat) (l : List Int) (L : List ActR) (keep : List Bool) : List Int := (((AD0 nb l).takes L L.length).cut (kpOf keep)).las
structure AfW (w wr : World) (d nb : Nat) (l : List Int) (L : List ActR) (k : Nat) (D : Dk) : Prop where
  disk : Disk wr D
  ab : D.abs = (AD0 nb l).takes L k
  la : LaI D.abs nb k
  dd : D.d = d
  core : ∀ j, D.has j → w.heap.size ≤ j
  bel : Below w.heap.size w wr
theorem AfW.on {w wr wx : World} {d nb k : Nat} {l : List Int} {L : List ActR} {D : Dk} (h : AfW w wr d nb l L k D) (x : Below wr.heap.size wr wx) : AfW w wx d nb l L k D :=
  ⟨h.disk.on x, h.ab, h.la, h.dd, h.core, h.bel.trans (x.mono h.bel.size)⟩
end Go.Proofs.YtamlbpbhlgmcoaaGreatDoor

namespace Go.Proofs.YtamlbpbhlgmcoaaGreatDoor
open Go.RowKit Rec

/-- the same disk but for what was counted -/
structure Sim (a b : AD) : Prop where
  nb : a.nb = b.nb
  las : a.las = b.las
  P : a.P = b.P
  a0 : a.at_ = 0
  b0 : b.at_ = 0
theorem take_w {a : AD} {q : ActR} (h : a.at_ = 0) (hk : q.kind = 1) : a.tk1 q = { a with P := a.P ++ [(q.b.toNat, q.x)], T := a.T ++ [(1, ((q.b.toNat : Nat) : Int), q.x)], wr := a.wr + 1 } := by
  unfold AD.tk1
  rw [if_pos hk]
  unfold AD.write
  rw [if_neg (by rw [h]; decide)]
  show AD.tick _ = _
  unfold AD.tick
  exact if_neg (by show ¬ (0 : Int) < a.at_; rw [h]; decide)
theorem take_f {a : AD} {q : ActR} (h : a.at_ = 0) (hk : ¬ q.kind = 1) : a.tk1 q = { a with fl := a.fl + 1, T := a.T ++ [(2, 0, [])], las := a.full, P := [] } := by
  unfold AD.tk1
  rw [if_neg hk]
  exact do_f 0 0 h
theorem full_sim {a b : AD} (hl : a.las = b.las) (hP : a.P = b.P) : a.full = b.full := by
  unfold AD.full AD.f AD.X
  rw [hl, hP]
theorem Sim.take {a b : AD} (h : Sim a b) {q r : ActR} (h1 : q.kind = r.kind) (h2 : q.b = r.b) (h3 : q.x = r.x) : Sim (a.tk1 q) (b.tk1 r) := by
  by_cases hk : q.kind = 1
  · rw [take_w h.a0 hk, take_w h.b0 (h1 ▸ hk)]
    exact ⟨h.nb, h.las, by show a.P ++ _ = b.P ++ _; rw [h.P, h2, h3], h.a0, h.b0⟩
  · rw [take_f h.a0 hk, take_f h.b0 (h1 ▸ hk)]
    exact ⟨h.nb, full_sim h.las h.P, rfl, h.a0, h.b0⟩
/-- what of an act counts -/
def ActR.abs (q : ActR) : Int × Int × List Int := (q.kind, q.b, q.x)
theorem abs_getD {L M : List ActR} (h : L.map ActR.abs = M.map ActR.abs) (k : Nat) : (L.getD k ⟨0, 0, none, 0, []⟩).abs = (M.getD k ⟨0, 0, none, 0, []⟩).abs := by
  have e : (L.map ActR.abs)[k]? = (M.map ActR.abs)[k]? := by rw [h]
  rw [List.getElem?_map, List.getElem?_map] at e
  simp only [List.getD]
  cases h1 : L[k]? with
  | none =>
    cases h2 : M[k]? with
    | none => rfl
    | some r => rw [h1, h2] at e; cases e
  | some q =>
    cases h2 : M[k]? with
    | none => rw [h1, h2] at e; cases e
    | some r => rw [h1, h2] at e; exact Option.some.inj e
theorem Sim.takes {a b : AD} (h : Sim a b) {L M : List ActR} (hL : L.map ActR.abs = M.map ActR.abs) (k : Nat) : Sim (a.takes L k) (b.takes M k) := by
  induction k with
  | zero => exact h
  | succ k ih =>
    have e := abs_getD hL k
    simp only [ActR.abs, Prod.mk.injEq] at e
    exact ih.take e.1 e.2.1 e.2.2
theorem Sim.cut {a b : AD} (h : Sim a b) (kp : Nat → Bool) : (a.cut kp).las = (b.cut kp).las := by
  show lay kp a.f a.X a.las a.P.length = lay kp b.f b.X b.las b.P.length
  unfold AD.f AD.X
  rw [h.las, h.P]
/-- acts in a row of one's own -/
def OkAct (w : World) (m : Nat) (q : ActR) : Prop := (q.kind = 2 ∧ q.a = none ∧ q.c = 0 ∧ q.x = []) ∨ (q.kind = 1 ∧ 0 ≤ q.b ∧ q.b < m ∧ q.x.length = 512 ∧ ∃ g cap, q.a = some ⟨g, 0, none⟩ ∧ OwnB w g cap q.x)
structure AcR (w : World) (m : Nat) (v : Value) (L : List ActR) : Prop where
  row : w.ownsRow 0 79 3 v L.length (L.flatMap ActR.cells)
  each : ∀ q ∈ L, OkAct w m q
theorem OkAct.on {w w' : World} {m : Nat} {q : ActR} (h : OkAct w m q) (x : Below w.heap.size w w') : OkAct w' m q := by
  rcases h with h | ⟨h1, h2, h3, h4, g, cap, h5, h6⟩
  · exact .inl h
  · exact .inr ⟨h1, h2, h3, h4, g, cap, h5, h6.on x⟩
theorem OkAct.fr {S : Nat → Prop} {w w' : World} {m : Nat} {q : ActR} (h : OkAct w m q) (x : Fr S w w') (hS : ∀ g cap, OwnB w g cap q.x → ¬ S g) : OkAct w' m q := by
  rcases h with h | ⟨h1, h2, h3, h4, g, cap, h5, h6⟩
  · exact .inl h
  · exact .inr ⟨h1, h2, h3, h4, g, cap, h5, h6.fr x (hS g cap h6)⟩
theorem AcR.on {w w' : World} {m : Nat} {v : Value} {L : List ActR} (h : AcR w m v L) (x : Below w.heap.size w w') : AcR w' m v L :=
  ⟨owns_fr h.row (below_fr x (fun k => w.heap.size ≤ k)) (fun _ hk => Nat.not_le.2 (owns_block h.row hk)), fun q hq => (h.each q hq).on x⟩
theorem flat3 (f : ActR → List Value) (l : List ActR) (k : Nat) (hk : k < l.length) (j : Nat) (hj : j < 3) (hf : ∀ p, (f p).length = 3 := by intro p; rfl) : (l.flatMap f)[k * 3 + j]? = (f l[k])[j]? := by
  induction l generalizing k with
  | nil => simp at hk
  | cons p l ih =>
    rw [List.flatMap_cons]
    cases k with
    | zero => rw [List.getElem?_append_left (by rw [hf]; omega)]; simp
    | succ k =>
      rw [List.getElem?_append_right (by rw [hf]; omega), hf, show (k + 1) * 3 + j - 3 = k * 3 + j by omega, ih k (by simpa using hk)]; rfl
theorem OkAct.bytes {w : World} {m : Nat} {q : ActR} (h : OkAct w m q) : Bytes w q.a q.x ∧ actE m q = 0 := by
  rcases h with ⟨h1, h2, h3, h4⟩ | ⟨h1, h2, h3, h4, g, cap, h5, h6⟩
  · refine ⟨by rw [h2, h4]; exact ⟨by simp, fun i => by simp [nth], .inl rfl⟩, ?_⟩
    unfold actE
    rw [if_neg (by rw [h1]; decide), if_pos h1]
  · refine ⟨by rw [h5]; exact h6.bytes, ?_⟩
    unfold actE
    rw [if_pos h1, if_pos ⟨h2, h3⟩, if_pos h4]
theorem AcR.acts {w : World} {m : Nat} {a : Option Addr} {n c : Nat} {L : List ActR} (h : AcR w m (.slice a n c) L) (hl : L.length ≤ 3518437208780) : n = L.length ∧ Acts w a L ∧ ∀ q ∈ L, actE m q = 0 := by
  obtain ⟨a', c', hv, _, hg, hc⟩ := owns_slice h.row
  cases hv
  refine ⟨rfl, ⟨?_, fun q hq => (h.each q hq).bytes.1, hl⟩, fun q hq => (h.each q hq).bytes.2⟩
  rcases hg with h0 | ⟨g, rfl⟩
  · exact .inl (List.eq_nil_of_length_eq_zero h0)
  · refine .inr ⟨g, 0, rfl, fun i q hq => ?_⟩
    have hi : i < L.length := by
      by_cases hi : i < L.length
      · exact hi
      · rw [List.getElem?_eq_none (by omega)] at hq; cases hq
    have e : L[i] = q := by rw [List.getElem?_eq_getElem hi] at hq; exact Option.some.inj hq
    have c1 := (hc g 0 rfl).2.1
    rw [Nat.zero_add]
    exact ⟨c1 _ _ (by have := flat3 ActR.cells L i hi 0 (by omega); rw [e] at this; exact this), c1 _ _ (by have := flat3 ActR.cells L i hi 1 (by omega); rw [e] at this; exact this), c1 _ _ (by have := flat3 ActR.cells L i hi 2 (by omega); rw [e] at this; exact this)⟩
end Go.Proofs.YtamlbpbhlgmcoaaGreatDoor
