import Derived.Test.YtamlbpbhlgmcoaaGreatDoorKWpF
import Derived.Test.YtamlbpbhlgmcoaaGreatDoorKRef5
import Derived.Test.YtamlbpbhlgmcoaaGreatDoorKMade
import Derived.Test.YtamlbpbhlgmcoaaGreatDoorKWalB
namespace Go.Proofs.YtamlbpbhlgmcoaaGreatDoor
open Go.RowKit Rec
def bg0 : BG := ⟨0, none, 0, []⟩
def logL (L : List BG) (j : Nat) : List ActR := (List.range j).map (fun i : Nat => wQ (2 + (i : Int)) (L.getD i bg0))
theorem logL_succ {L : List BG} {j : Nat} {q : BG} (h : L[j]? = some q) : logL L (j + 1) = logL L j ++ [wQ (2 + (j : Int)) q] := by
  unfold logL; rw [List.range_succ, List.map_append]; simp [List.getD, h]
theorem logL_len (L : List BG) (j : Nat) : (logL L j).length = j := by simp [logL]
theorem waQ_w (i : Int) (q : BG) : waQ (wQ i q) = some (i.toNat, q.x) := by unfold waQ wQ; rfl
theorem waQ_tail (g cap : Nat) (x : List Int) : (tailQ g cap x).map waQ = [none, some (1, x), none] := rfl
theorem waQ_log (L : List BG) : (logL L L.length).map waQ = (logW (dsG L)).map some := by
  unfold logL logW
  rw [dsG_len, List.map_map, List.map_map]
  apply List.map_congr_left
  intro i hi
  have hi' := List.mem_range.1 hi
  have hq : L[i]? = some L[i] := List.getElem?_eq_getElem hi'
  simp only [Function.comp]
  rw [waQ_w, List.getD, hq, row_dsG hq]
  show some ((2 + (i : Int)).toNat, L[i].x) = some (2 + i, L[i].x)
  rw [show (2 + (i : Int)).toNat = 2 + i by omega]
theorem waQ_hom (L : List BG) : (homL L).map waQ = (homes (nsG L) (dsG L)).map some := by
  induction L with
  | nil => rfl
  | cons q L ih =>
    show waQ (wQ q.n q) :: (homL L).map waQ = some (q.n.toNat, q.x) :: (homes (nsG L) (dsG L)).map some
    rw [ih, waQ_w]
theorem waQ_home (L : List BG) (g cap : Nat) : (homL L ++ tailQ g cap zs).map waQ = homeA (homes (nsG L) (dsG L)) := by
  rw [List.map_append, waQ_hom, waQ_tail]; rfl
theorem waQ_com (L : List BG) (g cap g' cap' : Nat) : ((logL L L.length ++ tailQ g cap (made (nsG L) (dsG L))) ++ (homL L ++ tailQ g' cap' zs)).map waQ = commitA (nsG L) (dsG L) := by
  rw [List.map_append, List.map_append, waQ_log, waQ_tail, waQ_home]
  unfold commitA
  simp
theorem actsG {w0 w wr : World} {a : Option Addr} {n c : Nat} {A : List ActR} (h : AcL w0 w wr (.slice a n c) A) (hb : Below w0.heap.size w0 w) (hl : A.length ≤ 1000000) : Acts wr a A := by
  have hbr : Below w0.heap.size w0 wr := hb.trans (h.bel.mono hb.size)
  obtain ⟨a', c', e, _, hp, hc⟩ := owns_slice h.row
  cases e
  refine ⟨?_, fun q hq => (h.each q hq).bytes hbr, by omega⟩
  rcases hp with e | ⟨g, rfl⟩
  · exact .inl (List.eq_nil_of_length_eq_zero e)
  · refine .inr ⟨g, 0, rfl, fun i q hq => ?_⟩
    obtain ⟨h1, h2, h3⟩ := cells_at A i q hq
    have e := (hc g 0 rfl).2.1
    rw [Nat.zero_add]
    exact ⟨e _ _ h1, e _ _ h2, e _ _ h3⟩
/-- the row that an answer in acts is -/
theorem AcL.news {w0 w wr : World} {v : Value} {A : List ActR} {n : Nat} (h : AcL w0 w wr v A) (hn : A.length = n) (h0 : 0 < n) : ∃ g c, v = .slice (some ⟨g, 0, none⟩) n c ∧ (∀ j u, (A.flatMap ActR.cells)[j]? = some u → wr.cell? ((⟨g, 0, none⟩ : Addr).add j) = some u) := by
  subst hn
  obtain ⟨a', c', e, _, hp, hc⟩ := owns_slice h.row
  obtain ⟨g, rfl⟩ := hp.resolve_left (by omega)
  refine ⟨g, c', e, fun j u hj => ?_⟩
  rw [Addr.add_lit, Nat.zero_add]
  exact (hc g 0 rfl).2.1 j u hj
theorem one_actsG (L : List ActR) : ∀ u ∈ L.flatMap ActR.cells, u.oneCell' = true := by
  intro u hu
  obtain ⟨q, _, hq⟩ := List.mem_flatMap.1 hu
  simp [ActR.cells] at hq
  rcases hq with rfl | rfl | rfl <;> rfl
theorem flat_len3 (L : List ActR) : (L.flatMap ActR.cells).length = L.length * 3 := by
  induction L with
  | nil => rfl
  | cons q L ih => rw [List.flatMap_cons, List.length_append, ih, List.length_cons, Nat.succ_mul]; show 3 + _ = _; omega
theorem SpG.nda {w0 wr : World} {L : List BG} {n : Nat} {s2 s3 : Value} {a0 : Option Addr} (h : SpG w0 wr L n s2 s3) (hL : BGs w0 a0 L) (hn : L.length = n) (h0 : 0 < n) (hl : n ≤ 1000000000000000) : ∃ g nc g' dc, s2 = .slice (some ⟨g, 0, none⟩) n nc ∧ s3 = .slice (some ⟨g', 0, none⟩) n dc ∧ NdA w0 wr (some ⟨g, 0, none⟩) (some ⟨g', 0, none⟩) L ∧ Data wr (some ⟨g', 0, none⟩) (dsG L) := by
  obtain ⟨a, nc, da, dc, e1, e2, _, _, hp, hI, hD⟩ := h.lists hL hn hl
  obtain ⟨⟨g, rfl⟩, g', rfl⟩ := hp.resolve_left (by omega)
  have ht : L.take n = L := by rw [← hn]; exact List.take_length
  have h2 := h.rows
  rw [ht, e2] at h2
  refine ⟨g, nc, g', dc, e1, e2, ⟨hI, .inr ⟨g', 0, rfl, fun i q hq => ?_⟩, fun q hq => (hL.each q hq).1, h.bel⟩, hD⟩
  have hi := (List.getElem?_eq_some_iff.1 hq).1
  rw [Nat.zero_add, h2.cellAt i (by omega), List.getElem?_map, hq]; rfl
theorem AcL.from {w0 w w2 wr : World} {v : Value} {A : List ActR} (h : AcL w0 w2 wr v A) (hb : Below w.heap.size w w2) : AcL w0 w wr v A := ⟨h.row, h.each, fun k e => Nat.le_trans hb.size (h.far k e), hb.trans (h.bel.mono hb.size)⟩
set_option maxRecDepth 100000 in
set_option maxHeartbeats 4000000 in
theorem r5acts_any (w : World) (a0 : Option Addr) (n c nb : Nat) (L : List BG) (hL : BGs w a0 L) (hn : L.length = n) (ok : ComOk nb (nsG L) (dsG L)) :
    Calls Tryz.prog 62 #[.slice a0 n c] w fun e w' => ∃ a k g cap g' cap', e = .returned (.slice a (n + 3 + (n + 3)) k) ∧ AcL w w w' (.slice a (n + 3 + (n + 3)) k) ((logL L L.length ++ tailQ g cap (made (nsG L) (dsG L))) ++ (homL L ++ tailQ g' cap' zs)) ∧ w.heap.size ≤ g ∧ w.heap.size ≤ g' := by
  have h96 : n ≤ 96 := by have := ok.hi; rw [nsG_len] at this; omega
  have h1n : 0 < n := by have := ok.lo; rw [nsG_len] at this; omega
  have HL : Hid (BGs w a0 L ∧ L.length = n ∧ ComOk nb (nsG L) (dsG L)) := ⟨hL, hn, ok⟩
  have HS : Hid (Calls Tryz.prog 88 #[.slice a0 n c] w fun e w' => ∃ g nc g' dc, e = .returned (.tuple #[.slice (some ⟨g, 0, none⟩) n nc, .slice (some ⟨g', 0, none⟩) n dc]) ∧ Below w.heap.size w w' ∧ NdA w w' (some ⟨g, 0, none⟩) (some ⟨g', 0, none⟩) L ∧ Data w' (some ⟨g', 0, none⟩) (dsG L)) :=
    (split_any w a0 n c L hL hn (by omega)).mono (fun e w' ⟨s2, s3, e1, h⟩ => by
      obtain ⟨g, nc, g', dc, e2, e3, h1, h2⟩ := h.nda hL hn h1n (by omega)
      exact ⟨g, nc, g', dc, by rw [e1, e2, e3], h.bel, h1, h2⟩)
  clear hL hn ok
  obtain ⟨i1, j1, j2, j3, j4⟩ := info_parts infoAct
  go_enter Tryz.func62, Tryz.ntmps62
  go_upto_region 2 with (go_at_call 88; refine HS.out.mono ?_; rintro e w1 ⟨sg, nc, dg, dc, rfl, h1, h2, h3⟩; have H1 : Hid (Below w.heap.size w w1 ∧ NdA w w1 (some ⟨sg, 0, none⟩) (some ⟨dg, 0, none⟩) L ∧ Data w1 (some ⟨dg, 0, none⟩) (dsG L)) := ⟨h1, h2, h3⟩; clear h1 h2 h3)
  have hmy : rmay (nsG L) 16384 = true := (rmay_split _ _).2 ⟨⟨HL.out.2.2.lo, HL.out.2.2.hi⟩, HL.out.2.2.may16⟩
  have hbk : blk (dsG L) n = true := by
    unfold blk; rw [decide_eq_true (by rw [dsG_len]; exact HL.out.2.1), decide_eq_true HL.out.2.2.bl]; rfl
  have HMk : Hid (rmay (nsG L) 16384 = true ∧ blk (dsG L) n = true) := ⟨hmy, hbk⟩
  clear hmy hbk
  go_upto_region 3 with (go_at_call 90; refine (rmake_ok w1 sg 0 n nc dg 0 dc (nsG L) (dsG L) (by rw [nsG_len]; exact HL.out.2.1) H1.out.2.1.ints H1.out.2.2 HMk.out.1 HMk.out.2).mono ?_; rintro e w2 ⟨hg, hcap, rfl, h1, h2, h3⟩; have H2 : Hid (OwnB w2 hg hcap (made (nsG L) (dsG L)) ∧ w1.heap.size ≤ hg ∧ Below w1.heap.size w1 w2) := ⟨h1, h2, h3⟩; clear h1 h2 h3)
  have HB2 : Hid (Below w.heap.size w w2) := H1.out.1.trans (H2.out.2.2.mono H1.out.1.size)
  have HN2 : Hid (NdA w w2 (some ⟨sg, 0, none⟩) (some ⟨dg, 0, none⟩) L) := H1.out.2.1.on H2.out.2.2
  go_wp2
  go_loopw [7, 8] (fun s7 s8 wr => ∃ j : Nat, j ≤ n ∧ s8 = .int .i64 j ∧ AcL w w2 wr s7 (logL L j)) (fun _ s8 _ => n - (intOf s8).toNat)
  case atStart => exact ⟨0, Nat.zero_le _, rfl, AcL.zero (Below.refl _ _)⟩
  case round =>
    obtain ⟨j, hj, rfl, hA⟩ := hrel
    have HA : Hid (AcL w w2 wr u7 (logL L j)) := hA
    clear hA
    have HRow : Hid (wr.ownsRow 0 79 3 u7 j ((logL L j).flatMap ActR.cells)) := by
      have := HA.out.row; rw [logL_len] at this; exact this
    by_cases hlt : j < n
    · have hjl : j < L.length := by rw [HL.out.2.1]; exact hlt
      obtain ⟨q, hq⟩ : ∃ q, L[j]? = some q := ⟨_, List.getElem?_eq_getElem hjl⟩
      obtain ⟨_, b', off', e', c2⟩ := (HN2.out.on HA.out.bel).cell hq
      cases e'
      have HQ : Hid (L[j]? = some q) := hq
      clear hq hjl
      rw [Nat.zero_add] at c2
      go_wp2_with (first
        | (go_at_call 91; refine (r5write_any wr (2 + (j : Int)) q.a q.x.length q.c).mono ?_; rintro e w3 ⟨rfl, hb⟩; have HB3 : Hid (Below wr.heap.size wr w3) := hb; clear hb c2)
        | (at_builtin; refine wp_own rfl (.tmp 26) (.tmp 34) 38 rfl 79 i1 _ 3 40 Tryz.underlying38 j1 j2 j3 j4 rfl (by decide) u7 j ((logL L j).flatMap ActR.cells) rfl (owns_fr HRow.out (below_fr (HB3.out.trans (((Below.refl w3.heap.size w3).alloc (Nat.le_refl _) _).mono HB3.out.size)) (fun _ => False)) (fun _ _ e => e)) ⟨w3.heap.size, 0, none⟩ 1 1 [.int .i64 1, .int .i64 (2 + (j : Int)), .slice q.a q.x.length q.c] rfl (by decide) rfl (news_of (heap_alloc_new w3 _) _ rfl) (by intro u hu; simp at hu; rcases hu with rfl | rfl | rfl <;> rfl) (by unfold maxLen; omega) (by omega) ?_
           intro g cap w4 h1 h2 h3
           go_frame
           have HE : Hid (AcL w w2 w4 (.slice (some ⟨g, 0, none⟩) (j + 1) cap) (logL L (j + 1))) := (by
             rw [logL_succ HQ.out]
             exact HA.out.add (M := [wQ (2 + (j : Int)) q]) (logL_len _ _) rfl (HB3.out.trans (((Below.refl w3.heap.size w3).alloc (Nat.le_refl _) _).mono HB3.out.size)) (fun q' hq' => by rw [List.mem_singleton] at hq'; subst hq'; exact .inl (HN2.out.each q (List.mem_of_getElem? HQ.out))) h1 h2 h3)
           clear h1 h2 h3))
      exact ⟨⟨j + 1, hlt, rfl, HE.out⟩, by simp [intOf]; omega⟩
    · have hjn : j = n := by omega
      subst hjn
      have HG : Hid (OwnB wr hg hcap (made (nsG L) (dsG L)) ∧ w.heap.size ≤ hg) := ⟨H2.out.1.on HA.out.bel, Nat.le_trans H1.out.1.size H2.out.2.1⟩
      have TK0 : Hid True := trivial
      go_upto_region 9 with (first
        | (go_at_call 92; have hh := TK0.out; clear hh; refine (r5flush_any wr).mono ?_; rintro e w3 ⟨rfl, hb⟩; have H3 : Hid (Below wr.heap.size wr w3) := hb; clear hb TK0; have TK1 : Hid True := trivial)
        | (go_at_call 91; refine (r5write_any w3 1 (some ⟨hg, 0, none⟩) 512 hcap).mono ?_; rintro e w4 ⟨rfl, hb⟩; have H4 : Hid (Below w3.heap.size w3 w4) := hb; clear hb)
        | (go_at_call 92; have hh := TK1.out; clear hh; refine (r5flush_any w4).mono ?_; rintro e w5 ⟨rfl, hb⟩; have HB5 : Hid (Below wr.heap.size wr w5) := H3.out.trans ((H4.out.trans (hb.mono H4.out.size)).mono H3.out.size); clear hb TK1)
        | (at_builtin; refine wp_own rfl (.tmp 36) (.tmp 41) 38 rfl 79 i1 _ 3 40 Tryz.underlying38 j1 j2 j3 j4 rfl (by decide) u7 j ((logL L j).flatMap ActR.cells) rfl (owns_fr HRow.out (below_fr (HB5.out.trans (((Below.refl w5.heap.size w5).alloc (Nat.le_refl _) _).mono HB5.out.size)) (fun _ => False)) (fun _ _ e => e)) ⟨w5.heap.size, 0, none⟩ 3 3 [.int .i64 2, .int .i64 0, .slice none 0 0, .int .i64 1, .int .i64 1, .slice (some ⟨hg, 0, none⟩) 512 hcap, .int .i64 2, .int .i64 0, .slice none 0 0] rfl (by decide) rfl (news_of (heap_alloc_new w5 _) _ rfl) (by intro u hu; simp at hu; rcases hu with rfl | rfl | rfl | rfl | rfl | rfl | rfl | rfl | rfl <;> rfl) (by unfold maxLen; omega) (by omega) ?_
           intro g6 cap6 w6 h1 h2 h3
           go_frame
           have HE : Hid (AcL w w2 w6 (.slice (some ⟨g6, 0, none⟩) (j + 3) cap6) (logL L j ++ tailQ hg hcap (made (nsG L) (dsG L)))) := (by
             have hba : Below wr.heap.size wr (w5.alloc (.cells #[.int .i64 2, .int .i64 0, .slice none 0 0, .int .i64 1, .int .i64 1, .slice (some ⟨hg, 0, none⟩) 512 hcap, .int .i64 2, .int .i64 0, .slice none 0 0] 79)) := HB5.out.trans (((Below.refl w5.heap.size w5).alloc (Nat.le_refl _) _).mono HB5.out.size)
             refine HA.out.add (M := tailQ hg hcap (made (nsG L) (dsG L))) (logL_len _ _) rfl hba (fun q' hq' => ?_) (by
               have e : (tailQ hg hcap (made (nsG L) (dsG L))).flatMap ActR.cells = [.int .i64 2, .int .i64 0, .slice none 0 0, .int .i64 1, .int .i64 1, .slice (some ⟨hg, 0, none⟩) 512 hcap, .int .i64 2, .int .i64 0, .slice none 0 0] := (by
                 show ([.int .i64 2, .int .i64 0, .slice none 0 0, .int .i64 1, .int .i64 1, .slice (some ⟨hg, 0, none⟩) (made (nsG L) (dsG L)).length hcap, .int .i64 2, .int .i64 0, .slice none 0 0] : List Value) = _
                 rw [made_length])
               rw [e]; exact h1) h2 h3
             simp only [tailQ, List.mem_cons, List.not_mem_nil, or_false] at hq'
             rcases hq' with rfl | rfl | rfl
             · exact fQ_d _ _
             · exact .inr ⟨hg, rfl, HG.out.2, HG.out.1.on hba⟩
             · exact fQ_d _ _)
           clear h1 h2 h3))
      have HHm : Hid (Calls Tryz.prog 65 #[.slice (some ⟨sg, 0, none⟩) j nc, .slice (some ⟨dg, 0, none⟩) j dc] w6 fun e w' => ∃ a c g cap, e = .returned (.slice a (j + 3) c) ∧ AcL w w6 w' (.slice a (j + 3) c) (homL L ++ tailQ g cap zs) ∧ w6.heap.size ≤ g) := r5home_any w w6 _ _ j nc dc L (HN2.out.on HE.out.bel) HL.out.2.1 (by omega)
      have HRow6 : Hid (w6.ownsRow 0 79 3 (.slice (some ⟨g6, 0, none⟩) (j + 3) cap6) (j + 3) ((logL L j ++ tailQ hg hcap (made (nsG L) (dsG L))).flatMap ActR.cells)) := by
        have := HE.out.row
        rw [List.length_append, logL_len] at this; exact this
      go_wp2_with (first
        | (go_at_call 65; refine HHm.out.mono ?_; rintro e w7 ⟨ha, hc, g', cap', rfl, h7, hg7⟩; have HG7 : Hid (w6.heap.size ≤ g') := hg7; clear hg7; have hlen7 : (homL L ++ tailQ g' cap' zs).length = j + 3 := (by rw [List.length_append, homL_len, HL.out.2.1]; rfl); obtain ⟨gh, ch, eh, hnews⟩ := h7.news hlen7 (by omega); cases eh; have H7 : Hid (AcL w w6 w7 (.slice (some ⟨gh, 0, none⟩) (j + 3) hc) (homL L ++ tailQ g' cap' zs) ∧ (homL L ++ tailQ g' cap' zs).length = j + 3 ∧ ∀ i u, ((homL L ++ tailQ g' cap' zs).flatMap ActR.cells)[i]? = some u → w7.cell? ((⟨gh, 0, none⟩ : Addr).add i) = some u) := ⟨h7, hlen7, hnews⟩; clear h7 hlen7 hnews)
        | (at_builtin; refine wp_own rfl (.tmp 43) (.tmp 46) 38 rfl 79 i1 _ 3 40 Tryz.underlying38 j1 j2 j3 j4 rfl (by decide) (.slice (some ⟨g6, 0, none⟩) (j + 3) cap6) (j + 3) ((logL L j ++ tailQ hg hcap (made (nsG L) (dsG L))).flatMap ActR.cells) rfl (owns_fr HRow6.out (below_fr H7.out.1.bel (fun _ => False)) (fun _ _ e => e)) ⟨gh, 0, none⟩ (j + 3) hc ((homL L ++ tailQ g' cap' zs).flatMap ActR.cells) rfl (by omega) (by rw [flat_len3, H7.out.2.1]) H7.out.2.2 (one_actsG _) (by unfold maxLen; omega) (by omega) ?_
           intro g8 cap8 w8 h1 h2 h3
           go_frame
           have HF : Hid (AcL w w w8 (.slice (some ⟨g8, 0, none⟩) (j + 3 + (j + 3)) cap8) ((logL L j ++ tailQ hg hcap (made (nsG L) (dsG L))) ++ (homL L ++ tailQ g' cap' zs))) := (HE.out.add (M := homL L ++ tailQ g' cap' zs) (by rw [List.length_append, logL_len]; rfl) H7.out.2.1 H7.out.1.bel (fun q hq => H7.out.1.each q hq) h1 h2 h3).from HB2.out
           clear h1 h2 h3))
      go_ret
      refine ⟨_, _, hg, hcap, g', cap', rfl, ?_, HG.out.2, by have := HG7.out; have := HE.out.bel.size; have := HB2.out.size; omega⟩
      rw [HL.out.2.1]
      exact HF.out
/-- what a commit answers and does -/
def comE (a : AD) (L : List BG) : Int := if L = [] then 0 else if ftE (nsG L) (dsG L) a.nb = 0 then a.takeE (commitA (nsG L) (dsG L)) else ftE (nsG L) (dsG L) a.nb
def comT (a : AD) (L : List BG) : AD := if L = [] then a else if ftE (nsG L) (dsG L) a.nb = 0 then a.take (commitA (nsG L) (dsG L)) else a
theorem homes_mem {ns : List Int} {ds : List (List Int)} {nb : Nat} (ok : ComOk nb ns ds) : ∀ i, i < ns.length → 98 ≤ nth ns i ∧ nth ns i < nb := by
  intro i hi
  have hm := of_decide_eq_true ok.ris
  have hlow : ∀ k, k ≤ i → 97 ≤ pre ns k := fun k => by
    induction k with
    | zero => intro _; show (97 : Int) ≤ 97; omega
    | succ k ih => intro hk; rw [pre_succ]; have := ih (by omega); have := (hm k (by omega)).1; omega
  have h1 := hlow i (Nat.le_refl _)
  have h2 := hm i hi
  omega
theorem com_ok {L : List BG} {nb g cap g' cap' : Nat} (ok : ComOk nb (nsG L) (dsG L)) : ∀ q ∈ (logL L L.length ++ tailQ g cap (made (nsG L) (dsG L))) ++ (homL L ++ tailQ g' cap' zs), AqOk nb q := by
  have h98 := ok.n98
  have hhi := ok.hi
  rw [nsG_len] at hhi
  have hbl : ∀ q ∈ L, q.x.length = 512 := fun q hq => ok.bl q.x (List.mem_map.2 ⟨q, hq, rfl⟩)
  have ht : ∀ g cap x, x.length = 512 → ∀ q ∈ tailQ g cap x, AqOk nb q := fun g cap x hx q hq => by
    simp only [tailQ, List.mem_cons, List.not_mem_nil, or_false] at hq
    rcases hq with rfl | rfl | rfl
    · exact .inr rfl
    · exact .inl ⟨rfl, by show (0 : Int) ≤ 1; omega, by show (1 : Int) < nb; omega, hx⟩
    · exact .inr rfl
  intro q hq
  rcases List.mem_append.1 hq with hq | hq
  · rcases List.mem_append.1 hq with hq | hq
    · unfold logL at hq
      obtain ⟨i, hi, rfl⟩ := List.mem_map.1 hq
      have hi' := List.mem_range.1 hi
      refine .inl ⟨rfl, by show (0 : Int) ≤ 2 + i; omega, by show (2 : Int) + i < nb; omega, ?_⟩
      show (L.getD i bg0).x.length = 512
      rw [List.getD, List.getElem?_eq_getElem hi']
      exact hbl _ (List.getElem_mem hi')
    · exact ht _ _ _ (made_length _ _) q hq
  · rcases List.mem_append.1 hq with hq | hq
    · unfold homL at hq
      obtain ⟨p, hp, rfl⟩ := List.mem_map.1 hq
      obtain ⟨i, hi, e⟩ := List.getElem_of_mem hp
      have hm := homes_mem ok i (by rw [nsG_len]; exact hi)
      rw [nth_nsG (List.getElem?_eq_getElem hi), e] at hm
      exact .inl ⟨rfl, by show 0 ≤ p.n; omega, by show p.n < nb; omega, hbl p hp⟩
    · exact ht _ _ _ zs_length q hq
set_option maxRecDepth 100000 in
set_option maxHeartbeats 4000000 in
theorem rcommit_any (w : World) (a : AD) (R : RDk) (j : Nat) (h : RT w a R j) (a0 : Option Addr) (n c : Nat) (L : List BG) (hL : BGs w a0 L) (hn : L.length = n) (hl : n ≤ 4398046511104) (hj : j + 198 ≤ 100000000) (hap : ∀ q ∈ L, q.x ≠ [] → ∀ p, q.a = some p → ¬ R.all p.block) :
    Calls Tryz.prog 26 #[.pointer (some ⟨R.r, 0, none⟩), .slice a0 n c] w fun e w' => e = .returned (.int .i64 (comE a L)) ∧ ∃ R', RM w R w' (comT a L) R' (j + 198) := by
  by_cases hn0 : n = 0
  · subst hn0
    have e : L = [] := List.eq_nil_of_length_eq_zero hn
    unfold comE comT
    rw [if_pos e, if_pos e]
    have HM : Hid (RM w R w a R (j + 198)) := h.same (by omega) (Below.refl _ _)
    clear h hL hn hap
    go_enter Tryz.func26, Tryz.ntmps26
    go_wp2
    go_ret
    exact ⟨rfl, R, HM.out⟩
  have hne : ¬ L = [] := fun e => hn0 (by rw [← hn, e]; rfl)
  unfold comE comT
  rw [if_neg hne, if_neg hne]
  have hnb : a.nb = R.nb := h.tie.nb
  have hn0b : ¬ (n : Int) = 0 := by omega
  have hn1 : 0 < n := by omega
  obtain ⟨F, hF⟩ : ∃ F, ftE (nsG L) (dsG L) a.nb = F := ⟨_, rfl⟩
  rw [hF]
  obtain ⟨E2, hE2⟩ : ∃ E2, (if F = 0 then a.takeE (commitA (nsG L) (dsG L)) else F) = E2 := ⟨_, rfl⟩
  obtain ⟨A2, hA2⟩ : ∃ A2, (if F = 0 then a.take (commitA (nsG L) (dsG L)) else a) = A2 := ⟨_, rfl⟩
  rw [hE2, hA2]
  have HEA : Hid ((if F = 0 then a.takeE (commitA (nsG L) (dsG L)) else F) = E2 ∧ (if F = 0 then a.take (commitA (nsG L) (dsG L)) else a) = A2) := ⟨hE2, hA2⟩
  clear hE2 hA2
  have HL : Hid (BGs w a0 L ∧ L.length = n ∧ (∀ q ∈ L, q.x ≠ [] → ∀ p, q.a = some p → ¬ R.all p.block) ∧ ftE (nsG L) (dsG L) R.nb = F) := ⟨hL, hn, hap, by rw [← hnb]; exact hF⟩
  have HT : Hid (RT w a R j) := h
  have HB : Hid (Calls Tryz.prog 60 #[.pointer (some ⟨R.r, 0, none⟩)] w fun e w' => e = .returned (.int .i64 (R.nb : Int)) ∧ Below w.heap.size w w') := rdblocks_any w R h.r
  have hnb0 := h.r.nb0
  clear h hL hn hap hF hne
  obtain ⟨r, hr⟩ : ∃ r, R.r = r := ⟨_, rfl⟩
  have HR : Hid (R.r = r) := hr
  rw [hr] at HB ⊢
  obtain ⟨nb, hnb2⟩ : ∃ nb, R.nb = nb := ⟨_, rfl⟩
  rw [hnb2] at HB hnb0
  have HNb : Hid (R.nb = nb) := hnb2
  clear hr hnb2 hnb
  go_enter Tryz.func26, Tryz.ntmps26
  go_upto_region 4 with (go_at_call 60; refine HB.out.mono ?_; rintro e w1 ⟨rfl, hb⟩; have H1 : Hid (Below w.heap.size w w1) := hb; clear hb)
  go_upto_region 5 with (go_at_call 61; refine (fault_any w1 a0 n c L (nb : Int) (HL.out.1.on H1.out) HL.out.2.1 hl).mono ?_; rintro e w2 ⟨rfl, hb⟩; have H2 : Hid (Below w.heap.size w w2) := H1.out.trans (hb.mono H1.out.size); clear hb; have hFF : ftE (nsG L) (dsG L) (nb : Int) = F := (by rw [← HNb.out]; exact HL.out.2.2.2); rw [hFF]; clear hFF)
  by_cases hz : F = 0
  · subst hz
    have ok : ComOk nb (nsG L) (dsG L) := ftE_ok (by rw [← HNb.out]; exact HL.out.2.2.2) (by rw [nsG_len, dsG_len]) (by omega)
    have HOk : Hid (ComOk nb (nsG L) (dsG L)) := ok
    have h96 : n ≤ 96 := by have := ok.hi; rw [nsG_len, HL.out.2.1] at this; exact this
    clear ok
    have HE3 : Hid (a.takeE (commitA (nsG L) (dsG L)) = E2 ∧ a.take (commitA (nsG L) (dsG L)) = A2) := ⟨by rw [← HEA.out.1, if_pos rfl], by rw [← HEA.out.2, if_pos rfl]⟩
    go_upto_region 8 with (go_at_call 62; refine (r5acts_any w2 a0 n c nb L (HL.out.1.on H2.out) HL.out.2.1 HOk.out).mono ?_; rintro e w3 ⟨aa, ak, g, cap, g', cap', rfl, h3, hg1, hg2⟩; have HGG : Hid (w2.heap.size ≤ g ∧ w2.heap.size ≤ g') := ⟨hg1, hg2⟩; clear hg1 hg2; have H3 : Hid (AcL w2 w2 w3 (.slice aa (n + 3 + (n + 3)) ak) ((logL L L.length ++ tailQ g cap (made (nsG L) (dsG L))) ++ (homL L ++ tailQ g' cap' zs))) := h3; clear h3)
    have HTk : Hid (Calls Tryz.prog 63 #[.pointer (some ⟨r, 0, none⟩), .slice aa (n + 3 + (n + 3)) ak] w3 fun e w' => e = .returned (.int .i64 (a.takeE (commitA (nsG L) (dsG L)))) ∧ ∃ R', RM w3 R w' (a.take (commitA (nsG L) (dsG L))) R' (j + (n + 3 + (n + 3)))) := by
      have hb3 : Below w.heap.size w w3 := H2.out.trans (H3.out.bel.mono H2.out.size)
      have hlen : ((logL L L.length ++ tailQ g cap (made (nsG L) (dsG L))) ++ (homL L ++ tailQ g' cap' zs)).length = n + 3 + (n + 3) := by
        rw [List.length_append, List.length_append, List.length_append, logL_len, homL_len, HL.out.2.1]; rfl
      have hc := rtake_any w3 a R j (HT.out.on hb3) aa (n + 3 + (n + 3)) ak _ (actsG H3.out (Below.refl _ _) (by rw [hlen]; omega)) hlen (by omega) (by rw [HNb.out]; exact com_ok HOk.out) (fun b off e e2 => by
        have := H3.out.far b (by rw [e]; rfl)
        have := HT.out.r.lt e2
        have := H2.out.size; omega) (fun q hq hx p e e2 => by
        have hlt := HT.out.r.lt e2
        have hs := H2.out.size
        rcases H3.out.each q hq with hB | ⟨g2, e3, hg2, _⟩
        · rw [e] at hB
          rcases List.mem_append.1 hq with hq | hq
          · rcases List.mem_append.1 hq with hq | hq
            · unfold logL at hq
              obtain ⟨i, hi, rfl⟩ := List.mem_map.1 hq
              have hi' := List.mem_range.1 hi
              have hmem : L.getD i bg0 ∈ L := by rw [List.getD, List.getElem?_eq_getElem hi']; exact List.getElem_mem hi'
              exact HL.out.2.2.1 _ hmem hx p e e2
            · simp only [tailQ, List.mem_cons, List.not_mem_nil, or_false] at hq
              rcases hq with rfl | rfl | rfl
              · exact hx rfl
              · cases e; have := HGG.out.1; have := HGG.out.2; have e4 := hlt; simp only at e4; omega
              · exact hx rfl
          · rcases List.mem_append.1 hq with hq | hq
            · unfold homL at hq
              obtain ⟨p', hp', rfl⟩ := List.mem_map.1 hq
              exact HL.out.2.2.1 _ hp' hx p e e2
            · simp only [tailQ, List.mem_cons, List.not_mem_nil, or_false] at hq
              rcases hq with rfl | rfl | rfl
              · exact hx rfl
              · cases e; have := HGG.out.1; have := HGG.out.2; have e4 := hlt; simp only at e4; omega
              · exact hx rfl
        · rw [e3] at e; cases e; have : w2.heap.size ≤ g2 := hg2; have hlt' : g2 < w.heap.size := hlt; omega) (fun b off e => owns_block H3.out.row (by rw [e]; rfl))
      rw [waQ_com, HR.out] at hc
      exact hc
    go_wp2_with (go_at_call 63; refine HTk.out.mono ?_; rintro e w4 ⟨rfl, R', hM⟩; have H4 : Hid (RM w3 R w4 (a.take (commitA (nsG L) (dsG L))) R' (j + (n + 3 + (n + 3)))) := hM; clear hM)
    go_ret
    have hb3 : Below w.heap.size w w3 := H2.out.trans (H3.out.bel.mono H2.out.size)
    have H5 := H4.out
    rw [HE3.out.2] at H5
    refine ⟨(by rw [← HE3.out.1]; rfl), R', H5.t.up (by omega), (below_fr hb3 _).trans H4.out.fr (fun k e => .inl e), fun k e => (H4.out.al k e).imp id (fun e => Nat.le_trans hb3.size e), H4.out.r⟩
  · have HE3 : Hid (F = E2 ∧ a = A2) := ⟨by rw [← HEA.out.1, if_neg hz], by rw [← HEA.out.2, if_neg hz]⟩
    go_wp2
    go_ret
    have H5 := HT.out.same (j' := j + 198) (by omega) H2.out
    rw [HE3.out.2] at H5
    exact ⟨(by rw [← HE3.out.1]; rfl), R, H5⟩
end Go.Proofs.YtamlbpbhlgmcoaaGreatDoor

namespace Go.Proofs.YtamlbpbhlgmcoaaGreatDoor
open Go.RowKit Rec

end Go.Proofs.YtamlbpbhlgmcoaaGreatDoor

namespace Go.Proofs.YtamlbpbhlgmcoaaGreatDoor
open Go.RowKit Rec

end Go.Proofs.YtamlbpbhlgmcoaaGreatDoor

namespace Go.Proofs.YtamlbpbhlgmcoaaGreatDoor
open Go.RowKit Rec

end Go.Proofs.YtamlbpbhlgmcoaaGreatDoor

namespace Go.Proofs.YtamlbpbhlgmcoaaGreatDoor
open Go.RowKit Rec

end Go.Proofs.YtamlbpbhlgmcoaaGreatDoor

namespace Go.Proofs.YtamlbpbhlgmcoaaGreatDoor
open Go.RowKit Rec

end Go.Proofs.YtamlbpbhlgmcoaaGreatDoor

namespace Go.Proofs.YtamlbpbhlgmcoaaGreatDoor
open Go.RowKit Rec

end Go.Proofs.YtamlbpbhlgmcoaaGreatDoor

namespace Go.Proofs.YtamlbpbhlgmcoaaGreatDoor
open Go.RowKit Rec

theorem Ints.front {w : World} {a : Option Addr} {l m : List Int} (h : Ints w a (l ++ m)) : Ints w a l := by
  refine ⟨by have := h.len; simp at this; omega, ?_⟩
  rcases h.at_ with e | ⟨b, off, rfl, hc⟩
  · exact .inl (by simp at e; exact e.1)
  · refine .inr ⟨b, off, rfl, fun i hi => ?_⟩
    rw [hc i (by simp; omega)]
    congr 2
    unfold nth
    simp [List.getD, List.getElem?_append_left hi]
/-- the header that is made, or nothing -/
def hdr (ns : List Int) (ds : List (List Int)) : List Int := if makeE ns ds = 0 then made ns ds else []
structure HdAt (w : World) (a : Option Addr) (n c : Nat) (x : List Int) : Prop where
  len : x.length = n
  bytes : Bytes w a x
  nil : a = none → c = 0
  top : n ≤ 140737488351232
theorem HdAt.on {w w' : World} {a : Option Addr} {n c : Nat} {x : List Int} (h : HdAt w a n c x) (hb : Below w.heap.size w w') : HdAt w' a n c x := ⟨h.len, h.bytes.on hb, h.nil, h.top⟩
theorem numsAt_ints {w w' : World} {v : Value} {l : List Int} (h : NumsAt w w' v l) : ∃ a n c, v = .slice a n c ∧ l.length = n ∧ Ints w' a l := by
  rcases h with ⟨rfl, rfl⟩ | ⟨g, cap, rfl, ho, _⟩
  · exact ⟨_, _, _, rfl, rfl, ⟨by simp, .inl rfl⟩⟩
  · exact ⟨_, _, _, rfl, rfl, ho.ints⟩
end Go.Proofs.YtamlbpbhlgmcoaaGreatDoor
