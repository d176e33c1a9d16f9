import Derived.Test.YtflienghgobmoaaGreatDoorKXmB
import Derived.Test.YtflienghgobmoaaGreatDoorKWpG
namespace Go.Proofs.YtflienghgobmoaaGreatDoor
open Go.RowKit Rec
/-- a commit's blocks, handed in -/
structure CmH (w : World) (p0 : Addr) (n : Nat) (L : List BG) (nb : Nat) : Prop where
  bg : BGs w (some p0) L
  len : L.length = n
  ok : ComOk nb (nsG L) (dsG L)
  nb16 : nb ≤ 16384
theorem CmH.on {w w' : World} {p0 : Addr} {n nb : Nat} {L : List BG} (h : CmH w p0 n L nb) (hb : Below w.heap.size w w') : CmH w' p0 n L nb := ⟨h.bg.on hb, h.len, h.ok, h.nb16⟩
theorem CmH.each {w : World} {p0 : Addr} {n nb : Nat} {L : List BG} (h : CmH w p0 n L nb) : ∀ q ∈ L, BgOk q := fun q hq => by
  obtain ⟨i, hi, rfl⟩ := List.mem_iff_getElem.1 hq
  have h1 := homes_mem h.ok i (by rw [nsG_len]; exact hi)
  rw [nth_nsG (List.getElem?_eq_getElem hi)] at h1
  have h2 := h.ok.bl L[i].x (by unfold dsG; exact List.mem_map.2 ⟨_, hq, rfl⟩)
  have := h.nb16
  exact ⟨by omega, by omega, h2⟩
theorem CmH.cells {w : World} {p0 : Addr} {n nb j : Nat} {L : List BG} {q : BG} (h : CmH w p0 n L nb) (hq : L[j]? = some q) : ∃ b off, p0 = ⟨b, off, none⟩ ∧ w.cell? ⟨b, off + j * 2, none⟩ = some (.int .i64 q.n) ∧ w.cell? ⟨b, off + j * 2 + 1, none⟩ = some (.slice q.a q.x.length q.c) := by
  obtain ⟨b, off, e, hc⟩ := h.bg.at_.resolve_left (by intro e; rw [e] at hq; simp at hq)
  cases e
  exact ⟨b, off, rfl, hc j q hq⟩
set_option maxRecDepth 100000 in
set_option maxHeartbeats 8000000 in
theorem r6commit_any (w : World) (a : AD) (R : RDk) (jj : Nat) (h : RT w a R jj) (p0 : Addr) (n c : Nat) (L : List BG) (hL : CmH w p0 n L R.nb) (hj : jj + 198 ≤ 1000000000) (hap : ∀ q ∈ L, q.x ≠ [] → ∀ p, q.a = some p → ¬ R.all p.block) :
    Calls Tryz.prog 85 #[.pointer (some ⟨R.r, 0, none⟩), .slice (some p0) n c] w fun e w' => e = .returned (.int .i64 (a.takeE (commitA (nsG L) (dsG L)))) ∧ ∃ R', RM w R w' (a.take (commitA (nsG L) (dsG L))) R' (jj + 198) := by
  have h96 : n ≤ 96 := by have := hL.ok.hi; rw [nsG_len, hL.len] at this; exact this
  have h1n : 0 < n := by have := hL.ok.lo; rw [nsG_len, hL.len] at this; exact this
  have hn0 : ¬ (n : Int) = 0 := by omega
  obtain ⟨nb, hnb⟩ : ∃ nb, R.nb = nb := ⟨_, rfl⟩
  rw [hnb] at hL
  have HL : Hid (CmH w p0 n L nb ∧ R.nb = nb) := ⟨hL, hnb⟩
  have HT : Hid (RT w a R jj ∧ ∀ q ∈ L, q.x ≠ [] → ∀ p, q.a = some p → ¬ R.all p.block) := ⟨h, hap⟩
  clear h hL hap hnb
  obtain ⟨i1, j1, j2, j3, j4⟩ := info_parts infoAct
  obtain ⟨r, hr⟩ : ∃ r, R.r = r := ⟨_, rfl⟩
  have HR : Hid (R.r = r) := hr
  rw [hr]
  clear hr
  go_enter Tryz.func85, Tryz.ntmps85
  go_upto_region 5 with fail
  obtain ⟨fb, hfb⟩ : ∃ fb, w.heap.size = fb := ⟨_, rfl⟩
  obtain ⟨wb, hwb⟩ : ∃ wb, w.alloc (.cells #[.int .i64 2, .int .i64 0, .slice none 0 0] 177) = wb := ⟨_, rfl⟩
  have HW : Hid (Below w.heap.size w wb ∧ ∀ wx, Below wb.heap.size wb wx → wx.cell? ⟨fb, 0, none⟩ = some (.int .i64 2) ∧ wx.cell? ⟨fb, 1, none⟩ = some (.int .i64 0) ∧ wx.cell? ⟨fb, 2, none⟩ = some (.slice none 0 0)) := by
    rw [← hwb, ← hfb]
    exact ⟨(Below.refl _ _).alloc (Nat.le_refl _) _, fun wx hb => ⟨box_at hb 0, box_at hb 1, box_at hb 2⟩⟩
  have HN2 : Hid (CmH wb p0 n L nb) := HL.out.1.on HW.out.1
  rw [hwb, hfb]
  clear hwb hfb
  go_wp2
  go_loopw [5, 20] (fun s5 s20 wr => ∃ j : Nat, j ≤ n ∧ s20 = .int .i64 j ∧ AcL w wb wr s5 (logL L j)) (fun _ s20 _ => n - (intOf s20).toNat)
  case atStart => exact ⟨0, Nat.zero_le _, rfl, AcL.zero (Below.refl _ _)⟩
  case round =>
    obtain ⟨j, hjn, rfl, hA⟩ := hrel
    have HA : Hid (AcL w wb wr u5 (logL L j)) := hA
    clear hA
    have HRow : Hid (wr.ownsRow 0 177 3 u5 j ((logL L j).flatMap ActR.cells)) := by
      have := HA.out.row; rw [logL_len] at this; exact this
    by_cases hlt : j < n
    · obtain ⟨q, hq⟩ : ∃ q, L[j]? = some q := ⟨_, List.getElem?_eq_getElem (by rw [HL.out.1.len]; exact hlt)⟩
      obtain ⟨b, off, rfl, c1, c2⟩ := (HN2.out.on HA.out.bel).cells hq
      have HQ : Hid (L[j]? = some q) := hq
      clear hq
      obtain ⟨qn, hqn⟩ : ∃ qn, q.n = qn := ⟨_, rfl⟩
      rw [hqn] at c1
      have HQn : Hid (q.n = qn) := hqn
      clear hqn
      go_upto_region 8 with fail
      obtain ⟨P, hP⟩ : ∃ P, wr.heap.size = P := ⟨_, rfl⟩
      obtain ⟨wa, hwa⟩ : ∃ wa, wr.alloc (.cells #[.int .i64 qn, .slice q.a q.x.length q.c] 141) = wa := ⟨_, rfl⟩
      have HB3 : Hid (Below wr.heap.size wr wa) := by rw [← hwa]; exact (Below.refl _ _).alloc (Nat.le_refl _) _
      have d0 : wa.cell? ⟨P, 0, none⟩ = some (.int .i64 qn) := by rw [← hwa, ← hP]; exact box_at (Below.refl _ _) 0
      have d1 : wa.cell? ⟨P, 1, none⟩ = some (.slice q.a q.x.length q.c) := by rw [← hwa, ← hP]; exact box_at (Below.refl _ _) 1
      rw [hwa, hP]
      clear hwa hP c1 c2
      go_wp2_with (at_builtin; refine wp_own rfl (.tmp 25) (.tmp 31) 49 rfl 177 i1 _ 3 40 Tryz.underlying49 j1 j2 j3 j4 rfl (by decide) u5 j ((logL L j).flatMap ActR.cells) rfl (owns_fr HRow.out (below_fr (HB3.out.trans (((Below.refl wa.heap.size wa).alloc (Nat.le_refl _) _).mono HB3.out.size)) (fun _ => False)) (fun _ _ e => e)) ⟨wa.heap.size, 0, none⟩ 1 1 [.int .i64 1, .int .i64 (2 + (j : Int)), .slice q.a q.x.length q.c] rfl (by decide) rfl (news_of (heap_alloc_new wa _) _ rfl) (by intro u hu; simp at hu; rcases hu with rfl | rfl | rfl <;> rfl) (by unfold maxLen; omega) (by omega) ?_
                   intro g cap w4 h1 h2 h3
                   go_frame
                   have HE : Hid (AcL w wb w4 (.slice (some ⟨g, 0, none⟩) (j + 1) cap) (logL L (j + 1))) := (by
                     rw [logL_succ HQ.out]
                     exact HA.out.add (M := [wQ (2 + (j : Int)) q]) (logL_len _ _) rfl (HB3.out.trans (((Below.refl wa.heap.size wa).alloc (Nat.le_refl _) _).mono HB3.out.size)) (fun q' hq' => by rw [List.mem_singleton] at hq'; subst hq'; exact .inl (HL.out.1.bg.each q (List.mem_of_getElem? HQ.out)).1) h1 h2 h3)
                   clear h1 h2 h3)
      exact ⟨⟨j + 1, hlt, rfl, HE.out⟩, by simp [intOf]; omega⟩
    · have hjn2 : j = n := by omega
      subst hjn2
      have HH : Hid (∀ wx, Below wb.heap.size wb wx → Calls Tryz.prog 125 #[.slice (some p0) j c] wx fun e w' => ∃ g cap, e = .returned (.slice (some ⟨g, 0, none⟩) 512 cap) ∧ OwnB w' g cap (made (nsG L) (dsG L)) ∧ wx.heap.size ≤ g ∧ Below wx.heap.size wx w') := fun wx hb => by
        refine (r6header_any wx p0 j c L (HN2.out.on hb).bg HN2.out.len h1n h96 HN2.out.each).mono ?_
        rintro e w' ⟨v, rfl, hv⟩
        obtain ⟨g, cap, rfl, _⟩ := hv.addr (k := 512) (by rw [made_length]) (by decide)
        have ho := ownB_of (hv.row (k := 512) (by rw [made_length])) (by rw [made_length]) (by decide) hv.wf
        exact ⟨g, cap, rfl, ho, hv.o.far g rfl, hv.o.bel⟩
      go_upto_region 10 with fail
      obtain ⟨y0, y1, y2⟩ := HW.out.2 wr HA.out.bel
      have hS0 : wr.drew.cell? ⟨fb, 0, none⟩ = some (.int .i64 2) ∧ wr.drew.cell? ⟨fb, 1, none⟩ = some (.int .i64 0) ∧ wr.drew.cell? ⟨fb, 2, none⟩ = some (.slice none 0 0) := ⟨y0, y1, y2⟩
      have HD : Hid (Below wr.heap.size wr wr.drew) := (Below.refl _ _).drew
      go_region_held3 (fun w' => w'.cell? ⟨fb, 0, none⟩ = some (.int .i64 2) ∧ w'.cell? ⟨fb, 1, none⟩ = some (.int .i64 0) ∧ w'.cell? ⟨fb, 2, none⟩ = some (.slice none 0 0)) (first | exact hS0 | exact hS1 | exact hS6 | go_keep)
        (first
          | (go_at_call 125; refine (HH.out _ (HA.out.bel.trans (HD.out.mono HA.out.bel.size))).mono ?_; rintro e w1 ⟨hg, hcap, rfl, h1, h2, h3⟩
             have H1 : Hid (OwnB w1 hg hcap (made (nsG L) (dsG L)) ∧ wr.heap.size ≤ hg ∧ Below wr.heap.size wr w1) := ⟨h1, h2, HD.out.trans (h3.mono HD.out.size)⟩
             have hS1 : w1.cell? ⟨fb, 0, none⟩ = some (.int .i64 2) ∧ w1.cell? ⟨fb, 1, none⟩ = some (.int .i64 0) ∧ w1.cell? ⟨fb, 2, none⟩ = some (.slice none 0 0) := HW.out.2 w1 (HA.out.bel.trans (H1.out.2.2.mono HA.out.bel.size))
             clear h1 h2 h3 HH)
          | (refine step_own (by rfl) (.tmp 34) (.tmp 40) 49 (by rfl) 177 i1 _ 3 40 Tryz.underlying49 j1 j2 j3 j4 (by rfl) (by decide) u5 j ((logL L j).flatMap ActR.cells) (by rfl) (owns_fr HRow.out (below_fr (H1.out.2.2.trans (((Below.refl w1.heap.size w1).alloc (Nat.le_refl _) _).mono H1.out.2.2.size)) (fun _ => False)) (fun _ _ e => e)) ⟨w1.heap.size, 0, none⟩ 3 3 [.int .i64 2, .int .i64 0, .slice none 0 0, .int .i64 1, .int .i64 1, .slice (some ⟨hg, 0, none⟩) 512 hcap, .int .i64 2, .int .i64 0, .slice none 0 0] (by rfl) (by decide) (by rfl) (news_of (heap_alloc_new w1 _) _ rfl) (by intro u hu; simp at hu; rcases hu with rfl | rfl | rfl | rfl | rfl | rfl | rfl | rfl | rfl <;> rfl) (by unfold maxLen; omega) (by omega) ?_
             intro g6 cap6 w6 h1 h2 h3
             have HE : Hid (AcL w wb w6 (.slice (some ⟨g6, 0, none⟩) (j + 3) cap6) (logL L j ++ tailQ hg hcap (made (nsG L) (dsG L)))) := (by
               have hba : Below wr.heap.size wr (w1.alloc (.cells #[.int .i64 2, .int .i64 0, .slice none 0 0, .int .i64 1, .int .i64 1, .slice (some ⟨hg, 0, none⟩) 512 hcap, .int .i64 2, .int .i64 0, .slice none 0 0] 177)) := H1.out.2.2.trans (((Below.refl w1.heap.size w1).alloc (Nat.le_refl _) _).mono H1.out.2.2.size)
               refine HA.out.add (M := tailQ hg hcap (made (nsG L) (dsG L))) (logL_len _ _) rfl hba (fun q' hq' => ?_) (by
                 have e : (tailQ hg hcap (made (nsG L) (dsG L))).flatMap ActR.cells = [.int .i64 2, .int .i64 0, .slice none 0 0, .int .i64 1, .int .i64 1, .slice (some ⟨hg, 0, none⟩) 512 hcap, .int .i64 2, .int .i64 0, .slice none 0 0] := (by
                   show ([.int .i64 2, .int .i64 0, .slice none 0 0, .int .i64 1, .int .i64 1, .slice (some ⟨hg, 0, none⟩) (made (nsG L) (dsG L)).length hcap, .int .i64 2, .int .i64 0, .slice none 0 0] : List Value) = _
                   rw [made_length])
                 rw [e]; exact h1) h2 h3
               simp only [tailQ, List.mem_cons, List.not_mem_nil, or_false] at hq'
               rcases hq' with rfl | rfl | rfl
               · exact fQ_d _ _
               · exact .inr ⟨hg, rfl, by have := HA.out.bel.size; have := HW.out.1.size; have := H1.out.2.1; omega, H1.out.1.on ((Below.refl w1.heap.size w1).alloc (Nat.le_refl _) _)⟩
               · exact fQ_d _ _)
             have hS6 : w6.cell? ⟨fb, 0, none⟩ = some (.int .i64 2) ∧ w6.cell? ⟨fb, 1, none⟩ = some (.int .i64 0) ∧ w6.cell? ⟨fb, 2, none⟩ = some (.slice none 0 0) := HW.out.2 w6 HE.out.bel
             clear h1 h2 h3))
      obtain ⟨M0, hM0⟩ : ∃ M0, logL L j ++ tailQ hg hcap (made (nsG L) (dsG L)) = M0 := ⟨_, rfl⟩
      have HM0 : Hid (M0.length = j + 3 ∧ logL L j ++ tailQ hg hcap (made (nsG L) (dsG L)) = M0) := ⟨by rw [← hM0, List.length_append, logL_len]; rfl, hM0⟩
      rw [hM0] at HE
      have HGG : Hid (wb.heap.size ≤ hg) := Nat.le_trans HA.out.bel.size H1.out.2.1
      clear hM0 hS0 hS1 hS6 HA HRow y0 y1 y2 HD
      go_wp2
      go_loopw [5, 44] (fun s5 s44 wr => ∃ i : Nat, i ≤ j ∧ s44 = .int .i64 i ∧ AcL w wb wr s5 (M0 ++ homL (L.take i))) (fun _ s44 _ => j - (intOf s44).toNat)
      case atStart => exact ⟨0, Nat.zero_le _, rfl, by rw [List.take_zero]; show AcL _ _ _ _ (M0 ++ []); rw [List.append_nil]; exact HE.out⟩
      case round =>
        obtain ⟨i, hin, rfl, hA⟩ := hrel
        have HA : Hid (AcL w wb wr u5 (M0 ++ homL (L.take i))) := hA
        clear hA HE
        have HRow : Hid (wr.ownsRow 0 177 3 u5 (j + 3 + i) ((M0 ++ homL (L.take i)).flatMap ActR.cells)) := by
          have := HA.out.row
          rw [List.length_append, HM0.out.1, homL_len, List.length_take, HL.out.1.len, Nat.min_eq_left hin] at this; exact this
        by_cases hlt : i < j
        · obtain ⟨q, hq⟩ : ∃ q, L[i]? = some q := ⟨_, List.getElem?_eq_getElem (by rw [HL.out.1.len]; exact hlt)⟩
          obtain ⟨b, off, rfl, c1, c2⟩ := (HN2.out.on HA.out.bel).cells hq
          have HQ : Hid (L[i]? = some q) := hq
          clear hq
          obtain ⟨qn, hqn⟩ : ∃ qn, q.n = qn := ⟨_, rfl⟩
          rw [hqn] at c1
          have HQn : Hid (q.n = qn) := hqn
          clear hqn
          go_upto_region 14 with fail
          obtain ⟨P, hP⟩ : ∃ P, wr.heap.size = P := ⟨_, rfl⟩
          obtain ⟨wa, hwa⟩ : ∃ wa, wr.alloc (.cells #[.int .i64 qn, .slice q.a q.x.length q.c] 141) = wa := ⟨_, rfl⟩
          have HB3 : Hid (Below wr.heap.size wr wa) := by rw [← hwa]; exact (Below.refl _ _).alloc (Nat.le_refl _) _
          have d0 : wa.cell? ⟨P, 0, none⟩ = some (.int .i64 qn) := by rw [← hwa, ← hP]; exact box_at (Below.refl _ _) 0
          have d1 : wa.cell? ⟨P, 1, none⟩ = some (.slice q.a q.x.length q.c) := by rw [← hwa, ← hP]; exact box_at (Below.refl _ _) 1
          rw [hwa, hP]
          clear hwa hP c1 c2
          go_wp2_with (at_builtin; refine wp_own rfl (.tmp 48) (.tmp 54) 49 rfl 177 i1 _ 3 40 Tryz.underlying49 j1 j2 j3 j4 rfl (by decide) u5 (j + 3 + i) ((M0 ++ homL (L.take i)).flatMap ActR.cells) rfl (owns_fr HRow.out (below_fr (HB3.out.trans (((Below.refl wa.heap.size wa).alloc (Nat.le_refl _) _).mono HB3.out.size)) (fun _ => False)) (fun _ _ e => e)) ⟨wa.heap.size, 0, none⟩ 1 1 [.int .i64 1, .int .i64 qn, .slice q.a q.x.length q.c] rfl (by decide) rfl (news_of (heap_alloc_new wa _) _ rfl) (by intro u hu; simp at hu; rcases hu with rfl | rfl | rfl <;> rfl) (by unfold maxLen; omega) (by omega) ?_
                       intro g cap w4 h1 h2 h3
                       go_frame
                       have HE : Hid (AcL w wb w4 (.slice (some ⟨g, 0, none⟩) (j + 3 + (i + 1)) cap) (M0 ++ homL (L.take (i + 1)))) := (by
                         rw [homL_take HQ.out, ← List.append_assoc]
                         rw [← HQn.out] at h1
                         exact HA.out.add (k := j + 3 + i) (m := 1) (M := [wQ q.n q]) (by rw [List.length_append, HM0.out.1, homL_len, List.length_take, HL.out.1.len]; omega) rfl (HB3.out.trans (((Below.refl wa.heap.size wa).alloc (Nat.le_refl _) _).mono HB3.out.size)) (fun q' hq' => by rw [List.mem_singleton] at hq'; subst hq'; exact .inl (HL.out.1.bg.each q (List.mem_of_getElem? HQ.out)).1) h1 h2 h3)
                       clear h1 h2 h3)
          exact ⟨⟨i + 1, hlt, rfl, HE.out⟩, by simp [intOf]; omega⟩
        · obtain rfl : j = i := by omega
          rw [List.take_of_length_le (by rw [HL.out.1.len]; exact Nat.le_refl _)] at HA HRow
          obtain ⟨M1, hM1⟩ : ∃ M1, M0 ++ homL L = M1 := ⟨_, rfl⟩
          have HM1 : Hid (M1.length = j + 3 + j ∧ M0 ++ homL L = M1) := ⟨by rw [← hM1, List.length_append, HM0.out.1, homL_len, HL.out.1.len], hM1⟩
          rw [hM1] at HA HRow
          clear hM1
          obtain ⟨zo, E2, E3⟩ := make512
          have HZo : Hid (∀ wx : World, OwnB (wx.alloc zo) wx.heap.size 512 zs) := E3
          clear E3
          have HSz : Hid (∀ o' : Array Value, ((wr.drew.alloc zo).alloc (.cells o' 177)).heap[wr.heap.size + 1]? = some (.cells o' 177 (0, 0))) := fun o' => by
            have := heap_alloc_new (wr.drew.alloc zo) (.cells o' 177)
            rw [show (wr.drew.alloc zo).heap.size = wr.heap.size + 1 by simp] at this
            exact this
          obtain ⟨y0, y1, y2⟩ := HW.out.2 wr HA.out.bel
          have hD0 : Below wr.heap.size wr wr.drew := (Below.refl _ _).drew
          have hD1 : ∀ o, Below wr.heap.size wr (wr.drew.alloc o) := fun o => hD0.alloc (Nat.le_refl _) o
          have hD2 : ∀ o o', Below wr.heap.size wr ((wr.drew.alloc o).alloc o') := fun o o' => (hD1 o).alloc (hD1 o).size o'
          have HD : Hid ((Below wr.heap.size wr wr.drew) ∧ (∀ o, Below wr.heap.size wr (wr.drew.alloc o)) ∧ ∀ o o', Below wr.heap.size wr ((wr.drew.alloc o).alloc o')) := ⟨hD0, hD1, hD2⟩
          clear hD0 hD1 hD2
          have hS0 : wr.drew.cell? ⟨fb, 0, none⟩ = some (.int .i64 2) ∧ wr.drew.cell? ⟨fb, 1, none⟩ = some (.int .i64 0) ∧ wr.drew.cell? ⟨fb, 2, none⟩ = some (.slice none 0 0) := ⟨y0, y1, y2⟩
          have hS2 : ∀ o, (wr.drew.alloc o).cell? ⟨fb, 0, none⟩ = some (.int .i64 2) ∧ (wr.drew.alloc o).cell? ⟨fb, 1, none⟩ = some (.int .i64 0) ∧ (wr.drew.alloc o).cell? ⟨fb, 2, none⟩ = some (.slice none 0 0) := fun o => HW.out.2 _ (HA.out.bel.trans ((HD.out.2.1 o).mono HA.out.bel.size))
          have hS3 : ∀ o o', ((wr.drew.alloc o).alloc o').cell? ⟨fb, 0, none⟩ = some (.int .i64 2) ∧ ((wr.drew.alloc o).alloc o').cell? ⟨fb, 1, none⟩ = some (.int .i64 0) ∧ ((wr.drew.alloc o).alloc o').cell? ⟨fb, 2, none⟩ = some (.slice none 0 0) := fun o o' => HW.out.2 _ (HA.out.bel.trans ((HD.out.2.2 o o').mono HA.out.bel.size))
          go_upto_region 16 with fail
          go_region_held3 (fun w' => w'.cell? ⟨fb, 0, none⟩ = some (.int .i64 2) ∧ w'.cell? ⟨fb, 1, none⟩ = some (.int .i64 0) ∧ w'.cell? ⟨fb, 2, none⟩ = some (.slice none 0 0)) (first | exact hS0 | exact hS2 _ | exact hS3 _ _ | exact hS6 | go_keep)
            (first
              | (refine step_own (by rfl) (.tmp 57) (.tmp 62) 49 (by rfl) 177 i1 _ 3 40 Tryz.underlying49 j1 j2 j3 j4 (by rfl) (by decide) u5 (j + 3 + j) (M1.flatMap ActR.cells) (by rfl) (owns_fr HRow.out (below_fr (HD.out.2.2 _ _) (fun _ => False)) (fun _ _ e => e)) ⟨wr.heap.size + 1, 0, none⟩ 3 3 [.int .i64 2, .int .i64 0, .slice none 0 0, .int .i64 1, .int .i64 1, .slice (some ⟨wr.heap.size, 0, none⟩) 512 512, .int .i64 2, .int .i64 0, .slice none 0 0] (by rfl) (by decide) (by rfl) (news_of (HSz.out _) _ rfl) (by intro u hu; simp at hu; rcases hu with rfl | rfl | rfl | rfl | rfl | rfl | rfl | rfl | rfl <;> rfl) (by unfold maxLen; omega) (by omega) ?_
                 intro g7 cap7 w7 h1 h2 h3
                 have HF : Hid (AcL w wb w7 (.slice (some ⟨g7, 0, none⟩) (j + 3 + j + 3) cap7) (M1 ++ tailQ wr.heap.size 512 zs)) := (by
                   refine HA.out.add (k := j + 3 + j) (m := 3) (M := tailQ wr.heap.size 512 zs) HM1.out.1 rfl (HD.out.2.2 _ _) (fun q' hq' => ?_) (by
                     have e : (tailQ wr.heap.size 512 zs).flatMap ActR.cells = [.int .i64 2, .int .i64 0, .slice none 0 0, .int .i64 1, .int .i64 1, .slice (some ⟨wr.heap.size, 0, none⟩) 512 512, .int .i64 2, .int .i64 0, .slice none 0 0] := (by
                       show ([.int .i64 2, .int .i64 0, .slice none 0 0, .int .i64 1, .int .i64 1, .slice (some ⟨wr.heap.size, 0, none⟩) zs.length 512, .int .i64 2, .int .i64 0, .slice none 0 0] : List Value) = _
                       rw [zs_length])
                     rw [e]; exact h1) h2 h3
                   simp only [tailQ, List.mem_cons, List.not_mem_nil, or_false] at hq'
                   rcases hq' with rfl | rfl | rfl
                   · exact fQ_d _ _
                   · exact .inr ⟨wr.heap.size, rfl, by have := HA.out.bel.size; have := HW.out.1.size; omega, (HZo.out wr.drew).on ((Below.refl (wr.drew.alloc zo).heap.size (wr.drew.alloc zo)).alloc (Nat.le_refl _) _)⟩
                   · exact fQ_d _ _)
                 have hS6 : w7.cell? ⟨fb, 0, none⟩ = some (.int .i64 2) ∧ w7.cell? ⟨fb, 1, none⟩ = some (.int .i64 0) ∧ w7.cell? ⟨fb, 2, none⟩ = some (.slice none 0 0) := HW.out.2 w7 HF.out.bel
                 clear h1 h2 h3))
          obtain ⟨A, hAe⟩ : ∃ A, M1 ++ tailQ wr.heap.size 512 zs = A := ⟨_, rfl⟩
          obtain ⟨zb, hzb⟩ : ∃ zb, wr.heap.size = zb := ⟨_, rfl⟩
          have HZb : Hid (wb.heap.size ≤ zb) := by rw [← hzb]; exact HA.out.bel.size
          have hAf : A = (logL L L.length ++ tailQ hg hcap (made (nsG L) (dsG L))) ++ (homL L ++ tailQ zb 512 zs) := by
            rw [← hAe, ← HM1.out.2, ← HM0.out.2, HL.out.1.len, hzb, List.append_assoc]
          obtain ⟨N, hNe⟩ : ∃ N, j + 3 + j + 3 = N := ⟨_, rfl⟩
          have HAl : Hid (A.length = N ∧ A.map waQ = commitA (nsG L) (dsG L) ∧ ∀ q ∈ A, AqOk nb q) := by
            refine ⟨by rw [← hAe, List.length_append, HM1.out.1, ← hNe]; rfl, by rw [hAf]; exact waQ_com L _ _ _ _, by rw [hAf]; exact com_ok HL.out.1.ok⟩
          rw [hNe, hAe] at HF
          rw [hNe]
          have hN198 : N ≤ 198 := by omega
          have hb7 : Below w.heap.size w w7 := HW.out.1.trans (HF.out.bel.mono HW.out.1.size)
          have HX : Hid (Acts w7 (some ⟨g7, 0, none⟩) A ∧ Below w.heap.size w w7 ∧ ¬ R.all g7 ∧ (∀ q ∈ A, q.x ≠ [] → ∀ p, q.a = some p → ¬ R.all p.block) ∧ g7 < w7.heap.size) := by
            refine ⟨actsG HF.out HW.out.1 (by rw [HAl.out.1]; omega), hb7, fun e => ?_, fun q hq hx p e e2 => ?_, owns_block HF.out.row rfl⟩
            · have h1 := HF.out.far g7 rfl
              have h2 := HT.out.1.r.lt e
              have := HW.out.1.size; omega
            · have hlt := HT.out.1.r.lt e2
              have hs := HW.out.1.size
              rw [hAf] at hq
              rcases List.mem_append.1 hq with hq | hq
              · rcases List.mem_append.1 hq with hq | hq
                · unfold logL at hq
                  obtain ⟨i, hi, rfl⟩ := List.mem_map.1 hq
                  have hi' := List.mem_range.1 hi
                  have hmem : L.getD i bg0 ∈ L := by rw [List.getD, List.getElem?_eq_getElem hi']; exact List.getElem_mem hi'
                  exact HT.out.2 _ hmem hx p e e2
                · simp only [tailQ, List.mem_cons, List.not_mem_nil, or_false] at hq
                  rcases hq with rfl | rfl | rfl
                  · exact hx rfl
                  · cases e; have := HGG.out; have e4 := hlt; simp only at e4; omega
                  · exact hx rfl
              · rcases List.mem_append.1 hq with hq | hq
                · unfold homL at hq
                  obtain ⟨p', hp', rfl⟩ := List.mem_map.1 hq
                  exact HT.out.2 _ hp' hx p e e2
                · simp only [tailQ, List.mem_cons, List.not_mem_nil, or_false] at hq
                  rcases hq with rfl | rfl | rfl
                  · exact hx rfl
                  · cases e; have := HZb.out; have e4 := hlt; simp only at e4; omega
                  · exact hx rfl
          have HT0 : Hid (Tk w7 a R jj A (some ⟨g7, 0, none⟩) w7 R 0) := ⟨(HT.out.1.on hb7).same (Nat.le_refl _) (Below.refl _ _), rfl, HX.out.1⟩
          clear hAe hAf hNe hzb hb7 hS0 hS2 hS3 hS6 HA HRow HF y0 y1 y2 E2
          go_wp2
          go_loopw [66] (fun s66 wr => ∃ k : Nat, k ≤ N ∧ s66 = .int .i64 k ∧ ∃ R', Tk w7 a R jj A (some ⟨g7, 0, none⟩) wr R' k) (fun s66 _ => N - (intOf s66).toNat)
          case atStart => exact ⟨0, Nat.zero_le _, rfl, R, HT0.out⟩
          case round =>
            clear HT0
            obtain ⟨k, hk, rfl, R', hT⟩ := hrel
            have HTk : Hid (Tk w7 a R jj A (some ⟨g7, 0, none⟩) wr R' k) := hT
            have hr' : R'.r = r := by rw [hT.m.r]; exact HR.out
            clear hT
            by_cases hlt : k < N
            · obtain ⟨q, hq⟩ : ∃ q, A[k]? = some q := ⟨_, List.getElem?_eq_getElem (by rw [HAl.out.1]; exact hlt)⟩
              obtain ⟨b, off, e, hc⟩ := HTk.out.acts.at_.resolve_left (by intro e; rw [e] at hq; simp at hq)
              cases e
              obtain ⟨f0, f1, f2⟩ := hc k q hq
              rw [Nat.zero_add] at f0 f1 f2
              have hqm := List.mem_of_getElem? hq
              have HQ : Hid (A[k]? = some q ∧ AqOk nb q ∧ Bytes wr q.a q.x) := ⟨hq, HAl.out.2.2 q hqm, HTk.out.acts.each q hqm⟩
              have HNb : Hid ((a.take ((A.map waQ).take k)).nb = nb) := by
                have e1 := HTk.out.m.t.tie.nb
                have e2 : R'.nb = R.nb := by
                  rw [← e1, take_nb]; exact HT.out.1.tie.nb
                exact e1.trans (e2.trans HL.out.2)
              have HNx : Hid (∀ wx w' R2 a' , Below wr.heap.size wr wx → RM wx R' w' a' R2 (jj + k + 1) → a' = (a.take ((A.map waQ).take k)).take [waQ q] → (a.take ((A.map waQ).take k)).takeE [waQ q] = 0 → Tk w7 a R jj A (some ⟨g7, 0, none⟩) w' R2 (k + 1)) := fun wx w' R2 a' hx hM ha hz => by
                have hm := HTk.out.more HQ.out.1 hx hM ha
                refine ⟨hm, by rw [(take_more a (A.map waQ) k (waQ q) (tk_get HQ.out.1) HTk.out.z).2]; exact hz, ?_⟩
                exact HX.out.1.frE hm.fr (fun b off e e2 => by cases e; exact HX.out.2.2.1 e2) HX.out.2.2.2.1
              have HSt : Hid (∀ wx w' R2 a' , Below wr.heap.size wr wx → RM wx R' w' a' R2 (jj + k + 1) → a' = (a.take ((A.map waQ).take k)).take [waQ q] → (a.take ((A.map waQ).take k)).takeE [waQ q] ≠ 0 → (a.take ((A.map waQ).take k)).takeE [waQ q] = a.takeE (A.map waQ) ∧ RM w7 R w' (a.take (A.map waQ)) R2 (jj + 198)) := fun wx w' R2 a' hx hM ha hz => by
                have hm := HTk.out.more HQ.out.1 hx hM ha
                have e2 := (take_more a (A.map waQ) k (waQ q) (tk_get HQ.out.1) HTk.out.z).2
                obtain ⟨e3, e4⟩ := take_stop a (A.map waQ) (k + 1) (by rw [e2]; exact hz)
                refine ⟨by rw [← e2, e4], ?_⟩
                rw [e3]
                exact ⟨hm.t.up (by omega), hm.fr, hm.al, hm.r⟩
              obtain ⟨qb, hqb⟩ : ∃ qb, q.b = qb := ⟨_, rfl⟩
              obtain ⟨qk, hqk⟩ : ∃ qk, q.kind = qk := ⟨_, rfl⟩
              have HQb : Hid (q.b = qb ∧ q.kind = qk) := ⟨hqb, hqk⟩
              rw [hqb] at f1
              rw [hqk] at f0
              clear hc hq hqm hqb hqk
              go_upto_region 20 with fail
              obtain ⟨P, hP⟩ : ∃ P, wr.heap.size = P := ⟨_, rfl⟩
              obtain ⟨wa, hwa⟩ : ∃ wa, wr.alloc (.cells #[.int .i64 qk, .int .i64 qb, .slice q.a q.x.length q.c] 177) = wa := ⟨_, rfl⟩
              have HB3 : Hid (Below wr.heap.size wr wa) := by rw [← hwa]; exact (Below.refl _ _).alloc (Nat.le_refl _) _
              have d0 : wa.cell? ⟨P, 0, none⟩ = some (.int .i64 qk) := by rw [← hwa, ← hP]; exact box_at (Below.refl _ _) 0
              have d1 : wa.cell? ⟨P, 1, none⟩ = some (.int .i64 qb) := by rw [← hwa, ← hP]; exact box_at (Below.refl _ _) 1
              have d2 : wa.cell? ⟨P, 2, none⟩ = some (.slice q.a q.x.length q.c) := by rw [← hwa, ← hP]; exact box_at (Below.refl _ _) 2
              rw [hwa, hP]
              clear hwa hP f0 f1 f2
              have HE0 : Hid (A.map waQ = commitA (nsG L) (dsG L)) := HAl.out.2.1
              by_cases hkd : qk = 1
              · subst hkd
                have hv := HQ.out.2.1.resolve_right (by rw [HQb.out.2]; decide)
                obtain ⟨e1, e2⟩ := wE_take hv HNb.out
                have HWr : Hid (Calls Tryz.prog 126 #[.pointer (some ⟨r, 0, none⟩), .int .i64 qb, .slice q.a q.x.length q.c] wa fun e w' => e = .returned (.int .i64 ((a.take ((A.map waQ).take k)).takeE [waQ q])) ∧ ∃ R2, RM wa R' w' ((a.take ((A.map waQ).take k)).take [waQ q]) R2 (jj + k + 1)) := by
                  have := (HTk.out.m.t.on HB3.out).write (by omega) q.b q.a q.x.length q.c q.x (HQ.out.2.2.on HB3.out) rfl (by rw [hv.2.2.2]; omega)
                  rw [hv.2.2.2] at this ⊢
                  rw [e1, e2, hr', HQb.out.1] at this
                  exact this
                clear e1 e2 hv
                obtain ⟨E, hE⟩ : ∃ E, (a.take ((A.map waQ).take k)).takeE [waQ q] = E := ⟨_, rfl⟩
                rw [hE] at HWr
                have HE : Hid ((a.take ((A.map waQ).take k)).takeE [waQ q] = E) := hE
                clear hE
                go_upto_region 24 with (go_at_call 126; refine HWr.out.mono ?_; rintro e w8 ⟨rfl, R2, hM⟩; have H8 : Hid (RM wa R' w8 ((a.take ((A.map waQ).take k)).take [waQ q]) R2 (jj + k + 1)) := hM; clear hM)
                clear d0 d1 d2
                by_cases hz : E = 0
                · have HN : Hid (Tk w7 a R jj A (some ⟨g7, 0, none⟩) w8 R2 (k + 1)) := HNx.out _ _ _ _ HB3.out H8.out rfl (by rw [HE.out]; exact hz)
                  subst hz
                  go_wp2
                  exact ⟨⟨k + 1, hlt, rfl, R2, HN.out⟩, by simp [intOf]; omega⟩
                · have HN : Hid (E = a.takeE (A.map waQ) ∧ RM w7 R w8 (a.take (A.map waQ)) R2 (jj + 198)) := by
                    have := HSt.out _ _ _ _ HB3.out H8.out rfl (by rw [HE.out]; exact hz)
                    rw [← HE.out]; exact this
                  go_wp2
                  go_ret
                  exact ⟨(by rw [← HE0.out, ← HN.out.1]; rfl), R2, by rw [← HE0.out]; exact HN.out.2.t, (below_fr HX.out.2.1 _).trans HN.out.2.fr (fun k e => .inl e), fun k e => (HN.out.2.al k e).imp id (fun e => Nat.le_trans HX.out.2.1.size e), HN.out.2.r⟩
              · have hkb : (qk == 1) = false := beq_eq_false_iff_ne.2 hkd
                obtain ⟨e1, e2⟩ := fE_take (a := a.take ((A.map waQ).take k)) (q := q) (by rw [HQb.out.2]; exact hkd)
                have HWr : Hid (Calls Tryz.prog 127 #[.pointer (some ⟨r, 0, none⟩)] wa fun e w' => e = .returned (.int .i64 ((a.take ((A.map waQ).take k)).takeE [waQ q])) ∧ ∃ R2, RM wa R' w' ((a.take ((A.map waQ).take k)).take [waQ q]) R2 (jj + k + 1)) := by
                  have := (HTk.out.m.t.on HB3.out).flush (by omega)
                  rw [e1, e2, hr'] at this
                  exact this
                clear e1 e2
                obtain ⟨E, hE⟩ : ∃ E, (a.take ((A.map waQ).take k)).takeE [waQ q] = E := ⟨_, rfl⟩
                rw [hE] at HWr
                have HE : Hid ((a.take ((A.map waQ).take k)).takeE [waQ q] = E) := hE
                clear hE
                go_upto_region 24 with (go_at_call 127; refine HWr.out.mono ?_; rintro e w8 ⟨rfl, R2, hM⟩; have H8 : Hid (RM wa R' w8 ((a.take ((A.map waQ).take k)).take [waQ q]) R2 (jj + k + 1)) := hM; clear hM)
                clear d0 d1 d2
                by_cases hz : E = 0
                · have HN : Hid (Tk w7 a R jj A (some ⟨g7, 0, none⟩) w8 R2 (k + 1)) := HNx.out _ _ _ _ HB3.out H8.out rfl (by rw [HE.out]; exact hz)
                  subst hz
                  go_wp2
                  exact ⟨⟨k + 1, hlt, rfl, R2, HN.out⟩, by simp [intOf]; omega⟩
                · have HN : Hid (E = a.takeE (A.map waQ) ∧ RM w7 R w8 (a.take (A.map waQ)) R2 (jj + 198)) := by
                    have := HSt.out _ _ _ _ HB3.out H8.out rfl (by rw [HE.out]; exact hz)
                    rw [← HE.out]; exact this
                  go_wp2
                  go_ret
                  exact ⟨(by rw [← HE0.out, ← HN.out.1]; rfl), R2, by rw [← HE0.out]; exact HN.out.2.t, (below_fr HX.out.2.1 _).trans HN.out.2.fr (fun k e => .inl e), fun k e => (HN.out.2.al k e).imp id (fun e => Nat.le_trans HX.out.2.1.size e), HN.out.2.r⟩
            · have hkN : k = N := by omega
              have HE : Hid (a.takeE (A.map waQ) = 0 ∧ RM w7 R wr (a.take (A.map waQ)) R' (jj + 198)) := by
                have e : (A.map waQ).take k = A.map waQ := List.take_of_length_le (by rw [List.length_map, HAl.out.1, hkN]; exact Nat.le_refl _)
                have hz := HTk.out.z
                have hm := HTk.out.m
                rw [e] at hz hm
                exact ⟨hz, hm.t.up (by omega), hm.fr, hm.al, hm.r⟩
              have HE0 : Hid (A.map waQ = commitA (nsG L) (dsG L)) := HAl.out.2.1
              go_wp2
              go_ret
              exact ⟨(by rw [← HE0.out, HE.out.1]; rfl), R', by rw [← HE0.out]; exact HE.out.2.t, (below_fr HX.out.2.1 _).trans HE.out.2.fr (fun k e => .inl e), fun k e => (HE.out.2.al k e).imp id (fun e => Nat.le_trans HX.out.2.1.size e), HE.out.2.r⟩
end Go.Proofs.YtflienghgobmoaaGreatDoor
