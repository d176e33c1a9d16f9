import Derived.Test.YtflienghgobmoaaGreatDoorKXsC
namespace Go.Proofs.YtflienghgobmoaaGreatDoor
open Go.RowKit Rec
theorem radd4 {w w3 wx w4 : World} {D : RDk} {q : ActR} {b cap : Nat} (h : RDisk w3 { D with wr := D.wr + 1 }) (hq : RAct w3 D.nb q) (hA : Below w3.heap.size w3 wx) (h1 : w4.ownsRow 0 177 3 (.slice (some ⟨b, 0, none⟩) (D.L.length + 1) cap) (D.L.length + 1) (D.L.flatMap ActR.cells ++ q.cells)) (h2 : Fr (fun k => D.av.ownBlock = some k) wx w4) (hl : D.L.length + 1 ≤ 1000000000000) (hw : Fr (fun k => k = D.r) w w3) :
    w4.heap[D.r]? = some (.cells ({ D with wr := D.wr + 1 } : RDk).cells 52 (0, 0)) ∧ RDisk (w4.setCell ⟨D.r, 1, none⟩ (.slice (some ⟨b, 0, none⟩) (D.L.length + 1) cap)) { D with wr := D.wr + 1, av := .slice (some ⟨b, 0, none⟩) (D.L.length + 1) cap, L := D.L ++ [q] } ∧ Fr (fun k => k = D.r ∨ D.av.ownBlock = some k) w (w4.setCell ⟨D.r, 1, none⟩ (.slice (some ⟨b, 0, none⟩) (D.L.length + 1) cap)) := by
  obtain ⟨a1, a2, a3⟩ := (h.on hA).add (q := q) (hq.on hA) h1 h2 hl
  exact ⟨a1, a2, ((hw.mono (fun k e => .inl e)).trans (below_fr hA (fun _ => False)) (fun _ e => e.elim)).trans a3 (fun k e => .inl e)⟩
theorem newsA (W : World) (P : Nat) (x y z : Value) (t : Nat) (h : W.heap[P]? = some (.cells #[x, y, z] t (0, 0))) (j : Nat) (u : Value) (hj : [x, y, z][j]? = some u) : W.cell? ((⟨P, 0, none⟩ : Addr).add j) = some u := by
  match j, hj with
  | 0, hj => cases hj; rw [Addr.add_lit, cell_of_row _ _ _ _ _ _ h]; rfl
  | 1, hj => cases hj; rw [Addr.add_lit, cell_of_row _ _ _ _ _ _ h]; rfl
  | 2, hj => cases hj; rw [Addr.add_lit, cell_of_row _ _ _ _ _ _ h]; rfl
/-- behind a write -/
def RWr (w : World) (D : RDk) (i : Int) (l : List Int) (w' : World) : Prop := ∃ b bc g cap, RDisk w' (RDk.goes { D with wr := D.wr + 1, av := .slice (some ⟨b, 0, none⟩) (D.L.length + 1) bc, L := D.L ++ [⟨1, i, some ⟨g, 0, none⟩, cap, l⟩] }) ∧ Fr (fun k => k = D.r ∨ D.av.ownBlock = some k) w w' ∧ (D.av.ownBlock = some b ∨ w.heap.size ≤ b) ∧ w.heap.size ≤ g
set_option maxRecDepth 100000 in
set_option maxHeartbeats 4000000 in
theorem rwrite_ok (w : World) (D : RDk) (h : RDisk w D) (ho : D.out = false) (i : Int) (a : Option Addr) (n c : Nat) (l : List Int) (hb : Bytes w a l) (hl : l.length = n) (h47 : n ≤ 140737488351232) (hi : 0 ≤ i ∧ i < D.nb) (h512 : n = 512) (hwr : -9223372036854775808 ≤ D.wr ∧ D.wr + 1 ≤ 9223372036854775807) (hL : D.L.length + 1 ≤ 1000000000000) (hlt : D.left ≤ 9223372036854775807) :
    Calls Tryz.prog 126 #[.pointer (some ⟨D.r, 0, none⟩), .int .i64 i, .slice a n c] w fun e w' => e = .returned (.int .i64 (if D.gone then 30 else 0)) ∧ RWr w D i l w' := by
  have c4 : w.cell? ⟨D.r, 4, none⟩ = some (.bool false) := by rw [h.cell 4, ← ho]; rfl
  have CC : Hid (Calls Tryz.prog 20 #[.slice a n c] w fun e w' => ∃ v cap, e = .returned (.slice v n cap) ∧ RwA w.heap.size w' v cap l ∧ Below w.heap.size w w') := copiedU w a n c l hb hl h47
  have HD : Hid (RDisk w D ∧ l.length = n) := ⟨h, hl⟩
  have hlen := hb.len
  clear h hb hl
  have HO : Hid (D.out = false) := ho
  have HN : Hid (n = 512 ∧ (0 ≤ i ∧ i < D.nb)) := ⟨h512, hi⟩
  clear h512 hi
  have hE : actE D.nb (wq i l) = 0 := by
    unfold actE wq
    rw [if_pos rfl, if_pos HN.out.2, if_pos (by rw [HD.out.2]; exact HN.out.1)]
  obtain ⟨aa, la, hav, _⟩ := owns_slice HD.out.1.acts
  go_enter Tryz.func126, Tryz.ntmps126
  go_upto_region 4 with (go_at_call 20; refine CC.out.mono ?_; rintro e w1 ⟨v, cap, rfl, h1, h2⟩; have H1 : Hid (RwA w.heap.size w1 v cap l ∧ Below w.heap.size w w1) := ⟨h1, h2⟩; clear h1 h2)
  obtain ⟨P, hP⟩ : ∃ P, w1.heap.size = P := ⟨_, rfl⟩
  obtain ⟨w2, hw2⟩ : ∃ w2, w1.alloc (.cells #[.int .i64 1, .int .i64 i, .slice v n cap] 177) = w2 := ⟨_, rfl⟩
  have H2 : Hid (Below w.heap.size w w2 ∧ w2.heap[P]? = some (.cells #[.int .i64 1, .int .i64 i, .slice v n cap] 177 (0, 0))) := by
    rw [← hw2, ← hP]; exact ⟨H1.out.2.alloc H1.out.2.size _, heap_alloc_new _ _⟩
  rw [hw2, hP]
  have hw2' := hw2
  clear hw2 hP
  have CB : Hid (∀ wx, Below w2.heap.size w2 wx → Calls Tryz.prog 79 #[.pointer (some ⟨D.r, 0, none⟩)] wx fun e w' => e = .returned (.int .i64 (D.nb : Int)) ∧ Below wx.heap.size wx w') := fun wx hb => rdblocks_any wx D ((HD.out.1.on H2.out.1).on hb)
  have CF : Hid (∀ wx, Calls Tryz.prog 159 #[.int .i64 (D.nb : Int), .agg #[.int .i64 1, .int .i64 i, .slice v n cap]] wx fun e w' => e = .returned (.int .i64 (actE D.nb (wq i l))) ∧ Below wx.heap.size wx w') := fun wx => by
    have hf := rfault_any wx D.nb ⟨1, i, v, cap, l⟩ HD.out.1.nb0.2 hlen
    rw [HD.out.2] at hf
    exact hf
  have HC : Hid (∀ wx, Below w2.heap.size w2 wx → wx.cell? ⟨P, 0, none⟩ = some (.int .i64 1) ∧ wx.cell? ⟨P, 1, none⟩ = some (.int .i64 i) ∧ wx.cell? ⟨P, 2, none⟩ = some (.slice v n cap)) := fun wx hb => by
    have hz := (hb.block P (heap_lt H2.out.2)).trans H2.out.2
    exact ⟨cell_of_row _ _ 0 _ _ _ hz, cell_of_row _ _ 1 _ _ _ hz, cell_of_row _ _ 2 _ _ _ hz⟩
  have x0 := HC.out w2 (Below.refl _ _)
  rw [hE] at CF
  clear hE CC
  have HB : Hid (Below w2.heap.size w2 w2.drew) := (Below.refl _ _).drew
  go_region_held3 (fun w' => w'.cell? ⟨P, 0, none⟩ = some (.int .i64 1) ∧ w'.cell? ⟨P, 1, none⟩ = some (.int .i64 i) ∧ w'.cell? ⟨P, 2, none⟩ = some (.slice v n cap)) (first | assumption | exact x0 | go_keep)
    (first
      | (go_at_call 79; refine (CB.out _ (by first | exact HB.out | exact Below.refl _ _)).mono ?_; rintro e u1 ⟨rfl, hb1⟩
         have G1 : Hid (Below w2.heap.size w2 u1) := (by first | exact HB.out.trans (hb1.mono HB.out.size) | exact hb1)
         have x1 := HC.out u1 G1.out
         clear hb1)
      | (go_at_call 159; refine (CF.out _).mono ?_; rintro e u2 ⟨rfl, hb2⟩
         have G2 : Hid (Below w2.heap.size w2 u2) := (by first | exact G1.out.trans (hb2.mono G1.out.size) | exact (G1.out.drew).trans (hb2.mono G1.out.size))
         have x2 := HC.out u2 G2.out
         clear hb2))
  obtain ⟨gb, rfl, hOb, hgb⟩ : ∃ gb, v = some ⟨gb, 0, none⟩ ∧ OwnB w1 gb cap l ∧ w.heap.size ≤ gb := by
    rcases H1.out.1 with ⟨e, _⟩ | ⟨g, e, ho, hge⟩
    · have := HD.out.2; have h5 := HN.out.1; rw [e] at this; simp at this; omega
    · exact ⟨g, e, ho, hge⟩
  have HGB : Hid (w.heap.size ≤ gb) := hgb
  clear hgb
  have HU : Hid (RDisk u2 D ∧ Below w.heap.size w u2 ∧ u2.heap[P]? = some (.cells #[.int .i64 1, .int .i64 i, .slice (some ⟨gb, 0, none⟩) n cap] 177 (0, 0))) := by
    have hbw : Below w.heap.size w u2 := H2.out.1.trans (G2.out.mono H2.out.1.size)
    exact ⟨HD.out.1.on hbw, hbw, (G2.out.block P (heap_lt H2.out.2)).trans H2.out.2⟩
  have c5 : u2.cell? ⟨D.r, 5, none⟩ = some (.int .i64 D.wr) := HU.out.1.cell 5
  have f5 := HU.out.1.frozen 5
  obtain ⟨p1, p2⟩ := HU.out.1.put (D' := { D with wr := D.wr + 1 }) 5 (.int .i64 (D.wr + 1)) rfl rfl rfl ⟨rfl, rfl, rfl⟩ ⟨rfl, rfl⟩ ⟨rfl, rfl⟩ HU.out.1.lft
  obtain ⟨w3, hw3⟩ : ∃ w3, u2.setCell ⟨D.r, 5, none⟩ (.int .i64 (D.wr + 1)) = w3 := ⟨_, rfl⟩
  rw [hw3] at p1 p2
  have hPr : P ≠ D.r := by
    intro e
    have h1 := HU.out.2.2
    rw [e, HU.out.1.box] at h1
    injection h1 with h1
    injection h1 with _ h2 _
    exact absurd h2 (by decide)
  have hz3 := p2.heap HU.out.2.2 hPr
  have y0 : w3.cell? ⟨P, 0, none⟩ = some (.int .i64 1) := cell_of_row _ _ 0 _ _ _ hz3
  have y1 : w3.cell? ⟨P, 1, none⟩ = some (.int .i64 i) := cell_of_row _ _ 1 _ _ _ hz3
  have y2 : w3.cell? ⟨P, 2, none⟩ = some (.slice (some ⟨gb, 0, none⟩) n cap) := cell_of_row _ _ 2 _ _ _ hz3
  have y3 : w3.cell? ⟨D.r, 1, none⟩ = some (.slice aa D.L.length la) := by rw [← hav]; exact p1.cell 1
  have H3 : Hid (RDisk w3 { D with wr := D.wr + 1 } ∧ Fr (fun k => k = D.r) w w3 ∧ OwnB w3 gb cap l) := by
    have hob : OwnB w3 gb cap l := by
      have h1 : OwnB u2 gb cap l := (hOb.on (by rw [← hw2']; exact (Below.refl _ _).alloc (Nat.le_refl _) _)).on G2.out
      exact ownB_fr h1 p2 (ownB_ne h1 HU.out.1.box (by decide))
    exact ⟨p1, (below_fr HU.out.2.1 (fun k => k = D.r)).trans p2 (fun k e => .inl e), hob⟩
  clear p1 p2 hz3 x0 x1 x2
  obtain ⟨i1, j1, j2, j3, j4⟩ := info_parts info36
  have HRow : Hid (w3.ownsRow 0 177 3 (.slice aa D.L.length la) D.L.length (D.L.flatMap ActR.cells)) := by
    have h1 := H3.out.1.acts
    have h2 : w3.ownsRow 0 177 3 D.av D.L.length (D.L.flatMap ActR.cells) := h1
    rw [hav] at h2; exact h2
  have HAct : Hid (RAct w3 D.nb ⟨1, i, some ⟨gb, 0, none⟩, cap, l⟩ ∧ l.length = n) := ⟨.inl ⟨rfl, HN.out.2.1, HN.out.2.2, by show l.length = 512; rw [HD.out.2]; exact HN.out.1, gb, rfl, H3.out.2.2⟩, HD.out.2⟩
  have HA1 : Hid (∀ o, Below w3.heap.size w3 (w3.drew.alloc o)) := fun o => (Below.refl w3.heap.size w3).drew.alloc (Nat.le_refl _) o
  have HA2 : Hid (∀ o, Below w3.heap.size w3 (w3.alloc o).drew) := fun o => ((Below.refl w3.heap.size w3).alloc (Nat.le_refl _) o).drew
  have HA3 : Hid (∀ o, Below w3.heap.size w3 (w3.drew.alloc o).drew) := fun o => (HA1.out o).drew
  have HA4 : Hid (∀ o, Below w3.heap.size w3 (w3.alloc o)) := fun o => ((Below.refl w3.heap.size w3).alloc (Nat.le_refl _) o)
  have y3a : (w3.alloc (.cells #[.int .i64 1, .int .i64 i, .slice (some ⟨gb, 0, none⟩) n cap] 177)).cell? ⟨D.r, 1, none⟩ = some (.slice aa D.L.length la) := (fr_alloc (fun _ => False) w3 _).cell y3 (fun e => e)
  have HV : Hid (D.av = .slice aa D.L.length la) := hav
  clear hav hOb hw2'
  go_upto_region 8 with fail
  clear hw3 c5 f5
  go_region_law
    (first
      | (refine step_own (by rfl) (.tmp 36) (.tmp 38) 49 (by rfl) 177 i1 _ 3 40 Tryz.underlying49 j1 j2 j3 j4 (by rfl) (by decide) (.slice aa D.L.length la) D.L.length (D.L.flatMap ActR.cells) (by rfl) (owns_fr HRow.out (below_fr (by first | exact HA1.out _ | exact HA2.out _ | exact HA3.out _ | exact HA4.out _) (fun _ => False)) (fun _ _ e => e)) ⟨w3.heap.size, 0, none⟩ 1 1 [.int .i64 1, .int .i64 i, .slice (some ⟨gb, 0, none⟩) n cap] (by rfl) (by decide) rfl (newsA _ _ _ _ _ _ (heap_alloc_new w3 _)) (by intro u hu; simp at hu; rcases hu with rfl | rfl | rfl <;> rfl) (by unfold maxLen; omega) (by omega) ?_
         intro b bc w4 h1 h2 h3
         have H4 : Hid (w4.heap[D.r]? = some (.cells ({ D with wr := D.wr + 1 } : RDk).cells 52 (0, 0)) ∧ RDisk (w4.setCell ⟨D.r, 1, none⟩ (.slice (some ⟨b, 0, none⟩) (D.L.length + 1) bc)) { D with wr := D.wr + 1, av := .slice (some ⟨b, 0, none⟩) (D.L.length + 1) bc, L := D.L ++ [⟨1, i, some ⟨gb, 0, none⟩, cap, l⟩] } ∧ Fr (fun k => k = D.r ∨ D.av.ownBlock = some k) w (w4.setCell ⟨D.r, 1, none⟩ (.slice (some ⟨b, 0, none⟩) (D.L.length + 1) bc))) := (by
           rw [← HV.out] at h2
           rw [← HAct.out.2] at h1
           first
           | exact radd4 H3.out.1 HAct.out.1 (HA1.out _) h1 h2 hL H3.out.2.1
           | exact radd4 H3.out.1 HAct.out.1 (HA2.out _) h1 h2 hL H3.out.2.1
           | exact radd4 H3.out.1 HAct.out.1 (HA3.out _) h1 h2 hL H3.out.2.1
           | exact radd4 H3.out.1 HAct.out.1 (HA4.out _) h1 h2 hL H3.out.2.1)
         have HBB : Hid (D.av.ownBlock = some b ∨ w.heap.size ≤ b) := (by rw [HV.out]; exact h3.imp id (fun e => Nat.le_trans H3.out.2.1.size (by first | exact Nat.le_trans (HA1.out _).size e | exact Nat.le_trans (HA2.out _).size e | exact Nat.le_trans (HA3.out _).size e | exact Nat.le_trans (HA4.out _).size e)))
         have d1 : w4.cell? ⟨D.r, 1, none⟩ = some D.av := cell_of_row _ _ 1 _ _ _ H4.out.1
         have e1 : w4.frozen? ⟨D.r, 1, none⟩ = false := frozen_of_row _ _ 1 _ _ H4.out.1
         clear h1 h2 h3 y0 y1 y2 y3 y3a))
  all_goals
    obtain ⟨w5, hw5⟩ : ∃ w5, w4.setCell ⟨D.r, 1, none⟩ (.slice (some ⟨b, 0, none⟩) (D.L.length + 1) bc) = w5 := ⟨_, rfl⟩
    rw [hw5] at H4 ⊢
    obtain ⟨D5, hD5⟩ : ∃ D5 : RDk, ({ D with wr := D.wr + 1, av := .slice (some ⟨b, 0, none⟩) (D.L.length + 1) bc, L := D.L ++ [⟨1, i, some ⟨gb, 0, none⟩, cap, l⟩] } : RDk) = D5 := ⟨_, rfl⟩
    have HG : Hid (Calls Tryz.prog 160 #[.pointer (some ⟨D.r, 0, none⟩)] w5 fun e w' => e = .returned (.bool D.gone) ∧ RDisk w' D5.goes ∧ Fr (fun k => k = D.r) w5 w') := by
      have h1 := rgoes_any w5 _ H4.out.2.1 HO.out hlt
      rw [hD5] at h1
      have e1 : D5.r = D.r := by rw [← hD5]
      have e2 : D5.gone = D.gone := by rw [← hD5]; rfl
      rw [e1, e2] at h1
      exact h1
    have HF : Hid (Fr (fun k => k = D.r ∨ D.av.ownBlock = some k) w w5) := H4.out.2.2
    clear H4 d1 e1 hw5
    cases hgo : D.gone
    · rw [hgo] at HG
      go_wp2_with (go_at_call 160; refine HG.out.mono ?_; rintro e w6 ⟨rfl, h1, h2⟩; have H6 : Hid (RDisk w6 D5.goes ∧ Fr (fun k => k = D.r) w5 w6) := ⟨h1, h2⟩; clear h1 h2)
      all_goals
        go_ret
        have h6 := H6.out.1
        rw [← hD5] at h6
        exact ⟨rfl, b, bc, gb, cap, h6, HF.out.trans H6.out.2 (fun k e => .inl (.inl e)), HBB.out, HGB.out⟩
    · rw [hgo] at HG
      go_wp2_with (go_at_call 160; refine HG.out.mono ?_; rintro e w6 ⟨rfl, h1, h2⟩; have H6 : Hid (RDisk w6 D5.goes ∧ Fr (fun k => k = D.r) w5 w6) := ⟨h1, h2⟩; clear h1 h2)
      all_goals
        go_ret
        have h6 := H6.out.1
        rw [← hD5] at h6
        exact ⟨rfl, b, bc, gb, cap, h6, HF.out.trans H6.out.2 (fun k e => .inl (.inl e)), HBB.out, HGB.out⟩
end Go.Proofs.YtflienghgobmoaaGreatDoor

namespace Go.Proofs.YtflienghgobmoaaGreatDoor
open Go.RowKit Rec
set_option maxRecDepth 100000 in
set_option maxHeartbeats 1600000 in
theorem rflush_out (w : World) (D : RDk) (h : RDisk w D) (ho : D.out = true) : Calls Tryz.prog 127 #[.pointer (some ⟨D.r, 0, none⟩)] w fun e w' => e = .returned (.int .i64 30) ∧ w = w' := by
  have c4 : w.cell? ⟨D.r, 4, none⟩ = some (.bool true) := by rw [h.cell 4, ← ho]; rfl
  clear h
  go_enter Tryz.func127, Tryz.ntmps127
  go_wp2
  go_ret
  exact ⟨rfl, rfl⟩
/-- an act of a flush -/
def fq : ActR := ⟨2, 0, none, 0, []⟩
set_option maxRecDepth 100000 in
set_option maxHeartbeats 4000000 in
theorem rflush_gone (w : World) (D : RDk) (h : RDisk w D) (ho : D.out = false) (hg : D.gone = true) (hfl : -9223372036854775808 ≤ D.fl ∧ D.fl + 1 ≤ 9223372036854775807) (hlt : D.left ≤ 9223372036854775807) :
    Calls Tryz.prog 127 #[.pointer (some ⟨D.r, 0, none⟩)] w fun e w' => e = .returned (.int .i64 30) ∧ RDisk w' (RDk.goes { D with fl := D.fl + 1 }) ∧ Fr (fun k => k = D.r) w w' := by
  have c4 : w.cell? ⟨D.r, 4, none⟩ = some (.bool false) := by rw [h.cell 4, ← ho]; rfl
  have c6 : w.cell? ⟨D.r, 6, none⟩ = some (.int .i64 D.fl) := h.cell 6
  have f6 := h.frozen 6
  obtain ⟨p1, p2⟩ := h.put (D' := { D with fl := D.fl + 1 }) 6 (.int .i64 (D.fl + 1)) rfl rfl rfl ⟨rfl, rfl, rfl⟩ ⟨rfl, rfl⟩ ⟨rfl, rfl⟩ h.lft
  obtain ⟨w3, hw3⟩ : ∃ w3, w.setCell ⟨D.r, 6, none⟩ (.int .i64 (D.fl + 1)) = w3 := ⟨_, rfl⟩
  rw [hw3] at p1 p2
  have HG : Hid (Calls Tryz.prog 160 #[.pointer (some ⟨D.r, 0, none⟩)] w3 fun e w' => e = .returned (.bool true) ∧ RDisk w' (RDk.goes { D with fl := D.fl + 1 }) ∧ Fr (fun k => k = D.r) w w') := by
    refine (rgoes_any w3 _ p1 ho hlt).mono ?_
    rintro e w' ⟨rfl, h1, h2⟩
    refine ⟨?_, h1, p2.trans h2 (fun k e => .inl e)⟩
    have e2 : RDk.gone { D with fl := D.fl + 1 } = D.gone := rfl
    rw [e2, hg]
  obtain ⟨D5, hD5⟩ : ∃ D5 : RDk, RDk.goes { D with fl := D.fl + 1 } = D5 := ⟨_, rfl⟩
  rw [hD5] at HG ⊢
  clear h p1 p2 hg ho hD5
  go_enter Tryz.func127, Tryz.ntmps127
  go_wp2_with (go_at_call 160; refine HG.out.mono ?_; rintro e w6 ⟨rfl, h1, h2⟩; have H6 : Hid (RDisk w6 D5 ∧ Fr (fun k => k = D.r) w w6) := ⟨h1, h2⟩; clear h1 h2)
  go_ret
  exact ⟨rfl, H6.out⟩
theorem fadd {w w6 wx w7 : World} {D D5 : RDk} {r nL la b bc : Nat} {aa : Option Addr} (h6 : RDisk w6 D5) (f6 : Fr (fun k => k = r) w w6) (e1 : D5.av = .slice aa nL la) (e2 : D5.r = r) (e3 : D5.L = D.L) (e4 : D.av = .slice aa nL la) (e5 : D.L.length = nL) (ha : Below w6.heap.size w6 wx)
    (h1 : w7.ownsRow 0 177 3 (.slice (some ⟨b, 0, none⟩) (nL + 1) bc) (nL + 1) (D.L.flatMap ActR.cells ++ [.int .i64 2, .int .i64 0, .slice none 0 0])) (h2 : Fr (fun k => (Value.slice aa nL la).ownBlock = some k) wx w7) (hL : nL + 1 ≤ 1000000000000) :
    w7.heap[r]? = some (.cells D5.cells 52 (0, 0)) ∧ RDisk (w7.setCell ⟨r, 1, none⟩ (.slice (some ⟨b, 0, none⟩) (nL + 1) bc)) { D5 with av := .slice (some ⟨b, 0, none⟩) (nL + 1) bc, L := D.L ++ [fq] } ∧ Fr (fun k => k = r ∨ D.av.ownBlock = some k) w (w7.setCell ⟨r, 1, none⟩ (.slice (some ⟨b, 0, none⟩) (nL + 1) bc)) := by
  subst e2
  have hl5 : D5.L.length = nL := by rw [e3]; exact e5
  subst hl5
  rw [← e3] at h1 ⊢
  rw [← e1] at h2
  obtain ⟨g1, g2, g3⟩ := (h6.on ha).add (q := fq) (b := b) (cap := bc) (w1 := w7) (.inr ⟨rfl, rfl, rfl, rfl, rfl⟩) h1 h2 hL
  rw [e4, ← e1]
  exact ⟨g1, g2, ((f6.mono (fun k e => .inl e)).trans (below_fr ha (fun _ => False)) (fun _ e => e.elim)).trans g3 (fun k e => .inl e)⟩
/-- behind a flush -/
def RFlu (w : World) (D : RDk) (w' : World) : Prop := ∃ b bc, RDisk w' { (RDk.goes { D with fl := D.fl + 1 }) with av := .slice (some ⟨b, 0, none⟩) (D.L.length + 1) bc, L := D.L ++ [fq] } ∧ Fr (fun k => k = D.r ∨ D.av.ownBlock = some k) w w' ∧ (D.av.ownBlock = some b ∨ w.heap.size ≤ b)
set_option maxRecDepth 100000 in
set_option maxHeartbeats 4000000 in
theorem rflush_ok (w : World) (D : RDk) (h : RDisk w D) (ho : D.out = false) (hg : D.gone = false) (hfl : -9223372036854775808 ≤ D.fl ∧ D.fl + 1 ≤ 9223372036854775807) (hlt : D.left ≤ 9223372036854775807) (hL : D.L.length + 1 ≤ 1000000000000) :
    Calls Tryz.prog 127 #[.pointer (some ⟨D.r, 0, none⟩)] w fun e w' => e = .returned (.int .i64 0) ∧ RFlu w D w' := by
  unfold RFlu
  have c4 : w.cell? ⟨D.r, 4, none⟩ = some (.bool false) := by rw [h.cell 4, ← ho]; rfl
  have c6 : w.cell? ⟨D.r, 6, none⟩ = some (.int .i64 D.fl) := h.cell 6
  have f6 := h.frozen 6
  obtain ⟨p1, p2⟩ := h.put (D' := { D with fl := D.fl + 1 }) 6 (.int .i64 (D.fl + 1)) rfl rfl rfl ⟨rfl, rfl, rfl⟩ ⟨rfl, rfl⟩ ⟨rfl, rfl⟩ h.lft
  obtain ⟨w3, hw3⟩ : ∃ w3, w.setCell ⟨D.r, 6, none⟩ (.int .i64 (D.fl + 1)) = w3 := ⟨_, rfl⟩
  rw [hw3] at p1 p2
  obtain ⟨D5, hD5⟩ : ∃ D5 : RDk, RDk.goes { D with fl := D.fl + 1 } = D5 := ⟨_, rfl⟩
  have hD6 : D5.r = D.r ∧ D5.av = D.av ∧ D5.L = D.L ∧ D5.nb = D.nb := by
    rw [← hD5]; unfold RDk.goes
    split <;> exact ⟨rfl, rfl, rfl, rfl⟩
  have HG : Hid (Calls Tryz.prog 160 #[.pointer (some ⟨D.r, 0, none⟩)] w3 fun e w' => e = .returned (.bool false) ∧ RDisk w' D5 ∧ Fr (fun k => k = D.r) w w') := by
    refine (rgoes_any w3 _ p1 ho hlt).mono ?_
    rintro e w' ⟨rfl, h1, h2⟩
    rw [hD5] at h1
    refine ⟨?_, h1, p2.trans h2 (fun k e => .inl e)⟩
    have e2 : RDk.gone { D with fl := D.fl + 1 } = D.gone := rfl
    rw [e2, hg]
  obtain ⟨aa, la, hav, _⟩ := owns_slice h.acts
  obtain ⟨r, hr⟩ : ∃ r, D.r = r := ⟨_, rfl⟩
  obtain ⟨nL, hnL⟩ : ∃ nL, D.L.length = nL := ⟨_, rfl⟩
  rw [hr] at c4 c6 f6 hw3 HG
  rw [hD5, hr]
  rw [hr] at hD6
  rw [hnL] at hav hL ⊢
  have HV : Hid (D5.av = .slice aa nL la ∧ D5.r = r ∧ D5.L = D.L ∧ D.av = .slice aa nL la ∧ D.L.length = nL) := ⟨by rw [hD6.2.1, hav], hD6.1, hD6.2.2.1, hav, hnL⟩
  clear h p1 p2 hg ho hD5 hD6 hav hr hnL
  obtain ⟨i1, j1, j2, j3, j4⟩ := info_parts info36
  go_enter Tryz.func127, Tryz.ntmps127
  go_upto_region 7 with (go_at_call 160; refine HG.out.mono ?_; rintro e w6 ⟨rfl, h1, h2⟩; have H6 : Hid (RDisk w6 D5 ∧ Fr (fun k => k = r) w w6) := ⟨h1, h2⟩; clear h1 h2)
  have y1 : w6.cell? ⟨r, 1, none⟩ = some (.slice aa nL la) := by rw [← HV.out.1, ← HV.out.2.1]; exact H6.out.1.cell 1
  have HRow : Hid (w6.ownsRow 0 177 3 (.slice aa nL la) nL (D.L.flatMap ActR.cells)) := by
    have h1 := H6.out.1.acts
    rw [HV.out.1, HV.out.2.2.1, HV.out.2.2.2.2] at h1; exact h1
  have ha : Below w6.heap.size w6 (w6.alloc (.cells #[.int .i64 2, .int .i64 0, .slice none 0 0] 177)) := (Below.refl _ _).alloc (Nat.le_refl _) _
  go_wp2_with (at_builtin; refine wp_own rfl (.tmp 22) (.tmp 24) 49 rfl 177 i1 _ 3 40 Tryz.underlying49 j1 j2 j3 j4 rfl (by decide) (.slice aa nL la) nL (D.L.flatMap ActR.cells) rfl (owns_fr HRow.out (below_fr ha (fun _ => False)) (fun _ _ e => e)) ⟨w6.heap.size, 0, none⟩ 1 1 [.int .i64 2, .int .i64 0, .slice none 0 0] rfl (by decide) rfl (newsA _ _ _ _ _ _ (heap_alloc_new w6 _)) (by intro u hu; simp at hu; rcases hu with rfl | rfl | rfl <;> rfl) (by unfold maxLen; omega) (by omega) ?_
               intro b bc w7 h1 h2 h3
               have H7 : Hid (w7.heap[r]? = some (.cells D5.cells 52 (0, 0)) ∧ RDisk (w7.setCell ⟨r, 1, none⟩ (.slice (some ⟨b, 0, none⟩) (nL + 1) bc)) { D5 with av := .slice (some ⟨b, 0, none⟩) (nL + 1) bc, L := D.L ++ [fq] } ∧ Fr (fun k => k = r ∨ D.av.ownBlock = some k) w (w7.setCell ⟨r, 1, none⟩ (.slice (some ⟨b, 0, none⟩) (nL + 1) bc))) := fadd H6.out.1 H6.out.2 HV.out.1 HV.out.2.1 HV.out.2.2.1 HV.out.2.2.2.1 HV.out.2.2.2.2 ha h1 h2 hL
               have HBB : Hid (D.av.ownBlock = some b ∨ w.heap.size ≤ b) := (by rw [HV.out.2.2.2.1]; exact h3.imp id (fun e => Nat.le_trans (Nat.le_trans H6.out.2.size ha.size) e))
               have d1 : w7.cell? ⟨r, 1, none⟩ = some D5.av := cell_of_row _ _ 1 _ _ _ H7.out.1
               have e1 : w7.frozen? ⟨r, 1, none⟩ = false := frozen_of_row _ _ 1 _ _ H7.out.1
               clear h1 h2 h3)
  go_ret
  exact ⟨rfl, b, bc, H7.out.2.1, H7.out.2.2, HBB.out⟩
end Go.Proofs.YtflienghgobmoaaGreatDoor

namespace Go.Proofs.YtflienghgobmoaaGreatDoor
open Go.RowKit Rec
set_option maxRecDepth 100000 in
theorem app_zeroZ (w : World) (a : Option Addr) (c : Nat) : (Builtin.append_ #[50, 50] 50 #[.slice none 0 0, .slice a 0 c]).run Tryz.prog w = .ok (.slice none 0 0) w := by
  obtain ⟨i0, hi, hz0, hz1, hz2⟩ := info_parts infoBo
  cases a <;> simp [Builtin.append_, run_underlying Tryz.underlying50, sizeOf, typeInfo, hi, Builtin.lenOf, Builtin.firstCells, loadCells, loadCellsFrom]
theorem wp_zeroZ {ops : Array Oper} {rest : List Oper} {o : Oper} {a : Act} {Q : Exit → Act → World → Prop} {w : World} (hgd : o.guard = none) (s x : Operand)
    (ho : o.op = .call { callee := .builtin .append, args := #[s, x], argTypes := #[50, 50] }) (hty : o.type = 50) (hs : a.eval s = .slice none 0 0) (ad : Option Addr) (c : Nat) (hx : a.eval x = .slice ad 0 c)
    (h : wpList Tryz.prog ops Q rest (a.put o.dst (.slice none 0 0)) w) : wpList Tryz.prog ops Q (o :: rest) a w := by
  refine wpList_plain hgd fun K hK => ?_
  unfold Oper.wp execOp
  simp only [ho, hty, resolve, invoke, builtin, Sem.run_bind, Sem.run_pure, Result.andThen_ok, List.map_toArray, List.map_cons, List.map_nil, hs, hx, app_zeroZ w ad c]
  exact hK _ _ h
set_option maxRecDepth 100000 in
set_option maxHeartbeats 1600000 in
/-- marks of one's own -/
theorem rmarks_any (w : World) (ka : Option Addr) (kn kc : Nat) (keep : List Bool) (hk : Bools w (.slice ka kn kc) keep) (hkn : keep.length = kn) (h47 : kn ≤ 140737488351232) :
    Calls Tryz.prog 88 #[.slice ka kn kc] w fun e w' => ∃ v c, e = .returned (.slice v kn c) ∧ w'.ownsRow 0 4 1 (.slice v kn c) kn (keep.map Value.bool) ∧ (∀ b, (Value.slice v kn c).ownBlock = some b → w.heap.size ≤ b) ∧ Below w.heap.size w w' := by
  by_cases h0 : kn = 0
  · subst h0
    have e : keep = [] := List.eq_nil_of_length_eq_zero hkn
    subst e
    clear hk hkn
    go_enter Tryz.func88, Tryz.ntmps88
    go_wp2_with (at_builtin; refine wp_zeroZ rfl (.tmp 4) (.tmp 5) rfl rfl rfl ka kc rfl ?_)
    go_ret
    refine ⟨none, 0, rfl, ⟨rfl, .inl ⟨rfl, rfl⟩⟩, fun b e => ?_, Below.refl _ _⟩
    cases e
  · obtain ⟨b, off, rfl, hc⟩ : ∃ b off, ka = some ⟨b, off, none⟩ ∧ ∀ i x, keep[i]? = some x → w.cell? ⟨b, off + i, none⟩ = some (.bool x) := by
      obtain ⟨a, c, e, h⟩ := hk
      cases e
      rcases h with h | h
      · exact absurd (by rw [h]; rfl) h0
      · exact h
    obtain ⟨i0, hi, hz0, hz1, hz2⟩ := info_parts infoBo
    have HC : Hid (∀ j u, (keep.map Value.bool)[j]? = some u → w.cell? ((⟨b, off, none⟩ : Addr).add j) = some u) := fun j u hj => by
      rw [List.getElem?_map] at hj
      cases hx : keep[j]? with
      | none => rw [hx] at hj; cases hj
      | some x => rw [hx] at hj; cases hj; rw [Addr.add_lit]; exact hc j x hx
    have HL : Hid (keep.length = kn) := hkn
    clear hk hc hkn
    go_enter Tryz.func88, Tryz.ntmps88
    go_wp2_with (at_builtin; refine wp_own rfl (.tmp 4) (.tmp 5) 50 rfl 4 i0 _ 1 1 Tryz.underlying50 hi hz0 hz1 hz2 rfl (by decide) (.slice none 0 0) 0 [] rfl ⟨rfl, .inl ⟨rfl, rfl⟩⟩ ⟨b, off, none⟩ kn kc (keep.map Value.bool) rfl (by omega) (by rw [List.length_map, HL.out, Nat.mul_one]) HC.out (by intro u hu; rcases List.mem_map.1 hu with ⟨x, _, rfl⟩; rfl) (by unfold maxLen; omega) (by omega) ?_
                 intro g cap w2 h1 h2 h3
                 have H2 : Hid (w2.ownsRow 0 4 1 (.slice (some ⟨g, 0, none⟩) kn cap) kn (keep.map Value.bool) ∧ w.heap.size ≤ g ∧ Below w.heap.size w w2) := (by
                   rw [Nat.zero_add, List.nil_append] at h1
                   exact ⟨h1, h3.elim (fun e => by cases e) id, h2.below _ (fun k e => by cases e) (Nat.le_refl _)⟩)
                 clear h1 h2 h3)
    go_ret
    refine ⟨some ⟨g, 0, none⟩, cap, by first | rfl | (rw [Nat.zero_add]; rfl), H2.out.1, fun b e => ?_, H2.out.2.2⟩
    cases e
    exact H2.out.2.1
/-- other marks in its box -/
theorem RDisk.putK {w : World} {D : RDk} {v : Value} {K : List Bool} (h : RDisk w D) (hv : w.ownsRow 0 4 1 v K.length (K.map Value.bool)) : RDisk (w.setCell ⟨D.r, 2, none⟩ v) { D with kv := v, keep := K } ∧ Fr (fun k => k = D.r) w (w.setCell ⟨D.r, 2, none⟩ v) := by
  have x : Fr (fun k => k = D.r) w (w.setCell ⟨D.r, 2, none⟩ v) := Fr.set
  have hB : ∀ g c l, OwnB w g c l → ¬ g = D.r := fun g c l ho => ownB_ne ho h.box (by decide)
  exact ⟨⟨heap_setCell_same _ _ _ _ _ _ h.box, ownB_fr h.first x (hB _ _ _ h.first), h.flen, h.nb0, owns_fr h.acts x (fun k hk e => own_apartX h.acts h.box (by decide) (by rw [hk, e])), fun q hq => (h.each q hq).fr x hB, owns_fr hv x (fun k hk e => own_apartX hv h.box (by decide) (by rw [hk, e])), h.llen, h.lft⟩, x⟩
set_option maxRecDepth 100000 in
set_option maxHeartbeats 1600000 in
theorem rcrash_out (w : World) (D : RDk) (h : RDisk w D) (ho : D.out = true) (v : Value) : Calls Tryz.prog 45 #[.pointer (some ⟨D.r, 0, none⟩), v] w fun e w' => e = .returned (.tuple #[]) ∧ w = w' := by
  have c4 : w.cell? ⟨D.r, 4, none⟩ = some (.bool true) := by rw [h.cell 4, ← ho]; rfl
  clear h
  go_enter Tryz.func45, Tryz.ntmps45
  go_wp2
  (try simp only [Exit.inBlock, Exit.then])
  refine bodyPost_ret (results_none rfl _ _ _) rfl ?_
  exact ⟨rfl, rfl⟩
/-- behind a power cut -/
def RCr (w : World) (D : RDk) (kn : Nat) (keep : List Bool) (w' : World) : Prop := ∃ v c, RDisk w' { D with out := true, kv := .slice v kn c, keep := keep } ∧ Fr (fun k => k = D.r) w w' ∧ ∀ b, (Value.slice v kn c).ownBlock = some b → w.heap.size ≤ b
end Go.Proofs.YtflienghgobmoaaGreatDoor

namespace Go.Proofs.YtflienghgobmoaaGreatDoor
open Go.RowKit Rec
end Go.Proofs.YtflienghgobmoaaGreatDoor

namespace Go.Proofs.YtflienghgobmoaaGreatDoor
open Go.RowKit Rec
set_option maxRecDepth 100000 in
set_option maxHeartbeats 4000000 in
theorem rcrash_anyE (w : World) (D : RDk) (h : RDisk w D) (ho : D.out = false) (ka : Option Addr) (kn kc : Nat) (keep : List Bool) (hk : Bools w (.slice ka kn kc) keep) (hkn : keep.length = kn) (h47 : kn ≤ 140737488351232) (hkr : keep ≠ [] → ∀ b off, ka = some ⟨b, off, none⟩ → b ≠ D.r) :
    Calls Tryz.prog 45 #[.pointer (some ⟨D.r, 0, none⟩), .slice ka kn kc] w fun e w' => e = .returned (.tuple #[]) ∧ RCr w D kn keep w' := by
  have c4 : w.cell? ⟨D.r, 4, none⟩ = some (.bool false) := by rw [h.cell 4, ← ho]; rfl
  have f4 := h.frozen 4
  obtain ⟨p1, p2⟩ := h.put (D' := { D with out := true }) 4 (.bool true) rfl rfl rfl ⟨rfl, rfl, rfl⟩ ⟨rfl, rfl⟩ ⟨rfl, rfl⟩ h.lft
  obtain ⟨w1, hw1⟩ : ∃ w1, w.setCell ⟨D.r, 4, none⟩ (.bool true) = w1 := ⟨_, rfl⟩
  rw [hw1] at p1 p2
  have hk1 : Bools w1 (.slice ka kn kc) keep := by
    obtain ⟨a, c, e, hh⟩ := hk
    cases e
    refine ⟨ka, kc, rfl, ?_⟩
    rcases hh with hh | ⟨b, off, e2, hc⟩
    · exact .inl hh
    · refine .inr ⟨b, off, e2, fun i x hi => p2.cell (hc i x hi) (fun e3 => hkr (fun z => by rw [z] at hi; simp at hi) b off e2 e3)⟩
  have CM : Hid (Calls Tryz.prog 88 #[.slice ka kn kc] w1 fun e w' => ∃ v c, e = .returned (.slice v kn c) ∧ w'.ownsRow 0 4 1 (.slice v kn c) kn (keep.map Value.bool) ∧ (∀ b, (Value.slice v kn c).ownBlock = some b → w1.heap.size ≤ b) ∧ Below w1.heap.size w1 w') := rmarks_any w1 ka kn kc keep hk1 hkn h47
  have H1 : Hid (RDisk w1 { D with out := true } ∧ Fr (fun k => k = D.r) w w1 ∧ keep.length = kn) := ⟨p1, p2, hkn⟩
  clear h hk hk1 hkn p1 p2 ho hkr
  go_enter Tryz.func45, Tryz.ntmps45
  go_wp2_with (go_at_call 88; refine CM.out.mono ?_; rintro e w2 ⟨v, vc, rfl, h1, h2, h3⟩
               have H2 : Hid (RDisk (w2.setCell ⟨D.r, 2, none⟩ (.slice v kn vc)) { D with out := true, kv := .slice v kn vc, keep := keep } ∧ Fr (fun k => k = D.r) w (w2.setCell ⟨D.r, 2, none⟩ (.slice v kn vc)) ∧ w2.heap[D.r]? = some (.cells ({ D with out := true } : RDk).cells 52 (0, 0)) ∧ ∀ b, (Value.slice v kn vc).ownBlock = some b → w.heap.size ≤ b) := (by
                 have hd := H1.out.1.on h3
                 have h1' := h1
                 rw [← H1.out.2.2] at h1'
                 obtain ⟨g1, g2⟩ := hd.putK (v := .slice v keep.length vc) (K := keep) h1'
                 rw [H1.out.2.2] at g1 g2
                 exact ⟨g1, (H1.out.2.1.trans (below_fr h3 (fun _ => False)) (fun _ e => e.elim)).trans g2 (fun k e => .inl e), hd.box, fun b e => Nat.le_trans H1.out.2.1.size (h2 b e)⟩)
               have d2 : w2.cell? ⟨D.r, 2, none⟩ = some D.kv := cell_of_row _ _ 2 _ _ _ H2.out.2.2.1
               have e2 : w2.frozen? ⟨D.r, 2, none⟩ = false := frozen_of_row _ _ 2 _ _ H2.out.2.2.1
               clear h1 h2 h3)
  go_end0
  exact ⟨rfl, v, vc, H2.out.1, H2.out.2.1, H2.out.2.2.2⟩
end Go.Proofs.YtflienghgobmoaaGreatDoor
