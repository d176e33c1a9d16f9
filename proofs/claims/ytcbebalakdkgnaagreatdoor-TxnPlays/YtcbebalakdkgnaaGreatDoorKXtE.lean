import Derived.Test.YtcbebalakdkgnaaGreatDoorKXtC
import Derived.BigQuiet
import Derived.Test.YtcbebalakdkgnaaGreatDoorKKbF
namespace Go.Proofs.YtcbebalakdkgnaaGreatDoor
open Go.RowKit Rec
variable {w0 w w1 wx w2 w' : World} {P j j' : Nat} {D D' : Dk} {R R' : RDk} {T T' : Tx} {U U' : RTx} {K K' : Kb} {row' : List Dn} {c2 c3 : Value}
theorem fresh_dk (d L nw capL nb : Nat) (l : List Int) (hn : l.length = 512 * nb) : Fresh (newDk d L nw capL nb l).abs nb l := ⟨rfl, rfl, rfl, rfl, rfl, hn, rfl, rfl, rfl, rfl⟩
theorem rc_fresh {a : AD} {nb : Nat} {l W : List Int} (hF : Fresh a nb l) (hW : Well nb W l) (h98 : 98 ≤ nb) : rcE a = 0 ∧ (rcT a).las = behind l nb := by
  have hfl : a.full = l := by rw [AD.full_fw, hF.pen, hF.las]; rfl
  have ho : opE a = 0 := by unfold opE; rw [hF.down, hfl, hF.size]; exact hW.ok
  unfold rcE rcT rcX
  rw [if_pos ho, if_pos ho, hfl, hF.size]
  by_cases h0 : logN l nb = []
  · rw [if_pos h0, if_pos h0]
    exact ⟨rfl, by rw [hF.las, behind_empty hF.len h98 (log_nil hF.len h98 hW.ok h0)]⟩
  · rw [if_neg h0, if_neg h0]
    obtain ⟨y1, y2, _⟩ := hF.home
    exact ⟨y1, y2⟩
/-- a new disk's image is at rest -/
theorem rs_new (d L nw capL nb : Nat) (l : List Int) (hn : l.length = 512 * nb) (h1 : bck l 1 = zs) : Rs (newDk d L nw capL nb l).abs := ⟨hn, rfl, fun _ => h1, fun e => by cases e⟩
/-- the document's Behind, either way -/
theorem r6behind_any (w : World) (g c nb : Nat) (a : AD) (hR : Rs a) (hd : a.down = true) (hnb : a.nb = nb) (h16 : nb ≤ 16384) (hO : OwnB w g c a.las) : Calls Tryz.prog 54 #[.slice (some ⟨g, 0, none⟩) (512 * nb) c] w fun e w' => ∃ g' cap', e = .returned (.slice (some ⟨g', 0, none⟩) (512 * nb) cap') ∧ OwnB w' g' cap' (behind a.las nb) ∧ w.heap.size ≤ g' ∧ Below w.heap.size w w' := by
  have h98 := hR.nb98 hd
  have hl : a.las.length = 512 * nb := by rw [hR.len, hnb]
  rcases hR.behind hd hO.wf with ⟨h0, hb⟩ | ⟨k, hG, hb⟩
  · rw [hnb] at hb
    refine (r6behind_nil w g 0 c nb a.las hO.bytes hl (by omega) h16 (.inr h0)).mono ?_
    rintro e w' ⟨v, rfl, hv⟩
    obtain ⟨g', c', rfl, _⟩ := hv.addr hl (by omega)
    exact ⟨g', c', rfl, by rw [hb]; exact ownB_of (hv.row hl) hl (by omega) hv.wf, hv.o.far g' rfl, hv.o.bel⟩
  · rw [hnb] at hb hG
    refine (r6behind_log w g 0 c nb k a.las hO.bytes hl h16 (by have := hO.room; omega) hG).mono ?_
    rintro e w' ⟨g', c', rfl, h1, h2, h3⟩
    exact ⟨g', c', rfl, by rw [← hb]; exact h1, h2, h3⟩
theorem XB.renew (h : XB w0 w P D R K j c2 c3) (f : Below w.heap.size w w1) (n : NewW w w1 D' R' (200 * j')) (hrs : Rs D'.abs) (hj : j ≤ j') (hb : Fr (fun k => k = P) w1 w2) (hp : w2.heap[P]? = some (.cells #[.pointer (some ⟨D'.d, 0, none⟩), .pointer (some ⟨R'.r, 0, none⟩), c2, c3] 35 (0, 0))) : XB w0 w2 P D' R' K j' c2 c3 := by
  have hP : P < w.heap.size := h.lt 5 P rfl
  have hnP : ∀ k, D'.all k ∨ R'.all k → ¬ k = P := fun k e e2 => by have := n.nd k e; omega
  have hw0 := h.ws.be.size
  refine ⟨⟨n.d.fr hb (fun k e => hnP k (.inl e)), n.t.fr hb (fun k e => hnP k (.inr e)), n.ap, fun k e => Nat.le_trans hw0 (n.nd k e), (h.ws.be.trans (f.mono hw0)).trans (hb.below _ (fun k e => by rw [e]; exact h.far 5 P rfl) (Nat.le_trans hw0 f.size)), n.kd⟩, hrs, (h.bk.on f).fr hb (fun k e e2 => h.sep.ne (i := 4) (j := 5) (by omega) e e2), by have := h.bn; omega, by have := h.im; omega, hp, h.sep.step (fun k => w.heap.size ≤ k) (fun i k e => ?_) (fun i i' k hk e e' => ?_), fun i k e => ?_⟩
  · match i, e with
    | 0, e => exact .inr (n.nd k (.inl e))
    | 1, e => exact .inr (n.nd k (.inr e))
    | 4, e => exact .inl e
    | 5, e => exact .inl e
    | 2, e => exact e.elim
    | 3, e => exact e.elim
    | _ + 6, e => exact e.elim
  · have l4 : ¬ K.all k := fun e => by have := h.lt 4 k e; omega
    have l5 : ¬ k = P := fun e => by omega
    match i, i', e, e' with
    | 0, 0, _, _ => rfl
    | 1, 1, _, _ => rfl
    | 0, 1, e, e' => exact absurd e' (n.ap k e)
    | 1, 0, e, e' => exact absurd e (n.ap k e')
    | 4, _, e, _ => exact absurd e l4
    | _, 4, _, e' => exact absurd e' l4
    | 5, _, e, _ => exact absurd e l5
    | _, 5, _, e' => exact absurd e' l5
    | 2, _, e, _ => exact e.elim
    | 3, _, e, _ => exact e.elim
    | _, 2, _, e' => exact e'.elim
    | _, 3, _, e' => exact e'.elim
    | _ + 6, _, e, _ => exact e.elim
    | _, _ + 6, _, e' => exact e'.elim
  · match i, e with
    | 0, e => exact Nat.le_trans hw0 (n.nd k (.inl e))
    | 1, e => exact Nat.le_trans hw0 (n.nd k (.inr e))
    | 4, e => exact h.far 4 k e
    | 5, e => exact h.far 5 k e
    | 2, e => exact e.elim
    | 3, e => exact e.elim
    | _ + 6, e => exact e.elim
end Go.Proofs.YtcbebalakdkgnaaGreatDoor

namespace Go.Proofs.YtcbebalakdkgnaaGreatDoor
open Go.RowKit Rec
variable {w0 w w1 wx w2 w' : World} {P j j' : Nat} {D D' : Dk} {R R' : RDk} {T T' : Tx} {U U' : RTx} {K K' : Kb} {row' : List Dn} {c2 c3 : Value}
set_option maxRecDepth 100000 in
set_option maxHeartbeats 8000000 in
theorem xstarts (h : XS w0 w P D R T U K j) (hT : TabAt w0) (hdn : D.down = true) :
    Calls Tryz.prog 31 #[.pointer (some ⟨P, 0, none⟩)] w (PlP w0 P j K.kb) := by
  have HX : Hid (XS w0 w P D R T U K j) := h
  have hnb1 : D.nb ≤ 16384 := by have := h.ws.d.nb1; omega
  have hnb0 : 1 ≤ D.nb := h.ws.d.nb0
  have hR : Rs D.abs := h.rs
  have hdn' : D.abs.down = true := hdn
  have h98 : 98 ≤ D.nb := hR.nb98 hdn'
  obtain ⟨W, hW⟩ := hR.dn hdn'
  obtain ⟨l, hl⟩ : ∃ l, D.las = l := ⟨_, rfl⟩
  have hal : D.abs.las = l := hl
  have hW : Well D.nb W l := by rw [← hal]; exact hW
  obtain ⟨nb, hnb⟩ : ∃ nb, D.nb = nb := ⟨_, rfl⟩
  have HIm : Hid (∀ wx E, Disk wx E → Calls Tryz.prog 13 #[.pointer (some ⟨E.d, 0, none⟩)] wx fun e w' => ∃ g cap, e = .returned (.slice (some ⟨g, 0, none⟩) (512 * E.nb : Nat) cap) ∧ wx.heap.size ≤ g ∧ OwnB w' g cap E.las ∧ Below wx.heap.size wx w') := fun wx E hE => image_any wx E hE
  have HRm : Hid (∀ wx, Below w.heap.size w wx → Calls Tryz.prog 14 #[.pointer (some ⟨R.r, 0, none⟩)] wx fun e w' => ∃ g cap, e = .returned (.slice (some ⟨g, 0, none⟩) (512 * nb : Nat) cap) ∧ wx.heap.size ≤ g ∧ OwnB w' g cap l ∧ Below wx.heap.size wx w') := fun wx hx => by
    have := (h.ws.t.on hx).image; rw [hal] at this; rw [← hnb]; exact this
  have HPm : Hid (∀ wx, Below w.heap.size w wx → Calls Tryz.prog 13 #[.pointer (some ⟨D.d, 0, none⟩)] wx fun e w' => ∃ g cap, e = .returned (.slice (some ⟨g, 0, none⟩) (512 * nb : Nat) cap) ∧ wx.heap.size ≤ g ∧ OwnB w' g cap l ∧ Below wx.heap.size wx w') := fun wx hx => by
    have := image_any wx D (h.ws.d.on hx); rw [hnb, hl] at this; exact this
  have HBh : Hid (∀ wx g c, OwnB wx g c l → Calls Tryz.prog 54 #[.slice (some ⟨g, 0, none⟩) (512 * nb) c] wx fun e w' => ∃ g' cap', e = .returned (.slice (some ⟨g', 0, none⟩) (512 * nb) cap') ∧ OwnB w' g' cap' (behind l nb) ∧ wx.heap.size ≤ g' ∧ Below wx.heap.size wx w') := fun wx g c hO => by
    have := r6behind_any wx g c nb D.abs hR hdn' hnb (by omega) (by rw [hal]; exact hO)
    rw [hal] at this; exact this
  have hll : l.length = 512 * nb := by have := hR.len; rw [hal] at this; rw [this]; show 512 * D.nb = _; rw [hnb]
  have HW : Hid (Well nb W l ∧ l.length = 512 * nb ∧ 98 ≤ nb ∧ nb ≤ 16384) := ⟨by rw [← hnb]; exact hW, hll, by omega, by omega⟩
  have HL2 : Hid ((behind l nb).length = 512 * nb) := by show (behind l nb).length = _; rw [behind_length]; exact hll
  have HTb : Hid (∀ wx, Below w.heap.size w wx → TabAt wx) := fun wx hx => hT.on (h.on hx).ws.be
  obtain ⟨L2, hL2⟩ : ∃ L2, behind l nb = L2 := ⟨_, rfl⟩
  have HL2e : Hid (behind l nb = L2) := hL2
  rw [hL2] at HBh HL2
  have d0 : w.cell? ⟨P, 0, none⟩ = some (.pointer (some ⟨D.d, 0, none⟩)) := h.ptrs.1
  have d1 : w.cell? ⟨P, 1, none⟩ = some (.pointer (some ⟨R.r, 0, none⟩)) := h.ptrs.2.1
  have HC : Hid (∀ wx, Below w.heap.size w wx → (wx.cell? ⟨P, 0, none⟩ = some (.pointer (some ⟨D.d, 0, none⟩)) ∧ wx.cell? ⟨P, 1, none⟩ = some (.pointer (some ⟨R.r, 0, none⟩))) ∧ wx.frozen? ⟨P, 0, none⟩ = false ∧ wx.frozen? ⟨P, 1, none⟩ = false) := fun wx hx => ⟨⟨(h.on hx).ptrs.1, (h.on hx).ptrs.2.1⟩, frozen_of_row _ _ 0 _ _ (h.on hx).px, frozen_of_row _ _ 1 _ _ (h.on hx).px⟩
  obtain ⟨N, hN⟩ : ∃ N, 512 * nb = N := ⟨_, rfl⟩
  have HNe : Hid (512 * nb = N) := hN
  rw [hN] at HRm HPm HBh HL2
  clear h hR hdn hdn' hW hl hal hnb hll hL2 hN hT hnb0 hnb1 h98
  have E1 := eql_ptr1
  go_enter Tryz.func31, Tryz.ntmps31
  go_upto_region 2 with (go_at_call 14; refine (HRm.out w (Below.refl _ _)).mono ?_; rintro e w1 ⟨g1, cap1, rfl, h1, h2, h3⟩; have H1 : Hid (OwnB w1 g1 cap1 l ∧ w.heap.size ≤ g1 ∧ Below w.heap.size w w1) := ⟨h2, h1, h3⟩; clear h1 h2 h3 d0 d1)
  have HlN : Hid (l.length = N) := by rw [← HNe.out]; exact HW.out.2.1
  obtain ⟨s, hs⟩ : ∃ s, strOfNums l = s := ⟨_, rfl⟩
  have HSs : Hid (∀ wx g c, OwnB wx g c l → (convert 42 9 (.slice (some ⟨g, 0, none⟩) N c)).run Tryz.prog wx = .ok (.string s) wx) := fun wx g c hO => by rw [← hs]; exact str_opt hO.bytes HlN.out
  clear hs
  obtain ⟨⟨c0, _⟩, _⟩ := HC.out w1 H1.out.2.2
  have hS0 : w1.drew.cell? ⟨P, 0, none⟩ = some (.pointer (some ⟨D.d, 0, none⟩)) := c0
  have HD1 : Hid (Below w1.heap.size w1 w1.drew) := (Below.refl _ _).drew
  have k1 : (convert 42 9 (.slice (some ⟨g1, 0, none⟩) N cap1)).run Tryz.prog w1.drew = .ok (.string s) w1.drew := HSs.out _ _ _ (H1.out.1.on HD1.out)
  have k0 : (convert 42 9 (.slice (some ⟨g1, 0, none⟩) N cap1)).run Tryz.prog w1 = .ok (.string s) w1 := HSs.out _ _ _ H1.out.1
  go_cut [18, 19, 20, 21, 22, 23, 24, 25, 26] (fun _ _ _ _ _ _ _ _ s26 wx => s26 = .bool false ∧ Below w1.heap.size w1 wx)
  case first =>
    go_region_law (go_simp; first
      | (go_at_call 13; refine (HPm.out _ (H1.out.2.2.trans (HD1.out.mono H1.out.2.2.size))).mono ?_; rintro e w2 ⟨g2, cap2, rfl, h1, h2, h3⟩
         have H2 : Hid (OwnB w2 g2 cap2 l ∧ OwnB w2 g1 cap1 l ∧ Below w1.heap.size w1 w2 ∧ Below w.heap.size w w2) := ⟨h2, (H1.out.1.on HD1.out).on h3, HD1.out.trans h3, H1.out.2.2.trans ((HD1.out.trans h3).mono H1.out.2.2.size)⟩
         have k2 : (convert 42 9 (.slice (some ⟨g2, 0, none⟩) N cap2)).run Tryz.prog w2 = .ok (.string s) w2 := HSs.out _ _ _ H2.out.1
         have k3 : (convert 42 9 (.slice (some ⟨g1, 0, none⟩) N cap1)).run Tryz.prog w2 = .ok (.string s) w2 := HSs.out _ _ _ H2.out.2.1
         clear h1 h2 h3))
    all_goals
      go_wp2
      go_meet
      exact ⟨rfl, by first | exact H2.out.2.2.1 | exact H2.out.2.2.1.drew⟩
  obtain ⟨rfl, hcb⟩ := hcut
  have Hc : Hid (Below w.heap.size w wc ∧ OwnB wc g1 cap1 l) := ⟨H1.out.2.2.trans (hcb.mono H1.out.2.2.size), H1.out.1.on hcb⟩
  have HOp : Hid (∀ wx g c L, OwnB wx g c L → L.length = 512 * nb → Calls Tryz.prog 52 #[.slice (some ⟨g, 0, none⟩) N c] wx fun e w' => ∃ d nw Lx capL, e = .returned (.tuple #[.pointer (some ⟨d, 0, none⟩), .int .i64 0]) ∧ (wx.heap.size ≤ d ∧ wx.heap.size ≤ nw ∧ wx.heap.size ≤ Lx) ∧ Disk w' (newDk d Lx nw capL nb L) ∧ Below wx.heap.size wx w') := fun wx g c L hO hL => by
    have := open_yes wx ⟨g, 0, none⟩ c nb L hO.bytes hL (by have := HW.out; omega) HW.out.2.2.2
    rw [HNe.out] at this
    refine this.mono ?_
    rintro e w' ⟨d, nw, Lx, capL, rfl, q1, q2, q3, q4, q5⟩
    exact ⟨d, nw, Lx, capL, rfl, ⟨q1, q2, q3⟩, q4, q5⟩
  have HRc : Hid (∀ wx d nw Lx capL, Below wc.heap.size wc wx → (wc.heap.size ≤ d ∧ wc.heap.size ≤ nw ∧ wc.heap.size ≤ Lx) → Disk wx (newDk d Lx nw capL nb l) → Calls Tryz.prog 53 #[.pointer (some ⟨d, 0, none⟩)] wx fun e w' => ∃ k : Int, e = .returned (.tuple #[.int .i64 k, .int .i64 0]) ∧ ∃ D3, Disk w' D3 ∧ D3.d = d ∧ D3.nb = nb ∧ D3.las = L2 ∧ Below wc.heap.size wc w') := fun wx d nw Lx capL hb hs hD => by
    have hF := fresh_dk d Lx nw capL nb l HW.out.2.1
    obtain ⟨r1, r2⟩ := rc_fresh hF HW.out.1 HW.out.2.2.1
    refine (precover_any wx (newDk d Lx nw capL nb l) hD (HTb.out wx (Hc.out.1.trans (hb.mono Hc.out.1.size))) (hF.room 99 (by omega))).mono ?_
    rintro e w' ⟨rfl, D3, q1, q2, q3, q4⟩
    refine ⟨_, by rw [r1], D3, q1, q2.d, q2.nb, ?_, hb.trans (q2.fr.below _ (fun k e => ?_) hb.size)⟩
    · have h5 : D3.las = (rcT (newDk d Lx nw capL nb l).abs).las := congrArg AD.las q4
      rw [h5, r2, HL2e.out]
    · rcases newDk_each (Dk.hasAll e) with e | e | e <;> omega
  clear H1 k1 k0 hcb hS0 HD1
  go_upto_region 8 with (first
    | (go_at_call 52; refine (HOp.out wc g1 cap1 l Hc.out.2 HW.out.2.1).mono ?_; rintro e w3 ⟨d2, nw2, L3, capL2, rfl, q1, q2, q3⟩
       have H3 : Hid ((wc.heap.size ≤ d2 ∧ wc.heap.size ≤ nw2 ∧ wc.heap.size ≤ L3) ∧ Disk w3 (newDk d2 L3 nw2 capL2 nb l) ∧ Below wc.heap.size wc w3) := ⟨q1, q2, q3⟩
       clear q1 q2 q3)
    | (go_at_call 53; refine (HRc.out w3 d2 nw2 L3 capL2 H3.out.2.2 H3.out.1 H3.out.2.1).mono ?_; rintro e w4 ⟨rk, rfl, D3, q1, q2, q3, q4, q5⟩
       have H4 : Hid (Disk w4 D3 ∧ D3.d = d2 ∧ D3.nb = nb ∧ D3.las = L2 ∧ Below wc.heap.size wc w4) := ⟨q1, q2, q3, q4, q5⟩
       clear q1 q2 q3 q4 q5))
  go_upto_region 9 with (go_at_call 54; refine (HBh.out w4 g1 cap1 (Hc.out.2.on H4.out.2.2.2.2)).mono ?_; rintro e w5 ⟨g5, cap5, rfl, q1, q2, q3⟩
                         have H5 : Hid (OwnB w5 g5 cap5 L2 ∧ w4.heap.size ≤ g5 ∧ Below w4.heap.size w4 w5) := ⟨q1, q2, q3⟩
                         clear q1 q2 q3)
  have HlN2 : Hid (L2.length = N) := HL2
  obtain ⟨s2, hs2⟩ : ∃ s2, strOfNums L2 = s2 := ⟨_, rfl⟩
  have HSs2 : Hid (∀ wx g c, OwnB wx g c L2 → (convert 42 9 (.slice (some ⟨g, 0, none⟩) N c)).run Tryz.prog wx = .ok (.string s2) wx) := fun wx g c hO => by rw [← hs2]; exact str_opt hO.bytes HlN2.out
  have HI3 : Hid (∀ wx, Below w5.heap.size w5 wx → Calls Tryz.prog 13 #[.pointer (some ⟨d2, 0, none⟩)] wx fun e w' => ∃ g cap, e = .returned (.slice (some ⟨g, 0, none⟩) N cap) ∧ OwnB w' g cap L2 ∧ Below wx.heap.size wx w') := fun wx hb => by
    have := image_any wx D3 ((H4.out.1.on H5.out.2.2).on hb)
    rw [H4.out.2.1, H4.out.2.2.1, HNe.out, H4.out.2.2.2.1] at this
    refine this.mono ?_
    rintro e w' ⟨g, cap, rfl, _, q2, q3⟩
    exact ⟨g, cap, rfl, q2, q3⟩
  clear hs2
  have HD5 : Hid (Below w5.heap.size w5 w5.drew) := (Below.refl _ _).drew
  have m0 : (convert 42 9 (.slice (some ⟨g5, 0, none⟩) N cap5)).run Tryz.prog w5 = .ok (.string s2) w5 := HSs2.out _ _ _ H5.out.1
  have m1 : (convert 42 9 (.slice (some ⟨g5, 0, none⟩) N cap5)).run Tryz.prog w5.drew = .ok (.string s2) w5.drew := HSs2.out _ _ _ (H5.out.1.on HD5.out)
  go_cut [45, 46, 47, 48, 49, 50, 51, 52, 53, 54] (fun _ _ _ _ _ _ _ _ _ s54 wx => s54 = .bool false ∧ Below w5.heap.size w5 wx)
  case first =>
    go_region_law (go_simp; first
      | (go_at_call 13; refine (HI3.out _ (by first | exact HD5.out | exact Below.refl _ _)).mono ?_; rintro e w6 ⟨g6, cap6, rfl, q2, q3⟩
         have H6 : Hid (OwnB w6 g6 cap6 L2 ∧ OwnB w6 g5 cap5 L2 ∧ Below w5.heap.size w5 w6) := (by first | exact ⟨q2, (H5.out.1.on HD5.out).on q3, HD5.out.trans q3⟩ | exact ⟨q2, H5.out.1.on q3, q3⟩)
         have m2 : (convert 42 9 (.slice (some ⟨g6, 0, none⟩) N cap6)).run Tryz.prog w6 = .ok (.string s2) w6 := HSs2.out _ _ _ H6.out.1
         have m3 : (convert 42 9 (.slice (some ⟨g5, 0, none⟩) N cap5)).run Tryz.prog w6 = .ok (.string s2) w6 := HSs2.out _ _ _ H6.out.2.1
         clear q2 q3))
    all_goals
      go_wp2
      go_meet
      exact ⟨rfl, by first | exact H6.out.2.2 | exact H6.out.2.2.drew⟩
  obtain ⟨rfl, hcb⟩ := hcut
  have HO6 : Hid (OwnB wc g5 cap5 L2) := H5.out.1.on hcb
  have HB6 : Hid (Below w.heap.size w wc) := Hc.out.1.trans ((H4.out.2.2.2.2.trans ((H5.out.2.2.trans (hcb.mono H5.out.2.2.size)).mono H4.out.2.2.2.2.size)).mono Hc.out.1.size)
  have HOf : Hid (∀ wx g c, OwnB wx g c L2 → Calls Tryz.prog 55 #[.slice (some ⟨g, 0, none⟩) N c] wx (OfR wx nb L2)) := fun wx g c hO => by
    have := of_yesR wx ⟨g, 0, none⟩ c nb L2 hO.bytes (by rw [HlN2.out, HNe.out]) (by have := HW.out; omega) HW.out.2.2.2
    rw [HNe.out] at this
    exact this
  have HB1 : Hid (bck L2 1 = zs ∧ L2.length = 512 * nb) := ⟨by rw [← HL2e.out]; exact behind_one _ _ HW.out.2.1 HW.out.2.2.1, by rw [HlN2.out, HNe.out]⟩
  clear m0 m1 HD5 hcb HI3 HSs2 H5 H4 H3 Hc HRc HBh HRm HPm HIm HSs HlN HTb HL2e HL2 s2
  go_upto_region 12 with (go_at_call 52; refine (HOp.out wc g5 cap5 L2 HO6.out HB1.out.2).mono ?_; rintro e w6 ⟨d6, nw6, L6, cap6, rfl, q1, q2, q3⟩
                          have H6 : Hid ((wc.heap.size ≤ d6 ∧ wc.heap.size ≤ nw6 ∧ wc.heap.size ≤ L6) ∧ Disk w6 (newDk d6 L6 nw6 cap6 nb L2) ∧ Below wc.heap.size wc w6) := ⟨q1, q2, q3⟩
                          clear q1 q2 q3)
  go_upto_region 13 with (go_at_call 55; refine (HOf.out w6 g5 cap5 (HO6.out.on H6.out.2.2)).mono ?_; rintro e w7 ⟨r7, g7, cap7, rfl, q1, q2, q3, q4⟩
                          have H7 : Hid ((w6.heap.size ≤ r7 ∧ w6.heap.size ≤ g7) ∧ RDisk w7 (newR r7 nb g7 cap7 L2) ∧ Below w6.heap.size w6 w7) := ⟨⟨q1, q2⟩, q3, q4⟩
                          clear q1 q2 q3 q4)
  have HN : Hid (NewW w w7 (newDk d6 L6 nw6 cap6 nb L2) (newR r7 nb g7 cap7 L2) (200 * (j + 1))) := new_ww H6.out.1 H6.out.2.1 H7.out.1 H7.out.2.1 HB6.out H6.out.2.2 (Below.refl _ _) H7.out.2.2
  have HBg : Hid (∀ wy, wy = (w7.setCell ⟨P, 0, none⟩ (.pointer (some ⟨d6, 0, none⟩))).setCell ⟨P, 1, none⟩ (.pointer (some ⟨r7, 0, none⟩)) → Calls Tryz.prog 7 #[.pointer (some ⟨P, 0, none⟩)] wy fun e w' => e = .returned (.bool true) ∧ ∃ T U, XS w0 w' P (newDk d6 L6 nw6 cap6 nb L2) (newR r7 nb g7 cap7 L2) T U K (j + 1)) := fun wy hy => by
    subst hy
    have h4 := (HX.out.on HN.out.be).px
    have f5 : Fr (fun k => k = P) w7 ((w7.setCell ⟨P, 0, none⟩ (.pointer (some ⟨d6, 0, none⟩))).setCell ⟨P, 1, none⟩ (.pointer (some ⟨r7, 0, none⟩))) := (Fr.set).trans Fr.set (fun _ e => .inl e)
    have r0 := heap_setCell_same _ _ 0 _ _ (.pointer (some ⟨d6, 0, none⟩)) h4
    have r1 := heap_setCell_same _ _ 1 _ _ (.pointer (some ⟨r7, 0, none⟩)) r0
    exact begins_any (HX.out.base.renew HN.out.be HN.out (rs_new _ _ _ _ _ _ HB1.out.2 HB1.out.1) (Nat.le_succ _) f5 r1) rfl rfl
  obtain ⟨⟨c0, c1⟩, f0, f1⟩ := HC.out w7 HN.out.be
  clear HOp HOf HC
  go_wp2_with (go_at_call 7; refine (HBg.out _ rfl).mono ?_; rintro e w8 ⟨rfl, T8, U8, q1⟩)
  all_goals go_ret
  exact ⟨rfl, _, _, T8, U8, K, q1, rfl⟩
end Go.Proofs.YtcbebalakdkgnaaGreatDoor

namespace Go.Proofs.YtcbebalakdkgnaaGreatDoor
open Go.RowKit Rec
variable {w0 w w1 wx w2 w' : World} {P j j' : Nat} {D D' : Dk} {R R' : RDk} {T T' : Tx} {U U' : RTx} {K K' : Kb} {row' : List Dn} {c2 c3 : Value}
set_option maxRecDepth 100000 in
set_option maxHeartbeats 8000000 in
theorem xplay11 (h : XS w0 w P D R T U K j) (hT : TabAt w0) (n x : Int) (ba ka : Option Addr) (bn bc kn kc : Nat) :
    Calls Tryz.prog 8 #[.pointer (some ⟨P, 0, none⟩), .agg #[.int .i64 11, .int .i64 n, .int .u8 x, .slice ba bn bc, .slice ka kn kc], .pointer (some ⟨K.kb, 0, none⟩)] w (PlP w0 P j K.kb) := by
  have HX : Hid (XS w0 w P D R T U K j) := h
  have hdn : D.down = R.out := h.ws.t.tie.dn
  have HC : Hid (∀ wx, Below w.heap.size w wx → wx.cell? ⟨P, 1, none⟩ = some (.pointer (some ⟨R.r, 0, none⟩)) ∧ wx.cell? ⟨R.r, 4, none⟩ = some (.bool R.out)) := fun wx hb => ⟨(h.on hb).ptrs.2.1, ((h.on hb).ws.t.r).cell 4⟩
  cases hen : R.out with
  | false =>
    rw [hen] at HC
    clear h hdn
    go_enter Tryz.func8, Tryz.ntmps8
    go_upto_region 1 with fail
    obtain ⟨Q, hQ⟩ : ∃ Q, w.heap.size = Q := ⟨_, rfl⟩
    obtain ⟨wb, hwb⟩ : ∃ wb, w.alloc (.cells #[.int .i64 11, .int .i64 n, .int .u8 x, .slice ba bn bc, .slice ka kn kc] 45) = wb := ⟨_, rfl⟩
    have HB : Hid (Below w.heap.size w wb) := by rw [← hwb]; exact (Below.refl _ _).alloc (Nat.le_refl _) _
    have b0 : wb.cell? ⟨Q, 0, none⟩ = some (.int .i64 11) := by rw [← hwb, ← hQ]; exact box_at (Below.refl _ _) 0
    obtain ⟨e3, e4⟩ := HC.out wb HB.out
    rw [hwb, hQ]
    clear hwb hQ
    go_wp2
    go_ret
    exact ⟨rfl, D, R, T, U, K, (HX.out.on HB.out).up (by omega), rfl⟩
  | true =>
    rw [hen] at HC hdn
    have HSt : Hid (∀ wx, Below w.heap.size w wx → Calls Tryz.prog 31 #[.pointer (some ⟨P, 0, none⟩)] wx (PlP w0 P j K.kb)) := fun wx hb => xstarts (h.on hb) hT hdn
    clear h hdn
    go_enter Tryz.func8, Tryz.ntmps8
    go_upto_region 1 with fail
    obtain ⟨Q, hQ⟩ : ∃ Q, w.heap.size = Q := ⟨_, rfl⟩
    obtain ⟨wb, hwb⟩ : ∃ wb, w.alloc (.cells #[.int .i64 11, .int .i64 n, .int .u8 x, .slice ba bn bc, .slice ka kn kc] 45) = wb := ⟨_, rfl⟩
    have HB : Hid (Below w.heap.size w wb) := by rw [← hwb]; exact (Below.refl _ _).alloc (Nat.le_refl _) _
    have b0 : wb.cell? ⟨Q, 0, none⟩ = some (.int .i64 11) := by rw [← hwb, ← hQ]; exact box_at (Below.refl _ _) 0
    obtain ⟨e3, e4⟩ := HC.out wb HB.out
    rw [hwb, hQ]
    clear hwb hQ
    go_wp2_with (go_at_call 31; refine (HSt.out wb HB.out).mono ?_; rintro e w1 ⟨rfl, h1⟩; have H1 : Hid (∃ D R T U K', XS w0 w1 P D R T U K' (j + 1) ∧ K'.kb = K.kb) := h1; clear h1)
    go_ret
    exact ⟨rfl, H1.out⟩
/-- a step of any kind -/
theorem xplay_any (h : XS w0 w P D R T U K j) (hT : TabAt w0) (hj : j + 1 ≤ 4000000) (q : OpX) (hq : OpXIn w0 q) :
    Calls Tryz.prog 8 #[.pointer (some ⟨P, 0, none⟩), .agg q.cs, .pointer (some ⟨K.kb, 0, none⟩)] w (PlP w0 P j K.kb) := by
  by_cases h2 : q.k = 2
  · exact xplay2 h hj q hq h2
  obtain ⟨k, n, x, ba, bn, bc, ka, kn, kc, B, L⟩ := q
  have h2 : ¬ k = 2 := h2
  show Calls Tryz.prog 8 #[.pointer (some ⟨P, 0, none⟩), .agg #[.int .i64 k, .int .i64 n, .int .u8 x, .slice ba bn bc, .slice ka kn kc], .pointer (some ⟨K.kb, 0, none⟩)] w (PlP w0 P j K.kb)
  by_cases h1 : k = 1
  · subst h1; exact xplay1 h (by omega) n x ba ka bn bc kn kc
  by_cases h3 : k = 3
  · subst h3; exact xplay3 h (by omega) n x ba ka bn bc kn kc
  by_cases h4 : k = 4
  · subst h4; exact xplay4 h n x ba ka bn bc kn kc
  by_cases h5 : k = 5
  · subst h5; exact xplay5 h n x ba ka bn bc kn kc
  by_cases h6 : k = 6
  · subst h6; exact xplay6 h hT (by omega) n x ba ka bn bc kn kc
  by_cases h7 : k = 7
  · subst h7; exact xplay7 h n x ba ka bn bc kn kc
  by_cases h8 : k = 8
  · subst h8; exact xplay8 h n x ba ka bn bc kn kc
  by_cases h9 : k = 9
  · subst h9; exact xplay9 h n x ba ka bn bc kn kc
  by_cases h10 : k = 10
  · subst h10; exact xplay10 h n x hq.n ba ka bn bc kn kc L hq.kb hq.kl hq.k0 hq.ks
  by_cases h11 : k = 11
  · subst h11; exact xplay11 h hT n x ba ka bn bc kn kc
  exact xplayN h k n x ba ka bn bc kn kc h1 h2 h3 h4 h5 h6 h7 h8 h9 h10 h11
end Go.Proofs.YtcbebalakdkgnaaGreatDoor

namespace Go.Proofs.YtcbebalakdkgnaaGreatDoor
open Go.RowKit Rec

set_option maxRecDepth 100000 in
set_option maxHeartbeats 4000000 in
theorem sameI_any (w : World) (v u : Value) (n : Nat) (x : List Int) (hv : w.ownsRow 0 3 1 v n (x.map (Value.int .i64))) (hu : w.ownsRow 0 3 1 u n (x.map (Value.int .i64))) (hn : n ≤ 1000000000000) :
    Calls Tryz.prog 37 #[v, u] w fun e w' => e = .returned (.bool true) ∧ ∃ m, w' = w.drewN m := by
  have hxl : x.length = n := by have := hv.1; rw [List.length_map] at this; omega
  obtain ⟨a, c, rfl, hnc, hga, hca⟩ := owns_slice hv
  obtain ⟨b, d, rfl, hnd, hgb, hcb⟩ := owns_slice hu
  have HA : Hid (x.length = n ∧ (∀ g, a = some ⟨g, 0, none⟩ → ∀ j u, (x.map (Value.int .i64))[j]? = some u → w.cell? ⟨g, j, none⟩ = some u) ∧ (∀ g, b = some ⟨g, 0, none⟩ → ∀ j u, (x.map (Value.int .i64))[j]? = some u → w.cell? ⟨g, j, none⟩ = some u)) := ⟨hxl, fun g e => (hca g 0 e).2.1, fun g e => (hcb g 0 e).2.1⟩
  clear hv hu hca hcb hxl
  go_enter Tryz.func37, Tryz.ntmps37
  go_wp2
  go_loopw [5, 13, 14, 15, 16, 17, 18, 19, 20, 21, 22, 23, 24, 25] (fun _ i _ _ _ _ _ _ _ _ _ _ _ _ wr => ∃ k : Nat, k ≤ n ∧ i = .int .i64 k ∧ ∃ m, wr = w.drewN m) (fun _ i _ _ _ _ _ _ _ _ _ _ _ _ _ => n - (intOf i).toNat)
  case atStart => exact ⟨0, Nat.zero_le _, rfl, 0, rfl⟩
  case round =>
    obtain ⟨k, hk, rfl, mw, rfl⟩ := hrel
    have HB : Hid (Below w.heap.size w (w.drewN mw)) := below_drewN (Below.refl _ _) _
    by_cases hlt : k < n
    · obtain ⟨g, rfl⟩ := hga.resolve_left (by omega)
      obtain ⟨g', rfl⟩ := hgb.resolve_left (by omega)
      have hk2 : k < x.length := by rw [HA.out.1]; exact hlt
      have e : (x.map (Value.int .i64))[k]? = some (.int .i64 x[k]) := by rw [List.getElem?_map, List.getElem?_eq_getElem hk2]; rfl
      have x0 : w.cell? ⟨g, k, none⟩ = some (.int .i64 x[k]) := (below_fr HB.out (fun _ => False)).cell (HA.out.2.1 g rfl k _ e) (fun e => e)
      have y0 : w.cell? ⟨g', k, none⟩ = some (.int .i64 x[k]) := (below_fr HB.out (fun _ => False)).cell (HA.out.2.2 g' rfl k _ e) (fun e => e)
      generalize x[k] = z at *
      clear e hk2
      go_wp2
      go_quiet (fail)
      go_wp2
      exact ⟨⟨k + 1, hlt, rfl, _, rfl⟩, by simp [intOf]; omega⟩
    · go_wp2
      go_ret
      exact ⟨rfl, mw, rfl⟩
end Go.Proofs.YtcbebalakdkgnaaGreatDoor
