import Derived.Test.YtamlbpbhlgmcoaaGreatDoorWpU
import Derived.Test.YtamlbpbhlgmcoaaGreatDoorKATape
import Derived.Test.YtamlbpbhlgmcoaaGreatDoorKAMake
namespace Go.Proofs.YtamlbpbhlgmcoaaGreatDoor
open Go.RowKit Rec
/-- the document's disk, new -/
def newR (r nb g cap : Nat) (l : List Int) : RDk := { r := r, nb := nb, gf := g, cf := cap, f := l, av := .slice none 0 0, L := [], kv := .slice none 0 0, keep := [], left := 0, out := false, wr := 0, fl := 0 }
theorem newR_disk {w : World} {r nb g cap : Nat} {l : List Int} (hb : w.heap[r]? = some (.cells (newR r nb g cap l).cells 41 (0, 0))) (ho : OwnB w g cap l) (hl : l.length = 512 * nb) (h0 : 1 ≤ nb) (h1 : nb ≤ 16384) : RDisk w (newR r nb g cap l) :=
  ⟨hb, ho, hl, ⟨h0, h1⟩, ⟨rfl, .inl ⟨rfl, rfl⟩⟩, (fun _ h => by cases h), ⟨rfl, .inl ⟨rfl, rfl⟩⟩, (by show 0 ≤ _; omega), Int.le_refl _⟩
theorem newR_all {r nb g cap : Nat} {l : List Int} {k : Nat} (h : (newR r nb g cap l).all k) : k = r ∨ k = g := by
  rcases h with e | e | e | e | ⟨q, hq, _⟩
  · exact .inl e
  · exact .inr e
  · cases e
  · cases e
  · cases hq
theorem newDk_each {d L nw capL nb : Nat} {l : List Int} {k : Nat} (h : (newDk d L nw capL nb l).all k) : k = d ∨ k = L ∨ k = nw := by
  rcases h with (e | e | e | e | e) | e | ⟨_, hp, _⟩ | ⟨_, hp, _⟩
  · exact .inl e
  · exact .inr (.inl e)
  · exact .inr (.inr e)
  · cases e
  · cases e
  · cases e
  · cases hp
  · cases hp
theorem new_tie (d L nw capL nb r g cap : Nat) (l : List Int) : Tie (newDk d L nw capL nb l).abs (newR r nb g cap l) :=
  ⟨rfl, rfl, rfl, rfl, rfl, (fun i hi => absurd hi (Nat.not_lt_zero _)), fun _ => ⟨rfl, rfl, .inl ⟨Int.le_refl _, rfl⟩⟩, (fun e => by cases e)⟩
theorem eql_ptr1 (w : World) (p : Addr) : (binOp .eql 25 (.pointer (some p)) (.pointer none)).run Tryz.prog w = .ok (.bool false) w := by
  have h : ∀ d : Nat, (Op.equalIn (d + 1) 25 (.pointer (some p)) (.pointer none)).run Tryz.prog w = .ok false w := fun d => by
    simp [Op.equalIn, run_underlying Tryz.underlying25]
  simp only [binOp]
  simp [Op.equal, Op.maxDepth, h 9999]
/-- a new disk of the document's -/
def OfR (w : World) (nb : Nat) (l : List Int) (e : Ending) (w' : World) : Prop := ∃ r g cap, e = .returned (.tuple #[.pointer (some ⟨r, 0, none⟩), .int .i64 0]) ∧ w.heap.size ≤ r ∧ w.heap.size ≤ g ∧ RDisk w' (newR r nb g cap l) ∧ Below w.heap.size w w'
set_option maxRecDepth 100000 in
set_option maxHeartbeats 800000 in
theorem of_yesR (w : World) (p : Addr) (c nb : Nat) (l : List Int) (hb : Bytes w (some p) l) (hn : l.length = 512 * nb) (h0 : 1 ≤ nb) (h1 : nb ≤ 16384) :
    Calls Tryz.prog 78 #[.slice (some p) (512 * nb : Nat) c] w (OfR w nb l) := by
  have HI : Hid (Bytes w (some p) l) := hb
  have HN : Hid (l.length = 512 * nb) := hn
  clear hb hn
  have hz : ((512 * (nb : Int)) == 0) = false := by rw [beq_eq_false_iff_ne]; omega
  have hz2 : ¬ 512 * (nb : Int) = 0 := by omega
  go_enter Tryz.func78, Tryz.ntmps78
  go_wp2_with (go_at_call 40; refine (copied_any _ p (512 * nb) c l HI.out HN.out (by omega) (by omega)).mono ?_; rintro e w1 ⟨g, cap, rfl, hg, ho, hb⟩; have H1 : Hid (w.heap.size ≤ g ∧ OwnB w1 g cap l ∧ Below w.heap.size w w1) := ⟨hg, ho, hb⟩; clear hg ho hb)
  go_ret2
  have ha : Below w1.heap.size w1 (w1.alloc (.cells (newR w1.heap.size nb g cap l).cells 41)) := (Below.refl _ _).alloc (Nat.le_refl _) _
  exact ⟨w1.heap.size, g, cap, rfl, H1.out.2.2.size, H1.out.1, newR_disk (heap_alloc_new w1 _) (H1.out.2.1.on ha) HN.out h0 h1, H1.out.2.2.alloc H1.out.2.2.size _⟩
set_option maxRecDepth 100000 in
set_option maxHeartbeats 800000 in
theorem rnew_yes (w : World) (nb : Nat) (h0 : 1 ≤ nb) (h1 : nb ≤ 16384) : Calls Tryz.prog 7 #[.int .i64 nb] w (OfR w nb (zsA (512 * nb))) := by
  have hz : ¬ (nb : Int) < 1 := by omega
  have hz2 : ¬ 16384 < (nb : Int) := by omega
  go_enter Tryz.func7, Tryz.ntmps7
  go_wp2_with (at_make; refine wp_makeB rfl _ _ rfl _ _ _ _ (512 * nb) rfl rfl (by omega) (by omega) (by omega) ?_; intro w1 ho hb; have HO : Hid (OwnB w1 w.heap.size (512 * nb) (zsA (512 * nb))) := ho; have HB : Hid (Below w.heap.size w w1) := hb; clear ho hb)
  go_ret2
  have ha : Below w1.heap.size w1 (w1.alloc (.cells (newR w1.heap.size nb w.heap.size (512 * nb) (zsA (512 * nb))).cells 41)) := (Below.refl _ _).alloc (Nat.le_refl _) _
  exact ⟨w1.heap.size, w.heap.size, 512 * nb, rfl, HB.out.size, Nat.le_refl _, newR_disk (heap_alloc_new w1 _) (HO.out.on ha) (zsA_length _) h0 h1, HB.out.alloc HB.out.size _⟩
theorem new_rt {w : World} {d L nw capL nb r g cap j : Nat} {l : List Int} (h : RDisk w (newR r nb g cap l)) : RT w (newDk d L nw capL nb l).abs (newR r nb g cap l) j :=
  ⟨h, new_tie _ _ _ _ _ _ _ _ _, Nat.zero_le _, (by show (0 : Int) ≤ _; omega), (by show (0 : Int) ≤ _; omega), Nat.zero_le _, (by show (0 : Int) ≤ _; omega)⟩
/-- two new disks -/
structure NewW (w w' : World) (D : Dk) (R : RDk) (j : Nat) : Prop where
  d : Disk w' D
  t : RT w' D.abs R j
  ap : ∀ k, D.all k → ¬ R.all k
  nd : ∀ k, D.all k ∨ R.all k → w.heap.size ≤ k
  be : Below w.heap.size w w'
  kd : D.keep.length ≤ 1000000000000000
theorem new_ww {w w1 w2 w3 w4 : World} {d L nw capL nb r g cap j : Nat} {l : List Int} (h1 : w1.heap.size ≤ d ∧ w1.heap.size ≤ nw ∧ w1.heap.size ≤ L) (hD : Disk w2 (newDk d L nw capL nb l)) (h3 : w3.heap.size ≤ r ∧ w3.heap.size ≤ g) (hR : RDisk w4 (newR r nb g cap l)) (b1 : Below w.heap.size w w1) (b2 : Below w1.heap.size w1 w2) (b3 : Below w2.heap.size w2 w3) (b4 : Below w3.heap.size w3 w4) : NewW w w4 (newDk d L nw capL nb l) (newR r nb g cap l) j := by
  have s1 := b1.size
  have s2 := b2.size
  have s3 := b3.size
  have l1 : d < w2.heap.size := hD.ltAll (.inl (.inl rfl))
  have l2 : L < w2.heap.size := hD.ltAll (.inl (.inr (.inl rfl)))
  have l3 : nw < w2.heap.size := hD.ltAll (.inl (.inr (.inr (.inl rfl))))
  refine ⟨(hD.on b3).on b4, new_rt hR, fun k e e2 => ?_, fun k e => ?_, b1.trans ((b2.trans ((b3.trans (b4.mono b3.size)).mono b2.size)).mono b1.size), Nat.zero_le _⟩
  · rcases newDk_each e with e | e | e <;> rcases newR_all e2 with e2 | e2 <;> omega
  · rcases e with e | e
    · rcases newDk_each e with e | e | e <;> omega
    · rcases newR_all e with e | e <;> omega
theorem Pl.renew {w0 w w4 : World} {P : Nat} {D D2 : Dk} {R R2 : RDk} {j j' d r : Nat} {tv wv : Value} {B : List TB} (h : Pl w0 w P D R j tv wv B) (n : NewW w w4 D2 R2 j') (hd : D2.d = d) (hr : R2.r = r) (hjj : j ≤ j') : Pl w0 ((w4.setCell ⟨P, 0, none⟩ (.pointer (some ⟨d, 0, none⟩))).setCell ⟨P, 1, none⟩ (.pointer (some ⟨r, 0, none⟩))) P D2 R2 j' tv wv B := by
  subst hd hr
  have h4 := h.on n.be
  have hP : P < w.heap.size := heap_lt h.box
  have f5 : Fr (fun k => k = P) w4 ((w4.setCell ⟨P, 0, none⟩ (.pointer (some ⟨D2.d, 0, none⟩))).setCell ⟨P, 1, none⟩ (.pointer (some ⟨R2.r, 0, none⟩))) := (Fr.set).trans Fr.set (fun _ e => .inl e)
  have ap : ∀ k, k < w.heap.size → w0.heap.size ≤ k → Ap w0 D2 R2 k := fun k hk h0 => ⟨h0, fun e => by have := n.nd k (.inl e); omega, fun e => by have := n.nd k (.inr e); omega⟩
  refine ⟨⟨n.d.fr f5 (fun k e e2 => by have := n.nd k (.inl e); rw [show k = P from e2] at this; omega), n.t.fr f5 (fun k e e2 => by have := n.nd k (.inr e); rw [show k = P from e2] at this; omega), n.ap, fun k e => Nat.le_trans h.s.be.size (n.nd k e), h4.s.be.trans (f5.below _ (fun k e => by rw [show k = P from e]; exact h.pn.1) h4.s.be.size), n.kd⟩, ?_, ap P hP h.pn.1, owns_fr h4.told f5 (fun k e e2 => own_apartR h4.told h4.box (by decide) (by rw [e, show k = P from e2])), owns_fr h4.was f5 (fun k e e2 => own_apartR h4.was h4.box (by decide) (by rw [e, show k = P from e2])), fun k e => ap k (owns_block h.told e) (h.tn k e).1, fun k e => ap k (owns_block h.was e) (h.wn k e).1, fun q hq => ?_, Nat.le_trans h.bl hjj⟩
  · have r0 := heap_setCell_same _ _ 0 _ _ (.pointer (some ⟨D2.d, 0, none⟩)) h4.box
    have r1 := heap_setCell_same _ _ 1 _ _ (.pointer (some ⟨R2.r, 0, none⟩)) r0
    exact r1
  · rcases h.each q hq with e | ⟨g, e, ho, hg⟩
    · exact .inl e
    · exact .inr ⟨g, e, (ho.on n.be).fr f5 (box_ne h4.box (ho.on n.be)), ap g ho.lt hg.1⟩
set_option maxRecDepth 100000 in
set_option maxHeartbeats 8000000 in
theorem wagain_any (w0 w : World) (P : Nat) (D : Dk) (R : RDk) (j : Nat) (tv wv : Value) (B : List TB) (h : Pl w0 w P D R j tv wv B) :
    Calls Tryz.prog 38 #[.pointer (some ⟨P, 0, none⟩)] w (StP w0 P (j + 1)) := by
  have HP : Hid (Pl w0 w P D R j tv wv B) := h
  have hnb1 : D.nb ≤ 16384 := by have := h.s.d.nb1; omega
  have hnb0 : 1 ≤ D.nb := h.s.d.nb0
  obtain ⟨d, hd⟩ : ∃ d, D.d = d := ⟨_, rfl⟩
  obtain ⟨r, hr⟩ : ∃ r, R.r = r := ⟨_, rfl⟩
  obtain ⟨nb, hnb⟩ : ∃ nb, D.nb = nb := ⟨_, rfl⟩
  have HIm : Hid (Calls Tryz.prog 15 #[.pointer (some ⟨d, 0, none⟩)] w fun e w' => ∃ g cap, e = .returned (.slice (some ⟨g, 0, none⟩) (512 * nb : Nat) cap) ∧ w.heap.size ≤ g ∧ OwnB w' g cap D.las ∧ Below w.heap.size w w') := by
    have := image_any w D h.s.d; rw [hd, hnb] at this; exact this
  have HRm : Hid (∀ wx, Below w.heap.size w wx → Calls Tryz.prog 16 #[.pointer (some ⟨r, 0, none⟩)] wx fun e w' => ∃ g cap, e = .returned (.slice (some ⟨g, 0, none⟩) (512 * nb : Nat) cap) ∧ wx.heap.size ≤ g ∧ OwnB w' g cap D.las ∧ Below wx.heap.size wx w') := fun wx hx => by
    have := (h.s.t.on hx).image; rw [hr] at this; rw [← hnb]; exact this
  have HLl : Hid (D.las.length = 512 * nb) := by rw [← hnb]; exact h.s.d.lasl
  have HC : Hid (∀ wx, Below w.heap.size w wx → (wx.cell? ⟨P, 0, none⟩ = some (.pointer (some ⟨d, 0, none⟩)) ∧ wx.cell? ⟨P, 1, none⟩ = some (.pointer (some ⟨r, 0, none⟩))) ∧ wx.frozen? ⟨P, 0, none⟩ = false ∧ wx.frozen? ⟨P, 1, none⟩ = false) := fun wx hx => by
    have y1 := (below_fr hx (fun _ => False)).heap h.box (fun e => e)
    rw [hd, hr] at y1
    exact ⟨⟨cell_of_row _ _ 0 _ _ _ y1, cell_of_row _ _ 1 _ _ _ y1⟩, frozen_of_row _ _ _ _ _ y1, frozen_of_row _ _ _ _ _ y1⟩
  rw [hnb] at hnb0 hnb1
  clear h hd hr hnb
  have E1 := eql_ptr1
  obtain ⟨⟨c0, c1⟩, _⟩ := HC.out w (Below.refl _ _)
  go_enter Tryz.func38, Tryz.ntmps38
  go_upto_region 2 with (first
    | (go_at_call 15; refine HIm.out.mono ?_; rintro e w1 ⟨g1, cap1, rfl, h1, h2, h3⟩; have H1 : Hid (OwnB w1 g1 cap1 D.las ∧ Below w.heap.size w w1) := ⟨h2, h3⟩; clear h1 h2 h3)
    | (go_at_call 77; refine (open_yes w1 ⟨g1, 0, none⟩ cap1 nb D.las H1.out.1.bytes HLl.out hnb0 hnb1).mono ?_; rintro e w2 ⟨d2, nw, L, capL, rfl, hd, hnw, hL, hD, hb2⟩; have H2 : Hid ((w1.heap.size ≤ d2 ∧ w1.heap.size ≤ nw ∧ w1.heap.size ≤ L) ∧ Disk w2 (newDk d2 L nw capL nb D.las) ∧ Below w1.heap.size w1 w2) := ⟨⟨hd, hnw, hL⟩, hD, hb2⟩; clear hd hnw hL hD hb2))
  clear c0 c1
  have HB2 : Hid (Below w.heap.size w w2) := H1.out.2.trans (H2.out.2.2.mono H1.out.2.size)
  have HR2 : Hid (Calls Tryz.prog 16 #[.pointer (some ⟨r, 0, none⟩)] w2 fun e w' => ∃ g cap, e = .returned (.slice (some ⟨g, 0, none⟩) (512 * nb : Nat) cap) ∧ w2.heap.size ≤ g ∧ OwnB w' g cap D.las ∧ Below w2.heap.size w2 w') := HRm.out w2 HB2.out
  obtain ⟨⟨c0, c1⟩, _⟩ := HC.out w2 HB2.out
  go_upto_region 3 with (first
    | (go_at_call 16; refine HR2.out.mono ?_; rintro e w3 ⟨g3, cap3, rfl, h1, h2, h3⟩; have H3 : Hid (OwnB w3 g3 cap3 D.las ∧ Below w2.heap.size w2 w3) := ⟨h2, h3⟩; clear h1 h2 h3)
    | (go_at_call 78; refine (of_yesR w3 ⟨g3, 0, none⟩ cap3 nb D.las H3.out.1.bytes HLl.out hnb0 hnb1).mono ?_; rintro e w4 ⟨r2, g4, cap4, rfl, hr, hg, hR, hb⟩; have H4 : Hid ((w3.heap.size ≤ r2 ∧ w3.heap.size ≤ g4) ∧ RDisk w4 (newR r2 nb g4 cap4 D.las) ∧ Below w3.heap.size w3 w4) := ⟨⟨hr, hg⟩, hR, hb⟩; clear hr hg hR hb))
  clear c0 c1
  have HN : Hid (NewW w w4 (newDk d2 L nw capL nb D.las) (newR r2 nb g4 cap4 D.las) (j + 1)) := new_ww H2.out.1 H2.out.2.1 H4.out.1 H4.out.2.1 H1.out.2 H2.out.2.2 H3.out.2 H4.out.2.2
  obtain ⟨⟨c0, c1⟩, f0, f1⟩ := HC.out w4 HN.out.be
  go_wp2
  go_ret
  exact ⟨rfl, newDk d2 L nw capL nb D.las, newR r2 nb g4 cap4 D.las, _, _, _, HP.out.renew HN.out rfl rfl (by omega)⟩
end Go.Proofs.YtamlbpbhlgmcoaaGreatDoor
