import Derived.Test.YtipbflmonhlnjaaKASettle
namespace Go.Proofs.Ytipbflmonhlnjaa
open Go.RowKit Rec

/-- the disk behind a power cut -/
def Dk.cut (D : Dk) (kp : Nat → Bool) : Dk := { D.settled kp with down := true }
/-- what was done to a disk -/
structure Mv (w : World) (D : Dk) (w' : World) (D' : Dk) : Prop where
  fr : Fr D.has w w'
  has : ∀ k, D'.has k → D.has k ∨ w.heap.size ≤ k
  d : D'.d = D.d
  nb : D'.nb = D.nb
theorem Mv.trans {w w' w'' : World} {D D' D'' : Dk} (x : Mv w D w' D') (y : Mv w' D' w'' D'') : Mv w D w'' D'' :=
  ⟨x.fr.trans y.fr x.has, fun k hk => (y.has k hk).elim (x.has k) (fun h => .inr (Nat.le_trans x.fr.size h)), y.d.trans x.d, y.nb.trans x.nb⟩
theorem Mv.refl (w : World) (D : Dk) : Mv w D w D := ⟨Fr.refl _ _, fun _ h => .inl h, rfl, rfl⟩
theorem Mv.below {w w' : World} {D D' : Dk} (x : Mv w D w' D') (B : Nat) (hB : B ≤ w.heap.size) (h : ∀ k, D.has k → B ≤ k) : Below B w w' ∧ ∀ k, D'.has k → B ≤ k :=
  ⟨x.fr.below B h hB, fun k hk => (x.has k hk).elim (h k) (fun h2 => Nat.le_trans hB h2)⟩
theorem mv_on (w w' : World) (D : Dk) (x : Below w.heap.size w w') : Mv w D w' D := ⟨below_fr x _, fun _ h => .inl h, rfl, rfl⟩
theorem settled_has (D : Dk) (kp : Nat → Bool) (k : Nat) : (D.settled kp).has k ↔ D.has k := by simp only [Dk.has, Dk.settled, pv0_block]
/-- a field of the disk's own changes: what does not lie elsewhere -/
theorem Disk.put1 {w : World} {D D' : Dk} (h : Disk w D) (j : Nat) (v : Value) (hv : D'.cells = D.cells.setIfInBounds j v)
    (e : D' = { D with wr := D'.wr, fl := D'.fl, at_ := D'.at_, down := D'.down }) (hd : D'.down = true → D'.pen = []) (h1 : D'.wr ≤ 3518437208800) (h2 : D'.fl ≤ 3518437208800) (h3 : D'.at_ ≤ 9223372036854775807) :
    Disk (w.setCell ⟨D.d, j, none⟩ v) D' ∧ Mv w D (w.setCell ⟨D.d, j, none⟩ v) D' := by
  have fs : Fr (fun i => i = D.d) w (w.setCell ⟨D.d, j, none⟩ v) := Fr.set
  have hfr : Fr D.has w (w.setCell ⟨D.d, j, none⟩ v) := fs.mono (fun _ e => .inl e)
  generalize D'.wr = x1 at *
  generalize D'.fl = x2 at *
  generalize D'.at_ = x3 at *
  generalize D'.down = x4 at *
  subst e
  refine ⟨?_, hfr, fun _ hk => .inl hk, rfl, rfl⟩
  exact {
    row := by rw [hv]; exact heap_setCell_same _ _ _ _ _ _ h.row
    las := h.las.fr fs (fun e => h.ap.dL e.symm)
    lasl := h.lasl
    nb0 := h.nb0
    nb1 := h.nb1
    nws := owns_fr h.nws fs (fun k hk e => by cases hk; exact h.ap.dn e.symm)
    pen := owns_fr h.pen fs (fun k hk => (h.ap.p k hk).1)
    penb := fun p hp => ⟨(h.penb p hp).1, (h.penb p hp).2.1, (h.penb p hp).2.2.1.fr hfr (h.penb p hp).2.2.2, (h.penb p hp).2.2.2⟩
    tap := owns_fr h.tap fs (fun k hk => (h.ap.t k hk).1)
    tapb := fun a ha => by
      rcases h.tapb a ha with ⟨h1, h2, h3, h4, g, cap, h5, h6, h7⟩ | h'
      · exact .inl ⟨h1, h2, h3, h4, g, cap, h5, h6.fr hfr h7, h7⟩
      · exact .inr h'
    kee := h.kee.fr hfr (fun _ => h.keb)
    keb := h.keb
    kel := fun k hk => Nat.lt_of_lt_of_le (h.kel k hk) hfr.size
    ap := ⟨h.ap.dL, h.ap.dn, h.ap.Ln, h.ap.p, h.ap.t⟩
    dn := hd
    pl := h.pl
    tl := h.tl
    wrs := h1
    fls := h2
    at1 := h3 }
theorem Disk.frozen {w : World} {D : Dk} (h : Disk w D) (j : Nat) : w.frozen? ⟨D.d, j, none⟩ = false := frozen_of_row _ _ _ _ _ h.row
set_option maxRecDepth 100000 in
set_option maxHeartbeats 800000 in
theorem crash_any (w : World) (D : Dk) (h : Disk w D) (v : Value) (keep : List Bool) (hkv : Bools w v keep) (hkn : keep ≠ [] → ∀ k, v.ownBlock = some k → ¬ D.has k) (hkl : keep.length ≤ 9223372036854775807) :
    Calls Try.prog 27 #[.pointer (some ⟨D.d, 0, none⟩), v] w fun e w' => e = .returned (.tuple #[]) ∧ Disk w' (D.cut (kpOf keep)) ∧ Mv w D w' (D.cut (kpOf keep)) := by
  have HA : Hid (Below w.heap.size w (w.alloc (.cells #[v] 42))) := (Below.refl _ _).alloc (Nat.le_refl _) _
  have HC : Hid ((w.alloc (.cells #[v] 42)).cell? ⟨w.heap.size, 0, none⟩ = some v) := cell_of_row _ _ _ _ _ _ (heap_alloc_new w _)
  have HD : Hid (Disk w D) := h
  have HN : Hid (¬ D.has w.heap.size) := fun e => absurd (h.hasLt e) (by omega)
  have HK : Hid (Bools (w.alloc (.cells #[v] 42)) v keep) := hkv.fr (below_fr HA.out (fun k => w.heap.size ≤ k)) (fun hl k hk => Nat.not_le.2 (hkv.lt hl hk))
  have HV : Hid (keep ≠ [] → ∀ k, v.ownBlock = some k → ¬ D.has k) := hkn
  obtain ⟨va, vc, rfl, _⟩ := hkv
  clear h hkn
  go_enter Try.func27, Try.ntmps27
  go_wp2_with (go_at_call 56; refine (settle_keep _ D (HD.out.on HA.out) _ _ keep HC.out HN.out HK.out HV.out hkl).mono ?_; rintro e w2 ⟨rfl, hd2, hf2⟩; have HD2 : Hid (Disk w2 (D.settled (kpOf keep))) := hd2; have HF2 : Hid (Fr D.has (w.alloc (.cells #[.slice va keep.length vc] 42)) w2) := hf2; have F2 : w2.frozen? ⟨D.d, 8, none⟩ = false := hd2.frozen 8; have C2 : w2.cell? ⟨D.d, 8, none⟩ = some (.bool D.down) := hd2.cell 8; clear hd2 hf2)
  go_end0
  have h8 := HD2.out.put1 (D' := D.cut (kpOf keep)) 8 (.bool true) rfl rfl (fun _ => rfl) HD2.out.wrs HD2.out.fls HD2.out.at1
  have m1 : Mv w D w2 (D.settled (kpOf keep)) := ⟨(below_fr HA.out D.has).trans HF2.out (fun _ h => .inl h), fun k hk => .inl ((settled_has D _ k).1 hk), rfl, rfl⟩
  exact ⟨rfl, h8.1, m1.trans h8.2⟩
/-- may the power go at this step? what is left then -/
def Dk.ticked (D : Dk) : Dk := if 0 < D.at_ then { D with at_ := D.at_ - 1 } else D
def Dk.goes (D : Dk) : Bool := decide (D.at_ = 1)
set_option maxRecDepth 100000 in
set_option maxHeartbeats 800000 in
theorem step_goes (w : World) (D : Dk) (h : Disk w D) (f : Value) (hg : D.at_ = 1) (hkl : D.keep.length ≤ 9223372036854775807) :
    Calls Try.prog 52 #[.pointer (some ⟨D.d, 0, none⟩), f] w fun e w' => e = .returned (.int .i64 30) ∧ Disk w' (({ D with at_ := 0 } : Dk).cut (kpOf D.keep)) ∧ Mv w D w' (({ D with at_ := 0 } : Dk).cut (kpOf D.keep)) := by
  have C6 : w.cell? ⟨D.d, 6, none⟩ = some (.int .i64 1) := by rw [← hg]; exact h.cell 6
  have F6 := h.frozen 6
  obtain ⟨h8, m8⟩ := h.put1 (D' := { D with at_ := 0 }) 6 (.int .i64 0) rfl rfl h.dn h.wrs h.fls (by show (0 : Int) ≤ _; omega)
  have HD : Hid (Disk (w.setCell ⟨D.d, 6, none⟩ (.int .i64 0)) { D with at_ := 0 }) := h8
  have HM : Hid (Mv w D (w.setCell ⟨D.d, 6, none⟩ (.int .i64 0)) { D with at_ := 0 }) := m8
  have C7 : (w.setCell ⟨D.d, 6, none⟩ (.int .i64 0)).cell? ⟨D.d, 7, none⟩ = some D.kv := h8.cell 7
  clear h h8 m8
  go_enter Try.func52, Try.ntmps52
  go_wp2_with (go_at_call 27; refine (crash_any _ { D with at_ := 0 } HD.out _ D.keep HD.out.kee (fun _ => HD.out.keb) hkl).mono ?_; rintro e w2 ⟨rfl, hd2, hm2⟩; have HD2 : Hid (Disk w2 (({ D with at_ := 0 } : Dk).cut (kpOf D.keep)) ∧ Mv w D w2 (({ D with at_ := 0 } : Dk).cut (kpOf D.keep))) := ⟨hd2, HM.out.trans hm2⟩; clear hd2 hm2)
  go_ret
  exact ⟨rfl, HD2.out⟩
end Go.Proofs.Ytipbflmonhlnjaa
