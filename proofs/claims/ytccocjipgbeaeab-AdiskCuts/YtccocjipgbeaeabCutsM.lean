import Derived.Test.YtccocjipgbeaeabSame
import Derived.Test.YtccocjipgbeaeabArm
namespace Go.Proofs.Ytccocjipgbeaeab
open Go.RowKit Adk

/-- the tape tells the disk -/
def Rep (m : Nat) (a : AD) : Prop := ∀ L : List ActR, L.map ActR.abs = a.T → Sim ((AD0 m (frs m)).takes L L.length) a
theorem rep_zero (m : Nat) : Rep m (AD0 m (frs m)) := fun L hL => by
  have : L = [] := by
    have hT : (AD0 m (frs m)).T = [] := rfl
    rw [hT] at hL
    exact List.map_eq_nil_iff.1 hL
  subst this
  exact ⟨rfl, rfl, rfl, rfl, rfl⟩
theorem split_last {L : List ActR} {T : List (Int × Int × List Int)} {t : Int × Int × List Int} (h : L.map ActR.abs = T ++ [t]) : ∃ L1 q, L = L1 ++ [q] ∧ L1.map ActR.abs = T ∧ q.abs = t := by
  obtain ⟨L1, L2, rfl, h1, h2⟩ := List.map_eq_append_iff.1 h
  obtain ⟨q, L3, rfl, h3, h4⟩ := List.map_eq_cons_iff.1 h2
  have : L3 = [] := List.map_eq_nil_iff.1 h4
  subst this
  exact ⟨L1, q, rfl, h1, h3⟩
theorem Rep.next_w {m : Nat} {a : AD} (h : Rep m a) (h0 : a.at_ = 0) (b x : Int) : Rep m (a.do b x false) := fun L hL => by
  rw [do_w b x h0] at hL ⊢
  obtain ⟨L1, q, rfl, h1, h2⟩ := split_last hL
  have s1 := h L1 h1
  have e : (AD0 m (frs m)).takes (L1 ++ [q]) (L1 ++ [q]).length = ((AD0 m (frs m)).takes L1 L1.length).take q := by
    rw [List.length_append]
    exact takes_two _ L1 [q] 1
  simp only [ActR.abs, Prod.mk.injEq] at h2
  have s2 := s1.take (q := q) (r := q) rfl rfl rfl
  rw [take_w h0 h2.1] at s2
  rw [e]
  refine ⟨s2.nb, s2.las, ?_, s2.a0, s2.b0⟩
  rw [s2.P]
  show a.P ++ [(q.b.toNat, q.x)] = a.P ++ [((b % (a.nb : Int)).toNat, one x)]
  rw [h2.2.1, h2.2.2, Int.toNat_natCast]
theorem Rep.next_f {m : Nat} {a : AD} (h : Rep m a) (h0 : a.at_ = 0) (b x : Int) : Rep m (a.do b x true) := fun L hL => by
  rw [do_f b x h0] at hL ⊢
  obtain ⟨L1, q, rfl, h1, h2⟩ := split_last hL
  have s1 := h L1 h1
  have e : (AD0 m (frs m)).takes (L1 ++ [q]) (L1 ++ [q]).length = ((AD0 m (frs m)).takes L1 L1.length).take q := by
    rw [List.length_append]
    exact takes_two _ L1 [q] 1
  simp only [ActR.abs, Prod.mk.injEq] at h2
  have s2 := s1.take (q := q) (r := q) rfl rfl rfl
  rw [take_f h0 (by rw [h2.1]; decide)] at s2
  rw [e]
  exact ⟨s2.nb, s2.las, s2.P, s2.a0, s2.b0⟩
/-- P3.10 -/
theorem Rep.after {m : Nat} {a : AD} (h : Rep m a) (L : List ActR) (hL : L.map ActR.abs = a.T) (keep : List Bool) : aft m (frs m) L keep = (a.cut (kpOf keep)).las := (h L hL).cut (kpOf keep)
/-- the armed disk beside the other, ahead of its cut -/
theorem arm_next {a : AD} {t : Int} {keep : List Bool} (h0 : a.at_ = 0) (ht : 1 < t) (b x : Int) (fl : Bool) : (a.arm t keep).do b x fl = (a.do b x fl).arm (t - 1) keep ∧ (a.arm t keep).stepE = 0 := by
  have e : (a.arm t keep).stepE = 0 := by
    unfold AD.stepE
    exact if_neg (by show ¬ t = 1; omega)
  refine ⟨?_, e⟩
  cases fl with
  | true =>
    rw [do_f b x h0]
    show AD.flush _ = _
    unfold AD.flush
    rw [if_neg (by show ¬ t = 1; omega)]
    simp only [tick_eq]
    have : (0 : Int) < t := by omega
    simp only [AD.arm, this, if_true, AD.settle, AD.full]
    rfl
  | false =>
    rw [do_w b x h0]
    show AD.write _ _ _ = _
    unfold AD.write
    rw [if_neg (by show ¬ t = 1; omega)]
    simp only [tick_eq]
    have : (0 : Int) < t := by omega
    simp only [AD.arm, this, if_true]
/-- at its cut -/
structure CutAt (a c : AD) (K : Nat) (keep : List Bool) : Prop where
  down : c.down = true
  P : c.P = []
  las : c.las = (a.cut (kpOf keep)).las
  T : c.T = a.T
  n : c.wr + c.fl = K
theorem cut_w {a : AD} {keep : List Bool} (h0 : a.at_ = 0) (b x : Int) : CutAt (a.do b x false) ((a.arm 1 keep).do b x false) (a.wr + a.fl + 1) keep ∧ (a.arm 1 keep).stepE = 30 := by
  refine ⟨?_, rfl⟩
  rw [do_w b x h0]
  exact ⟨rfl, rfl, rfl, rfl, by show a.wr + 1 + a.fl = _; omega⟩
theorem cut_f {a : AD} {keep : List Bool} (b x : Int) : CutAt a ((a.arm 1 keep).do b x true) (a.wr + a.fl + 1) keep ∧ (a.arm 1 keep).stepE = 30 :=
  ⟨⟨rfl, rfl, rfl, rfl, by show a.wr + (a.fl + 1) = _; omega⟩, rfl⟩
/-- two disks beside one another -/
structure Two (w wr : World) (D C : Dk) (g cap m : Nat) : Prop where
  dd : Disk wr D
  dc : Disk wr C
  s1 : ∀ k, D.all k → ¬ C.has k
  s2 : ∀ k, C.all k → ¬ D.has k
  c1 : ∀ k, D.has k → w.heap.size ≤ k
  c2 : ∀ k, C.has k → w.heap.size ≤ k
  im : OwnB wr g cap (frs m)
  i1 : ¬ D.has g
  i2 : ¬ C.has g
  bel : Below w.heap.size w wr
theorem Two.on {w wr wx : World} {D C : Dk} {g cap m : Nat} (h : Two w wr D C g cap m) (x : Below wr.heap.size wr wx) : Two w wx D C g cap m :=
  ⟨h.dd.on x, h.dc.on x, h.s1, h.s2, h.c1, h.c2, h.im.on x, h.i1, h.i2, h.bel.trans (x.mono h.bel.size)⟩
theorem Two.mvC {w wr wx : World} {D C C' : Dk} {g cap m : Nat} (h : Two w wr D C g cap m) (h1 : Disk wx C') (h2 : Mv wr C wx C') (h3 : Al wr.heap.size C C') : Two w wx D C' g cap m :=
  ⟨h.dd.fr h2.fr h.s1, h1, fun k hk e => (h2.has k e).elim (h.s1 k hk) (fun z => absurd (h.dd.allLt hk) (Nat.not_lt.2 z)), fun k hk e => (h3 k hk).elim (fun z => h.s2 k z e) (fun z => absurd (h.dd.hasLt e) (Nat.not_lt.2 z)), h.c1, (h2.below w.heap.size h.bel.size h.c2).2, h.im.fr h2.fr h.i2, h.i1, fun e => (h2.has g e).elim h.i2 (fun z => absurd h.im.lt (Nat.not_lt.2 z)), h.bel.trans (h2.below w.heap.size h.bel.size h.c2).1⟩
theorem Two.flip {w wr : World} {D C : Dk} {g cap m : Nat} (h : Two w wr D C g cap m) : Two w wr C D g cap m := ⟨h.dc, h.dd, h.s2, h.s1, h.c2, h.c1, h.im, h.i2, h.i1, h.bel⟩
theorem Two.mvD {w wr wx : World} {D C D' : Dk} {g cap m : Nat} (h : Two w wr D C g cap m) (h1 : Disk wx D') (h2 : Mv wr D wx D') (h3 : Al wr.heap.size D D') : Two w wx D' C g cap m := (h.flip.mvC h1 h2 h3).flip
set_option maxRecDepth 100000 in
set_option maxHeartbeats 4000000 in
theorem do_down (w : World) (D : Dk) (h : Disk w D) (b x : Int) (fl : Bool) (hx : 0 ≤ x ∧ x < 256) (hd : D.down = true) :
    Calls Try.prog 8 #[.pointer (some ⟨D.d, 0, none⟩), .agg #[.int .i64 b, .int .u8 x, .bool fl]] w fun e w' => e = .returned (.int .i64 30) ∧ Below w.heap.size w w' := by
  have HA : Hid (Below w.heap.size w (w.alloc (.cells #[.int .i64 b, .int .u8 x, .bool fl] 34))) := (Below.refl _ _).alloc (Nat.le_refl _) _
  have HR := heap_alloc_new w (.cells #[.int .i64 b, .int .u8 x, .bool fl] 34)
  have HC : Hid (∀ j, (w.alloc (.cells #[.int .i64 b, .int .u8 x, .bool fl] 34)).cell? ⟨w.heap.size, j, none⟩ = (#[Value.int .i64 b, .int .u8 x, .bool fl])[j]?) := fun j => cell_of_row _ _ _ _ _ _ HR
  have HD0 : Hid (Disk w D) := h
  have HX : Hid (0 ≤ x ∧ x < 256) := hx
  have hn1 := h.nb1
  have hn0 := h.nb0
  have HT : Hid (∀ i, touchE D i = 30) := fun i => by unfold touchE; rw [hd, if_pos rfl]
  clear h HR hx
  go_enter Try.func8, Try.ntmps8
  go_upto_region 1 with fail
  generalize hwa : w.alloc (.cells #[.int .i64 b, .int .u8 x, .bool fl] 34) = wa at *
  have HB0 : Hid (Below wa.heap.size wa wa.drew) := (Below.refl _ wa).drew
  have HD : Hid (Disk wa D) := HD0.out.on HA.out
  have S0 : wa.cell? ⟨w.heap.size, 0, none⟩ = some (.int .i64 b) := HC.out 0
  have S1 : wa.cell? ⟨w.heap.size, 1, none⟩ = some (.int .u8 x) := HC.out 1
  have S2 : wa.cell? ⟨w.heap.size, 2, none⟩ = some (.bool fl) := HC.out 2
  clear hwa HC HD0
  cases fl with
  | true =>
    go_wp2_with (go_at_call 29; refine (flush_no _ D HD.out hd).mono ?_; rintro e w1 ⟨rfl, hb⟩; have H1 : Hid (Below w.heap.size w w1) := HA.out.trans (hb.mono HA.out.size); clear hb)
    go_ret
    exact ⟨rfl, H1.out⟩
  | false =>
    go_upto_region 3 with fail
    go_region_law (go_simp; first
      | (go_at_call 26; refine (blocks_any _ D (HD.out.on (by first | exact HB1.out | exact HB0.out))).mono ?_; rintro e w' ⟨rfl, rfl⟩)
      | (go_at_call 6; refine (mod_any _ b D.nb (by omega) (by omega)).mono ?_; rintro e w' ⟨rfl, rfl⟩)
      | (go_at_call 24; refine (lblock_any _ x HX.out).mono ?_; rintro e w1 ⟨rfl, ho, hb⟩; have HB1 : Hid (Below wa.heap.size wa w1) := HB0.out.trans hb; have S0' : w1.cell? ⟨w.heap.size, 0, none⟩ = some (.int .i64 b) := (below_fr HB1.out (fun _ => False)).cell S0 (fun e => e); clear ho hb)
      | (go_at_call 30; refine (write_no _ D (HD.out.on HB1.out) _ _ _ _ (by rw [HT.out]; decide)).mono ?_; rintro e w' ⟨rfl, rfl⟩; rw [HT.out]))
    all_goals
      go_wp2
      go_ret
      exact ⟨rfl, HA.out.trans (HB1.out.mono HA.out.size)⟩
end Go.Proofs.Ytccocjipgbeaeab
