import Derived.Test.YtcbebalakdkgnaaGreatDoorKWHo
import Derived.Maps.OwnSet
import Derived.Lib.SlKeysI
namespace Go.Proofs.YtcbebalakdkgnaaGreatDoor
open Go.RowKit Rec

theorem LogAt.lists {w0 w : World} {D : Dk} {F : List Int} {nb k : Nat} {v1 v2 : Value} {L : List Rb} (h : LogAt w0 w F nb v1 v2 L) (hk : (logN F nb).length = k) (h0 : 0 < k) (hl : F.length = 512 * nb) (hnb : 98 ≤ nb) (hD : ∀ b, D.has b → b < w0.heap.size) (hN : D.nb = nb) :
    ∃ gn cn gd cd, v1 = .slice (some ⟨gn, 0, none⟩) k cn ∧ v2 = .slice (some ⟨gd, 0, none⟩) k cd ∧ Lists w D gn gd k (logN F nb) (logD F k) := by
  obtain ⟨gn, cn, gd, cd, e1, e2, h1, h2, hat⟩ := h.at_ hk h0
  have hkl := logN_len F nb
  rw [hk] at hkl
  refine ⟨gn, cn, gd, cd, e1, e2, fun i hi => ?_, fun i hi => ?_, hk, logD_length _ _⟩
  · obtain ⟨m, hm, m1, m2⟩ := logN_nat F nb i (by rw [hk]; exact hi)
    rw [hN]
    refine ⟨(hat i hi).1, ?_, ?_⟩ <;> omega
  · obtain ⟨_, g, c, n2, n3, n4⟩ := hat i hi
    refine ⟨g, c, n2, ?_, fun e => by have := hD g e; omega⟩
    rw [row_logD F k i hi]
    exact BlkAt.of n3 (bck_length F _ nb hl (by omega))
set_option maxRecDepth 100000 in
set_option maxHeartbeats 4000000 in
theorem recover_yes (w : World) (D : Dk) (h : Disk w D) (hT : TabAt w) (he : openE D = 0) (k : Nat) (hk : (logN D.full D.nb).length = k) (h0 : 0 < k) (hr : RoomN D.abs (k + 3)) :
    Calls Tryz.prog 53 #[.pointer (some ⟨D.d, 0, none⟩)] w fun e w' => ((D.abs.takeE (homeA (logH D.full D.nb)) = 0 ∧ e = .returned (.tuple #[.int .i64 k, .int .i64 0])) ∨ (D.abs.takeE (homeA (logH D.full D.nb)) = 30 ∧ e = .returned (.tuple #[.int .i64 0, .int .i64 30]))) ∧ ∃ E, DoneAt w D w' E (homeA (logH D.full D.nb)) := by
  obtain ⟨hd, hnb, heL⟩ := openE_facts he
  have hnb1 := h.nb1
  have hkl := logN_len D.full D.nb
  rw [hk] at hkl
  have hmf : ∀ (fn : Fn) (first cap : Array Value) (w : World), (Instr.makeFunc fn first cap).run Tryz.prog w = .ok (.func fn first cap) w := fun _ _ _ _ => rfl
  have HB : Hid (Below w.heap.size w (w.alloc (.cells #[.int .i64 0] 25))) := (Below.refl _ _).alloc (Nat.le_refl _) _
  have HP : Hid ((w.alloc (.cells #[.int .i64 0] 25)).heap[w.heap.size]? = some (.cells #[.int .i64 0] 25 (0, 0))) := heap_alloc_new w _
  have HD : Hid (Disk w D) := h
  have HDl : Hid (∀ b, D.has b → b < w.heap.size) := fun b hb => h.hasLt hb
  have HL : Hid (∀ wx, Below w.heap.size w wx → Calls Tryz.prog 79 #[.pointer (some ⟨D.d, 0, none⟩)] wx fun e w' => ∃ gn cn gd cd, e = .returned (.tuple #[.slice (some ⟨gn, 0, none⟩) k cn, .slice (some ⟨gd, 0, none⟩) k cd]) ∧ Lists w' D gn gd k (logN D.full D.nb) (logD D.full k) ∧ Below wx.heap.size wx w') := fun wx hb => by
    refine (log_yes wx D (h.on hb) (hT.on hb) he).mono ?_
    rintro e w' ⟨v1, v2, L, rfl, hA⟩
    obtain ⟨gn, cn, gd, cd, rfl, rfl, hL⟩ := hA.lists (D := D) hk h0 h.full_length hnb (fun b hb' => Nat.lt_of_lt_of_le (HDl.out b hb') hb.size) rfl
    exact ⟨gn, cn, gd, cd, rfl, hL, hA.bel⟩
  have HH : Hid (homes (logN D.full D.nb) (logD D.full k) = logH D.full D.nb) := by unfold logH; rw [hk]; rfl
  have HHl : Hid ((homeA (logH D.full D.nb)).length = k + 3) := by rw [homeA_length, logH_length, hk]; rfl
  have HR : Hid (RoomN D.abs (k + 3)) := hr
  clear h hT he hd heL hr hk
  obtain ⟨acts, hacts⟩ : ∃ acts, homeA (logH D.full D.nb) = acts := ⟨_, rfl⟩
  have HAc : Hid (homeA (homes (logN D.full D.nb) (logD D.full k)) = acts) := by rw [HH.out]; exact hacts
  rw [hacts] at HHl ⊢
  clear hacts HH
  obtain ⟨ns, hns⟩ : ∃ ns, logN D.full D.nb = ns := ⟨_, rfl⟩
  obtain ⟨ds, hds⟩ : ∃ ds, logD D.full k = ds := ⟨_, rfl⟩
  rw [hns, hds] at HL HAc
  clear hns hds
  go_enter_defers Tryz.func53, Tryz.ntmps53
  generalize hwa : w.alloc (.cells #[.int .i64 0] 25) = wa at HB HP
  have hz : ((k : Int) == 0) = false := by simp; omega
  go_upto_region 5 with (go_at_call 79; refine (HL.out _ HB.out).mono ?_; rintro e w1 ⟨gn, cn, gd, cd, rfl, hA, hb⟩; have H1 : Hid (Lists w1 D gn gd k ns ds ∧ Below wa.heap.size wa w1 ∧ Below w.heap.size w w1) := ⟨hA, hb, HB.out.trans (hb.mono HB.out.size)⟩; clear hA hb)
  have H3 : Hid (Stp w1.heap.size (w1.alloc (.cells #[.pointer (some ⟨D.d, 0, none⟩), .slice none 0 0] 124)) D w1.heap.size []) := stp_new w1 D (fun k hk => Nat.lt_of_lt_of_le (HDl.out k hk) H1.out.2.2.size)
  obtain ⟨w3, hw3⟩ : ∃ w3, w3 = w1.alloc (.cells #[.pointer (some ⟨D.d, 0, none⟩), .slice none 0 0] 124) := ⟨_, rfl⟩
  have H3b : Hid (Below w1.heap.size w1 w3) := by rw [hw3]; exact (rows1 w1 _ _).1
  rw [← hw3] at H3
  go_upto_region 6 with fail
  rw [← hw3]
  clear hw3 hwa
  obtain ⟨B, hB⟩ : ∃ B, w1.heap.size = B := ⟨_, rfl⟩
  have HBe : Hid (w1.heap.size = B) := hB
  rw [hB] at H3 H3b ⊢
  clear hB
  have HM : Hid (Calls Tryz.prog 72 #[.pointer (some ⟨B, 0, none⟩), .slice (some ⟨gn, 0, none⟩) k cn, .slice (some ⟨gd, 0, none⟩) k cd] w3 fun e w' => e = .returned (.tuple #[]) ∧ Stp B w' D B acts ∧ Below B w3 w') := by
    have := home_any B w3 D B [] H3.out gn cn gd cd k ns ds (fun wx hb => by
      have hbx : Below w1.heap.size w1 wx := by rw [HBe.out]; exact H3b.out.trans hb
      exact H1.out.1.on hbx) (by omega) (by simp; omega)
    rw [List.nil_append, HAc.out] at this
    exact this
  have HC : Hid (∀ w', Stp B w' D B acts → Below B w3 w' → Calls Tryz.prog 73 #[.pointer (some ⟨B, 0, none⟩)] w' fun e w'' => e = .returned (.int .i64 (D.abs.takeE acts)) ∧ ∃ E, DoneAt w' D w'' E acts) := fun w' hs hb => by
    obtain ⟨v, fs, h1, _⟩ := hs.at_
    have hbw : Below w.heap.size w w' := by
      have hb1 : Below w1.heap.size w1 w' := by rw [HBe.out]; exact H3b.out.trans hb
      exact H1.out.2.2.trans (hb1.mono H1.out.2.2.size)
    exact carry_any w' D (HD.out.on hbw) B v fs acts h1 (by rw [HHl.out]; exact HR.out) (by rw [HHl.out]; omega)
  go_upto_region 7 with (go_at_call 72; refine HM.out.mono ?_; rintro e w4 ⟨rfl, h1, b1⟩; have H4 : Hid (Stp B w4 D B acts ∧ Below B w3 w4) := ⟨h1, b1⟩; clear h1 b1)
  have H4b : Hid (Below w.heap.size w w4 ∧ w4.heap[w.heap.size]? = some (.cells #[.int .i64 0] 25 (0, 0))) := by
    have hb1 : Below w1.heap.size w1 w4 := by rw [HBe.out]; exact H3b.out.trans H4.out.2
    exact ⟨H1.out.2.2.trans (hb1.mono H1.out.2.2.size), (hb1.block _ (Nat.lt_of_lt_of_le (heap_lt HP.out) H1.out.2.1.size)).trans ((H1.out.2.1.block _ (heap_lt HP.out)).trans HP.out)⟩
  clear HM HL HP HBe H3b H3
  have HPn : Hid (¬ D.has w.heap.size) := fun e => absurd (HDl.out _ e) (Nat.lt_irrefl _)
  have HC2 : Hid (Calls Tryz.prog 73 #[.pointer (some ⟨B, 0, none⟩)] w4 fun e w'' => e = .returned (.int .i64 (D.abs.takeE acts)) ∧ ∃ E, DoneAt w4 D w'' E acts ∧ w''.heap[w.heap.size]? = some (.cells #[.int .i64 0] 25 (0, 0))) := by
    refine (HC.out w4 H4.out.1 H4.out.2).mono ?_
    rintro e w5 ⟨rfl, E, hd⟩
    exact ⟨rfl, E, hd, hd.mv.fr.heap H4b.out.2 HPn.out⟩
  clear HC
  rcases takeE_vals D.abs acts with hv | hv
  · have HV : Hid (D.abs.takeE acts = 0) := hv
    rw [hv] at HC2
    clear hv
    go_upto_region 8 with (go_at_call 73; refine HC2.out.mono ?_; rintro e w5 ⟨rfl, E, hd, hp⟩; have H5 : Hid (DoneAt w4 D w5 E acts ∧ w5.heap[w.heap.size]? = some (.cells #[.int .i64 0] 25 (0, 0))) := ⟨hd, hp⟩; have c0 : w5.cell? ⟨w.heap.size, 0, none⟩ = some (.int .i64 0) := (by rw [cell_of_row _ _ _ _ _ _ hp]; rfl); have f0 : w5.frozen? ⟨w.heap.size, 0, none⟩ = false := frozen_of_row _ _ _ _ _ hp; clear hd hp)
    have r6 := heap_setCell_same w5 w.heap.size 0 _ _ (.int .i64 0) H5.out.2
    have H6 : Hid (DoneAt w D (w5.setCell ⟨w.heap.size, 0, none⟩ (.int .i64 0)) E acts ∧ (w5.setCell ⟨w.heap.size, 0, none⟩ (.int .i64 0)).heap[w.heap.size]? = some (.cells #[.int .i64 0] 25 (0, 0))) := ⟨H5.out.1.set H4b.out.1 HD.out w.heap.size 0 (Nat.le_refl _) (heap_lt H4b.out.2) _, r6⟩
    clear r6 c0 f0
    generalize w5.setCell ⟨w.heap.size, 0, none⟩ (.int .i64 0) = w6 at H6 ⊢
    have c6 : w6.cell? ⟨w.heap.size, 0, none⟩ = some (.int .i64 0) := by rw [cell_of_row _ _ _ _ _ _ H6.out.2]; rfl
    have f6 : w6.frozen? ⟨w.heap.size, 0, none⟩ = false := frozen_of_row _ _ _ _ _ H6.out.2
    go_wp2
    refine leaves_cons (f := 77) (args := #[.pointer (some ⟨w.heap.size, 0, none⟩)]) (by simp) (by simp [go_sem]) ?_
    refine (catchR_idle ⟨w.heap.size, 0, none⟩ _).mono ?_
    rintro e u' w'' ⟨rfl, rfl, rfl⟩
    have hc : (w6.setCell ⟨w.heap.size, 0, none⟩ (.int .i64 0)).cell? ⟨w.heap.size, 0, none⟩ = some (.int .i64 0) := by rw [cell_of_row _ _ _ _ _ _ (heap_setCell_same _ _ _ _ _ _ H6.out.2)]; rfl
    have hfin : DoneAt w D (w6.setCell ⟨w.heap.size, 0, none⟩ (.int .i64 0)) E acts := by
      refine ⟨H6.out.1.disk.fr Fr.set (fun k hk e => ?_), ⟨H6.out.1.mv.fr.trans Fr.set (fun k hk => .inr (by rw [hk]; exact Nat.le_refl _)), H6.out.1.mv.has, H6.out.1.mv.d, H6.out.1.mv.nb⟩, H6.out.1.al, H6.out.1.abs⟩
      subst e
      rcases H5.out.1.al _ hk with e | e
      · exact absurd (HD.out.allLt e) (Nat.lt_irrefl _)
      · exact absurd (heap_lt H4b.out.2) (Nat.not_lt.2 e)
    simp [Leaves, settle, results, Tryz.results53, go_sem, hc, HV.out]
    exact ⟨E, hfin⟩
  · have HV : Hid (D.abs.takeE acts = 30) := hv
    rw [hv] at HC2
    clear hv
    go_upto_region 8 with (go_at_call 73; refine HC2.out.mono ?_; rintro e w5 ⟨rfl, E, hd, hp⟩; have H5 : Hid (DoneAt w4 D w5 E acts ∧ w5.heap[w.heap.size]? = some (.cells #[.int .i64 0] 25 (0, 0))) := ⟨hd, hp⟩; have c0 : w5.cell? ⟨w.heap.size, 0, none⟩ = some (.int .i64 0) := (by rw [cell_of_row _ _ _ _ _ _ hp]; rfl); have f0 : w5.frozen? ⟨w.heap.size, 0, none⟩ = false := frozen_of_row _ _ _ _ _ hp; clear hd hp)
    have r6 := heap_setCell_same w5 w.heap.size 0 _ _ (.int .i64 30) H5.out.2
    have H6 : Hid (DoneAt w D (w5.setCell ⟨w.heap.size, 0, none⟩ (.int .i64 30)) E acts ∧ (w5.setCell ⟨w.heap.size, 0, none⟩ (.int .i64 30)).heap[w.heap.size]? = some (.cells #[.int .i64 30] 25 (0, 0))) := ⟨H5.out.1.set H4b.out.1 HD.out w.heap.size 0 (Nat.le_refl _) (heap_lt H4b.out.2) _, r6⟩
    clear r6 c0 f0
    generalize w5.setCell ⟨w.heap.size, 0, none⟩ (.int .i64 30) = w6 at H6 ⊢
    have c6 : w6.cell? ⟨w.heap.size, 0, none⟩ = some (.int .i64 30) := by rw [cell_of_row _ _ _ _ _ _ H6.out.2]; rfl
    have f6 : w6.frozen? ⟨w.heap.size, 0, none⟩ = false := frozen_of_row _ _ _ _ _ H6.out.2
    go_wp2
    go_region
    all_goals go_wp2
    all_goals
      have H7 : Hid (DoneAt w D (w6.setCell ⟨w.heap.size, 0, none⟩ (.int .i64 30)).drew E acts) := by
        have hb : Below (w6.setCell ⟨w.heap.size, 0, none⟩ (.int .i64 30)).heap.size (w6.setCell ⟨w.heap.size, 0, none⟩ (.int .i64 30)) (w6.setCell ⟨w.heap.size, 0, none⟩ (.int .i64 30)).drew := (Below.refl _ _).drew
        have hfin : DoneAt w D (w6.setCell ⟨w.heap.size, 0, none⟩ (.int .i64 30)) E acts := by
          refine ⟨H6.out.1.disk.fr Fr.set (fun k hk e => ?_), ⟨H6.out.1.mv.fr.trans Fr.set (fun k hk => .inr (by rw [hk]; exact Nat.le_refl _)), H6.out.1.mv.has, H6.out.1.mv.d, H6.out.1.mv.nb⟩, H6.out.1.al, H6.out.1.abs⟩
          subst e
          rcases H5.out.1.al _ hk with e | e
          · exact absurd (HD.out.allLt e) (Nat.lt_irrefl _)
          · exact absurd (heap_lt H4b.out.2) (Nat.not_lt.2 e)
        exact ⟨hfin.disk.on hb, hfin.mv.trans (mv_on _ _ _ hb), hfin.al, hfin.abs⟩
      have r7 : (w6.setCell ⟨w.heap.size, 0, none⟩ (.int .i64 30)).drew.heap[w.heap.size]? = some (.cells #[.int .i64 30] 25 (0, 0)) := heap_setCell_same _ _ _ _ _ _ H6.out.2
      generalize (w6.setCell ⟨w.heap.size, 0, none⟩ (.int .i64 30)).drew = w7 at *
      refine leaves_cons (f := 77) (args := #[.pointer (some ⟨w.heap.size, 0, none⟩)]) (by simp) (by simp [go_sem]) ?_
      refine (catchR_idle ⟨w.heap.size, 0, none⟩ _).mono ?_
      rintro e u' w'' ⟨rfl, rfl, rfl⟩
      have hc : w''.cell? ⟨w.heap.size, 0, none⟩ = some (.int .i64 30) := by rw [cell_of_row _ _ _ _ _ _ r7]; rfl
      simp [Leaves, settle, results, Tryz.results53, go_sem, hc, HV.out]
      exact ⟨E, H7.out⟩
end Go.Proofs.YtcbebalakdkgnaaGreatDoor

namespace Go.Proofs.YtcbebalakdkgnaaGreatDoor
open Go.RowKit Rec

end Go.Proofs.YtcbebalakdkgnaaGreatDoor

namespace Go.Proofs.YtcbebalakdkgnaaGreatDoor
open Go.RowKit Rec

end Go.Proofs.YtcbebalakdkgnaaGreatDoor

namespace Go.Proofs.YtcbebalakdkgnaaGreatDoor
open Go.RowKit Rec

/-- a disk of one's own, in a law's world -/
structure Mine (w0 w : World) (D : Dk) : Prop where
  disk : Disk w D
  far : ∀ k, D.all k → w0.heap.size ≤ k
  bel : Below w0.heap.size w0 w
theorem Mine.on {w0 w w' : World} {D : Dk} (h : Mine w0 w D) (hb : Below w.heap.size w w') : Mine w0 w' D := ⟨h.disk.on hb, h.far, h.bel.trans (hb.mono h.bel.size)⟩
theorem Mine.step {w0 w w' : World} {D E : Dk} (h : Mine w0 w D) (hd : Disk w' E) (hm : Mv w D w' E) (ha : Al w.heap.size D E) : Mine w0 w' E :=
  ⟨hd, fun k hk => (ha k hk).elim (h.far k) (fun e => Nat.le_trans h.bel.size e), h.bel.trans (hm.fr.below _ (fun k hk => h.far k (.inl hk)) h.bel.size)⟩
theorem Mine.done {w0 w w' : World} {D E : Dk} {acts : List WA} (h : Mine w0 w D) (hd : DoneAt w D w' E acts) : Mine w0 w' E := h.step hd.disk hd.mv hd.al
theorem Mine.hasLt {w0 w : World} {D : Dk} (h : Mine w0 w D) : ∀ k, D.has k → k < w.heap.size := fun _ hk => h.disk.hasLt hk
/-- nothing is pending, nothing armed, the log is empty -/
structure Rest (a : AD) (nb : Nat) (l : List Int) : Prop where
  size : a.nb = nb
  las : a.las = l
  pen : a.P = []
  down : a.down = false
  at_ : a.at_ = 0
  len : l.length = 512 * nb
  log : bck l 1 = zs
theorem Rest.full {a : AD} {nb : Nat} {l : List Int} (h : Rest a nb l) : a.full = l := by rw [AD.full_fw, h.pen, h.las]; rfl
theorem Rest.fullD {D : Dk} {nb : Nat} {l : List Int} (h : Rest D.abs nb l) : D.full = l := by rw [abs_full]; exact h.full
theorem Rest.openE {D : Dk} {nb : Nat} {l : List Int} (h : Rest D.abs nb l) (hn : 98 ≤ nb) : openE D = 0 := by
  have hd : D.down = false := h.down
  have hb : D.nb = nb := h.size
  unfold Go.Proofs.YtcbebalakdkgnaaGreatDoor.openE
  rw [hd, h.fullD, hb]
  exact (log_empty hn h.log).2.2
theorem Rest.behind {nb : Nat} {a : AD} {l : List Int} (h : Rest a nb l) (hn : 98 ≤ nb) : behind l nb = l := behind_empty h.len hn h.log
/-- behind a commit -/
def done (l : List Int) (nb : Nat) (ns : List Int) (ds : List (List Int)) : List Int := behind (headed l ns ds) nb
def parts (ns : List Int) (ds : List (List Int)) : List (List (Nat × List Int)) := [logW ds, [(1, made ns ds)], homes ns ds, [(1, zs)]]
section
variable {nb : Nat} {ns : List Int} {ds : List (List Int)} {l : List Int}
theorem done_length (hl : l.length = 512 * nb) (ok : ComOk nb ns ds) : (done l nb ns ds).length = 512 * nb := by unfold done; rw [behind_length]; exact (headed_log ok hl).1
theorem done_one (hl : l.length = 512 * nb) (ok : ComOk nb ns ds) : bck (done l nb ns ds) 1 = zs := behind_one _ nb (headed_log ok hl).1 ok.n98
end
theorem Rest.commit {a : AD} {nb : Nat} {l : List Int} {ns : List Int} {ds : List (List Int)} (h : Rest a nb l) (ok : ComOk nb ns ds) :
    a.takeE (commitA ns ds) = 0 ∧ a.take (commitA ns ds) = a.all (parts ns ds) ∧ Rest (a.all (parts ns ds)) nb (done l nb ns ds) := by
  have ht := (take_commit a nb ns ds ok (by rw [h.las]; exact h.len) (by rw [h.las]; exact h.log) h.pen h.down).1 (by rw [h.at_]; omega)
  obtain ⟨e1, e2, e3, _⟩ := ht
  refine ⟨e2, e1, h.size, ?_, rfl, h.down, ?_, done_length h.len ok, done_one h.len ok⟩
  · rw [e1, h.las] at e3; exact e3
  · show (if 0 < a.at_ then a.at_ - _ else a.at_) = 0
    rw [h.at_]; rfl
end Go.Proofs.YtcbebalakdkgnaaGreatDoor

namespace Go.Proofs.YtcbebalakdkgnaaGreatDoor
open Go.RowKit Rec

theorem nil_bytes (w : World) : Bytes w none [] := ⟨by simp, by intro i; simp [nth], .inl rfl⟩
theorem nth_repl0 (n i : Nat) : nth (List.replicate n 0) i = 0 := by
  by_cases h : i < n
  · simp [nth, List.getD, h]
  · rw [nth_out _ _ (by simp; omega)]
theorem zsA_block (nb b : Nat) (hb : b < nb) : bck (zsA (512 * nb)) b = zs := by
  refine ext_nth (by rw [bck_length _ _ nb (zsA_length _) hb, zs_length]) fun i hi => ?_
  rw [bck_length _ _ nb (zsA_length _) hb] at hi
  rw [nth_bck _ _ _ hi, zsA, nth_repl0, nth_zs]
end Go.Proofs.YtcbebalakdkgnaaGreatDoor

namespace Go.Proofs.YtcbebalakdkgnaaGreatDoor
open Go.RowKit Rec

theorem flatK (f : Bk → List Value) (l : List Bk) (k : Nat) (hk : k < l.length) (j : Nat) (hj : j < 2) (hf : ∀ p, (f p).length = 2 := by intro p; rfl) : (l.flatMap f)[k * 2 + j]? = (f l[k])[j]? := by
  induction l generalizing k with
  | nil => simp at hk
  | cons p l ih =>
    rw [List.flatMap_cons]
    cases k with
    | zero => rw [List.getElem?_append_left (by rw [hf]; omega)]; simp
    | succ k =>
      rw [List.getElem?_append_right (by rw [hf]; omega), hf, show (k + 1) * 2 + j - 2 = k * 2 + j by omega, ih k (by simpa using hk)]; rfl
/-- puts that are handed in -/
structure PtsAt (w : World) (a : Option Addr) (P : List (Int × Int)) : Prop where
  len : P.length ≤ 1000000000000000
  at_ : P = [] ∨ ∃ b off, a = some ⟨b, off, none⟩ ∧ ∀ i q, P[i]? = some q → w.cell? ⟨b, off + i * 2, none⟩ = some (.int .i64 q.1) ∧ w.cell? ⟨b, off + i * 2 + 1, none⟩ = some (.int .u8 q.2) ∧ 0 ≤ q.2 ∧ q.2 < 256
theorem PtsAt.on {w w' : World} {a : Option Addr} {P : List (Int × Int)} (h : PtsAt w a P) (hb : Below w.heap.size w w') : PtsAt w' a P := by
  refine ⟨h.len, ?_⟩
  rcases h.at_ with e | ⟨b, off, e, hc⟩
  · exact .inl e
  · refine .inr ⟨b, off, e, fun i q hq => ?_⟩
    obtain ⟨h1, h2, h3⟩ := hc i q hq
    exact ⟨(hb.cell (block_lt_of_cell h1)).trans h1, (hb.cell (block_lt_of_cell h2)).trans h2, h3⟩
def Bk.cells (q : Bk) : List Value := [.int .i64 q.n, q.v]
/-- blocks such as may be committed, in rows of one's own -/
structure RowsW (w0 w : World) (k : Nat) (v : Value) (L : List Bk) : Prop where
  row : w.ownsRow 0 100 2 v L.length (L.flatMap Bk.cells)
  blk : ∀ q ∈ L, BlkAt w q.g q.x ∧ w0.heap.size ≤ q.g
  num : ∀ q ∈ L, 98 ≤ q.n ∧ q.n < 98 + (k : Int)
  ris : L.Pairwise fun p q => p.n < q.n
  len : L.length ≤ k
  far : ∀ b, v.ownBlock = some b → w0.heap.size ≤ b
  bel : Below w0.heap.size w0 w
theorem RowsW.on {w0 w w' : World} {k : Nat} {v : Value} {L : List Bk} (h : RowsW w0 w k v L) (hb : Below w.heap.size w w') : RowsW w0 w' k v L :=
  ⟨owns_on h.row hb, fun q hq => ⟨(h.blk q hq).1.on hb, (h.blk q hq).2⟩, h.num, h.ris, h.len, h.far, h.bel.trans (hb.mono h.bel.size)⟩
theorem RowsW.up {w0 w : World} {k : Nat} {v : Value} {L : List Bk} (h : RowsW w0 w k v L) : RowsW w0 w (k + 1) v L :=
  ⟨h.row, h.blk, fun q hq => by have := h.num q hq; omega, h.ris, by have := h.len; omega, h.far, h.bel⟩
theorem RowsW.start {w0 : World} : RowsW w0 w0 0 (.slice none 0 0) [] :=
  ⟨⟨rfl, .inl ⟨rfl, rfl⟩⟩, (fun q h => by cases h), (fun q h => by cases h), List.Pairwise.nil, Nat.le_refl _, (fun b h => by cases h), Below.refl _ _⟩
theorem infoK : (Tryz.prog.info? 100).map (fun i => (i.zero, i.size, i.bytes)) = some (some (.agg #[.int .i64 0, .slice none 0 0]), 2, 32) := by kernel_rfl
theorem RowsW.next {w0 wr w1 w' : World} {k g c g2 c2 : Nat} {v : Value} {L : List Bk} {x : List Int} (h : RowsW w0 wr k v L) (hb : Below wr.heap.size wr w1) (hg : wr.heap.size ≤ g) (ho : BlkAt w1 g x)
    (h1 : w'.ownsRow 0 100 2 (.slice (some ⟨g2, 0, none⟩) (L.length + 1) c2) (L.length + 1) (L.flatMap Bk.cells ++ [.int .i64 (98 + (k : Int)), .slice (some ⟨g, 0, none⟩) 512 c])) (h2 : Fr (fun b => v.ownBlock = some b) w1 w') (h3 : v.ownBlock = some g2 ∨ w1.heap.size ≤ g2) :
    RowsW w0 w' (k + 1) (.slice (some ⟨g2, 0, none⟩) (L.length + 1) c2) (L ++ [⟨98 + (k : Int), g, c, x⟩]) := by
  have hA := h.on hb
  have hs : w0.heap.size ≤ wr.heap.size := h.bel.size
  have hs1 : wr.heap.size ≤ w1.heap.size := hb.size
  have hne : ∀ {g : Nat} {x : List Int}, BlkAt w1 g x → ¬ v.ownBlock = some g := fun hx => by
    obtain ⟨cap, y, hy⟩ := hx.own
    exact own_apartB hA.row hy (by decide)
  refine ⟨?_, fun q hq => ?_, fun q hq => ?_, ?_, by rw [List.length_append]; have := h.len; simp; omega, fun b hk => ?_, hA.bel.trans (h2.below _ h.far hA.bel.size)⟩
  · rw [List.flatMap_append, List.length_append]; exact h1
  · rcases List.mem_append.1 hq with hq | hq
    · obtain ⟨a1, a2⟩ := hA.blk q hq
      exact ⟨a1.fr h2 (hne a1), a2⟩
    · simp at hq; subst hq
      exact ⟨ho.fr h2 (hne ho), Nat.le_trans hs hg⟩
  · rcases List.mem_append.1 hq with hq | hq
    · have := h.num q hq; omega
    · simp at hq; subst hq
      show 98 ≤ 98 + (k : Int) ∧ 98 + (k : Int) < 98 + ((k + 1 : Nat) : Int)
      omega
  · refine List.pairwise_append.2 ⟨h.ris, List.pairwise_singleton _ _, fun p hp q hq => ?_⟩
    simp at hq; subst hq
    exact (h.num p hp).2
  · cases hk
    rcases h3 with e | e
    · exact h.far _ e
    · exact Nat.le_trans (Nat.le_trans hs hs1) e
theorem RowsW.blocks {w0 w : World} {k g c : Nat} {L : List Bk} (h : RowsW w0 w k (.slice (some ⟨g, 0, none⟩) L.length c) L) : BlocksAt w g L := by
  refine ⟨fun i q hq => ?_⟩
  have hi : i < L.length := (List.getElem?_eq_some_iff.1 hq).1
  have hq' : L[i] = q := (List.getElem?_eq_some_iff.1 hq).2
  have hf : ∀ j, j < 2 → (L.flatMap Bk.cells)[i * 2 + j]? = q.cells[j]? := fun j hj => by
    rw [← hq']
    exact flatK Bk.cells L i hi j hj (fun _ => rfl)
  have h0 := h.row.cells (g := g) rfl (i * 2 + 0) (.int .i64 q.n) (by rw [hf 0 (by omega)]; rfl)
  have h1 := h.row.cells (g := g) rfl (i * 2 + 1) q.v (by rw [hf 1 (by omega)]; rfl)
  rw [Addr.add_lit] at h0 h1
  simp only [Nat.zero_add, Nat.add_zero] at h0 h1
  exact ⟨h0, h1, (h.blk q (List.mem_of_getElem? hq)).1⟩
theorem pre_nsB (L : List Bk) (h1 : ∀ q ∈ L, 98 ≤ q.n) (h2 : L.Pairwise fun p q => p.n < q.n) (n : Int) (h3 : ∀ q ∈ L, q.n < n) : may (nsB L) n = true := by
  refine decide_eq_true fun i hi => ?_
  have hi' : i < L.length := by simpa [nsB] using hi
  have e : nth (nsB L) i = (L[i]).n := nth_nsB L i _ (List.getElem?_eq_getElem hi')
  refine ⟨?_, by rw [e]; exact h3 _ (List.getElem_mem hi')⟩
  cases i with
  | zero =>
    have := h1 _ (List.getElem_mem hi')
    simp only [pre, e]
    simp
    omega
  | succ i =>
    have hp : pre (nsB L) (i + 1) = nth (nsB L) i := by simp [pre]
    rw [hp, e, nth_nsB L i _ (List.getElem?_eq_getElem (by omega))]
    exact List.pairwise_iff_getElem.1 h2 i (i + 1) (by omega) hi' (by omega)
theorem RowsW.ok {w0 w : World} {v : Value} {L : List Bk} (h : RowsW w0 w 30 v L) (h0 : L ≠ []) : ComOk 128 (nsB L) (dsB L) := by
  have hl := h.len
  have hp : 0 < L.length := by cases L with
    | nil => exact absurd rfl h0
    | cons a l => simp
  refine ⟨by omega, by omega, pre_nsB L (fun q hq => (h.num q hq).1) h.ris _ (fun q hq => by have := h.num q hq; omega), by simp [nsB]; omega, by simp [nsB]; omega, by simp [nsB, dsB], fun b hb => ?_⟩
  simp only [dsB, List.mem_map] at hb
  obtain ⟨q, hq, rfl⟩ := hb
  exact (h.blk q hq).1.len
end Go.Proofs.YtcbebalakdkgnaaGreatDoor

namespace Go.Proofs.YtcbebalakdkgnaaGreatDoor
open Go.RowKit Go.Maps Rec

/-- what a transaction holds: a block for each number that is put -/
abbrev Cm := Nat → Option Bk
def ups (c : Cm) (i : Nat) (q : Option Bk) : Cm := fun j => if j = i then q else c j
theorem ups_same (c : Cm) (i : Nat) (q : Option Bk) : ups c i q i = q := by simp [ups]
theorem ups_other (c : Cm) {i j : Nat} (q : Option Bk) (h : j ≠ i) : ups c i q j = c j := by simp [ups, h]
theorem ups_back (c : Cm) (i : Nat) (q : Option Bk) : ups (ups c i q) i (c i) = c := by
  funext j
  by_cases h : j = i
  · subst h; simp [ups]
  · simp [ups, h]
def lst (c : Cm) (n : Nat) : List Bk := (List.range n).filterMap c
def ent (q : Bk) : Lit × DataW Value := (.int .i64 q.n, .held q.v)
def dat (c : Cm) (n : Nat) : DataW Value := .map ((lst c n).map ent)
/-- each stands under its own number -/
structure COk (c : Cm) (n : Nat) : Prop where
  num : ∀ i q, c i = some q → q.n = (i : Int)
  lo : ∀ i q, c i = some q → 98 ≤ i
  hi : ∀ i q, c i = some q → i < n
theorem cok_none (n : Nat) : COk (fun _ => none) n := ⟨(fun _ _ h => by cases h), (fun _ _ h => by cases h), (fun _ _ h => by cases h)⟩
theorem COk.ups {c : Cm} {n i : Nat} (h : COk c n) (q : Option Bk) (h0 : 98 ≤ i) (h1 : i < n) (hq : ∀ x, q = some x → x.n = (i : Int)) : COk (ups c i q) n := by
  refine ⟨fun j x hx => ?_, fun j x hx => ?_, fun j x hx => ?_⟩ <;> by_cases e : j = i
  · subst e; rw [ups_same] at hx; exact hq x hx
  · rw [ups_other _ _ e] at hx; exact h.num j x hx
  · subst e; exact h0
  · rw [ups_other _ _ e] at hx; exact h.lo j x hx
  · subst e; exact h1
  · rw [ups_other _ _ e] at hx; exact h.hi j x hx
theorem lst_mem {c : Cm} {n : Nat} {q : Bk} (h : q ∈ lst c n) : ∃ i, i < n ∧ c i = some q := by
  obtain ⟨i, hi, e⟩ := List.mem_filterMap.1 h
  exact ⟨i, List.mem_range.1 hi, e⟩
theorem lst_split (c : Cm) (n i : Nat) (h : i < n) : lst c n = lst c i ++ ((c i).toList ++ (List.range' (i + 1) (n - i - 1)).filterMap c) := by
  have e : List.range n = List.range i ++ (i :: List.range' (i + 1) (n - i - 1)) := by
    rw [List.range_eq_range', List.range_eq_range']
    have := @List.range'_append_1 0 i (n - i)
    rw [show i + (n - i) = n by omega, Nat.zero_add] at this
    rw [← this]
    congr 1
    obtain ⟨m, hm⟩ : ∃ m, n - i = m + 1 := ⟨n - i - 1, by omega⟩
    rw [hm, List.range'_succ]
    simp
  unfold lst
  rw [e, List.filterMap_append, List.filterMap_cons]
  cases c i <;> rfl
theorem filterMap_ups (c : Cm) (i : Nat) (q : Option Bk) (l : List Nat) (h : ∀ j ∈ l, j ≠ i) : l.filterMap (ups c i q) = l.filterMap c := by
  induction l with
  | nil => rfl
  | cons a l ih =>
    rw [List.filterMap_cons, List.filterMap_cons, ups_other c q (h a (.head _)), ih (fun j hj => h j (.tail _ hj))]
theorem lst_ups (c : Cm) (n i : Nat) (q : Option Bk) (h : i < n) : lst (ups c i q) n = lst c i ++ (q.toList ++ (List.range' (i + 1) (n - i - 1)).filterMap c) := by
  rw [lst_split _ n i h, ups_same]
  unfold lst
  rw [filterMap_ups c i q (List.range i) (fun j hj => by have := List.mem_range.1 hj; omega), filterMap_ups c i q _ (fun j hj => by have := List.mem_range'_1.1 hj; omega)]
theorem insert_mid (x : Lit × DataW Value) : ∀ (A B : List (Lit × DataW Value)), (∀ a ∈ A, x.1.before a.1 = false) → (∀ b ∈ B, x.1.before b.1 = true) → DataW.insert x (A ++ B) = A ++ x :: B
  | [], [], _, _ => rfl
  | [], b :: B, _, h => by simp [DataW.insert, h b (.head _)]
  | a :: A, B, h1, h2 => by
    simp only [List.cons_append, DataW.insert, h1 a (.head _)]
    rw [insert_mid x A B (fun b hb => h1 b (.tail _ hb)) h2]
    simp
theorem filter_all {α : Type} (f : α → Bool) (l : List α) (h : ∀ a ∈ l, f a = true) : l.filter f = l := List.filter_eq_self.2 h
theorem low_mem {c : Cm} {n i : Nat} (h : COk c n) {p : Lit × DataW Value} (hp : p ∈ (lst c i).map ent) : ∃ m : Nat, p.1 = .int .i64 m ∧ m < i := by
  obtain ⟨q, hq, rfl⟩ := List.mem_map.1 hp
  obtain ⟨j, hj, e⟩ := lst_mem hq
  exact ⟨j, by rw [ent, h.num j q e], hj⟩
theorem high_mem {c : Cm} {n i m : Nat} (h : COk c n) {p : Lit × DataW Value} (hp : p ∈ ((List.range' (i + 1) m).filterMap c).map ent) : ∃ m : Nat, p.1 = .int .i64 m ∧ i < m := by
  obtain ⟨q, hq, rfl⟩ := List.mem_map.1 hp
  obtain ⟨j, hj, e⟩ := List.mem_filterMap.1 hq
  have := List.mem_range'_1.1 hj
  exact ⟨j, by rw [ent, h.num j q e], by omega⟩
theorem same_i64 (a b : Int) : (Lit.int .i64 a).sameKey (.int .i64 b) = decide (a = b) := by simp [Lit.sameKey]
theorem before_i64 (a b : Int) : (Lit.int .i64 a).before (.int .i64 b) = decide (a < b) := by simp [Lit.before]
theorem struck {c : Cm} {n i : Nat} (h : COk c n) (hi : i < n) : ((lst c n).map ent).filter (fun p => !p.1.sameKey (.int .i64 i)) = (lst c i).map ent ++ ((List.range' (i + 1) (n - i - 1)).filterMap c).map ent := by
  rw [lst_split c n i hi, List.map_append, List.map_append, List.filter_append, List.filter_append]
  rw [filter_all _ ((lst c i).map ent) (fun p hp => by obtain ⟨m, e, hm⟩ := low_mem h hp; rw [e, same_i64]; simp; omega)]
  rw [filter_all _ (((List.range' (i + 1) (n - i - 1)).filterMap c).map ent) (fun p hp => by obtain ⟨m, e, hm⟩ := high_mem h hp; rw [e, same_i64]; simp; omega)]
  cases e : c i with
  | none => simp
  | some q => simp [ent, h.num i q e, same_i64]
theorem dat_del {c : Cm} {n i : Nat} (h : COk c n) (hi : i < n) : (dat c n).del (.int .i64 i) = dat (ups c i none) n := by
  show DataW.map (((lst c n).map ent).filter fun p => !p.1.sameKey (.int .i64 i)) = _
  rw [struck h hi, dat, lst_ups c n i none hi]
  simp
theorem dat_put {c : Cm} {n i : Nat} (h : COk c n) (hi : i < n) (q : Bk) (hq : q.n = (i : Int)) : (dat c n).put (.int .i64 i) (.held q.v) = dat (ups c i (some q)) n := by
  show DataW.map (DataW.insert _ (((lst c n).map ent).filter fun p => !p.1.sameKey (.int .i64 i))) = _
  rw [struck h hi, dat, lst_ups c n i (some q) hi, insert_mid]
  · simp [ent, hq]
  · intro p hp
    obtain ⟨m, e, hm⟩ := low_mem h hp
    rw [e, before_i64]; simp; omega
  · intro p hp
    obtain ⟨m, e, hm⟩ := high_mem h hp
    rw [e, before_i64]; simp; omega
theorem dat_find {c : Cm} {n i : Nat} (h : COk c n) : ((lst c n).map ent).find? (fun p => p.1.sameKey (.int .i64 i)) = (c i).map ent := by
  cases e : c i with
  | none =>
    rw [Option.map_none, List.find?_eq_none]
    intro p hp
    obtain ⟨q, hq, rfl⟩ := List.mem_map.1 hp
    obtain ⟨j, hj, ej⟩ := lst_mem hq
    rw [ent, h.num j q ej, same_i64]
    simp
    rintro hh
    have : j = i := by omega
    subst this
    rw [e] at ej; cases ej
  | some q =>
    have hi := h.hi i q e
    rw [lst_split c n i hi, List.map_append, List.find?_append, e]
    rw [List.find?_eq_none.2 (fun p hp => by obtain ⟨m, e, hm⟩ := low_mem h hp; rw [e, same_i64]; simp; omega)]
    simp [ent, h.num i q e, same_i64]
theorem dat_has {c : Cm} {n : Nat} (h : COk c n) (i : Nat) : Maps.has (dat c n) (.int .i64 i) = (c i).isSome := by
  show ((lst c n).map ent).any _ = _
  have := dat_find (i := i) h
  rw [← List.isSome_find?, this]
  cases c i <;> rfl
theorem dat_at {c : Cm} {n : Nat} (h : COk c n) (i : Nat) (z : DataW Value) : (dat c n).atKey (.int .i64 i) z = match c i with | some q => .held q.v | none => z := by
  simp only [dat, DataW.atKey]
  rw [dat_find h]
  cases c i <;> rfl
theorem dat_size (c : Cm) (n : Nat) : Maps.size (dat c n) = (lst c n).length := by simp [dat, Maps.size]
theorem lst_ris {c : Cm} {n : Nat} (h : COk c n) : (lst c n).Pairwise fun p q => p.n < q.n := by
  refine List.Pairwise.filterMap (R := fun a b => a < b) c (fun a b hab p hp q hq => ?_) List.pairwise_lt_range
  rw [h.num a p hp, h.num b q hq]; omega
theorem keys_dat (c : Cm) (n : Nat) : intKeys (dat c n) = (lst c n).map Bk.n := by
  show ((lst c n).map ent).map _ = _
  rw [List.map_map]; rfl
theorem sorted_keys {c : Cm} {n : Nat} (h : COk c n) {ss : List Int} (hp : ss.Perm (intKeys (dat c n))) : ss.mergeSort (fun x y => decide (x ≤ y)) = (lst c n).map Bk.n := by
  rw [keys_dat] at hp
  have s1 : (ss.mergeSort (fun x y => decide (x ≤ y))).Pairwise (fun a b => decide (a ≤ b) = true) := List.pairwise_mergeSort (fun a b c h1 h2 => by simp at *; omega) (fun a b => by simp; omega) ss
  have s2 : ((lst c n).map Bk.n).Pairwise (fun a b => decide (a ≤ b) = true) := by
    rw [List.pairwise_map]
    exact (lst_ris h).imp (fun hab => by simp; omega)
  refine List.Perm.eq_of_pairwise (le := fun a b => decide (a ≤ b) = true) (fun a b _ _ h1 h2 => by simp at h1 h2; omega) s1 s2 ?_
  exact (List.mergeSort_perm _ _).trans hp
theorem lst_len_ups {c : Cm} {n i : Nat} (h : i < n) (q : Bk) : (lst (ups c i (some q)) n).length = (lst c n).length + (if (c i).isSome then 0 else 1) := by
  rw [lst_ups c n i _ h, lst_split c n i h]
  cases c i <;> simp <;> omega
theorem lst_none (n : Nat) : lst (fun _ => none) n = [] := by
  unfold lst
  induction n with
  | zero => rfl
  | succ n ih => rw [List.range_succ, List.filterMap_append, ih]; rfl
end Go.Proofs.YtcbebalakdkgnaaGreatDoor
