import Derived.Test.YtflienghgobmoaaGreatDoorKASettle
namespace Go.Proofs.YtflienghgobmoaaGreatDoor
open Go.RowKit Rec

/-- a disk that is put together anew -/
theorem Disk.anew {w w' : World} {D D' : Dk} (h : Disk w D) (hfr : Fr D.has w w') (hhas : ∀ k, D'.has k → D.has k ∨ w.heap.size ≤ k) (hd : D'.d = D.d) (hL : D'.L = D.L) (hcL : D'.capL = D.capL) (hnb : D'.nb = D.nb) (hkv : D'.kv = D.kv) (hke : D'.keep = D.keep) (hwr : D'.wr = D.wr) (hfl : D'.fl = D.fl) (hat : D'.at_ = D.at_) (hlas : D'.las = D.las)
    (row : w'.heap[D'.d]? = some (.cells D'.cells 90 (0, 0))) (las : OwnB w' D.L D.capL D.las)
    (nws : w'.ownsRow 0 3 1 (.slice (some ⟨D'.nw, 0, none⟩) D'.nb D'.capN) D'.nb ((newest D'.f D'.nb D'.pen.length).map (Value.int .i64)))
    (pen : w'.ownsRow 0 180 2 D'.pv D'.pen.length (D'.pen.flatMap It.cells))
    (penb : ∀ p ∈ D'.pen, p ∈ D.pen ∨ (p.b < D.nb ∧ p.x.length = 512 ∧ OwnB w' p.g p.cap p.x ∧ ¬ D'.has p.g))
    (tap : w'.ownsRow 0 177 3 D'.tv D'.tap.length (D'.tap.flatMap Ac.cells)) (tapb : ∀ a ∈ D'.tap, a ∈ D.tap ∨ AcOk w' D' a) (ap : Apart D') (dn : D'.down = true → D'.pen = []) (pl : D'.pen.length ≤ 3518437208800) (tl : D'.tap.length ≤ 3518437208800) : Disk w' D' ∧ Mv w D w' D' := by
  have hno : ∀ k, k < w.heap.size → ¬ D.has k → ¬ D'.has k := fun k hk hn e => (hhas k e).elim hn (fun h => by omega)
  refine ⟨?_, hfr, hhas, hd, hnb⟩
  exact {
    row := row
    las := by rw [hL, hcL, hlas]; exact las
    lasl := by rw [hlas, hnb]; exact h.lasl
    nb0 := by rw [hnb]; exact h.nb0
    nb1 := by rw [hnb]; exact h.nb1
    nws := nws
    pen := pen
    penb := fun p hp => by
      rcases penb p hp with h' | h'
      · obtain ⟨h1, h2, h3, h4⟩ := h.penb p h'
        exact ⟨by rw [hnb]; exact h1, h2, h3.fr hfr h4, hno _ h3.lt h4⟩
      · rw [hnb]; exact h'
    tap := tap
    tapb := fun a ha => by
      rcases tapb a ha with h' | h'
      · rcases h.tapb a h' with ⟨h1, h2, h3, h4, g, cap, h5, h6, h7⟩ | h'
        · exact .inl ⟨h1, h2, by rw [hnb]; exact h3, h4, g, cap, h5, h6.fr hfr h7, hno _ h6.lt h7⟩
        · exact .inr h'
      · exact h'
    kee := by rw [hkv, hke]; exact h.kee.fr hfr (fun _ => h.keb)
    keb := fun k hk => by rw [hkv] at hk; exact hno k (h.kel k hk) (h.keb k hk)
    kel := fun k hk => by rw [hkv] at hk; exact Nat.lt_of_lt_of_le (h.kel k hk) hfr.size
    ap := ap
    dn := dn
    pl := pl
    tl := tl
    wrs := by rw [hwr]; exact h.wrs
    fls := by rw [hfl]; exact h.fls
    at1 := by rw [hat]; exact h.at1 }
/-- an act more -/
def Dk.act (D : Dk) (gt capt : Nat) (a : Ac) : Dk := { D with tv := .slice (some ⟨gt, 0, none⟩) (D.tap.length + 1) capt, tap := D.tap ++ [a] }
theorem Disk.taped {w wb w1 : World} {D : Dk} {gt capt : Nat} {a : Ac} (h : Disk w D) (hb : Below w.heap.size w wb)
    (ha : (a.kind = 1 ∧ 0 ≤ a.b ∧ a.b < D.nb ∧ a.x.length = 512 ∧ ∃ g cap, a.v = .slice (some ⟨g, 0, none⟩) 512 cap ∧ OwnB w g cap a.x ∧ ¬ D.has g) ∨ (a.kind = 2 ∧ a.b = 0 ∧ a.v = .slice none 0 0 ∧ a.x = []))
    (ho : w1.ownsRow 0 177 3 (.slice (some ⟨gt, 0, none⟩) (D.tap.length + 1) capt) (D.tap.length + 1) (D.tap.flatMap Ac.cells ++ a.cells)) (hf : Fr (fun k => D.tv.ownBlock = some k) wb w1) (hg : D.tv.ownBlock = some gt ∨ wb.heap.size ≤ gt) (hl : D.tap.length + 1 ≤ 3518437208800) :
    Disk (w1.setCell ⟨D.d, 3, none⟩ (.slice (some ⟨gt, 0, none⟩) (D.tap.length + 1) capt)) (D.act gt capt a) ∧ Mv w D (w1.setCell ⟨D.d, 3, none⟩ (.slice (some ⟨gt, 0, none⟩) (D.tap.length + 1) capt)) (D.act gt capt a) := by
  have hbs := hb.size
  have fs : Fr (fun i => i = D.d) w1 (w1.setCell ⟨D.d, 3, none⟩ (.slice (some ⟨gt, 0, none⟩) (D.tap.length + 1) capt)) := Fr.set
  have f1 : Fr (fun k => D.tv.ownBlock = some k) w w1 := (below_fr hb _).trans hf (fun _ e => .inl e)
  have hfr : Fr D.has w (w1.setCell ⟨D.d, 3, none⟩ (.slice (some ⟨gt, 0, none⟩) (D.tap.length + 1) capt)) := (f1.mono (fun _ e => .inr (.inr (.inr (.inr e))))).trans fs (fun _ e => .inl (.inl e))
  have hg' : D.tv.ownBlock = some gt ∨ w.heap.size ≤ gt := hg.imp id (fun h => Nat.le_trans hbs h)
  have hhas : ∀ k, (D.act gt capt a).has k → D.has k ∨ w.heap.size ≤ k := fun k hk => by
    rcases hk with e | e | e | e | e
    · exact .inl (.inl e)
    · exact .inl (.inr (.inl e))
    · exact .inl (.inr (.inr (.inl e)))
    · exact .inl (.inr (.inr (.inr (.inl e))))
    · cases e
      exact hg'.elim (fun e => .inl (.inr (.inr (.inr (.inr e))))) .inr
  have hdg : gt ≠ D.d ∧ gt ≠ D.L ∧ gt ≠ D.nw ∧ D.pv.ownBlock ≠ some gt := by
    rcases hg' with e | e
    · exact h.ap.t gt e
    · refine ⟨fun x => ?_, fun x => ?_, fun x => ?_, fun x => ?_⟩
      · have := h.lt; omega
      · have := h.las.lt; omega
      · have : D.nw < w.heap.size := owns_block h.nws rfl; omega
      · have := owns_block h.pen x; omega
  refine h.anew hfr hhas rfl rfl rfl rfl rfl rfl rfl rfl rfl rfl ?_ ?_ ?_ ?_ (fun p hp => .inl hp) ?_ ?_ ?_ h.dn h.pl ?_
  · exact heap_setCell_same _ _ _ _ _ _ (f1.heap h.row (fun e => (h.ap.t _ e).1 rfl))
  · exact (h.las.fr f1 (fun e => (h.ap.t _ e).2.1 rfl)).fr fs (fun e => h.ap.dL e.symm)
  · exact owns_fr (owns_fr h.nws f1 (fun k hk e => by cases hk; exact (h.ap.t _ e).2.2.1 rfl)) fs (fun k hk e => by cases hk; exact h.ap.dn e.symm)
  · exact owns_fr (owns_fr h.pen f1 (fun k hk e => (h.ap.t _ e).2.2.2 hk)) fs (fun k hk => (h.ap.p k hk).1)
  · have := owns_fr ho fs (fun k hk => by cases hk; exact hdg.1)
    simp only [Dk.act, List.flatMap_append, List.flatMap_cons, List.flatMap_nil, List.append_nil, List.length_append, List.length_cons, List.length_nil]
    exact this
  · intro b hb
    rcases List.mem_append.1 hb with hb | hb
    · exact .inl hb
    · rw [List.mem_singleton] at hb
      subst hb
      right
      rcases ha with ⟨h1, h2, h3, h4, g, cap, h5, h6, h7⟩ | h'
      · exact .inl ⟨h1, h2, h3, h4, g, cap, h5, h6.fr hfr h7, fun e => (hhas g e).elim h7 (fun x => by have := h6.lt; omega)⟩
      · exact .inr h'
  · exact ⟨h.ap.dL, h.ap.dn, h.ap.Ln, (fun k hk => ⟨(h.ap.p k hk).1, (h.ap.p k hk).2.1, (h.ap.p k hk).2.2.1, fun e => by cases e; exact hdg.2.2.2 hk⟩), (fun k hk => by cases hk; exact hdg)⟩
  · simp only [Dk.act, List.length_append, List.length_cons, List.length_nil]; exact hl
/-- a write more -/
def Dk.pend (D : Dk) (gp capp : Nat) (p : It) : Dk := { D with pv := .slice (some ⟨gp, 0, none⟩) (D.pen.length + 1) capp, pen := D.pen ++ [p] }
theorem pend_f (D : Dk) (gp capp : Nat) (p : It) (k : Nat) (hk : k < D.pen.length) : (D.pend gp capp p).f k = D.f k := by
  simp [Dk.f, Dk.pend, List.getD, List.getElem?_append, hk]
theorem pend_f1 (D : Dk) (gp capp : Nat) (p : It) : (D.pend gp capp p).f D.pen.length = p.b := by
  simp [Dk.f, Dk.pend, List.getD]
theorem Disk.pended {w wb w1 w2 : World} {D : Dk} {gp capp : Nat} {p : It} (h : Disk w D) (hb : Below w.heap.size w wb) (hp1 : p.b < D.nb) (hp2 : p.x.length = 512) (hp3 : OwnB w p.g p.cap p.x) (hp4 : ¬ D.has p.g) (hdn : D.down = false)
    (ho : w1.ownsRow 0 180 2 (.slice (some ⟨gp, 0, none⟩) (D.pen.length + 1) capp) (D.pen.length + 1) (D.pen.flatMap It.cells ++ p.cells)) (hf : Fr (fun k => D.pv.ownBlock = some k) wb w1) (hg : D.pv.ownBlock = some gp ∨ wb.heap.size ≤ gp) (hl : D.pen.length + 1 ≤ 3518437208800)
    (h2 : w2 = w1.setCell ⟨D.d, 1, none⟩ (.slice (some ⟨gp, 0, none⟩) (D.pen.length + 1) capp)) {w3 : World} (h3 : Below w2.heap.size w2 w3) :
    Disk (w3.setCell ⟨D.nw, p.b, none⟩ (.int .i64 ((D.pen.length : Int) + 1))) (D.pend gp capp p) ∧ Mv w D (w3.setCell ⟨D.nw, p.b, none⟩ (.int .i64 ((D.pen.length : Int) + 1))) (D.pend gp capp p) := by
  have hbs := hb.size
  have fs : Fr (fun i => i = D.d) w1 w2 := h2 ▸ Fr.set
  have ft : Fr (fun i => i = D.nw) w3 (w3.setCell ⟨D.nw, p.b, none⟩ (.int .i64 ((D.pen.length : Int) + 1))) := Fr.set
  have f1 : Fr (fun k => D.pv.ownBlock = some k) w w1 := (below_fr hb _).trans hf (fun _ e => .inl e)
  have f2 : Fr (fun k => D.pv.ownBlock = some k ∨ k = D.d) w w2 := (f1.mono (fun _ e => .inl e)).trans fs (fun _ e => .inl (.inr e))
  have f3 : Fr (fun k => D.pv.ownBlock = some k ∨ k = D.d) w w3 := f2.trans (below_fr h3 (fun _ => False)) (fun _ e => e.elim)
  have hfr : Fr D.has w (w3.setCell ⟨D.nw, p.b, none⟩ (.int .i64 ((D.pen.length : Int) + 1))) := (f3.mono (fun _ e => e.elim (fun e => .inr (.inr (.inr (.inl e)))) .inl)).trans ft (fun _ e => .inl (.inr (.inr (.inl e))))
  have hg' : D.pv.ownBlock = some gp ∨ w.heap.size ≤ gp := hg.imp id (fun h => Nat.le_trans hbs h)
  have hhas : ∀ k, (D.pend gp capp p).has k → D.has k ∨ w.heap.size ≤ k := fun k hk => by
    rcases hk with e | e | e | e | e
    · exact .inl (.inl e)
    · exact .inl (.inr (.inl e))
    · exact .inl (.inr (.inr (.inl e)))
    · cases e
      exact hg'.elim (fun e => .inl (.inr (.inr (.inr (.inl e))))) .inr
    · exact .inl (.inr (.inr (.inr (.inr e))))
  have hdg : gp ≠ D.d ∧ gp ≠ D.L ∧ gp ≠ D.nw ∧ D.tv.ownBlock ≠ some gp := by
    rcases hg' with e | e
    · exact h.ap.p gp e
    · refine ⟨fun x => ?_, fun x => ?_, fun x => ?_, fun x => ?_⟩
      · have := h.lt; omega
      · have := h.las.lt; omega
      · have : D.nw < w.heap.size := owns_block h.nws rfl; omega
      · have := owns_block h.tap x; omega
  have hn1 := owns_fr h.nws f3 (fun k hk e => by cases hk; exact e.elim (fun e => (h.ap.p _ e).2.2.1 rfl) (fun e => h.ap.dn e.symm))
  refine h.anew hfr hhas rfl rfl rfl rfl rfl rfl rfl rfl rfl rfl ?_ ?_ ?_ ?_ ?_ ?_ (fun a ha => .inl ha) ?_ (fun e => by rw [show (D.pend gp capp p).down = D.down from rfl, hdn] at e; cases e) ?_ h.tl
  · have r1 := f1.heap h.row (fun e => (h.ap.p _ e).1 rfl)
    have r2 : w2.heap[D.d]? = some (.cells (D.pend gp capp p).cells 90 (0, 0)) := by rw [h2]; exact heap_setCell_same _ _ _ _ _ _ r1
    exact ft.heap ((below_fr h3 (fun _ => False)).heap r2 (fun e => e)) (fun e => h.ap.dn e)
  · exact (h.las.fr f3 (fun e => e.elim (fun e => (h.ap.p _ e).2.1 rfl) (fun e => h.ap.dL e.symm))).fr ft (fun e => h.ap.Ln e)
  · have := owns_set hn1 p.b (.int .i64 ((D.pen.length : Int) + 1))
    rw [← List.map_set] at this
    have e : (newest D.f D.nb D.pen.length).set p.b ((D.pen.length : Int) + 1) = newest (D.pend gp capp p).f D.nb (D.pen.length + 1) := by
      rw [newest_congr (f := D.f) (f' := (D.pend gp capp p).f) _ _ (fun k hk => (pend_f D gp capp p k hk).symm)]
      have e3 := newest_set (D.pend gp capp p).f D.nb D.pen.length (by rw [pend_f1]; exact hp1)
      rw [pend_f1] at e3
      exact e3
    rw [e] at this
    have e2 : (D.pend gp capp p).pen.length = D.pen.length + 1 := by simp [Dk.pend]
    rw [e2]
    exact this
  · have := owns_fr (owns_fr (owns_fr ho fs (fun k hk => by cases hk; exact hdg.1)) (below_fr h3 (fun _ => False)) (fun _ _ e => e)) ft (fun k hk => by cases hk; exact hdg.2.2.1)
    simp only [Dk.pend, List.flatMap_append, List.flatMap_cons, List.flatMap_nil, List.append_nil, List.length_append, List.length_cons, List.length_nil]
    exact this
  · intro q hq
    rcases List.mem_append.1 hq with hq | hq
    · exact .inl hq
    · rw [List.mem_singleton] at hq
      subst hq
      exact .inr ⟨hp1, hp2, hp3.fr hfr hp4, fun e => (hhas _ e).elim hp4 (fun x => by have := hp3.lt; omega)⟩
  · exact owns_fr (owns_fr h.tap f3 (fun k hk e => e.elim (fun e => (h.ap.p _ e).2.2.2 hk) (fun e => (h.ap.t k hk).1 e))) ft (fun k hk => (h.ap.t k hk).2.2.1)
  · exact ⟨h.ap.dL, h.ap.dn, h.ap.Ln, (fun k hk => by cases hk; exact hdg), (fun k hk => ⟨(h.ap.t k hk).1, (h.ap.t k hk).2.1, (h.ap.t k hk).2.2.1, fun e => by cases e; exact hdg.2.2.2 hk⟩)⟩
  · simp only [Dk.pend, List.length_append, List.length_cons, List.length_nil]; exact hl
theorem infoAct : (Tryz.prog.info? 177).map (fun i => (i.zero, i.size, i.bytes)) = some (some (.agg #[.int .i64 0, .int .i64 0, .slice none 0 0]), 3, 40) := by kernel_rfl
theorem infoWr : (Tryz.prog.info? 180).map (fun i => (i.zero, i.size, i.bytes)) = some (some (.agg #[.int .i64 0, .slice none 0 0]), 2, 32) := by kernel_rfl
theorem news_of {w : World} {b : Nat} {arr : Array Value} {t : TypeId} (h : w.heap[b]? = some (.cells arr t (0, 0))) (xs : List Value) (hx : arr.toList = xs) : ∀ j u, xs[j]? = some u → w.cell? ((⟨b, 0, none⟩ : Addr).add j) = some u := by
  intro j u hj
  rw [Addr.add_lit, Nat.zero_add, cell_of_row _ _ _ _ _ _ h, ← hj, ← hx, Array.getElem?_toList]
set_option maxRecDepth 100000 in
set_option maxHeartbeats 1600000 in
theorem put_any (w : World) (D : Dk) (h : Disk w D) (i g cap : Nat) (x : List Int) (hi : i < D.nb) (hx : x.length = 512) (hO : OwnB w g cap x) (hg : ¬ D.has g) (hd : D.down = false) (hpl : D.pen.length + 1 ≤ 3518437208800) (htl : D.tap.length + 1 ≤ 3518437208800) :
    Calls Tryz.prog 184 #[.pointer (some ⟨D.d, 0, none⟩), .int .i64 i, .slice (some ⟨g, 0, none⟩) 512 cap] w fun e w' => e = .returned (.tuple #[]) ∧ ∃ gt ct gp cp, Disk w' ((D.act gt ct ⟨1, i, .slice (some ⟨g, 0, none⟩) 512 cap, x⟩).pend gp cp ⟨i, g, cap, x⟩) ∧ Mv w D w' ((D.act gt ct ⟨1, i, .slice (some ⟨g, 0, none⟩) 512 cap, x⟩).pend gp cp ⟨i, g, cap, x⟩) := by
  obtain ⟨ta, tc, htv, _⟩ := owns_slice h.tap
  obtain ⟨pa, pc, hpv, _⟩ := owns_slice h.pen
  have C3 : w.cell? ⟨D.d, 3, none⟩ = some (.slice ta D.tap.length tc) := by rw [← htv]; exact h.cell 3
  have F3 := h.frozen 3
  have HD : Hid (Disk w D) := h
  have HX : Hid (x.length = 512 ∧ OwnB w g cap x ∧ ¬ D.has g) := ⟨hx, hO, hg⟩
  have HT : Hid (D.tv = .slice ta D.tap.length tc) := htv
  have HP : Hid (D.pv = .slice pa D.pen.length pc) := hpv
  clear h hx hO hg htv hpv
  obtain ⟨i1, j1, j2, j3, j4⟩ := info_parts infoAct
  obtain ⟨i2, k1, k2, k3, k4⟩ := info_parts infoWr
  have HA : Hid (Below w.heap.size w (w.alloc (.cells #[.int .i64 1, .int .i64 i, .slice (some ⟨g, 0, none⟩) 512 cap] 177))) := (Below.refl _ _).alloc (Nat.le_refl _) _
  have HR := heap_alloc_new w (.cells #[.int .i64 1, .int .i64 i, .slice (some ⟨g, 0, none⟩) 512 cap] 177)
  have HN : Hid (∀ j u, (Ac.cells ⟨1, i, .slice (some ⟨g, 0, none⟩) 512 cap, x⟩)[j]? = some u → (w.alloc (.cells #[.int .i64 1, .int .i64 i, .slice (some ⟨g, 0, none⟩) 512 cap] 177)).cell? ((⟨w.heap.size, 0, none⟩ : Addr).add j) = some u) := news_of HR _ rfl
  have HW : Hid ((w.alloc (.cells #[.int .i64 1, .int .i64 i, .slice (some ⟨g, 0, none⟩) 512 cap] 177)).ownsRow 0 177 3 (.slice ta D.tap.length tc) D.tap.length (D.tap.flatMap Ac.cells)) := by
    have e := (HD.out.on HA.out).tap
    rw [HT.out] at e; exact e
  clear HR
  go_enter Tryz.func184, Tryz.ntmps184
  go_upto_region 1 with (at_builtin; refine wp_own rfl (.tmp 10) (.tmp 14) 49 rfl 177 i1 _ 3 40 Tryz.underlying49 j1 j2 j3 j4 rfl (by decide) (.slice ta D.tap.length tc) D.tap.length (D.tap.flatMap Ac.cells) rfl HW.out ⟨w.heap.size, 0, none⟩ 1 1 (Ac.cells ⟨1, i, .slice (some ⟨g, 0, none⟩) 512 cap, x⟩) rfl (by decide) rfl HN.out (by intro u hu; simp [Ac.cells] at hu; rcases hu with rfl | rfl | rfl <;> rfl) (by unfold maxLen; omega) (by omega) ?_; intro gt ct w1 ho hf hgt; rw [← HT.out] at hf hgt; have HQ : Hid (Disk (w1.setCell ⟨D.d, 3, none⟩ (.slice (some ⟨gt, 0, none⟩) (D.tap.length + 1) ct)) (D.act gt ct ⟨1, i, .slice (some ⟨g, 0, none⟩) 512 cap, x⟩) ∧ Mv w D (w1.setCell ⟨D.d, 3, none⟩ (.slice (some ⟨gt, 0, none⟩) (D.tap.length + 1) ct)) (D.act gt ct ⟨1, i, .slice (some ⟨g, 0, none⟩) 512 cap, x⟩)) := HD.out.taped HA.out (.inl ⟨rfl, Int.natCast_nonneg _, Int.ofNat_lt.2 hi, HX.out.1, g, cap, rfl, HX.out.2.1, HX.out.2.2⟩) ho hf hgt htl; have r1 := hf.heap (HD.out.on HA.out).row (fun e => (HD.out.ap.t _ e).1 rfl); have c3 : w1.cell? ⟨D.d, 3, none⟩ = some D.tv := cell_of_row _ _ _ _ _ _ r1; have f3 := frozen_of_row _ _ 3 _ _ r1; clear r1 ho hf hgt)
  clear c3 f3 C3 F3
  generalize w1.setCell ⟨D.d, 3, none⟩ (.slice (some ⟨gt, 0, none⟩) (D.tap.length + 1) ct) = w2 at *
  have C1 : w2.cell? ⟨D.d, 1, none⟩ = some (.slice pa D.pen.length pc) := by rw [← HP.out]; exact HQ.out.1.cell 1
  have hlt : w.heap.size ≤ w2.heap.size := HQ.out.2.fr.size
  have HX2 : Hid (OwnB w2 g cap x ∧ ¬ (D.act gt ct ⟨1, i, .slice (some ⟨g, 0, none⟩) 512 cap, x⟩).has g) := ⟨HX.out.2.1.fr HQ.out.2.fr HX.out.2.2, fun e => (HQ.out.2.has g e).elim HX.out.2.2 (fun e => by have := HX.out.2.1.lt; omega)⟩
  have HA2 : Hid (Below w2.heap.size w2 (w2.alloc (.cells #[.int .i64 i, .slice (some ⟨g, 0, none⟩) 512 cap] 180))) := (Below.refl _ _).alloc (Nat.le_refl _) _
  have HR := heap_alloc_new w2 (.cells #[.int .i64 i, .slice (some ⟨g, 0, none⟩) 512 cap] 180)
  have HN2 : Hid (∀ j u, (It.cells ⟨i, g, cap, x⟩)[j]? = some u → (w2.alloc (.cells #[.int .i64 i, .slice (some ⟨g, 0, none⟩) 512 cap] 180)).cell? ((⟨w2.heap.size, 0, none⟩ : Addr).add j) = some u) := news_of HR _ rfl
  have HW2 : Hid ((w2.alloc (.cells #[.int .i64 i, .slice (some ⟨g, 0, none⟩) 512 cap] 180)).ownsRow 0 180 2 (.slice pa D.pen.length pc) D.pen.length (D.pen.flatMap It.cells)) := by
    have e : World.ownsRow _ 0 _ 2 D.pv D.pen.length (D.pen.flatMap It.cells) := (HQ.out.1.on HA2.out).pen
    rw [HP.out] at e; exact e
  clear HR HN HW HA
  go_upto_region 2 with (at_builtin; refine wp_own rfl (.tmp 22) (.tmp 26) 86 rfl 180 i2 _ 2 32 Tryz.underlying86 k1 k2 k3 k4 rfl (by decide) (.slice pa D.pen.length pc) D.pen.length (D.pen.flatMap It.cells) rfl HW2.out ⟨w2.heap.size, 0, none⟩ 1 1 (It.cells ⟨i, g, cap, x⟩) rfl (by decide) rfl HN2.out (by intro u hu; simp [It.cells] at hu; rcases hu with rfl | rfl <;> rfl) (by unfold maxLen; omega) (by omega) ?_; intro gp cp w3 ho hf hgp; rw [← HP.out] at hf hgp; have r1 := hf.heap (HQ.out.1.on HA2.out).row (fun e => (HQ.out.1.ap.p _ e).1 rfl); have c3 : w3.cell? ⟨D.d, 1, none⟩ = some D.pv := cell_of_row _ _ _ _ _ _ r1; have f3 : w3.frozen? ⟨D.d, 1, none⟩ = false := frozen_of_row _ _ 1 _ _ r1; have HZ : Hid (w3.ownsRow 0 180 2 (.slice (some ⟨gp, 0, none⟩) (D.pen.length + 1) cp) (D.pen.length + 1) (D.pen.flatMap It.cells ++ It.cells ⟨i, g, cap, x⟩) ∧ Fr (fun k => D.pv.ownBlock = some k) (w2.alloc (.cells #[.int .i64 i, .slice (some ⟨g, 0, none⟩) 512 cap] 180)) w3 ∧ (D.pv.ownBlock = some gp ∨ (w2.alloc (.cells #[.int .i64 i, .slice (some ⟨g, 0, none⟩) 512 cap] 180)).heap.size ≤ gp)) := ⟨ho, hf, hgp⟩; clear r1 ho hf hgp)
  have HN4 : Hid (World.ownsRow w3 0 3 1 (.slice (some ⟨D.nw, 0, none⟩) D.nb D.capN) D.nb ((newest D.f D.nb D.pen.length).map (Value.int .i64))) := owns_fr (HQ.out.1.on HA2.out).nws HZ.out.2.1 (fun k hk e => by cases hk; exact (HQ.out.1.ap.p _ e).2.2.1 rfl)
  have r3 := HZ.out.2.1.heap (HQ.out.1.on HA2.out).row (fun e => (HQ.out.1.ap.p _ e).1 rfl)
  have r4 : (w3.setCell ⟨D.d, 1, none⟩ (.slice (some ⟨gp, 0, none⟩) (D.pen.length + 1) cp)).heap[D.d]? = some (.cells ((D.act gt ct ⟨1, i, .slice (some ⟨g, 0, none⟩) 512 cap, x⟩).cells.setIfInBounds 1 (.slice (some ⟨gp, 0, none⟩) (D.pen.length + 1) cp)) 90 (0, 0)) := heap_setCell_same _ _ 1 _ _ (Value.slice (some ⟨gp, 0, none⟩) (D.pen.length + 1) cp) r3
  obtain ⟨a, c, hv, _, _, hc⟩ := owns_slice (owns_fr HN4.out (Fr.set (g := D.d) (k := 1) (v := .slice (some ⟨gp, 0, none⟩) (D.pen.length + 1) cp)) (fun k hk e => by cases hk; exact HD.out.ap.dn e.symm))
  cases hv
  have T3 := (hc _ _ rfl).2.2 i
  have T2 : (w3.setCell ⟨D.d, 1, none⟩ (.slice (some ⟨gp, 0, none⟩) (D.pen.length + 1) cp)).cell? ⟨D.nw, i, none⟩ = some (.int .i64 (nth (newest D.f D.nb D.pen.length) i)) := (hc _ _ rfl).2.1 i _ (by
    have : i < (newest D.f D.nb D.pen.length).length := by rw [newest_length]; exact hi
    simp [nth, List.getD, this])
  generalize hw4 : w3.setCell ⟨D.d, 1, none⟩ (.slice (some ⟨gp, 0, none⟩) (D.pen.length + 1) cp) = w4 at *
  have T0 : w4.cell? ⟨D.d, 1, none⟩ = some (.slice (some ⟨gp, 0, none⟩) (D.pen.length + 1) cp) := cell_of_row _ _ _ _ _ _ r4
  have T1 : w4.cell? ⟨D.d, 2, none⟩ = some (.slice (some ⟨D.nw, 0, none⟩) D.nb D.capN) := cell_of_row _ _ _ _ _ _ r4
  have HE : Hid (w4 = w3.setCell ⟨D.d, 1, none⟩ (.slice (some ⟨gp, 0, none⟩) (D.pen.length + 1) cp)) := hw4.symm
  have hnb := HD.out.nb1
  clear hw4 r3 r4 hc C1 c3 f3 HN2 HW2
  go_region
  all_goals
    go_wp2
    go_end0
    refine ⟨rfl, gt, ct, gp, cp, ?_⟩
    have hp := HQ.out.1.pended (p := ⟨i, g, cap, x⟩) HA2.out hi HX.out.1 HX2.out.1 HX2.out.2 hd HZ.out.1 HZ.out.2.1 HZ.out.2.2 hpl HE.out ((Below.refl _ w4).drew)
    exact ⟨hp.1, HQ.out.2.trans hp.2⟩
end Go.Proofs.YtflienghgobmoaaGreatDoor

namespace Go.Proofs.YtflienghgobmoaaGreatDoor
open Go.RowKit Rec

theorem neq_nil (w : World) : (binOp .neq 1 .nilFunc .nilFunc).run Tryz.prog w = .ok (.bool false) w := by
  have h : ∀ d : Nat, (Op.equalIn (d + 1) 1 .nilFunc .nilFunc).run Tryz.prog w = .ok true w := fun d => by
    simp [Op.equalIn, run_underlying Tryz.underlying1]
  simp only [binOp]
  simp [Op.equal, Op.maxDepth, h 9999]
theorem neq_fn (w : World) (f : Fn) (a b : Array Value) : (binOp .neq 1 (.func f a b) .nilFunc).run Tryz.prog w = .ok (.bool true) w := by
  have h : ∀ d : Nat, (Op.equalIn (d + 1) 1 (.func f a b) .nilFunc).run Tryz.prog w = .ok false w := fun d => by
    simp [Op.equalIn, run_underlying Tryz.underlying1]
  simp only [binOp]
  simp [Op.equal, Op.maxDepth, h 9999]
set_option maxRecDepth 100000 in
set_option maxHeartbeats 800000 in
theorem step_nil (w : World) (D : Dk) (h : Disk w D) (hg : D.at_ ≠ 1) :
    Calls Tryz.prog 185 #[.pointer (some ⟨D.d, 0, none⟩), .nilFunc] w fun e w' => e = .returned (.int .i64 0) ∧ Disk w' D.ticked ∧ Mv w D w' D.ticked := by
  have C6 : w.cell? ⟨D.d, 6, none⟩ = some (.int .i64 D.at_) := h.cell 6
  have F6 := h.frozen 6
  have h9 := h.at1
  unfold Dk.ticked
  by_cases hp : 0 < D.at_
  · rw [if_pos hp]
    have h2 : 1 < D.at_ := by omega
    obtain ⟨h8, m8⟩ := h.put1 (D' := { D with at_ := D.at_ - 1 }) 6 (.int .i64 (D.at_ - 1)) rfl rfl h.dn h.wrs h.fls (by show D.at_ - 1 ≤ _; omega)
    have HD : Hid (Disk (w.setCell ⟨D.d, 6, none⟩ (.int .i64 (D.at_ - 1))) { D with at_ := D.at_ - 1 } ∧ Mv w D (w.setCell ⟨D.d, 6, none⟩ (.int .i64 (D.at_ - 1))) { D with at_ := D.at_ - 1 }) := ⟨h8, m8⟩
    clear h h8 m8
    have E1 := neq_nil
    go_enter Tryz.func185, Tryz.ntmps185
    go_wp2
    go_ret
    exact ⟨rfl, HD.out⟩
  · rw [if_neg hp]
    have HD : Hid (Disk w D) := h
    clear h
    have E1 := neq_nil
    go_enter Tryz.func185, Tryz.ntmps185
    go_wp2
    go_ret
    exact ⟨rfl, HD.out, Mv.refl _ _⟩
/-- an act of a flush -/
def flushAc : Ac := ⟨2, 0, .slice none 0 0, []⟩
set_option maxRecDepth 100000 in
set_option maxHeartbeats 1600000 in
theorem flush1_any (w : World) (D : Dk) (h : Disk w D) (c : Nat) (hc : w.cell? ⟨c, 0, none⟩ = some (.pointer (some ⟨D.d, 0, none⟩))) (hcn : ¬ D.has c) (htl : D.tap.length + 1 ≤ 3518437208800) :
    Calls Tryz.prog 186 #[.pointer (some ⟨c, 0, none⟩)] w fun e w' => e = .returned (.tuple #[]) ∧ ∃ gt ct, Disk w' ((D.act gt ct flushAc).settled (fun _ => true)) ∧ Mv w D w' ((D.act gt ct flushAc).settled (fun _ => true)) := by
  obtain ⟨ta, tc, htv, _⟩ := owns_slice h.tap
  have C3 : w.cell? ⟨D.d, 3, none⟩ = some (.slice ta D.tap.length tc) := by rw [← htv]; exact h.cell 3
  have HD : Hid (Disk w D) := h
  have HT : Hid (D.tv = .slice ta D.tap.length tc) := htv
  have HC : Hid (w.cell? ⟨c, 0, none⟩ = some (.pointer (some ⟨D.d, 0, none⟩)) ∧ ¬ D.has c) := ⟨hc, hcn⟩
  clear h htv hcn
  obtain ⟨i1, j1, j2, j3, j4⟩ := info_parts infoAct
  have HA : Hid (Below w.heap.size w ((w.alloc (.cells #[.int .i64 2, .int .i64 0, .slice none 0 0] 177)).drew)) := ((Below.refl _ _).alloc (Nat.le_refl _) _).drew
  have HR : (w.alloc (.cells #[.int .i64 2, .int .i64 0, .slice none 0 0] 177)).drew.heap[w.heap.size]? = _ := heap_alloc_new w (.cells #[.int .i64 2, .int .i64 0, .slice none 0 0] 177)
  have C3a : (w.alloc (.cells #[.int .i64 2, .int .i64 0, .slice none 0 0] 177)).cell? ⟨D.d, 3, none⟩ = some (.slice ta D.tap.length tc) := (fr_alloc (fun _ => False) w _).cell C3 (fun e => e)
  have Cca : (w.alloc (.cells #[.int .i64 2, .int .i64 0, .slice none 0 0] 177)).cell? ⟨c, 0, none⟩ = some (.pointer (some ⟨D.d, 0, none⟩)) := (fr_alloc (fun _ => False) w _).cell hc (fun e => e)
  have HN : Hid (∀ j u, (Ac.cells flushAc)[j]? = some u → ((w.alloc (.cells #[.int .i64 2, .int .i64 0, .slice none 0 0] 177)).drew).cell? ((⟨w.heap.size, 0, none⟩ : Addr).add j) = some u) := news_of HR _ rfl
  have HW : Hid (((w.alloc (.cells #[.int .i64 2, .int .i64 0, .slice none 0 0] 177)).drew).ownsRow 0 177 3 (.slice ta D.tap.length tc) D.tap.length (D.tap.flatMap Ac.cells)) := by
    have e := (HD.out.on HA.out).tap
    rw [HT.out] at e; exact e
  clear HR
  go_enter Tryz.func186, Tryz.ntmps186
  go_wp2
  go_region_law (refine step_own rfl (.tmp 5) (.tmp 7) 49 rfl 177 i1 _ 3 40 Tryz.underlying49 j1 j2 j3 j4 rfl (by decide) (.slice ta D.tap.length tc) D.tap.length (D.tap.flatMap Ac.cells) (by simp [Act.eval]) HW.out ⟨w.heap.size, 0, none⟩ 1 1 (Ac.cells flushAc) (by simp [Act.eval]) (by decide) rfl HN.out (by intro u hu; simp [Ac.cells, flushAc] at hu; rcases hu with rfl | rfl | rfl <;> rfl) (by unfold maxLen; omega) (by omega) ?_; intro gt ct w1 ho hf hgt; rw [← HT.out] at hf hgt; have HQ : Hid (Disk (w1.setCell ⟨D.d, 3, none⟩ (.slice (some ⟨gt, 0, none⟩) (D.tap.length + 1) ct)) (D.act gt ct flushAc) ∧ Mv w D (w1.setCell ⟨D.d, 3, none⟩ (.slice (some ⟨gt, 0, none⟩) (D.tap.length + 1) ct)) (D.act gt ct flushAc)) := HD.out.taped HA.out (.inr ⟨rfl, rfl, rfl, rfl⟩) ho hf hgt htl; have r1 := hf.heap (HD.out.on HA.out).row (fun e => (HD.out.ap.t _ e).1 rfl); have c3 : w1.cell? ⟨D.d, 3, none⟩ = some D.tv := cell_of_row _ _ _ _ _ _ r1; have f3 := frozen_of_row _ _ 3 _ _ r1; have cc : w1.cell? ⟨c, 0, none⟩ = some (.pointer (some ⟨D.d, 0, none⟩)) := hf.cell (by rw [HA.out.cell (p := ⟨c, 0, none⟩) (block_lt_of_cell HC.out.1)]; exact HC.out.1) (fun e => HC.out.2 (.inr (.inr (.inr (.inr e))))); clear r1 ho hf hgt)
  all_goals
    clear c3 f3 C3 hc C3a Cca cc
    generalize w1.setCell ⟨D.d, 3, none⟩ (.slice (some ⟨gt, 0, none⟩) (D.tap.length + 1) ct) = w2 at *
    have hc : w2.cell? ⟨c, 0, none⟩ = some (.pointer (some ⟨D.d, 0, none⟩)) := HQ.out.2.fr.cell HC.out.1 HC.out.2
    go_wp2_with (go_at_call 86; refine (settle_all _ (D.act gt ct flushAc) HQ.out.1).mono ?_; rintro e w3 ⟨rfl, hd, hf⟩; have HZ : Hid (Disk w3 ((D.act gt ct flushAc).settled (fun _ => true)) ∧ Fr (D.act gt ct flushAc).has w2 w3) := ⟨hd, hf⟩; clear hd hf)
    go_end0
    exact ⟨rfl, gt, ct, HZ.out.1, HQ.out.2.trans ⟨HZ.out.2, fun k hk => .inl ((settled_has _ _ k).1 hk), rfl, rfl⟩⟩
set_option maxRecDepth 100000 in
set_option maxHeartbeats 1600000 in
theorem step_flush (w : World) (D : Dk) (h : Disk w D) (hg : D.at_ ≠ 1) (c : Nat) (hc : w.cell? ⟨c, 0, none⟩ = some (.pointer (some ⟨D.d, 0, none⟩))) (hcn : ¬ D.has c) (htl : D.tap.length + 1 ≤ 3518437208800) :
    Calls Tryz.prog 185 #[.pointer (some ⟨D.d, 0, none⟩), .func (.func 186) #[] #[.pointer (some ⟨c, 0, none⟩)]] w fun e w' => e = .returned (.int .i64 0) ∧ ∃ gt ct, Disk w' ((D.ticked.act gt ct flushAc).settled (fun _ => true)) ∧ Mv w D w' ((D.ticked.act gt ct flushAc).settled (fun _ => true)) := by
  have C6 : w.cell? ⟨D.d, 6, none⟩ = some (.int .i64 D.at_) := h.cell 6
  have F6 := h.frozen 6
  have h9 := h.at1
  unfold Dk.ticked
  by_cases hp : 0 < D.at_
  · rw [if_pos hp]
    have h2 : 1 < D.at_ := by omega
    obtain ⟨h8, m8⟩ := h.put1 (D' := { D with at_ := D.at_ - 1 }) 6 (.int .i64 (D.at_ - 1)) rfl rfl h.dn h.wrs h.fls (by show D.at_ - 1 ≤ _; omega)
    have HD : Hid (Disk (w.setCell ⟨D.d, 6, none⟩ (.int .i64 (D.at_ - 1))) { D with at_ := D.at_ - 1 } ∧ Mv w D (w.setCell ⟨D.d, 6, none⟩ (.int .i64 (D.at_ - 1))) { D with at_ := D.at_ - 1 }) := ⟨h8, m8⟩
    have HC : Hid ((w.setCell ⟨D.d, 6, none⟩ (.int .i64 (D.at_ - 1))).cell? ⟨c, 0, none⟩ = some (.pointer (some ⟨D.d, 0, none⟩)) ∧ ¬ D.has c) := ⟨m8.fr.cell hc hcn, hcn⟩
    clear h h8 m8 hc hcn
    have E1 := neq_fn
    go_enter Tryz.func185, Tryz.ntmps185
    go_wp2_with (go_at_call 186; refine (flush1_any _ { D with at_ := D.at_ - 1 } HD.out.1 c HC.out.1 HC.out.2 htl).mono ?_; rintro e w3 ⟨rfl, gt, ct, hd, hf⟩; have HZ : Hid (Disk w3 ((({ D with at_ := D.at_ - 1 } : Dk).act gt ct flushAc).settled (fun _ => true)) ∧ Mv w D w3 ((({ D with at_ := D.at_ - 1 } : Dk).act gt ct flushAc).settled (fun _ => true))) := ⟨hd, HD.out.2.trans hf⟩; clear hd hf)
    go_ret
    exact ⟨rfl, gt, ct, HZ.out⟩
  · rw [if_neg hp]
    have HD : Hid (Disk w D) := h
    have HC : Hid (w.cell? ⟨c, 0, none⟩ = some (.pointer (some ⟨D.d, 0, none⟩)) ∧ ¬ D.has c) := ⟨hc, hcn⟩
    clear h hc hcn
    have E1 := neq_fn
    go_enter Tryz.func185, Tryz.ntmps185
    go_wp2_with (go_at_call 186; refine (flush1_any _ D HD.out c HC.out.1 HC.out.2 htl).mono ?_; rintro e w3 ⟨rfl, gt, ct, hd, hf⟩; have HZ : Hid (Disk w3 ((D.act gt ct flushAc).settled (fun _ => true)) ∧ Mv w D w3 ((D.act gt ct flushAc).settled (fun _ => true))) := ⟨hd, hf⟩; clear hd hf)
    go_ret
    exact ⟨rfl, gt, ct, HZ.out⟩
end Go.Proofs.YtflienghgobmoaaGreatDoor
