import Derived.Test.YtckldbhaaagncaaGreatDoorKWLa
namespace Go.Proofs.YtckldbhaaagncaaGreatDoor
open Go.RowKit Rec

/-- a disk of one's own, in a law's world -/
structure Mine (w0 w : World) (D : Dk) : Prop where
  disk : Disk w D
  far : ∀ k, D.all k → w0.heap.size ≤ k
  bel : Below w0.heap.size w0 w
theorem Mine.on {w0 w w' : World} {D : Dk} (h : Mine w0 w D) (hb : Below w.heap.size w w') : Mine w0 w' D := ⟨h.disk.on hb, h.far, h.bel.trans (hb.mono h.bel.size)⟩
theorem Mine.step {w0 w w' : World} {D E : Dk} (h : Mine w0 w D) (hd : Disk w' E) (hm : Mv w D w' E) (ha : Al w.heap.size D E) : Mine w0 w' E :=
  ⟨hd, fun k hk => (ha k hk).elim (h.far k) (fun e => Nat.le_trans h.bel.size e), h.bel.trans (hm.fr.below _ (fun k hk => h.far k (.inl hk)) h.bel.size)⟩
theorem Mine.done {w0 w w' : World} {D E : Dk} {acts : List WA} (h : Mine w0 w D) (hd : DoneAt w D w' E acts) : Mine w0 w' E := h.step hd.disk hd.mv hd.al
theorem Mine.hasLt {w0 w : World} {D : Dk} (h : Mine w0 w D) : ∀ k, D.has k → k < w.heap.size := fun _ hk => h.disk.hasLt hk
theorem Mine.far' {w0 w1 w : World} {D : Dk} (h : Mine w1 w D) (hb : Below w0.heap.size w0 w1) : Mine w0 w D := ⟨h.disk, fun k hk => Nat.le_trans hb.size (h.far k hk), hb.trans (h.bel.mono hb.size)⟩
theorem newDk_all (d L nw capL nb : Nat) (las : List Int) (n : Nat) (h1 : n ≤ d) (h2 : n ≤ L) (h3 : n ≤ nw) : ∀ k, (newDk d L nw capL nb las).all k → n ≤ k := by
  rintro k ((rfl | rfl | rfl | hk | hk) | hk | ⟨p, hp, _⟩ | ⟨p, hp, _⟩)
  · exact h1
  · exact h2
  · exact h3
  · cases hk
  · cases hk
  · cases hk
  · cases hp
  · cases hp
/-- nothing is pending, nothing armed, the log is empty -/
structure Rest (a : AD) (nb : Nat) (l : List Int) : Prop where
  size : a.nb = nb
  las : a.las = l
  pen : a.P = []
  down : a.down = false
  at_ : a.at_ = 0
  len : l.length = 512 * nb
  log : bck l 1 = zs
theorem Rest.full {a : AD} {nb : Nat} {l : List Int} (h : Rest a nb l) : a.full = l := by rw [AD.full_fw, h.pen, h.las]; rfl
theorem Rest.fullD {D : Dk} {nb : Nat} {l : List Int} (h : Rest D.abs nb l) : D.full = l := by rw [abs_full]; exact h.full
theorem Rest.openE {D : Dk} {nb : Nat} {l : List Int} (h : Rest D.abs nb l) (hn : 98 ≤ nb) : openE D = 0 := by
  have hd : D.down = false := h.down
  have hb : D.nb = nb := h.size
  unfold Go.Proofs.YtckldbhaaagncaaGreatDoor.openE
  rw [hd, h.fullD, hb]
  exact (log_empty hn h.log).2.2
theorem Rest.behind {nb : Nat} {a : AD} {l : List Int} (h : Rest a nb l) (hn : 98 ≤ nb) : behind l nb = l := behind_empty h.len hn h.log
/-- behind a commit -/
def done (l : List Int) (nb : Nat) (ns : List Int) (ds : List (List Int)) : List Int := behind (headed l ns ds) nb
def parts (ns : List Int) (ds : List (List Int)) : List (List (Nat × List Int)) := [logW ds, [(1, made ns ds)], homes ns ds, [(1, zs)]]
section
variable {nb : Nat} {ns : List Int} {ds : List (List Int)} {l : List Int}
theorem done_length (hl : l.length = 512 * nb) (ok : ComOk nb ns ds) : (done l nb ns ds).length = 512 * nb := by unfold done; rw [behind_length]; exact (headed_log ok hl).1
theorem done_one (hl : l.length = 512 * nb) (ok : ComOk nb ns ds) : bck (done l nb ns ds) 1 = zs := behind_one _ nb (headed_log ok hl).1 ok.n98
theorem done_in (hl : l.length = 512 * nb) (ok : ComOk nb ns ds) (p : Nat × List Int) (hp : p ∈ homes ns ds) : bck (done l nb ns ds) p.1 = p.2 := by
  obtain ⟨hl', _, eH, _⟩ := headed_log ok hl
  have hH := homes_okC ok
  have h1 := hH.lo p hp
  unfold done
  rw [bck_behind _ _ _ hl' (hH.hi p hp), if_neg (by omega), eH, bck_fw_in _ _ nb hl' hH.len hH.hi hH.once p hp]
theorem done_log (hl : l.length = 512 * nb) (ok : ComOk nb ns ds) (i : Nat) (hi : i < ds.length) : bck (done l nb ns ds) (2 + i) = row ds i := by
  obtain ⟨hl', _, eH, _⟩ := headed_log ok hl
  have hH := homes_okC ok
  have hn := ok.n98
  have := ok.dl
  have := ok.hi
  unfold done
  rw [bck_behind _ _ _ hl' (by omega), if_neg (by omega), eH, bck_fw_out _ _ _ nb hl' hH.len (by omega) (fun p hp e => by have := hH.lo p hp; omega)]
  rw [headed, bck_wr _ _ _ _ nb (by rw [fw_length, hl]) (made_length _ _) (by omega), if_neg (by omega)]
  have hp : (2 + i, row ds i) ∈ logW ds := by
    simp only [logW, List.mem_map, List.mem_range]
    exact ⟨i, hi, rfl⟩
  exact bck_fw_in l (logW ds) nb hl (fun p hp => (logW_in ok p hp).1) (fun p hp => by have := logW_in ok p hp; omega) (logW_once ds) _ hp
/-- but for its log, the disk is as it was with the blocks in their places -/
theorem done_like (hl : l.length = 512 * nb) (h1 : bck l 1 = zs) (ok : ComOk nb ns ds) : Like nb (done l nb ns ds) (fw l (homes ns ds)) := by
  have h := (well_headed ok hl h1).like
  exact h
end
theorem Rest.commit {a : AD} {nb : Nat} {l : List Int} {ns : List Int} {ds : List (List Int)} (h : Rest a nb l) (ok : ComOk nb ns ds) :
    a.takeE (commitA ns ds) = 0 ∧ a.take (commitA ns ds) = a.all (parts ns ds) ∧ Rest (a.all (parts ns ds)) nb (done l nb ns ds) := by
  have ht := (take_commit a nb ns ds ok (by rw [h.las]; exact h.len) (by rw [h.las]; exact h.log) h.pen h.down).1 (by rw [h.at_]; omega)
  obtain ⟨e1, e2, e3, _⟩ := ht
  refine ⟨e2, e1, h.size, ?_, rfl, h.down, ?_, done_length h.len ok, done_one h.len ok⟩
  · rw [e1, h.las] at e3; exact e3
  · show (if 0 < a.at_ then a.at_ - _ else a.at_) = 0
    rw [h.at_]; rfl
theorem all_wr (a : AD) (ns : List Int) (ds : List (List Int)) (h : ds.length = ns.length) : (a.all (parts ns ds)).wr = a.wr + (2 * ns.length + 2) ∧ (a.all (parts ns ds)).fl = a.fl + 4 := by
  constructor
  · show a.wr + (parts ns ds).flatten.length = _
    rw [parts, flt4]
    simp only [List.length_append, logW_length, homes_length ns ds h, List.length_cons, List.length_nil]
    omega
  · rfl
end Go.Proofs.YtckldbhaaagncaaGreatDoor
