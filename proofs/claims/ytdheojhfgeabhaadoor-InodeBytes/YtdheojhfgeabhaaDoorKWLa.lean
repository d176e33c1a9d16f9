import Derived.Test.YtdheojhfgeabhaaDoorKWalM
namespace Go.Proofs.YtdheojhfgeabhaaDoor
open Go.RowKit Rec

/-- 512 bytes: some at the front -/
def blkOf (of : List Int) (y : Int) (k : Nat) : List Int := (List.range k).map fun i => if i < of.length then nth of i else y
theorem blkOf_length (of : List Int) (y : Int) (k : Nat) : (blkOf of y k).length = k := by simp [blkOf]
theorem blkOf_succ (of : List Int) (y : Int) (k : Nat) : blkOf of y (k + 1) = blkOf of y k ++ [if k < of.length then nth of k else y] := by
  unfold blkOf; rw [List.range_succ, List.map_append]; rfl
theorem nth_blkOf (of : List Int) (y : Int) (k i : Nat) (hi : i < k) : nth (blkOf of y k) i = if i < of.length then nth of i else y := by
  simp [blkOf, nth, List.getD, hi]
theorem blkOf_wf (of : List Int) (y : Int) (k : Nat) (h : ∀ i, 0 ≤ nth of i ∧ nth of i < 256) (hy : 0 ≤ y ∧ y < 256) : ∀ i, 0 ≤ nth (blkOf of y k) i ∧ nth (blkOf of y k) i < 256 := fun i => by
  by_cases hi : i < k
  · rw [nth_blkOf _ _ _ _ hi]; split
    · exact h i
    · exact hy
  · rw [nth_out _ _ (by rw [blkOf_length]; omega)]; omega
theorem new1 (w : World) (x : Int) (hx : 0 ≤ x ∧ x < 256) : Bytes (w.alloc (.cells #[.int .u8 x] 5)) (some ⟨w.heap.size, 0, none⟩) [x] := by
  refine ⟨by simp, fun i => ?_, .inr ⟨_, _, rfl, fun i hi => ?_⟩⟩
  · cases i with
    | zero => exact hx
    | succ i => rw [nth_out _ _ (by simp)]; omega
  · have : i = 0 := by simpa using hi
    subst this
    rw [cell_of_row _ _ _ _ _ _ (heap_alloc_new _ _)]; rfl
end Go.Proofs.YtdheojhfgeabhaaDoor

namespace Go.Proofs.YtdheojhfgeabhaaDoor
open Go.RowKit Rec

theorem bytes_drop {w : World} {g off : Nat} {l : List Int} (h : Bytes w (some ⟨g, off, none⟩) l) (k : Nat) : Bytes w (some ⟨g, off + k, none⟩) (l.drop k) := by
  have e : ∀ i, nth (l.drop k) i = nth l (k + i) := fun i => by simp [nth, List.getD]
  refine ⟨by have := h.len; rw [List.length_drop]; omega, fun i => by rw [e]; exact h.wf _, .inr ⟨g, off + k, rfl, fun i hi => ?_⟩⟩
  rw [List.length_drop] at hi
  rw [e, Nat.add_assoc]
  exact h.cell (by omega)
theorem bytes_end {w : World} {g : Nat} {l : List Int} (h : Bytes w (some ⟨g, 0, none⟩) l) (c : Nat) (hc : l.length ≤ c) : Bytes w (if c = 50176 then some ⟨g, 0, none⟩ else some ⟨g, 50176, none⟩) (l.drop 50176) := by
  have := bytes_drop h 50176
  rw [Nat.zero_add] at this
  split
  · have e : l.drop 50176 = [] := List.drop_eq_nil_of_le (by omega)
    rw [e] at this ⊢
    exact ⟨this.len, this.wf, .inl rfl⟩
  · exact this
theorem like_take {nb : Nat} {l m : List Int} (h : Like nb l m) (hl : l.length = 512 * nb) (hm : m.length = 512 * nb) (hn : 98 ≤ nb) : l.take 1024 = m.take 1024 ∧ l.drop 50176 = m.drop 50176 := by
  have key : ∀ i, i < 512 * nb → (i < 1024 ∨ 50176 ≤ i) → nth l i = nth m i := fun i hi hc => by
    have := congrArg (fun z => nth z (i % 512)) (h (i / 512) (by omega) (by omega))
    simp only [nth_bck _ _ _ (Nat.mod_lt i (by omega : 0 < 512))] at this
    rwa [Nat.div_add_mod] at this
  constructor
  · refine ext_nth (by simp [hl, hm]) fun i hi => ?_
    rw [List.length_take] at hi
    rw [nth_take _ _ _ (by omega), nth_take _ _ _ (by omega)]
    exact key i (by omega) (.inl (by omega))
  · refine ext_nth (by simp [hl, hm]) fun i hi => ?_
    rw [List.length_drop] at hi
    have e : ∀ (z : List Int), nth (z.drop 50176) i = nth z (50176 + i) := fun z => by simp [nth, List.getD]
    rw [e, e]
    exact key _ (by omega) (.inr (by omega))
end Go.Proofs.YtdheojhfgeabhaaDoor

namespace Go.Proofs.YtdheojhfgeabhaaDoor
open Go.RowKit Rec

/-- a disk of one's own, in a law's world -/
structure Mine (w0 w : World) (D : Dk) : Prop where
  disk : Disk w D
  far : ∀ k, D.all k → w0.heap.size ≤ k
  bel : Below w0.heap.size w0 w
theorem Mine.on {w0 w w' : World} {D : Dk} (h : Mine w0 w D) (hb : Below w.heap.size w w') : Mine w0 w' D := ⟨h.disk.on hb, h.far, h.bel.trans (hb.mono h.bel.size)⟩
theorem Mine.step {w0 w w' : World} {D E : Dk} (h : Mine w0 w D) (hd : Disk w' E) (hm : Mv w D w' E) (ha : Al w.heap.size D E) : Mine w0 w' E :=
  ⟨hd, fun k hk => (ha k hk).elim (h.far k) (fun e => Nat.le_trans h.bel.size e), h.bel.trans (hm.fr.below _ (fun k hk => h.far k (.inl hk)) h.bel.size)⟩
theorem Mine.done {w0 w w' : World} {D E : Dk} {acts : List WA} (h : Mine w0 w D) (hd : DoneAt w D w' E acts) : Mine w0 w' E := h.step hd.disk hd.mv hd.al
theorem Mine.hasLt {w0 w : World} {D : Dk} (h : Mine w0 w D) : ∀ k, D.has k → k < w.heap.size := fun _ hk => h.disk.hasLt hk
theorem Mine.far' {w0 w1 w : World} {D : Dk} (h : Mine w1 w D) (hb : Below w0.heap.size w0 w1) : Mine w0 w D := ⟨h.disk, fun k hk => Nat.le_trans hb.size (h.far k hk), hb.trans (h.bel.mono hb.size)⟩
theorem newDk_all (d L nw capL nb : Nat) (las : List Int) (n : Nat) (h1 : n ≤ d) (h2 : n ≤ L) (h3 : n ≤ nw) : ∀ k, (newDk d L nw capL nb las).all k → n ≤ k := by
  rintro k ((rfl | rfl | rfl | hk | hk) | hk | ⟨p, hp, _⟩ | ⟨p, hp, _⟩)
  · exact h1
  · exact h2
  · exact h3
  · cases hk
  · cases hk
  · cases hk
  · cases hp
  · cases hp
/-- nothing is pending, nothing armed, the log is empty -/
structure Rest (a : AD) (nb : Nat) (l : List Int) : Prop where
  size : a.nb = nb
  las : a.las = l
  pen : a.P = []
  down : a.down = false
  at_ : a.at_ = 0
  len : l.length = 512 * nb
  log : bck l 1 = zs
theorem Rest.full {a : AD} {nb : Nat} {l : List Int} (h : Rest a nb l) : a.full = l := by rw [AD.full_fw, h.pen, h.las]; rfl
theorem Rest.fullD {D : Dk} {nb : Nat} {l : List Int} (h : Rest D.abs nb l) : D.full = l := by rw [abs_full]; exact h.full
theorem Rest.openE {D : Dk} {nb : Nat} {l : List Int} (h : Rest D.abs nb l) (hn : 98 ≤ nb) : openE D = 0 := by
  have hd : D.down = false := h.down
  have hb : D.nb = nb := h.size
  unfold Go.Proofs.YtdheojhfgeabhaaDoor.openE
  rw [hd, h.fullD, hb]
  exact (log_empty hn h.log).2.2
theorem Rest.behind {nb : Nat} {a : AD} {l : List Int} (h : Rest a nb l) (hn : 98 ≤ nb) : behind l nb = l := behind_empty h.len hn h.log
/-- behind a commit -/
def done (l : List Int) (nb : Nat) (ns : List Int) (ds : List (List Int)) : List Int := behind (headed l ns ds) nb
def parts (ns : List Int) (ds : List (List Int)) : List (List (Nat × List Int)) := [logW ds, [(1, made ns ds)], homes ns ds, [(1, zs)]]
section
variable {nb : Nat} {ns : List Int} {ds : List (List Int)} {l : List Int}
theorem done_length (hl : l.length = 512 * nb) (ok : ComOk nb ns ds) : (done l nb ns ds).length = 512 * nb := by unfold done; rw [behind_length]; exact (headed_log ok hl).1
theorem done_one (hl : l.length = 512 * nb) (ok : ComOk nb ns ds) : bck (done l nb ns ds) 1 = zs := behind_one _ nb (headed_log ok hl).1 ok.n98
theorem done_in (hl : l.length = 512 * nb) (ok : ComOk nb ns ds) (p : Nat × List Int) (hp : p ∈ homes ns ds) : bck (done l nb ns ds) p.1 = p.2 := by
  obtain ⟨hl', _, eH, _⟩ := headed_log ok hl
  have hH := homes_okC ok
  have h1 := hH.lo p hp
  unfold done
  rw [bck_behind _ _ _ hl' (hH.hi p hp), if_neg (by omega), eH, bck_fw_in _ _ nb hl' hH.len hH.hi hH.once p hp]
theorem done_log (hl : l.length = 512 * nb) (ok : ComOk nb ns ds) (i : Nat) (hi : i < ds.length) : bck (done l nb ns ds) (2 + i) = row ds i := by
  obtain ⟨hl', _, eH, _⟩ := headed_log ok hl
  have hH := homes_okC ok
  have hn := ok.n98
  have := ok.dl
  have := ok.hi
  unfold done
  rw [bck_behind _ _ _ hl' (by omega), if_neg (by omega), eH, bck_fw_out _ _ _ nb hl' hH.len (by omega) (fun p hp e => by have := hH.lo p hp; omega)]
  rw [headed, bck_wr _ _ _ _ nb (by rw [fw_length, hl]) (made_length _ _) (by omega), if_neg (by omega)]
  have hp : (2 + i, row ds i) ∈ logW ds := by
    simp only [logW, List.mem_map, List.mem_range]
    exact ⟨i, hi, rfl⟩
  exact bck_fw_in l (logW ds) nb hl (fun p hp => (logW_in ok p hp).1) (fun p hp => by have := logW_in ok p hp; omega) (logW_once ds) _ hp
/-- but for its log, the disk is as it was with the blocks in their places -/
theorem done_like (hl : l.length = 512 * nb) (h1 : bck l 1 = zs) (ok : ComOk nb ns ds) : Like nb (done l nb ns ds) (fw l (homes ns ds)) := by
  have h := (well_headed ok hl h1).like
  exact h
end
theorem Rest.commit {a : AD} {nb : Nat} {l : List Int} {ns : List Int} {ds : List (List Int)} (h : Rest a nb l) (ok : ComOk nb ns ds) :
    a.takeE (commitA ns ds) = 0 ∧ a.take (commitA ns ds) = a.all (parts ns ds) ∧ Rest (a.all (parts ns ds)) nb (done l nb ns ds) := by
  have ht := (take_commit a nb ns ds ok (by rw [h.las]; exact h.len) (by rw [h.las]; exact h.log) h.pen h.down).1 (by rw [h.at_]; omega)
  obtain ⟨e1, e2, e3, _⟩ := ht
  refine ⟨e2, e1, h.size, ?_, rfl, h.down, ?_, done_length h.len ok, done_one h.len ok⟩
  · rw [e1, h.las] at e3; exact e3
  · show (if 0 < a.at_ then a.at_ - _ else a.at_) = 0
    rw [h.at_]; rfl
theorem all_wr (a : AD) (ns : List Int) (ds : List (List Int)) (h : ds.length = ns.length) : (a.all (parts ns ds)).wr = a.wr + (2 * ns.length + 2) ∧ (a.all (parts ns ds)).fl = a.fl + 4 := by
  constructor
  · show a.wr + (parts ns ds).flatten.length = _
    rw [parts, flt4]
    simp only [List.length_append, logW_length, homes_length ns ds h, List.length_cons, List.length_nil]
    omega
  · rfl
end Go.Proofs.YtdheojhfgeabhaaDoor

namespace Go.Proofs.YtdheojhfgeabhaaDoor
open Go.RowKit Rec

theorem ptr_nil (w : World) (p : Addr) : (binOp .eql 36 (.pointer (some p)) (.pointer none)).run Tryd.prog w = .ok (.bool false) w := by
  have h : ∀ d : Nat, (Op.equalIn (d + 1) 36 (.pointer (some p)) (.pointer none)).run Tryd.prog w = .ok false w := fun d => by
    simp [Op.equalIn, run_underlying Tryd.underlying36]
  simp only [binOp]
  simp [Op.equal, Op.maxDepth, h 9999]
theorem nil_bytes (w : World) : Bytes w none [] := ⟨by simp, by intro i; simp [nth], .inl rfl⟩
theorem nth_repl0 (n i : Nat) : nth (List.replicate n 0) i = 0 := by
  by_cases h : i < n
  · simp [nth, List.getD, h]
  · rw [nth_out _ _ (by simp; omega)]
theorem zsA_block (nb b : Nat) (hb : b < nb) : bck (zsA (512 * nb)) b = zs := by
  refine ext_nth (by rw [bck_length _ _ nb (zsA_length _) hb, zs_length]) fun i hi => ?_
  rw [bck_length _ _ nb (zsA_length _) hb] at hi
  rw [nth_bck _ _ _ hi, zsA, nth_repl0, nth_zs]
theorem new_rest (w : World) (nb : Nat) (h0 : 98 ≤ nb) (h1 : nb ≤ 16384) : Calls Tryd.prog 10 #[.int .i64 nb] w fun e w' => ∃ D l, e = .returned (.tuple #[.pointer (some ⟨D.d, 0, none⟩), .int .i64 0]) ∧ Mine w w' D ∧ Rest D.abs nb l ∧ l = zsA (512 * nb) ∧ D.wr = 0 ∧ D.fl = 0 ∧ D.tap = [] ∧ D.keep = [] := by
  refine (new_yes w nb (by omega) h1).mono ?_
  rintro e w' ⟨d, nw, L, capL, rfl, a1, a2, a3, hd, hb⟩
  exact ⟨_, _, rfl, ⟨hd, newDk_all _ _ _ _ _ _ _ a1 a3 a2, hb⟩, ⟨rfl, rfl, rfl, rfl, rfl, zsA_length _, zsA_block nb 1 (by omega)⟩, rfl, rfl, rfl, rfl, rfl⟩
theorem ok_fixed (A B : List Int) (hA : A.length = 512) (hB : B.length = 512) (g1 c1 g2 c2 : Nat) : ComOk 100 (nsB [⟨98, g1, c1, A⟩, ⟨99, g2, c2, B⟩]) (dsB [⟨98, g1, c1, A⟩, ⟨99, g2, c2, B⟩]) := by
  refine ⟨by omega, by omega, ?_, by simp [nsB], by simp [nsB], rfl, fun b hb => ?_⟩
  · show may [98, 99] ((100 : Nat) : Int) = true
    decide
  · simp only [dsB, List.map_cons, List.map_nil, List.mem_cons, List.not_mem_nil, or_false] at hb
    rcases hb with rfl | rfl
    · exact hA
    · exact hB
/-- what the fixed law reads -/
theorem fixed_math (A B l : List Int) (hA : A.length = 512) (hB : B.length = 512) (h0 : nth A 0 = 65) (hl : l.length = 512 * 100) (g1 c1 g2 c2 : Nat) (F : List Int) (hF : F = done l 100 (nsB [⟨98, g1, c1, A⟩, ⟨99, g2, c2, B⟩]) (dsB [⟨98, g1, c1, A⟩, ⟨99, g2, c2, B⟩])) :
    bck F 98 = A ∧ bck F 3 = B ∧ nth F 50176 = 65 ∧ nth F 512 = 0 ∧ F.length = 51200 := by
  have ok := ok_fixed A B hA hB g1 c1 g2 c2
  have h1 : bck F 98 = A := by rw [hF]; exact done_in hl ok (98, A) (.head _)
  have h2 : bck F 3 = B := by rw [hF]; exact done_log hl ok 1 (by simp [dsB])
  have h3 : bck F 1 = zs := by rw [hF]; exact done_one hl ok
  refine ⟨h1, h2, ?_, ?_, by rw [hF]; exact done_length hl ok⟩
  · have := nth_bck F 98 0 (by omega)
    rw [h1, h0] at this
    exact this.symm
  · have := nth_bck F 1 0 (by omega)
    rw [h3, nth_zs] at this
    exact this.symm
end Go.Proofs.YtdheojhfgeabhaaDoor
