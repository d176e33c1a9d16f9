import Derived.Test.YtamlbpbhlgmcoaaGreatDoorKRef5
namespace Go.Proofs.YtamlbpbhlgmcoaaGreatDoor
open Go.RowKit Rec

set_option maxRecDepth 100000 in
set_option maxHeartbeats 800000 in
theorem wmod_any (w : World) (v : Int) (n : Nat) (h0 : 0 < n) (h1 : n ≤ 1000000000) :
    Calls Tryz.prog 5 #[.int .i64 v, .int .i64 n] w fun e w' => e = .returned (.int .i64 (v % n)) ∧ w = w' := by
  go_enter Tryz.func5, Tryz.ntmps5
  by_cases h : v.tmod n < 0
  · have h2 : -(n : Int) ≤ v.tmod n := by
      have := tmod_neg v n h0 h
      have := Int.emod_nonneg v (b := n) (by omega)
      omega
    go_wp2
    go_ret
    refine ⟨?_, rfl⟩
    show Ending.returned (Value.int IntKind.i64 (v.tmod n + n)) = _
    rw [tmod_neg v n h0 h]
  · go_wp2
    go_ret
    refine ⟨?_, rfl⟩
    show Ending.returned (Value.int IntKind.i64 (v.tmod n)) = _
    rw [tmod_pos v n h0 (by omega)]
/-- 512 bytes: some at the front -/
def blkOf (of : List Int) (y : Int) (k : Nat) : List Int := (List.range k).map fun i => if i < of.length then nth of i else y
theorem blkOf_length (of : List Int) (y : Int) (k : Nat) : (blkOf of y k).length = k := by simp [blkOf]
theorem blkOf_succ (of : List Int) (y : Int) (k : Nat) : blkOf of y (k + 1) = blkOf of y k ++ [if k < of.length then nth of k else y] := by
  unfold blkOf; rw [List.range_succ, List.map_append]; rfl
theorem nth_blkOf (of : List Int) (y : Int) (k i : Nat) (hi : i < k) : nth (blkOf of y k) i = if i < of.length then nth of i else y := by
  simp [blkOf, nth, List.getD, hi]
theorem blkOf_wf (of : List Int) (y : Int) (k : Nat) (h : ∀ i, 0 ≤ nth of i ∧ nth of i < 256) (hy : 0 ≤ y ∧ y < 256) : ∀ i, 0 ≤ nth (blkOf of y k) i ∧ nth (blkOf of y k) i < 256 := fun i => by
  by_cases hi : i < k
  · rw [nth_blkOf _ _ _ _ hi]; split
    · exact h i
    · exact hy
  · rw [nth_out _ _ (by rw [blkOf_length]; omega)]; omega
theorem new1 (w : World) (x : Int) (hx : 0 ≤ x ∧ x < 256) : Bytes (w.alloc (.cells #[.int .u8 x] 5)) (some ⟨w.heap.size, 0, none⟩) [x] := by
  refine ⟨by simp, fun i => ?_, .inr ⟨_, _, rfl, fun i hi => ?_⟩⟩
  · cases i with
    | zero => exact hx
    | succ i => rw [nth_out _ _ (by simp)]; omega
  · have : i = 0 := by simpa using hi
    subst this
    rw [cell_of_row _ _ _ _ _ _ (heap_alloc_new _ _)]; rfl
set_option maxRecDepth 100000 in
set_option maxHeartbeats 4000000 in
theorem wblock_any (w : World) (a : Option Addr) (n c : Nat) (of : List Int) (y : Int) (hB : Bytes w a of) (hn : of.length = n) (hy : 0 ≤ y ∧ y < 256) :
    Calls Tryz.prog 18 #[.slice a n c, .int .u8 y] w fun e w' => ∃ g cap, e = .returned (.slice (some ⟨g, 0, none⟩) 512 cap) ∧ OwnB w' g cap (blkOf of y 512) ∧ w.heap.size ≤ g ∧ Below w.heap.size w w' := by
  have HB : Hid (Bytes w a of) := hB
  have HN : Hid (of.length = n) := hn
  have HY : Hid (0 ≤ y ∧ y < 256) := hy
  have hl := hB.len
  rw [hn] at hl
  clear hB hn
  go_enter Tryz.func18, Tryz.ntmps18
  go_wp2
  go_loopw [5, 6] (fun s5 s6 wr => ∃ j : Nat, j ≤ 512 ∧ s6 = .int .i64 j ∧ wr.ownsRow 0 5 1 s5 j ((blkOf of y j).map (Value.int .u8)) ∧ (∀ b, s5.ownBlock = some b → w.heap.size ≤ b) ∧ Below w.heap.size w wr) (fun _ s _ => 512 - (intOf s).toNat)
  case atStart => exact ⟨0, by omega, rfl, ⟨rfl, .inl ⟨rfl, rfl⟩⟩, (fun b h => by cases h), Below.refl _ _⟩
  case round =>
    obtain ⟨j, hj, rfl, ho, hfar, hb⟩ := hrel
    have HR : Hid (wr.ownsRow 0 5 1 u5 j ((blkOf of y j).map (Value.int .u8)) ∧ (∀ b, u5.ownBlock = some b → w.heap.size ≤ b) ∧ Below w.heap.size w wr) := ⟨ho, hfar, hb⟩
    clear ho hfar hb
    by_cases hlt : j < 512
    · by_cases hin : j < n
      · obtain ⟨b, off, rfl, hc⟩ : ∃ b off, a = some ⟨b, off, none⟩ ∧ wr.cell? ⟨b, off + j, none⟩ = some (.int .u8 (nth of j)) := by
          rcases HB.out.at_ with e | ⟨b, off, rfl, hc⟩
          · have := HN.out; rw [e] at this; simp at this; omega
          · exact ⟨b, off, rfl, (HR.out.2.2.cell (block_lt_of_cell (hc j (by rw [HN.out]; exact hin)))).trans (hc j (by rw [HN.out]; exact hin))⟩
        have HX : Hid (blkOf of y (j + 1) = blkOf of y j ++ [nth of j]) := by rw [blkOf_succ, if_pos (by rw [HN.out]; exact hin)]; rfl
        have HWx : Hid (0 ≤ nth of j ∧ nth of j < 256) := HB.out.wf j
        generalize nth of j = x at hc HX HWx
        have HA : Hid (Below wr.heap.size wr (wr.alloc (.cells #[.int .u8 x] 5))) := (Below.refl _ _).alloc (Nat.le_refl _) _
        go_wp2_with (at_builtin; refine wp_bown rfl (.tmp 15) (.tmp 20) rfl u5 j (blkOf of y j) rfl (owns_on HR.out.1 HA.out) ⟨wr.heap.size, 0, none⟩ 1 1 [x] rfl (by omega) rfl (new1 wr x HWx.out) (by omega) ?_; intro g3 cap3 w3 ho hf hg; have H3 : Hid (w3.ownsRow 0 5 1 (.slice (some ⟨g3, 0, none⟩) (j + 1) cap3) (j + 1) ((blkOf of y (j + 1)).map (Value.int .u8)) ∧ w.heap.size ≤ g3 ∧ Below w.heap.size w w3) := ⟨(by rw [HX.out]; exact ho), hg.elim (HR.out.2.1 g3) (fun e => Nat.le_trans (Nat.le_trans HR.out.2.2.size HA.out.size) e), (HR.out.2.2.trans (HA.out.mono HR.out.2.2.size)).trans (hf.below _ HR.out.2.1 (Nat.le_trans HR.out.2.2.size HA.out.size))⟩; clear ho hf hg)
        go_round
        case rel => exact ⟨j + 1, by omega, by go_num, H3.out.1, (fun b hb => by cases hb; exact H3.out.2.1), H3.out.2.2⟩
        case measure => simp [intOf]; omega
      · have HX : Hid (blkOf of y (j + 1) = blkOf of y j ++ [y]) := by rw [blkOf_succ, if_neg (by rw [HN.out]; exact hin)]; rfl
        have HA : Hid (Below wr.heap.size wr (wr.alloc (.cells #[.int .u8 y] 5))) := (Below.refl _ _).alloc (Nat.le_refl _) _
        go_wp2_with (at_builtin; refine wp_bown rfl (.tmp 22) (.tmp 24) rfl u5 j (blkOf of y j) rfl (owns_on HR.out.1 HA.out) ⟨wr.heap.size, 0, none⟩ 1 1 [y] rfl (by omega) rfl (new1 wr y HY.out) (by omega) ?_; intro g3 cap3 w3 ho hf hg; have H3 : Hid (w3.ownsRow 0 5 1 (.slice (some ⟨g3, 0, none⟩) (j + 1) cap3) (j + 1) ((blkOf of y (j + 1)).map (Value.int .u8)) ∧ w.heap.size ≤ g3 ∧ Below w.heap.size w w3) := ⟨(by rw [HX.out]; exact ho), hg.elim (HR.out.2.1 g3) (fun e => Nat.le_trans (Nat.le_trans HR.out.2.2.size HA.out.size) e), (HR.out.2.2.trans (HA.out.mono HR.out.2.2.size)).trans (hf.below _ HR.out.2.1 (Nat.le_trans HR.out.2.2.size HA.out.size))⟩; clear ho hf hg)
        go_round
        case rel => exact ⟨j + 1, by omega, by go_num, H3.out.1, (fun b hb => by cases hb; exact H3.out.2.1), H3.out.2.2⟩
        case measure => simp [intOf]; omega
    · have e : j = 512 := by omega
      subst e
      obtain ⟨g, cap, e⟩ := own_some HR.out.1 (by omega)
      subst e
      go_wp2
      go_ret
      exact ⟨g, cap, rfl, ownB_of HR.out.1 (blkOf_length _ _ _) (by omega) (blkOf_wf _ _ _ HB.out.wf HY.out), HR.out.2.1 g rfl, HR.out.2.2⟩
set_option maxRecDepth 100000 in
theorem sameBytes_yes (w : World) (a b : Option Addr) (n c d : Nat) (l : List Int) (h1 : Bytes w a l) (h2 : Bytes w b l) (hn : l.length = n) :
    Calls Tryz.prog 14 #[.slice a n c, .slice b n d] w fun e w' => e = .returned (.bool true) ∧ w = w' := by
  have e1 : (convert 37 9 (.slice a n c)).run Tryz.prog w = .ok (.string (strOfNums l)) w := str_opt h1 hn
  have e2 : (convert 37 9 (.slice b n d)).run Tryz.prog w = .ok (.string (strOfNums l)) w := str_opt h2 hn
  clear h1 h2 hn
  go_enter Tryz.func14, Tryz.ntmps14
  go_wp2
  go_ret
  exact ⟨rfl, rfl⟩
end Go.Proofs.YtamlbpbhlgmcoaaGreatDoor

namespace Go.Proofs.YtamlbpbhlgmcoaaGreatDoor
open Go.RowKit Rec

end Go.Proofs.YtamlbpbhlgmcoaaGreatDoor

namespace Go.Proofs.YtamlbpbhlgmcoaaGreatDoor
open Go.RowKit Rec

/-- a disk of one's own, in a law's world -/
structure Mine (w0 w : World) (D : Dk) : Prop where
  disk : Disk w D
  far : ∀ k, D.all k → w0.heap.size ≤ k
  bel : Below w0.heap.size w0 w
theorem Mine.on {w0 w w' : World} {D : Dk} (h : Mine w0 w D) (hb : Below w.heap.size w w') : Mine w0 w' D := ⟨h.disk.on hb, h.far, h.bel.trans (hb.mono h.bel.size)⟩
theorem Mine.step {w0 w w' : World} {D E : Dk} (h : Mine w0 w D) (hd : Disk w' E) (hm : Mv w D w' E) (ha : Al w.heap.size D E) : Mine w0 w' E :=
  ⟨hd, fun k hk => (ha k hk).elim (h.far k) (fun e => Nat.le_trans h.bel.size e), h.bel.trans (hm.fr.below _ (fun k hk => h.far k (.inl hk)) h.bel.size)⟩
theorem Mine.done {w0 w w' : World} {D E : Dk} {acts : List WA} (h : Mine w0 w D) (hd : DoneAt w D w' E acts) : Mine w0 w' E := h.step hd.disk hd.mv hd.al
theorem Mine.hasLt {w0 w : World} {D : Dk} (h : Mine w0 w D) : ∀ k, D.has k → k < w.heap.size := fun _ hk => h.disk.hasLt hk
theorem newDk_all (d L nw capL nb : Nat) (las : List Int) (n : Nat) (h1 : n ≤ d) (h2 : n ≤ L) (h3 : n ≤ nw) : ∀ k, (newDk d L nw capL nb las).all k → n ≤ k := by
  rintro k ((rfl | rfl | rfl | hk | hk) | hk | ⟨p, hp, _⟩ | ⟨p, hp, _⟩)
  · exact h1
  · exact h2
  · exact h3
  · cases hk
  · cases hk
  · cases hk
  · cases hp
  · cases hp
/-- nothing is pending, nothing armed, the log is empty -/
structure Rest (a : AD) (nb : Nat) (l : List Int) : Prop where
  size : a.nb = nb
  las : a.las = l
  pen : a.P = []
  down : a.down = false
  at_ : a.at_ = 0
  len : l.length = 512 * nb
  log : bck l 1 = zs
theorem Rest.full {a : AD} {nb : Nat} {l : List Int} (h : Rest a nb l) : a.full = l := by rw [AD.full_fw, h.pen, h.las]; rfl
theorem Rest.fullD {D : Dk} {nb : Nat} {l : List Int} (h : Rest D.abs nb l) : D.full = l := by rw [abs_full]; exact h.full
theorem Rest.openE {D : Dk} {nb : Nat} {l : List Int} (h : Rest D.abs nb l) (hn : 98 ≤ nb) : openE D = 0 := by
  have hd : D.down = false := h.down
  have hb : D.nb = nb := h.size
  unfold Go.Proofs.YtamlbpbhlgmcoaaGreatDoor.openE
  rw [hd, h.fullD, hb]
  exact (log_empty hn h.log).2.2
theorem Rest.behind {nb : Nat} {a : AD} {l : List Int} (h : Rest a nb l) (hn : 98 ≤ nb) : behind l nb = l := behind_empty h.len hn h.log
/-- behind a commit -/
def done (l : List Int) (nb : Nat) (ns : List Int) (ds : List (List Int)) : List Int := behind (headed l ns ds) nb
def parts (ns : List Int) (ds : List (List Int)) : List (List (Nat × List Int)) := [logW ds, [(1, made ns ds)], homes ns ds, [(1, zs)]]
section
variable {nb : Nat} {ns : List Int} {ds : List (List Int)} {l : List Int}
theorem done_length (hl : l.length = 512 * nb) (ok : ComOk nb ns ds) : (done l nb ns ds).length = 512 * nb := by unfold done; rw [behind_length]; exact (headed_log ok hl).1
theorem done_one (hl : l.length = 512 * nb) (ok : ComOk nb ns ds) : bck (done l nb ns ds) 1 = zs := behind_one _ nb (headed_log ok hl).1 ok.n98
theorem done_in (hl : l.length = 512 * nb) (ok : ComOk nb ns ds) (p : Nat × List Int) (hp : p ∈ homes ns ds) : bck (done l nb ns ds) p.1 = p.2 := by
  obtain ⟨hl', _, eH, _⟩ := headed_log ok hl
  have hH := homes_okC ok
  have h1 := hH.lo p hp
  unfold done
  rw [bck_behind _ _ _ hl' (hH.hi p hp), if_neg (by omega), eH, bck_fw_in _ _ nb hl' hH.len hH.hi hH.once p hp]
theorem done_log (hl : l.length = 512 * nb) (ok : ComOk nb ns ds) (i : Nat) (hi : i < ds.length) : bck (done l nb ns ds) (2 + i) = row ds i := by
  obtain ⟨hl', _, eH, _⟩ := headed_log ok hl
  have hH := homes_okC ok
  have hn := ok.n98
  have := ok.dl
  have := ok.hi
  unfold done
  rw [bck_behind _ _ _ hl' (by omega), if_neg (by omega), eH, bck_fw_out _ _ _ nb hl' hH.len (by omega) (fun p hp e => by have := hH.lo p hp; omega)]
  rw [headed, bck_wr _ _ _ _ nb (by rw [fw_length, hl]) (made_length _ _) (by omega), if_neg (by omega)]
  have hp : (2 + i, row ds i) ∈ logW ds := by
    simp only [logW, List.mem_map, List.mem_range]
    exact ⟨i, hi, rfl⟩
  exact bck_fw_in l (logW ds) nb hl (fun p hp => (logW_in ok p hp).1) (fun p hp => by have := logW_in ok p hp; omega) (logW_once ds) _ hp
end
theorem Rest.commit {a : AD} {nb : Nat} {l : List Int} {ns : List Int} {ds : List (List Int)} (h : Rest a nb l) (ok : ComOk nb ns ds) :
    a.takeE (commitA ns ds) = 0 ∧ a.take (commitA ns ds) = a.all (parts ns ds) ∧ Rest (a.all (parts ns ds)) nb (done l nb ns ds) := by
  have ht := (take_commit a nb ns ds ok (by rw [h.las]; exact h.len) (by rw [h.las]; exact h.log) h.pen h.down).1 (by rw [h.at_]; omega)
  obtain ⟨e1, e2, e3, _⟩ := ht
  refine ⟨e2, e1, h.size, ?_, rfl, h.down, ?_, done_length h.len ok, done_one h.len ok⟩
  · rw [e1, h.las] at e3; exact e3
  · show (if 0 < a.at_ then a.at_ - _ else a.at_) = 0
    rw [h.at_]; rfl
theorem all_wr (a : AD) (ns : List Int) (ds : List (List Int)) (h : ds.length = ns.length) : (a.all (parts ns ds)).wr = a.wr + (2 * ns.length + 2) ∧ (a.all (parts ns ds)).fl = a.fl + 4 := by
  constructor
  · show a.wr + (parts ns ds).flatten.length = _
    rw [parts, flt4]
    simp only [List.length_append, logW_length, homes_length ns ds h, List.length_cons, List.length_nil]
    omega
  · rfl
end Go.Proofs.YtamlbpbhlgmcoaaGreatDoor

namespace Go.Proofs.YtamlbpbhlgmcoaaGreatDoor
open Go.RowKit Rec

theorem ptr_nil (w : World) (p : Addr) : (binOp .eql 25 (.pointer (some p)) (.pointer none)).run Tryz.prog w = .ok (.bool false) w := by
  have h : ∀ d : Nat, (Op.equalIn (d + 1) 25 (.pointer (some p)) (.pointer none)).run Tryz.prog w = .ok false w := fun d => by
    simp [Op.equalIn, run_underlying Tryz.underlying25]
  simp only [binOp]
  simp [Op.equal, Op.maxDepth, h 9999]
theorem nil_bytes (w : World) : Bytes w none [] := ⟨by simp, by intro i; simp [nth], .inl rfl⟩
theorem nth_repl0 (n i : Nat) : nth (List.replicate n 0) i = 0 := by
  by_cases h : i < n
  · simp [nth, List.getD, h]
  · rw [nth_out _ _ (by simp; omega)]
theorem zsA_block (nb b : Nat) (hb : b < nb) : bck (zsA (512 * nb)) b = zs := by
  refine ext_nth (by rw [bck_length _ _ nb (zsA_length _) hb, zs_length]) fun i hi => ?_
  rw [bck_length _ _ nb (zsA_length _) hb] at hi
  rw [nth_bck _ _ _ hi, zsA, nth_repl0, nth_zs]
theorem new_rest (w : World) (nb : Nat) (h0 : 98 ≤ nb) (h1 : nb ≤ 16384) : Calls Tryz.prog 6 #[.int .i64 nb] w fun e w' => ∃ D l, e = .returned (.tuple #[.pointer (some ⟨D.d, 0, none⟩), .int .i64 0]) ∧ Mine w w' D ∧ Rest D.abs nb l ∧ l = zsA (512 * nb) ∧ D.wr = 0 ∧ D.fl = 0 ∧ D.tap = [] ∧ D.keep = [] := by
  refine (new_yes w nb (by omega) h1).mono ?_
  rintro e w' ⟨d, nw, L, capL, rfl, a1, a2, a3, hd, hb⟩
  exact ⟨_, _, rfl, ⟨hd, newDk_all _ _ _ _ _ _ _ a1 a3 a2, hb⟩, ⟨rfl, rfl, rfl, rfl, rfl, zsA_length _, zsA_block nb 1 (by omega)⟩, rfl, rfl, rfl, rfl, rfl⟩
theorem commit_rest (w0 w : World) (D : Dk) (nb : Nat) (l : List Int) (hM : Mine w0 w D) (hR : Rest D.abs nb l) (hT : TabAt w) (b n c : Nat) (L : List Bk) (hL : BlocksAt w b L) (hn : L.length = n) (h0 : 0 < n) (ok : ComOk nb (nsB L) (dsB L)) (ha : ∀ q ∈ L, ¬ D.has q.g) (hr : RoomN D.abs (2 * n + 6)) :
    Calls Tryz.prog 19 #[.pointer (some ⟨D.d, 0, none⟩), .slice (some ⟨b, 0, none⟩) n c] w fun e w' => e = .returned (.int .i64 0) ∧ ∃ E, Mine w0 w' E ∧ E.d = D.d ∧ E.abs = D.abs.all (parts (nsB L) (dsB L)) ∧ Rest E.abs nb (done l nb (nsB L) (dsB L)) ∧ Mv w D w' E := by
  have hnb : D.nb = nb := hR.size
  refine (commit_ok w D hM.disk hT b n c L hL hn h0 (by rw [hnb]; exact ok) ha hr).mono ?_
  rintro e w' ⟨rfl, E, hE⟩
  obtain ⟨e1, e2, e3⟩ := hR.commit ok
  have hab := hE.abs
  rw [e2] at hab
  exact ⟨by rw [e1], E, hM.done hE, hE.mv.d, hab, by rw [hab]; exact e3, hE.mv⟩
theorem ok_fixed (A B : List Int) (hA : A.length = 512) (hB : B.length = 512) (g1 c1 g2 c2 : Nat) : ComOk 100 (nsB [⟨98, g1, c1, A⟩, ⟨99, g2, c2, B⟩]) (dsB [⟨98, g1, c1, A⟩, ⟨99, g2, c2, B⟩]) := by
  refine ⟨by omega, by omega, ?_, by simp [nsB], by simp [nsB], rfl, fun b hb => ?_⟩
  · show may [98, 99] ((100 : Nat) : Int) = true
    decide
  · simp only [dsB, List.map_cons, List.map_nil, List.mem_cons, List.not_mem_nil, or_false] at hb
    rcases hb with rfl | rfl
    · exact hA
    · exact hB
/-- what the fixed law reads -/
theorem fixed_math (A B l : List Int) (hA : A.length = 512) (hB : B.length = 512) (h0 : nth A 0 = 65) (hl : l.length = 512 * 100) (g1 c1 g2 c2 : Nat) (F : List Int) (hF : F = done l 100 (nsB [⟨98, g1, c1, A⟩, ⟨99, g2, c2, B⟩]) (dsB [⟨98, g1, c1, A⟩, ⟨99, g2, c2, B⟩])) :
    bck F 98 = A ∧ bck F 3 = B ∧ nth F 50176 = 65 ∧ nth F 512 = 0 ∧ F.length = 51200 := by
  have ok := ok_fixed A B hA hB g1 c1 g2 c2
  have h1 : bck F 98 = A := by rw [hF]; exact done_in hl ok (98, A) (.head _)
  have h2 : bck F 3 = B := by rw [hF]; exact done_log hl ok 1 (by simp [dsB])
  have h3 : bck F 1 = zs := by rw [hF]; exact done_one hl ok
  refine ⟨h1, h2, ?_, ?_, by rw [hF]; exact done_length hl ok⟩
  · have := nth_bck F 98 0 (by omega)
    rw [h1, h0] at this
    exact this.symm
  · have := nth_bck F 1 0 (by omega)
    rw [h3, nth_zs] at this
    exact this.symm
theorem blocks2 (w : World) (A B : List Int) (g1 c1 g2 c2 : Nat) (hA : BlkAt w g1 A) (hB : BlkAt w g2 B) : BlocksAt (w.alloc (.cells #[.int .i64 98, .slice (some ⟨g1, 0, none⟩) 512 c1, .int .i64 99, .slice (some ⟨g2, 0, none⟩) 512 c2] 58)) w.heap.size [⟨98, g1, c1, A⟩, ⟨99, g2, c2, B⟩] := by
  have hb : Below w.heap.size w (w.alloc (.cells #[.int .i64 98, .slice (some ⟨g1, 0, none⟩) 512 c1, .int .i64 99, .slice (some ⟨g2, 0, none⟩) 512 c2] 58)) := (Below.refl _ _).alloc (Nat.le_refl _) _
  have hc : ∀ j, (w.alloc (.cells #[.int .i64 98, .slice (some ⟨g1, 0, none⟩) 512 c1, .int .i64 99, .slice (some ⟨g2, 0, none⟩) 512 c2] 58)).cell? ⟨w.heap.size, j, none⟩ = _ := fun j => cell_of_row _ _ _ _ _ _ (heap_alloc_new _ _)
  refine ⟨fun i q hq => ?_⟩
  match i, hq with
  | 0, hq => simp at hq; subst hq; exact ⟨by rw [hc]; rfl, by rw [hc]; rfl, hA.on hb⟩
  | 1, hq => simp at hq; subst hq; exact ⟨by rw [hc]; rfl, by rw [hc]; rfl, hB.on hb⟩
  | i + 2, hq => simp at hq
set_option maxRecDepth 100000 in
set_option maxHeartbeats 4000000 in
theorem fixed_any (w : World) (hT : TabAt w) : Calls Tryz.prog 4 #[] w fun e w' => e = .returned (.bool true) ∧ Below w.heap.size w w' := by
  obtain ⟨A, eA⟩ : ∃ A, blkOf [] 65 512 = A := ⟨_, rfl⟩
  obtain ⟨B, eB⟩ : ∃ B, blkOf [] 66 512 = B := ⟨_, rfl⟩
  have HBA : Hid (∀ wx, Calls Tryz.prog 18 #[.slice none 0 0, .int .u8 65] wx fun e w' => ∃ g cap, e = .returned (.slice (some ⟨g, 0, none⟩) 512 cap) ∧ OwnB w' g cap A ∧ wx.heap.size ≤ g ∧ Below wx.heap.size wx w') := fun wx => by rw [← eA]; exact wblock_any wx none 0 0 [] 65 (nil_bytes wx) rfl (by omega)
  have HBB : Hid (∀ wx, Calls Tryz.prog 18 #[.slice none 0 0, .int .u8 66] wx fun e w' => ∃ g cap, e = .returned (.slice (some ⟨g, 0, none⟩) 512 cap) ∧ OwnB w' g cap B ∧ wx.heap.size ≤ g ∧ Below wx.heap.size wx w') := fun wx => by rw [← eB]; exact wblock_any wx none 0 0 [] 66 (nil_bytes wx) rfl (by omega)
  have HAl : Hid (A.length = 512 ∧ B.length = 512 ∧ nth A 0 = 65) := by
    refine ⟨by rw [← eA]; exact blkOf_length _ _ _, by rw [← eB]; exact blkOf_length _ _ _, ?_⟩
    rw [← eA, nth_blkOf _ _ _ _ (by omega), if_neg (by simp)]
  have HT : Hid (∀ wx, Below w.heap.size w wx → TabAt wx) := fun wx hb => hT.on hb
  have hptr := ptr_nil
  clear eA eB hT
  go_enter Tryz.func4, Tryz.ntmps4
  go_upto_region 6 with (first
    | (go_at_call 6; refine (new_rest _ 100 (by omega) (by omega)).mono ?_; rintro e w1 ⟨D, l, rfl, hM, hR, _, hwr, hfl, htp, hkp⟩; have H1 : Hid (Mine w w1 D ∧ Rest D.abs 100 l ∧ D.wr = 0 ∧ D.fl = 0 ∧ D.tap = [] ∧ D.keep = []) := ⟨hM, hR, hwr, hfl, htp, hkp⟩; clear hM hR hwr hfl htp hkp)
    | (go_at_call 18; refine (HBA.out _).mono ?_; rintro e w2 ⟨g1, c1, rfl, ho, hg, hb⟩; have H2 : Hid (OwnB w2 g1 c1 A ∧ w1.heap.size ≤ g1 ∧ Below w1.heap.size w1 w2) := ⟨ho, hg, hb⟩; clear ho hg hb HBA)
    | (go_at_call 18; refine (HBB.out _).mono ?_; rintro e w3 ⟨g2, c2, rfl, ho, hg, hb⟩; have H3 : Hid (OwnB w3 g2 c2 B ∧ w2.heap.size ≤ g2 ∧ Below w2.heap.size w2 w3) := ⟨ho, hg, hb⟩; clear ho hg hb HBB))
  obtain ⟨w4, hw4⟩ : ∃ w4, w4 = w3.alloc (.cells #[.int .i64 98, .slice (some ⟨g1, 0, none⟩) 512 c1, .int .i64 99, .slice (some ⟨g2, 0, none⟩) 512 c2] 58) := ⟨_, rfl⟩
  have H4 : Hid (BlocksAt w4 w3.heap.size [⟨98, g1, c1, A⟩, ⟨99, g2, c2, B⟩] ∧ OwnB w4 g1 c1 A ∧ OwnB w4 g2 c2 B ∧ Mine w w4 D ∧ ¬ D.has g1 ∧ ¬ D.has g2) := by
    have hb : Below w3.heap.size w3 w4 := by rw [hw4]; exact (Below.refl _ _).alloc (Nat.le_refl _) _
    have o1 := H2.out.1.on H3.out.2.2
    refine ⟨by rw [hw4]; exact blocks2 w3 A B g1 c1 g2 c2 (BlkAt.of o1 HAl.out.1) (BlkAt.of H3.out.1 HAl.out.2.1), o1.on hb, H3.out.1.on hb, ((H1.out.1.on H2.out.2.2).on H3.out.2.2).on hb, fun e => ?_, fun e => ?_⟩
    · have := H1.out.1.hasLt _ e; have := H2.out.2.1; omega
    · have := H1.out.1.hasLt _ e; have := H3.out.2.1; have := H2.out.2.2.size; omega
  have HC : Hid (Calls Tryz.prog 19 #[.pointer (some ⟨D.d, 0, none⟩), .slice (some ⟨w3.heap.size, 0, none⟩) 2 2] w4 fun e w' => e = .returned (.int .i64 0) ∧ ∃ E F, Mine w w' E ∧ E.d = D.d ∧ Rest E.abs 100 F ∧ (E.wr = 6 ∧ E.fl = 4) ∧ OwnB w' g1 c1 A ∧ OwnB w' g2 c2 B ∧ bck F 98 = A ∧ bck F 3 = B ∧ nth F 50176 = 65 ∧ nth F 512 = 0 ∧ F.length = 51200) := by
    refine (commit_rest w w4 D 100 l H4.out.2.2.2.1 H1.out.2.1 (HT.out _ H4.out.2.2.2.1.bel) w3.heap.size 2 2 _ H4.out.1 rfl (by omega) (ok_fixed A B HAl.out.1 HAl.out.2.1 g1 c1 g2 c2) (fun q hq => ?_) ?_).mono ?_
    · simp only [List.mem_cons, List.not_mem_nil, or_false] at hq
      rcases hq with rfl | rfl
      · exact H4.out.2.2.2.2.1
      · exact H4.out.2.2.2.2.2
    · have h1 : D.abs.wr = 0 := H1.out.2.2.1
      have h2 : D.abs.fl = 0 := H1.out.2.2.2.1
      have h3 : D.abs.T = [] := by show D.tap.map _ = []; rw [H1.out.2.2.2.2.1]; rfl
      have h4 : D.abs.keep = [] := H1.out.2.2.2.2.2
      exact ⟨by rw [H1.out.2.1.pen]; simp, by rw [h3]; simp, by rw [h1]; omega, by rw [h2]; omega, by rw [h4]; simp⟩
    · rintro e w' ⟨rfl, E, hM, hd, hab, hR, hf⟩
      obtain ⟨a1, a2⟩ := all_wr D.abs (nsB [⟨98, g1, c1, A⟩, ⟨99, g2, c2, B⟩]) (dsB [⟨98, g1, c1, A⟩, ⟨99, g2, c2, B⟩]) rfl
      have x1 : E.abs.wr = 6 := by rw [hab, a1]; show D.wr + _ = 6; rw [H1.out.2.2.1]; rfl
      have x2 : E.abs.fl = 4 := by rw [hab, a2]; show D.fl + _ = 4; rw [H1.out.2.2.2.1]
      exact ⟨rfl, E, _, hM, hd, hR, ⟨x1, x2⟩, H4.out.2.1.fr hf.fr H4.out.2.2.2.2.1, H4.out.2.2.1.fr hf.fr H4.out.2.2.2.2.2, fixed_math A B l HAl.out.1 HAl.out.2.1 HAl.out.2.2 H1.out.2.1.len g1 c1 g2 c2 _ rfl⟩
  go_upto_region 7 with (rw [← hw4]; go_at_call 19; refine HC.out.mono ?_; rintro e w5 ⟨rfl, E, F, hM, hd, hR, hs, o1, o2, f1, f2, f3, f4, f5⟩; have H5 : Hid (Mine w w5 E ∧ Rest E.abs 100 F ∧ (E.wr = 6 ∧ E.fl = 4) ∧ OwnB w5 g1 c1 A ∧ OwnB w5 g2 c2 B ∧ bck F 98 = A ∧ bck F 3 = B) := ⟨hM, hR, hs, o1, o2, f1, f2⟩; have HF : Hid (nth F 50176 = 65 ∧ nth F 512 = 0 ∧ F.length = 51200) := ⟨f3, f4, f5⟩; rw [← hd]; clear hM hR hs o1 o2 f1 f2 f3 f4 f5 hd)
  clear H4 H3 H2 H1 HC
  have HSt : Hid (∀ wx, Below w5.heap.size w5 wx → Calls Tryz.prog 10 #[.pointer (some ⟨E.d, 0, none⟩)] wx fun e w' => e = .returned (.tuple #[.int .i64 6, .int .i64 4]) ∧ Below wx.heap.size wx w') := fun wx hb => by
    refine (steps_any wx E (H5.out.1.on hb).disk).mono ?_
    rintro e w' ⟨rfl, hb'⟩
    exact ⟨by rw [H5.out.2.2.1.1, H5.out.2.2.1.2]; rfl, hb'⟩
  have HRd : Hid (∀ wx (i : Nat) X, Below w5.heap.size w5 wx → i < 100 → bck F i = X → Calls Tryz.prog 20 #[.pointer (some ⟨E.d, 0, none⟩), .int .i64 i] wx fun e w' => ∃ g cap, e = .returned (.tuple #[.slice (some ⟨g, 0, none⟩) 512 cap, .int .i64 0]) ∧ OwnB w' g cap X ∧ Below wx.heap.size wx w') := fun wx i X hb hi hX => by
    have hnb : E.nb = 100 := H5.out.2.1.size
    refine (read_yes wx E (H5.out.1.on hb).disk i (by rw [hnb]; exact hi) H5.out.2.1.down).mono ?_
    rintro e w' ⟨g, cap, rfl, hg, ho, hb'⟩
    rw [H5.out.2.1.fullD, hX] at ho
    exact ⟨g, cap, rfl, ho, hb'⟩
  have HTx : Hid (∀ wx, Below w5.heap.size w5 wx → TabAt wx) := fun wx hb => HT.out wx (H5.out.1.bel.trans (hb.mono H5.out.1.bel.size))
  have HRc : Hid (∀ wx, Below w5.heap.size w5 wx → Calls Tryz.prog 21 #[.pointer (some ⟨E.d, 0, none⟩)] wx fun e w' => e = .returned (.tuple #[.int .i64 0, .int .i64 0]) ∧ Below wx.heap.size wx w') := fun wx hb => by
    have hnb : E.nb = 100 := H5.out.2.1.size
    refine (recover_nil wx E (H5.out.1.on hb).disk (HTx.out _ hb) (H5.out.2.1.openE (by omega)) ?_).mono ?_
    · rw [H5.out.2.1.fullD, hnb]; exact (log_empty (by omega) H5.out.2.1.log).1
    · rintro e w' ⟨rfl, hb'⟩
      exact ⟨rfl, hb'⟩
  have HBe : Hid (∀ wx, Below w5.heap.size w5 wx → Calls Tryz.prog 22 #[.pointer (some ⟨E.d, 0, none⟩)] wx fun e w' => ∃ g cap, e = .returned (.tuple #[.slice (some ⟨g, 0, none⟩) 51200 cap, .int .i64 0]) ∧ OwnB w' g cap F ∧ Below wx.heap.size wx w') := fun wx hb => by
    have hnb : E.nb = 100 := H5.out.2.1.size
    refine (behind_yes wx E (H5.out.1.on hb).disk (HTx.out _ hb) (H5.out.2.1.openE (by omega))).mono ?_
    rintro e w' ⟨g, cap, rfl, ho, hg, hb'⟩
    rw [H5.out.2.1.fullD, hnb, H5.out.2.1.behind (by omega)] at ho
    exact ⟨g, cap, by rw [hnb], ho, hb'⟩
  have HB0 : Hid (Below w5.heap.size w5 w5) := Below.refl _ _
  go_upto_region 12 with (first
    | (go_at_call 10; refine (HSt.out _ HB0.out).mono ?_; rintro e w6 ⟨rfl, hb⟩; have H6 : Hid (Below w5.heap.size w5 w6) := hb; clear hb HSt)
    | (go_at_call 20; have hh := H6.out; clear hh; refine (HRd.out _ 98 A H6.out (by omega) H5.out.2.2.2.2.2.1).mono ?_; rintro e w7 ⟨g7, c7, rfl, ho, hb⟩; have H7 : Hid (OwnB w7 g7 c7 A ∧ Below w5.heap.size w5 w7) := ⟨ho, H6.out.trans (hb.mono H6.out.size)⟩; clear ho hb H6)
    | (go_at_call 20; have hh := H7.out; clear hh; refine (HRd.out _ 3 B H7.out.2 (by omega) H5.out.2.2.2.2.2.2).mono ?_; rintro e w8 ⟨g8, c8, rfl, ho, hb⟩; have H8 : Hid (OwnB w8 g7 c7 A ∧ OwnB w8 g8 c8 B ∧ Below w5.heap.size w5 w8) := ⟨H7.out.1.on hb, ho, H7.out.2.trans (hb.mono H7.out.2.size)⟩; clear ho hb HRd)
    | (go_at_call 21; refine (HRc.out _ H8.out.2.2).mono ?_; rintro e w9 ⟨rfl, hb⟩; have H9 : Hid (OwnB w9 g7 c7 A ∧ OwnB w9 g8 c8 B ∧ Below w5.heap.size w5 w9) := ⟨H8.out.1.on hb, H8.out.2.1.on hb, H8.out.2.2.trans (hb.mono H8.out.2.2.size)⟩; clear hb HRc)
    | (go_at_call 22; refine (HBe.out _ H9.out.2.2).mono ?_; rintro e w10 ⟨g10, c10, rfl, ho, hb⟩; have H10 : Hid (OwnB w10 g7 c7 A ∧ OwnB w10 g8 c8 B ∧ OwnB w10 g10 c10 F ∧ Below w5.heap.size w5 w10) := ⟨H9.out.1.on hb, H9.out.2.1.on hb, ho, H9.out.2.2.trans (hb.mono H9.out.2.2.size)⟩; clear ho hb HBe))
  have d1 : w10.cell? ⟨g10, 50176, none⟩ = some (.int .u8 65) := by rw [H10.out.2.2.1.cell 50176 (by rw [HF.out.2.2]; omega), HF.out.1]
  have d2 : w10.cell? ⟨g10, 512, none⟩ = some (.int .u8 0) := by rw [H10.out.2.2.1.cell 512 (by rw [HF.out.2.2]; omega), HF.out.2.1]
  have HS1 : Hid (Calls Tryz.prog 14 #[.slice (some ⟨g7, 0, none⟩) 512 c7, .slice (some ⟨g1, 0, none⟩) 512 c1] w10 fun e w' => e = .returned (.bool true) ∧ w10 = w') := sameBytes_yes w10 _ _ 512 c7 c1 A H10.out.1.bytes (H5.out.2.2.2.1.on H10.out.2.2.2).bytes HAl.out.1
  have HS2 : Hid (Calls Tryz.prog 14 #[.slice (some ⟨g8, 0, none⟩) 512 c8, .slice (some ⟨g2, 0, none⟩) 512 c2] w10 fun e w' => e = .returned (.bool true) ∧ w10 = w') := sameBytes_yes w10 _ _ 512 c8 c2 B H10.out.2.1.bytes (H5.out.2.2.2.2.1.on H10.out.2.2.2).bytes HAl.out.2.1
  have HE : Hid (Below w.heap.size w w10) := H5.out.1.bel.trans (H10.out.2.2.2.mono H5.out.1.bel.size)
  clear H10 H9 H8 H7 H5 HF HTx HT HAl HB0
  go_wp2_with (first
    | (go_at_call 14; refine HS1.out.mono ?_; rintro e w' ⟨rfl, rfl⟩; clear HS1)
    | (go_at_call 14; refine HS2.out.mono ?_; rintro e w' ⟨rfl, rfl⟩; clear HS2))
  go_ret
  exact ⟨rfl, HE.out⟩
end Go.Proofs.YtamlbpbhlgmcoaaGreatDoor
