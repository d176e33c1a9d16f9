import Derived.Test.YtamlbpbhlgmcoaaGreatDoorKRfE
import Derived.Test.YtamlbpbhlgmcoaaGreatDoorKWCt
namespace Go.Proofs.YtamlbpbhlgmcoaaGreatDoor
open Go.RowKit Rec
/-- the tape from an act on -/
def tpB (L : List ActR) (fr : Int) : Nat → List (Int × Int × List Int)
  | 0 => []
  | k + 1 => if fr ≤ (k : Int) then tpB L fr k ++ [((actN L k).kind, (actN L k).b, (actN L k).x)] else tpB L fr k
theorem tpB_len (L : List ActR) (fr : Int) (k : Nat) : (tpB L fr k).length ≤ k := by
  induction k with
  | zero => exact Nat.le_refl _
  | succ k ih =>
    simp only [tpB]
    split
    · simp; omega
    · omega
/-- a told tape, in a row of one's own -/
structure TpI (w wr : World) (v : Value) (T : List (Int × Int × List Int)) (M : List ActR) : Prop where
  row : wr.ownsRow 0 79 3 v T.length (M.flatMap ActR.cells)
  same : M.map (fun q => (q.kind, q.b, q.x)) = T
  each : ∀ q ∈ M, ∃ g, RwA g wr q.a q.c q.x ∧ w.heap.size ≤ g
  top : ∀ b, v.ownBlock = some b → w.heap.size ≤ b
theorem TpI.add {w wr wx w' : World} {v : Value} {T : List (Int × Int × List Int)} {M : List ActR} {q : ActR} {b cap g : Nat} (h : TpI w wr v T M) (hb : Below wr.heap.size wr wx) (hs : w.heap.size ≤ wr.heap.size) (hq : RwA g wx q.a q.c q.x) (hg : w.heap.size ≤ g)
    (h1 : w'.ownsRow 0 79 3 (.slice (some ⟨b, 0, none⟩) (T.length + 1) cap) (T.length + 1) (M.flatMap ActR.cells ++ q.cells)) (h2 : Fr (fun k => v.ownBlock = some k) wx w') (h3 : v.ownBlock = some b ∨ wx.heap.size ≤ b) :
    TpI w w' (.slice (some ⟨b, 0, none⟩) (T.length + 1) cap) (T ++ [(q.kind, q.b, q.x)]) (M ++ [q]) := by
  have hown : wx.ownsRow 0 79 3 v T.length (M.flatMap ActR.cells) := owns_fr h.row (below_fr hb (fun _ => False)) (fun _ _ e => e)
  have t : ∀ p : ActR, ∀ g, RwA g wx p.a p.c p.x → RwA g w' p.a p.c p.x := fun p g hp => by
    rcases hp with hp | ⟨q, e, ho, hB⟩
    · exact .inl hp
    · exact .inr ⟨q, e, ownB_fr ho h2 (fun e2 => own_apart7 hown ho (by decide) e2), hB⟩
  refine ⟨?_, by rw [List.map_append, h.same]; rfl, fun p hp => ?_, fun c hc => ?_⟩
  · rw [List.length_append, List.flatMap_append]
    simpa using h1
  · rcases List.mem_append.1 hp with hp | hp
    · obtain ⟨g, h4, h5⟩ := h.each p hp
      exact ⟨g, t p g (h4.on hb), h5⟩
    · rw [List.mem_singleton.1 hp]; exact ⟨g, t q g hq, hg⟩
  · cases hc
    rcases h3 with e | e
    · exact h.top _ e
    · exact Nat.le_trans hs (Nat.le_trans hb.size e)
set_option maxRecDepth 100000 in
set_option maxHeartbeats 4000000 in
theorem rtape_any (w : World) (D : RDk) (h : RDisk w D) (fr : Int) : Calls Tryz.prog 13 #[.pointer (some ⟨D.r, 0, none⟩), .int .i64 fr] w fun e w' => ∃ v M, e = .returned v ∧ TpI w w' v (tpB D.L fr D.L.length) M ∧ Below w.heap.size w w' := by
  obtain ⟨aa, ac, ha, hA⟩ := h.at_
  have HD : Hid (RDisk w D ∧ Acts w aa D.L) := ⟨h, hA⟩
  have HC : Hid (∀ wx, Below w.heap.size w wx → wx.cell? ⟨D.r, 1, none⟩ = some (.slice aa D.L.length ac)) := fun wx hb => by rw [← ha]; exact (h.on hb).cell 1
  have hL := h.llen
  obtain ⟨n, hn1⟩ : ∃ n, D.L.length = n := ⟨_, rfl⟩
  have HN : Hid (D.L.length = n) := hn1
  rw [hn1] at HC hL ⊢
  obtain ⟨i1, j1, j2, j3, j4⟩ := info_parts info36
  clear h ha hA hn1
  go_enter Tryz.func13, Tryz.ntmps13
  go_wp2
  go_loopw [5, 6] (fun s5 s6 wr => ∃ (k : Nat) (v : Value) (M : List ActR), v = s5 ∧ s6 = .int .i64 (k : Int) ∧ k ≤ n ∧ TpI w wr s5 (tpB D.L fr k) M ∧ Below w.heap.size w wr) (fun _ s6 _ => n - (intOf s6).toNat)
  case atStart =>
    refine ⟨0, _, [], rfl, rfl, Nat.zero_le _, ⟨⟨rfl, .inl ⟨rfl, rfl⟩⟩, rfl, fun q hq => absurd hq List.not_mem_nil, fun b e => ?_⟩, Below.refl _ _⟩
    cases e
  case round =>
    obtain ⟨k, v, M, rfl, rfl, hk, hI⟩ := hrel
    have HI : Hid (TpI w wr v (tpB D.L fr k) M ∧ Below w.heap.size w wr) := hI
    clear hI
    have d1 := HC.out wr HI.out.2
    by_cases hlt : k < n
    · have hlt' : (k : Int) < (n : Int) := by omega
      by_cases hfr : fr ≤ (k : Int)
      · obtain ⟨b, off, rfl, hcs⟩ := HD.out.2.cellsAt (by rw [HN.out]; omega)
        have hq := hcs k (by rw [HN.out]; omega)
        have hmem : actN D.L k ∈ D.L := List.mem_of_getElem? (actN_some (by rw [HN.out]; omega))
        have hR := (HD.out.1.each _ hmem).on HI.out.2
        have f0 := hq.f0
        have f1 := hq.f1
        have f2 := hq.f2
        have hst : tpB D.L fr (k + 1) = tpB D.L fr k ++ [((actN D.L k).kind, (actN D.L k).b, (actN D.L k).x)] := by
          show (if fr ≤ (k : Int) then _ else _) = _
          rw [if_pos hfr]
        have hpl := tpB_len D.L fr k
        obtain ⟨q, hqe⟩ : ∃ q, actN D.L k = q := ⟨_, rfl⟩
        rw [hqe] at f0 f1 f2 hst hR
        clear hcs hq hmem hqe
        obtain ⟨kd, qb, qa, qc, qx⟩ := q
        dsimp only at f0 f1 f2 hst
        have hby := hR.bytes
        have hx47 : qx.length ≤ 140737488351232 := by
          rcases hR with ⟨_, _, _, h4, _⟩ | ⟨_, _, _, _, h4⟩
          · have h4 : qx.length = 512 := h4; omega
          · have h4 : qx = [] := h4; rw [h4]; simp
        obtain ⟨xl, hxl⟩ : ∃ xl, qx.length = xl := ⟨_, rfl⟩
        have CC : Hid (∀ wx, Below wr.heap.size wr wx → Calls Tryz.prog 40 #[.slice qa xl qc] wx fun e w' => ∃ p cap, e = .returned (.slice p xl cap) ∧ RwA wx.heap.size w' p cap qx ∧ Below wx.heap.size wx w') := fun wx hb => copiedU wx qa xl qc qx (hby.on hb) hxl (by omega)
        rw [hxl] at f2
        have HS : Hid (tpB D.L fr (k + 1) = tpB D.L fr k ++ [(kd, qb, qx)] ∧ qx.length = xl) := ⟨hst, hxl⟩
        obtain ⟨T, hT⟩ : ∃ T, tpB D.L fr k = T := ⟨_, rfl⟩
        rw [hT] at HI HS hpl
        have HE : Hid (∀ wx, Below w.heap.size w wx → wx.cell? ⟨D.r, 1, none⟩ = some (.slice (some ⟨b, off, none⟩) n ac) ∧ wx.cell? ⟨b, off + k * 3, none⟩ = some (.int .i64 kd) ∧ wx.cell? ⟨b, off + k * 3 + 1, none⟩ = some (.int .i64 qb) ∧ wx.cell? ⟨b, off + k * 3 + 2, none⟩ = some (.slice qa xl qc)) := fun wx hb => ⟨HC.out wx hb, (hb.cell (block_lt_of_cell f0)).trans f0, (hb.cell (block_lt_of_cell f1)).trans f1, (hb.cell (block_lt_of_cell f2)).trans f2⟩
        have e0 := HE.out wr HI.out.2
        have HB : Hid (Below wr.heap.size wr wr.drew) := (Below.refl _ _).drew
        clear hst hT hby hR hxl hx47
        go_upto_region 6 with fail
        go_region_held3 (fun w' => w'.cell? ⟨D.r, 1, none⟩ = some (.slice (some ⟨b, off, none⟩) n ac) ∧ w'.cell? ⟨b, off + k * 3, none⟩ = some (.int .i64 kd) ∧ w'.cell? ⟨b, off + k * 3 + 1, none⟩ = some (.int .i64 qb) ∧ w'.cell? ⟨b, off + k * 3 + 2, none⟩ = some (.slice qa xl qc)) (first | assumption | exact e0 | exact HE.out _ HA2.out | exact e2 | go_keep)
          (first
            | (go_at_call 40; refine (CC.out _ (by first | exact HB.out | exact Below.refl _ _)).mono ?_; rintro e u1 ⟨p, cap, rfl, h1, h2⟩
               have G1 : Hid (RwA wr.heap.size u1 p cap qx ∧ Below wr.heap.size wr u1) := ⟨h1, (by first | exact HB.out.trans (h2.mono HB.out.size) | exact h2)⟩
               have e1 := HE.out u1 (HI.out.2.trans (G1.out.2.mono HI.out.2.size))
               have HA1 : Hid (Below wr.heap.size wr (u1.alloc (.cells #[.int .i64 kd, .int .i64 qb, .slice p xl cap] 79))) := G1.out.2.alloc G1.out.2.size _
               have HA2 : Hid (Below w.heap.size w (u1.alloc (.cells #[.int .i64 kd, .int .i64 qb, .slice p xl cap] 79))) := HI.out.2.trans (HA1.out.mono HI.out.2.size)
               clear h1 h2)
            | (refine step_own (by rfl) (.tmp 19) (.tmp 46) 38 (by rfl) 79 i1 _ 3 40 Tryz.underlying38 j1 j2 j3 j4 (by rfl) (by decide) v T.length (M.flatMap ActR.cells) (by rfl) (owns_fr HI.out.1.row (below_fr HA1.out (fun _ => False)) (fun _ _ e => e)) ⟨u1.heap.size, 0, none⟩ 1 1 [.int .i64 kd, .int .i64 qb, .slice p xl cap] (by rfl) (by decide) rfl (newsA _ _ _ _ _ _ (heap_alloc_new u1 _)) (by intro u hu; simp at hu; rcases hu with rfl | rfl | rfl <;> rfl) (by unfold maxLen; omega) (by omega) ?_
               intro b2 bc u2 h1 h2 h3
               have G2 : Hid (TpI w u2 (.slice (some ⟨b2, 0, none⟩) (T.length + 1) bc) (T ++ [(kd, qb, qx)]) (M ++ [⟨kd, qb, p, cap, qx⟩]) ∧ Below w.heap.size w u2) := (by
                 rw [← HS.out.2] at h1
                 have hbx := HA1.out
                 have ha : Below u1.heap.size u1 (u1.alloc (.cells #[.int .i64 kd, .int .i64 qb, .slice p xl cap] 79)) := (Below.refl _ _).alloc (Nat.le_refl _) _
                 exact ⟨HI.out.1.add (q := ⟨kd, qb, p, cap, qx⟩) (g := wr.heap.size) hbx HI.out.2.size (G1.out.1.on ha) HI.out.2.size h1 h2 h3, (HI.out.2.trans (hbx.mono HI.out.2.size)).trans (h2.below _ (fun c e => HI.out.1.top c e) (Nat.le_trans HI.out.2.size hbx.size))⟩)
               have e2 : u2.cell? ⟨D.r, 1, none⟩ = some (.slice (some ⟨b, off, none⟩) n ac) ∧ u2.cell? ⟨b, off + k * 3, none⟩ = some (.int .i64 kd) ∧ u2.cell? ⟨b, off + k * 3 + 1, none⟩ = some (.int .i64 qb) ∧ u2.cell? ⟨b, off + k * 3 + 2, none⟩ = some (.slice qa xl qc) := HE.out u2 G2.out.2
               clear h1 h2 h3))
        all_goals
          go_wp2
          exact ⟨⟨k + 1, _, _, rfl, by go_num, by omega, by rw [HS.out.1]; exact G2.out.1, G2.out.2⟩, by simp [intOf]; omega⟩
      · have hst : tpB D.L fr (k + 1) = tpB D.L fr k := by
          show (if fr ≤ (k : Int) then _ else _) = _
          rw [if_neg hfr]
        have HS : Hid (tpB D.L fr (k + 1) = tpB D.L fr k) := hst
        clear hst
        go_wp2
        go_round
        case rel => exact ⟨k + 1, v, M, rfl, by go_num, by omega, by rw [HS.out]; exact HI.out.1, HI.out.2⟩
        case measure => simp [intOf]; omega
    · have hlt' : ¬ (k : Int) < (n : Int) := by omega
      obtain rfl : k = n := by omega
      go_wp2
      go_ret
      exact ⟨v, rfl, ⟨M, HI.out.1⟩, HI.out.2⟩
end Go.Proofs.YtamlbpbhlgmcoaaGreatDoor

namespace Go.Proofs.YtamlbpbhlgmcoaaGreatDoor
open Go.RowKit Rec

theorem infoBoA : (Tryz.prog.info? 4).map (fun i => (i.zero, i.size, i.bytes)) = some (some (.bool false), 1, 1) := by kernel_rfl
theorem Bools.news {w : World} {p : Addr} {n c : Nat} {l : List Bool} (h : Bools w (.slice (some p) n c) l) : ∀ j u, (l.map Value.bool)[j]? = some u → w.cell? (p.add j) = some u := by
  intro j u hj
  obtain ⟨a, c', hv, hb⟩ := h
  cases hv
  rw [List.getElem?_map] at hj
  cases hl : l[j]? with
  | none => rw [hl] at hj; cases hj
  | some x =>
    rw [hl] at hj
    cases hj
    rcases hb with rfl | ⟨b, off, e, hc⟩
    · simp at hl
    · cases e
      rw [Addr.add_lit]; exact hc j x hl
set_option maxRecDepth 100000 in
set_option maxHeartbeats 800000 in
theorem sclone_nil (w : World) : Calls Tryz.prog 75 #[.slice none 0 0] w fun e w' => e = .returned (.slice none 0 0) ∧ w = w' := by
  have E1 : ∀ w : World, (binOp .eql 39 (.slice none 0 0) (.slice none 0 0)).run Tryz.prog w = .ok (.bool true) w := fun w => run_eql_nil_slice w _ _ _ _ _ _ _ Tryz.underlying39
  go_enter Tryz.func75, Tryz.ntmps75
  go_wp2
  go_ret
  exact ⟨rfl, rfl⟩
set_option maxRecDepth 100000 in
set_option maxHeartbeats 800000 in
theorem sclone_some (w : World) (p : Addr) (c : Nat) (l : List Bool) (h : Bools w (.slice (some p) l.length c) l) (h47 : l.length ≤ 140737488355328) :
    Calls Tryz.prog 75 #[.slice (some p) l.length c] w fun e w' => ∃ v', e = .returned v' ∧ Bools w' v' l ∧ (∀ k, v'.ownBlock = some k → w.heap.size ≤ k ∧ k < w'.heap.size) ∧ Below w.heap.size w w' := by
  have HB : Hid (Bools w (.slice (some p) l.length c) l) := h
  obtain ⟨i1, j1, j2, j3, j4⟩ := info_parts infoBoA
  clear h
  have E1 : ∀ w : World, (binOp .eql 39 (.slice (some p) l.length c) (.slice none 0 0)).run Tryz.prog w = .ok (.bool false) w := fun w => Go.Lib.run_eql_slice_some_nil w p l.length c Tryz.underlying39
  have HA : Hid (Below w.heap.size w (w.alloc (.cells #[] 4))) := (Below.refl _ _).alloc (Nat.le_refl _) _
  have HE : Hid ((w.alloc (.cells #[] 4)).ownsRow w.heap.size 4 1 (.slice (some ⟨w.heap.size, 0, none⟩) 0 0) 0 []) := ⟨rfl, .inr ⟨_, _, _, rfl, Nat.le_refl _, heap_alloc_new _ _, Nat.le_refl _, Nat.zero_le _, rfl, rfl⟩⟩
  have HN : Hid (∀ j u, (l.map Value.bool)[j]? = some u → (w.alloc (.cells #[] 4)).cell? (p.add j) = some u) := fun j u hj => (fr_alloc (fun _ => False) w _).cell (HB.out.news j u hj) (fun e => e)
  go_enter Tryz.func75, Tryz.ntmps75
  go_wp2_with (at_builtin; refine wpList_append_own _ rfl (.tmp 5) (.tmp 6) 39 rfl w.heap.size 4 i1 _ 1 1 Tryz.underlying39 j1 j2 j3 j4 rfl (by decide) (.slice (some ⟨w.heap.size, 0, none⟩) 0 0) 0 [] rfl HE.out p l.length c (l.map Value.bool) rfl (by simp) HN.out (by intro u hu; simp at hu; rcases hu with ⟨_, rfl⟩ | ⟨_, rfl⟩ <;> rfl) (by unfold maxLen; omega) (by omega) HA.out.size ?_; intro v' w' ho hg hn; have HZ : Hid (w'.ownsRow w.heap.size 4 1 v' (0 + l.length) ([] ++ l.map Value.bool) ∧ (w.alloc (.cells #[] 4)).grownBy w' (some w.heap.size)) := ⟨ho, hg⟩; clear ho hg hn)
  go_ret
  have ho := HZ.out.1
  rw [Nat.zero_add, List.nil_append] at ho
  have ho0 : w'.ownsRow 0 4 1 v' l.length (l.map Value.bool) := ⟨ho.1, by
    rcases ho.2 with h | ⟨g, cap, cur, h1, h2, h3⟩
    · exact .inl h
    · exact .inr ⟨g, cap, cur, h1, Nat.zero_le _, h3⟩⟩
  refine ⟨v', rfl, bools_of ho0, fun k hk => ⟨?_, owns_block ho0 hk⟩, HA.out.grown HZ.out.2 HA.out.size (by intro k hk; cases hk; exact Nat.le_refl _)⟩
  rcases ho.2 with ⟨rfl, _⟩ | ⟨g, cap, cur, rfl, h2, h3⟩
  · cases hk
  · cases hk; exact h2
/-- a power cut armed -/
def Dk.arm (D : Dk) (t : Int) (v : Value) (keep : List Bool) : Dk := { D with at_ := t, kv := v, keep := keep }
def AD.arm (a : AD) (t : Int) (keep : List Bool) : AD := { a with at_ := t, keep := keep }
theorem arm_all {n : Nat} {D : Dk} {t : Int} {v : Value} {keep : List Bool} (h : ∀ k, v.ownBlock = some k → n ≤ k) : Al n D (D.arm t v keep) := by
  rintro k (hk | hk | hk | hk)
  · exact .inl (.inl hk)
  · exact .inr (h k hk)
  · exact .inl (.inr (.inr (.inl hk)))
  · exact .inl (.inr (.inr (.inr hk)))
theorem Disk.armed {w wb w1 w2 : World} {D : Dk} {t : Int} {v : Value} {keep : List Bool} (h : Disk w D) (hb : Below w.heap.size w wb) (hk : Bools wb v keep) (hv : ∀ k, v.ownBlock = some k → w.heap.size ≤ k ∧ k < wb.heap.size) (ht : t ≤ 9223372036854775807)
    (e1 : w1 = wb.setCell ⟨D.d, 6, none⟩ (.int .i64 t)) (e2 : w2 = w1.setCell ⟨D.d, 7, none⟩ v) : Disk w2 (D.arm t v keep) ∧ Mv w D w2 (D.arm t v keep) := by
  have f1 : Fr (fun i => i = D.d) wb w1 := e1 ▸ Fr.set
  have f2 : Fr (fun i => i = D.d) w1 w2 := e2 ▸ Fr.set
  have f : Fr (fun i => i = D.d) wb w2 := f1.trans f2 (fun _ e => .inl e)
  have hw := h.on hb
  have hfr : Fr D.has wb w2 := f.mono (fun _ e => .inl e)
  have hm : Mv w D w2 (D.arm t v keep) := ⟨(below_fr hb D.has).trans hfr (fun _ h => .inl h), fun _ h => .inl h, rfl, rfl⟩
  refine ⟨?_, hm⟩
  exact {
    row := by
      have r1 := heap_setCell_same _ _ 6 _ _ (.int .i64 t) hw.row
      rw [← e1] at r1
      have r2 := heap_setCell_same _ _ 7 _ _ v r1
      rw [← e2] at r2
      exact r2
    las := hw.las.fr f (fun e => h.ap.dL e.symm)
    lasl := h.lasl
    nb0 := h.nb0
    nb1 := h.nb1
    nws := owns_fr hw.nws f (fun k hk e => by cases hk; exact h.ap.dn e.symm)
    pen := owns_fr hw.pen f (fun k hk => (h.ap.p k hk).1)
    penb := fun p hp => ⟨(h.penb p hp).1, (h.penb p hp).2.1, (hw.penb p hp).2.2.1.fr hfr (h.penb p hp).2.2.2, (h.penb p hp).2.2.2⟩
    tap := owns_fr hw.tap f (fun k hk => (h.ap.t k hk).1)
    tapb := fun a ha => by
      rcases hw.tapb a ha with ⟨h1, h2, h3, h4, g, cap, h5, h6, h7⟩ | h'
      · exact .inl ⟨h1, h2, h3, h4, g, cap, h5, h6.fr hfr h7, h7⟩
      · exact .inr h'
    kee := hk.fr f (fun _ k hk e => absurd (hv k hk).1 (by have := h.lt; have e : k = D.d := e; omega))
    keb := fun k hk e => absurd (h.hasLt e) (Nat.not_lt.2 (hv k hk).1)
    kel := fun k hk => Nat.lt_of_lt_of_le (hv k hk).2 hfr.size
    ap := ⟨h.ap.dL, h.ap.dn, h.ap.Ln, h.ap.p, h.ap.t⟩
    dn := h.dn
    pl := h.pl
    tl := h.tl
    wrs := h.wrs
    fls := h.fls
    at1 := ht }
set_option maxRecDepth 100000 in
set_option maxHeartbeats 800000 in
theorem arm_no (w : World) (D : Dk) (h : Disk w D) (t : Int) (v : Value) (hd : D.down = true) : Calls Tryz.prog 35 #[.pointer (some ⟨D.d, 0, none⟩), .agg #[.int .i64 t, v]] w fun e w' => e = .returned (.int .i64 30) ∧ Below w.heap.size w w' := by
  have C8 : w.cell? ⟨D.d, 8, none⟩ = some (.bool true) := by rw [← hd]; exact h.cell 8
  have HA : Hid (Below w.heap.size w (w.alloc (.cells #[.int .i64 t, v] 44))) := (Below.refl _ _).alloc (Nat.le_refl _) _
  have C8' : (w.alloc (.cells #[.int .i64 t, v] 44)).cell? ⟨D.d, 8, none⟩ = some (.bool true) := (fr_alloc (fun _ => False) w _).cell C8 (fun e => e)
  clear h
  go_enter Tryz.func35, Tryz.ntmps35
  go_wp2
  go_ret
  exact ⟨rfl, HA.out⟩
set_option maxRecDepth 100000 in
set_option maxHeartbeats 1600000 in
theorem arm_yes (w : World) (D : Dk) (h : Disk w D) (t : Int) (a : Option Addr) (c : Nat) (keep : List Bool) (hk : Bools w (.slice a keep.length c) keep) (hn : a = none → c = 0) (h47 : keep.length ≤ 140737488355328) (ht : t ≤ 9223372036854775807) (hd : D.down = false) :
    Calls Tryz.prog 35 #[.pointer (some ⟨D.d, 0, none⟩), .agg #[.int .i64 t, .slice a keep.length c]] w fun e w' => e = .returned (.int .i64 0) ∧ ∃ D', Disk w' D' ∧ Mv w D w' D' ∧ Al w.heap.size D D' ∧ D'.abs = D.abs.arm t keep := by
  have HS : Hid (∀ wx, Below w.heap.size w wx → Calls Tryz.prog 75 #[.slice a keep.length c] wx fun e w' => ∃ v', e = .returned v' ∧ Bools w' v' keep ∧ (∀ k, v'.ownBlock = some k → wx.heap.size ≤ k ∧ k < w'.heap.size) ∧ Below wx.heap.size wx w') := fun wx hx => by
    cases a with
    | none =>
      obtain rfl := hn rfl
      have e : keep = [] := by
        obtain ⟨a, c, hv, hb⟩ := hk
        rcases hb with e | ⟨b, off, e, _⟩
        · exact e
        · cases hv; cases e
      subst e
      exact (sclone_nil wx).mono (by
        rintro e w' ⟨rfl, rfl⟩
        exact ⟨_, rfl, ⟨none, 0, rfl, .inl rfl⟩, (fun k hk => by cases hk), Below.refl _ _⟩)
    | some p => exact sclone_some wx p c keep (hk.on hx) h47
  have HD : Hid (Disk w D) := h
  have HA : Hid (Below w.heap.size w (w.alloc (.cells #[.int .i64 t, .slice a keep.length c] 44))) := (Below.refl _ _).alloc (Nat.le_refl _) _
  have HR := heap_alloc_new w (.cells #[.int .i64 t, .slice a keep.length c] 44)
  have HC : Hid (∀ j, (w.alloc (.cells #[.int .i64 t, .slice a keep.length c] 44)).cell? ⟨w.heap.size, j, none⟩ = (#[Value.int .i64 t, .slice a keep.length c])[j]?) := fun j => cell_of_row _ _ _ _ _ _ HR
  clear h hk HR
  go_enter Tryz.func35, Tryz.ntmps35
  go_upto_region 1 with fail
  generalize w.alloc (.cells #[.int .i64 t, .slice a keep.length c] 44) = wa at *
  have C8 : wa.cell? ⟨D.d, 8, none⟩ = some (.bool false) := by rw [← hd]; exact (HD.out.on HA.out).cell 8
  have S0 : wa.cell? ⟨w.heap.size, 0, none⟩ = some (.int .i64 t) := HC.out 0
  have S1 : wa.cell? ⟨w.heap.size, 1, none⟩ = some (.slice a keep.length c) := HC.out 1
  have HB : Hid (Below w.heap.size w wa.drew) := HA.out.drew
  go_wp2
  go_region_law (go_simp; go_at_call 75; refine (HS.out _ HB.out).mono ?_; rintro e w1 ⟨v', rfl, h1, h2, h3⟩; have h1c := h1; obtain ⟨a2, c2, hv2, h1d⟩ := h1c; subst hv2; clear h1d; have H1 : Hid (Bools w1 (.slice a2 keep.length c2) keep ∧ (∀ k, (Value.slice a2 keep.length c2).ownBlock = some k → w.heap.size ≤ k ∧ k < w1.heap.size) ∧ Below w.heap.size w w1) := ⟨h1, fun k hk => ⟨Nat.le_trans HB.out.size (h2 k hk).1, (h2 k hk).2⟩, HB.out.trans (h3.mono HB.out.size)⟩; have T0 : w1.cell? ⟨w.heap.size, 0, none⟩ = some (.int .i64 t) := (below_fr ((Below.refl _ wa).drew.trans h3) (fun _ => False)).cell S0 (fun e => e); have R1 := (HD.out.on H1.out.2.2).frozen 6; have R2 : w1.frozen? ⟨D.d, 7, none⟩ = false := (HD.out.on H1.out.2.2).frozen 7; have R3 : w1.cell? ⟨D.d, 6, none⟩ = some (.int .i64 D.at_) := (HD.out.on H1.out.2.2).cell 6; have R4 : w1.cell? ⟨D.d, 7, none⟩ = some D.kv := (HD.out.on H1.out.2.2).cell 7; clear h1 h2 h3)
  all_goals
    go_wp2
    go_ret
    have hz := HD.out.armed (t := t) H1.out.2.2 H1.out.1 H1.out.2.1 ht rfl rfl
    exact ⟨rfl, _, hz.1, hz.2, arm_all (fun k hk => (H1.out.2.1 k hk).1), rfl⟩
end Go.Proofs.YtamlbpbhlgmcoaaGreatDoor
