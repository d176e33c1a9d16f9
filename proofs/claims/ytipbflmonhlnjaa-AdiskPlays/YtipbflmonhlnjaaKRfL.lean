import Derived.Test.YtipbflmonhlnjaaKRfF
import Derived.Test.YtipbflmonhlnjaaKOwn
import Derived.Laws.ResultCell
import Derived.Laws.OwnMore
namespace Go.Proofs.Ytipbflmonhlnjaa
open Go.RowKit Rec
/-- the blocks of what is pending behind k acts -/
def pnB (L : List ActR) : Nat → List Int
  | 0 => []
  | k + 1 => if (actN L k).kind = 2 then [] else pnB L k ++ [(actN L k).b]
theorem pnB_len (L : List ActR) (k : Nat) : (pnB L k).length ≤ k := by
  induction k with
  | zero => exact Nat.le_refl _
  | succ k ih => simp only [pnB]; split <;> simp <;> omega
theorem infoI3 : (Try.prog.info? 3).map (fun i => (i.zero, i.size, i.bytes)) = some (some (.int .i64 0), 1, 8) := by kernel_rfl
set_option maxRecDepth 100000 in
set_option maxHeartbeats 4000000 in
theorem rpending_ok (w : World) (D : RDk) (h : RDisk w D) (ho : D.out = false) : Calls Try.prog 38 #[.pointer (some ⟨D.r, 0, none⟩)] w fun e w' => ∃ v, e = .returned v ∧ w'.ownsRow 0 3 1 v (pnB D.L D.L.length).length ((pnB D.L D.L.length).map (Value.int .i64)) ∧ (∀ b, v.ownBlock = some b → w.heap.size ≤ b) ∧ Below w.heap.size w w' := by
  obtain ⟨aa, ac, ha, hA⟩ := h.at_
  have HD : Hid (RDisk w D ∧ Acts w aa D.L) := ⟨h, hA⟩
  have HC : Hid (∀ wx, Below w.heap.size w wx → wx.cell? ⟨D.r, 1, none⟩ = some (.slice aa D.L.length ac) ∧ wx.cell? ⟨D.r, 4, none⟩ = some (.bool false)) := fun wx hb => ⟨by rw [← ha]; exact (h.on hb).cell 1, by rw [(h.on hb).cell 4, ← ho]; rfl⟩
  have hL := h.llen
  obtain ⟨n, hn1⟩ : ∃ n, D.L.length = n := ⟨_, rfl⟩
  have HN : Hid (D.L.length = n) := hn1
  rw [hn1] at HC hL ⊢
  obtain ⟨i0, hi0, hi1, hi2, hi3⟩ := info_parts infoI3
  clear h ha hA hn1 ho
  go_enter Try.func38, Try.ntmps38
  go_wp2
  go_loopw [3, 4] (fun s3 s4 wr => ∃ (k : Nat) (v : Value), v = s3 ∧ s4 = .int .i64 (k : Int) ∧ k ≤ n ∧ wr.ownsRow 0 3 1 s3 (pnB D.L k).length ((pnB D.L k).map (Value.int .i64)) ∧ (∀ b, s3.ownBlock = some b → w.heap.size ≤ b) ∧ Below w.heap.size w wr) (fun _ s4 _ => n - (intOf s4).toNat)
  case atStart =>
    refine ⟨0, _, rfl, rfl, Nat.zero_le _, ⟨rfl, .inl ⟨rfl, rfl⟩⟩, fun b e => ?_, Below.refl _ _⟩
    cases e
  case round =>
    obtain ⟨k, v, rfl, rfl, hk, hI⟩ := hrel
    have HI : Hid (wr.ownsRow 0 3 1 v (pnB D.L k).length ((pnB D.L k).map (Value.int .i64)) ∧ (∀ b, v.ownBlock = some b → w.heap.size ≤ b) ∧ Below w.heap.size w wr) := hI
    clear hI
    obtain ⟨d1, d4⟩ := HC.out wr HI.out.2.2
    by_cases hlt : k < n
    · have hlt' : (k : Int) < (n : Int) := by omega
      obtain ⟨b, off, rfl, hcs⟩ := (HD.out.2.on HI.out.2.2).cellsAt (by rw [HN.out]; omega)
      have hq := hcs k (by rw [HN.out]; omega)
      have f0 := hq.f0
      have f1 := hq.f1
      have hst : pnB D.L (k + 1) = if (actN D.L k).kind = 2 then [] else pnB D.L k ++ [(actN D.L k).b] := rfl
      obtain ⟨q, hqe⟩ : ∃ q, actN D.L k = q := ⟨_, rfl⟩
      rw [hqe] at f0 f1 hst
      clear hcs hq hqe
      obtain ⟨kd, qb, qa, qc, qx⟩ := q
      dsimp only at f0 f1 hst
      by_cases hkd : kd = 2
      · subst hkd
        rw [if_pos rfl] at hst
        have HS : Hid (pnB D.L (k + 1) = []) := hst
        clear hst
        go_wp2
        go_round
        case rel =>
          refine ⟨k + 1, _, rfl, by go_num, by omega, ?_, fun b e => ?_, HI.out.2.2⟩
          · rw [HS.out]; exact ⟨rfl, .inl ⟨rfl, rfl⟩⟩
          · cases e
        case measure => simp [intOf]; omega
      · rw [if_neg hkd] at hst
        have HS : Hid (pnB D.L (k + 1) = pnB D.L k ++ [qb]) := hst
        have hpl := pnB_len D.L k
        obtain ⟨pk, hpk⟩ : ∃ pk, pnB D.L k = pk := ⟨_, rfl⟩
        rw [hpk] at HI HS hpl
        clear hst hpk
        have ha : Below wr.heap.size wr (wr.alloc (.cells #[.int .i64 qb] 3)) := (Below.refl _ _).alloc (Nat.le_refl _) _
        go_wp2_with (at_builtin; refine wp_own rfl (.tmp 30) (.tmp 39) 75 rfl 3 i0 _ 1 8 Try.underlying75 hi0 hi1 hi2 hi3 rfl (by decide) v pk.length (pk.map (Value.int .i64)) rfl (owns_fr HI.out.1 (below_fr ha (fun _ => False)) (fun _ _ e => e)) ⟨wr.heap.size, 0, none⟩ 1 1 [.int .i64 qb] rfl (by decide) rfl (fun j u hj => by match j, hj with | 0, hj => cases hj; rw [Addr.add_lit, cell_of_row _ _ _ _ _ _ (heap_alloc_new wr _)]; rfl) (by intro u hu; simp at hu; rw [hu]; rfl) (by unfold maxLen; omega) (by omega) ?_
                     intro g cap u h1 h2 h3
                     have G1 : Hid (u.ownsRow 0 3 1 (.slice (some ⟨g, 0, none⟩) (pk.length + 1) cap) (pk.length + 1) (pk.map (Value.int .i64) ++ [.int .i64 qb]) ∧ w.heap.size ≤ g ∧ Below w.heap.size w u) := (by
                       refine ⟨h1, ?_, (HI.out.2.2.trans (ha.mono HI.out.2.2.size)).trans (h2.below _ (fun b e => HI.out.2.1 b e) (Nat.le_trans HI.out.2.2.size ha.size))⟩
                       rcases h3 with e | e
                       · exact HI.out.2.1 _ e
                       · exact Nat.le_trans (Nat.le_trans HI.out.2.2.size ha.size) e)
                     clear h1 h2 h3)
        go_round
        case rel =>
          refine ⟨k + 1, _, rfl, by go_num, by omega, ?_, fun b e => ?_, G1.out.2.2⟩
          · rw [HS.out, List.length_append, List.map_append]; exact G1.out.1
          · cases e; exact G1.out.2.1
        case measure => simp [intOf]; omega
    · have hlt' : ¬ (k : Int) < (n : Int) := by omega
      obtain rfl : k = n := by omega
      go_wp2
      go_ret
      exact ⟨v, rfl, HI.out⟩
end Go.Proofs.Ytipbflmonhlnjaa

namespace Go.Proofs.Ytipbflmonhlnjaa
open Go.RowKit Rec
/-- the tape from an act on -/
def tpB (L : List ActR) (fr : Int) : Nat → List (Int × Int × List Int)
  | 0 => []
  | k + 1 => if fr ≤ (k : Int) then tpB L fr k ++ [((actN L k).kind, (actN L k).b, (actN L k).x)] else tpB L fr k
theorem tpB_len (L : List ActR) (fr : Int) (k : Nat) : (tpB L fr k).length ≤ k := by
  induction k with
  | zero => exact Nat.le_refl _
  | succ k ih =>
    simp only [tpB]
    split
    · simp; omega
    · omega
/-- a told tape, in a row of one's own -/
structure TpI (w wr : World) (v : Value) (T : List (Int × Int × List Int)) (M : List ActR) : Prop where
  row : wr.ownsRow 0 86 3 v T.length (M.flatMap ActR.cells)
  same : M.map (fun q => (q.kind, q.b, q.x)) = T
  each : ∀ q ∈ M, ∃ g, RwA g wr q.a q.c q.x ∧ w.heap.size ≤ g
  top : ∀ b, v.ownBlock = some b → w.heap.size ≤ b
theorem TpI.add {w wr wx w' : World} {v : Value} {T : List (Int × Int × List Int)} {M : List ActR} {q : ActR} {b cap g : Nat} (h : TpI w wr v T M) (hb : Below wr.heap.size wr wx) (hs : w.heap.size ≤ wr.heap.size) (hq : RwA g wx q.a q.c q.x) (hg : w.heap.size ≤ g)
    (h1 : w'.ownsRow 0 86 3 (.slice (some ⟨b, 0, none⟩) (T.length + 1) cap) (T.length + 1) (M.flatMap ActR.cells ++ q.cells)) (h2 : Fr (fun k => v.ownBlock = some k) wx w') (h3 : v.ownBlock = some b ∨ wx.heap.size ≤ b) :
    TpI w w' (.slice (some ⟨b, 0, none⟩) (T.length + 1) cap) (T ++ [(q.kind, q.b, q.x)]) (M ++ [q]) := by
  have hown : wx.ownsRow 0 86 3 v T.length (M.flatMap ActR.cells) := owns_fr h.row (below_fr hb (fun _ => False)) (fun _ _ e => e)
  have t : ∀ p : ActR, ∀ g, RwA g wx p.a p.c p.x → RwA g w' p.a p.c p.x := fun p g hp => by
    rcases hp with hp | ⟨q, e, ho, hB⟩
    · exact .inl hp
    · exact .inr ⟨q, e, ownB_fr ho h2 (fun e2 => own_apart7 hown ho (by decide) e2), hB⟩
  refine ⟨?_, by rw [List.map_append, h.same]; rfl, fun p hp => ?_, fun c hc => ?_⟩
  · rw [List.length_append, List.flatMap_append]
    simpa using h1
  · rcases List.mem_append.1 hp with hp | hp
    · obtain ⟨g, h4, h5⟩ := h.each p hp
      exact ⟨g, t p g (h4.on hb), h5⟩
    · rw [List.mem_singleton.1 hp]; exact ⟨g, t q g hq, hg⟩
  · cases hc
    rcases h3 with e | e
    · exact h.top _ e
    · exact Nat.le_trans hs (Nat.le_trans hb.size e)
set_option maxRecDepth 100000 in
set_option maxHeartbeats 4000000 in
theorem rtape_any (w : World) (D : RDk) (h : RDisk w D) (fr : Int) : Calls Try.prog 42 #[.pointer (some ⟨D.r, 0, none⟩), .int .i64 fr] w fun e w' => ∃ v M, e = .returned v ∧ TpI w w' v (tpB D.L fr D.L.length) M ∧ Below w.heap.size w w' := by
  obtain ⟨aa, ac, ha, hA⟩ := h.at_
  have HD : Hid (RDisk w D ∧ Acts w aa D.L) := ⟨h, hA⟩
  have HC : Hid (∀ wx, Below w.heap.size w wx → wx.cell? ⟨D.r, 1, none⟩ = some (.slice aa D.L.length ac)) := fun wx hb => by rw [← ha]; exact (h.on hb).cell 1
  have hL := h.llen
  obtain ⟨n, hn1⟩ : ∃ n, D.L.length = n := ⟨_, rfl⟩
  have HN : Hid (D.L.length = n) := hn1
  rw [hn1] at HC hL ⊢
  obtain ⟨i1, j1, j2, j3, j4⟩ := info_parts info36
  clear h ha hA hn1
  go_enter Try.func42, Try.ntmps42
  go_wp2
  go_loopw [5, 6] (fun s5 s6 wr => ∃ (k : Nat) (v : Value) (M : List ActR), v = s5 ∧ s6 = .int .i64 (k : Int) ∧ k ≤ n ∧ TpI w wr s5 (tpB D.L fr k) M ∧ Below w.heap.size w wr) (fun _ s6 _ => n - (intOf s6).toNat)
  case atStart =>
    refine ⟨0, _, [], rfl, rfl, Nat.zero_le _, ⟨⟨rfl, .inl ⟨rfl, rfl⟩⟩, rfl, fun q hq => absurd hq List.not_mem_nil, fun b e => ?_⟩, Below.refl _ _⟩
    cases e
  case round =>
    obtain ⟨k, v, M, rfl, rfl, hk, hI⟩ := hrel
    have HI : Hid (TpI w wr v (tpB D.L fr k) M ∧ Below w.heap.size w wr) := hI
    clear hI
    have d1 := HC.out wr HI.out.2
    by_cases hlt : k < n
    · have hlt' : (k : Int) < (n : Int) := by omega
      by_cases hfr : fr ≤ (k : Int)
      · obtain ⟨b, off, rfl, hcs⟩ := HD.out.2.cellsAt (by rw [HN.out]; omega)
        have hq := hcs k (by rw [HN.out]; omega)
        have hmem : actN D.L k ∈ D.L := List.mem_of_getElem? (actN_some (by rw [HN.out]; omega))
        have hR := (HD.out.1.each _ hmem).on HI.out.2
        have f0 := hq.f0
        have f1 := hq.f1
        have f2 := hq.f2
        have hst : tpB D.L fr (k + 1) = tpB D.L fr k ++ [((actN D.L k).kind, (actN D.L k).b, (actN D.L k).x)] := by
          show (if fr ≤ (k : Int) then _ else _) = _
          rw [if_pos hfr]
        have hpl := tpB_len D.L fr k
        obtain ⟨q, hqe⟩ : ∃ q, actN D.L k = q := ⟨_, rfl⟩
        rw [hqe] at f0 f1 f2 hst hR
        clear hcs hq hmem hqe
        obtain ⟨kd, qb, qa, qc, qx⟩ := q
        dsimp only at f0 f1 f2 hst
        have hby := hR.bytes
        have hx47 : qx.length ≤ 140737488351232 := by
          rcases hR with ⟨_, _, _, h4, _⟩ | ⟨_, _, _, _, h4⟩
          · have h4 : qx.length = 512 := h4; omega
          · have h4 : qx = [] := h4; rw [h4]; simp
        obtain ⟨xl, hxl⟩ : ∃ xl, qx.length = xl := ⟨_, rfl⟩
        have CC : Hid (∀ wx, Below wr.heap.size wr wx → Calls Try.prog 48 #[.slice qa xl qc] wx fun e w' => ∃ p cap, e = .returned (.slice p xl cap) ∧ RwA wx.heap.size w' p cap qx ∧ Below wx.heap.size wx w') := fun wx hb => copiedU wx qa xl qc qx (hby.on hb) hxl (by omega)
        rw [hxl] at f2
        have HS : Hid (tpB D.L fr (k + 1) = tpB D.L fr k ++ [(kd, qb, qx)] ∧ qx.length = xl) := ⟨hst, hxl⟩
        obtain ⟨T, hT⟩ : ∃ T, tpB D.L fr k = T := ⟨_, rfl⟩
        rw [hT] at HI HS hpl
        have HE : Hid (∀ wx, Below w.heap.size w wx → wx.cell? ⟨D.r, 1, none⟩ = some (.slice (some ⟨b, off, none⟩) n ac) ∧ wx.cell? ⟨b, off + k * 3, none⟩ = some (.int .i64 kd) ∧ wx.cell? ⟨b, off + k * 3 + 1, none⟩ = some (.int .i64 qb) ∧ wx.cell? ⟨b, off + k * 3 + 2, none⟩ = some (.slice qa xl qc)) := fun wx hb => ⟨HC.out wx hb, (hb.cell (block_lt_of_cell f0)).trans f0, (hb.cell (block_lt_of_cell f1)).trans f1, (hb.cell (block_lt_of_cell f2)).trans f2⟩
        have e0 := HE.out wr HI.out.2
        have HB : Hid (Below wr.heap.size wr wr.drew) := (Below.refl _ _).drew
        clear hst hT hby hR hxl hx47
        go_upto_region 6 with fail
        go_region_held3 (fun w' => w'.cell? ⟨D.r, 1, none⟩ = some (.slice (some ⟨b, off, none⟩) n ac) ∧ w'.cell? ⟨b, off + k * 3, none⟩ = some (.int .i64 kd) ∧ w'.cell? ⟨b, off + k * 3 + 1, none⟩ = some (.int .i64 qb) ∧ w'.cell? ⟨b, off + k * 3 + 2, none⟩ = some (.slice qa xl qc)) (first | assumption | exact e0 | exact HE.out _ HA2.out | exact e2 | go_keep)
          (first
            | (go_at_call 48; refine (CC.out _ (by first | exact HB.out | exact Below.refl _ _)).mono ?_; rintro e u1 ⟨p, cap, rfl, h1, h2⟩
               have G1 : Hid (RwA wr.heap.size u1 p cap qx ∧ Below wr.heap.size wr u1) := ⟨h1, (by first | exact HB.out.trans (h2.mono HB.out.size) | exact h2)⟩
               have e1 := HE.out u1 (HI.out.2.trans (G1.out.2.mono HI.out.2.size))
               have HA1 : Hid (Below wr.heap.size wr (u1.alloc (.cells #[.int .i64 kd, .int .i64 qb, .slice p xl cap] 86))) := G1.out.2.alloc G1.out.2.size _
               have HA2 : Hid (Below w.heap.size w (u1.alloc (.cells #[.int .i64 kd, .int .i64 qb, .slice p xl cap] 86))) := HI.out.2.trans (HA1.out.mono HI.out.2.size)
               clear h1 h2)
            | (refine step_own (by rfl) (.tmp 19) (.tmp 46) 51 (by rfl) 86 i1 _ 3 40 Try.underlying51 j1 j2 j3 j4 (by rfl) (by decide) v T.length (M.flatMap ActR.cells) (by rfl) (owns_fr HI.out.1.row (below_fr HA1.out (fun _ => False)) (fun _ _ e => e)) ⟨u1.heap.size, 0, none⟩ 1 1 [.int .i64 kd, .int .i64 qb, .slice p xl cap] (by rfl) (by decide) rfl (newsA _ _ _ _ _ _ (heap_alloc_new u1 _)) (by intro u hu; simp at hu; rcases hu with rfl | rfl | rfl <;> rfl) (by unfold maxLen; omega) (by omega) ?_
               intro b2 bc u2 h1 h2 h3
               have G2 : Hid (TpI w u2 (.slice (some ⟨b2, 0, none⟩) (T.length + 1) bc) (T ++ [(kd, qb, qx)]) (M ++ [⟨kd, qb, p, cap, qx⟩]) ∧ Below w.heap.size w u2) := (by
                 rw [← HS.out.2] at h1
                 have hbx := HA1.out
                 have ha : Below u1.heap.size u1 (u1.alloc (.cells #[.int .i64 kd, .int .i64 qb, .slice p xl cap] 86)) := (Below.refl _ _).alloc (Nat.le_refl _) _
                 exact ⟨HI.out.1.add (q := ⟨kd, qb, p, cap, qx⟩) (g := wr.heap.size) hbx HI.out.2.size (G1.out.1.on ha) HI.out.2.size h1 h2 h3, (HI.out.2.trans (hbx.mono HI.out.2.size)).trans (h2.below _ (fun c e => HI.out.1.top c e) (Nat.le_trans HI.out.2.size hbx.size))⟩)
               have e2 : u2.cell? ⟨D.r, 1, none⟩ = some (.slice (some ⟨b, off, none⟩) n ac) ∧ u2.cell? ⟨b, off + k * 3, none⟩ = some (.int .i64 kd) ∧ u2.cell? ⟨b, off + k * 3 + 1, none⟩ = some (.int .i64 qb) ∧ u2.cell? ⟨b, off + k * 3 + 2, none⟩ = some (.slice qa xl qc) := HE.out u2 G2.out.2
               clear h1 h2 h3))
        all_goals
          go_wp2
          exact ⟨⟨k + 1, _, _, rfl, by go_num, by omega, by rw [HS.out.1]; exact G2.out.1, G2.out.2⟩, by simp [intOf]; omega⟩
      · have hst : tpB D.L fr (k + 1) = tpB D.L fr k := by
          show (if fr ≤ (k : Int) then _ else _) = _
          rw [if_neg hfr]
        have HS : Hid (tpB D.L fr (k + 1) = tpB D.L fr k) := hst
        clear hst
        go_wp2
        go_round
        case rel => exact ⟨k + 1, v, M, rfl, by go_num, by omega, by rw [HS.out]; exact HI.out.1, HI.out.2⟩
        case measure => simp [intOf]; omega
    · have hlt' : ¬ (k : Int) < (n : Int) := by omega
      obtain rfl : k = n := by omega
      go_wp2
      go_ret
      exact ⟨v, rfl, ⟨M, HI.out.1⟩, HI.out.2⟩
end Go.Proofs.Ytipbflmonhlnjaa

namespace Go.Proofs.Ytipbflmonhlnjaa
open Go.RowKit Rec

theorem res_row9 {fn : Func} {p : Tmp} {ty : TypeId} (h : fn.results = #[.cell p ty]) (tmps : Array Value) (w : World) (g : Nat) (cs : Array Value)
    (hp : tmps.getD p undef = .pointer (some ⟨g, 0, none⟩)) (hl : (loadVar ty ⟨g, 0, none⟩).run Try.prog w = .ok (.agg cs) w) :
    (results fn tmps).run Try.prog w = .ok (.agg cs) w := by
  have e : (results fn tmps).run Try.prog w = ((asAddr (tmps.getD p undef)).run Try.prog w).andThen fun a w₁ => (loadVar ty a).run Try.prog w₁ := by
    simp only [results, h]
    simp [Sem.run_bind, Result.andThen]
  rw [e, hp]
  simp [asAddr, hl]
end Go.Proofs.Ytipbflmonhlnjaa

namespace Go.Proofs.Ytipbflmonhlnjaa
open Go.RowKit Rec

theorem up_eq1 {α : Type} (f : Nat → α) (n : Nat) (v : α) : up f n v n = v := if_pos rfl
theorem up_ne {α : Type} (f : Nat → α) {n i : Nat} (v : α) (h : i ≠ n) : up f n v i = f i := if_neg h
/-- rows of two types lie in two blocks -/
theorem own_two {w : World} {B B' e e' sz sz' n n' : Nat} {v v' : Value} {xs xs' : List Value} (h : w.ownsRow B e sz v n xs) (h' : w.ownsRow B' e' sz' v' n' xs') (hne : e ≠ e') {b : Nat} (hb : v.ownBlock = some b) : v'.ownBlock ≠ some b := by
  intro hb'
  rcases h.2 with ⟨e1, _⟩ | ⟨g, cap, cur, e1, _, h1, _⟩
  · rw [e1] at hb; cases hb
  · rcases h'.2 with ⟨e2, _⟩ | ⟨g', cap', cur', e2, _, h2, _⟩
    · rw [e2] at hb'; cases hb'
    · rw [e1] at hb; rw [e2] at hb'
      cases hb; cases hb'
      rw [h1] at h2
      injection h2 with h2
      injection h2 with _ h3 _
      exact hne h3
/-- a row of lists, each with a block of its own: an element has rs cells in the row -/
structure LV (ty rs el sz : Nat) (w : World) (lv : Value) (n : Nat) (R : Nat → List Value) (V : Nat → Value) (M : Nat → Nat) (C : Nat → List Value) : Prop where
  row : w.ownsRow 0 ty rs lv n ((List.range n).flatMap R)
  ls : ∀ i, i < n → w.ownsRow 0 el sz (V i) (M i) (C i)
  ap : ∀ i j, i < n → j < n → i ≠ j → ∀ b, (V i).ownBlock = some b → (V j).ownBlock ≠ some b
/-- its blocks -/
def hasL (lv : Value) (n : Nat) (V : Nat → Value) (k : Nat) : Prop := lv.ownBlock = some k ∨ ∃ i, i < n ∧ (V i).ownBlock = some k
section
variable {ty rs el sz : Nat} {w w' : World} {lv : Value} {n : Nat} {R : Nat → List Value} {V : Nat → Value} {M : Nat → Nat} {C : Nat → List Value}
theorem LV.zero (w : World) : LV ty rs el sz w (.slice none 0 0) 0 R V M C := ⟨⟨by simp, .inl ⟨rfl, rfl⟩⟩, fun _ h => absurd h (Nat.not_lt_zero _), fun _ _ h => absurd h (Nat.not_lt_zero _)⟩
theorem LV.fr {S : Nat → Prop} (h : LV ty rs el sz w lv n R V M C) (x : Fr S w w') (hS : ∀ k, hasL lv n V k → ¬ S k) : LV ty rs el sz w' lv n R V M C :=
  ⟨owns_fr h.row x (fun k e => hS k (.inl e)), fun i hi => owns_fr (h.ls i hi) x (fun k e => hS k (.inr ⟨i, hi, e⟩)), h.ap⟩
theorem LV.on (h : LV ty rs el sz w lv n R V M C) (hb : Below w.heap.size w w') : LV ty rs el sz w' lv n R V M C := h.fr (below_fr hb (fun _ => False)) (fun _ _ e => e)
theorem LV.lt (h : LV ty rs el sz w lv n R V M C) {k : Nat} (hk : hasL lv n V k) : k < w.heap.size := by
  rcases hk with e | ⟨i, hi, e⟩
  · exact owns_block h.row e
  · exact owns_block (h.ls i hi) e
theorem flat_up (R : Nat → List Value) (k : Nat) (r : List Value) : (List.range (k + 1)).flatMap (up R k r) = (List.range k).flatMap R ++ r := by
  rw [List.range_succ, List.flatMap_append, List.flatMap_cons, List.flatMap_nil, List.append_nil, up_eq1]
  congr 1
  have : ∀ l : List Nat, (∀ i ∈ l, i ≠ k) → l.flatMap (up R k r) = l.flatMap R := fun l => by
    induction l with
    | nil => intro _; rfl
    | cons a l ih => intro h; rw [List.flatMap_cons, List.flatMap_cons, ih (fun i hi => h i (List.mem_cons_of_mem _ hi)), up_ne _ _ (h a List.mem_cons_self)]
  exact this _ (fun i hi => by have := List.mem_range.1 hi; omega)
/-- one list more -/
theorem LV.one {u : Value} {m b cap : Nat} {c r : List Value} (hne : ty ≠ el) (h : LV ty rs el sz w lv n R V M C) (hu : w.ownsRow 0 el sz u m c) (hap : ∀ i, i < n → ∀ b, (V i).ownBlock = some b → u.ownBlock ≠ some b)
    (h1 : w'.ownsRow 0 ty rs (.slice (some ⟨b, 0, none⟩) (n + 1) cap) (n + 1) ((List.range n).flatMap R ++ r)) (h2 : Fr (fun k => lv.ownBlock = some k) w w') :
    LV ty rs el sz w' (.slice (some ⟨b, 0, none⟩) (n + 1) cap) (n + 1) (up R n r) (up V n u) (up M n m) (up C n c) := by
  refine ⟨by rw [flat_up]; exact h1, fun i hi => ?_, fun i j hi hj hij x hx => ?_⟩
  · by_cases e : i = n
    · subst e; rw [up_eq1, up_eq1, up_eq1]; exact owns_fr hu h2 (fun x e1 e2 => own_two h.row hu hne e2 e1)
    · rw [up_ne _ _ e, up_ne _ _ e, up_ne _ _ e]; exact owns_fr (h.ls i (by omega)) h2 (fun x e1 e2 => own_two h.row (h.ls i (by omega)) hne e2 e1)
  · by_cases e : i = n
    · subst e
      rw [up_eq1] at hx
      rw [up_ne _ _ (fun e => hij e.symm)]
      exact fun e2 => hap j (by omega) x e2 hx
    · rw [up_ne _ _ e] at hx
      by_cases e2 : j = n
      · subst e2; rw [up_eq1]; exact hap i (by omega) x hx
      · rw [up_ne _ _ e2]; exact h.ap i j (by omega) (by omega) hij x hx
/-- one list is another, where it lies -/
theorem LV.put {k : Nat} {c : List Value} (hne : ty ≠ el) (h : LV ty rs el sz w lv n R V M C) (hk : k < n) (x : Fr (fun b => (V k).ownBlock = some b) w w') (ht : w'.ownsRow 0 el sz (V k) (M k) c) : LV ty rs el sz w' lv n R V M (up C k c) :=
  ⟨owns_fr h.row x (fun _ e1 e2 => own_two h.row (h.ls k hk) hne e1 e2), fun i hi => by
    by_cases e : i = k
    · subst e; rw [up_eq1]; exact ht
    · rw [up_ne _ _ e]; exact owns_fr (h.ls i hi) x (fun b e1 e2 => h.ap i k hi hk e b e1 e2), h.ap⟩
theorem flat_at (R : Nat → List Value) (rs : Nat) (n i j : Nat) (hR : ∀ i, (R i).length = rs) (hi : i < n) (hj : j < rs) : ((List.range n).flatMap R)[i * rs + j]? = (R i)[j]? := by
  induction n with
  | zero => omega
  | succ n ih =>
    have hl : ((List.range n).flatMap R).length = n * rs := by
      clear ih hi
      induction n with
      | zero => simp
      | succ n ih => rw [List.range_succ, List.flatMap_append, List.length_append, ih, List.flatMap_cons, List.flatMap_nil, List.append_nil, hR, Nat.succ_mul]
    rw [List.range_succ, List.flatMap_append, List.flatMap_cons, List.flatMap_nil, List.append_nil]
    by_cases e : i = n
    · subst e
      rw [List.getElem?_append_right (by omega), hl]
      congr 1; omega
    · rw [List.getElem?_append_left, ih (by omega)]
      rw [hl]
      have : i + 1 ≤ n := by omega
      have := Nat.mul_le_mul_right rs this
      rw [Nat.succ_mul] at this
      omega
theorem flatW_len (R : Nat → List Value) (rs n : Nat) (hR : ∀ i, (R i).length = rs) : ((List.range n).flatMap R).length = n * rs := by
  induction n with
  | zero => simp
  | succ n ih => rw [List.range_succ, List.flatMap_append, List.length_append, ih, List.flatMap_cons, List.flatMap_nil, List.append_nil, hR, Nat.succ_mul]
/-- a row's cells -/
theorem LV.cell (h : LV ty rs el sz w lv n R V M C) (hR : ∀ i, (R i).length = rs) {i : Nat} (hi : i < n) : ∃ g cap, lv = .slice (some ⟨g, 0, none⟩) n cap ∧ n ≤ cap ∧ cap ≤ maxLen ∧ (∀ j, w.frozen? ⟨g, j, none⟩ = false) ∧ ∀ j, j < rs → w.cell? ⟨g, i * rs + j, none⟩ = (R i)[j]? := by
  have h0 := h.row
  rcases h.row.2 with ⟨_, e2⟩ | ⟨g, cap, cur, e, _, _, h2, h3, _⟩
  · omega
  · rw [e] at h0
    refine ⟨g, cap, e, h2, h3, fun j => h0.frozenAt j, fun j hj => ?_⟩
    rw [h0.cellAt (i * rs + j) (by have := Nat.mul_le_mul_right rs (show i + 1 ≤ n by omega); rw [Nat.succ_mul] at this; omega), flat_at R rs n i j hR hi hj]
/-- an element of the row is another -/
theorem flat_set (R : Nat → List Value) (n i : Nat) (u : Value) (hi : i < n) (hR : ∀ j, (R j).length = 1) : ((List.range n).flatMap R).set i u = (List.range n).flatMap (up R i [u]) := by
  have hU : ∀ j, (up R i [u] j).length = 1 := fun j => by
    by_cases e : j = i
    · subst e; rw [up_eq1]; rfl
    · rw [up_ne _ _ e]; exact hR j
  apply List.ext_getElem?
  intro j
  by_cases hj : j < n
  · have h1 := flat_at (up R i [u]) 1 n j 0 hU hj (by omega)
    rw [Nat.mul_one, Nat.add_zero] at h1
    rw [h1, List.getElem?_set, flatW_len _ 1 _ hR, Nat.mul_one]
    by_cases e : i = j
    · subst e; rw [if_pos rfl, if_pos hi, up_eq1]; rfl
    · rw [if_neg e, up_ne _ _ (fun e2 => e e2.symm)]
      have h2 := flat_at R 1 n j 0 hR hj (by omega)
      rw [Nat.mul_one, Nat.add_zero] at h2
      exact h2
  · rw [List.getElem?_eq_none (by rw [List.length_set, flatW_len _ 1 _ hR]; omega), List.getElem?_eq_none (by rw [flatW_len _ 1 _ hU]; omega)]
end
end Go.Proofs.Ytipbflmonhlnjaa
