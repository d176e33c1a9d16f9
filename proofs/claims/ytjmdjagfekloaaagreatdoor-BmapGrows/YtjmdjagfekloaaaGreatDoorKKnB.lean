import Derived.Test.YtjmdjagfekloaaaGreatDoorKBgA
namespace Go.Proofs.YtjmdjagfekloaaaGreatDoor
open Go.RowKit Go.Maps Rec

def y1k : Nat → Int := withN (fun _ => 0) ν1k
def y2k : Nat → Int := withN y1k ν2k
/-- known's transaction behind its puts -/
structure Kq (D : Dk) (T : Tx) (n c : Nat) (y : Nat → Int) (ν : Nat → Nat) : Prop where
  wd : Wd D T n y ν
  fr : ∀ b, fd (nD n) n (bmp D T) b = decide (c ≤ b ∧ b < 128)
  cnt : (lst T.c n).length ≤ 20 * (c - 101)
  us : T.us.length ≤ 20 * (c - 101)
  inn : ∀ q, ν q ≠ 0 → (T.c (ν q)).isSome = true ∧ (T.c (98 + ν q / 4096)).isSome = true
theorem kn_add1 (w0 w : World) (D : Dk) (T : Tx) (n : Nat) (hn : n = 128) (h : OpQ w0 w D T n) (hT : TabAt w0) (hF : ∀ b, fd (nD n) n (bmp D T) b = decide (101 ≤ b ∧ b < 128)) :
    Calls Tryz.prog 12 #[.pointer (some ⟨T.t, 0, none⟩), geoV n, inV (fun _ => 0), .int .i64 0] w fun e w' => ∃ T', e = .returned (.tuple #[inV y1k, .int .i64 101, .int .i64 0]) ∧ Gon w0 w w' D T T' n (fun _ => False) ∧ Kq D T' n 102 y1k ν1k := by
  subst hn
  have hl : (lst T.c 128).length = 0 := by rw [h.c]; rw [lst_none]; rfl
  have hu : T.us.length = 0 := by rw [h.us]; rfl
  refine (add_any w0 w D T 128 h.spc hT (fun _ => 0) (fun _ => 0) ⟨Tre.none (fun _ _ => rfl), Own1.none⟩ 0 (by omega) (by omega)).mono ?_
  rintro e w' ⟨N, z, y, T', rfl, ⟨rfl, ν', rfl, hp, hg⟩ | ⟨_, _, _, hz, _⟩⟩
  · obtain ⟨e1, e2⟩ := tks1 hF hp.tks
    subst e1
    have hN : N = 101 := by rw [← hp.nE]; rfl
    subst hN
    obtain ⟨m, hm, hm9⟩ := hp.ext
    refine ⟨T', rfl, hg, hp.wd, e2, by have := hp.cnt; omega, by rw [hm.us]; omega, fun q hq => hp.inn q hq⟩
  · exact (adz_no hz (by omega) (by rw [ctF 101 (by omega) _ hF]; omega) (fun b hb => by rw [hF] at hb; simp at hb; omega)).elim
theorem kn_add2 (w0 w : World) (D : Dk) (T : Tx) (n : Nat) (hn : n = 128) (h : Spc w0 w D T n) (hT : TabAt w0) (hk : Kq D T n 102 y1k ν1k) :
    Calls Tryz.prog 12 #[.pointer (some ⟨T.t, 0, none⟩), geoV n, inV y1k, .int .i64 10] w fun e w' => ∃ T', e = .returned (.tuple #[inV y2k, .int .i64 103, .int .i64 0]) ∧ Gon w0 w w' D T T' n (fun _ => False) ∧ Kq D T' n 104 y2k ν2k := by
  subst hn
  have hc := hk.cnt
  have hu := hk.us
  refine (add_any w0 w D T 128 h hT y1k ν1k hk.wd 10 (by omega) (by omega)).mono ?_
  rintro e w' ⟨N, z, y, T', rfl, ⟨rfl, ν', rfl, hp, hg⟩ | ⟨_, _, _, hz, _⟩⟩
  · obtain ⟨e1, e2⟩ := tks2 hk.fr hp.tks
    subst e1
    have hN : N = 103 := by rw [← hp.nE]; rfl
    subst hN
    obtain ⟨m, hm, hm9⟩ := hp.ext
    refine ⟨T', rfl, hg, hp.wd, e2, by have := hp.cnt; omega, by rw [hm.us]; omega, fun q hq => ?_⟩
    by_cases e : ν2k q = ν1k q
    · have := hk.inn q (by rw [← e]; exact hq)
      rw [e]
      exact ⟨hg.dom _ this.1, hg.dom _ this.2⟩
    · exact hp.inn q e
  · exact (adz_no hz (by omega) (by rw [ctF 102 (by omega) _ hk.fr]; omega) (fun b hb => by rw [hk.fr] at hb; simp at hb; omega)).elim
theorem kn_find (w0 w : World) (D : Dk) (T : Tx) (n : Nat) (hn : n = 128) (h : Spc w0 w D T n) (hT : TabAt w0) (hk : Kq D T n 104 y2k ν2k) :
    Calls Tryz.prog 21 #[.pointer (some ⟨T.t, 0, none⟩), geoV n, inV y2k, .int .i64 10] w fun e w' => e = .returned (.tuple #[.int .i64 103, .int .i64 0]) ∧ Below w.heap.size w w' := by
  subst hn
  have hf := find_any w0 w D T 128 h (hT.on h.ses.bel) y2k 10 (by omega)
  have e1 : nth (inN y2k) 10 = 102 := by rw [nth_inN _ _ (by omega)]; rfl
  have e2 : nm (tv D T 102) 0 = 103 := hk.wd.tre.tab 12 (by omega) (by omega) (by decide)
  have e3 : fol (tv D T) (nD 128) 128 (inN y2k) (wayL 10) = (103, 0) := by
    have hw : wayL 10 = [(10, 10, 128), (0, 10, 1)] := rfl
    have hd : nD 128 = 101 := rfl
    rw [hw, hd, fol, e1, if_neg (by decide), if_neg (by decide), if_pos (by decide), fol]
    have e4 : nth (nms (tv D T (102 : Int).toNat)) 0 = 103 := by rw [nth_nms _ _ (by omega)]; exact e2
    rw [e4, if_neg (by decide), if_neg (by decide), if_neg (by decide)]
  rw [e3] at hf
  exact hf
theorem kn_cut (w0 w : World) (D : Dk) (T : Tx) (n : Nat) (hn : n = 128) (h : Spc w0 w D T n) (hT : TabAt w0) (hk : Kq D T n 104 y2k ν2k) :
    Calls Tryz.prog 18 #[.pointer (some ⟨T.t, 0, none⟩), geoV n, inV y2k, .int .i64 0] w fun e w' => ∃ T', e = .returned (.tuple #[inV (fun _ => 0), .int .i64 0]) ∧ Gon w0 w w' D T T' n (fun _ => False) ∧ ∀ b, fd (nD n) n (bmp D T') b = decide (101 ≤ b ∧ b < 128) := by
  subst hn
  have hu := hk.us
  refine (cut_any w0 w D T 128 h y2k ν2k 0 (by omega) ⟨hk.wd, h.lo, h.hi, hT, by omega, by omega⟩).mono ?_
  rintro e w' ⟨z, y, T', rfl, ⟨rfl, rfl, hp, hg, _⟩ | ⟨_, _, hno, _⟩⟩
  · refine ⟨T', ?_, hg, fun b => ?_⟩
    · have : withN y2k (cvP ν2k 0) = fun _ => 0 := by
        funext i
        unfold withN
        split
        · rw [cv0]; rfl
        · rename_i hi
          unfold y2k withN
          rw [if_neg hi]
          unfold y1k withN
          rw [if_neg hi]
      rw [this]
      rfl
    · have hz : ∀ p, ν2k p ≠ 0 → p = 0 ∨ p = 10 ∨ p = 12 := fun p h => by
        unfold ν2k ν1k upN at h
        by_cases e0 : p = 0
        · exact .inl e0
        · by_cases e1 : p = 10
          · exact .inr (.inl e1)
          · by_cases e2 : p = 12
            · exact .inr (.inr e2)
            · simp [e0, e1, e2] at h
      have key := hp.fdT b
      rw [hk.fr] at key
      by_cases e : 101 ≤ b ∧ b < 128
      · rw [decide_eq_true e]
        refine key.2 ?_
        by_cases e2 : 104 ≤ b
        · exact .inl (decide_eq_true ⟨e2, e.2⟩)
        · have e3 : b = 101 ∨ b = 102 ∨ b = 103 := by omega
          rcases e3 with rfl | rfl | rfl
          · exact .inr ⟨0, by decide +kernel, rfl⟩
          · exact .inr ⟨10, by decide +kernel, rfl⟩
          · exact .inr ⟨12, by decide +kernel, rfl⟩
      · rw [decide_eq_false e]
        cases e2 : fd (nD 128) 128 (bmp D T') b
        · rfl
        · rcases key.1 e2 with e3 | ⟨p, e3, rfl⟩
          · simp at e3; omega
          · rcases hz p (gone_nz e3) with rfl | rfl | rfl
            · exact absurd ⟨by decide, by decide⟩ e
            · exact absurd ⟨by decide, by decide⟩ e
            · exact absurd ⟨by decide, by decide⟩ e
  · exfalso
    rcases hno with ⟨m, hm, e⟩ | ⟨p, hp, e⟩
    · have h1 := (hk.inn 0 (by decide)).2
      have hm0 : m = 0 := by
        have : nM 128 = 1 := rfl
        omega
      subst hm0
      have h2 : (T.c 98).isSome = true := h1
      rw [e] at h2
      cases h2
    · have := (hk.inn p hp).1
      rw [e] at this
      cases this
theorem kn_free (w0 w : World) (D : Dk) (T : Tx) (n : Nat) (hn : n = 128) (h : Spc w0 w D T n) (hF : ∀ b, fd (nD n) n (bmp D T) b = decide (101 ≤ b ∧ b < 128)) :
    Calls Tryz.prog 14 #[.pointer (some ⟨T.t, 0, none⟩), geoV n] w fun e w' => e = .returned (.tuple #[.int .i64 27, .int .i64 0]) ∧ Below w.heap.size w w' := by
  subst hn
  have := free_any w0 w D T 128 h
  rw [ctF 101 (by omega) _ hF] at this
  exact this
end Go.Proofs.YtjmdjagfekloaaaGreatDoor

namespace Go.Proofs.YtjmdjagfekloaaaGreatDoor
open Go.RowKit Go.Maps Rec

/-- a box that stands beside a session -/
structure Bq (w0 w : World) (D : Dk) (T : Tx) (p : Nat) (o : Obj) : Prop where
  row : w.heap[p]? = some o
  out : Out w0 w D T p
theorem Bq.gon {w0 w w' : World} {D : Dk} {T T' : Tx} {n p : Nat} {o : Obj} (h : Bq w0 w D T p o) (g : Gon w0 w w' D T T' n (fun _ => False)) : Bq w0 w' D T' p o := ⟨g.mv.fr.heap h.row (fun e => e.elim (fun e => h.out.no e) (fun e => e)), h.out.mv g.mv⟩
theorem Bq.on {w0 w w' : World} {D : Dk} {T : Tx} {p : Nat} {o : Obj} (h : Bq w0 w D T p o) (hb : Below w.heap.size w w') : Bq w0 w' D T p o := ⟨(hb.block _ h.out.lt).trans h.row, h.out.mv (SMv.on hb (S := fun _ => False))⟩
theorem Bq.new {w0 w : World} {D : Dk} {T : Tx} {n : Nat} (h : Spc w0 w D T n) (cs : Array Value) (t : TypeId) : Bq w0 (w.alloc (.cells cs t)) D T w.heap.size (.cells cs t (0, 0)) := ⟨heap_alloc_new _ _, Out.of h (Nat.le_refl _) (by simp)⟩
theorem Bq.c5 {w0 w : World} {D : Dk} {T : Tx} {p n : Nat} (h : Bq w0 w D T p (.cells #[.int .i64 (n : Int), .int .i64 98, .int .i64 (gI n), .int .i64 (gD n), .int .i64 (gC n)] 29 (0, 0))) : GeoAt w p n := h.row
theorem Bq.c15 {w0 w : World} {D : Dk} {T : Tx} {p : Nat} {y : Nat → Int} (h : Bq w0 w D T p (.cells #[.int .i64 (y 0), .int .i64 (y 1), .int .i64 (y 2), .int .i64 (y 3), .int .i64 (y 4), .int .i64 (y 5), .int .i64 (y 6), .int .i64 (y 7), .int .i64 (y 8), .int .i64 (y 9), .int .i64 (y 10), .int .i64 (y 11), .int .i64 (y 12), .int .i64 (y 13), .int .i64 (y 14)] 35 (0, 0))) : w.cell? ⟨p, 0, none⟩ = some (.int .i64 (y 0)) ∧ w.cell? ⟨p, 1, none⟩ = some (.int .i64 (y 1)) ∧ w.cell? ⟨p, 2, none⟩ = some (.int .i64 (y 2)) ∧ w.cell? ⟨p, 3, none⟩ = some (.int .i64 (y 3)) ∧ w.cell? ⟨p, 4, none⟩ = some (.int .i64 (y 4)) ∧ w.cell? ⟨p, 5, none⟩ = some (.int .i64 (y 5)) ∧ w.cell? ⟨p, 6, none⟩ = some (.int .i64 (y 6)) ∧ w.cell? ⟨p, 7, none⟩ = some (.int .i64 (y 7)) ∧ w.cell? ⟨p, 8, none⟩ = some (.int .i64 (y 8)) ∧ w.cell? ⟨p, 9, none⟩ = some (.int .i64 (y 9)) ∧ w.cell? ⟨p, 10, none⟩ = some (.int .i64 (y 10)) ∧ w.cell? ⟨p, 11, none⟩ = some (.int .i64 (y 11)) ∧ w.cell? ⟨p, 12, none⟩ = some (.int .i64 (y 12)) ∧ w.cell? ⟨p, 13, none⟩ = some (.int .i64 (y 13)) ∧ w.cell? ⟨p, 14, none⟩ = some (.int .i64 (y 14)) := by
  have hc := fun j => cell_of_row _ _ j _ _ _ h.row
  exact ⟨hc 0, hc 1, hc 2, hc 3, hc 4, hc 5, hc 6, hc 7, hc 8, hc 9, hc 10, hc 11, hc 12, hc 13, hc 14⟩
theorem Kq.at {D : Dk} {T : Tx} {n c : Nat} {y y' : Nat → Int} {ν : Nat → Nat} (h : Kq D T n c y' ν) (e : y = y') : Kq D T n c y ν := e ▸ h
theorem own_prs (w : World) (v : Value) (h : w.ownsRow 0 57 2 v 2 (prV [(0, 101), (10, 103)])) : ∃ g c, v = .slice (some ⟨g, 0, none⟩) 2 c ∧ PrsAt w (some ⟨g, 0, none⟩) 2 (fun i => if i = 0 then 0 else 10) (fun i => if i = 0 then 101 else 103) := by
  rcases h.2 with ⟨_, e⟩ | ⟨g, cap, cur, e, _⟩
  · omega
  · refine ⟨g, cap, e, .inr ⟨g, 0, rfl, fun i hi => ?_⟩⟩
    have hc := fun j u hj => World.ownsRow.cells h (g := g) (by rw [e]; rfl) j u hj
    rcases (show i = 0 ∨ i = 1 by omega) with rfl | rfl
    · exact ⟨hc 0 _ rfl, hc 1 _ rfl⟩
    · exact ⟨hc 2 _ rfl, hc 3 _ rfl⟩
theorem own_num (w : World) (v : Value) (h : w.ownsRow 0 3 1 v 1 (natV [102])) : ∃ g c, v = .slice (some ⟨g, 0, none⟩) 1 c ∧ NumAt w (some ⟨g, 0, none⟩) 1 (fun _ => 102) := by
  rcases h.2 with ⟨_, e⟩ | ⟨g, cap, cur, e, _⟩
  · omega
  · refine ⟨g, cap, e, .inr ⟨g, 0, rfl, fun i hi => ?_⟩⟩
    have hc := fun j u hj => World.ownsRow.cells h (g := g) (by rw [e]; rfl) j u hj
    rcases (show i = 0 by omega) with rfl
    exact hc 0 _ rfl
theorem PrsAt.gon {w0 w w' : World} {D : Dk} {T T' : Tx} {n k m : Nat} {f1 f2 : Nat → Int} (h : PrsAt w (some ⟨k, 0, none⟩) m f1 f2) (g : Gon w0 w w' D T T' n (fun _ => False)) (ho : Out w0 w D T k) : PrsAt w' (some ⟨k, 0, none⟩) m f1 f2 := h.imp id (fun ⟨q, o, e, hc⟩ => ⟨q, o, e, fun i hi => by
  injection e with e; injection e with e1 e2; subst e1
  have hn : ¬ (T.has k ∨ False) := fun e => e.elim ho.no id
  exact ⟨g.mv.fr.cell (hc i hi).1 hn, g.mv.fr.cell (hc i hi).2 hn⟩⟩)
theorem NumAt.gon {w0 w w' : World} {D : Dk} {T T' : Tx} {n k m : Nat} {f1 : Nat → Int} (h : NumAt w (some ⟨k, 0, none⟩) m f1) (g : Gon w0 w w' D T T' n (fun _ => False)) (ho : Out w0 w D T k) : NumAt w' (some ⟨k, 0, none⟩) m f1 := h.imp id (fun ⟨q, o, e, hc⟩ => ⟨q, o, e, fun i hi => by
  injection e with e; injection e with e1 e2; subst e1
  exact g.mv.fr.cell (hc i hi) (fun e => e.elim ho.no id)⟩)
theorem PrsAt.lt {w : World} {k m : Nat} {f1 f2 : Nat → Int} (h : PrsAt w (some ⟨k, 0, none⟩) (m + 1) f1 f2) : k < w.heap.size := by
  rcases h with e | ⟨q, o, e, hc⟩
  · omega
  · injection e with e; injection e with e1 e2; subst e1
    exact block_lt_of_cell (hc 0 (by omega)).1
theorem NumAt.lt {w : World} {k m : Nat} {f1 : Nat → Int} (h : NumAt w (some ⟨k, 0, none⟩) (m + 1) f1) : k < w.heap.size := by
  rcases h with e | ⟨q, o, e, hc⟩
  · omega
  · injection e with e; injection e with e1 e2; subst e1
    exact block_lt_of_cell (hc 0 (by omega))
theorem kn_all (w0 w : World) (D : Dk) (T : Tx) (n : Nat) (h : Spc w0 w D T n) (hT : TabAt w0) (hk : Kq D T n 104 y2k ν2k) :
    Calls Tryz.prog 17 #[.pointer (some ⟨T.t, 0, none⟩), geoV n, inV y2k] w fun e w' => ∃ g c g' c', e = .returned (.tuple #[.slice (some ⟨g, 0, none⟩) 2 c, .slice (some ⟨g', 0, none⟩) 1 c', .int .i64 0]) ∧ PrsAt w' (some ⟨g, 0, none⟩) 2 (fun i => if i = 0 then 0 else 10) (fun i => if i = 0 then 101 else 103) ∧ NumAt w' (some ⟨g', 0, none⟩) 1 (fun _ => 102) ∧ w.heap.size ≤ g ∧ w.heap.size ≤ g' ∧ Below w.heap.size w w' := by
  refine (all_any w0 w D T n h hT y2k ν2k hk.wd).mono ?_
  rintro e w' ⟨vb, vt, rfl, h1, h2, h3, h4, hb⟩
  rw [allB2] at h1
  rw [allT2] at h2
  obtain ⟨g, c, rfl, hp⟩ := own_prs w' vb h1
  obtain ⟨g', c', rfl, hq⟩ := own_num w' vt h2
  exact ⟨g, c, g', c', rfl, hp, hq, h3 g rfl, h4 g' rfl, hb⟩
set_option maxRecDepth 100000 in
set_option maxHeartbeats 16000000 in
theorem known_any (w : World) (hT : TabAt w) : Calls Tryz.prog 9 #[] w fun e w' => e = .returned (.bool true) ∧ Below w.heap.size w w' := by
  have HB0 := beginQ w 0 none 0 0 none 0 0 [] ⟨by simp, .inl rfl⟩ rfl [] ⟨rfl, .inl rfl⟩ (by omega)
  obtain ⟨n, hn⟩ : ∃ n, nBq 0 = n := ⟨_, rfl⟩
  have HN : Hid (n = 128) := by rw [← hn]; exact (rfl : nBq 0 = 128)
  rw [hn] at HB0
  clear hn
  unfold stuV geoV at HB0
  have HBg : Hid (Calls Tryz.prog 8 #[.agg #[.int .i64 0, .slice none 0 0, .slice none 0 0]] w fun e w' => ∃ (rt : Nat) (D : Dk) (T : Tx), e = .returned (.tuple #[.pointer (some ⟨T.t, 0, none⟩), .pointer (some ⟨rt, 0, none⟩), .agg #[.int .i64 (n : Int), .int .i64 98, .int .i64 (gI n), .int .i64 (gD n), .int .i64 (gC n)], .bool true]) ∧ OpQ w w' D T n ∧ ∀ b, fd (nD n) n (bmp D T) b = decide (101 ≤ b ∧ b < 128)) := by
    refine HB0.mono ?_
    rintro e w' ⟨rt, D, T, rfl, h1, h2⟩
    refine ⟨rt, D, T, rfl, h1, fun b => ?_⟩
    have h3 := h2 rfl rfl b
    rw [h3, HN.out]
    rfl
  have HT : Hid (TabAt w) := hT
  have HNu : Hid (∀ wx, Calls Tryz.prog 13 #[.int .i64 0] wx fun e' w' => e' = .returned (.int .i64 0) ∧ wx = w') := fun wx => numQ wx 0 (by omega)
  clear HB0 hT
  go_enter Tryz.func9, Tryz.ntmps9
  go_upto_region 4 with (go_at_call 8; refine HBg.out.mono ?_; rintro e w1 ⟨rt, D, T, rfl, h1, h2⟩; have H1 : Hid (OpQ w w1 D T n ∧ ∀ b, fd (nD n) n (bmp D T) b = decide (101 ≤ b ∧ b < 128)) := ⟨h1, h2⟩; clear h1 h2 HBg)
  obtain ⟨tt, htt⟩ : ∃ tt, T.t = tt := ⟨_, rfl⟩
  have HTt : Hid (T.t = tt) := htt
  obtain ⟨G, hG⟩ : ∃ G, w1.heap.size = G := ⟨_, rfl⟩
  obtain ⟨w2, hw2⟩ : ∃ w2, w1.alloc (.cells #[.int .i64 (n : Int), .int .i64 98, .int .i64 (gI n), .int .i64 (gD n), .int .i64 (gC n)] 29) = w2 := ⟨_, rfl⟩
  have H2 : Hid (OpQ w w2 D T n ∧ Bq w w2 D T G (.cells #[.int .i64 (n : Int), .int .i64 98, .int .i64 (gI n), .int .i64 (gD n), .int .i64 (gC n)] 29 (0, 0))) := by
    have hb := Bq.new H1.out.1.spc #[.int .i64 (n : Int), .int .i64 98, .int .i64 (gI n), .int .i64 (gD n), .int .i64 (gC n)] 29
    rw [hw2, hG] at hb
    exact ⟨⟨H1.out.1.spc.on (by rw [← hw2]; exact below_new _), H1.out.1.c, H1.out.1.us⟩, hb⟩
  rw [htt, hw2, hG]
  clear htt hw2 hG
  obtain ⟨z0, z1, z2, z3, z4⟩ := (show GeoAt w2 G n from H2.out.2.row).cells
  obtain ⟨y, hy⟩ : ∃ y, y1k = y := ⟨_, rfl⟩
  have HAd : Hid (Calls Tryz.prog 12 #[.pointer (some ⟨tt, 0, none⟩), .agg #[.int .i64 (n : Int), .int .i64 98, .int .i64 (gI n), .int .i64 (gD n), .int .i64 (gC n)], .agg #[.int .i64 0, .int .i64 0, .int .i64 0, .int .i64 0, .int .i64 0, .int .i64 0, .int .i64 0, .int .i64 0, .int .i64 0, .int .i64 0, .int .i64 0, .int .i64 0, .int .i64 0, .int .i64 0, .int .i64 0], .int .i64 0] w2 fun e w' => ∃ T', e = .returned (.tuple #[.agg #[.int .i64 (y 0), .int .i64 (y 1), .int .i64 (y 2), .int .i64 (y 3), .int .i64 (y 4), .int .i64 (y 5), .int .i64 (y 6), .int .i64 (y 7), .int .i64 (y 8), .int .i64 (y 9), .int .i64 (y 10), .int .i64 (y 11), .int .i64 (y 12), .int .i64 (y 13), .int .i64 (y 14)], .int .i64 101, .int .i64 0]) ∧ Gon w w2 w' D T T' n (fun _ => False) ∧ Kq D T' n 102 y ν1k) := by
    have h9 := kn_add1 w w2 D T n HN.out H2.out.1 HT.out H1.out.2
    rw [HTt.out, hy] at h9
    exact h9
  have HY : Hid (y1k = y) := hy
  clear hy
  go_upto_region 5 with (go_at_call 12; refine HAd.out.mono ?_; rintro e w3 ⟨T1, rfl, h1, h2⟩; have H3 : Hid (Gon w w2 w3 D T T1 n (fun _ => False) ∧ Kq D T1 n 102 y ν1k) := ⟨h1, h2⟩; clear h1 h2 HAd)
  obtain ⟨X, hX⟩ : ∃ X, w3.heap.size = X := ⟨_, rfl⟩
  obtain ⟨w4, hw4⟩ : ∃ w4, w3.alloc (.cells #[.int .i64 (y 0), .int .i64 (y 1), .int .i64 (y 2), .int .i64 (y 3), .int .i64 (y 4), .int .i64 (y 5), .int .i64 (y 6), .int .i64 (y 7), .int .i64 (y 8), .int .i64 (y 9), .int .i64 (y 10), .int .i64 (y 11), .int .i64 (y 12), .int .i64 (y 13), .int .i64 (y 14)] 35) = w4 := ⟨_, rfl⟩
  have H4 : Hid (Spc w w4 D T1 n ∧ Kq D T1 n 102 y ν1k ∧ Bq w w4 D T1 G (.cells #[.int .i64 (n : Int), .int .i64 98, .int .i64 (gI n), .int .i64 (gD n), .int .i64 (gC n)] 29 (0, 0)) ∧ Bq w w4 D T1 X (.cells #[.int .i64 (y 0), .int .i64 (y 1), .int .i64 (y 2), .int .i64 (y 3), .int .i64 (y 4), .int .i64 (y 5), .int .i64 (y 6), .int .i64 (y 7), .int .i64 (y 8), .int .i64 (y 9), .int .i64 (y 10), .int .i64 (y 11), .int .i64 (y 12), .int .i64 (y 13), .int .i64 (y 14)] 35 (0, 0)) ∧ T1.t = tt) := by
    obtain ⟨g1, k1⟩ := H3.out
    have hb : Below w3.heap.size w3 w4 := by rw [← hw4]; exact below_new _
    have hx := Bq.new g1.spc #[.int .i64 (y 0), .int .i64 (y 1), .int .i64 (y 2), .int .i64 (y 3), .int .i64 (y 4), .int .i64 (y 5), .int .i64 (y 6), .int .i64 (y 7), .int .i64 (y 8), .int .i64 (y 9), .int .i64 (y 10), .int .i64 (y 11), .int .i64 (y 12), .int .i64 (y 13), .int .i64 (y 14)] 35
    rw [hw4, hX] at hx
    exact ⟨g1.spc.on hb, k1, (H2.out.2.gon g1).on hb, hx, g1.mv.t.trans HTt.out⟩
  rw [hw4, hX]
  clear hw4 hX z0 z1 z2 z3 z4 H1 H2 H3 HTt
  obtain ⟨z0, z1, z2, z3, z4⟩ := H4.out.2.2.1.c5.cells
  obtain ⟨x0, x1, x2, x3, x4, x5, x6, x7, x8, x9, x10, x11, x12, x13, x14⟩ := H4.out.2.2.2.1.c15
  obtain ⟨y', hy'⟩ : ∃ y', y2k = y' := ⟨_, rfl⟩
  have HAd : Hid (Calls Tryz.prog 12 #[.pointer (some ⟨tt, 0, none⟩), .agg #[.int .i64 (n : Int), .int .i64 98, .int .i64 (gI n), .int .i64 (gD n), .int .i64 (gC n)], .agg #[.int .i64 (y 0), .int .i64 (y 1), .int .i64 (y 2), .int .i64 (y 3), .int .i64 (y 4), .int .i64 (y 5), .int .i64 (y 6), .int .i64 (y 7), .int .i64 (y 8), .int .i64 (y 9), .int .i64 (y 10), .int .i64 (y 11), .int .i64 (y 12), .int .i64 (y 13), .int .i64 (y 14)], .int .i64 10] w4 fun e w' => ∃ T', e = .returned (.tuple #[.agg #[.int .i64 (y' 0), .int .i64 (y' 1), .int .i64 (y' 2), .int .i64 (y' 3), .int .i64 (y' 4), .int .i64 (y' 5), .int .i64 (y' 6), .int .i64 (y' 7), .int .i64 (y' 8), .int .i64 (y' 9), .int .i64 (y' 10), .int .i64 (y' 11), .int .i64 (y' 12), .int .i64 (y' 13), .int .i64 (y' 14)], .int .i64 103, .int .i64 0]) ∧ Gon w w4 w' D T1 T' n (fun _ => False) ∧ Kq D T' n 104 y' ν2k) := by
    have h9 := kn_add2 w w4 D T1 n HN.out H4.out.1 HT.out (H4.out.2.1.at HY.out)
    rw [H4.out.2.2.2.2, HY.out, hy'] at h9
    exact h9
  have HY2 : Hid (y2k = y') := hy'
  clear hy'
  go_upto_region 6 with (go_at_call 12; refine HAd.out.mono ?_; rintro e w5 ⟨T2, rfl, h1, h2⟩; have H5 : Hid (Gon w w4 w5 D T1 T2 n (fun _ => False) ∧ Kq D T2 n 104 y' ν2k) := ⟨h1, h2⟩; clear h1 h2 HAd)
  obtain ⟨Yb, hYb⟩ : ∃ Yb, w5.heap.size = Yb := ⟨_, rfl⟩
  obtain ⟨w6, hw6⟩ : ∃ w6, w5.alloc (.cells #[.int .i64 (y' 0), .int .i64 (y' 1), .int .i64 (y' 2), .int .i64 (y' 3), .int .i64 (y' 4), .int .i64 (y' 5), .int .i64 (y' 6), .int .i64 (y' 7), .int .i64 (y' 8), .int .i64 (y' 9), .int .i64 (y' 10), .int .i64 (y' 11), .int .i64 (y' 12), .int .i64 (y' 13), .int .i64 (y' 14)] 35) = w6 := ⟨_, rfl⟩
  have H6 : Hid (Spc w w6 D T2 n ∧ Kq D T2 n 104 y2k ν2k ∧ Bq w w6 D T2 G (.cells #[.int .i64 (n : Int), .int .i64 98, .int .i64 (gI n), .int .i64 (gD n), .int .i64 (gC n)] 29 (0, 0)) ∧ Bq w w6 D T2 Yb (.cells #[.int .i64 (y' 0), .int .i64 (y' 1), .int .i64 (y' 2), .int .i64 (y' 3), .int .i64 (y' 4), .int .i64 (y' 5), .int .i64 (y' 6), .int .i64 (y' 7), .int .i64 (y' 8), .int .i64 (y' 9), .int .i64 (y' 10), .int .i64 (y' 11), .int .i64 (y' 12), .int .i64 (y' 13), .int .i64 (y' 14)] 35 (0, 0)) ∧ T2.t = tt) := by
    obtain ⟨g1, k1⟩ := H5.out
    have hb : Below w5.heap.size w5 w6 := by rw [← hw6]; exact below_new _
    have hx := Bq.new g1.spc #[.int .i64 (y' 0), .int .i64 (y' 1), .int .i64 (y' 2), .int .i64 (y' 3), .int .i64 (y' 4), .int .i64 (y' 5), .int .i64 (y' 6), .int .i64 (y' 7), .int .i64 (y' 8), .int .i64 (y' 9), .int .i64 (y' 10), .int .i64 (y' 11), .int .i64 (y' 12), .int .i64 (y' 13), .int .i64 (y' 14)] 35
    rw [hw6, hYb] at hx
    exact ⟨g1.spc.on hb, k1.at HY2.out, (H4.out.2.2.1.gon g1).on hb, hx, g1.mv.t.trans H4.out.2.2.2.2⟩
  rw [hw6, hYb]
  clear hw6 hYb z0 z1 z2 z3 z4 x0 x1 x2 x3 x4 x5 x6 x7 x8 x9 x10 x11 x12 x13 x14 H4 H5
  obtain ⟨z0, z1, z2, z3, z4⟩ := H6.out.2.2.1.c5.cells
  obtain ⟨x0, x1, x2, x3, x4, x5, x6, x7, x8, x9, x10, x11, x12, x13, x14⟩ := H6.out.2.2.2.1.c15
  have HFi : Hid (Calls Tryz.prog 21 #[.pointer (some ⟨tt, 0, none⟩), .agg #[.int .i64 (n : Int), .int .i64 98, .int .i64 (gI n), .int .i64 (gD n), .int .i64 (gC n)], .agg #[.int .i64 (y' 0), .int .i64 (y' 1), .int .i64 (y' 2), .int .i64 (y' 3), .int .i64 (y' 4), .int .i64 (y' 5), .int .i64 (y' 6), .int .i64 (y' 7), .int .i64 (y' 8), .int .i64 (y' 9), .int .i64 (y' 10), .int .i64 (y' 11), .int .i64 (y' 12), .int .i64 (y' 13), .int .i64 (y' 14)], .int .i64 10] w6 fun e w' => e = .returned (.tuple #[.int .i64 103, .int .i64 0]) ∧ Below w6.heap.size w6 w') := by
    have h9 := kn_find w w6 D T2 n HN.out H6.out.1 HT.out H6.out.2.1
    rw [H6.out.2.2.2.2, HY2.out] at h9
    exact h9
  go_upto_region 7 with (go_at_call 21; refine HFi.out.mono ?_; rintro e w7 ⟨rfl, h1⟩; have H7 : Hid (Below w6.heap.size w6 w7) := h1; clear h1 HFi)
  have H8 : Hid (Spc w w7 D T2 n ∧ Kq D T2 n 104 y2k ν2k ∧ Bq w w7 D T2 G (.cells #[.int .i64 (n : Int), .int .i64 98, .int .i64 (gI n), .int .i64 (gD n), .int .i64 (gC n)] 29 (0, 0)) ∧ Bq w w7 D T2 Yb (.cells #[.int .i64 (y' 0), .int .i64 (y' 1), .int .i64 (y' 2), .int .i64 (y' 3), .int .i64 (y' 4), .int .i64 (y' 5), .int .i64 (y' 6), .int .i64 (y' 7), .int .i64 (y' 8), .int .i64 (y' 9), .int .i64 (y' 10), .int .i64 (y' 11), .int .i64 (y' 12), .int .i64 (y' 13), .int .i64 (y' 14)] 35 (0, 0)) ∧ T2.t = tt) := ⟨H6.out.1.on H7.out, H6.out.2.1, H6.out.2.2.1.on H7.out, H6.out.2.2.2.1.on H7.out, H6.out.2.2.2.2⟩
  clear z0 z1 z2 z3 z4 x0 x1 x2 x3 x4 x5 x6 x7 x8 x9 x10 x11 x12 x13 x14 H6 H7
  obtain ⟨z0, z1, z2, z3, z4⟩ := H8.out.2.2.1.c5.cells
  obtain ⟨x0, x1, x2, x3, x4, x5, x6, x7, x8, x9, x10, x11, x12, x13, x14⟩ := H8.out.2.2.2.1.c15
  have HAl : Hid (Calls Tryz.prog 17 #[.pointer (some ⟨tt, 0, none⟩), .agg #[.int .i64 (n : Int), .int .i64 98, .int .i64 (gI n), .int .i64 (gD n), .int .i64 (gC n)], .agg #[.int .i64 (y' 0), .int .i64 (y' 1), .int .i64 (y' 2), .int .i64 (y' 3), .int .i64 (y' 4), .int .i64 (y' 5), .int .i64 (y' 6), .int .i64 (y' 7), .int .i64 (y' 8), .int .i64 (y' 9), .int .i64 (y' 10), .int .i64 (y' 11), .int .i64 (y' 12), .int .i64 (y' 13), .int .i64 (y' 14)]] w7 fun e w' => ∃ g c g' c', e = .returned (.tuple #[.slice (some ⟨g, 0, none⟩) 2 c, .slice (some ⟨g', 0, none⟩) 1 c', .int .i64 0]) ∧ PrsAt w' (some ⟨g, 0, none⟩) 2 (fun i => if i = 0 then 0 else 10) (fun i => if i = 0 then 101 else 103) ∧ NumAt w' (some ⟨g', 0, none⟩) 1 (fun _ => 102) ∧ w7.heap.size ≤ g ∧ w7.heap.size ≤ g' ∧ Below w7.heap.size w7 w') := by
    have h9 := kn_all w w7 D T2 n H8.out.1 HT.out H8.out.2.1
    rw [H8.out.2.2.2.2, HY2.out] at h9
    exact h9
  go_upto_region 8 with (go_at_call 17; refine HAl.out.mono ?_; rintro e w8 ⟨g, c, g', c', rfl, h1⟩; have H9 : Hid (PrsAt w8 (some ⟨g, 0, none⟩) 2 (fun i => if i = 0 then 0 else 10) (fun i => if i = 0 then 101 else 103) ∧ NumAt w8 (some ⟨g', 0, none⟩) 1 (fun _ => 102) ∧ w7.heap.size ≤ g ∧ w7.heap.size ≤ g' ∧ Below w7.heap.size w7 w8) := h1; clear h1 HAl)
  have H10 : Hid (Spc w w8 D T2 n ∧ Kq D T2 n 104 y2k ν2k ∧ Bq w w8 D T2 G (.cells #[.int .i64 (n : Int), .int .i64 98, .int .i64 (gI n), .int .i64 (gD n), .int .i64 (gC n)] 29 (0, 0)) ∧ Bq w w8 D T2 Yb (.cells #[.int .i64 (y' 0), .int .i64 (y' 1), .int .i64 (y' 2), .int .i64 (y' 3), .int .i64 (y' 4), .int .i64 (y' 5), .int .i64 (y' 6), .int .i64 (y' 7), .int .i64 (y' 8), .int .i64 (y' 9), .int .i64 (y' 10), .int .i64 (y' 11), .int .i64 (y' 12), .int .i64 (y' 13), .int .i64 (y' 14)] 35 (0, 0)) ∧ T2.t = tt ∧ (PrsAt w8 (some ⟨g, 0, none⟩) 2 (fun i => if i = 0 then 0 else 10) (fun i => if i = 0 then 101 else 103) ∧ Out w w8 D T2 g) ∧ (NumAt w8 (some ⟨g', 0, none⟩) 1 (fun _ => 102) ∧ Out w w8 D T2 g')) := by
    obtain ⟨p1, p2, p3, p4, p5⟩ := H9.out
    exact ⟨H8.out.1.on p5, H8.out.2.1, H8.out.2.2.1.on p5, H8.out.2.2.2.1.on p5, H8.out.2.2.2.2, ⟨p1, Out.of H8.out.1 p3 p1.lt⟩, ⟨p2, Out.of H8.out.1 p4 p2.lt⟩⟩
  clear z0 z1 z2 z3 z4 x0 x1 x2 x3 x4 x5 x6 x7 x8 x9 x10 x11 x12 x13 x14 H8 H9
  obtain ⟨z0, z1, z2, z3, z4⟩ := H10.out.2.2.1.c5.cells
  obtain ⟨x0, x1, x2, x3, x4, x5, x6, x7, x8, x9, x10, x11, x12, x13, x14⟩ := H10.out.2.2.2.1.c15
  have HCu : Hid (Calls Tryz.prog 18 #[.pointer (some ⟨tt, 0, none⟩), .agg #[.int .i64 (n : Int), .int .i64 98, .int .i64 (gI n), .int .i64 (gD n), .int .i64 (gC n)], .agg #[.int .i64 (y' 0), .int .i64 (y' 1), .int .i64 (y' 2), .int .i64 (y' 3), .int .i64 (y' 4), .int .i64 (y' 5), .int .i64 (y' 6), .int .i64 (y' 7), .int .i64 (y' 8), .int .i64 (y' 9), .int .i64 (y' 10), .int .i64 (y' 11), .int .i64 (y' 12), .int .i64 (y' 13), .int .i64 (y' 14)], .int .i64 0] w8 fun e w' => ∃ T', e = .returned (.tuple #[.agg #[.int .i64 0, .int .i64 0, .int .i64 0, .int .i64 0, .int .i64 0, .int .i64 0, .int .i64 0, .int .i64 0, .int .i64 0, .int .i64 0, .int .i64 0, .int .i64 0, .int .i64 0, .int .i64 0, .int .i64 0], .int .i64 0]) ∧ Gon w w8 w' D T2 T' n (fun _ => False) ∧ ∀ b, fd (nD n) n (bmp D T') b = decide (101 ≤ b ∧ b < 128)) := by
    have h9 := kn_cut w w8 D T2 n HN.out H10.out.1 HT.out H10.out.2.1
    rw [H10.out.2.2.2.2.1, HY2.out] at h9
    exact h9
  go_upto_region 9 with (go_at_call 18; refine HCu.out.mono ?_; rintro e w9 ⟨T3, rfl, h1⟩; have H11 : Hid (Gon w w8 w9 D T2 T3 n (fun _ => False) ∧ ∀ b, fd (nD n) n (bmp D T3) b = decide (101 ≤ b ∧ b < 128)) := h1; clear h1 HCu)
  obtain ⟨Zb, hZb⟩ : ∃ Zb, w9.heap.size = Zb := ⟨_, rfl⟩
  obtain ⟨w10, hw10⟩ : ∃ w10, w9.alloc (.cells #[.int .i64 0, .int .i64 0, .int .i64 0, .int .i64 0, .int .i64 0, .int .i64 0, .int .i64 0, .int .i64 0, .int .i64 0, .int .i64 0, .int .i64 0, .int .i64 0, .int .i64 0, .int .i64 0, .int .i64 0] 35) = w10 := ⟨_, rfl⟩
  rw [hw10, hZb]
  have H12 : Hid (Spc w w10 D T3 n ∧ (∀ b, fd (nD n) n (bmp D T3) b = decide (101 ≤ b ∧ b < 128)) ∧ Bq w w10 D T3 G (.cells #[.int .i64 (n : Int), .int .i64 98, .int .i64 (gI n), .int .i64 (gD n), .int .i64 (gC n)] 29 (0, 0)) ∧ Bq w w10 D T3 Yb (.cells #[.int .i64 (y' 0), .int .i64 (y' 1), .int .i64 (y' 2), .int .i64 (y' 3), .int .i64 (y' 4), .int .i64 (y' 5), .int .i64 (y' 6), .int .i64 (y' 7), .int .i64 (y' 8), .int .i64 (y' 9), .int .i64 (y' 10), .int .i64 (y' 11), .int .i64 (y' 12), .int .i64 (y' 13), .int .i64 (y' 14)] 35 (0, 0)) ∧ Bq w w10 D T3 Zb (.cells #[.int .i64 0, .int .i64 0, .int .i64 0, .int .i64 0, .int .i64 0, .int .i64 0, .int .i64 0, .int .i64 0, .int .i64 0, .int .i64 0, .int .i64 0, .int .i64 0, .int .i64 0, .int .i64 0, .int .i64 0] 35 (0, 0)) ∧ T3.t = tt ∧ PrsAt w10 (some ⟨g, 0, none⟩) 2 (fun i => if i = 0 then 0 else 10) (fun i => if i = 0 then 101 else 103) ∧ NumAt w10 (some ⟨g', 0, none⟩) 1 (fun _ => 102)) := by
    obtain ⟨g1, k1⟩ := H11.out
    have hb : Below w9.heap.size w9 w10 := by rw [← hw10]; exact below_new _
    have hx := Bq.new g1.spc #[.int .i64 0, .int .i64 0, .int .i64 0, .int .i64 0, .int .i64 0, .int .i64 0, .int .i64 0, .int .i64 0, .int .i64 0, .int .i64 0, .int .i64 0, .int .i64 0, .int .i64 0, .int .i64 0, .int .i64 0] 35
    rw [hw10, hZb] at hx
    obtain ⟨q1, q2, q3, q4, q5, ⟨q6, q7⟩, ⟨q8, q9⟩⟩ := H10.out
    exact ⟨g1.spc.on hb, k1, (q3.gon g1).on hb, (q4.gon g1).on hb, hx, g1.mv.t.trans q5, (q6.gon g1 q7).on hb, (q8.gon g1 q9).on hb⟩
  clear hw10 hZb z0 z1 z2 z3 z4 x0 x1 x2 x3 x4 x5 x6 x7 x8 x9 x10 x11 x12 x13 x14 H10 H11
  obtain ⟨z0, z1, z2, z3, z4⟩ := H12.out.2.2.1.c5.cells
  have HFr : Hid (Calls Tryz.prog 14 #[.pointer (some ⟨tt, 0, none⟩), .agg #[.int .i64 (n : Int), .int .i64 98, .int .i64 (gI n), .int .i64 (gD n), .int .i64 (gC n)]] w10 fun e w' => e = .returned (.tuple #[.int .i64 27, .int .i64 0]) ∧ Below w10.heap.size w10 w') := by
    have h9 := kn_free w w10 D T3 n HN.out H12.out.1 H12.out.2.1
    rw [H12.out.2.2.2.2.2.1] at h9
    exact h9
  go_upto_region 10 with (go_at_call 14; refine HFr.out.mono ?_; rintro e w11 ⟨rfl, h1⟩; have H13 : Hid (Below w10.heap.size w10 w11) := h1; clear h1 HFr)
  have H14 : Hid (Below w.heap.size w w11 ∧ Bq w w11 D T3 Zb (.cells #[.int .i64 0, .int .i64 0, .int .i64 0, .int .i64 0, .int .i64 0, .int .i64 0, .int .i64 0, .int .i64 0, .int .i64 0, .int .i64 0, .int .i64 0, .int .i64 0, .int .i64 0, .int .i64 0, .int .i64 0] 35 (0, 0)) ∧ PrsAt w11 (some ⟨g, 0, none⟩) 2 (fun i => if i = 0 then 0 else 10) (fun i => if i = 0 then 101 else 103) ∧ NumAt w11 (some ⟨g', 0, none⟩) 1 (fun _ => 102)) :=
    ⟨H12.out.1.ses.bel.trans (H13.out.mono H12.out.1.ses.bel.size), H12.out.2.2.2.2.1.on H13.out, H12.out.2.2.2.2.2.2.1.on H13.out, H12.out.2.2.2.2.2.2.2.on H13.out⟩
  have X3 : w11.cell? ⟨Yb, 3, none⟩ = some (.int .i64 101) := by
    obtain ⟨x0, x1, x2, x3, x4, x5, x6, x7, x8, x9, x10, x11, x12, x13, x14⟩ := (H12.out.2.2.2.1.on H13.out).c15
    rw [x3, ← HY2.out]; rfl
  have X13 : w11.cell? ⟨Yb, 13, none⟩ = some (.int .i64 102) := by
    obtain ⟨x0, x1, x2, x3, x4, x5, x6, x7, x8, x9, x10, x11, x12, x13, x14⟩ := (H12.out.2.2.2.1.on H13.out).c15
    rw [x13, ← HY2.out]; rfl
  clear z0 z1 z2 z3 z4 H12 H13
  go_upto_region 12 with (go_at_call 13; refine (HNu.out _).mono ?_; rintro e wq ⟨rfl, rfl⟩)
  have HE : ∀ wx, (binOp .eql 35 (.agg #[.int .i64 0, .int .i64 0, .int .i64 0, .int .i64 0, .int .i64 0, .int .i64 0, .int .i64 0, .int .i64 0, .int .i64 0, .int .i64 0, .int .i64 0, .int .i64 0, .int .i64 0, .int .i64 0, .int .i64 0]) (.agg #[.int .i64 0, .int .i64 0, .int .i64 0, .int .i64 0, .int .i64 0, .int .i64 0, .int .i64 0, .int .i64 0, .int .i64 0, .int .i64 0, .int .i64 0, .int .i64 0, .int .i64 0, .int .i64 0, .int .i64 0])).run Tryz.prog wx = .ok (.bool true) wx := fun wx => (eqlI wx (fun _ => 0) (fun _ => 0)).trans (by rw [smB_iff.2 (fun _ _ => rfl)])
  have HSp : Hid (Calls Tryz.prog 20 #[.slice (some ⟨g, 0, none⟩) 2 c, .slice (some ⟨w11.heap.size, 0, none⟩) 2 2] (w11.alloc (.cells #[.int .i64 0, .int .i64 101, .int .i64 10, .int .i64 103] 57)) fun e w' => e = .returned (.bool true) ∧ Below w11.heap.size w11 w') := by
    have hb : Below w11.heap.size w11 (w11.alloc (.cells #[.int .i64 0, .int .i64 101, .int .i64 10, .int .i64 103] 57)) := below_new _
    refine (samePQ _ _ _ 2 c 2 (fun i => if i = 0 then 0 else 10) (fun i => if i = 0 then 101 else 103) (H14.out.2.2.1.on hb) (.inr ⟨_, 0, rfl, fun i hi => ?_⟩) (by omega)).mono ?_
    · have hc := fun j => cell_of_row _ _ j _ _ _ (heap_alloc_new w11 (.cells #[.int .i64 0, .int .i64 101, .int .i64 10, .int .i64 103] 57))
      rcases (show i = 0 ∨ i = 1 by omega) with rfl | rfl
      · exact ⟨hc 0, hc 1⟩
      · exact ⟨hc 2, hc 3⟩
    · rintro e w' ⟨rfl, h1⟩
      exact ⟨rfl, hb.trans (h1.mono hb.size)⟩
  have HSn : Hid (∀ w12, Below w11.heap.size w11 w12 → Calls Tryz.prog 19 #[.slice (some ⟨g', 0, none⟩) 1 c', .slice (some ⟨w12.heap.size, 0, none⟩) 1 1] (w12.alloc (.cells #[.int .i64 102] 3)) fun e w' => e = .returned (.bool true) ∧ Below w11.heap.size w11 w') := by
    intro w12 h12
    have hb : Below w12.heap.size w12 (w12.alloc (.cells #[.int .i64 102] 3)) := below_new _
    refine (sameQ _ _ _ 1 c' 1 (fun _ => 102) ((H14.out.2.2.2.on h12).on hb) (.inr ⟨_, 0, rfl, fun i hi => ?_⟩) (by omega)).mono ?_
    · rcases (show i = 0 by omega) with rfl
      exact cell_of_row _ _ 0 _ _ _ (heap_alloc_new w12 (.cells #[.int .i64 102] 3))
    · rintro e w' ⟨rfl, h1⟩
      exact ⟨rfl, h12.trans ((hb.trans (h1.mono hb.size)).mono h12.size)⟩
  go_wp2_with (first
    | (go_at_call 20; refine HSp.out.mono ?_; rintro e w12 ⟨rfl, h1⟩; have H15 : Hid (Below w11.heap.size w11 w12) := h1; clear h1)
    | (go_at_call 19; refine (HSn.out _ H15.out).mono ?_; rintro e w13 ⟨rfl, h1⟩; have H16 : Hid (Below w11.heap.size w11 w13) := h1; clear h1; obtain ⟨x0, x1, x2, x3, x4, x5, x6, x7, x8, x9, x10, x11, x12, x13, x14⟩ := (H14.out.2.1.on H16.out).c15 (y := fun _ => 0)))
  go_ret
  exact ⟨rfl, H14.out.1.trans (H16.out.mono H14.out.1.size)⟩
end Go.Proofs.YtjmdjagfekloaaaGreatDoor

namespace Go.Proofs.YtjmdjagfekloaaaGreatDoor
open Go.RowKit Go.Maps Rec

theorem pigeon : ∀ (r : Nat) (f : Nat → Nat) (L : List Nat), (∀ i, i < r → f i ∈ L) → (∀ i j, i < j → j < r → f i ≠ f j) → r ≤ L.length
  | 0, _, _, _, _ => Nat.zero_le _
  | r + 1, f, L, h, hi => by
    have hm := h r (by omega)
    have := pigeon r f (L.erase (f r)) (fun i hlt => (List.mem_erase_of_ne (hi i r hlt (by omega))).2 (h i (by omega))) (fun i j h1 h2 => hi i j h1 (by omega))
    rw [List.length_erase_of_mem hm] at this
    have := List.length_pos_of_mem hm
    omega
theorem cop751 : ∀ d, d < 200 → 0 < d → Nat.Coprime 751 d := by decide +kernel
/-- the indices of two hundred rounds are apart -/
theorem ix_apart (k0 s i j : Nat) (hs : 0 < s) (hs3 : s ≤ 300) (hij : i < j) (hj : j < 200) : (k0 + i * s) % 16522 ≠ (k0 + j * s) % 16522 := fun e => by
  have h1 : 16522 ∣ (j - i) * s := by
    have : (k0 + j * s) - (k0 + i * s) = (j - i) * s := by rw [Nat.sub_mul]; omega
    rw [← this]
    exact Nat.dvd_of_mod_eq_zero (Nat.sub_mod_eq_zero_of_mod_eq e.symm)
  have h2 : 751 ∣ (j - i) * s := Nat.dvd_trans ⟨22, rfl⟩ h1
  have h3 := (cop751 (j - i) (by omega) (by omega)).dvd_of_dvd_mul_left h2
  have := Nat.le_of_dvd hs h3
  omega
theorem ix_next (k0 s r : Nat) : ((k0 + r * s) % 16522 + s) % 16522 = (k0 + (r + 1) * s) % 16522 := by
  rw [Nat.mod_add_mod, Nat.add_mul, Nat.one_mul, Nat.add_assoc]
theorem lst_len (c : Cm) (n : Nat) : (lst c n).length = ((List.range n).filter fun i => (c i).isSome).length := by
  unfold lst
  rw [List.length_filterMap_eq_countP, List.countP_eq_length_filter]
/-- BmapFull's record behind r rounds -/
structure FuI (D : Dk) (T : Tx) (n s k0 r : Nat) (x : Nat → Int) (ν : Nat → Nat) : Prop where
  wd : Wd D T n x ν
  us : T.us.length ≤ 9 * r
  inn : ∀ q, ν q ≠ 0 → (T.c (ν q)).isSome = true
  giv : ∀ j, j < r → ν (ixP ((k0 + j * s) % 16522)) ≠ 0
theorem FuI.step {w0 w w' : World} {D : Dk} {T T' : Tx} {n s k0 r N : Nat} {x : Nat → Int} {ν ν' : Nat → Nat} (h : FuI D T n s k0 r x ν) (a : AdP D T T' n ((k0 + r * s) % 16522) x ν ν' N) (g : Gon w0 w w' D T T' n (fun _ => False)) : FuI D T' n s k0 (r + 1) (withN x ν') ν' := by
  obtain ⟨m, hm, hm9⟩ := a.ext
  have hu := h.us
  refine ⟨a.wd, by rw [hm.us]; omega, fun q hq => ?_, fun j hj => ?_⟩
  · by_cases e : ν' q = ν q
    · rw [e]; exact g.dom _ (h.inn q (by rw [← e]; exact hq))
    · exact (a.inn q e).1
  · by_cases e : j = r
    · subst e; rw [a.nE]; exact a.N0
    · have h1 := h.giv j (by omega)
      rcases a.tks.fresh (ixP ((k0 + j * s) % 16522)) with e2 | e2
      · rw [e2]; exact h1
      · exact absurd e2.1 h1
theorem FuI.few {D : Dk} {T : Tx} {n s k0 r : Nat} {x : Nat → Int} {ν : Nat → Nat} (h : FuI D T n s k0 r x ν) (hs : 0 < s) (hs3 : s ≤ 300) (hr : r ≤ 200) (hl : (lst T.c n).length ≤ 96) : r ≤ 96 := by
  rw [lst_len] at hl
  refine Nat.le_trans (pigeon r (fun j => ν (ixP ((k0 + j * s) % 16522))) ((List.range n).filter fun i => (T.c i).isSome) (fun i hi => ?_) (fun i j h1 h2 e => ?_)) hl
  · have h0 := h.giv i hi
    exact List.mem_filter.2 ⟨List.mem_range.2 (h.wd.own.good _ h0).2.1, h.inn _ h0⟩
  · exact ix_apart k0 s i j hs hs3 h1 (by omega) (ixP_inj (h.wd.own.inj _ _ (h.giv i (by omega)) e))
/-- for want of a block: fewer than four are free -/
theorem adz_few {T : Tx} {n k : Nat} {ν0 : Nat → Nat} {F0 : Nat → Bool} {z : Nat} (h : AdZ T n k ν0 F0 z) (hF : ∀ b, F0 b = true → b < n) : (z = 60 ∨ z = 90) ∧ (z = 90 → ct F0 n < 4) := by
  rcases h with ⟨e, _⟩ | ⟨e, L, p, ν, F, h1, h2, h3, h4⟩
  · exact ⟨.inl e, fun e2 => by omega⟩
  · have := (h2.count (n := n) hF).2
    have := pre_len h1
    exact ⟨.inr e, fun _ => by omega⟩
end Go.Proofs.YtjmdjagfekloaaaGreatDoor
