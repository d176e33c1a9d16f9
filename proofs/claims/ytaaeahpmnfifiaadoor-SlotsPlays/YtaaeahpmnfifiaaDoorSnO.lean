import Derived.Test.YtaaeahpmnfifiaaDoorSnL
namespace Go.Proofs.YtaaeahpmnfifiaaDoor
open Go.RowKit Rec Sc
/-- the lowest free one of the last n -/
def lwR (f : Nat → Option Ent) : Nat → Int
  | 0 => -1
  | n + 1 => if f (15 - n) = none then ((15 - n : Nat) : Int) else lwR f n
theorem lwR_spec (f : Nat → Option Ent) : ∀ n, n ≤ 16 → (∃ k, 16 - n ≤ k ∧ k < 16 ∧ f k = none ∧ lwR f n = (k : Int) ∧ ∀ j, 16 - n ≤ j → j < k → f j ≠ none) ∨ (lwR f n = -1 ∧ ∀ j, 16 - n ≤ j → j < 16 → f j ≠ none)
  | 0, _ => .inr ⟨rfl, fun j h1 h2 => absurd h1 (by omega)⟩
  | n + 1, hn => by
    rw [lwR]
    by_cases h : f (15 - n) = none
    · rw [if_pos h]
      exact .inl ⟨15 - n, by omega, by omega, h, rfl, fun j h1 h2 => absurd h1 (by omega)⟩
    · rw [if_neg h]
      rcases lwR_spec f n (by omega) with ⟨k, h1, h2, h3, h4, h5⟩ | ⟨h1, h2⟩
      · refine .inl ⟨k, by omega, h2, h3, h4, fun j h6 h7 => ?_⟩
        by_cases e : j = 15 - n
        · subst e; exact h
        · exact h5 j (by omega) h7
      · refine .inr ⟨h1, fun j h6 h7 => ?_⟩
        by_cases e : j = 15 - n
        · subst e; exact h
        · exact h2 j (by omega) h7
theorem vL_at (f : Nat → Option Ent) {k : Nat} (hk : k < 16) : (vL f)[k]? = some (vE f k) := by simp [vL, hk]
theorem vL_len (f : Nat → Option Ent) : (vL f).length = 16 := by simp [vL]
theorem vE_fr {f : Nat → Option Ent} {k : Nat} (h : ∀ e, f k = some e → Sc.good e) : fr (vE f k) = decide (f k = none) := by
  unfold fr vE
  cases e : f k with
  | none => simp
  | some x => have := (h x e).2.1; simp; omega
theorem low_eq {L : List Int} {f : Nat → Option Ent} (h : Bk L f) : lwR f 16 = fi (vL f) := by
  rcases lwR_spec f 16 (Nat.le_refl _) with ⟨k, _, h2, h3, h4, h5⟩ | ⟨h1, h2⟩
  · rw [h4]
    refine ((fr_at (vL_at f h2) (fun j q hj hq => ?_) ?_).1).symm
    · rw [vL_at f (by omega)] at hq
      cases hq
      rw [vE_fr (h.ok j (by omega))]
      exact decide_eq_false (h5 j (by omega) hj)
    · rw [vE_fr (h.ok k h2), h3]; rfl
  · rw [h1]
    refine ((fr_no (fun j q hj hq => ?_)).1).symm
    rw [vL_len] at hj
    rw [vL_at f hj] at hq
    cases hq
    rw [vE_fr (h.ok j hj)]
    exact decide_eq_false (h2 j (by omega) hj)
/-- the cells from m on -/
def fm (f : Nat → Option Ent) (m k : Nat) : Option Ent := if m ≤ k then f k else none
/-- behind n rounds of the second loop -/
structure S2 (w wr : World) (g h q : Nat) (f : Nat → Option Ent) (m : Nat) : Prop where
  sb : SbI w wr g h f
  ot : ∃ M, OwnB wr q 512 M ∧ Bk M (fm f m)
  q0 : w.heap.size ≤ q
  qg : q ≠ g
  qh : q ≠ h
theorem fm_ext (f : Nat → Option Ent) (k : Nat) {M : List Int} (hM : Bk M (upd (fm f (k + 1)) k (f k))) : Bk M (fm f k) := by
  have e : upd (fm f (k + 1)) k (f k) = fm f k := by
    funext j
    unfold upd fm
    by_cases h : j = k
    · subst h; rw [if_pos rfl, if_pos (Nat.le_refl _)]
    · rw [if_neg h]
      by_cases h2 : k ≤ j
      · rw [if_pos (by omega), if_pos h2]
      · rw [if_neg (by omega), if_neg h2]
  rw [← e]; exact hM
theorem S2.free {w wr : World} {g h q : Nat} {f : Nat → Option Ent} {k : Nat} (H : S2 w wr g h q f (k + 1)) (hk : f k = none) : S2 w wr g h q f k := by
  obtain ⟨M, h1, h2⟩ := H.ot
  refine ⟨H.sb, ⟨M, h1, fm_ext f k ?_⟩, H.q0, H.qg, H.qh⟩
  have e : upd (fm f (k + 1)) k (f k) = fm f (k + 1) := by
    funext j
    unfold upd fm
    by_cases h : j = k
    · subst h; rw [if_pos rfl, if_neg (by omega), hk]
    · rw [if_neg h]
  rw [e]; exact h2
theorem S2.put {w wr : World} {g h q : Nat} {f : Nat → Option Ent} {k : Nat} (H : S2 w wr g h q f (k + 1)) (hT : TabAt w) (e : Ent) (hk : k < 16) (he : f k = some e) :
    Calls Tryd.prog 10 #[.slice (some ⟨q, 0, none⟩) 512 512, eV k e.nm e.ino] wr fun r w' => r = .returned (.int .i64 0) ∧ S2 w w' g h q f k := by
  obtain ⟨M, h1, h2⟩ := H.ot
  obtain ⟨L, h3, h4⟩ := H.sb.own
  have hq0 : q ≠ 0 := by have := H.q0; have := hT.size; omega
  have hgd := h4.ok k hk e he
  refine (sput_ok wr q 512 512 M k e hk h1 (by rw [h2.len]; omega) (by omega) (hT.on H.sb.bel) hq0 hgd).mono ?_
  rintro r w' ⟨rfl, o1, o2⟩
  refine ⟨rfl, ⟨⟨H.sb.bel.grown o2 H.sb.bel.size (fun j e => by cases e; exact H.q0), ⟨L, h3.grown o2 (fun e => H.qg (by cases e; rfl)), h4⟩, H.sb.hv.keep (o2.block h (heap_lt H.sb.hv.row) (fun e => H.qh (by cases e; rfl))), H.sb.g0, H.sb.h0, H.sb.ne⟩, ⟨_, o1, fm_ext f k ?_⟩, H.q0, H.qg, H.qh⟩⟩
  rw [he]
  exact h2.set hk (o := some e) (fun e' h => by cases h; exact hgd)
theorem S2.cells {w wr : World} {g h q : Nat} {f : Nat → Option Ent} {m : Nat} (H : S2 w wr g h q f m) {k : Nat} (hk : k < 16) : wr.cell? ⟨h, k * 3, none⟩ = some (.int .i64 (hvE f k).1) ∧ wr.cell? ⟨h, k * 3 + 1, none⟩ = some (.string (hvE f k).2.1) ∧ wr.cell? ⟨h, k * 3 + 2, none⟩ = some (.int .i64 (hvE f k).2.2) := H.sb.hv.cell (hvL_at f hk)
theorem S2.start {w wr : World} {g h : Nat} {f : Nat → Option Ent} {o : Obj} (hO : ∀ w : World, OwnB (w.alloc o) w.heap.size 512 z512) (H : SbI w wr g h f) : S2 w (wr.alloc o) g h wr.heap.size f 16 := by
  have h1 : Below wr.heap.size wr (wr.alloc o) := (Below.refl _ _).alloc (Nat.le_refl _) _
  obtain ⟨L, h3, h4⟩ := H.own
  refine ⟨H.on h1, ⟨z512, hO wr, ?_⟩, H.bel.size, by have := h3.lt; omega, by have := heap_lt H.hv.row; omega⟩
  refine ⟨Bk.zero.len, fun k hk e he => ?_, fun k hk i hi => ?_⟩
  · rw [fm, if_neg (by omega)] at he; cases he
  · rw [fm, if_neg (by omega)]; exact Bk.zero.at_ k hk i hi
theorem S2.on {w wr wx : World} {g h q : Nat} {f : Nat → Option Ent} {m : Nat} (H : S2 w wr g h q f m) (hb : Below wr.heap.size wr wx) : S2 w wx g h q f m := by
  obtain ⟨M, h1, h2⟩ := H.ot
  exact ⟨H.sb.on hb, ⟨M, h1.on hb, h2⟩, H.q0, H.qg, H.qh⟩
/-- what is wanted of the first k -/
def wn (f : Nat → Option Ent) (k : Nat) : List ET := ((List.range k).map (vE f)).filter tk
theorem wn_16 (f : Nat → Option Ent) : wn f 16 = (vL f).filter tk := rfl
theorem wn_none {f : Nat → Option Ent} {k : Nat} (h : f k = none) : wn f (k + 1) = wn f k := by
  rw [wn, wn, List.range_succ, List.map_append, List.filter_append]
  simp [vE, h, tk, fr]
theorem wn_some {f : Nat → Option Ent} {k : Nat} {e : Ent} (h : f k = some e) (hg : Sc.good e) : wn f (k + 1) = wn f k ++ [((k : Int), e.nm, e.ino)] := by
  rw [wn, wn, List.range_succ, List.map_append, List.filter_append]
  have := hg.2.1
  have h0 : ¬ e.ino = 0 := by omega
  simp [vE, h, tk, fr, h0]
theorem wn_len (f : Nat → Option Ent) (k : Nat) : (wn f k).length ≤ k := by
  have := List.length_filter_le tk ((List.range k).map (vE f))
  rw [wn]; simpa using this
/-- behind k rounds of the third loop -/
structure S3 (w wr : World) (g h q : Nat) (f : Nat → Option Ent) (v : Value) (k B : Nat) : Prop where
  s2 : S2 w wr g h q f 0
  row : RowE B wr v (wn f k)
  B0 : w.heap.size ≤ B
  gB : g < B
  hB : h < B
  qB : q < B
theorem S3.app {w wr wx w' : World} {g h q : Nat} {f : Nat → Option Ent} {v : Value} {k B b cap : Nat} {e : Ent} (H : S3 w wr g h q f v k B) (hBw : B ≤ wr.heap.size) (hb : Below wr.heap.size wr wx) (h1 : OwnE w' b cap (wn f k ++ [((k : Int), e.nm, e.ino)])) (h2 : Fr (fun k => v.ownBlock = some k) wx w') (h3 : v.ownBlock = some b ∨ wx.heap.size ≤ b) (hk : k < 16) (he : f k = some e) :
    S3 w w' g h q f (.slice (some ⟨b, 0, none⟩) (wn f (k + 1)).length cap) (k + 1) B ∧ B ≤ w'.heap.size := by
  have Hx := H.s2.on hb
  obtain ⟨L, o1, o2⟩ := Hx.sb.own
  obtain ⟨M, p1, p2⟩ := Hx.ot
  have hx := hb.size
  have hbel : Below B wx w' := h2.below _ (fun k hk => H.row.far k hk) (by omega)
  have gB := H.gB
  have hB := H.hB
  have qB := H.qB
  have B0 := H.B0
  refine ⟨⟨⟨⟨Hx.sb.bel.trans (hbel.mono (by omega)), ⟨L, o1.below hbel gB, o2⟩, Hx.sb.hv.keep (hbel.block h hB), Hx.sb.g0, Hx.sb.h0, Hx.sb.ne⟩, ⟨M, p1.below hbel qB, p2⟩, Hx.q0, Hx.qg, Hx.qh⟩, ?_, B0, gB, hB, qB⟩, by have := hbel.size; omega⟩
  rw [wn_some he (o2.ok k hk e he)]
  exact RowE.own h1 (by
    rcases h3 with e | e
    · exact H.row.far b e
    · omega)
theorem RowE.form {B : Nat} {w : World} {v : Value} {xs : List ET} (h : RowE B w v xs) : ∃ a c, v = .slice a xs.length c ∧ EntAt w a xs := by
  rcases h.row.2 with ⟨e1, e2⟩ | ⟨g, cap, cur, rfl, _, h1, h2, h3, h4, h5⟩
  · have : xs = [] := List.length_eq_zero_iff.1 e2
    exact ⟨none, 0, by rw [e1, e2], .inl this⟩
  · exact ⟨_, cap, rfl, (OwnE.ents ⟨⟨cur, h1, h4, h5⟩, h2, h3⟩)⟩
set_option maxRecDepth 100000 in
set_option maxHeartbeats 8000000 in
theorem back_any (w : World) (la ga : Option Addr) (lc gc : Nat) (LC : List CT) (LG : List Int) (hC : CelAt w la LC) (hG : IntAt w ga LG) (hLC : LC.length ≤ 9223372036854775806) (hT : TabAt w) :
    Calls Tryd.prog 3 #[.slice la LC.length lc, .slice ga LG.length gc] w fun e w' => e = .returned (.bool true) ∧ Below w.heap.size w w' := by
  obtain ⟨o, E, hO⟩ := make512
  have HO : Hid (∀ w : World, OwnB (w.alloc o) w.heap.size 512 z512) := hO
  have HF := sfixed_any w hT
  have HT : Hid (TabAt w) := hT
  have HCe : Hid (CelAt w la LC) := hC
  have HGe : Hid (IntAt w ga LG) := hG
  have HM : Hid (∀ (wx : World) (v : Int), Calls Tryd.prog 11 #[.int .i64 v, .int .i64 32] wx fun e w' => e = .returned (.int .i64 (v % 32)) ∧ wx = w') := fun wx v => modI_any wx v 32 (by omega) (by omega)
  clear hO hT hC hG
  go_enter Tryd.func3, Tryd.ntmps3
  go_upto_block 0 with (first
    | (go_at_call 8; refine HF.mono ?_; rintro e w1 ⟨rfl, hb1⟩; have HB1 : Hid (Below w.heap.size w w1) := hb1; clear hb1))
  clear HF
  obtain ⟨w2, hw2⟩ : ∃ w2, ((w1.alloc o).alloc (.cells #[.int .i64 0, .string ⟨#[]⟩, .int .i64 0, .int .i64 0, .string ⟨#[]⟩, .int .i64 0, .int .i64 0, .string ⟨#[]⟩, .int .i64 0, .int .i64 0, .string ⟨#[]⟩, .int .i64 0, .int .i64 0, .string ⟨#[]⟩, .int .i64 0, .int .i64 0, .string ⟨#[]⟩, .int .i64 0, .int .i64 0, .string ⟨#[]⟩, .int .i64 0, .int .i64 0, .string ⟨#[]⟩, .int .i64 0, .int .i64 0, .string ⟨#[]⟩, .int .i64 0, .int .i64 0, .string ⟨#[]⟩, .int .i64 0, .int .i64 0, .string ⟨#[]⟩, .int .i64 0, .int .i64 0, .string ⟨#[]⟩, .int .i64 0, .int .i64 0, .string ⟨#[]⟩, .int .i64 0, .int .i64 0, .string ⟨#[]⟩, .int .i64 0, .int .i64 0, .string ⟨#[]⟩, .int .i64 0, .int .i64 0, .string ⟨#[]⟩, .int .i64 0] 28)) = w2 := ⟨_, rfl⟩
  obtain ⟨g, hg⟩ : ∃ g, w1.heap.size = g := ⟨_, rfl⟩
  have HS0 : Hid (SbI w w2 g (g + 1) (fun _ => none)) := by rw [← hw2, ← hg]; exact SbI.start HO.out HB1.out
  rw [hw2, hg]
  clear hw2 hg HB1
  generalize g + 1 = h at HS0 ⊢
  go_cut [] (fun wx => ∃ f, SbI w wx g h f)
  case first => as_aux_lemma =>
    go_wp2
    go_loopw [7] (fun i wr => ∃ (k : Nat) (f : Nat → Option Ent), k ≤ LC.length ∧ i = .int .i64 k ∧ SbI w wr g h f) (fun i _ => LC.length - (intOf i).toNat)
    case atStart => exact ⟨0, _, Nat.zero_le _, rfl, HS0.out⟩
    case round =>
      obtain ⟨k, f, hk, rfl, hI⟩ := hrel
      have HI : Hid (SbI w wr g h f) := hI
      clear hI HS0
      by_cases hlt : k < LC.length
      · have hlt' : (k : Int) < (LC.length : Int) := by omega
        obtain ⟨b, off, c, rfl, hcs, c0, c1, c2, c3⟩ := HCe.out.at hlt HI.out.bel
        obtain ⟨p, hp⟩ : ∃ p : Nat, c.1 % 16 = p := ⟨(c.1 % 16).toNat, by omega⟩
        have hp16 : p < 16 := by omega
        obtain ⟨i, hi⟩ : ∃ i : Int, 1 + c.2.1 % 4294967295 = i := ⟨_, rfl⟩
        have HEn : Hid (Calls Tryd.prog 9 #[.agg #[.int .i64 c.1, .int .i64 c.2.1, .int .i64 c.2.2.1, .string c.2.2.2]] wr fun e w' => ∃ nm, e = .returned (.agg #[.int .i64 (p : Int), .string nm, .int .i64 i]) ∧ Sc.good ⟨nm, i⟩ ∧ Below wr.heap.size wr w') := by
          refine (centry_any wr c.1 c.2.1 c.2.2.1 c.2.2.2 hcs).mono ?_
          rintro e w' ⟨⟨nm, h1, h2⟩, h3⟩
          rw [hp, hi] at h1
          exact ⟨nm, h1, ⟨h2, by show 1 ≤ i; omega, by show i ≤ 4294967295; omega⟩, h3⟩
        have hgl : g < wr.heap.size := by obtain ⟨L, h1, _⟩ := HI.out.own; exact h1.lt
        clear hp hi hcs
        go_upto_region 12 with (first
          | (go_at_call 9; refine HEn.out.mono ?_; rintro e w3 ⟨nm, rfl, hg3, hb3⟩
             have HG3 : Hid (Sc.good ⟨nm, i⟩) := hg3
             have HB3 : Hid (Below wr.heap.size wr w3) := hb3
             have hs3 : g < w3.heap.size := Nat.lt_of_lt_of_le hgl hb3.size
             clear hg3 hb3)
          | (go_at_call 10
             refine (SbI.put (f := f) (h := h) (w := w) (HI.out.on (HB3.out.trans ((Below.refl _ _).alloc HB3.out.size (.cells #[.int .i64 (p : Int), .string nm, .int .i64 i] 27)))) HT.out p ⟨nm, i⟩ hp16 HG3.out).mono ?_
             rintro r w5 ⟨rfl, h5, h6⟩
             have H5 : Hid (SbH w w5 g h f (upd f p (some ⟨nm, i⟩))) := h5
             have x0 : w5.cell? ⟨w3.heap.size, 0, none⟩ = some (.int .i64 (p : Int)) := h6.cell (cell_of_row _ _ 0 _ _ _ (heap_alloc_new _ _)) (by simp; omega)
             have x1 : w5.cell? ⟨w3.heap.size, 1, none⟩ = some (.string nm) := h6.cell (cell_of_row _ _ 1 _ _ _ (heap_alloc_new _ _)) (by simp; omega)
             have x2 : w5.cell? ⟨w3.heap.size, 2, none⟩ = some (.int .i64 i) := h6.cell (cell_of_row _ _ 2 _ _ _ (heap_alloc_new _ _)) (by simp; omega)
             obtain ⟨q, ⟨y0, y1, y2⟩, z0, z1, z2⟩ := h5.cells hp16
             clear h5 h6))
        obtain ⟨w6, hw6⟩ : ∃ w6, (((w5.setCell ⟨h, p * 3, none⟩ (.int .i64 (p : Int))).setCell ⟨h, p * 3 + 1, none⟩ (.string nm)).setCell ⟨h, p * 3 + 2, none⟩ (.int .i64 i)) = w6 := ⟨_, rfl⟩
        have H6 : Hid (SbI w w6 g h (upd f p (some ⟨nm, i⟩))) := by
          rw [← hw6]
          exact H5.out.note ((p : Int), nm, i) (by simp [hvE, upd])
        rw [hw6]
        clear hw6 x0 x1 x2 y0 y1 y2 z0 z1 z2 H5 HB3 HG3 hs3 HEn hgl c0 c1 c2 c3
        generalize upd f p (some ⟨nm, i⟩) = f6 at H6
        by_cases hlt2 : k < LG.length
        · have hlt2' : (k : Int) < (LG.length : Int) := by omega
          obtain ⟨b2, off2, v, rfl, v0⟩ := HGe.out.at hlt2 H6.out.bel
          obtain ⟨kk, hkk⟩ : ∃ kk : Nat, v % 32 = kk := ⟨(v % 32).toNat, by omega⟩
          have HMv : Hid (Calls Tryd.prog 11 #[.int .i64 v, .int .i64 32] w6 fun e w' => e = .returned (.int .i64 (kk : Int)) ∧ w6 = w') := by
            rw [← hkk]; exact HM.out w6 v
          clear hkk
          by_cases h16 : kk < 16
          · have h16' : (kk : Int) < 16 := by omega
            go_wp2_with (first
              | (go_at_call 11; refine HMv.out.mono ?_; rintro e w' ⟨rfl, rfl⟩)
              | (go_at_call 12; refine (H6.out.clr kk h16).mono ?_; rintro r w7 ⟨rfl, h7⟩
                 have H7 : Hid (SbH w w7 g h f6 (upd f6 kk none)) := h7
                 obtain ⟨q2, ⟨y0, y1, y2⟩, z0, z1, z2⟩ := h7.cells h16
                 clear h7))
            go_roundw
            case rel =>
              first
                | exact ⟨k + 1, _, by omega, by go_num, H7.out.note (0, ⟨#[]⟩, 0) (by simp [hvE, upd])⟩
                | ((repeat apply Exists.intro)
                   refine ⟨?_, rfl⟩
                   exact ⟨k + 1, _, by omega, by go_num, H7.out.note (0, ⟨#[]⟩, 0) (by simp [hvE, upd])⟩)
            case measure => simp [intOf]; omega
          · have h16' : ¬ (kk : Int) < 16 := by omega
            go_wp2_with (first
              | (go_at_call 11; refine HMv.out.mono ?_; rintro e w' ⟨rfl, rfl⟩))
            go_roundw
            case rel =>
              first
                | exact ⟨k + 1, _, by omega, by go_num, H6.out⟩
                | ((repeat apply Exists.intro)
                   refine ⟨?_, rfl⟩
                   exact ⟨k + 1, _, by omega, by go_num, H6.out⟩)
            case measure => simp [intOf]; omega
        · have hlt2' : ¬ (k : Int) < (LG.length : Int) := by omega
          go_wp2
          go_roundw
          case rel =>
            first
              | exact ⟨k + 1, _, by omega, by go_num, H6.out⟩
              | ((repeat apply Exists.intro)
                 refine ⟨?_, rfl⟩
                 exact ⟨k + 1, _, by omega, by go_num, H6.out⟩)
          case measure => simp [intOf]; omega
      · have hlt' : ¬ (k : Int) < (LC.length : Int) := by omega
        go_wp2
        go_meet
        exact ⟨f, HI.out⟩
  case rest =>
    obtain ⟨f, hI⟩ := hcut
    have HI : Hid (SbI w wc g h f) := hI
    clear hI HS0
    go_upto_block 2 with fail
    obtain ⟨q, hq⟩ : ∃ q, wc.heap.size = q := ⟨_, rfl⟩
    obtain ⟨w8, hw8⟩ : ∃ w8, wc.alloc o = w8 := ⟨_, rfl⟩
    have H2 : Hid (S2 w w8 g h q f 16) := by rw [← hw8, ← hq]; exact S2.start HO.out HI.out
    rw [hw8, hq]
    clear hw8 hq HI
    go_cut [11] (fun s11 wx => s11 = .int .i64 (fi (vL f)) ∧ S2 w wx g h q f 0)
    case first => as_aux_lemma =>
      go_wp2
      go_loopw [11, 13] (fun s11 s13 wr => ∃ n : Nat, n ≤ 16 ∧ s13 = .int .i64 (15 - (n : Int)) ∧ s11 = .int .i64 (lwR f n) ∧ S2 w wr g h q f (16 - n)) (fun _ s13 _ => (intOf s13 + 1).toNat)
      case atStart => exact ⟨0, Nat.zero_le _, rfl, rfl, H2.out⟩
      case round =>
        obtain ⟨n, hn, rfl, rfl, hI⟩ := hrel
        have HI : Hid (S2 w wr g h q f (16 - n)) := hI
        clear hI H2
        by_cases hlt : n < 16
        · obtain ⟨k, hk⟩ : ∃ k, 15 - n = k := ⟨_, rfl⟩
          have hkI : (15 : Int) - (n : Int) = (k : Int) := by omega
          have hk16 : k < 16 := by omega
          have hIk : Hid (S2 w wr g h q f (k + 1)) := by rw [← hk, show 15 - n + 1 = 16 - n by omega]; exact HI.out
          obtain ⟨c0, c1, c2⟩ := hIk.out.cells hk16
          have HL : Hid (lwR f (n + 1) = if f k = none then (k : Int) else lwR f n) := by rw [← hk]; rfl
          have hnk : 16 - (n + 1) = k := by omega
          have HKn : Hid ((k : Int) = 15 - (n : Int)) := hkI.symm
          rw [hkI]
          cases hf : f k with
          | none =>
            have hv : hvE f k = (0, ⟨#[]⟩, 0) := by simp [hvE, hf]
            rw [hv] at c0 c1 c2
            have HR : Hid (lwR f (n + 1) = (k : Int) ∧ S2 w wr g h q f (16 - (n + 1))) := ⟨by rw [HL.out, if_pos hf], by rw [hnk]; exact hIk.out.free hf⟩
            clear HL hk hkI hnk hv hf HI
            go_wp2
            refine ⟨⟨n + 1, by omega, by rw [HKn.out]; congr 1; omega, by rw [HR.out.1], HR.out.2⟩, ?_⟩
            simp [intOf]
          | some e =>
            have hgd : Sc.good e := by obtain ⟨L, _, h2⟩ := hIk.out.sb.own; exact h2.ok k hk16 e hf
            have h0 : ¬ e.ino = 0 := by have := hgd.2.1; omega
            have hv : hvE f k = ((k : Int), e.nm, e.ino) := by simp [hvE, hf]
            rw [hv] at c0 c1 c2
            have HP : Hid (Calls Tryd.prog 10 #[.slice (some ⟨q, 0, none⟩) 512 512, .agg #[.int .i64 (k : Int), .string e.nm, .int .i64 e.ino]] wr fun r w' => r = .returned (.int .i64 0) ∧ S2 w w' g h q f (16 - (n + 1))) := by rw [hnk]; exact hIk.out.put HT.out e hk16 hf
            have HR : Hid (lwR f (n + 1) = lwR f n) := by
              show lwR f (n + 1) = lwR f n
              rw [HL.out, if_neg (by rw [hf]; simp)]
            clear HL hk hkI hnk hv hf HI hgd hIk
            go_wp2_with (first
              | (go_at_call 10; refine HP.out.mono ?_; rintro r w9 ⟨rfl, h9⟩; have H9 : Hid _ := h9; clear h9))
            refine ⟨⟨n + 1, by omega, by rw [HKn.out]; congr 1; omega, by rw [HR.out], H9.out⟩, ?_⟩
            simp [intOf]
        · obtain rfl : n = 16 := by omega
          have HR : Hid (lwR f 16 = fi (vL f) ∧ S2 w wr g h q f 0) := ⟨by obtain ⟨L, _, h2⟩ := HI.out.sb.own; exact low_eq h2, HI.out⟩
          go_wp2
          go_meet
          exact ⟨by rw [HR.out.1], HR.out.2⟩
    case rest =>
      obtain ⟨rfl, hI⟩ := hcut
      have HI : Hid (S2 w wc g h q f 0) := hI
      clear hI H2
      go_upto_block 4 with fail
      go_cut [10] (fun s10 wx => S3 w wx g h q f s10 16 wc.heap.size)
      case first => as_aux_lemma =>
        go_wp2
        go_loopw [10, 14] (fun v i wr => ∃ k : Nat, k ≤ 16 ∧ i = .int .i64 (k : Int) ∧ S3 w wr g h q f v k wc.heap.size ∧ wc.heap.size ≤ wr.heap.size) (fun _ i _ => 16 - (intOf i).toNat)
        case atStart =>
          obtain ⟨L, o1, _⟩ := HI.out.sb.own
          obtain ⟨M, p1, _⟩ := HI.out.ot
          exact ⟨0, Nat.zero_le _, rfl, ⟨HI.out, RowE.nil _ _, HI.out.sb.bel.size, o1.lt, heap_lt HI.out.sb.hv.row, p1.lt⟩, Nat.le_refl _⟩
        case round =>
          obtain ⟨k, hk, rfl, hS, hB⟩ := hrel
          have HS : Hid (S3 w wr g h q f _ k wc.heap.size) := hS
          have HBs : Hid (wc.heap.size ≤ wr.heap.size) := hB
          clear hS hB HI
          by_cases hlt : k < 16
          · have hlt' : (k : Int) < 16 := by omega
            obtain ⟨c0, c1, c2⟩ := HS.out.s2.cells hlt
            cases hf : f k with
            | none =>
              have hv : hvE f k = (0, ⟨#[]⟩, 0) := by simp [hvE, hf]
              rw [hv] at c0 c1 c2
              have HR : Hid (wn f (k + 1) = wn f k) := wn_none hf
              clear hv hf
              go_wp2
              go_roundw
              case rel =>
                refine ⟨k + 1, by omega, by go_num, ⟨HS.out.s2, ?_, HS.out.B0, HS.out.gB, HS.out.hB, HS.out.qB⟩, HBs.out⟩
                rw [HR.out]; exact HS.out.row
              case measure => simp [intOf]; omega
            | some e =>
              have hgd : Sc.good e := by obtain ⟨L, _, h2⟩ := HS.out.s2.sb.own; exact h2.ok k hlt e hf
              have h0 : ¬ e.ino = 0 := by have := hgd.2.1; omega
              have hv : hvE f k = ((k : Int), e.nm, e.ino) := by simp [hvE, hf]
              rw [hv] at c0 c1 c2
              have HFk : Hid (f k = some e) := hf
              have HRl : Hid ((wn f (k + 1)).length = (wn f k).length + 1) := by
                show (wn f (k + 1)).length = _
                rw [wn_some hf hgd]; simp
              clear hv hf hgd
              go_wp2_with (first
                | (at_builtin; refine wp_ent (wx := wr) rfl (.tmp 85) (.tmp 89) rfl u10 (wn f k) rfl wr.heap.size rfl rfl ((k : Int), e.nm, e.ino) HS.out.row.row ?_ ?_
                   · have := wn_len f k; omega
                   rw [← HRl.out]
                   intro b2 cap2 w10 hR hF hor
                   have H10 : Hid (S3 w w10 g h q f (.slice (some ⟨b2, 0, none⟩) (wn f (k + 1)).length cap2) (k + 1) wc.heap.size ∧ wc.heap.size ≤ w10.heap.size) := HS.out.app HBs.out (Below.refl _ _) hR hF hor hlt HFk.out
                   clear hR hF hor))
              go_roundw
              case rel => exact ⟨k + 1, by omega, by go_num, H10.out.1, H10.out.2⟩
              case measure => simp [intOf]; omega
          · obtain rfl : k = 16 := by omega
            go_wp2
            go_meet
            exact HS.out
      case rest =>
        have HS2 : Hid (S2 w wc g h q f 0) := hcut.s2
        obtain ⟨a10, n10, hv10, hE10⟩ := hcut.row.form
        subst hv10
        rw [wn_16] at hE10 ⊢
        have HE10 : Hid (EntAt wc a10 ((vL f).filter tk)) := hE10
        have hlen : ((vL f).filter tk).length ≤ 16 := wn_len f 16
        obtain ⟨L, o1, o2⟩ := hcut.s2.sb.own
        obtain ⟨M, p1, p2⟩ := hcut.s2.ot
        have hLM : M = L := p2.inj o2 (fun k _ => by rw [fm, if_pos (Nat.zero_le _)])
        subst hLM
        have HB : Hid (Below w.heap.size w wc) := hcut.s2.sb.bel
        have HR : Hid (Calls Tryd.prog 13 #[.slice (some ⟨g, 0, none⟩) 512 512] wc fun e w' => ∃ b cap, e = .returned (.tuple #[.slice (some ⟨b, 0, none⟩) ((vL f).filter tk).length cap, .int .i64 0]) ∧ Below wc.heap.size wc w' ∧ EntAt w' (some ⟨b, 0, none⟩) ((vL f).filter tk)) :=
          (read_bk wc g 0 512 M f o2 o1.bytes (by omega) (HT.out.on hcut.s2.sb.bel)).mono (fun e w' h => by obtain ⟨b, cap, h1, h2, _, h4⟩ := h; exact ⟨b, cap, h1, h2, h4.ents⟩)
        have HL : Hid (∀ wx, Below wc.heap.size wc wx → Calls Tryd.prog 14 #[.slice (some ⟨g, 0, none⟩) 512 512] wx fun e w' => e = .returned (.tuple #[.int .i64 (fi (vL f)), .int .i64 0]) ∧ Below wx.heap.size wx w') := fun wx hb =>
          low_bk wx g 0 512 M f o2 (o1.bytes.on hb) (by omega) (HT.out.on (hcut.s2.sb.bel.trans (hb.mono hcut.s2.sb.bel.size)))
        have HSE : Hid (∀ wx b cap, Below wc.heap.size wc wx → EntAt wx (some ⟨b, 0, none⟩) ((vL f).filter tk) → Calls Tryd.prog 15 #[.slice (some ⟨b, 0, none⟩) ((vL f).filter tk).length cap, .slice a10 ((vL f).filter tk).length n10] wx fun e w' => e = .returned (.bool true) ∧ Below wc.heap.size wc w') := fun wx b cap hb he => by
          refine (sameE_any wx _ _ _ cap _ n10 _ _ he (hE10.on hb) rfl rfl (by omega)).mono ?_
          rintro e w' ⟨rfl, k, rfl⟩
          exact ⟨by simp, hb.trans ((drewN_below wx k).mono hb.size)⟩
        have HSB : Hid (∀ wx, Below wc.heap.size wc wx → Calls Tryd.prog 16 #[.slice (some ⟨g, 0, none⟩) 512 512, .slice (some ⟨q, 0, none⟩) 512 512] wx fun e w' => e = .returned (.bool true) ∧ Below wc.heap.size wc w') := fun wx hb => by
          refine (sameB_any wx _ _ 512 512 512 512 M M (o1.bytes.on hb) (p1.bytes.on hb) o2.len o2.len).mono ?_
          rintro e w' ⟨rfl, k, rfl⟩
          exact ⟨by simp, hb.trans ((drewN_below wx k).mono hb.size)⟩
        clear hcut hE10 o1 o2 p1 p2 HI
        go_wp2_with (first
          | (go_at_call 13; refine HR.out.mono ?_; rintro e w11 ⟨b, cap, rfl, hb11, he11⟩; have HB11 : Hid _ := hb11; have HE11 : Hid (EntAt w11 (some ⟨b, 0, none⟩) ((vL f).filter tk)) := he11; clear hb11 he11)
          | (go_at_call 14; refine (HL.out _ HB11.out).mono ?_; rintro e w12 ⟨rfl, hb12⟩; have HB12 : Hid (Below wc.heap.size wc w12) := HB11.out.trans (hb12.mono HB11.out.size); have HE12 : Hid (EntAt w12 (some ⟨b, 0, none⟩) ((vL f).filter tk)) := HE11.out.on hb12; clear hb12)
          | (go_at_call 15; refine (HSE.out _ _ _ HB12.out HE12.out).mono ?_; rintro e w13 ⟨rfl, hb13⟩; have HB13 : Hid _ := hb13; clear hb13)
          | (go_at_call 16; refine (HSB.out _ HB13.out).mono ?_; rintro e w14 ⟨rfl, hb14⟩; have HB14 : Hid _ := hb14; clear hb14))
        go_ret
        exact ⟨rfl, HB.out.trans (HB14.out.mono HB.out.size)⟩
end Go.Proofs.YtaaeahpmnfifiaaDoor
