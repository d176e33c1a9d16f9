import Derived.Test.YtipbflmonhlnjaaBkE
import Derived.Test.YtipbflmonhlnjaaKAPend
namespace Go.Proofs.Ytipbflmonhlnjaa
open Go.RowKit Rec

/-- behind a row of numbers that goes into the book -/
def KiP (w : World) (K : Bk) (v : Value) (w' : World) : Prop := ∃ X Y u x, BkI w' (K.addI X Y v u x) ∧ Fr (fun k => K.all k ∨ v.ownBlock = some k) w w' ∧ ∀ k, (K.addI X Y v u x).all k → K.all k ∨ v.ownBlock = some k ∨ w.heap.size ≤ k
theorem ki1 {w wc wa w1 : World} {K : Bk} {kb im : Nat} {ia ta : Option Addr} {ic tc b bc : Nat} {v : Value} (hK : BkI w K ∧ K.kb = kb ∧ K.im = im ∧ K.iv = .slice ia im ic ∧ K.tv = .slice ta im tc) (hC : BkI wc K) (ha : Below wc.heap.size wc wa)
    (_ : w1.ownsRow 0 75 1 (.slice (some ⟨b, 0, none⟩) (im + 1) bc) (im + 1) ((List.range im).flatMap (fun i => [K.iV i]) ++ [v])) (h2 : Fr (fun k => (Value.slice ia im ic).ownBlock = some k) wa w1) :
    w1.heap[kb]? = some (.cells K.cells 41 (0, 0)) ∧ ∀ w2, w2 = w1.setCell ⟨kb, 1, none⟩ (.slice (some ⟨b, 0, none⟩) (im + 1) bc) → w2.heap[kb]? = some (.cells #[K.bv, .slice (some ⟨b, 0, none⟩) (im + 1) bc, K.tv, K.av, K.wv] 41 (0, 0)) ∧ w2.ownsRow 0 75 1 (.slice ta im tc) im ((List.range im).flatMap (fun i => [K.tV i])) := by
  obtain ⟨_, e1, e2, e3, e4⟩ := hK
  subst e1 e2
  rw [← e3] at h2
  have ya := hC.on ha
  have hb1 := h2.heap ya.box (fun e => own_apartX ya.i.row ya.box (by decide) e)
  refine ⟨hb1, fun w2 hw => ?_⟩
  rw [hw, ← e4]
  have ht := ya.t.fr h2 (fun k e e2 => ya.it k (.inl e2) e)
  exact ⟨heap_setCell_same _ _ 1 _ _ _ hb1, (ht.fr (Fr.set (g := K.kb)) (fun k e => ht.box hb1 (by decide) (by decide) e)).row⟩
theorem ki2 {w wc wa w1 w2 wb w3 : World} {K : Bk} {kb im n : Nat} {ia ta a ua : Option Addr} {ic tc c uc b bc b' bc' : Nat} {y : List Int} (hK : BkI w K ∧ K.kb = kb ∧ K.im = im ∧ K.iv = .slice ia im ic ∧ K.tv = .slice ta im tc) (hv : ∀ k, (Value.slice a n c).ownBlock = some k → ¬ K.all k) (hu : ∀ k, (Value.slice ua n uc).ownBlock = some k → w.heap.size ≤ k)
    (hY : y.length = n ∧ wc.ownsRow 0 3 1 (.slice a n c) n (y.map (Value.int .i64)) ∧ wc.ownsRow 0 3 1 (.slice ua n uc) n (y.map (Value.int .i64)) ∧ Fr (fun k => (Value.slice a n c).ownBlock = some k) w wc) (hn : n ≤ 10000000) (hb : im + 1 ≤ 1000000000000) (ha : Below wc.heap.size wc wa) (hlv : ∀ k, (Value.slice a n c).ownBlock = some k → k < w.heap.size)
    (H1 : w1.ownsRow 0 75 1 (.slice (some ⟨b, 0, none⟩) (im + 1) bc) (im + 1) ((List.range im).flatMap (fun i => [K.iV i]) ++ [.slice a n c]) ∧ Fr (fun k => (Value.slice ia im ic).ownBlock = some k) wa w1 ∧ ((Value.slice ia im ic).ownBlock = some b ∨ wa.heap.size ≤ b))
    (hw2 : w1.setCell ⟨kb, 1, none⟩ (.slice (some ⟨b, 0, none⟩) (im + 1) bc) = w2) (ha2 : Below w2.heap.size w2 wb)
    (h1 : w3.ownsRow 0 75 1 (.slice (some ⟨b', 0, none⟩) (im + 1) bc') (im + 1) ((List.range im).flatMap (fun i => [K.tV i]) ++ [.slice ua n uc])) (h2 : Fr (fun k => (Value.slice ta im tc).ownBlock = some k) wb w3) (h3 : (Value.slice ta im tc).ownBlock = some b' ∨ wb.heap.size ≤ b') :
    w3.heap[kb]? = some (.cells #[K.bv, .slice (some ⟨b, 0, none⟩) (im + 1) bc, K.tv, K.av, K.wv] 41 (0, 0)) ∧ KiP w K (.slice a n c) (w3.setCell ⟨kb, 2, none⟩ (.slice (some ⟨b', 0, none⟩) (im + 1) bc')) := by
  obtain ⟨hI, e1, e2, e3, e4⟩ := hK
  subst e1 e2
  obtain ⟨y1, y2, y3, y4⟩ := hY
  subst y1
  rw [← e3] at H1
  rw [← e4] at h2 h3
  have fa : Fr (fun k => (Value.slice a y.length c).ownBlock = some k) w wa := y4.trans (below_fr ha (fun _ => False)) (fun _ e => e.elim)
  have hT := two_add (ty := 75) (el := 3) (sz := 1) (tB := 41) (kb := K.kb) (j := 1) (j' := 2) (by decide) (by decide) (by decide) hI.i hI.t hI.it hI.box fa (fun k e => ⟨fun e2 => hv k e (.inr (.inr (.inl e2))), fun e2 => hv k e (.inr (.inr (.inr (.inl e2)))), fun e2 => hv k e (.inl e2)⟩) (fun k e => ⟨hu k e, fun e2 => by have := hlv k e2; have := hu k e; omega⟩) (owns_fr y2 (below_fr ha (fun _ => False)) (fun _ _ e => e)) (owns_fr y3 (below_fr ha (fun _ => False)) (fun _ _ e => e)) H1.1 H1.2.1 H1.2.2 hw2.symm ha2 h1 h2 h3
  obtain ⟨g1, g2, g3⟩ := hI.addI hv hn hb hT
  exact ⟨hT.b3, _, _, _, _, g1, g2, g3⟩
/-- both rows of numbers are the same -/
def CuI (w wy : World) (a : Option Addr) (n c : Nat) (ua : Option Addr) (uc : Nat) : Prop := ∃ y : List Int, y.length = n ∧ wy.ownsRow 0 3 1 (.slice a n c) n (y.map (Value.int .i64)) ∧ wy.ownsRow 0 3 1 (.slice ua n uc) n (y.map (Value.int .i64)) ∧ Fr (fun k => (Value.slice a n c).ownBlock = some k) w wy
/-- within the loop that writes both over -/
structure CuL (w wr : World) (a : Option Addr) (n c : Nat) (ua : Option Addr) (uc : Nat) (y : List Int) : Prop where
  v : wr.ownsRow 0 3 1 (.slice a n c) n (y.map (Value.int .i64))
  u : wr.ownsRow 0 3 1 (.slice ua n uc) n (y.map (Value.int .i64))
  fr : Fr (fun k => (Value.slice a n c).ownBlock = some k) w wr
  lo : ∀ k, (Value.slice a n c).ownBlock = some k → k < w.heap.size
  hi : ∀ k, (Value.slice ua n uc).ownBlock = some k → w.heap.size ≤ k
theorem cuL0 {w wu : World} {a : Option Addr} {n c : Nat} {ua : Option Addr} {uc : Nat} {x : List Int} {m : Int} {K : Bk} (hU : wu.ownsRow 0 3 1 (.slice ua n uc) n (x.map (Value.int .i64)) ∧ (∀ k, (Value.slice ua n uc).ownBlock = some k → w.heap.size ≤ k) ∧ Below w.heap.size w wu) (hV : w.ownsRow 0 3 1 (.slice a n c) n (x.map (Value.int .i64)) ∧ x.length = n ∧ ∀ k, (Value.slice a n c).ownBlock = some k → ¬ K.all k) : CuL w wu a n c ua uc (mks 0 m x) := by
  have e : mks 0 m x = x := rfl
  rw [e]
  exact ⟨owns_fr hV.1 (below_fr hU.2.2 (fun _ => False)) (fun _ _ e => e), hU.1, below_fr hU.2.2 _, fun k e => owns_block hV.1 e, hU.2.1⟩
theorem CuL.len {w wr : World} {a : Option Addr} {n c : Nat} {ua : Option Addr} {uc k : Nat} {m : Int} {x : List Int} (_ : CuL w wr a n c ua uc (mks k m x)) (hx : x.length = n) (hk : k ≤ n) : (mks k m x).length = n := by rw [mks_len _ _ _ (by omega), hx]
theorem CuL.cell1 {w wr : World} {n c g : Nat} {ua : Option Addr} {uc k : Nat} {y : List Int} (h : CuL w wr (some ⟨g, 0, none⟩) n c ua uc y) (hk : k < n) : ∃ z, wr.cell? ⟨g, k, none⟩ = some (.int .i64 z) := by
  have hl : y.length = n := by have := h.v.1; rw [List.length_map] at this; omega
  have d := h.v.cellAt k (by omega)
  rw [List.getElem?_map, List.getElem?_eq_getElem (by omega)] at d
  exact ⟨_, d⟩
theorem CuL.cell2 {w wr : World} {n c gu : Nat} {a : Option Addr} {uc k : Nat} {y : List Int} (h : CuL w wr a n c (some ⟨gu, 0, none⟩) uc y) (hk : k < n) : ∃ z, wr.cell? ⟨gu, k, none⟩ = some (.int .i64 z) := by
  have hl : y.length = n := by have := h.v.1; rw [List.length_map] at this; omega
  have d := h.u.cellAt k (by omega)
  rw [List.getElem?_map, List.getElem?_eq_getElem (by omega)] at d
  exact ⟨_, d⟩
theorem CuL.ne {w wr : World} {n c g gu uc : Nat} {y : List Int} (h : CuL w wr (some ⟨g, 0, none⟩) n c (some ⟨gu, 0, none⟩) uc y) : g ≠ gu := by
  have := h.lo g rfl; have := h.hi gu rfl; omega
theorem CuL.next {w wr : World} {n c g gu uc k : Nat} {m : Int} {x : List Int} (h : CuL w wr (some ⟨g, 0, none⟩) n c (some ⟨gu, 0, none⟩) uc (mks k m x)) (hk : k < n) (hx : x.length = n) : CuL w ((wr.setCell ⟨g, k, none⟩ (.int .i64 m)).setCell ⟨gu, k, none⟩ (.int .i64 m)) (some ⟨g, 0, none⟩) n c (some ⟨gu, 0, none⟩) uc (mks (k + 1) m x) := by
  have hne := h.ne
  have e : ((mks k m x).map (Value.int .i64)).set k (.int .i64 m) = (mks (k + 1) m x).map (Value.int .i64) := by rw [← List.map_set, mks_set (by omega)]
  have v1 := (h.v.stored k (.int .i64 m)).1
  have u1 := owns_fr h.u (Fr.set (w := wr) (g := g) (k := k) (v := .int .i64 m)) (fun b e e2 => by cases e; exact hne e2.symm)
  have u2 := (u1.stored k (.int .i64 m)).1
  have v2 := owns_fr v1 (Fr.set (w := wr.setCell ⟨g, k, none⟩ (.int .i64 m)) (g := gu) (k := k) (v := .int .i64 m)) (fun b e e2 => by cases e; exact hne e2)
  rw [e] at u2 v2
  exact ⟨v2, u2, (h.fr.trans Fr.set (fun b e => .inl (by rw [show b = g from e]; rfl))).trans Fr.set (fun b e => .inr (by rw [show b = gu from e]; exact h.hi gu rfl)), h.lo, h.hi⟩
theorem cuI0 {w wu : World} {a : Option Addr} {n c : Nat} {ua : Option Addr} {uc : Nat} {x : List Int} {K : Bk} (hU : wu.ownsRow 0 3 1 (.slice ua n uc) n (x.map (Value.int .i64)) ∧ (∀ k, (Value.slice ua n uc).ownBlock = some k → w.heap.size ≤ k) ∧ Below w.heap.size w wu) (hV : w.ownsRow 0 3 1 (.slice a n c) n (x.map (Value.int .i64)) ∧ x.length = n ∧ ∀ k, (Value.slice a n c).ownBlock = some k → ¬ K.all k) : CuI w wu a n c ua uc :=
  ⟨x, hV.2.1, owns_fr hV.1 (below_fr hU.2.2 (fun _ => False)) (fun _ _ e => e), hU.1, below_fr hU.2.2 _⟩
set_option maxRecDepth 100000 in
set_option maxHeartbeats 8000000 in
theorem kints_any (w : World) (K : Bk) (h : BkI w K) (v : Value) (n : Nat) (x : List Int) (hv : w.ownsRow 0 3 1 v n (x.map (Value.int .i64))) (hn : n ≤ 10000000) (hf : ∀ k, v.ownBlock = some k → ¬ K.all k) (hb : K.im + 1 ≤ 1000000000000) :
    Calls Try.prog 40 #[.pointer (some ⟨K.kb, 0, none⟩), v] w fun e w' => e = .returned (.tuple #[]) ∧ KiP w K v w' := by
  have hxl : x.length = n := by have := hv.1; rw [List.length_map] at this; omega
  obtain ⟨a, c, rfl, hnc, hga, _⟩ := owns_slice hv
  obtain ⟨ia, ic, hiv, hicc, _⟩ := owns_slice h.i.row
  obtain ⟨ta, tc, htv, htcc, _⟩ := owns_slice h.t.row
  obtain ⟨kb, hkb⟩ : ∃ kb, K.kb = kb := ⟨_, rfl⟩
  obtain ⟨im, him⟩ : ∃ im, K.im = im := ⟨_, rfl⟩
  have hz := h.box
  rw [hkb] at hz ⊢
  rw [him] at hiv hicc htv htcc hb
  have c1 : w.cell? ⟨kb, 1, none⟩ = some (.slice ia im ic) := by rw [← hiv]; exact cell_of_row _ _ 1 _ _ _ hz
  have HK : Hid (BkI w K ∧ K.kb = kb ∧ K.im = im ∧ K.iv = .slice ia im ic ∧ K.tv = .slice ta im tc) := ⟨h, hkb, him, hiv, htv⟩
  have HV : Hid (w.ownsRow 0 3 1 (.slice a n c) n (x.map (Value.int .i64)) ∧ x.length = n ∧ ∀ k, (Value.slice a n c).ownBlock = some k → ¬ K.all k) := ⟨hv, hxl, hf⟩
  clear h hv hxl hf hz hkb him hiv htv
  obtain ⟨i1, j1, j2, j3, j4⟩ := info_parts infoI64
  obtain ⟨i2, k1, k2, k3, k4⟩ := info_parts infoSI
  go_enter Try.func40, Try.ntmps40
  go_upto_region 2 with fail
  go_upto_region 3 with (at_builtin; refine wp_cpyV rfl (.tmp 12) (.tmp 13) 75 rfl rfl app_zeroI 3 i1 _ 1 8 Try.underlying75 j1 j2 j3 j4 rfl (by decide) rfl (.slice a n c) n (x.map (Value.int .i64)) rfl HV.out.1 (by intro u hu; rcases List.mem_map.1 hu with ⟨y, _, rfl⟩; rfl) (by unfold maxLen; omega) (by omega) ?_
                         rintro u wu hu1 hu2 ⟨ua, uc, rfl, huc, hug⟩ hu3
                         have HU : Hid (wu.ownsRow 0 3 1 (.slice ua n uc) n (x.map (Value.int .i64)) ∧ (∀ k, (Value.slice ua n uc).ownBlock = some k → w.heap.size ≤ k) ∧ Below w.heap.size w wu) := ⟨hu1, hu2, hu3⟩
                         clear hu1 hu2 hu3)
  clear c1
  go_upto_if 17 with fail
  go_cut [6, 18, 19, 20, 21, 22, 23, 24, 25, 26, 27, 28, 29, 30, 31, 32, 33, 34, 35] (fun _ _ _ _ _ _ _ _ _ _ _ _ _ _ _ _ _ _ _ wy => CuI w wy a n c ua uc)
  case first =>
    obtain ⟨q, hq⟩ : ∃ q, ((im : Int) % 2 == 1) = q := ⟨_, rfl⟩
    rw [hq]
    cases q
    · go_wp2
      go_meet
      exact cuI0 HU.out HV.out
    · clear hq
      go_wp2
      go_loopw [6, 20, 21, 22, 23, 24, 25, 26, 27, 28, 29, 30, 31, 32, 33, 34, 35] (fun _ i _ _ _ _ _ _ _ _ _ _ _ _ _ _ _ wr => ∃ k : Nat, k ≤ n ∧ i = .int .i64 k ∧ CuL w wr a n c ua uc (mks k (-(im : Int) - 1) x)) (fun _ i _ _ _ _ _ _ _ _ _ _ _ _ _ _ _ _ => n - (intOf i).toNat)
      case atStart => exact ⟨0, Nat.zero_le _, rfl, cuL0 HU.out HV.out⟩
      case round =>
        obtain ⟨k, hk, rfl, hL⟩ := hrel
        have HL : Hid (CuL w wr a n c ua uc (mks k (-(im : Int) - 1) x)) := hL
        clear hL
        by_cases hlt : k < n
        · obtain ⟨g, rfl⟩ := hga.resolve_left (by omega)
          obtain ⟨gu, rfl⟩ := hug.resolve_left (by omega)
          obtain ⟨y1, d1⟩ := HL.out.cell1 hlt
          have f1 := HL.out.v.frozenAt k
          obtain ⟨y2, d2⟩ := HL.out.cell2 hlt
          have f2 := HL.out.u.frozenAt k
          have H5 := HL.out.next hlt HV.out.2.1
          have hne : g ≠ gu := HL.out.ne
          have H6 : Hid (CuL w ((wr.setCell ⟨g, k, none⟩ (.int .i64 (-(im : Int) - 1))).setCell ⟨gu, k, none⟩ (.int .i64 (-(im : Int) - 1))) (some ⟨g, 0, none⟩) n c (some ⟨gu, 0, none⟩) uc (mks (k + 1) (-(im : Int) - 1) x)) := H5
          clear H5
          have d3 : (wr.setCell ⟨g, k, none⟩ (.int .i64 (-(im : Int) - 1))).cell? ⟨gu, k, none⟩ = some (.int .i64 y2) := (Fr.set (g := g)).cell d2 (fun e => hne e.symm)
          go_wp2
          exact ⟨⟨k + 1, hlt, rfl, H6.out⟩, by simp [intOf]; omega⟩
        · have hkn : k = n := by omega
          go_wp2
          go_meet
          exact ⟨_, HL.out.len HV.out.2.1 hk, HL.out.v, HL.out.u, HL.out.fr⟩
  case rest =>
    obtain ⟨y, hyl, hyv, hyu, hyf⟩ := hcut
    have hbK := HK.out.1.fr hyf (fun k e e2 => HV.out.2.2 k e2 e)
    have hkz := hbK.box
    rw [HK.out.2.1] at hkz
    have c1 : wc.cell? ⟨kb, 1, none⟩ = some (.slice ia im ic) := by rw [← HK.out.2.2.2.1]; exact cell_of_row _ _ 1 _ _ _ hkz
    have HC : Hid (BkI wc K) := hbK
    have HY : Hid (y.length = n ∧ wc.ownsRow 0 3 1 (.slice a n c) n (y.map (Value.int .i64)) ∧ wc.ownsRow 0 3 1 (.slice ua n uc) n (y.map (Value.int .i64)) ∧ Fr (fun k => (Value.slice a n c).ownBlock = some k) w wc) := ⟨hyl, hyv, hyu, hyf⟩
    have HRow : Hid (wc.ownsRow 0 75 1 (.slice ia im ic) im ((List.range im).flatMap (fun i => [K.iV i]))) := by
      have e := hbK.i.row
      rw [HK.out.2.2.2.1, HK.out.2.2.1] at e; exact e
    have HRoT : Hid (wc.ownsRow 0 75 1 (.slice ta im tc) im ((List.range im).flatMap (fun i => [K.tV i]))) := by
      have e := hbK.t.row
      rw [HK.out.2.2.2.2, HK.out.2.2.1] at e; exact e
    clear hyl hyv hyu hyf hbK hkz
    have ha : Below wc.heap.size wc (wc.alloc (.cells #[.slice a n c] 75)) := (Below.refl _ _).alloc (Nat.le_refl _) _
    go_upto_region 11 with (at_builtin; refine wp_own rfl (.tmp 40) (.tmp 42) 38 rfl 75 i2 _ 1 24 Try.underlying38 k1 k2 k3 k4 rfl (by decide) (.slice ia im ic) im ((List.range im).flatMap (fun i => [K.iV i])) rfl (owns_fr HRow.out (below_fr ha (fun _ => False)) (fun _ _ e => e)) ⟨wc.heap.size, 0, none⟩ 1 1 [.slice a n c] rfl (by decide) rfl (news_of (heap_alloc_new wc _) _ rfl) (by intro u hu; simp at hu; subst hu; rfl) (by unfold maxLen; omega) (by omega) ?_
                            intro b bc w1 h1 h2 h3
                            have HM := ki1 HK.out HC.out (ha) h1 h2
                            have d1 : w1.cell? ⟨kb, 1, none⟩ = some K.iv := cell_of_row _ _ 1 _ _ _ HM.1
                            have e1 : w1.frozen? ⟨kb, 1, none⟩ = false := frozen_of_row _ _ 1 _ _ HM.1
                            have H1 : Hid (w1.ownsRow 0 75 1 (.slice (some ⟨b, 0, none⟩) (im + 1) bc) (im + 1) ((List.range im).flatMap (fun i => [K.iV i]) ++ [.slice a n c]) ∧ Fr (fun k => (Value.slice ia im ic).ownBlock = some k) (wc.alloc (.cells #[.slice a n c] 75)) w1 ∧ ((Value.slice ia im ic).ownBlock = some b ∨ (wc.alloc (.cells #[.slice a n c] 75)).heap.size ≤ b)) := ⟨h1, h2, h3⟩
                            have HM2 : Hid ((w1.setCell ⟨kb, 1, none⟩ (.slice (some ⟨b, 0, none⟩) (im + 1) bc)).heap[kb]? = some (.cells #[K.bv, .slice (some ⟨b, 0, none⟩) (im + 1) bc, K.tv, K.av, K.wv] 41 (0, 0)) ∧ (w1.setCell ⟨kb, 1, none⟩ (.slice (some ⟨b, 0, none⟩) (im + 1) bc)).ownsRow 0 75 1 (.slice ta im tc) im ((List.range im).flatMap (fun i => [K.tV i]))) := HM.2 _ rfl
                            clear h1 h2 h3 HM c1)
    obtain ⟨w2, hw2⟩ : ∃ w2, w1.setCell ⟨kb, 1, none⟩ (.slice (some ⟨b, 0, none⟩) (im + 1) bc) = w2 := ⟨_, rfl⟩
    rw [hw2] at HM2 ⊢
    have c2 : w2.cell? ⟨kb, 2, none⟩ = some (.slice ta im tc) := by rw [← HK.out.2.2.2.2]; exact cell_of_row _ _ 2 _ _ _ HM2.out.1
    clear d1 e1
    have ha2 : Below w2.heap.size w2 (w2.alloc (.cells #[.slice ua n uc] 75)) := (Below.refl _ _).alloc (Nat.le_refl _) _
    go_wp2_with (at_builtin; refine wp_own rfl (.tmp 50) (.tmp 52) 38 rfl 75 i2 _ 1 24 Try.underlying38 k1 k2 k3 k4 rfl (by decide) (.slice ta im tc) im ((List.range im).flatMap (fun i => [K.tV i])) rfl (owns_fr HM2.out.2 (below_fr ha2 (fun _ => False)) (fun _ _ e => e)) ⟨w2.heap.size, 0, none⟩ 1 1 [.slice ua n uc] rfl (by decide) rfl (news_of (heap_alloc_new w2 _) _ rfl) (by intro u hu; simp at hu; subst hu; rfl) (by unfold maxLen; omega) (by omega) ?_
                 intro b' bc' w3 h1 h2 h3
                 have HF := ki2 HK.out HV.out.2.2 HU.out.2.1 HY.out hn hb ha (fun k e => owns_block HV.out.1 e) H1.out hw2 ha2 h1 h2 h3
                 have d2 : w3.cell? ⟨kb, 2, none⟩ = some K.tv := cell_of_row _ _ 2 _ _ _ HF.1
                 have e2 : w3.frozen? ⟨kb, 2, none⟩ = false := frozen_of_row _ _ 2 _ _ HF.1
                 have H9 : Hid (KiP w K (.slice a n c) (w3.setCell ⟨kb, 2, none⟩ (.slice (some ⟨b', 0, none⟩) (im + 1) bc'))) := HF.2
                 clear h1 h2 h3 HF c2)
    go_end0
    exact ⟨rfl, H9.out⟩
end Go.Proofs.Ytipbflmonhlnjaa

namespace Go.Proofs.Ytipbflmonhlnjaa
open Go.RowKit Rec

/-- the same disk but for what was counted -/
structure Sim (a b : AD) : Prop where
  nb : a.nb = b.nb
  las : a.las = b.las
  P : a.P = b.P
  a0 : a.at_ = 0
  b0 : b.at_ = 0
theorem take_w {a : AD} {q : ActR} (h : a.at_ = 0) (hk : q.kind = 1) : a.take q = { a with P := a.P ++ [(q.b.toNat, q.x)], T := a.T ++ [(1, ((q.b.toNat : Nat) : Int), q.x)], wr := a.wr + 1 } := by
  unfold AD.take
  rw [if_pos hk]
  unfold AD.write
  rw [if_neg (by rw [h]; decide)]
  show AD.tick _ = _
  unfold AD.tick
  exact if_neg (by show ¬ (0 : Int) < a.at_; rw [h]; decide)
theorem take_f {a : AD} {q : ActR} (h : a.at_ = 0) (hk : ¬ q.kind = 1) : a.take q = { a with fl := a.fl + 1, T := a.T ++ [(2, 0, [])], las := a.full, P := [] } := by
  unfold AD.take
  rw [if_neg hk]
  exact do_f 0 0 h
theorem full_sim {a b : AD} (hl : a.las = b.las) (hP : a.P = b.P) : a.full = b.full := by
  unfold AD.full AD.f AD.X
  rw [hl, hP]
theorem Sim.take {a b : AD} (h : Sim a b) {q r : ActR} (h1 : q.kind = r.kind) (h2 : q.b = r.b) (h3 : q.x = r.x) : Sim (a.take q) (b.take r) := by
  by_cases hk : q.kind = 1
  · rw [take_w h.a0 hk, take_w h.b0 (h1 ▸ hk)]
    exact ⟨h.nb, h.las, by show a.P ++ _ = b.P ++ _; rw [h.P, h2, h3], h.a0, h.b0⟩
  · rw [take_f h.a0 hk, take_f h.b0 (h1 ▸ hk)]
    exact ⟨h.nb, full_sim h.las h.P, rfl, h.a0, h.b0⟩
/-- what of an act counts -/
def ActR.abs (q : ActR) : Int × Int × List Int := (q.kind, q.b, q.x)
theorem abs_getD {L M : List ActR} (h : L.map ActR.abs = M.map ActR.abs) (k : Nat) : (L.getD k ⟨0, 0, none, 0, []⟩).abs = (M.getD k ⟨0, 0, none, 0, []⟩).abs := by
  have e : (L.map ActR.abs)[k]? = (M.map ActR.abs)[k]? := by rw [h]
  rw [List.getElem?_map, List.getElem?_map] at e
  simp only [List.getD]
  cases h1 : L[k]? with
  | none =>
    cases h2 : M[k]? with
    | none => rfl
    | some r => rw [h1, h2] at e; cases e
  | some q =>
    cases h2 : M[k]? with
    | none => rw [h1, h2] at e; cases e
    | some r => rw [h1, h2] at e; exact Option.some.inj e
theorem Sim.takes {a b : AD} (h : Sim a b) {L M : List ActR} (hL : L.map ActR.abs = M.map ActR.abs) (k : Nat) : Sim (a.takes L k) (b.takes M k) := by
  induction k with
  | zero => exact h
  | succ k ih =>
    have e := abs_getD hL k
    simp only [ActR.abs, Prod.mk.injEq] at e
    exact ih.take e.1 e.2.1 e.2.2
theorem Sim.cut {a b : AD} (h : Sim a b) (kp : Nat → Bool) : (a.cut kp).las = (b.cut kp).las := by
  show lay kp a.f a.X a.las a.P.length = lay kp b.f b.X b.las b.P.length
  unfold AD.f AD.X
  rw [h.las, h.P]
/-- acts in a row of one's own -/
def OkAct (w : World) (m : Nat) (q : ActR) : Prop := (q.kind = 2 ∧ q.a = none ∧ q.c = 0 ∧ q.x = []) ∨ (q.kind = 1 ∧ 0 ≤ q.b ∧ q.b < m ∧ q.x.length = 512 ∧ ∃ g cap, q.a = some ⟨g, 0, none⟩ ∧ OwnB w g cap q.x)
structure AcR (w : World) (m : Nat) (v : Value) (L : List ActR) : Prop where
  row : w.ownsRow 0 86 3 v L.length (L.flatMap ActR.cells)
  each : ∀ q ∈ L, OkAct w m q
theorem OkAct.on {w w' : World} {m : Nat} {q : ActR} (h : OkAct w m q) (x : Below w.heap.size w w') : OkAct w' m q := by
  rcases h with h | ⟨h1, h2, h3, h4, g, cap, h5, h6⟩
  · exact .inl h
  · exact .inr ⟨h1, h2, h3, h4, g, cap, h5, h6.on x⟩
theorem OkAct.fr {S : Nat → Prop} {w w' : World} {m : Nat} {q : ActR} (h : OkAct w m q) (x : Fr S w w') (hS : ∀ g cap, OwnB w g cap q.x → ¬ S g) : OkAct w' m q := by
  rcases h with h | ⟨h1, h2, h3, h4, g, cap, h5, h6⟩
  · exact .inl h
  · exact .inr ⟨h1, h2, h3, h4, g, cap, h5, h6.fr x (hS g cap h6)⟩
theorem AcR.on {w w' : World} {m : Nat} {v : Value} {L : List ActR} (h : AcR w m v L) (x : Below w.heap.size w w') : AcR w' m v L :=
  ⟨owns_fr h.row (below_fr x (fun k => w.heap.size ≤ k)) (fun _ hk => Nat.not_le.2 (owns_block h.row hk)), fun q hq => (h.each q hq).on x⟩
theorem flat3 (f : ActR → List Value) (l : List ActR) (k : Nat) (hk : k < l.length) (j : Nat) (hj : j < 3) (hf : ∀ p, (f p).length = 3 := by intro p; rfl) : (l.flatMap f)[k * 3 + j]? = (f l[k])[j]? := by
  induction l generalizing k with
  | nil => simp at hk
  | cons p l ih =>
    rw [List.flatMap_cons]
    cases k with
    | zero => rw [List.getElem?_append_left (by rw [hf]; omega)]; simp
    | succ k =>
      rw [List.getElem?_append_right (by rw [hf]; omega), hf, show (k + 1) * 3 + j - 3 = k * 3 + j by omega, ih k (by simpa using hk)]; rfl
theorem OkAct.bytes {w : World} {m : Nat} {q : ActR} (h : OkAct w m q) : Bytes w q.a q.x ∧ actE m q = 0 := by
  rcases h with ⟨h1, h2, h3, h4⟩ | ⟨h1, h2, h3, h4, g, cap, h5, h6⟩
  · refine ⟨by rw [h2, h4]; exact ⟨by simp, fun i => by simp [nth], .inl rfl⟩, ?_⟩
    unfold actE
    rw [if_neg (by rw [h1]; decide), if_pos h1]
  · refine ⟨by rw [h5]; exact h6.bytes, ?_⟩
    unfold actE
    rw [if_pos h1, if_pos ⟨h2, h3⟩, if_pos h4]
theorem AcR.acts {w : World} {m : Nat} {a : Option Addr} {n c : Nat} {L : List ActR} (h : AcR w m (.slice a n c) L) (hl : L.length ≤ 3518437208780) : n = L.length ∧ Acts w a L ∧ ∀ q ∈ L, actE m q = 0 := by
  obtain ⟨a', c', hv, _, hg, hc⟩ := owns_slice h.row
  cases hv
  refine ⟨rfl, ⟨?_, fun q hq => (h.each q hq).bytes.1, hl⟩, fun q hq => (h.each q hq).bytes.2⟩
  rcases hg with h0 | ⟨g, rfl⟩
  · exact .inl (List.eq_nil_of_length_eq_zero h0)
  · refine .inr ⟨g, 0, rfl, fun i q hq => ?_⟩
    have hi : i < L.length := by
      by_cases hi : i < L.length
      · exact hi
      · rw [List.getElem?_eq_none (by omega)] at hq; cases hq
    have e : L[i] = q := by rw [List.getElem?_eq_getElem hi] at hq; exact Option.some.inj hq
    have c1 := (hc g 0 rfl).2.1
    rw [Nat.zero_add]
    exact ⟨c1 _ _ (by have := flat3 ActR.cells L i hi 0 (by omega); rw [e] at this; exact this), c1 _ _ (by have := flat3 ActR.cells L i hi 1 (by omega); rw [e] at this; exact this), c1 _ _ (by have := flat3 ActR.cells L i hi 2 (by omega); rw [e] at this; exact this)⟩
end Go.Proofs.Ytipbflmonhlnjaa
