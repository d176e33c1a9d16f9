import Derived.Test.YtcbebalakdkgnaaGreatDoorKKbD
import Derived.Test.YtcbebalakdkgnaaGreatDoorKXsB
import Derived.Test.YtcbebalakdkgnaaGreatDoorKWRe
import Derived.Test.YtcbebalakdkgnaaGreatDoorKTxE2
import Derived.Test.YtcbebalakdkgnaaGreatDoorKAMake
import Derived.Test.YtcbebalakdkgnaaGreatDoorKXsK
import Derived.Test.YtcbebalakdkgnaaGreatDoorKXsL
import Derived.Test.YtcbebalakdkgnaaGreatDoorKAChosen
namespace Go.Proofs.YtcbebalakdkgnaaGreatDoor
open Go.RowKit Rec

/-- behind a row of numbers that goes into the book -/
def KiP (w : World) (K : Kb) (v : Value) (w' : World) : Prop := ∃ X Y u x, KbI w' (K.addI X Y v u x) ∧ Fr (fun k => K.all k ∨ v.ownBlock = some k) w w' ∧ ∀ k, (K.addI X Y v u x).all k → K.all k ∨ v.ownBlock = some k ∨ w.heap.size ≤ k
theorem ki1 {w wc wa w1 : World} {K : Kb} {kb im : Nat} {ia ta : Option Addr} {ic tc b bc : Nat} {v : Value} (hK : KbI w K ∧ K.kb = kb ∧ K.im = im ∧ K.iv = .slice ia im ic ∧ K.tv = .slice ta im tc) (hC : KbI wc K) (ha : Below wc.heap.size wc wa)
    (_ : w1.ownsRow 0 70 1 (.slice (some ⟨b, 0, none⟩) (im + 1) bc) (im + 1) ((List.range im).flatMap (fun i => [K.iV i]) ++ [v])) (h2 : Fr (fun k => (Value.slice ia im ic).ownBlock = some k) wa w1) :
    w1.heap[kb]? = some (.cells K.cells 41 (0, 0)) ∧ ∀ w2, w2 = w1.setCell ⟨kb, 1, none⟩ (.slice (some ⟨b, 0, none⟩) (im + 1) bc) → w2.heap[kb]? = some (.cells #[K.bv, .slice (some ⟨b, 0, none⟩) (im + 1) bc, K.tv] 41 (0, 0)) ∧ w2.ownsRow 0 70 1 (.slice ta im tc) im ((List.range im).flatMap (fun i => [K.tV i])) := by
  obtain ⟨_, e1, e2, e3, e4⟩ := hK
  subst e1 e2
  rw [← e3] at h2
  have ya := hC.on ha
  have hb1 := h2.heap ya.box (fun e => own_apartX ya.i.row ya.box (by decide) e)
  refine ⟨hb1, fun w2 hw => ?_⟩
  rw [hw, ← e4]
  have ht := ya.t.fr h2 (fun k e e2 => ya.it k (.inl e2) e)
  exact ⟨heap_setCell_same _ _ 1 _ _ _ hb1, (ht.fr (Fr.set (g := K.kb)) (fun k e => ht.box hb1 (by decide) (by decide) e)).row⟩
theorem ki2 {w wc wa w1 w2 wb w3 : World} {K : Kb} {kb im n : Nat} {ia ta a ua : Option Addr} {ic tc c uc b bc b' bc' : Nat} {y : List Int} (hK : KbI w K ∧ K.kb = kb ∧ K.im = im ∧ K.iv = .slice ia im ic ∧ K.tv = .slice ta im tc) (hv : ∀ k, (Value.slice a n c).ownBlock = some k → ¬ K.all k) (hu : ∀ k, (Value.slice ua n uc).ownBlock = some k → w.heap.size ≤ k)
    (hY : y.length = n ∧ wc.ownsRow 0 3 1 (.slice a n c) n (y.map (Value.int .i64)) ∧ wc.ownsRow 0 3 1 (.slice ua n uc) n (y.map (Value.int .i64)) ∧ Fr (fun k => (Value.slice a n c).ownBlock = some k) w wc) (hn : n ≤ 10000000) (hb : im + 1 ≤ 1000000000000) (ha : Below wc.heap.size wc wa) (hlv : ∀ k, (Value.slice a n c).ownBlock = some k → k < w.heap.size)
    (H1 : w1.ownsRow 0 70 1 (.slice (some ⟨b, 0, none⟩) (im + 1) bc) (im + 1) ((List.range im).flatMap (fun i => [K.iV i]) ++ [.slice a n c]) ∧ Fr (fun k => (Value.slice ia im ic).ownBlock = some k) wa w1 ∧ ((Value.slice ia im ic).ownBlock = some b ∨ wa.heap.size ≤ b))
    (hw2 : w1.setCell ⟨kb, 1, none⟩ (.slice (some ⟨b, 0, none⟩) (im + 1) bc) = w2) (ha2 : Below w2.heap.size w2 wb)
    (h1 : w3.ownsRow 0 70 1 (.slice (some ⟨b', 0, none⟩) (im + 1) bc') (im + 1) ((List.range im).flatMap (fun i => [K.tV i]) ++ [.slice ua n uc])) (h2 : Fr (fun k => (Value.slice ta im tc).ownBlock = some k) wb w3) (h3 : (Value.slice ta im tc).ownBlock = some b' ∨ wb.heap.size ≤ b') :
    w3.heap[kb]? = some (.cells #[K.bv, .slice (some ⟨b, 0, none⟩) (im + 1) bc, K.tv] 41 (0, 0)) ∧ KiP w K (.slice a n c) (w3.setCell ⟨kb, 2, none⟩ (.slice (some ⟨b', 0, none⟩) (im + 1) bc')) := by
  obtain ⟨hI, e1, e2, e3, e4⟩ := hK
  subst e1 e2
  obtain ⟨y1, y2, y3, y4⟩ := hY
  subst y1
  rw [← e3] at H1
  rw [← e4] at h2 h3
  have fa : Fr (fun k => (Value.slice a y.length c).ownBlock = some k) w wa := y4.trans (below_fr ha (fun _ => False)) (fun _ e => e.elim)
  have hT := two_add (ty := 70) (el := 3) (sz := 1) (tB := 41) (kb := K.kb) (j := 1) (j' := 2) (by decide) (by decide) (by decide) hI.i hI.t hI.it hI.box fa (fun k e => ⟨fun e2 => hv k e (.inr (.inr (.inl e2))), fun e2 => hv k e (.inr (.inr (.inr e2))), fun e2 => hv k e (.inl e2)⟩) (fun k e => ⟨hu k e, fun e2 => by have := hlv k e2; have := hu k e; omega⟩) (owns_fr y2 (below_fr ha (fun _ => False)) (fun _ _ e => e)) (owns_fr y3 (below_fr ha (fun _ => False)) (fun _ _ e => e)) H1.1 H1.2.1 H1.2.2 hw2.symm ha2 h1 h2 h3
  obtain ⟨g1, g2, g3⟩ := hI.addI hv hn hb hT
  exact ⟨hT.b3, _, _, _, _, g1, g2, g3⟩
/-- both rows of numbers are the same -/
def CuI (w wy : World) (a : Option Addr) (n c : Nat) (ua : Option Addr) (uc : Nat) : Prop := ∃ y : List Int, y.length = n ∧ wy.ownsRow 0 3 1 (.slice a n c) n (y.map (Value.int .i64)) ∧ wy.ownsRow 0 3 1 (.slice ua n uc) n (y.map (Value.int .i64)) ∧ Fr (fun k => (Value.slice a n c).ownBlock = some k) w wy
/-- within the loop that writes both over -/
structure CuL (w wr : World) (a : Option Addr) (n c : Nat) (ua : Option Addr) (uc : Nat) (y : List Int) : Prop where
  v : wr.ownsRow 0 3 1 (.slice a n c) n (y.map (Value.int .i64))
  u : wr.ownsRow 0 3 1 (.slice ua n uc) n (y.map (Value.int .i64))
  fr : Fr (fun k => (Value.slice a n c).ownBlock = some k) w wr
  lo : ∀ k, (Value.slice a n c).ownBlock = some k → k < w.heap.size
  hi : ∀ k, (Value.slice ua n uc).ownBlock = some k → w.heap.size ≤ k
theorem cuL0 {w wu : World} {a : Option Addr} {n c : Nat} {ua : Option Addr} {uc : Nat} {x : List Int} {m : Int} {K : Kb} (hU : wu.ownsRow 0 3 1 (.slice ua n uc) n (x.map (Value.int .i64)) ∧ (∀ k, (Value.slice ua n uc).ownBlock = some k → w.heap.size ≤ k) ∧ Below w.heap.size w wu) (hV : w.ownsRow 0 3 1 (.slice a n c) n (x.map (Value.int .i64)) ∧ x.length = n ∧ ∀ k, (Value.slice a n c).ownBlock = some k → ¬ K.all k) : CuL w wu a n c ua uc (mks 0 m x) := by
  have e : mks 0 m x = x := rfl
  rw [e]
  exact ⟨owns_fr hV.1 (below_fr hU.2.2 (fun _ => False)) (fun _ _ e => e), hU.1, below_fr hU.2.2 _, fun k e => owns_block hV.1 e, hU.2.1⟩
theorem CuL.len {w wr : World} {a : Option Addr} {n c : Nat} {ua : Option Addr} {uc k : Nat} {m : Int} {x : List Int} (_ : CuL w wr a n c ua uc (mks k m x)) (hx : x.length = n) (hk : k ≤ n) : (mks k m x).length = n := by rw [mks_len _ _ _ (by omega), hx]
theorem CuL.cell1 {w wr : World} {n c g : Nat} {ua : Option Addr} {uc k : Nat} {y : List Int} (h : CuL w wr (some ⟨g, 0, none⟩) n c ua uc y) (hk : k < n) : ∃ z, wr.cell? ⟨g, k, none⟩ = some (.int .i64 z) := by
  have hl : y.length = n := by have := h.v.1; rw [List.length_map] at this; omega
  have d := h.v.cellAt k (by omega)
  rw [List.getElem?_map, List.getElem?_eq_getElem (by omega)] at d
  exact ⟨_, d⟩
theorem CuL.cell2 {w wr : World} {n c gu : Nat} {a : Option Addr} {uc k : Nat} {y : List Int} (h : CuL w wr a n c (some ⟨gu, 0, none⟩) uc y) (hk : k < n) : ∃ z, wr.cell? ⟨gu, k, none⟩ = some (.int .i64 z) := by
  have hl : y.length = n := by have := h.v.1; rw [List.length_map] at this; omega
  have d := h.u.cellAt k (by omega)
  rw [List.getElem?_map, List.getElem?_eq_getElem (by omega)] at d
  exact ⟨_, d⟩
theorem CuL.ne {w wr : World} {n c g gu uc : Nat} {y : List Int} (h : CuL w wr (some ⟨g, 0, none⟩) n c (some ⟨gu, 0, none⟩) uc y) : g ≠ gu := by
  have := h.lo g rfl; have := h.hi gu rfl; omega
theorem CuL.next {w wr : World} {n c g gu uc k : Nat} {m : Int} {x : List Int} (h : CuL w wr (some ⟨g, 0, none⟩) n c (some ⟨gu, 0, none⟩) uc (mks k m x)) (hk : k < n) (hx : x.length = n) : CuL w ((wr.setCell ⟨g, k, none⟩ (.int .i64 m)).setCell ⟨gu, k, none⟩ (.int .i64 m)) (some ⟨g, 0, none⟩) n c (some ⟨gu, 0, none⟩) uc (mks (k + 1) m x) := by
  have hne := h.ne
  have e : ((mks k m x).map (Value.int .i64)).set k (.int .i64 m) = (mks (k + 1) m x).map (Value.int .i64) := by rw [← List.map_set, mks_set (by omega)]
  have v1 := (h.v.stored k (.int .i64 m)).1
  have u1 := owns_fr h.u (Fr.set (w := wr) (g := g) (k := k) (v := .int .i64 m)) (fun b e e2 => by cases e; exact hne e2.symm)
  have u2 := (u1.stored k (.int .i64 m)).1
  have v2 := owns_fr v1 (Fr.set (w := wr.setCell ⟨g, k, none⟩ (.int .i64 m)) (g := gu) (k := k) (v := .int .i64 m)) (fun b e e2 => by cases e; exact hne e2)
  rw [e] at u2 v2
  exact ⟨v2, u2, (h.fr.trans Fr.set (fun b e => .inl (by rw [show b = g from e]; rfl))).trans Fr.set (fun b e => .inr (by rw [show b = gu from e]; exact h.hi gu rfl)), h.lo, h.hi⟩
theorem cuI0 {w wu : World} {a : Option Addr} {n c : Nat} {ua : Option Addr} {uc : Nat} {x : List Int} {K : Kb} (hU : wu.ownsRow 0 3 1 (.slice ua n uc) n (x.map (Value.int .i64)) ∧ (∀ k, (Value.slice ua n uc).ownBlock = some k → w.heap.size ≤ k) ∧ Below w.heap.size w wu) (hV : w.ownsRow 0 3 1 (.slice a n c) n (x.map (Value.int .i64)) ∧ x.length = n ∧ ∀ k, (Value.slice a n c).ownBlock = some k → ¬ K.all k) : CuI w wu a n c ua uc :=
  ⟨x, hV.2.1, owns_fr hV.1 (below_fr hU.2.2 (fun _ => False)) (fun _ _ e => e), hU.1, below_fr hU.2.2 _⟩
set_option maxRecDepth 100000 in
set_option maxHeartbeats 8000000 in
theorem kints_any (w : World) (K : Kb) (h : KbI w K) (v : Value) (n : Nat) (x : List Int) (hv : w.ownsRow 0 3 1 v n (x.map (Value.int .i64))) (hn : n ≤ 10000000) (hf : ∀ k, v.ownBlock = some k → ¬ K.all k) (hb : K.im + 1 ≤ 1000000000000) :
    Calls Tryz.prog 38 #[.pointer (some ⟨K.kb, 0, none⟩), v] w fun e w' => e = .returned (.tuple #[]) ∧ KiP w K v w' := by
  have hxl : x.length = n := by have := hv.1; rw [List.length_map] at this; omega
  obtain ⟨a, c, rfl, hnc, hga, _⟩ := owns_slice hv
  obtain ⟨ia, ic, hiv, hicc, _⟩ := owns_slice h.i.row
  obtain ⟨ta, tc, htv, htcc, _⟩ := owns_slice h.t.row
  obtain ⟨kb, hkb⟩ : ∃ kb, K.kb = kb := ⟨_, rfl⟩
  obtain ⟨im, him⟩ : ∃ im, K.im = im := ⟨_, rfl⟩
  have hz := h.box
  rw [hkb] at hz ⊢
  rw [him] at hiv hicc htv htcc hb
  have c1 : w.cell? ⟨kb, 1, none⟩ = some (.slice ia im ic) := by rw [← hiv]; exact cell_of_row _ _ 1 _ _ _ hz
  have HK : Hid (KbI w K ∧ K.kb = kb ∧ K.im = im ∧ K.iv = .slice ia im ic ∧ K.tv = .slice ta im tc) := ⟨h, hkb, him, hiv, htv⟩
  have HV : Hid (w.ownsRow 0 3 1 (.slice a n c) n (x.map (Value.int .i64)) ∧ x.length = n ∧ ∀ k, (Value.slice a n c).ownBlock = some k → ¬ K.all k) := ⟨hv, hxl, hf⟩
  clear h hv hxl hf hz hkb him hiv htv
  obtain ⟨i1, j1, j2, j3, j4⟩ := info_parts infoI64
  obtain ⟨i2, k1, k2, k3, k4⟩ := info_parts infoSI
  go_enter Tryz.func38, Tryz.ntmps38
  go_upto_region 2 with fail
  go_upto_region 3 with (at_builtin; refine wp_cpyV rfl (.tmp 12) (.tmp 13) 70 rfl rfl app_zeroI 3 i1 _ 1 8 Tryz.underlying70 j1 j2 j3 j4 rfl (by decide) rfl (.slice a n c) n (x.map (Value.int .i64)) rfl HV.out.1 (by intro u hu; rcases List.mem_map.1 hu with ⟨y, _, rfl⟩; rfl) (by unfold maxLen; omega) (by omega) ?_
                         rintro u wu hu1 hu2 ⟨ua, uc, rfl, huc, hug⟩ hu3
                         have HU : Hid (wu.ownsRow 0 3 1 (.slice ua n uc) n (x.map (Value.int .i64)) ∧ (∀ k, (Value.slice ua n uc).ownBlock = some k → w.heap.size ≤ k) ∧ Below w.heap.size w wu) := ⟨hu1, hu2, hu3⟩
                         clear hu1 hu2 hu3)
  clear c1
  go_upto_if 17 with fail
  go_cut [6, 18, 19, 20, 21, 22, 23, 24, 25, 26, 27, 28, 29, 30, 31, 32, 33, 34, 35] (fun _ _ _ _ _ _ _ _ _ _ _ _ _ _ _ _ _ _ _ wy => CuI w wy a n c ua uc)
  case first =>
    obtain ⟨q, hq⟩ : ∃ q, ((im : Int) % 2 == 1) = q := ⟨_, rfl⟩
    rw [hq]
    cases q
    · go_wp2
      go_meet
      exact cuI0 HU.out HV.out
    · clear hq
      go_wp2
      go_loopw [6, 20, 21, 22, 23, 24, 25, 26, 27, 28, 29, 30, 31, 32, 33, 34, 35] (fun _ i _ _ _ _ _ _ _ _ _ _ _ _ _ _ _ wr => ∃ k : Nat, k ≤ n ∧ i = .int .i64 k ∧ CuL w wr a n c ua uc (mks k (-(im : Int) - 1) x)) (fun _ i _ _ _ _ _ _ _ _ _ _ _ _ _ _ _ _ => n - (intOf i).toNat)
      case atStart => exact ⟨0, Nat.zero_le _, rfl, cuL0 HU.out HV.out⟩
      case round =>
        obtain ⟨k, hk, rfl, hL⟩ := hrel
        have HL : Hid (CuL w wr a n c ua uc (mks k (-(im : Int) - 1) x)) := hL
        clear hL
        by_cases hlt : k < n
        · obtain ⟨g, rfl⟩ := hga.resolve_left (by omega)
          obtain ⟨gu, rfl⟩ := hug.resolve_left (by omega)
          obtain ⟨y1, d1⟩ := HL.out.cell1 hlt
          have f1 := HL.out.v.frozenAt k
          obtain ⟨y2, d2⟩ := HL.out.cell2 hlt
          have f2 := HL.out.u.frozenAt k
          have H5 := HL.out.next hlt HV.out.2.1
          have hne : g ≠ gu := HL.out.ne
          have H6 : Hid (CuL w ((wr.setCell ⟨g, k, none⟩ (.int .i64 (-(im : Int) - 1))).setCell ⟨gu, k, none⟩ (.int .i64 (-(im : Int) - 1))) (some ⟨g, 0, none⟩) n c (some ⟨gu, 0, none⟩) uc (mks (k + 1) (-(im : Int) - 1) x)) := H5
          clear H5
          have d3 : (wr.setCell ⟨g, k, none⟩ (.int .i64 (-(im : Int) - 1))).cell? ⟨gu, k, none⟩ = some (.int .i64 y2) := (Fr.set (g := g)).cell d2 (fun e => hne e.symm)
          go_wp2
          exact ⟨⟨k + 1, hlt, rfl, H6.out⟩, by simp [intOf]; omega⟩
        · have hkn : k = n := by omega
          go_wp2
          go_meet
          exact ⟨_, HL.out.len HV.out.2.1 hk, HL.out.v, HL.out.u, HL.out.fr⟩
  case rest =>
    obtain ⟨y, hyl, hyv, hyu, hyf⟩ := hcut
    have hbK := HK.out.1.fr hyf (fun k e e2 => HV.out.2.2 k e2 e)
    have hkz := hbK.box
    rw [HK.out.2.1] at hkz
    have c1 : wc.cell? ⟨kb, 1, none⟩ = some (.slice ia im ic) := by rw [← HK.out.2.2.2.1]; exact cell_of_row _ _ 1 _ _ _ hkz
    have HC : Hid (KbI wc K) := hbK
    have HY : Hid (y.length = n ∧ wc.ownsRow 0 3 1 (.slice a n c) n (y.map (Value.int .i64)) ∧ wc.ownsRow 0 3 1 (.slice ua n uc) n (y.map (Value.int .i64)) ∧ Fr (fun k => (Value.slice a n c).ownBlock = some k) w wc) := ⟨hyl, hyv, hyu, hyf⟩
    have HRow : Hid (wc.ownsRow 0 70 1 (.slice ia im ic) im ((List.range im).flatMap (fun i => [K.iV i]))) := by
      have e := hbK.i.row
      rw [HK.out.2.2.2.1, HK.out.2.2.1] at e; exact e
    have HRoT : Hid (wc.ownsRow 0 70 1 (.slice ta im tc) im ((List.range im).flatMap (fun i => [K.tV i]))) := by
      have e := hbK.t.row
      rw [HK.out.2.2.2.2, HK.out.2.2.1] at e; exact e
    clear hyl hyv hyu hyf hbK hkz
    have ha : Below wc.heap.size wc (wc.alloc (.cells #[.slice a n c] 70)) := (Below.refl _ _).alloc (Nat.le_refl _) _
    go_upto_region 11 with (at_builtin; refine wp_own rfl (.tmp 40) (.tmp 42) 39 rfl 70 i2 _ 1 24 Tryz.underlying39 k1 k2 k3 k4 rfl (by decide) (.slice ia im ic) im ((List.range im).flatMap (fun i => [K.iV i])) rfl (owns_fr HRow.out (below_fr ha (fun _ => False)) (fun _ _ e => e)) ⟨wc.heap.size, 0, none⟩ 1 1 [.slice a n c] rfl (by decide) rfl (news_of (heap_alloc_new wc _) _ rfl) (by intro u hu; simp at hu; subst hu; rfl) (by unfold maxLen; omega) (by omega) ?_
                            intro b bc w1 h1 h2 h3
                            have HM := ki1 HK.out HC.out (ha) h1 h2
                            have d1 : w1.cell? ⟨kb, 1, none⟩ = some K.iv := cell_of_row _ _ 1 _ _ _ HM.1
                            have e1 : w1.frozen? ⟨kb, 1, none⟩ = false := frozen_of_row _ _ 1 _ _ HM.1
                            have H1 : Hid (w1.ownsRow 0 70 1 (.slice (some ⟨b, 0, none⟩) (im + 1) bc) (im + 1) ((List.range im).flatMap (fun i => [K.iV i]) ++ [.slice a n c]) ∧ Fr (fun k => (Value.slice ia im ic).ownBlock = some k) (wc.alloc (.cells #[.slice a n c] 70)) w1 ∧ ((Value.slice ia im ic).ownBlock = some b ∨ (wc.alloc (.cells #[.slice a n c] 70)).heap.size ≤ b)) := ⟨h1, h2, h3⟩
                            have HM2 : Hid ((w1.setCell ⟨kb, 1, none⟩ (.slice (some ⟨b, 0, none⟩) (im + 1) bc)).heap[kb]? = some (.cells #[K.bv, .slice (some ⟨b, 0, none⟩) (im + 1) bc, K.tv] 41 (0, 0)) ∧ (w1.setCell ⟨kb, 1, none⟩ (.slice (some ⟨b, 0, none⟩) (im + 1) bc)).ownsRow 0 70 1 (.slice ta im tc) im ((List.range im).flatMap (fun i => [K.tV i]))) := HM.2 _ rfl
                            clear h1 h2 h3 HM c1)
    obtain ⟨w2, hw2⟩ : ∃ w2, w1.setCell ⟨kb, 1, none⟩ (.slice (some ⟨b, 0, none⟩) (im + 1) bc) = w2 := ⟨_, rfl⟩
    rw [hw2] at HM2 ⊢
    have c2 : w2.cell? ⟨kb, 2, none⟩ = some (.slice ta im tc) := by rw [← HK.out.2.2.2.2]; exact cell_of_row _ _ 2 _ _ _ HM2.out.1
    clear d1 e1
    have ha2 : Below w2.heap.size w2 (w2.alloc (.cells #[.slice ua n uc] 70)) := (Below.refl _ _).alloc (Nat.le_refl _) _
    go_wp2_with (at_builtin; refine wp_own rfl (.tmp 50) (.tmp 52) 39 rfl 70 i2 _ 1 24 Tryz.underlying39 k1 k2 k3 k4 rfl (by decide) (.slice ta im tc) im ((List.range im).flatMap (fun i => [K.tV i])) rfl (owns_fr HM2.out.2 (below_fr ha2 (fun _ => False)) (fun _ _ e => e)) ⟨w2.heap.size, 0, none⟩ 1 1 [.slice ua n uc] rfl (by decide) rfl (news_of (heap_alloc_new w2 _) _ rfl) (by intro u hu; simp at hu; subst hu; rfl) (by unfold maxLen; omega) (by omega) ?_
                 intro b' bc' w3 h1 h2 h3
                 have HF := ki2 HK.out HV.out.2.2 HU.out.2.1 HY.out hn hb ha (fun k e => owns_block HV.out.1 e) H1.out hw2 ha2 h1 h2 h3
                 have d2 : w3.cell? ⟨kb, 2, none⟩ = some K.tv := cell_of_row _ _ 2 _ _ _ HF.1
                 have e2 : w3.frozen? ⟨kb, 2, none⟩ = false := frozen_of_row _ _ 2 _ _ HF.1
                 have H9 : Hid (KiP w K (.slice a n c) (w3.setCell ⟨kb, 2, none⟩ (.slice (some ⟨b', 0, none⟩) (im + 1) bc'))) := HF.2
                 clear h1 h2 h3 HF c2)
    go_end0
    exact ⟨rfl, H9.out⟩
end Go.Proofs.YtcbebalakdkgnaaGreatDoor

namespace Go.Proofs.YtcbebalakdkgnaaGreatDoor
open Go.RowKit Rec
theorem lnCells_get (Q : List LnR) (r : List Value) (j : Nat) (q : LnR) (h : Q[j]? = some q) : (Q.flatMap LnR.cells ++ r)[j * 2]? = some (.int .i64 q.n) ∧ (Q.flatMap LnR.cells ++ r)[j * 2 + 1]? = some (.slice (some ⟨q.g, 0, none⟩) q.x.length q.c) := by
  induction Q generalizing j with
  | nil => simp at h
  | cons p Q ih =>
    rw [List.flatMap_cons, List.append_assoc]
    cases j with
    | zero => simp only [List.getElem?_cons_zero, Option.some.injEq] at h; subst h; exact ⟨rfl, rfl⟩
    | succ j =>
      rw [List.getElem?_cons_succ] at h
      have := ih j h
      rw [show (j + 1) * 2 = j * 2 + 2 by omega, show j * 2 + 2 + 1 = (j * 2 + 1) + 2 by omega]
      exact this
/-- what was lent, as it was -/
structure KpA (w : World) (g cap n : Nat) (Q : List LnR) : Prop where
  row : w.ownsRow 0 100 2 (.slice (some ⟨g, 0, none⟩) (n + 1) cap) (n + 1) (Q.flatMap LnR.cells ++ [.int .i64 (-7), .slice none 0 0])
  len : Q.length = n
  each : ∀ q ∈ Q, OwnB w q.g q.c (q.x ++ [77, 78, 79])
theorem KpA.fr {S : Nat → Prop} {w w' : World} {g cap n : Nat} {Q : List LnR} (h : KpA w g cap n Q) (x : Fr S w w') (hg : ¬ S g) (hq : ∀ q ∈ Q, ¬ S q.g) : KpA w' g cap n Q := ⟨owns_fr h.row x (fun k e => by cases e; exact hg), h.len, fun q hm => (h.each q hm).fr x (hq q hm)⟩
theorem KpA.on {w w' : World} {g cap n : Nat} {Q : List LnR} (h : KpA w g cap n Q) (hb : Below w.heap.size w w') : KpA w' g cap n Q := h.fr (below_fr hb (fun _ => False)) (fun e => e) (fun _ _ e => e)
theorem KpA.cell {w : World} {g cap n j : Nat} {Q : List LnR} {q : LnR} (h : KpA w g cap n Q) (hq : Q[j]? = some q) : w.cell? ⟨g, j * 2, none⟩ = some (.int .i64 q.n) ∧ w.cell? ⟨g, j * 2 + 1, none⟩ = some (.slice (some ⟨q.g, 0, none⟩) q.x.length q.c) := by
  obtain ⟨h1, h2⟩ := lnCells_get Q [.int .i64 (-7), .slice none 0 0] j q hq
  have hl := (List.getElem?_eq_some_iff.1 hq).1
  have := h.len
  constructor
  · rw [h.row.cellAt (j * 2) (by omega), h1]
  · rw [h.row.cellAt (j * 2 + 1) (by omega), h2]
theorem KpA.last {w : World} {g cap n : Nat} {Q : List LnR} (h : KpA w g cap n Q) : w.cell? ⟨g, n * 2, none⟩ = some (.int .i64 (-7)) := by
  rw [h.row.cellAt (n * 2) (by omega), List.getElem?_append_right (by rw [lnCells_len, h.len]; exact Nat.le_refl _), lnCells_len, h.len, Nat.sub_self]; rfl
/-- behind the first append -/
structure Du1 (w w1 : World) (v : Value) (m : Nat) (x : List Int) : Prop where
  own : w1.ownsRow 0 5 1 v m (x.map (Value.int .u8))
  far : ∀ k, v.ownBlock = some k → w.heap.size ≤ k
  bel : Below w.heap.size w w1
theorem Du1.on {w w1 w2 : World} {v : Value} {m : Nat} {x : List Int} (h : Du1 w w1 v m x) (hb : Below w1.heap.size w1 w2) : Du1 w w2 v m x := ⟨owns_on h.own hb, h.far, h.bel.trans (hb.mono h.bel.size)⟩
end Go.Proofs.YtcbebalakdkgnaaGreatDoor

namespace Go.Proofs.YtcbebalakdkgnaaGreatDoor
open Go.RowKit Rec
theorem keep_settle (a : AD) (kp : Nat → Bool) : (a.settle kp).keep = a.keep := rfl
theorem keep_tick (a : AD) : a.tick.keep = a.keep := by unfold AD.tick; split <;> rfl
theorem keep_write (a : AD) (i : Nat) (x : List Int) : (a.write i x).keep = a.keep := by
  unfold AD.write
  simp only []
  split
  · rfl
  · rw [keep_tick]
theorem keep_flush (a : AD) : a.flush.keep = a.keep := by
  unfold AD.flush
  simp only []
  split
  · rfl
  · rw [keep_settle]; show AD.keep (AD.tick _) = _; rw [keep_tick]
theorem keep_act (a : AD) (t : WA) : (a.act t).keep = a.keep := by
  cases t with
  | none => exact keep_flush a
  | some p => exact keep_write a p.1 p.2
theorem keep_take (xs : List WA) (a : AD) : (a.take xs).keep = a.keep := by
  induction xs generalizing a with
  | nil => rfl
  | cons t r ih =>
    rw [AD.take]
    split
    · rfl
    · split
      · exact keep_act a t
      · rw [ih, keep_act]
def LnR.bk (q : LnR) : Bk := ⟨q.n, q.g, q.c, q.x⟩
theorem openE_abs (D : Dk) : openE D = opE D.abs := by
  unfold openE opE
  rw [abs_full]; rfl
/-- Recover, on the program's side -/
theorem precover_any (w : World) (D : Dk) (h : Disk w D) (hT : TabAt w) (hr : RoomN D.abs 99) :
    Calls Tryz.prog 53 #[.pointer (some ⟨D.d, 0, none⟩)] w fun e w' => e = .returned (.tuple #[.int .i64 (rcK D.abs), .int .i64 (rcE D.abs)]) ∧ ∃ D', Disk w' D' ∧ Mv w D w' D' ∧ Al w.heap.size D D' ∧ D'.abs = rcT D.abs := by
  have e1 := openE_abs D
  have e2 := abs_full D
  have e3 : D.abs.nb = D.nb := rfl
  unfold rcK rcE rcT rcX
  rw [← e1, ← e2, e3]
  by_cases he : openE D = 0
  · rw [if_pos he, if_pos he, if_pos he]
    by_cases h0 : logN D.full D.nb = []
    · rw [if_pos h0, if_pos h0, if_pos h0]
      refine (recover_nil w D h hT he h0).mono ?_
      rintro e w1 ⟨rfl, hb⟩
      exact ⟨rfl, D, h.on hb, mv_on _ _ _ hb, fun _ hk => .inl hk, rfl⟩
    · rw [if_neg h0, if_neg h0, if_neg h0]
      have hk := logN_len D.full D.nb
      refine (recover_yes w D h hT he _ rfl (by cases hh : logN D.full D.nb with | nil => exact absurd hh h0 | cons _ _ => simp) (hr.le (by omega))).mono ?_
      rintro e w1 ⟨he2, E, hE⟩
      refine ⟨?_, E, hE.disk, hE.mv, hE.al, hE.abs⟩
      rcases he2 with ⟨h1, rfl⟩ | ⟨h1, rfl⟩
      · rw [h1, if_pos rfl]
      · rw [h1, if_neg (by decide)]
  · rw [if_neg he, if_neg he, if_neg he]
    refine (recover_no w D h hT he).mono ?_
    rintro e w1 ⟨rfl, hb⟩
    exact ⟨rfl, D, h.on hb, mv_on _ _ _ hb, fun _ hk => .inl hk, rfl⟩
theorem WS.roomN {w0 w : World} {D : Dk} {R : RDk} {j : Nat} (h : WS w0 w D R j) (hj : j + 200 ≤ 1000000000) (n : Nat) (hn : n ≤ 200) : RoomN D.abs n := by
  obtain ⟨h1, h2, h3, h4⟩ := h.lens
  have h5 := h.kd
  exact ⟨by omega, by omega, by omega, by omega, by show D.keep.length ≤ _; omega⟩
/-- what was told, and what it was -/
structure TB where
  a : Option Addr
  c : Nat
  x : List Int
def TB.v (q : TB) : Value := .slice q.a q.x.length q.c
def TB.s (q : TB) : Value := .string (strOfNums q.x)
end Go.Proofs.YtcbebalakdkgnaaGreatDoor

namespace Go.Proofs.YtcbebalakdkgnaaGreatDoor
open Go.RowKit Rec
theorem WS.up {w0 w : World} {D : Dk} {R : RDk} {j j' : Nat} (h : WS w0 w D R j) (hj : j ≤ j') : WS w0 w D R j' := ⟨h.d, h.t.up hj, h.ap, h.new, h.be, h.kd⟩
theorem keep_armA (a : AD) (t : Int) (K : List Bool) : (armA a t K).keep = a.keep ∨ (armA a t K).keep = K := by
  unfold armA
  split
  · exact .inl rfl
  · exact .inr rfl
theorem Bools.on0 {w0 w : World} {v : Value} {K : List Bool} (h : Bools w0 v K) (hb : Below w0.heap.size w0 w) : Bools w v K := h.on hb
end Go.Proofs.YtcbebalakdkgnaaGreatDoor

namespace Go.Proofs.YtcbebalakdkgnaaGreatDoor
open Go.RowKit Rec
/-- what Behind answers, in one word -/
def bhX (a : AD) : List Int := if opE a = 0 then behind a.full a.nb else []
structure Tl (w : World) (lo : Nat) (pa : Option Addr) (c : Nat) (x : List Int) : Prop where
  own : w.ownsRow 0 5 1 (.slice pa x.length c) x.length (x.map (Value.int .u8))
  far : ∀ k, (Value.slice pa x.length c).ownBlock = some k → lo ≤ k
  wf : ∀ i, 0 ≤ nth x i ∧ nth x i < 256
theorem Tl.on {w w' : World} {lo c : Nat} {pa : Option Addr} {x : List Int} (h : Tl w lo pa c x) (hb : Below w.heap.size w w') : Tl w' lo pa c x := ⟨owns_on h.own hb, h.far, h.wf⟩
theorem Tl.pt {w : World} {lo c : Nat} {pa : Option Addr} {x : List Int} (h : Tl w lo pa c x) (hx : x.length ≤ 1000000000000000) : (x = [] ∧ pa = none ∧ c = 0) ∨ ∃ g, pa = some ⟨g, 0, none⟩ ∧ OwnB w g c x ∧ lo ≤ g := by
  rcases h.own.2 with ⟨e, h0⟩ | ⟨g, cap, cur, e, _⟩
  · injection e with e1 e2 e3
    exact .inl ⟨List.eq_nil_of_length_eq_zero h0, e1, e3⟩
  · injection e with e1 e2 e3
    subst e1 e3
    exact .inr ⟨g, rfl, ownB_of h.own rfl hx h.wf, h.far g rfl⟩
theorem Tl.bytes {w : World} {lo c : Nat} {pa : Option Addr} {x : List Int} (h : Tl w lo pa c x) (hx : x.length ≤ 1000000000000000) : Bytes w pa x := by
  rcases h.pt hx with ⟨rfl, rfl, _⟩ | ⟨g, rfl, ho, _⟩
  · exact nil_bytes w
  · exact ho.bytes
def BhQ (w : World) (n : Nat) (x : List Int) (E : Int) (e : Ending) (w' : World) : Prop := ∃ pa c, e = .returned (.tuple #[.slice pa n c, .int .i64 E]) ∧ Tl w' w.heap.size pa c x ∧ Below w.heap.size w w'
theorem BhP.q {w w' : World} {a : AD} {e : Ending} (_hn : a.nb ≤ 16384) (hl : a.down = false → a.full.length = 512 * a.nb) (h : BhP w a e w') : BhQ w (bhX a).length (bhX a) (opE a) e w' := by
  unfold bhX
  rcases h with ⟨h1, rfl, hb⟩ | ⟨h1, g, cap, rfl, ho, hg, hb⟩
  · rw [if_neg h1]
    exact ⟨none, 0, rfl, ⟨⟨rfl, .inl ⟨rfl, rfl⟩⟩, fun k e => (by cases e), fun i => (by simp [nth])⟩, hb⟩
  · rw [if_pos h1]
    have hd : a.down = false := by
      cases e : a.down with
      | false => rfl
      | true => unfold opE at h1; rw [e] at h1; simp at h1
    have hlen : (behind a.full a.nb).length = 512 * a.nb := by rw [behind_length]; exact hl hd
    rw [h1]
    exact ⟨_, cap, by rw [hlen], ⟨owns_of ho (Nat.zero_le _), fun k e => (by cases e; exact hg), ho.wf⟩, hb⟩
end Go.Proofs.YtcbebalakdkgnaaGreatDoor

namespace Go.Proofs.YtcbebalakdkgnaaGreatDoor
open Go.RowKit Rec
/-- the document's disk, new -/
def newR (r nb g cap : Nat) (l : List Int) : RDk := { r := r, nb := nb, gf := g, cf := cap, f := l, av := .slice none 0 0, L := [], kv := .slice none 0 0, keep := [], left := 0, out := false, wr := 0, fl := 0 }
theorem newR_disk {w : World} {r nb g cap : Nat} {l : List Int} (hb : w.heap[r]? = some (.cells (newR r nb g cap l).cells 51 (0, 0))) (ho : OwnB w g cap l) (hl : l.length = 512 * nb) (h0 : 1 ≤ nb) (h1 : nb ≤ 16384) : RDisk w (newR r nb g cap l) :=
  ⟨hb, ho, hl, ⟨h0, h1⟩, ⟨rfl, .inl ⟨rfl, rfl⟩⟩, (fun _ h => by cases h), ⟨rfl, .inl ⟨rfl, rfl⟩⟩, (by show 0 ≤ _; omega), Int.le_refl _⟩
theorem newR_all {r nb g cap : Nat} {l : List Int} {k : Nat} (h : (newR r nb g cap l).all k) : k = r ∨ k = g := by
  rcases h with e | e | e | e | ⟨q, hq, _⟩
  · exact .inl e
  · exact .inr e
  · cases e
  · cases e
  · cases hq
theorem newDk_each {d L nw capL nb : Nat} {l : List Int} {k : Nat} (h : (newDk d L nw capL nb l).all k) : k = d ∨ k = L ∨ k = nw := by
  rcases h with (e | e | e | e | e) | e | ⟨_, hp, _⟩ | ⟨_, hp, _⟩
  · exact .inl e
  · exact .inr (.inl e)
  · exact .inr (.inr e)
  · cases e
  · cases e
  · cases e
  · cases hp
  · cases hp
theorem new_tie (d L nw capL nb r g cap : Nat) (l : List Int) : Tie (newDk d L nw capL nb l).abs (newR r nb g cap l) :=
  ⟨rfl, rfl, rfl, rfl, rfl, (fun i hi => absurd hi (Nat.not_lt_zero _)), fun _ => ⟨rfl, rfl, .inl ⟨Int.le_refl _, rfl⟩⟩, (fun e => by cases e)⟩
theorem eql_ptr1 (w : World) (p : Addr) : (binOp .eql 24 (.pointer (some p)) (.pointer none)).run Tryz.prog w = .ok (.bool false) w := by
  have h : ∀ d : Nat, (Op.equalIn (d + 1) 24 (.pointer (some p)) (.pointer none)).run Tryz.prog w = .ok false w := fun d => by
    simp [Op.equalIn, run_underlying Tryz.underlying24]
  simp only [binOp]
  simp [Op.equal, Op.maxDepth, h 9999]
/-- a new disk of the document's -/
def OfR (w : World) (nb : Nat) (l : List Int) (e : Ending) (w' : World) : Prop := ∃ r g cap, e = .returned (.tuple #[.pointer (some ⟨r, 0, none⟩), .int .i64 0]) ∧ w.heap.size ≤ r ∧ w.heap.size ≤ g ∧ RDisk w' (newR r nb g cap l) ∧ Below w.heap.size w w'
set_option maxRecDepth 100000 in
set_option maxHeartbeats 800000 in
theorem of_yesR (w : World) (p : Addr) (c nb : Nat) (l : List Int) (hb : Bytes w (some p) l) (hn : l.length = 512 * nb) (h0 : 1 ≤ nb) (h1 : nb ≤ 16384) :
    Calls Tryz.prog 55 #[.slice (some p) (512 * nb : Nat) c] w (OfR w nb l) := by
  have HI : Hid (Bytes w (some p) l) := hb
  have HN : Hid (l.length = 512 * nb) := hn
  clear hb hn
  have hz : ((512 * (nb : Int)) == 0) = false := by rw [beq_eq_false_iff_ne]; omega
  have hz2 : ¬ 512 * (nb : Int) = 0 := by omega
  go_enter Tryz.func55, Tryz.ntmps55
  go_wp2_with (go_at_call 62; refine (copied_any _ p (512 * nb) c l HI.out HN.out (by omega) (by omega)).mono ?_; rintro e w1 ⟨g, cap, rfl, hg, ho, hb⟩; have H1 : Hid (w.heap.size ≤ g ∧ OwnB w1 g cap l ∧ Below w.heap.size w w1) := ⟨hg, ho, hb⟩; clear hg ho hb)
  go_ret2
  have ha : Below w1.heap.size w1 (w1.alloc (.cells (newR w1.heap.size nb g cap l).cells 51)) := (Below.refl _ _).alloc (Nat.le_refl _) _
  exact ⟨w1.heap.size, g, cap, rfl, H1.out.2.2.size, H1.out.1, newR_disk (heap_alloc_new w1 _) (H1.out.2.1.on ha) HN.out h0 h1, H1.out.2.2.alloc H1.out.2.2.size _⟩
set_option maxRecDepth 100000 in
set_option maxHeartbeats 800000 in
theorem rnew_yes (w : World) (nb : Nat) (h0 : 1 ≤ nb) (h1 : nb ≤ 16384) : Calls Tryz.prog 6 #[.int .i64 nb] w (OfR w nb (zsA (512 * nb))) := by
  have hz : ¬ (nb : Int) < 1 := by omega
  have hz2 : ¬ 16384 < (nb : Int) := by omega
  go_enter Tryz.func6, Tryz.ntmps6
  go_wp2_with (at_make; refine wp_makeB rfl _ _ rfl _ _ _ _ (512 * nb) rfl rfl (by omega) (by omega) (by omega) ?_; intro w1 ho hb; have HO : Hid (OwnB w1 w.heap.size (512 * nb) (zsA (512 * nb))) := ho; have HB : Hid (Below w.heap.size w w1) := hb; clear ho hb)
  go_ret2
  have ha : Below w1.heap.size w1 (w1.alloc (.cells (newR w1.heap.size nb w.heap.size (512 * nb) (zsA (512 * nb))).cells 51)) := (Below.refl _ _).alloc (Nat.le_refl _) _
  exact ⟨w1.heap.size, w.heap.size, 512 * nb, rfl, HB.out.size, Nat.le_refl _, newR_disk (heap_alloc_new w1 _) (HO.out.on ha) (zsA_length _) h0 h1, HB.out.alloc HB.out.size _⟩
theorem new_rt {w : World} {d L nw capL nb r g cap j : Nat} {l : List Int} (h : RDisk w (newR r nb g cap l)) : RT w (newDk d L nw capL nb l).abs (newR r nb g cap l) j :=
  ⟨h, new_tie _ _ _ _ _ _ _ _ _, Nat.zero_le _, (by show (0 : Int) ≤ _; omega), (by show (0 : Int) ≤ _; omega), Nat.zero_le _, (by show (0 : Int) ≤ _; omega)⟩
/-- two new disks -/
structure NewW (w w' : World) (D : Dk) (R : RDk) (j : Nat) : Prop where
  d : Disk w' D
  t : RT w' D.abs R j
  ap : ∀ k, D.all k → ¬ R.all k
  nd : ∀ k, D.all k ∨ R.all k → w.heap.size ≤ k
  be : Below w.heap.size w w'
  kd : D.keep.length ≤ 1000000000000000
theorem new_ww {w w1 w2 w3 w4 : World} {d L nw capL nb r g cap j : Nat} {l : List Int} (h1 : w1.heap.size ≤ d ∧ w1.heap.size ≤ nw ∧ w1.heap.size ≤ L) (hD : Disk w2 (newDk d L nw capL nb l)) (h3 : w3.heap.size ≤ r ∧ w3.heap.size ≤ g) (hR : RDisk w4 (newR r nb g cap l)) (b1 : Below w.heap.size w w1) (b2 : Below w1.heap.size w1 w2) (b3 : Below w2.heap.size w2 w3) (b4 : Below w3.heap.size w3 w4) : NewW w w4 (newDk d L nw capL nb l) (newR r nb g cap l) j := by
  have s1 := b1.size
  have s2 := b2.size
  have s3 := b3.size
  have l1 : d < w2.heap.size := hD.ltAll (.inl (.inl rfl))
  have l2 : L < w2.heap.size := hD.ltAll (.inl (.inr (.inl rfl)))
  have l3 : nw < w2.heap.size := hD.ltAll (.inl (.inr (.inr (.inl rfl))))
  refine ⟨(hD.on b3).on b4, new_rt hR, fun k e e2 => ?_, fun k e => ?_, b1.trans ((b2.trans ((b3.trans (b4.mono b3.size)).mono b2.size)).mono b1.size), Nat.zero_le _⟩
  · rcases newDk_each e with e | e | e <;> rcases newR_all e2 with e2 | e2 <;> omega
  · rcases e with e | e
    · rcases newDk_each e with e | e | e <;> omega
    · rcases newR_all e with e | e <;> omega
end Go.Proofs.YtcbebalakdkgnaaGreatDoor

namespace Go.Proofs.YtcbebalakdkgnaaGreatDoor
open Go.RowKit Rec
/-- blocks of several owners, none of two -/
def Sep (A : Nat → Nat → Prop) : Prop := ∃ lab : Nat → Nat, ∀ i k, A i k → lab k = i
theorem Sep.ne {A : Nat → Nat → Prop} (h : Sep A) {i j k : Nat} (hij : i ≠ j) (h1 : A i k) : ¬ A j k := fun h2 => by
  obtain ⟨lab, hl⟩ := h
  exact hij ((hl i k h1).symm.trans (hl j k h2))
theorem Sep.step {A A' : Nat → Nat → Prop} (N : Nat → Prop) (h : Sep A) (hA : ∀ i k, A' i k → A i k ∨ N k) (hn : ∀ i i' k, N k → A' i k → A' i' k → i = i') : Sep A' := by
  obtain ⟨lab, hl⟩ := h
  classical
  refine ⟨fun k => if N k then (if hx : ∃ i, A' i k then hx.choose else 0) else lab k, fun i k hk => ?_⟩
  dsimp only
  by_cases hN : N k
  · rw [if_pos hN, dif_pos ⟨i, hk⟩]
    have hx : ∃ i, A' i k := ⟨i, hk⟩
    exact hn _ _ k hN hx.choose_spec hk
  · rw [if_neg hN]
    exact hl i k ((hA i k hk).resolve_right hN)
/-- a disk whose log is empty, or, without power, good -/
structure Rs (a : AD) : Prop where
  len : a.las.length = 512 * a.nb
  pen : a.P = []
  up : a.down = false → bck a.las 1 = zs
  dn : a.down = true → ∃ W, Well a.nb W a.las
theorem Rs.nb98 {a : AD} (h : Rs a) (hd : a.down = true) : 98 ≤ a.nb := by
  obtain ⟨W, hW⟩ := h.dn hd
  have := hW.ok
  unfold logE at this
  by_cases h9 : a.nb < 98
  · rw [if_pos h9] at this; exact absurd this (by decide)
  · omega
theorem Rs.full {a : AD} (h : Rs a) : a.full = a.las := by rw [AD.full_fw, h.pen]; rfl
/-- a commit leaves it so -/
theorem Rs.commit {a : AD} {ns : List Int} {ds : List (List Int)} (h : Rs a) (ok : ComOk a.nb ns ds) : Rs (a.take (commitA ns ds)) := by
  have hnb : (a.take (commitA ns ds)).nb = a.nb := take_nb _ _
  by_cases hd : a.down = true
  · have e : a.take (commitA ns ds) = a := by
      obtain ⟨t, xs, e⟩ : ∃ t xs, commitA ns ds = t :: xs := by
        cases e : commitA ns ds with
        | nil => unfold commitA at e; simp at e
        | cons t xs => exact ⟨t, xs, rfl⟩
      rw [e]; exact (take_down a t xs hd).2
    rw [e]; exact h
  · have hd' : a.down = false := by cases e : a.down with | true => exact absurd e hd | false => rfl
    obtain ⟨t1, t2⟩ := take_commit a a.nb ns ds ok h.len (h.up hd') h.pen hd'
    by_cases hc : 1 ≤ a.at_ ∧ a.at_ ≤ 2 * (ns.length : Int) + 6
    · obtain ⟨_, e2, e3, _, e5⟩ := t2 hc
      exact ⟨by rw [hnb]; exact e5.len, e3, (fun e => by rw [e2] at e; cases e), fun _ => ⟨_, by rw [hnb]; exact e5⟩⟩
    · obtain ⟨e1, _, e3, e5⟩ := t1 hc
      have h98 : 98 ≤ a.nb := ok.n98
      refine ⟨by rw [hnb]; exact e5.len, by rw [e1]; rfl, fun _ => ?_, fun e => ?_⟩
      · rw [e3, behind_one _ _ (headed_log ok h.len).1 h98]
      · rw [e1] at e; exact absurd e (by show ¬ a.down = true; exact hd)
/-- what Behind says of such an image -/
theorem Rs.behind {a : AD} (h : Rs a) (hd : a.down = true) (hw : ∀ i, 0 ≤ nth a.las i ∧ nth a.las i < 256) : (nth a.las 512 = 0 ∧ behind a.las a.nb = a.las) ∨ ∃ k, Lg6 a.las a.nb k ∧ Rec.wr (fw a.las (hm6 a.las k)) 1 zs = behind a.las a.nb := by
  obtain ⟨W, hW⟩ := h.dn hd
  rcases log6 h.len (h.nb98 hd) hW.ok hw with e | ⟨h0, h1, h2, h3, h4⟩
  · exact .inl e
  · refine .inr ⟨_, ⟨h.nb98 hd, h0, h1, h2, fun i hi => ?_⟩, ?_⟩
    · obtain ⟨q1, q2, q3⟩ := h3 i hi
      rw [q1]; exact ⟨q2, q3⟩
    · rw [h4]; rfl
end Go.Proofs.YtcbebalakdkgnaaGreatDoor
