import Derived.Test.YtipbflmonhlnjaaKBkG
import Derived.BigQuiet
namespace Go.Proofs.Ytipbflmonhlnjaa
open Go.RowKit Rec

theorem KaL.done {w w1 w2 : World} {K K1 : Bk} {v : Value} {L : List ActR} (h : KaL w w1 K K1 L L.length) (hq : KaQ w1 K1 v w2) : KaP w K v L w2 := by
  obtain ⟨X, Y, u, m, c, g1, g2, g3⟩ := hq
  refine ⟨_, g1, h.kb, h.bn, h.im, by show K1.am + 1 = _; rw [h.am], ?_, fun k e => ?_⟩
  · refine (h.fr.mono (fun k e => e.imp id .inr)).trans g2 (fun k e => ?_)
    rcases e with e | e
    · rcases h.all k e with e | ⟨j, q', p', _, hq', e3, e4⟩ | e
      · exact .inl (.inl e)
      · exact .inl (.inr (.inr ⟨q', List.mem_of_getElem? hq', p', e3, e4⟩))
      · exact .inr e
    · exact .inl (.inr (.inl e))
  · rcases g3 k e with e | e | e
    · rcases h.all k e with e | ⟨j, q', p', _, hq', e3, e4⟩ | e
      · exact .inl e
      · exact .inr (.inr (.inl ⟨q', List.mem_of_getElem? hq', p', e3, e4⟩))
      · exact .inr (.inr (.inr e))
    · exact .inr (.inl e)
    · exact .inr (.inr (.inr (Nat.le_trans h.fr.size e)))
theorem KaL.vk {w wr : World} {K Ki : Bk} {v : Value} {L : List ActR} {i : Nat} (h : KaL w wr K Ki L i) (H : KaH w K v L) : ∀ k, v.ownBlock = some k → ¬ Ki.all k := fun k e e2 => by
  rcases h.all k e2 with e3 | ⟨j, q', p', _, hq', e3, e4⟩ | e3
  · exact H.vk k e e3
  · rcases H.own q' (List.mem_of_getElem? hq') with ⟨_, z, _⟩ | ⟨g, z, ho⟩
    · rw [z] at e3; cases e3
    · rw [z] at e3; cases e3
      exact own_apart7 H.row ho (by decide) (by rw [e, ← e4])
  · have : k < w.heap.size := owns_block H.row e
    omega
theorem KaL.vrow {w wr : World} {K Ki : Bk} {v : Value} {L : List ActR} {i : Nat} (h : KaL w wr K Ki L i) (H : KaH w K v L) : wr.ownsRow 0 86 3 v L.length (L.flatMap ActR.cells) := by
  refine owns_fr H.row h.fr (fun k e e2 => ?_)
  rcases e2 with e2 | ⟨q', hq', p, e3, e4⟩
  · exact H.vk k e e2
  · rcases (H.own q' hq') with ⟨_, z, _⟩ | ⟨g, z, ho⟩
    · rw [z] at e3; cases e3
    · rw [z] at e3; cases e3
      exact own_apart7 H.row ho (by decide) (by rw [e, ← e4])
theorem one_acts (L : List ActR) : ∀ u ∈ L.flatMap ActR.cells, u.oneCell' = true := by
  intro u hu
  obtain ⟨q, _, hq⟩ := List.mem_flatMap.1 hu
  simp [ActR.cells] at hq
  rcases hq with rfl | rfl | rfl <;> rfl
set_option maxRecDepth 100000 in
set_option maxHeartbeats 8000000 in
theorem kacts_any (w : World) (K : Bk) (h : BkI w K) (v : Value) (L : List ActR) (H : KaH w K v L) (hb : K.bn + L.length + 1 ≤ 1000000000000) (hb2 : K.am + 1 ≤ 1000000000000) :
    Calls Try.prog 44 #[.pointer (some ⟨K.kb, 0, none⟩), v] w fun e w' => e = .returned (.tuple #[]) ∧ KaP w K v L w' := by
  obtain ⟨n, hn⟩ : ∃ n, L.length = n := ⟨_, rfl⟩
  have hrow := H.row
  rw [hn] at hrow
  obtain ⟨a, c, rfl, hnc, hga, _⟩ := owns_slice hrow
  obtain ⟨ia, ic, hiv, hicc, _⟩ := owns_slice h.a.row
  obtain ⟨kb, hkb⟩ : ∃ kb, K.kb = kb := ⟨_, rfl⟩
  obtain ⟨am, him⟩ : ∃ am, K.am = am := ⟨_, rfl⟩
  have hz := h.box
  rw [hkb] at hz ⊢
  rw [him] at hiv hicc hb2
  have c3 : w.cell? ⟨kb, 3, none⟩ = some (.slice ia am ic) := by rw [← hiv]; exact cell_of_row _ _ 3 _ _ _ hz
  have HK : Hid (BkI w K ∧ K.kb = kb ∧ K.am = am) := ⟨h, hkb, him⟩
  have HH : Hid (KaH w K (.slice a n c) L ∧ L.length = n) := ⟨H, hn⟩
  have hn2 : n ≤ 10000000 := by rw [← hn]; exact H.n
  have HR0 : Hid (KaL w w K K L 0 ∧ KaR w w L 0) := ⟨KaL.zero h, ⟨fun j q _ hq => H.own q (List.mem_of_getElem? hq)⟩⟩
  have HB : Hid (K.bn + n + 1 ≤ 1000000000000) := by rw [← hn]; exact hb
  clear h hrow hz hkb him hiv H hn hb
  obtain ⟨i1, j1, j2, j3, j4⟩ := info_parts infoAct
  obtain ⟨i2, k1, k2, k3, k4⟩ := info_parts infoSA
  go_enter Try.func44, Try.ntmps44
  go_wp2
  go_loopw [5, 15, 16, 17, 18, 19, 20, 21, 22, 23, 24, 25] (fun _ i _ _ _ _ _ _ _ _ _ _ wr => ∃ k : Nat, k ≤ n ∧ i = .int .i64 k ∧ ∃ Ki, KaL w wr K Ki L k ∧ KaR w wr L k) (fun _ i _ _ _ _ _ _ _ _ _ _ _ => n - (intOf i).toNat)
  case atStart => exact ⟨0, Nat.zero_le _, rfl, K, HR0.out⟩
  case round =>
    clear c3
    obtain ⟨k, hk, rfl, Ki, hL, hR⟩ := hrel
    have HL : Hid (KaL w wr K Ki L k ∧ KaR w wr L k) := ⟨hL, hR⟩
    clear hL hR HR0
    by_cases hlt : k < n
    · obtain ⟨g, rfl⟩ := hga.resolve_left (by omega)
      have hkl : k < L.length := by rw [HH.out.2]; exact hlt
      obtain ⟨q, hq⟩ : ∃ q, L[k]? = some q := ⟨_, List.getElem?_eq_getElem hkl⟩
      have hvr := HL.out.1.vrow HH.out.1
      rw [HH.out.2] at hvr
      have d2 : wr.cell? ⟨g, k * 3 + 2, none⟩ = some (.slice q.a q.x.length q.c) := by rw [hvr.cellAt _ (by omega)]; exact (cells_at L k q hq).2.2
      have hqm := List.mem_of_getElem? hq
      have hql : Hid (q.x.length ≤ 512 ∧ L[k]? = some q) := ⟨HH.out.1.len q hqm, hq⟩
      have HC : Hid (Calls Try.prog 35 #[.pointer (some ⟨kb, 0, none⟩), .slice q.a q.x.length q.c] wr fun e w' => e = .returned (.tuple #[]) ∧ KbP wr Ki (.slice q.a q.x.length q.c) q.x w') := by
        have e1 : Ki.kb = kb := by rw [HL.out.1.kb]; exact HK.out.2.1
        rw [← e1]
        have ho := HL.out.2.left k q (Nat.le_refl _) hq
        exact kbytes_any wr Ki HL.out.1.bk _ q.x.length q.x ho.owns (by have := hql.out.1; omega) ho.wf (fun b e => by obtain ⟨p, e1, e2⟩ := ho.blk e; rw [← e2]; exact HL.out.1.notin HH.out.1 hq e1) (by have := HB.out; rw [HL.out.1.bn]; omega)
      clear hvr hqm hq hkl
      go_wp2_with (go_at_call 35; refine HC.out.mono ?_; rintro e w' ⟨rfl, hp⟩; have HP : Hid (KbP wr Ki (.slice q.a q.x.length q.c) q.x w') := hp; clear hp)
      obtain ⟨Kj, hj⟩ := HL.out.1.next HL.out.2 HH.out.1 hql.out.2 HP.out
      exact ⟨⟨k + 1, hlt, rfl, Kj, hj⟩, by simp [intOf]; omega⟩
    · have hkn : k = n := by omega
      subst hkn
      have HL1 : Hid (KaL w wr K Ki L L.length) := by rw [HH.out.2]; exact HL.out.1
      obtain ⟨w1, hw1⟩ : ∃ w1, wr = w1 := ⟨_, rfl⟩
      rw [hw1] at HL1 ⊢
      clear HL hw1
      go_upto_region 7 with fail
      have HV1 : Hid (w1.ownsRow 0 86 3 (.slice a k c) k (L.flatMap ActR.cells) ∧ (∀ b, (Value.slice a k c).ownBlock = some b → ¬ Ki.all b) ∧ AcG k (L.flatMap ActR.cells)) := by
        have e := HL1.out.vrow HH.out.1
        rw [HH.out.2] at e
        refine ⟨e, HL1.out.vk HH.out.1, ?_⟩
        have e2 := acG_of L
        rw [HH.out.2] at e2; exact e2
      obtain ⟨ta, tc, htv, htcc, _⟩ := owns_slice HL1.out.bk.w.row
      obtain ⟨ja, jc, hjv, hjcc, _⟩ := owns_slice HL1.out.bk.a.row
      have ham : Ki.am = am := by rw [HL1.out.am]; exact HK.out.2.2
      rw [ham] at htv htcc hjv hjcc
      have HK1 : Hid (BkI w1 Ki ∧ Ki.kb = kb ∧ Ki.am = am ∧ Ki.av = .slice ja am jc ∧ Ki.wv = .slice ta am tc) := ⟨HL1.out.bk, by rw [HL1.out.kb]; exact HK.out.2.1, ham, hjv, htv⟩
      clear htv hjv ham
      go_upto_region 8 with (at_builtin; refine wp_cpyV rfl (.tmp 26) (.tmp 27) 51 rfl rfl app_zeroA 86 i1 _ 3 40 Try.underlying51 j1 j2 j3 j4 rfl (by decide) rfl (.slice a k c) k (L.flatMap ActR.cells) rfl HV1.out.1 (one_acts L) (by unfold maxLen; omega) (by omega) ?_
                             rintro u wu hu1 hu2 ⟨ua, uc, rfl, huc, hug⟩ hu3
                             have HU : Hid (CuA w1 wu a k c ua uc (L.flatMap ActR.cells)) := ⟨HV1.out.2.2, owns_fr HV1.out.1 (below_fr hu3 (fun _ => False)) (fun _ _ e => e), hu1, below_fr hu3 _, (fun b e => owns_block HV1.out.1 e), hu2⟩
                             clear hu1 hu2 hu3)
      go_upto_if 31 with fail
      go_cut [7, 32, 33, 34, 35, 36, 37, 38, 39, 40, 41, 42, 43, 44, 45, 46, 47, 48, 49, 50, 51] (fun _ _ _ _ _ _ _ _ _ _ _ _ _ _ _ _ _ _ _ _ _ wy => ∃ C, CuA w1 wy a k c ua uc C)
      case first =>
        obtain ⟨q, hq⟩ : ∃ q, ((am : Int) % 2 == 1) = q := ⟨_, rfl⟩
        rw [hq]
        cases q
        · go_wp2
          go_meet
          exact ⟨_, HU.out⟩
        · clear hq
          go_wp2
          go_loopw [7, 34, 35, 36, 37, 38, 39, 40, 41, 42, 43, 44, 45, 46, 47, 48, 49, 50, 51] (fun _ i _ _ _ _ _ _ _ _ _ _ _ _ _ _ _ _ _ wr => ∃ r : Nat, r ≤ k ∧ i = .int .i64 r ∧ ∃ C, CuA w1 wr a k c ua uc C) (fun _ i _ _ _ _ _ _ _ _ _ _ _ _ _ _ _ _ _ _ => k - (intOf i).toNat)
          case atStart => exact ⟨0, Nat.zero_le _, rfl, _, HU.out⟩
          case round =>
            obtain ⟨r, hr, rfl, C, hC⟩ := hrel
            have HC : Hid (CuA w1 wr a k c ua uc C) := hC
            clear hC
            by_cases hlt : r < k
            · obtain ⟨g, rfl⟩ := hga.resolve_left (by omega)
              obtain ⟨gu, rfl⟩ := hug.resolve_left (by omega)
              obtain ⟨x0, y0, z0, d0, d1, d2⟩ := HC.out.cell1 hlt
              have f0 := HC.out.v.frozenAt (r * 3)
              have f1 := HC.out.v.frozenAt (r * 3 + 1)
              have f2 := HC.out.v.frozenAt (r * 3 + 2)
              go_upto_region 13 with fail
              obtain ⟨x3, y3, z3, e0, e1, e2, ef⟩ := HC.out.cell2 hlt (w3s_fr wr g r (-(am : Int) - 1))
              have H6 : Hid (CuA w1 (w3s (w3s wr g r (-(am : Int) - 1)) gu r (-(am : Int) - 1)) (some ⟨g, 0, none⟩) k c (some ⟨gu, 0, none⟩) uc (set3 C r (-(am : Int) - 1))) := HC.out.next hlt _
              obtain ⟨w5, hw5⟩ : ∃ w5, w3s wr g r (-(am : Int) - 1) = w5 := ⟨_, rfl⟩
              rw [hw5] at e0 e1 e2 ef H6
              unfold w3s at hw5
              rw [hw5]
              clear d0 d1 d2 f0 f1 f2 hw5
              have f0 := ef (r * 3)
              have f1 := ef (r * 3 + 1)
              have f2 := ef (r * 3 + 2)
              clear ef
              go_wp2
              exact ⟨⟨r + 1, hlt, rfl, _, H6.out⟩, by simp [intOf]; omega⟩
            · go_wp2
              go_meet
              exact ⟨_, HC.out⟩
      case rest =>
        obtain ⟨C, hC⟩ := hcut
        have hbK := HK1.out.1.fr hC.fr (fun b e e2 => HV1.out.2.1 b e2 e)
        have hkz := hbK.box
        rw [HK1.out.2.1] at hkz
        have c1 : wc.cell? ⟨kb, 3, none⟩ = some (.slice ja am jc) := by rw [← HK1.out.2.2.2.1]; exact cell_of_row _ _ 3 _ _ _ hkz
        have HC1 : Hid (BkI wc Ki ∧ Ki.kb = kb ∧ Ki.am = am ∧ Ki.av = .slice ja am jc ∧ Ki.wv = .slice ta am tc) := ⟨hbK, HK1.out.2⟩
        have HY : Hid (CuA w1 wc a k c ua uc C) := hC
        have HRow : Hid (wc.ownsRow 0 51 1 (.slice ja am jc) am ((List.range am).flatMap (fun i => [Ki.aV i]))) := by
          have e := hbK.a.row
          rw [HK1.out.2.2.2.1, HK1.out.2.2.1] at e; exact e
        clear hC hbK hkz HU
        have ha : Below wc.heap.size wc (wc.alloc (.cells #[.slice a k c] 51)) := (Below.refl _ _).alloc (Nat.le_refl _) _
        go_upto_region 16 with (at_builtin; refine wp_own rfl (.tmp 56) (.tmp 58) 39 rfl 51 i2 _ 1 24 Try.underlying39 k1 k2 k3 k4 rfl (by decide) (.slice ja am jc) am ((List.range am).flatMap (fun i => [Ki.aV i])) rfl (owns_fr HRow.out (below_fr ha (fun _ => False)) (fun _ _ e => e)) ⟨wc.heap.size, 0, none⟩ 1 1 [.slice a k c] rfl (by decide) rfl (news_of (heap_alloc_new wc _) _ rfl) (by intro u hu; simp at hu; subst hu; rfl) (by unfold maxLen; omega) (by omega) ?_
                                intro b bc w4 h1 h2 h3
                                have HM := ka1 (b := b) (bc := bc) HC1.out ha h2
                                have d1 : w4.cell? ⟨kb, 3, none⟩ = some Ki.av := cell_of_row _ _ 3 _ _ _ HM.1
                                have e1 : w4.frozen? ⟨kb, 3, none⟩ = false := frozen_of_row _ _ 3 _ _ HM.1
                                have H1 : Hid (w4.ownsRow 0 51 1 (.slice (some ⟨b, 0, none⟩) (am + 1) bc) (am + 1) ((List.range am).flatMap (fun i => [Ki.aV i]) ++ [.slice a k c]) ∧ Fr (fun k => (Value.slice ja am jc).ownBlock = some k) (wc.alloc (.cells #[.slice a k c] 51)) w4 ∧ ((Value.slice ja am jc).ownBlock = some b ∨ (wc.alloc (.cells #[.slice a k c] 51)).heap.size ≤ b)) := ⟨h1, h2, h3⟩
                                have HM2 : Hid ((w4.setCell ⟨kb, 3, none⟩ (.slice (some ⟨b, 0, none⟩) (am + 1) bc)).heap[kb]? = some (.cells #[Ki.bv, Ki.iv, Ki.tv, .slice (some ⟨b, 0, none⟩) (am + 1) bc, Ki.wv] 41 (0, 0)) ∧ (w4.setCell ⟨kb, 3, none⟩ (.slice (some ⟨b, 0, none⟩) (am + 1) bc)).ownsRow 0 51 1 (.slice ta am tc) am ((List.range am).flatMap (fun i => [Ki.wV i]))) := HM.2 _ rfl
                                clear h1 h2 h3 HM c1)
        obtain ⟨w2, hw2⟩ : ∃ w2, w4.setCell ⟨kb, 3, none⟩ (.slice (some ⟨b, 0, none⟩) (am + 1) bc) = w2 := ⟨_, rfl⟩
        rw [hw2] at HM2 ⊢
        have c2 : w2.cell? ⟨kb, 4, none⟩ = some (.slice ta am tc) := by rw [← HK1.out.2.2.2.2]; exact cell_of_row _ _ 4 _ _ _ HM2.out.1
        clear d1 e1
        have ha2 : Below w2.heap.size w2 (w2.alloc (.cells #[.slice ua k uc] 51)) := (Below.refl _ _).alloc (Nat.le_refl _) _
        go_wp2_with (at_builtin; refine wp_own rfl (.tmp 66) (.tmp 68) 39 rfl 51 i2 _ 1 24 Try.underlying39 k1 k2 k3 k4 rfl (by decide) (.slice ta am tc) am ((List.range am).flatMap (fun i => [Ki.wV i])) rfl (owns_fr HM2.out.2 (below_fr ha2 (fun _ => False)) (fun _ _ e => e)) ⟨w2.heap.size, 0, none⟩ 1 1 [.slice ua k uc] rfl (by decide) rfl (news_of (heap_alloc_new w2 _) _ rfl) (by intro u hu; simp at hu; subst hu; rfl) (by unfold maxLen; omega) (by omega) ?_
                     intro b' bc' w3 h1 h2 h3
                     have HF := ka2 HK1.out HV1.out.2.1 HY.out hn2 hb2 ha H1.out hw2 ha2 h1 h2 h3
                     have d2 : w3.cell? ⟨kb, 4, none⟩ = some Ki.wv := cell_of_row _ _ 4 _ _ _ HF.1
                     have e2 : w3.frozen? ⟨kb, 4, none⟩ = false := frozen_of_row _ _ 4 _ _ HF.1
                     have H9 : Hid (KaQ w1 Ki (.slice a k c) (w3.setCell ⟨kb, 4, none⟩ (.slice (some ⟨b', 0, none⟩) (am + 1) bc'))) := HF.2
                     clear h1 h2 h3 HF c2)
        go_end0
        exact ⟨rfl, HL1.out.done H9.out⟩
end Go.Proofs.Ytipbflmonhlnjaa

namespace Go.Proofs.Ytipbflmonhlnjaa
open Go.RowKit Rec

set_option maxRecDepth 100000 in
set_option maxHeartbeats 4000000 in
theorem sameI_any (w : World) (v u : Value) (n : Nat) (x : List Int) (hv : w.ownsRow 0 3 1 v n (x.map (Value.int .i64))) (hu : w.ownsRow 0 3 1 u n (x.map (Value.int .i64))) (hn : n ≤ 1000000000000) :
    Calls Try.prog 39 #[v, u] w fun e w' => e = .returned (.bool true) ∧ ∃ m, w' = w.drewN m := by
  have hxl : x.length = n := by have := hv.1; rw [List.length_map] at this; omega
  obtain ⟨a, c, rfl, hnc, hga, hca⟩ := owns_slice hv
  obtain ⟨b, d, rfl, hnd, hgb, hcb⟩ := owns_slice hu
  have HA : Hid (x.length = n ∧ (∀ g, a = some ⟨g, 0, none⟩ → ∀ j u, (x.map (Value.int .i64))[j]? = some u → w.cell? ⟨g, j, none⟩ = some u) ∧ (∀ g, b = some ⟨g, 0, none⟩ → ∀ j u, (x.map (Value.int .i64))[j]? = some u → w.cell? ⟨g, j, none⟩ = some u)) := ⟨hxl, fun g e => (hca g 0 e).2.1, fun g e => (hcb g 0 e).2.1⟩
  clear hv hu hca hcb hxl
  go_enter Try.func39, Try.ntmps39
  go_wp2
  go_loopw [5, 13, 14, 15, 16, 17, 18, 19, 20, 21, 22, 23, 24, 25] (fun _ i _ _ _ _ _ _ _ _ _ _ _ _ wr => ∃ k : Nat, k ≤ n ∧ i = .int .i64 k ∧ ∃ m, wr = w.drewN m) (fun _ i _ _ _ _ _ _ _ _ _ _ _ _ _ => n - (intOf i).toNat)
  case atStart => exact ⟨0, Nat.zero_le _, rfl, 0, rfl⟩
  case round =>
    obtain ⟨k, hk, rfl, mw, rfl⟩ := hrel
    have HB : Hid (Below w.heap.size w (w.drewN mw)) := below_drewN (Below.refl _ _) _
    by_cases hlt : k < n
    · obtain ⟨g, rfl⟩ := hga.resolve_left (by omega)
      obtain ⟨g', rfl⟩ := hgb.resolve_left (by omega)
      have hk2 : k < x.length := by rw [HA.out.1]; exact hlt
      have e : (x.map (Value.int .i64))[k]? = some (.int .i64 x[k]) := by rw [List.getElem?_map, List.getElem?_eq_getElem hk2]; rfl
      have x0 : w.cell? ⟨g, k, none⟩ = some (.int .i64 x[k]) := (below_fr HB.out (fun _ => False)).cell (HA.out.2.1 g rfl k _ e) (fun e => e)
      have y0 : w.cell? ⟨g', k, none⟩ = some (.int .i64 x[k]) := (below_fr HB.out (fun _ => False)).cell (HA.out.2.2 g' rfl k _ e) (fun e => e)
      generalize x[k] = z at *
      clear e hk2
      go_wp2
      go_quiet (fail)
      go_wp2
      exact ⟨⟨k + 1, hlt, rfl, _, rfl⟩, by simp [intOf]; omega⟩
    · go_wp2
      go_ret
      exact ⟨rfl, mw, rfl⟩
set_option maxRecDepth 100000 in
set_option maxHeartbeats 4000000 in
theorem sameK_any (w : World) (v u : Value) (n : Nat) (C C' : List Value) (hv : w.ownsRow 0 86 3 v n C) (hu : w.ownsRow 0 86 3 u n C') (hs : AcS n C C') (hn : n ≤ 1000000000000) :
    Calls Try.prog 45 #[v, u] w fun e w' => e = .returned (.bool true) ∧ ∃ m, w' = w.drewN m := by
  obtain ⟨a, c, rfl, hnc, hga, hca⟩ := owns_slice hv
  obtain ⟨b, d, rfl, hnd, hgb, hcb⟩ := owns_slice hu
  have HA : Hid (AcS n C C' ∧ (∀ g, a = some ⟨g, 0, none⟩ → ∀ j u, C[j]? = some u → w.cell? ⟨g, j, none⟩ = some u) ∧ (∀ g, b = some ⟨g, 0, none⟩ → ∀ j u, C'[j]? = some u → w.cell? ⟨g, j, none⟩ = some u)) := ⟨hs, fun g e => (hca g 0 e).2.1, fun g e => (hcb g 0 e).2.1⟩
  clear hv hu hca hcb hs
  go_enter Try.func45, Try.ntmps45
  go_wp2
  go_loopw [5, 13, 14, 15, 16, 17, 18, 19, 20, 21, 22, 23, 24, 25, 26, 27, 28, 29, 30, 31, 32, 33, 34, 35, 36, 37, 38, 39, 40] (fun _ i _ _ _ _ _ _ _ _ _ _ _ _ _ _ _ _ _ _ _ _ _ _ _ _ _ _ _ wr => ∃ k : Nat, k ≤ n ∧ i = .int .i64 k ∧ ∃ m, wr = w.drewN m) (fun _ i _ _ _ _ _ _ _ _ _ _ _ _ _ _ _ _ _ _ _ _ _ _ _ _ _ _ _ _ => n - (intOf i).toNat)
  case atStart => exact ⟨0, Nat.zero_le _, rfl, 0, rfl⟩
  case round =>
    obtain ⟨k, hk, rfl, mw, rfl⟩ := hrel
    have HB : Hid (Below w.heap.size w (w.drewN mw)) := below_drewN (Below.refl _ _) _
    by_cases hlt : k < n
    · obtain ⟨b1, rfl⟩ := hga.resolve_left (by omega)
      obtain ⟨b2, rfl⟩ := hgb.resolve_left (by omega)
      obtain ⟨x, y, e1, e2, e3, e4⟩ := HA.out.1 k hlt
      have x0 : w.cell? ⟨b1, k * 3, none⟩ = some (.int .i64 x) := (below_fr HB.out (fun _ => False)).cell (HA.out.2.1 b1 rfl _ _ e1) (fun e => e)
      have x1 : w.cell? ⟨b1, k * 3 + 1, none⟩ = some (.int .i64 y) := (below_fr HB.out (fun _ => False)).cell (HA.out.2.1 b1 rfl _ _ e3) (fun e => e)
      have y0 : w.cell? ⟨b2, k * 3, none⟩ = some (.int .i64 x) := (below_fr HB.out (fun _ => False)).cell (HA.out.2.2 b2 rfl _ _ e2) (fun e => e)
      have y1 : w.cell? ⟨b2, k * 3 + 1, none⟩ = some (.int .i64 y) := (below_fr HB.out (fun _ => False)).cell (HA.out.2.2 b2 rfl _ _ e4) (fun e => e)
      clear e1 e2 e3 e4
      go_wp2
      go_quiet (fail)
      go_wp2
      exact ⟨⟨k + 1, hlt, rfl, _, rfl⟩, by simp [intOf]; omega⟩
    · go_wp2
      go_ret
      exact ⟨rfl, mw, rfl⟩
end Go.Proofs.Ytipbflmonhlnjaa
