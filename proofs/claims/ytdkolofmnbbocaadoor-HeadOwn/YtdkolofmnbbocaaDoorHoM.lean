import Derived.Test.YtdkolofmnbbocaaDoorHoN
import Derived.Test.YtdkolofmnbbocaaDoorHoA
namespace Go.Proofs.YtdkolofmnbbocaaDoor
open Go.RowKit Rec

set_option maxRecDepth 100000 in
set_option maxHeartbeats 4000000 in
theorem made_far (w : World) (sa : Option Addr) (sn sc : Nat) (ba : Option Addr) (bn bc : Nat) (st sd : List Int) (hp : PlanAt w sa sn ba bn st sd) :
    Calls Tryd.prog 5 #[.agg #[.slice sa sn sc, .slice ba bn bc]] w fun e w' => ∃ g cap dg dcap K, K = (planN st).length ∧ e = .returned (.tuple #[.slice (some ⟨g, 0, none⟩) K cap, .slice (some ⟨dg, 0, none⟩) K dcap]) ∧ (∀ wx, Fr (fun k => k < w.heap.size) w' wx → OwnI wx g cap (planN st) ∧ Data wx (some ⟨dg, 0, none⟩) (planD st sd)) ∧ K ≤ dcap ∧ Below w.heap.size w w' := by
  obtain ⟨w0, hw0⟩ : ∃ w0, w0 = w.alloc (.cells #[.slice sa sn sc, .slice ba bn bc] 25) := ⟨_, rfl⟩
  have hA : Below w.heap.size w w0 := by rw [hw0]; exact (Below.refl _ _).alloc (Nat.le_refl _) _
  have hrow : w0.heap[w.heap.size]? = some (.cells #[.slice sa sn sc, .slice ba bn bc] 25 (0, 0)) := by rw [hw0]; exact heap_alloc_new _ _
  have hlen := hp.ints.len
  have hlenb := hp.bytes.len
  rw [hp.sl] at hlen
  rw [hp.bl] at hlenb
  have HP : Hid (PlanAt w0 sa sn ba bn st sd) := hp.on hA
  have HC : Hid (∀ wr, Below w0.heap.size w0 wr → wr.cell? ⟨w.heap.size, 0, none⟩ = some (.slice sa sn sc) ∧ wr.cell? ⟨w.heap.size, 1, none⟩ = some (.slice ba bn bc)) := fun wr hb => by
    have hr : wr.heap[w.heap.size]? = _ := (hb.block _ (heap_lt hrow)).trans hrow
    exact ⟨by rw [cell_of_row _ _ _ _ _ _ hr]; rfl, by rw [cell_of_row _ _ _ _ _ _ hr]; rfl⟩
  have HA : Hid (Below w.heap.size w w0) := hA
  have HSl : Hid (st.length = sn ∧ sd.length = bn) := ⟨hp.sl, hp.bl⟩
  clear hA hrow hp
  go_enter Tryd.func5, Tryd.ntmps5
  go_wp2
  rw [← hw0]
  clear hw0
  go_loopw [4, 5, 6, 7] (fun s4 s5 s6 s7 wr => ∃ j : Nat, j ≤ sn ∧ j ≤ 96 ∧ s4 = .int .i64 (atP st j) ∧ s7 = .int .i64 j ∧ MadeAt w0 wr st sd j s5 s6) (fun _ _ _ s7 _ => 96 - (intOf s7).toNat)
  case atStart => exact ⟨0, Nat.zero_le _, Nat.zero_le _, rfl, rfl, MadeAt.start⟩
  case round =>
    obtain ⟨j, hj, hj96, rfl, rfl, hM⟩ := hrel
    have HM : Hid (MadeAt w0 wr st sd j u5 u6) := hM
    clear hM
    obtain ⟨c1, c2⟩ := HC.out _ HM.out.bel
    by_cases hlt : j < sn ∧ j < 96
    · obtain ⟨hl1, hl2⟩ := hlt
      obtain ⟨sb, soff, rfl⟩ := HP.out.ints.some (by rw [HSl.out.1]; omega)
      have c3 : wr.cell? ⟨sb, soff + j, none⟩ = some (.int .i64 (nth st j)) := (HP.out.on HM.out.bel).ints.cell (by rw [HSl.out.1]; exact hl1)
      have b3 := HP.out.wf j
      have b4 := atP_bd st j
      obtain ⟨X, hX⟩ : ∃ X, IntKind.u64.wrap (nth st j) = X := ⟨_, rfl⟩
      have hXe : X = nth st j % 18446744073709551616 := by rw [← hX]; rfl
      obtain ⟨v, hv⟩ : ∃ v, X.tmod 160 = v := ⟨_, rfl⟩
      have hve : v = X % 160 := by rw [← hv]; exact Int.tmod_eq_emod_of_nonneg (by omega)
      have HE : Hid (atP st (j + 1) = atP st j + 1 + v) := by show _ = _; rw [hve, hXe]; rfl
      have hv0 : 0 ≤ v ∧ v < 160 := by omega
      clear hXe hve b3
      obtain ⟨A, hAe⟩ : ∃ A, atP st j = A := ⟨_, rfl⟩
      rw [hAe] at HE b4 ⊢
      clear hAe
      have HA1 : Hid (Below wr.heap.size wr (wr.alloc (.cells #[.int .i64 (A + 1 + v)] 3))) := (Below.refl _ _).alloc (Nat.le_refl _) _
      have HN : Hid ((wr.alloc (.cells #[.int .i64 (A + 1 + v)] 3)).ownsRow 0 3 1 u5 j ((nsP st j).map (Value.int .i64))) := owns_on HM.out.nums HA1.out
      have HN2 : Hid (∀ m, m < [A + 1 + v].length → (wr.alloc (.cells #[.int .i64 (A + 1 + v)] 3)).cell? ((⟨wr.heap.size, 0, none⟩ : Addr).add m) = some (.int .i64 (nth [A + 1 + v] m))) := fun m hm => by
        have : m = 0 := by simpa using hm
        subst this
        rw [Addr.add_lit, cell_of_row _ _ _ _ _ _ (heap_alloc_new _ _)]; rfl
      have HM1 : Hid (MadeAt w0 (wr.alloc (.cells #[.int .i64 (A + 1 + v)] 3)) st sd j u5 u6) := HM.out.on HA1.out
      go_wp2_with (first
        | (at_builtin; refine wp_iown rfl (.tmp 32) (.tmp 34) rfl u5 j (nsP st j) rfl HN.out ⟨wr.heap.size, 0, none⟩ 1 1 [A + 1 + v] rfl (by omega) rfl HN2.out (by omega) ?_; intro g cap w2 ho hf hg; have HM2 : Hid (MidAt w0 w2 st sd j (.slice (some ⟨g, 0, none⟩) (j + 1) cap) u6) := HM1.out.mid (by rw [nsP_succ, HE.out]; exact ho) hf hg; clear ho hf hg)
        | (at_make; refine wp_makeB rfl _ _ rfl _ _ _ _ 512 rfl rfl (by omega) (by omega) (by omega) ?_; intro w3 ho hb; have HM3 : Hid (MidAt w0 w3 st sd j (.slice (some ⟨g, 0, none⟩) (j + 1) cap) u6 ∧ OwnB w3 w2.heap.size 512 (zn 512) ∧ w0.heap.size ≤ w2.heap.size ∧ Below w2.heap.size w2 w3) := ⟨HM2.out.on hb, ho, HM2.out.bel.size, hb⟩; clear ho hb))
      go_loopw [9] (fun s9 wx => ∃ k : Nat, k ≤ 512 ∧ (bn = 0 → k = 0) ∧ s9 = .int .i64 k ∧ OwnB wx w2.heap.size 512 (ov (zn 512) 0 k (byteP sd j)) ∧ Below w2.heap.size w2 wx) (fun s9 _ => 512 - (intOf s9).toNat)
      case atStart => exact ⟨0, Nat.zero_le _, fun _ => rfl, rfl, by rw [ov_zero]; exact HM3.out.2.1, HM3.out.2.2.2⟩
      case round =>
        obtain ⟨k, hk, hk0, rfl, ho, hb⟩ := hrel
        have HI : Hid (OwnB wr w2.heap.size 512 (ov (zn 512) 0 k (byteP sd j)) ∧ Below w2.heap.size w2 wr) := ⟨ho, hb⟩
        have HB0 : Hid (Below w0.heap.size w0 wr) := HM2.out.bel.trans (hb.mono HM2.out.bel.size)
        clear ho hb
        obtain ⟨d1, d2⟩ := HC.out _ HB0.out
        clear c1 c2 c3
        by_cases hlt2 : k < 512 ∧ 0 < bn
        · obtain ⟨hk5, hbn⟩ := hlt2
          obtain ⟨bb, boff, rfl⟩ := HP.out.bytes.some (by rw [HSl.out.2]; exact hbn)
          obtain ⟨q, hq⟩ : ∃ q : Nat, (k : Int) + (j : Int) = (q : Int) := ⟨k + j, by omega⟩
          obtain ⟨M, hM⟩ : ∃ M : Nat, q % bn = M := ⟨_, rfl⟩
          have hMlt : M < bn := by rw [← hM]; exact Nat.mod_lt _ hbn
          have hM2 : (q : Int).tmod (bn : Int) = (M : Int) := by rw [← hM]; exact rfl
          have hM3 : (q : Int) % (bn : Int) = (M : Int) := by rw [← hM]; exact rfl
          have e1 : wr.cell? ⟨bb, boff + M, none⟩ = some (.int .u8 (nth sd M)) := (HP.out.on HB0.out).bytes.cell (by rw [HSl.out.2]; exact hMlt)
          have e2 := HP.out.bytes.wf M
          have f1 := HI.out.1.cell k (by rw [ov_length, zn_length]; exact hk5)
          have f2 := HI.out.1.frozen k
          have HV : Hid (byteP sd j k = (nth sd M + j) % 256) := by
            show _ = _
            unfold byteP
            rw [if_neg (by rw [HSl.out.2]; omega), HSl.out.2, show (k + j) % bn = M by rw [← hM]; congr 1; omega]
          clear hM
          have hbn' : (0 : Int) < (bn : Int) := by omega
          have hbn2 : ¬ (bn : Int) = 0 := by omega
          go_wp2
          go_region
          have HS : Hid (OwnB (wr.setCell ⟨w2.heap.size, k, none⟩ (.int .u8 ((nth sd M + (j : Int)) % 256))) w2.heap.size 512 (ov (zn 512) 0 (k + 1) (byteP sd j))) := by
            have := HI.out.1.set k (byteP sd j k) (by rw [ov_length, zn_length]; exact hk5) (byteP_bd sd j k)
            have h2 := ov_set (zn 512) 0 k (byteP sd j) (by rw [zn_length]; omega)
            rw [Nat.zero_add] at h2
            rw [h2, HV.out] at this
            exact this
          have HD : Hid (Below w2.heap.size w2 (wr.setCell ⟨w2.heap.size, k, none⟩ (.int .u8 ((nth sd M + (j : Int)) % 256)))) := HI.out.2.trans (Fr.below Fr.set _ (fun i hi => by rw [hi]; exact Nat.le_refl _) HI.out.2.size)
          go_wp2
          go_round
          case rel => exact ⟨k + 1, by omega, fun h => absurd h (by omega), by go_num, HS.out.on ((Below.refl _ _).drew), HD.out.drew⟩
          case measure => simp [intOf]; omega
        · have HBl : Hid (OwnB wr w2.heap.size 512 (blkP sd j)) := by
            by_cases h5 : k = 512
            · subst h5
              rw [← blkP_ov]; exact HI.out.1
            · have h0 : bn = 0 := by omega
              have := hk0 h0
              subst this
              have h2 := HI.out.1
              rw [ov_zero, blkP_nil sd j (by rw [HSl.out.2]; exact h0)] at h2
              exact h2
          have HM4 : Hid (MidAt w0 wr st sd j (.slice (some ⟨g, 0, none⟩) (j + 1) cap) u6) := HM2.out.on HI.out.2
          obtain ⟨vs, r1, r2, r3⟩ := HM4.out.rows
          have HA4 : Hid (Below wr.heap.size wr (wr.alloc (.cells #[.slice (some ⟨w2.heap.size, 0, none⟩) 512 512] 23))) := (Below.refl _ _).alloc (Nat.le_refl _) _
          have HR : Hid (wr.ownsRow 0 23 1 u6 j vs ∧ SlAt wr vs (dsP sd j) ∧ ∀ u ∈ vs, ∀ k, u.ownBlock = some k → w0.heap.size ≤ k ∧ ∃ cap l, OwnB wr k cap l) := ⟨r1, r2, r3⟩
          clear r1 r2 r3
          have HN3 : Hid (∀ m u, [Value.slice (some ⟨w2.heap.size, 0, none⟩) 512 512][m]? = some u → (wr.alloc (.cells #[.slice (some ⟨w2.heap.size, 0, none⟩) 512 512] 23)).cell? ((⟨wr.heap.size, 0, none⟩ : Addr).add m) = some u) := fun m u hm => by
            have : m = 0 := by
              by_cases h : m = 0
              · exact h
              · rw [List.getElem?_eq_none (by simp; omega)] at hm; cases hm
            subst this
            cases hm
            rw [Addr.add_lit, cell_of_row _ _ _ _ _ _ (heap_alloc_new _ _)]; rfl
          have HNx : Hid (∀ g' cap' w', w'.ownsRow 0 23 1 (.slice (some ⟨g', 0, none⟩) (j + 1) cap') (j + 1) (vs ++ [.slice (some ⟨w2.heap.size, 0, none⟩) 512 512]) → Fr (fun k => u6.ownBlock = some k) (wr.alloc (.cells #[.slice (some ⟨w2.heap.size, 0, none⟩) 512 512] 23)) w' → (u6.ownBlock = some g' ∨ (wr.alloc (.cells #[.slice (some ⟨w2.heap.size, 0, none⟩) 512 512] 23)).heap.size ≤ g') → MadeAt w0 w' st sd (j + 1) (.slice (some ⟨g, 0, none⟩) (j + 1) cap) (.slice (some ⟨g', 0, none⟩) (j + 1) cap')) := fun g' cap' w' h1 h2 h3 =>
            (HM4.out.on HA4.out).next (owns_on HR.out.1 HA4.out) (HR.out.2.1.on HA4.out) (fun u hu k hk => by obtain ⟨a, c, l, b⟩ := HR.out.2.2 u hu k hk; exact ⟨a, c, l, b.on HA4.out⟩) (HBl.out.on HA4.out) HM2.out.bel.size h1 h2 h3
          have HRA : Hid ((wr.alloc (.cells #[.slice (some ⟨w2.heap.size, 0, none⟩) 512 512] 23)).ownsRow 0 23 1 u6 j vs) := owns_on HR.out.1 HA4.out
          by_cases h5 : k < 512
          case' pos => have hb0 : bn = 0 := by omega
          case' pos => subst hb0
          all_goals
            go_wp2_with (at_builtin; refine wp_sown rfl (.tmp 64) (.tmp 66) rfl u6 j vs rfl HRA.out ⟨wr.heap.size, 0, none⟩ 1 1 [.slice (some ⟨w2.heap.size, 0, none⟩) 512 512] rfl (by omega) rfl HN3.out (fun u hu => by simp at hu; subst hu; rfl) (by omega) ?_; intro g5 cap5 w5 ho hf hg; have HM5 : Hid (MadeAt w0 w5 st sd (j + 1) (.slice (some ⟨g, 0, none⟩) (j + 1) cap) (.slice (some ⟨g5, 0, none⟩) (j + 1) cap5)) := HNx.out g5 cap5 w5 ho hf hg; clear ho hf hg)
            go_round
            case rel => exact ⟨j + 1, by omega, by omega, by rw [HE.out], by go_num, HM5.out⟩
            case measure => simp [intOf]; omega
    · by_cases h0 : j = 0
      · subst h0
        have hsn : sn = 0 := by omega
        subst hsn
        obtain ⟨a5, n5, rfl⟩ := own_form HM.out.nums
        have HT0 : Hid (planN st = [98] ∧ planD st sd = [one 7]) := by
          unfold planN planD
          exact ⟨by rw [if_pos HSl.out.1], by rw [if_pos HSl.out.1]⟩
        have HA5 : Hid (Below wr.heap.size wr (wr.alloc (.cells #[.int .i64 98] 3))) := (Below.refl _ _).alloc (Nat.le_refl _) _
        have HI5 : Hid (OwnI (wr.alloc (.cells #[.int .i64 98] 3)) wr.heap.size 1 [98]) := ⟨⟨_, heap_alloc_new _ _, rfl, rfl⟩, by simp, by simp, by unfold maxLen; omega⟩
        clear hlt
        go_wp2_with (go_at_call 11; refine (block_any _ 7 (by omega)).mono ?_; rintro e w5 ⟨g5, rfl, ho, hg, hb⟩; have H5 : Hid (OwnB w5 g5 512 (one 7) ∧ OwnI w5 wr.heap.size 1 [98] ∧ Below wr.heap.size wr w5) := ⟨ho, HI5.out.on hb, HA5.out.trans (hb.mono HA5.out.size)⟩; have H5g : Hid (wr.heap.size ≤ g5) := Nat.le_trans HA5.out.size hg; clear ho hg hb)
        have HA6 : Hid (Below w5.heap.size w5 (w5.alloc (.cells #[.slice (some ⟨g5, 0, none⟩) 512 512] 23))) := (Below.refl _ _).alloc (Nat.le_refl _) _
        go_ret2
        refine ⟨wr.heap.size, 1, w5.heap.size, 1, 1, by rw [HT0.out.1]; rfl, rfl, fun wx x => ?_, Nat.le_refl _, ?_⟩
        · have hw : w.heap.size ≤ wr.heap.size := (HA.out.trans (HM.out.bel.mono HA.out.size)).size
          have h5 := H5.out.2.2.size
          have h6 := H5g.out
          rw [HT0.out.1, HT0.out.2]
          refine ⟨(H5.out.2.1.on HA6.out).fr x (by omega), ⟨by simp, .inr ⟨_, 0, rfl, fun i hi => ?_⟩⟩⟩
          have hi0 : i = 0 := by simpa using hi
          subst hi0
          refine ⟨some ⟨g5, 0, none⟩, 512, ?_, ((H5.out.1.on HA6.out).fr x (by omega)).bytes, fun e => by cases e⟩
          have hc : (w5.alloc (.cells #[.slice (some ⟨g5, 0, none⟩) 512 512] 23)).cell? ⟨w5.heap.size, 0 + 0, none⟩ = some (.slice (some ⟨g5, 0, none⟩) (row [one 7] 0).length 512) := by
            rw [cell_of_row _ _ _ _ _ _ (heap_alloc_new _ _)]
            show some (Value.slice (some ⟨g5, 0, none⟩) 512 512) = _
            rw [show (row [one 7] 0).length = 512 from one_length 7]
          exact x.cell hc (show ¬ w5.heap.size < w.heap.size by omega)
        have b1 := HA.out.trans (HM.out.bel.mono HA.out.size)
        have b2 := b1.trans (H5.out.2.2.mono b1.size)
        exact b2.trans (HA6.out.mono b2.size)
      · obtain ⟨g5, c5, rfl⟩ := own_some HM.out.nums (by omega)
        obtain ⟨vs, r1, r2, r3⟩ := HM.out.rows
        obtain ⟨g6, c6, rfl⟩ := own_some r1 (by omega)
        have HR : Hid (wr.ownsRow 0 23 1 (.slice (some ⟨g6, 0, none⟩) j c6) j vs ∧ SlAt wr vs (dsP sd j)) := ⟨r1, r2⟩
        have HR3 : Hid (∀ u ∈ vs, ∀ k, u.ownBlock = some k → w.heap.size ≤ k) := fun u hu k hk => Nat.le_trans HA.out.size (r3 u hu k hk).1
        have HFr : Hid (∀ wx, Fr (fun k => k < w.heap.size) wr wx → wx.ownsRow 0 3 1 (.slice (some ⟨g5, 0, none⟩) j c5) j ((nsP st j).map (Value.int .i64)) ∧ wx.ownsRow 0 23 1 (.slice (some ⟨g6, 0, none⟩) j c6) j vs ∧ SlAt wx vs (dsP sd j)) := fun wx x => ⟨owns_fr HM.out.nums x (fun k hk => (by have := HM.out.far5 k hk; have := HA.out.size; omega)), owns_fr r1 x (fun k hk => (by have := HM.out.far6 k hk; have := HA.out.size; omega)), r2.fr x (fun u hu k hk => (by have := Nat.le_trans HA.out.size (r3 u hu k hk).1; omega))⟩
        clear r1 r2 r3
        have HT0 : Hid (planN st = nsP st j ∧ planD st sd = dsP sd j) := by
          have := HSl.out.1
          have e : min st.length 96 = j := by omega
          unfold planN planD
          exact ⟨by rw [if_neg (by omega), e], by rw [if_neg (by omega), e]⟩
        have hj0 : ¬ (j : Int) = 0 := by omega
        have hlt' : ¬ (j < sn ∧ j < 96) := hlt
        clear hlt
        by_cases hs : j < sn
        · obtain rfl : j = 96 := by omega
          clear hlt'
          go_wp2
          go_ret2
          exact ⟨g5, c5, g6, c6, 96, by rw [HT0.out.1, nsP_length], rfl, fun wx x => (by rw [HT0.out.1, HT0.out.2]; have z := HFr.out wx x; exact ⟨OwnI.of z.1 (nsP_length st 96) (by omega), z.2.2.data z.2.1 (by rw [dsP_length]; omega)⟩), own_cap HR.out.1, HA.out.trans (HM.out.bel.mono HA.out.size)⟩
        · clear hlt'
          go_wp2
          go_ret2
          exact ⟨g5, c5, g6, c6, j, by rw [HT0.out.1, nsP_length], rfl, fun wx x => (by rw [HT0.out.1, HT0.out.2]; have z := HFr.out wx x; exact ⟨OwnI.of z.1 (nsP_length st j) (by omega), z.2.2.data z.2.1 (by rw [dsP_length]; omega)⟩), own_cap HR.out.1, HA.out.trans (HM.out.bel.mono HA.out.size)⟩
end Go.Proofs.YtdkolofmnbbocaaDoor
