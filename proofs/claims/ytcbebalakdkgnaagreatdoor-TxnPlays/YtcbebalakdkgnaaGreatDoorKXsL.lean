import Derived.Test.YtcbebalakdkgnaaGreatDoorKXsH
import Derived.Test.YtcbebalakdkgnaaGreatDoorKXsA
import Derived.Laws.OwnMore
namespace Go.Proofs.YtcbebalakdkgnaaGreatDoor
open Go.RowKit Rec
theorem num_drop (F : List Int) (o A : Nat) : ∀ n, num (F.drop o) A n = num F (o + A) n
  | 0 => rfl
  | n + 1 => by
    rw [num, num, num_drop F o A n]
    congr 2
    unfold nth
    rw [List.getD_eq_getElem?_getD, List.getD_eq_getElem?_getD, List.getElem?_drop, Nat.add_assoc]
theorem nth_drop6 (F : List Int) (o i : Nat) : nth (F.drop o) i = nth F (o + i) := by
  unfold nth
  rw [List.getD_eq_getElem?_getD, List.getD_eq_getElem?_getD, List.getElem?_drop]
/-- what the log of an image says -/
structure Lg6 (F : List Int) (nb k : Nat) : Prop where
  nb98 : 98 ≤ nb
  h0 : nth F 512 ≠ 0
  n : num F 520 2 = (k : Nat)
  k96 : k ≤ 96
  at_ : ∀ i, i < k → 98 ≤ num F (528 + 4 * i) 4 ∧ num F (528 + 4 * i) 4 < nb
set_option maxRecDepth 100000 in
set_option maxHeartbeats 8000000 in
theorem r6behind_nil (w : World) (b off c nb : Nat) (F : List Int) (hB : Bytes w (some ⟨b, off, none⟩) F) (hl : F.length = 512 * nb) (h1 : 1 ≤ nb) (h16 : nb ≤ 16384) (h0 : nb < 98 ∨ nth F 512 = 0) :
    Calls Tryz.prog 54 #[.slice (some ⟨b, off, none⟩) (512 * nb) c] w fun e w' => ∃ v, e = .returned v ∧ BL w w' v F := by
  obtain ⟨N, hN⟩ : ∃ N, 512 * nb = N := ⟨_, rfl⟩
  have HN : Hid (F.length = N ∧ Bytes w (some ⟨b, off, none⟩) F) := ⟨by rw [hl, hN], hB⟩
  have hN1 : 0 < N ∧ N ≤ 8388608 := by omega
  obtain ⟨hN0, hN8⟩ := hN1
  have hcc : ∀ i, i < F.length → w.cell? ⟨b, off + i, none⟩ = some (.int .u8 (nth F i)) := by
    rcases hB.at_ with e | ⟨b', off', e, h⟩
    · rw [e] at hl; simp at hl; omega
    · cases e; exact h
  have HC : Hid (∀ wx, Below w.heap.size w wx → ∀ i, i < F.length → wx.cell? ⟨b, off + i, none⟩ = some (.int .u8 (nth F i))) := fun wx hb i hi => (below_fr hb (fun _ => False)).cell (hcc i hi) (fun e => e)
  have hcase : N < 50176 ∨ (50176 ≤ N ∧ nth F 512 = 0) := by
    rcases h0 with h | h
    · exact .inl (by omega)
    · by_cases h5 : N < 50176
      · exact .inl h5
      · exact .inr ⟨by omega, h⟩
  rw [hN]
  clear hB hl hcc h0 hN
  rcases hcase with hs | ⟨hs, h0⟩
  · have hs' : (N : Int) < 50176 := by omega
    go_enter Tryz.func54, Tryz.ntmps54
    go_wp2_with (at_builtin; refine wp_bown rfl (.tmp 8) (.tmp 9) rfl (.slice none 0 0) 0 [] rfl (BL.zero (w0 := w) (Below.refl _ _)).o.row ⟨b, off, none⟩ N c F rfl hN0 HN.out.1 HN.out.2 (by omega) ?_
                 intro g1 cap1 w1 h1 h2 h3
                 go_frame
                 have H1 : Hid (BL w w1 (.slice (some ⟨g1, 0, none⟩) N cap1) F) := (by
                   have := (BL.zero (w0 := w) (Below.refl w.heap.size w)).grow (k := 0) (m := N) rfl HN.out.1 HN.out.2.wf (by omega) (Below.refl _ _) h1 h2 h3
                   rw [Nat.zero_add, List.nil_append] at this
                   exact this)
                 clear h1 h2 h3)
    go_ret
    exact ⟨_, rfl, by rw [Nat.zero_add]; exact H1.out⟩
  · have hs' : ¬ (N : Int) < 50176 := by omega
    go_enter Tryz.func54, Tryz.ntmps54
    go_upto_region 3 with (at_builtin; refine wp_bown rfl (.tmp 8) (.tmp 9) rfl (.slice none 0 0) 0 [] rfl (BL.zero (w0 := w) (Below.refl _ _)).o.row ⟨b, off, none⟩ N c F rfl hN0 HN.out.1 HN.out.2 (by omega) ?_
                           intro g1 cap1 w1 h1 h2 h3
                           go_frame
                           have H1 : Hid (BL w w1 (.slice (some ⟨g1, 0, none⟩) N cap1) F) := (by
                             have := (BL.zero (w0 := w) (Below.refl w.heap.size w)).grow (k := 0) (m := N) rfl HN.out.1 HN.out.2.wf (by omega) (Below.refl _ _) h1 h2 h3
                             rw [Nat.zero_add, List.nil_append] at this
                             exact this)
                           clear h1 h2 h3)
    have c5 : w1.cell? ⟨b, off + 512, none⟩ = some (.int .u8 0) := by rw [← h0]; exact HC.out w1 H1.out.o.bel 512 (by rw [HN.out.1]; omega)
    clear h0
    go_wp2
    go_ret
    exact ⟨_, rfl, H1.out⟩
set_option maxRecDepth 100000 in
set_option maxHeartbeats 8000000 in
theorem r6behind_log (w : World) (b off c nb k : Nat) (F : List Int) (hB : Bytes w (some ⟨b, off, none⟩) F) (hl : F.length = 512 * nb) (h16 : nb ≤ 16384) (hc : 512 * nb ≤ c) (hG : Lg6 F nb k) :
    Calls Tryz.prog 54 #[.slice (some ⟨b, off, none⟩) (512 * nb) c] w fun e w' => ∃ g cap, e = .returned (.slice (some ⟨g, 0, none⟩) (512 * nb) cap) ∧ OwnB w' g cap (wr (fw F (hm6 F k)) 1 zs) ∧ w.heap.size ≤ g ∧ Below w.heap.size w w' := by
  obtain ⟨N, hN⟩ : ∃ N, 512 * nb = N := ⟨_, rfl⟩
  have HN : Hid (F.length = N ∧ Bytes w (some ⟨b, off, none⟩) F ∧ 512 * nb = N ∧ Lg6 F nb k) := ⟨by rw [hl, hN], hB, hN, hG⟩
  have hnb98 := hG.nb98
  have hN0 : 50176 ≤ N := by omega
  have hN8 : N ≤ 8388608 := by omega
  have hcc : ∀ i, i < F.length → w.cell? ⟨b, off + i, none⟩ = some (.int .u8 (nth F i)) := by
    rcases hB.at_ with e | ⟨b', off', e, h⟩
    · rw [e] at hl; simp at hl; omega
    · cases e; exact h
  have HC : Hid (∀ wx, Below w.heap.size w wx → ∀ i, i < N → wx.cell? ⟨b, off + i, none⟩ = some (.int .u8 (nth F i))) := fun wx hb i hi => (below_fr hb (fun _ => False)).cell (hcc i (by rw [HN.out.1]; exact hi)) (fun e => e)
  have HNum : Hid (∀ wx, Below w.heap.size w wx → ∀ o n cx, n ≤ 4 → o + n ≤ N → Calls Tryz.prog 80 #[.slice (some ⟨b, off + o, none⟩) n cx] wx fun e w' => e = .returned (.int .i64 (num F o n)) ∧ wx = w') := fun wx hb o n cx h4 ho => by
    have := r6number_any wx b (off + o) cx n (F.drop o) h4 (fun i => by rw [nth_drop6]; exact hB.wf _) (fun i hi => by rw [nth_drop6, Nat.add_assoc]; exact HC.out wx hb (o + i) (by omega))
    rw [num_drop, Nat.add_zero] at this
    exact this
  have hk96 := hG.k96
  have hh0 := hG.h0
  obtain ⟨z, hz⟩ : ∃ z, nth F 512 = z := ⟨_, rfl⟩
  rw [hz] at hh0
  have HZ : Hid (nth F 512 = z) := hz
  rw [hN] at hc ⊢
  clear hB hl hcc hG hN hz hnb98
  have hs' : ¬ (N : Int) < 50176 := by omega
  have hzz : (z == 0) = false := beq_eq_false_iff_ne.2 hh0
  go_enter Tryz.func54, Tryz.ntmps54
  go_upto_region 3 with (at_builtin; refine wp_bown rfl (.tmp 8) (.tmp 9) rfl (.slice none 0 0) 0 [] rfl (BL.zero (w0 := w) (Below.refl _ _)).o.row ⟨b, off, none⟩ N c F rfl (by omega) HN.out.1 HN.out.2.1 (by omega) ?_
                         intro g1 cap1 w1 h1 h2 h3
                         go_frame
                         have H1 : Hid (BL w w1 (.slice (some ⟨g1, 0, none⟩) N cap1) F) := (by
                           have := (BL.zero (w0 := w) (Below.refl w.heap.size w)).grow (k := 0) (m := N) rfl HN.out.1 HN.out.2.1.wf (by omega) (Below.refl _ _) h1 h2 h3
                           rw [Nat.zero_add, List.nil_append] at this
                           exact this)
                         clear h1 h2 h3)
  have c5 : w1.cell? ⟨b, off + 512, none⟩ = some (.int .u8 z) := by rw [← HZ.out]; exact HC.out w1 H1.out.o.bel 512 (by omega)
  have HO : Hid (OwnB w1 g1 cap1 (fw F (hm6 F 0)) ∧ w.heap.size ≤ g1 ∧ Below w.heap.size w w1) := ⟨by
    have := ownB_of (H1.out.row HN.out.1) HN.out.1 (by omega) H1.out.wf
    exact this, H1.out.o.far g1 rfl, H1.out.o.bel⟩
  clear H1
  go_upto_region 6 with fail
  have hk0 : num F 520 2 = (k : Int) := HN.out.2.2.2.n
  go_wp2
  go_loopw [4, 5, 6] (fun s4 _ _ wr => ∃ i : Nat, i ≤ k ∧ s4 = .int .i64 i ∧ OwnB wr g1 cap1 (fw F (hm6 F i)) ∧ Below w.heap.size w wr) (fun s4 _ _ _ => k - (intOf s4).toNat)
  case atStart => exact ⟨0, Nat.zero_le _, rfl, HO.out.1, HO.out.2.2⟩
  case round =>
    obtain ⟨i, hi, rfl, hA, hb⟩ := hrel
    have HA : Hid (OwnB wr g1 cap1 (fw F (hm6 F i)) ∧ Below w.heap.size w wr) := ⟨hA, hb⟩
    clear hA hb c5
    by_cases hlt : i < k
    · have hat := HN.out.2.2.2.at_ i hlt
      obtain ⟨x, hx⟩ : ∃ x : Nat, num F (528 + 4 * i) 4 = (x : Int) := ⟨(num F (528 + 4 * i) 4).toNat, by omega⟩
      have HX : Hid (num F (528 + 4 * i) 4 = (x : Int) ∧ x < nb ∧ 98 ≤ x) := ⟨hx, by omega, by omega⟩
      clear hat hx
      go_upto_region 8 with (go_at_call 80; refine (HNum.out wr HA.out.2 520 2 _ (by omega) (by omega)).mono ?_; rintro e w' ⟨rfl, rfl⟩; rw [hk0])
      obtain ⟨A, hA⟩ : ∃ A, 528 + 4 * i = A := ⟨_, rfl⟩
      have HAe : Hid (528 + 4 * i = A) := hA
      have eA : (528 : Int) + 4 * (i : Int) = (A : Int) := by omega
      have eB : (532 : Int) + 4 * (i : Int) = ((A + 4 : Nat) : Int) := by omega
      have hA4 : A + 4 ≤ N := by omega
      clear hA
      go_upto_region 9 with (go_at_call 80; refine (HNum.out wr HA.out.2 A 4 _ (by omega) (by omega)).mono ?_; rintro e w' ⟨rfl, rfl⟩; rw [← HAe.out, HX.out.1])
      clear eA eB
      obtain ⟨G, hG⟩ : ∃ G, fw F (hm6 F i) = G := ⟨_, rfl⟩
      obtain ⟨y, hy⟩ : ∃ y, bck F (2 + i) = y := ⟨_, rfl⟩
      have hy5 : y.length = 512 := by rw [← hy]; exact bck_length _ _ nb (by rw [HN.out.1, HN.out.2.2.1]) (by have := HN.out.2.2.2.nb98; omega)
      have HY : Hid (y.length = 512 ∧ (∀ t, t < 512 → nth y t = nth F (512 * (2 + i) + t)) ∧ (∀ t, 0 ≤ nth y t ∧ nth y t < 256)) := ⟨hy5, fun t ht => by rw [← hy, nth_bck _ _ _ ht], fun t => by
        by_cases ht : t < 512
        · rw [← hy, nth_bck _ _ _ ht]; exact HN.out.2.1.wf _
        · unfold nth; rw [List.getD_eq_getElem?_getD, List.getElem?_eq_none (by omega)]; exact ⟨Int.le_refl _, by decide⟩⟩
      have HGe : Hid (G.length = N ∧ ov G (512 * x) 512 (nth y) = fw F (hm6 F (i + 1))) := ⟨by rw [← hG, fw_length, HN.out.1], by
        rw [← hG, ← hy, hm6_succ, fw_append, HX.out.1, Int.toNat_natCast]; rfl⟩
      rw [hG] at HA
      obtain ⟨X, hX⟩ : ∃ X, 512 * x = X := ⟨_, rfl⟩
      obtain ⟨Y, hY⟩ : ∃ Y, 512 * (2 + i) = Y := ⟨_, rfl⟩
      have HXY : Hid (512 * x = X ∧ 512 * (2 + i) = Y) := ⟨hX, hY⟩
      have eX : (x : Int) * 512 = (X : Int) := by omega
      have eY : ((2 : Int) + (i : Int)) * 512 = (Y : Int) := by omega
      have hXN : X + 512 ≤ N := by have := HX.out.2.1; have := HN.out.2.2.1; omega
      have hYN : Y + 512 ≤ N := by have := HN.out.2.2.2.nb98; have := HN.out.2.2.1; omega
      clear hG hy hy5 hX hY
      have HA0 : Hid (OwnB wr g1 cap1 (ov G X 0 (nth y)) ∧ Below w.heap.size w wr) := ⟨by rw [ov_zero]; exact HA.out.1, HA.out.2⟩
      clear HA
      go_wp2
      go_loopw [6] (fun s6 wq => ∃ t : Nat, t ≤ 512 ∧ s6 = .int .i64 t ∧ OwnB wq g1 cap1 (ov G X t (nth y)) ∧ Below w.heap.size w wq) (fun s6 _ => 512 - (intOf s6).toNat)
      case atStart => exact ⟨0, Nat.zero_le _, rfl, HA0.out.1, HA0.out.2⟩
      case round =>
        obtain ⟨t, ht, rfl, hA, hb⟩ := hrel
        have HA : Hid (OwnB wr g1 cap1 (ov G X t (nth y)) ∧ Below w.heap.size w wr) := ⟨hA, hb⟩
        clear hA hb HA0
        by_cases hlt5 : t < 512
        · have d1 : wr.cell? ⟨b, off + (Y + t), none⟩ = some (.int .u8 (nth y t)) := by
            rw [HY.out.2.1 t hlt5, HXY.out.2]; exact HC.out wr HA.out.2 (Y + t) (by omega)
          have hol : (ov G X t (nth y)).length = N := by rw [ov_length]; exact HGe.out.1
          have d2 : wr.cell? ⟨g1, X + t, none⟩ = some (.int .u8 (nth (ov G X t (nth y)) (X + t))) := HA.out.1.cell _ (by rw [hol]; omega)
          have f2 : wr.frozen? ⟨g1, X + t, none⟩ = false := HA.out.1.frozen _
          obtain ⟨yt, hyt⟩ : ∃ yt, nth y t = yt := ⟨_, rfl⟩
          have HS : Hid (OwnB (wr.setCell ⟨g1, X + t, none⟩ (.int .u8 yt)) g1 cap1 (ov G X (t + 1) (nth y)) ∧ Below w.heap.size w (wr.setCell ⟨g1, X + t, none⟩ (.int .u8 yt))) := by
            have := HA.out.1.set (X + t) (nth y t) (by rw [hol]; omega) (HY.out.2.2 t)
            rw [ov_set _ _ _ _ (by rw [HGe.out.1]; omega), hyt] at this
            exact ⟨this, HA.out.2.trans ((Fr.set (w := wr) (g := g1)).below _ (fun k hk => by rw [hk]; exact HO.out.2.1) HA.out.2.size)⟩
          rw [hyt] at d1
          obtain ⟨Xt, hXt⟩ : ∃ Xt, X + t = Xt := ⟨_, rfl⟩
          obtain ⟨Yt, hYt⟩ : ∃ Yt, Y + t = Yt := ⟨_, rfl⟩
          rw [hXt] at d2 f2 HS
          rw [hYt] at d1
          have eXt : (X : Int) + (t : Int) = (Xt : Int) := by omega
          have eYt : (Y : Int) + (t : Int) = (Yt : Int) := by omega
          have hb1 : Xt < N := by omega
          have hb2 : Yt < N := by omega
          clear hol hyt hXt hYt
          go_wp2
          exact ⟨⟨t + 1, hlt5, rfl, HS.out.1, HS.out.2⟩, by simp [intOf]; omega⟩
        · have ht5 : t = 512 := by omega
          subst ht5
          have HE : Hid (OwnB wr g1 cap1 (fw F (hm6 F (i + 1))) ∧ Below w.heap.size w wr) := by
            have := HA.out
            rw [← HXY.out.1, HGe.out.2] at this
            exact this
          go_wp2
          exact ⟨⟨i + 1, hlt, rfl, HE.out.1, HE.out.2⟩, by simp [intOf]; omega⟩
    · have hik : i = k := by omega
      subst hik
      obtain ⟨G, hG⟩ : ∃ G, fw F (hm6 F i) = G := ⟨_, rfl⟩
      have HGl : Hid (G.length = N ∧ fw F (hm6 F i) = G) := ⟨by rw [← hG, fw_length, HN.out.1], hG⟩
      rw [hG] at HA
      have HA0 : Hid (OwnB wr g1 cap1 (ov G 512 0 (nth zs)) ∧ Below w.heap.size w wr) := ⟨by rw [ov_zero]; exact HA.out.1, HA.out.2⟩
      clear HA hG
      go_upto_region 13 with (go_at_call 80; refine (HNum.out wr HA0.out.2 520 2 _ (by omega) (by omega)).mono ?_; rintro e w' ⟨rfl, rfl⟩; rw [hk0])
      go_wp2
      go_loopw [7] (fun s7 wq => ∃ t : Nat, t ≤ 512 ∧ s7 = .int .i64 t ∧ OwnB wq g1 cap1 (ov G 512 t (nth zs)) ∧ Below w.heap.size w wq) (fun s7 _ => 512 - (intOf s7).toNat)
      case atStart => exact ⟨0, Nat.zero_le _, rfl, HA0.out.1, HA0.out.2⟩
      case round =>
        obtain ⟨t, ht, rfl, hA, hb⟩ := hrel
        have HA : Hid (OwnB wr g1 cap1 (ov G 512 t (nth zs)) ∧ Below w.heap.size w wr) := ⟨hA, hb⟩
        clear hA hb HA0
        by_cases hlt5 : t < 512
        · have hol : (ov G 512 t (nth zs)).length = N := by rw [ov_length]; exact HGl.out.1
          have d2 : wr.cell? ⟨g1, 512 + t, none⟩ = some (.int .u8 (nth (ov G 512 t (nth zs)) (512 + t))) := HA.out.1.cell _ (by rw [hol]; omega)
          have f2 : wr.frozen? ⟨g1, 512 + t, none⟩ = false := HA.out.1.frozen _
          have HS : Hid (OwnB (wr.setCell ⟨g1, 512 + t, none⟩ (.int .u8 0)) g1 cap1 (ov G 512 (t + 1) (nth zs)) ∧ Below w.heap.size w (wr.setCell ⟨g1, 512 + t, none⟩ (.int .u8 0))) := by
            have := HA.out.1.set (512 + t) (nth zs t) (by rw [hol]; omega) (by rw [nth_zs]; omega)
            rw [ov_set _ _ _ _ (by rw [HGl.out.1]; omega), nth_zs] at this
            exact ⟨this, HA.out.2.trans ((Fr.set (w := wr) (g := g1)).below _ (fun k hk => by rw [hk]; exact HO.out.2.1) HA.out.2.size)⟩
          obtain ⟨Xt, hXt⟩ : ∃ Xt, 512 + t = Xt := ⟨_, rfl⟩
          rw [hXt] at d2 f2 HS
          have eXt : (512 : Int) + (t : Int) = (Xt : Int) := by omega
          have hb1 : Xt < N := by omega
          clear hol hXt
          go_wp2
          exact ⟨⟨t + 1, hlt5, rfl, HS.out.1, HS.out.2⟩, by simp [intOf]; omega⟩
        · have ht5 : t = 512 := by omega
          subst ht5
          have HE : Hid (OwnB wr g1 cap1 (Rec.wr G 1 zs) ∧ Below w.heap.size w wr) := HA.out
          go_wp2
          go_ret
          exact ⟨g1, cap1, rfl, by rw [HGl.out.2]; exact HE.out.1, HO.out.2.1, HE.out.2⟩
end Go.Proofs.YtcbebalakdkgnaaGreatDoor

namespace Go.Proofs.YtcbebalakdkgnaaGreatDoor
open Go.RowKit Rec

theorem up_eq1 {α : Type} (f : Nat → α) (n : Nat) (v : α) : up f n v n = v := if_pos rfl
theorem up_ne {α : Type} (f : Nat → α) {n i : Nat} (v : α) (h : i ≠ n) : up f n v i = f i := if_neg h
/-- rows of two types lie in two blocks -/
theorem own_two {w : World} {B B' e e' sz sz' n n' : Nat} {v v' : Value} {xs xs' : List Value} (h : w.ownsRow B e sz v n xs) (h' : w.ownsRow B' e' sz' v' n' xs') (hne : e ≠ e') {b : Nat} (hb : v.ownBlock = some b) : v'.ownBlock ≠ some b := by
  intro hb'
  rcases h.2 with ⟨e1, _⟩ | ⟨g, cap, cur, e1, _, h1, _⟩
  · rw [e1] at hb; cases hb
  · rcases h'.2 with ⟨e2, _⟩ | ⟨g', cap', cur', e2, _, h2, _⟩
    · rw [e2] at hb'; cases hb'
    · rw [e1] at hb; rw [e2] at hb'
      cases hb; cases hb'
      rw [h1] at h2
      injection h2 with h2
      injection h2 with _ h3 _
      exact hne h3
/-- a row of lists, each with a block of its own: an element has rs cells in the row -/
structure LV (ty rs el sz : Nat) (w : World) (lv : Value) (n : Nat) (R : Nat → List Value) (V : Nat → Value) (M : Nat → Nat) (C : Nat → List Value) : Prop where
  row : w.ownsRow 0 ty rs lv n ((List.range n).flatMap R)
  ls : ∀ i, i < n → w.ownsRow 0 el sz (V i) (M i) (C i)
  ap : ∀ i j, i < n → j < n → i ≠ j → ∀ b, (V i).ownBlock = some b → (V j).ownBlock ≠ some b
/-- its blocks -/
def hasL (lv : Value) (n : Nat) (V : Nat → Value) (k : Nat) : Prop := lv.ownBlock = some k ∨ ∃ i, i < n ∧ (V i).ownBlock = some k
section
variable {ty rs el sz : Nat} {w w' : World} {lv : Value} {n : Nat} {R : Nat → List Value} {V : Nat → Value} {M : Nat → Nat} {C : Nat → List Value}
theorem LV.zero (w : World) : LV ty rs el sz w (.slice none 0 0) 0 R V M C := ⟨⟨by simp, .inl ⟨rfl, rfl⟩⟩, fun _ h => absurd h (Nat.not_lt_zero _), fun _ _ h => absurd h (Nat.not_lt_zero _)⟩
theorem LV.fr {S : Nat → Prop} (h : LV ty rs el sz w lv n R V M C) (x : Fr S w w') (hS : ∀ k, hasL lv n V k → ¬ S k) : LV ty rs el sz w' lv n R V M C :=
  ⟨owns_fr h.row x (fun k e => hS k (.inl e)), fun i hi => owns_fr (h.ls i hi) x (fun k e => hS k (.inr ⟨i, hi, e⟩)), h.ap⟩
theorem LV.on (h : LV ty rs el sz w lv n R V M C) (hb : Below w.heap.size w w') : LV ty rs el sz w' lv n R V M C := h.fr (below_fr hb (fun _ => False)) (fun _ _ e => e)
theorem LV.lt (h : LV ty rs el sz w lv n R V M C) {k : Nat} (hk : hasL lv n V k) : k < w.heap.size := by
  rcases hk with e | ⟨i, hi, e⟩
  · exact owns_block h.row e
  · exact owns_block (h.ls i hi) e
theorem flat_up (R : Nat → List Value) (k : Nat) (r : List Value) : (List.range (k + 1)).flatMap (up R k r) = (List.range k).flatMap R ++ r := by
  rw [List.range_succ, List.flatMap_append, List.flatMap_cons, List.flatMap_nil, List.append_nil, up_eq1]
  congr 1
  have : ∀ l : List Nat, (∀ i ∈ l, i ≠ k) → l.flatMap (up R k r) = l.flatMap R := fun l => by
    induction l with
    | nil => intro _; rfl
    | cons a l ih => intro h; rw [List.flatMap_cons, List.flatMap_cons, ih (fun i hi => h i (List.mem_cons_of_mem _ hi)), up_ne _ _ (h a List.mem_cons_self)]
  exact this _ (fun i hi => by have := List.mem_range.1 hi; omega)
/-- one list more -/
theorem LV.one {u : Value} {m b cap : Nat} {c r : List Value} (hne : ty ≠ el) (h : LV ty rs el sz w lv n R V M C) (hu : w.ownsRow 0 el sz u m c) (hap : ∀ i, i < n → ∀ b, (V i).ownBlock = some b → u.ownBlock ≠ some b)
    (h1 : w'.ownsRow 0 ty rs (.slice (some ⟨b, 0, none⟩) (n + 1) cap) (n + 1) ((List.range n).flatMap R ++ r)) (h2 : Fr (fun k => lv.ownBlock = some k) w w') :
    LV ty rs el sz w' (.slice (some ⟨b, 0, none⟩) (n + 1) cap) (n + 1) (up R n r) (up V n u) (up M n m) (up C n c) := by
  refine ⟨by rw [flat_up]; exact h1, fun i hi => ?_, fun i j hi hj hij x hx => ?_⟩
  · by_cases e : i = n
    · subst e; rw [up_eq1, up_eq1, up_eq1]; exact owns_fr hu h2 (fun x e1 e2 => own_two h.row hu hne e2 e1)
    · rw [up_ne _ _ e, up_ne _ _ e, up_ne _ _ e]; exact owns_fr (h.ls i (by omega)) h2 (fun x e1 e2 => own_two h.row (h.ls i (by omega)) hne e2 e1)
  · by_cases e : i = n
    · subst e
      rw [up_eq1] at hx
      rw [up_ne _ _ (fun e => hij e.symm)]
      exact fun e2 => hap j (by omega) x e2 hx
    · rw [up_ne _ _ e] at hx
      by_cases e2 : j = n
      · subst e2; rw [up_eq1]; exact hap i (by omega) x hx
      · rw [up_ne _ _ e2]; exact h.ap i j (by omega) (by omega) hij x hx
/-- one list is another, where it lies -/
theorem LV.put {k : Nat} {c : List Value} (hne : ty ≠ el) (h : LV ty rs el sz w lv n R V M C) (hk : k < n) (x : Fr (fun b => (V k).ownBlock = some b) w w') (ht : w'.ownsRow 0 el sz (V k) (M k) c) : LV ty rs el sz w' lv n R V M (up C k c) :=
  ⟨owns_fr h.row x (fun _ e1 e2 => own_two h.row (h.ls k hk) hne e1 e2), fun i hi => by
    by_cases e : i = k
    · subst e; rw [up_eq1]; exact ht
    · rw [up_ne _ _ e]; exact owns_fr (h.ls i hi) x (fun b e1 e2 => h.ap i k hi hk e b e1 e2), h.ap⟩
theorem flat_at (R : Nat → List Value) (rs : Nat) (n i j : Nat) (hR : ∀ i, (R i).length = rs) (hi : i < n) (hj : j < rs) : ((List.range n).flatMap R)[i * rs + j]? = (R i)[j]? := by
  induction n with
  | zero => omega
  | succ n ih =>
    have hl : ((List.range n).flatMap R).length = n * rs := by
      clear ih hi
      induction n with
      | zero => simp
      | succ n ih => rw [List.range_succ, List.flatMap_append, List.length_append, ih, List.flatMap_cons, List.flatMap_nil, List.append_nil, hR, Nat.succ_mul]
    rw [List.range_succ, List.flatMap_append, List.flatMap_cons, List.flatMap_nil, List.append_nil]
    by_cases e : i = n
    · subst e
      rw [List.getElem?_append_right (by omega), hl]
      congr 1; omega
    · rw [List.getElem?_append_left, ih (by omega)]
      rw [hl]
      have : i + 1 ≤ n := by omega
      have := Nat.mul_le_mul_right rs this
      rw [Nat.succ_mul] at this
      omega
theorem flatW_len (R : Nat → List Value) (rs n : Nat) (hR : ∀ i, (R i).length = rs) : ((List.range n).flatMap R).length = n * rs := by
  induction n with
  | zero => simp
  | succ n ih => rw [List.range_succ, List.flatMap_append, List.length_append, ih, List.flatMap_cons, List.flatMap_nil, List.append_nil, hR, Nat.succ_mul]
/-- a row's cells -/
theorem LV.cell (h : LV ty rs el sz w lv n R V M C) (hR : ∀ i, (R i).length = rs) {i : Nat} (hi : i < n) : ∃ g cap, lv = .slice (some ⟨g, 0, none⟩) n cap ∧ n ≤ cap ∧ cap ≤ maxLen ∧ (∀ j, w.frozen? ⟨g, j, none⟩ = false) ∧ ∀ j, j < rs → w.cell? ⟨g, i * rs + j, none⟩ = (R i)[j]? := by
  have h0 := h.row
  rcases h.row.2 with ⟨_, e2⟩ | ⟨g, cap, cur, e, _, _, h2, h3, _⟩
  · omega
  · rw [e] at h0
    refine ⟨g, cap, e, h2, h3, fun j => h0.frozenAt j, fun j hj => ?_⟩
    rw [h0.cellAt (i * rs + j) (by have := Nat.mul_le_mul_right rs (show i + 1 ≤ n by omega); rw [Nat.succ_mul] at this; omega), flat_at R rs n i j hR hi hj]
/-- an element of the row is another -/
theorem flat_set (R : Nat → List Value) (n i : Nat) (u : Value) (hi : i < n) (hR : ∀ j, (R j).length = 1) : ((List.range n).flatMap R).set i u = (List.range n).flatMap (up R i [u]) := by
  have hU : ∀ j, (up R i [u] j).length = 1 := fun j => by
    by_cases e : j = i
    · subst e; rw [up_eq1]; rfl
    · rw [up_ne _ _ e]; exact hR j
  apply List.ext_getElem?
  intro j
  by_cases hj : j < n
  · have h1 := flat_at (up R i [u]) 1 n j 0 hU hj (by omega)
    rw [Nat.mul_one, Nat.add_zero] at h1
    rw [h1, List.getElem?_set, flatW_len _ 1 _ hR, Nat.mul_one]
    by_cases e : i = j
    · subst e; rw [if_pos rfl, if_pos hi, up_eq1]; rfl
    · rw [if_neg e, up_ne _ _ (fun e2 => e e2.symm)]
      have h2 := flat_at R 1 n j 0 hR hj (by omega)
      rw [Nat.mul_one, Nat.add_zero] at h2
      exact h2
  · rw [List.getElem?_eq_none (by rw [List.length_set, flatW_len _ 1 _ hR]; omega), List.getElem?_eq_none (by rw [flatW_len _ 1 _ hU]; omega)]
end
end Go.Proofs.YtcbebalakdkgnaaGreatDoor
