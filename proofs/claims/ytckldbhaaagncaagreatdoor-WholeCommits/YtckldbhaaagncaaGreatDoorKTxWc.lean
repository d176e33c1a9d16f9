import Derived.Test.YtckldbhaaagncaaGreatDoorTxU
namespace Go.Proofs.YtckldbhaaagncaaGreatDoor
open Go.RowKit Go.Maps Rec

set_option maxRecDepth 100000 in
set_option maxHeartbeats 800000 in
theorem ymod_any (w : World) (v : Int) (n : Nat) (h0 : 0 < n) (h1 : n ≤ 1000000000) :
    Calls Tryz.prog 4 #[.int .i64 v, .int .i64 n] w fun e w' => e = .returned (.int .i64 (v % n)) ∧ w = w' := by
  go_enter Tryz.func4, Tryz.ntmps4
  by_cases h : v.tmod n < 0
  · have h2 : -(n : Int) ≤ v.tmod n := by
      have := tmod_neg v n h0 h
      have := Int.emod_nonneg v (b := n) (by omega)
      omega
    go_wp2
    go_ret
    refine ⟨?_, rfl⟩
    show Ending.returned (Value.int IntKind.i64 (v.tmod n + n)) = _
    rw [tmod_neg v n h0 h]
  · go_wp2
    go_ret
    refine ⟨?_, rfl⟩
    show Ending.returned (Value.int IntKind.i64 (v.tmod n)) = _
    rw [tmod_pos v n h0 (by omega)]
/-- the bytes of a fill -/
def filb (v : Nat) (i : Nat) : Int := (((v + i * (1 + v % 7)) % 256 : Nat) : Int)
def fil (v : Nat) : List Int := ov (zsA 512) 0 512 (filb v)
theorem fil_length (v : Nat) : (fil v).length = 512 := by rw [fil, ov_length, zsA_length]
set_option maxRecDepth 100000 in
set_option maxHeartbeats 1600000 in
theorem filled_any (w : World) (v : Nat) (hv : v < 1000) :
    Calls Tryz.prog 8 #[.int .i64 (v : Int)] w fun e w' => e = .returned (.slice (some ⟨w.heap.size, 0, none⟩) 512 512) ∧ OwnB w' w.heap.size 512 (fil v) ∧ Below w.heap.size w w' := by
  obtain ⟨m, hm⟩ : ∃ m, v % 7 = m := ⟨_, rfl⟩
  have hm7 : m < 7 := by omega
  have HMo : Hid (∀ wx, Calls Tryz.prog 4 #[.int .i64 (v : Int), .int .i64 7] wx fun e w' => e = .returned (.int .i64 (m : Int)) ∧ wx = w') := fun wx => by
    have := ymod_any wx (v : Int) 7 (by omega) (by omega)
    rw [show ((v : Int) % ((7 : Nat) : Int)) = (m : Int) by omega] at this
    exact this
  have HM : Hid (v % 7 = m) := hm
  clear hm
  have s1 : wrap64 (1 + (m : Int)) = 1 + (m : Int) := by rw [wrap64]; omega
  go_enter Tryz.func8, Tryz.ntmps8
  go_wp2_with (at_make; refine wp_makeB rfl _ _ rfl _ _ _ _ 512 rfl rfl rfl rfl (by omega) ?_; intro w1 ho hb; have HO : Hid (OwnB w1 w.heap.size 512 (zsA 512)) := ho; have HB : Hid (Below w.heap.size w w1) := hb; clear ho hb)
  go_loopw [4] (fun i wr => ∃ k : Nat, k ≤ 512 ∧ i = .int .i64 k ∧ OwnB wr w.heap.size 512 (ov (zsA 512) 0 k (filb v)) ∧ Below w.heap.size w wr) (fun i _ => 512 - (intOf i).toNat)
  case atStart => exact ⟨0, Nat.zero_le _, rfl, by rw [ov_zero]; exact HO.out, HB.out⟩
  case round =>
    obtain ⟨k, hk, rfl, how, hgr⟩ := hrel
    have HP : Hid (OwnB wr w.heap.size 512 (ov (zsA 512) 0 k (filb v))) := how
    have HG : Hid (Below w.heap.size w wr) := hgr
    clear how hgr HO HB
    by_cases hlt : k < 512
    · have d := HP.out.cell k (by rw [ov_length, zsA_length]; exact hlt)
      have f := HP.out.frozen k
      obtain ⟨q, hq⟩ : ∃ q : Nat, k * (1 + m) = q := ⟨_, rfl⟩
      have hq7 : q ≤ 512 * 7 := by rw [← hq]; exact Nat.mul_le_mul (by omega) (by omega)
      have e0 : (k : Int) * (1 + (m : Int)) = (q : Int) := by rw [← hq]; push_cast; rfl
      have s2 : wrap64 ((k : Int) * (1 + (m : Int))) = (q : Int) := by rw [e0, wrap64]; omega
      have s3 : wrap64 ((v : Int) + (q : Int)) = (v : Int) + (q : Int) := by rw [wrap64]; omega
      obtain ⟨x, hx⟩ : ∃ x : Int, filb v k = x := ⟨_, rfl⟩
      have hx2 : 0 ≤ x ∧ x < 256 := by rw [← hx, filb]; omega
      have s4 : IntKind.u8.wrap ((v : Int) + (q : Int)) = x := by
        rw [← hx, filb, HM.out, hq]
        simp [IntKind.wrap, IntKind.bits, IntKind.signed]
      have HQ : Hid (OwnB (wr.setCell ⟨w.heap.size, k, none⟩ (.int .u8 x)) w.heap.size 512 (ov (zsA 512) 0 (k + 1) (filb v))) := by
        have e := HP.out.set k x (by rw [ov_length, zsA_length]; exact hlt) hx2
        have e2 := ov_set (zsA 512) 0 k (filb v) (by rw [zsA_length]; omega)
        rw [Nat.zero_add, hx] at e2
        rwa [e2] at e
      clear hx hq hx2
      go_wp2_with (go_at_call 4; refine (HMo.out _).mono ?_; rintro e w' ⟨rfl, rfl⟩)
      exact ⟨⟨_, hlt, rfl, HQ.out, HG.out.grown grown_set HG.out.size (by intro k hk; cases hk; exact Nat.le_refl _)⟩, by simp [intOf]; omega⟩
    · go_wp2
      obtain rfl : k = 512 := by omega
      go_ret
      exact ⟨rfl, HP.out, HG.out⟩
set_option maxRecDepth 100000 in
theorem same_any (w : World) (a b : Option Addr) (n c d : Nat) (l1 l2 : List Int) (h1 : Bytes w a l1) (h2 : Bytes w b l2) (hn1 : l1.length = n) (hn2 : l2.length = n) (z : Bool) (hz : z = decide (l1 = l2)) :
    Calls Tryz.prog 11 #[.slice a n c, .slice b n d] w fun e w' => e = .returned (.bool z) ∧ w = w' := by
  have e1 : (convert 42 9 (.slice a n c)).run Tryz.prog w = .ok (.string (strOfNums l1)) w := str_opt h1 hn1
  have e2 : (convert 42 9 (.slice b n d)).run Tryz.prog w = .ok (.string (strOfNums l2)) w := str_opt h2 hn2
  by_cases h : l1 = l2
  · subst h
    have hz2 : z = true := by rw [hz]; simp
    subst hz2
    clear h1 h2 hn1 hn2 hz
    go_enter Tryz.func11, Tryz.ntmps11
    go_wp2
    go_ret
    exact ⟨rfl, rfl⟩
  · have hne := str_ne h1.wf h2.wf h
    have hz2 : z = false := by rw [hz]; simp [h]
    subst hz2
    clear h1 h2 hn1 hn2 hz h
    go_enter Tryz.func11, Tryz.ntmps11
    go_wp2
    go_ret
    exact ⟨by simp [hne], rfl⟩
end Go.Proofs.YtckldbhaaagncaaGreatDoor

namespace Go.Proofs.YtckldbhaaagncaaGreatDoor
open Go.RowKit Go.Maps Rec

/-- what a store asks of a block -/
def wantB (x : Int) : List Int := if 0 ≤ x then fil x.toNat else zsA 512
def HoldsL (full s : List Int) : Prop := ∀ i, i < s.length → bck full (98 + i) = wantB (nth s i)
theorem IntsAt.cellAt {w : World} {a : Option Addr} {n c : Nat} {l : List Int} (h : IntsAt w (.slice a n c) l) (k : Nat) (hk : k < l.length) : ∃ g, a = some ⟨g, 0, none⟩ ∧ w.cell? ⟨g, k, none⟩ = some (.int .i64 (nth l k)) := by
  obtain ⟨a', c', e, hl⟩ := h
  cases e
  rcases hl with e | ⟨g, rfl, hc⟩
  · rw [e] at hk; cases hk
  · refine ⟨g, rfl, hc k _ ?_⟩
    rw [List.getElem?_eq_getElem hk]
    simp [nth, List.getD, hk]
set_option maxRecDepth 100000 in
set_option maxHeartbeats 4000000 in
theorem holds_any (w : World) (E : Dk) (hE : Disk w E) (hdn : E.down = false) (a : Option Addr) (n c : Nat) (s : List Int) (hs : IntsAt w (.slice a n c) s) (hn : s.length = n) (hn2 : 98 + n ≤ E.nb) (hr : ∀ k, k < n → nth s k < 1000) (z : Bool) (hz : z = true ↔ HoldsL E.full s) :
    Calls Tryz.prog 14 #[.slice a n c, .pointer (some ⟨E.d, 0, none⟩)] w fun e w' => e = .returned (.bool z) ∧ Below w.heap.size w w' := by
  obtain ⟨d0, hd0⟩ : ∃ d0, E.d = d0 := ⟨_, rfl⟩
  have h16 : n ≤ 16384 := by have := hE.nb1; omega
  have HRd : Hid (∀ wx, Below w.heap.size w wx → ∀ k : Nat, k < n → Calls Tryz.prog 25 #[.pointer (some ⟨d0, 0, none⟩), .int .i64 (98 + (k : Int))] wx fun e w' => ∃ g cap, e = .returned (.tuple #[.slice (some ⟨g, 0, none⟩) 512 cap, .int .i64 0]) ∧ OwnB w' g cap (bck E.full (98 + k)) ∧ Below wx.heap.size wx w') := fun wx hb k hk => by
    have := read_yes wx E (hE.on hb) (98 + k) (by omega) hdn
    rw [hd0, Int.natCast_add] at this
    refine this.mono ?_
    rintro e w' ⟨g, cap, rfl, _, ho, hb⟩
    exact ⟨g, cap, rfl, ho, hb⟩
  have HS : Hid (IntsAt w (.slice a n c) s ∧ s.length = n) := ⟨hs, hn⟩
  have HR : Hid (∀ k, k < n → nth s k < 1000) := hr
  have HL : Hid (∀ k, k < n → (bck E.full (98 + k)).length = 512) := fun k hk => blk_length hE.full_length (by omega)
  have HZ : Hid (z = true ↔ HoldsL E.full s) := hz
  rw [hd0]
  clear hE hs hr hz hd0 hdn hn
  go_enter Tryz.func14, Tryz.ntmps14
  go_upto_region 2 with (fail)
  go_loopw [5] (fun i wr => ∃ k : Nat, k ≤ n ∧ i = .int .i64 k ∧ (∀ j, j < k → bck E.full (98 + j) = wantB (nth s j)) ∧ Below w.heap.size w wr) (fun i _ => n - (intOf i).toNat)
  case atStart => exact ⟨0, Nat.zero_le _, rfl, fun j hj => by omega, Below.refl _ _⟩
  case round =>
    obtain ⟨k, hk, rfl, hI, hgr⟩ := hrel
    have HI : Hid ((∀ j, j < k → bck E.full (98 + j) = wantB (nth s j)) ∧ Below w.heap.size w wr) := ⟨hI, hgr⟩
    clear hI hgr
    by_cases hlt : k < n
    · have hlti : (k : Int) < (n : Int) := by omega
      obtain ⟨g0, rfl, _⟩ := HS.out.1.cellAt k (by rw [HS.out.2]; exact hlt)
      obtain ⟨x, hx⟩ : ∃ x, nth s k = x := ⟨_, rfl⟩
      have HCl : Hid (∀ wx, Below w.heap.size w wx → wx.cell? ⟨g0, k, none⟩ = some (.int .i64 x)) := fun wx hb => by
        obtain ⟨g1, e, hc⟩ := (HS.out.1.on hb).cellAt k (by rw [HS.out.2]; exact hlt)
        cases e
        rw [← hx]; exact hc
      have HX : Hid (nth s k = x ∧ x < 1000) := ⟨hx, by rw [← hx]; exact HR.out k hlt⟩
      have q0 : wrap64 (98 + (k : Int)) = 98 + (k : Int) := by rw [wrap64]; omega
      clear hx
      obtain ⟨y, hy⟩ : ∃ y : Bool, y = decide (bck E.full (98 + k) = wantB x) := ⟨_, rfl⟩
      have HY : Hid (y = decide (bck E.full (98 + k) = wantB x)) := hy
      clear hy
      have HSm : Hid (∀ wx (g g' c c' : Nat), OwnB wx g c (bck E.full (98 + k)) → OwnB wx g' c' (wantB x) → (wantB x).length = 512 → Calls Tryz.prog 11 #[.slice (some ⟨g, 0, none⟩) 512 c, .slice (some ⟨g', 0, none⟩) 512 c'] wx fun e w' => e = .returned (.bool y) ∧ wx = w') := fun wx g g' c c' h1 h2 h3 => same_any wx _ _ 512 c c' _ _ h1.bytes h2.bytes (HL.out k hlt) h3 y HY.out
      go_upto_region 6 with (first
        | (go_at_call 25; refine (HRd.out wr HI.out.2 k hlt).mono ?_; rintro e w4 ⟨g, cap, rfl, ho, hb⟩; have H4 : Hid (OwnB w4 g cap (bck E.full (98 + k)) ∧ Below w.heap.size w w4) := ⟨ho, HI.out.2.trans (hb.mono HI.out.2.size)⟩; clear ho hb)
        | (at_make; refine wp_makeB rfl _ _ rfl _ _ _ _ 512 rfl rfl rfl rfl (by omega) ?_; intro w5 ho hb; have H5 : Hid (OwnB w5 w4.heap.size 512 (zsA 512) ∧ OwnB w5 g cap (bck E.full (98 + k)) ∧ Below w.heap.size w w5) := ⟨ho, H4.out.1.on hb, H4.out.2.trans (hb.mono H4.out.2.size)⟩; clear ho hb))
      have a5 := HCl.out _ H5.out.2.2
      have hEnd : ∀ wz, Below w.heap.size w wz → y = true → ∀ j, j < k + 1 → bck E.full (98 + j) = wantB (nth s j) := fun wz _ e j hj => by
        by_cases e2 : j = k
        · subst e2
          rw [HX.out.1]
          have := HY.out
          rw [e] at this
          exact of_decide_eq_true this.symm
        · exact HI.out.1 j (by omega)
      have HEn : Hid (y = true → ∀ j, j < k + 1 → bck E.full (98 + j) = wantB (nth s j)) := hEnd w (Below.refl _ _)
      have HNo : Hid (y = false → z = false) := fun e => by
        cases z with
        | false => rfl
        | true =>
          have h1 := HZ.out.1 rfl k (by rw [HS.out.2]; exact hlt)
          rw [HX.out.1] at h1
          have := HY.out
          rw [e, h1] at this
          simp at this
      clear hEnd HCl
      by_cases h0 : 0 ≤ x
      · obtain ⟨v, rfl⟩ : ∃ v : Nat, x = (v : Int) := ⟨x.toNat, by omega⟩
        have hw : wantB (v : Int) = fil v := by rw [wantB, if_pos h0]; rfl
        have HFi : Hid (∀ wx, Calls Tryz.prog 8 #[.int .i64 (v : Int)] wx fun e w' => e = .returned (.slice (some ⟨wx.heap.size, 0, none⟩) 512 512) ∧ OwnB w' wx.heap.size 512 (wantB (v : Int)) ∧ Below wx.heap.size wx w') := fun wx => by rw [hw]; exact filled_any wx v (by have := HX.out.2; omega)
        have HWl : Hid ((wantB (v : Int)).length = 512) := by rw [hw]; exact fil_length v
        clear hw
        cases y with
        | true =>
          have HE1 : Hid (∀ j, j < k + 1 → bck E.full (98 + j) = wantB (nth s j)) := HEn.out rfl
          clear HEn HNo
          go_wp2_with (first
            | (go_at_call 8; refine (HFi.out _).mono ?_; rintro e w7 ⟨rfl, ho, hb⟩; have H7 : Hid (OwnB w7 w5.heap.size 512 (wantB (v : Int)) ∧ OwnB w7 g cap (bck E.full (98 + k)) ∧ Below w.heap.size w w7) := ⟨ho, H5.out.2.1.on hb, H5.out.2.2.trans (hb.mono H5.out.2.2.size)⟩; clear ho hb)
            | (go_at_call 11; refine (HSm.out w7 _ _ _ _ H7.out.2.1 H7.out.1 HWl.out).mono ?_; rintro e w' ⟨rfl, rfl⟩))
          exact ⟨⟨k + 1, hlt, rfl, HE1.out, H7.out.2.2⟩, by simp [intOf]; omega⟩
        | false =>
          have hz2 : z = false := HNo.out rfl
          subst hz2
          clear HEn HNo
          go_wp2_with (first
            | (go_at_call 8; refine (HFi.out _).mono ?_; rintro e w7 ⟨rfl, ho, hb⟩; have H7 : Hid (OwnB w7 w5.heap.size 512 (wantB (v : Int)) ∧ OwnB w7 g cap (bck E.full (98 + k)) ∧ Below w.heap.size w w7) := ⟨ho, H5.out.2.1.on hb, H5.out.2.2.trans (hb.mono H5.out.2.2.size)⟩; clear ho hb)
            | (go_at_call 11; refine (HSm.out w7 _ _ _ _ H7.out.2.1 H7.out.1 HWl.out).mono ?_; rintro e w' ⟨rfl, rfl⟩))
          go_ret
          exact ⟨rfl, H7.out.2.2⟩
      · have hw : wantB x = zsA 512 := by rw [wantB, if_neg h0]
        have H6 : Hid (OwnB w5 w4.heap.size 512 (wantB x)) := by rw [hw]; exact H5.out.1
        have HWl : Hid ((wantB x).length = 512) := by rw [hw]; exact zsA_length 512
        have h1 : x < 0 := by omega
        clear hw
        cases y with
        | true =>
          have HE1 : Hid (∀ j, j < k + 1 → bck E.full (98 + j) = wantB (nth s j)) := HEn.out rfl
          clear HEn HNo
          go_wp2_with (go_at_call 11; refine (HSm.out w5 _ _ _ _ H5.out.2.1 H6.out HWl.out).mono ?_; rintro e w' ⟨rfl, rfl⟩)
          exact ⟨⟨k + 1, hlt, rfl, HE1.out, H5.out.2.2⟩, by simp [intOf]; omega⟩
        | false =>
          have hz2 : z = false := HNo.out rfl
          subst hz2
          clear HEn HNo
          go_wp2_with (go_at_call 11; refine (HSm.out w5 _ _ _ _ H5.out.2.1 H6.out HWl.out).mono ?_; rintro e w' ⟨rfl, rfl⟩)
          go_ret
          exact ⟨rfl, H5.out.2.2⟩
    · have hge : ¬ (k : Int) < (n : Int) := by omega
      have hz2 : z = true := HZ.out.2 (fun i hi => HI.out.1 i (by rw [HS.out.2] at hi; omega))
      subst hz2
      go_wp2
      go_ret
      exact ⟨rfl, HI.out.2⟩
end Go.Proofs.YtckldbhaaagncaaGreatDoor
