import Derived.Test.YtflienghgobmoaaGreatDoorKFrame
import Derived.SizedLaws
import Derived.Lib.SmallJoins
import Derived.Deep.Slices
import Derived.Test.YtflienghgobmoaaGreatDoorKMay
import Derived.BigRegion
namespace Go.Proofs.YtflienghgobmoaaGreatDoor
open Rec Go.ChangeShapes Go.WideShapes Go.ChangeAt Go.RowKit

theorem nth_wf {l : List Int} (h : ∀ c ∈ l, 0 ≤ c ∧ c < 256) (i : Nat) : 0 ≤ nth l i ∧ nth l i < 256 := by
  unfold nth
  by_cases hi : i < l.length
  · have : l.getD i 0 = l[i] := by simp [List.getD, hi]
    rw [this]; exact h _ (List.getElem_mem hi)
  · have : l.getD i 0 = 0 := by simp [List.getD, hi]
    rw [this]; omega
theorem cells5 : Tryz.prog.cellsOf 5 = 1 := by kernel_rfl
theorem bytes5 : Tryz.prog.bytesOf 5 = 1 := by kernel_rfl
theorem wf_u8 {x : Int} (h : (Lit.int .u8 x).wf = true) : 0 ≤ x ∧ x < 256 := by
  have hmin : IntKind.u8.min = 0 := rfl
  have hmax : IntKind.u8.max = 255 := rfl
  simp only [Lit.wf, Bool.and_eq_true, decide_eq_true_eq] at h
  omega
/-- a []byte among the arguments -/
theorem open_bytes {H : Type} {enc : TypeId × Value → H} {W : World} {a : Option Addr} {len cap : Nat} {d : DataW H} {p : List MemPlace} {fuel : Nat}
    (hf : DataW.trod enc Tryz.prog W 0 (fun _ => true) true fuel 22 [.slice a len cap] = some (d, p)) (hz : ∀ n ∈ d.weights Tryz.prog 22, n ≤ reachBytes) :
    ∃ l : List Int, l.length = len ∧ Bytes W a l ∧ (a = none → cap = 0) ∧ len ≤ 140737488351232 := by
  rcases open_ints Tryz.underlying22 Tryz.underlying5 cells5 hf with ⟨hcs, _⟩ | ⟨x, l, c, zs, hcs, _, hl, hm, hlen, hx, hcell, hwz⟩
  · simp at hcs
    obtain ⟨rfl, rfl, rfl⟩ := hcs
    exact ⟨[], rfl, ⟨by simp, fun i => by simp [nth], .inl rfl⟩, fun _ => rfl, by omega⟩
  · simp only [List.cons.injEq, Value.slice.injEq, and_true] at hcs
    obtain ⟨rfl, rfl, rfl⟩ := hcs
    simp only [Prod.mk.injEq] at hx
    obtain ⟨rfl, _⟩ := hx
    simp only [if_true] at hlen
    have hb : cap ≤ 140737488351232 := by
      have h1 := hz ((lits (H := H) .u8 (zs.take len)).length + (lits (H := H) .u8 (zs.drop len)).length) (by simp [DataW.weights, Tryz.underlying22, bytes5])
      simp [lits, reachBytes] at h1
      omega
    refine ⟨zs.take len, by simp; omega, ⟨by simp; omega, nth_wf fun n hn => wf_u8 (hwz n (List.mem_of_mem_take hn)), ?_⟩, fun h => (nomatch h), by omega⟩
    by_cases h0 : len = 0
    · exact .inl (by simp [h0])
    · obtain ⟨b, off, rfl, hc⟩ := ints_at hcell (by omega)
      refine .inr ⟨b, off, rfl, fun i hi => ?_⟩
      have hi' : i < len := by simp at hi; omega
      rw [hc i (by omega)]
      have e : nth (zs.take len) i = zs.getD i 0 := by simp [nth, List.getD, hi']
      rw [e]
theorem wf_i64 {x : Int} (h : (Lit.int .i64 x).wf = true) : -9223372036854775808 ≤ x ∧ x ≤ 9223372036854775807 := by
  have hmin : IntKind.i64.min = -9223372036854775808 := rfl
  have hmax : IntKind.i64.max = 9223372036854775807 := rfl
  simp only [Lit.wf, Bool.and_eq_true, decide_eq_true_eq] at h
  omega

theorem recs_list {R : Type} (sz : Nat) (cells : R → List Value) (ok : R → Prop) (W : World) (x : Addr) (len : Nat) (hex : ∀ i, i < len → ∃ q : R, ok q ∧ ∀ j, j < sz → W.cell? ((x.add (i * sz)).add j) = (cells q)[j]?) :
    ∀ k, k ≤ len → ∃ L : List R, L.length = k ∧ (∀ q ∈ L, ok q) ∧ ∀ i q, L[i]? = some q → ∀ j, j < sz → W.cell? ((x.add (i * sz)).add j) = (cells q)[j]?
  | 0, _ => ⟨[], rfl, fun q h => by simp at h, fun i q h => by simp at h⟩
  | k + 1, hk => by
    obtain ⟨L, hl, h1, h2⟩ := recs_list sz cells ok W x len hex k (by omega)
    obtain ⟨q, q1, q2⟩ := hex k (by omega)
    refine ⟨L ++ [q], by simp [hl], fun r hr => ?_, fun i r hr => ?_⟩
    · rcases List.mem_append.1 hr with h | h
      · exact h1 r h
      · simp at h; subst h; exact q1
    · by_cases hi : i < L.length
      · rw [List.getElem?_append_left hi] at hr; exact h2 i r hr
      · rw [List.getElem?_append_right (by omega)] at hr
        have : i - L.length = 0 := by
          by_cases h : i - L.length = 0
          · exact h
          · rw [List.getElem?_eq_none (by simp; omega)] at hr; cases hr
        rw [this] at hr
        simp at hr
        subst hr
        have e : i = k := by omega
        rw [e]; exact q2
end Go.Proofs.YtflienghgobmoaaGreatDoor

namespace Go.Proofs.YtflienghgobmoaaGreatDoor
open Go.RowKit Rec

theorem Ints.some {w : World} {a : Option Addr} {l : List Int} (h : Ints w a l) (h0 : 0 < l.length) : ∃ b off, a = some ⟨b, off, none⟩ := by
  rcases h.at_ with e | ⟨b, off, e, _⟩
  · subst e; simp at h0
  · exact ⟨b, off, e⟩
theorem Data.some {w : World} {a : Option Addr} {l : List (List Int)} (h : Data w a l) (h0 : 0 < l.length) : ∃ b off, a = some ⟨b, off, none⟩ := by
  rcases h.at_ with e | ⟨b, off, e, _⟩
  · subst e; simp at h0
  · exact ⟨b, off, e⟩
theorem Bytes.some {w : World} {a : Option Addr} {l : List Int} (h : Bytes w a l) (h0 : 0 < l.length) : ∃ b off, a = some ⟨b, off, none⟩ := by
  rcases h.at_ with e | ⟨b, off, e, _⟩
  · subst e; simp at h0
  · exact ⟨b, off, e⟩
theorem has_of {v : Int} (W : Nat) (h : v < 256 ^ W) : has v W = true := decide_eq_true (by simpa using h)

set_option maxRecDepth 100000 in
set_option maxHeartbeats 3200000 in
theorem make_ok (w : World) (nb noff k nc db doff dc : Nat) (ns : List Int) (ds : List (List Int)) (hn : ns.length = k) (hI : Ints w (some ⟨nb, noff, none⟩) ns) (hD : Data w (some ⟨db, doff, none⟩) ds) (hT : TabAt w)
    (hk1 : 1 ≤ k) (hk96 : k ≤ 96) (hm : may ns 16384 = true) (hb : blk ds k = true) :
    Calls Tryz.prog 151 #[.slice (some ⟨nb, noff, none⟩) k nc, .slice (some ⟨db, doff, none⟩) k dc] w fun e w' => ∃ g, e = .returned (.tuple #[.slice (some ⟨g, 0, none⟩) 512 512, .int .i64 0]) ∧ OwnB w' g 512 (made ns ds) ∧ w.heap.size ≤ g ∧ Below w.heap.size w w' := by
  have hb' := hb
  simp only [blk, Bool.and_eq_true, decide_eq_true_eq] at hb'
  obtain ⟨hdl, hdb⟩ := hb'
  rw [mem_row] at hdb
  have H1 : Hid (Calls Tryz.prog 179 #[.slice (some ⟨nb, noff, none⟩) k nc, .int .i64 16384] w fun e w' => e = .returned (.bool true) ∧ Below w.heap.size w w') := by
    have := mayBe_any w _ k nc ns 16384 hn hI
    rw [hm] at this
    exact this
  have H2 : Hid (∀ wx, Below w.heap.size w wx → Calls Tryz.prog 180 #[.slice (some ⟨db, doff, none⟩) k dc, .int .i64 k] wx fun e w' => e = .returned (.bool true) ∧ wx = w') := fun wx hx => by
    have := areBlocks_any wx _ k dc k ds hdl (hD.on hx)
    rw [hb] at this
    exact this
  have HT : Hid (∀ wx, Below w.heap.size w wx → TabAt wx) := fun wx hx => hT.on hx
  have HI : Hid (∀ wx, Below w.heap.size w wx → ∀ j, j < k → wx.cell? ⟨nb, noff + j, none⟩ = some (.int .i64 (nth ns j))) := fun wx hx j hj => (hI.on hx).cell (by omega)
  have HV : Hid (∀ j, j < k → 98 ≤ nth ns j ∧ nth ns j < 16384) := fun j hj => pre_bd ns _ hm j (by omega)
  have HN : Hid (ns.length = k) := hn
  have HS : Hid (∀ wx, Below w.heap.size w wx → ∀ g, OwnB wx g 512 (hd ns 0) → ∃ s : Int, (s = sumV (hd ns 0) ds ∧ 0 ≤ s ∧ s < 4294967296) ∧ Calls Tryz.prog 183 #[.slice (some ⟨g, 0, none⟩) 512 512, .slice (some ⟨db, doff, none⟩) k dc] wx fun e w' => e = .returned (.int .u32 s) ∧ Below wx.heap.size wx w') := fun wx hx g ho =>
    ⟨_, ⟨rfl, sumV_bd _ _⟩, sumOf_some wx g 0 512 db doff k dc (hd ns 0) ds (hd_length _ _) ho.bytes (hT.on hx) (hD.on hx) hdl hk96 (fun i hi => hdb i (by omega))⟩
  clear hn hI hD hT hm hb hdl hdb
  go_enter Tryz.func151, Tryz.ntmps151
  go_wp2_with (first
    | (go_at_call 178; refine (isCount_any _ _).mono ?_; rintro e w' ⟨rfl, rfl⟩; rw [decide_eq_true (show (1 : Int) ≤ (k : Int) by omega), decide_eq_true (show (k : Int) ≤ 96 by omega)])
    | (go_at_call 179; refine H1.out.mono ?_; rintro e w1 ⟨rfl, hb⟩; have HB1 : Hid (Below w.heap.size w w1) := hb; clear hb)
    | (go_at_call 180; refine (H2.out _ HB1.out).mono ?_; rintro e w' ⟨rfl, rfl⟩)
    | (go_at_call 156; refine (empty_any _).mono ?_; rintro e w2 ⟨g, rfl, ho, hg, hb⟩; have H3 : Hid (OwnB w2 g 512 zs ∧ w.heap.size ≤ g ∧ Below w.heap.size w w2) := ⟨ho, Nat.le_trans HB1.out.size hg, HB1.out.trans (hb.mono HB1.out.size)⟩; clear ho hg hb)
    | (go_at_call 181; refine (ptx_in _ g 512 512 512 0 8 magS zs H3.out.1 (by rw [zs_length]; omega) (by omega) (by omega) (by decide) (by decide)).mono ?_; rintro e w3 ⟨rfl, ho, hb⟩; have H4 : Hid (OwnB w3 g 512 (ov zs 0 8 (nth mag)) ∧ Below w.heap.size w w3) := ⟨by rw [← magS_nums]; exact ho, H3.out.2.2.trans (below_of hb H3.out.2.1 H3.out.2.2.size)⟩; clear ho hb)
    | (go_at_call 90; refine (put_in _ g 512 512 512 8 2 k _ H4.out.1 (by rw [ov_length, zs_length]; omega) (by omega) (HT.out _ H4.out.2) (by omega) rfl (has_of 2 (show (k : Int) < 65536 by omega)) (by omega)).mono ?_; rintro e w4 ⟨rfl, ho, hb⟩; have H5 : Hid (OwnB w4 g 512 (hp ns 0) ∧ Below w.heap.size w w4) := ⟨by rw [← hp_zero, HN.out]; exact ho, H4.out.2.trans (below_of hb H3.out.2.1 H4.out.2.size)⟩; clear ho hb))
  go_loopw [33] (fun i wr => ∃ j : Nat, j ≤ k ∧ i = .int .i64 j ∧ OwnB wr g 512 (hp ns j) ∧ Below w.heap.size w wr) (fun i _ => k - (intOf i).toNat)
  case atStart => exact ⟨0, Nat.zero_le _, rfl, H5.out.1, H5.out.2⟩
  case round =>
    obtain ⟨j, hj, rfl, ho, hb⟩ := hrel
    have H6 : Hid (OwnB wr g 512 (hp ns j) ∧ Below w.heap.size w wr) := ⟨ho, hb⟩
    clear ho hb
    by_cases hlt : j < k
    · have c1 := HI.out _ H6.out.2 j hlt
      have b1 := HV.out j hlt
      go_wp2_with (first
        | (go_at_call 182; refine (numAt_any _ j (by omega)).mono ?_; rintro e w' ⟨rfl, rfl⟩)
        | (go_at_call 90; refine (put_in _ g 512 512 512 (16 + 4 * j) 4 (nth ns j) _ H6.out.1 (by rw [hp_length]; omega) (by omega) (HT.out _ H6.out.2) (by omega) rfl (has_of 4 (show nth ns j < 4294967296 by omega)) (by omega)).mono ?_; rintro e w5 ⟨rfl, ho, hb⟩; have H7 : Hid (OwnB w5 g 512 (hp ns (j + 1)) ∧ Below w.heap.size w w5) := ⟨by rw [← hp_succ ns j (by rw [HN.out]; exact hlt) (by rw [HN.out]; exact hk96)]; exact ho, H6.out.2.trans (below_of hb H3.out.2.1 H6.out.2.size)⟩; clear ho hb))
      go_round
      case rel => exact ⟨j + 1, by omega, by go_num, H7.out.1, H7.out.2⟩
      case measure => simp [intOf]; omega
    · obtain rfl : j = k := by omega
      have H8 : Hid (OwnB wr g 512 (hd ns 0)) := by rw [← hp_all, HN.out]; exact H6.out.1
      obtain ⟨s, ⟨hs, s0, s1⟩, hcs⟩ := HS.out _ H6.out.2 g H8.out
      have HC : Hid (Calls Tryz.prog 183 #[.slice (some ⟨g, 0, none⟩) 512 512, .slice (some ⟨db, doff, none⟩) j dc] wr fun e w' => e = .returned (.int .u32 s) ∧ Below wr.heap.size wr w') := hcs
      have HE : Hid (s = sumV (hd ns 0) ds) := hs
      clear hs hcs
      go_wp2_with (first
        | (go_at_call 183; refine HC.out.mono ?_; rintro e w6 ⟨rfl, hb⟩; have H9 : Hid (OwnB w6 g 512 (hd ns 0) ∧ Below w.heap.size w w6) := ⟨H8.out.on hb, H6.out.2.trans (hb.mono H6.out.2.size)⟩; clear hb)
        | (go_at_call 90; refine (put_in _ g 512 512 512 12 4 s _ H9.out.1 (by rw [hd_length]; omega) (by omega) (HT.out _ H9.out.2) (by omega) rfl (has_of 4 (show s < 4294967296 by omega)) (by omega)).mono ?_; rintro e w7 ⟨rfl, ho, hb⟩; have H10 : Hid (OwnB w7 g 512 (hd ns s) ∧ Below w.heap.size w w7) := ⟨by rw [← hd_put ns 0 s]; exact ho, H9.out.2.trans (below_of hb H3.out.2.1 H9.out.2.size)⟩; clear ho hb))
      go_ret2
      exact ⟨g, rfl, by unfold made; rw [← HE.out]; exact H10.out.1, H3.out.2.1, H10.out.2⟩
set_option maxRecDepth 100000 in
set_option maxHeartbeats 1600000 in
theorem make_nums (w : World) (a da : Option Addr) (k nc m dc : Nat) (ns : List Int) (hn : ns.length = k) (hI : Ints w a ns) (h : ¬ ((1 ≤ k ∧ k ≤ 96) ∧ may ns 16384 = true)) :
    Calls Tryz.prog 151 #[.slice a k nc, .slice da m dc] w fun e w' => e = .returned (.tuple #[.slice none 0 0, .int .i64 40]) ∧ Below w.heap.size w w' := by
  have H1 : Hid (Calls Tryz.prog 179 #[.slice a k nc, .int .i64 16384] w fun e w' => e = .returned (.bool (may ns 16384)) ∧ Below w.heap.size w w') := mayBe_any w _ k nc ns 16384 hn hI
  by_cases hc : 1 ≤ k ∧ k ≤ 96
  · have hm : may ns 16384 = false := by
      cases e : may ns 16384
      · rfl
      · exact absurd ⟨hc, e⟩ h
    rw [hm] at H1
    clear hm h hI hn
    go_enter Tryz.func151, Tryz.ntmps151
    go_wp2_with (first
      | (go_at_call 178; refine (isCount_any _ _).mono ?_; rintro e w' ⟨rfl, rfl⟩; rw [decide_eq_true (show (1 : Int) ≤ (k : Int) by omega), decide_eq_true (show (k : Int) ≤ 96 by omega)])
      | (go_at_call 179; refine H1.out.mono ?_; rintro e w1 ⟨rfl, hb⟩; have HB1 : Hid (Below w.heap.size w w1) := hb; clear hb))
    go_ret2
    exact ⟨rfl, HB1.out⟩
  · have e : (decide ((1 : Int) ≤ (k : Int)) && decide ((k : Int) ≤ 96)) = false := by
      rw [Bool.eq_false_iff]; intro e
      simp only [Bool.and_eq_true, decide_eq_true_eq] at e
      omega
    have HE : Hid ((decide ((1 : Int) ≤ (k : Int)) && decide ((k : Int) ≤ 96)) = false) := e
    clear h hI hn hc e
    go_enter Tryz.func151, Tryz.ntmps151
    go_wp2_with (go_at_call 178; refine (isCount_any _ _).mono ?_; rintro e w' ⟨rfl, rfl⟩; rw [HE.out])
    go_ret2
    exact ⟨rfl, Below.refl _ _⟩
set_option maxRecDepth 100000 in
set_option maxHeartbeats 1600000 in
theorem make_size (w : World) (a da : Option Addr) (k nc m dc : Nat) (ns : List Int) (ds : List (List Int)) (hn : ns.length = k) (hm : ds.length = m) (hI : Ints w a ns) (hD : Data w da ds) (hc : 1 ≤ k ∧ k ≤ 96) (hy : may ns 16384 = true) (hb : blk ds k = false) :
    Calls Tryz.prog 151 #[.slice a k nc, .slice da m dc] w fun e w' => e = .returned (.tuple #[.slice none 0 0, .int .i64 32]) ∧ Below w.heap.size w w' := by
  have H1 : Hid (Calls Tryz.prog 179 #[.slice a k nc, .int .i64 16384] w fun e w' => e = .returned (.bool true) ∧ Below w.heap.size w w') := by
    have := mayBe_any w _ k nc ns 16384 hn hI
    rw [hy] at this
    exact this
  have H2 : Hid (∀ wx, Below w.heap.size w wx → Calls Tryz.prog 180 #[.slice da m dc, .int .i64 k] wx fun e w' => e = .returned (.bool false) ∧ wx = w') := fun wx hx => by
    have := areBlocks_any wx _ m dc k ds hm (hD.on hx)
    rw [hb] at this
    exact this
  clear hI hD hy hb hn hm
  go_enter Tryz.func151, Tryz.ntmps151
  go_wp2_with (first
    | (go_at_call 178; refine (isCount_any _ _).mono ?_; rintro e w' ⟨rfl, rfl⟩; rw [decide_eq_true (show (1 : Int) ≤ (k : Int) by omega), decide_eq_true (show (k : Int) ≤ 96 by omega)])
    | (go_at_call 179; refine H1.out.mono ?_; rintro e w1 ⟨rfl, hb⟩; have HB1 : Hid (Below w.heap.size w w1) := hb; clear hb)
    | (go_at_call 180; refine (H2.out _ HB1.out).mono ?_; rintro e w' ⟨rfl, rfl⟩))
  go_ret2
  exact ⟨rfl, HB1.out⟩
/-- Make: P4.1 -/
theorem make_any (w : World) (a da : Option Addr) (k nc m dc : Nat) (ns : List Int) (ds : List (List Int)) (hn : ns.length = k) (hm : ds.length = m) (hI : Ints w a ns) (hD : Data w da ds) (hT : TabAt w) :
    Calls Tryz.prog 151 #[.slice a k nc, .slice da m dc] w fun e w' => ∃ v, e = .returned (.tuple #[v, .int .i64 (makeE ns ds)]) ∧ ((makeE ns ds ≠ 0 ∧ v = .slice none 0 0) ∨ (makeE ns ds = 0 ∧ ∃ g, v = .slice (some ⟨g, 0, none⟩) 512 512 ∧ OwnB w' g 512 (made ns ds) ∧ w.heap.size ≤ g)) ∧ Below w.heap.size w w' := by
  by_cases h : (1 ≤ k ∧ k ≤ 96) ∧ may ns 16384 = true
  · cases hb : blk ds k with
    | true =>
      have e : makeE ns ds = 0 := by unfold makeE; rw [hn, if_pos h, hb]; rfl
      have hb' := hb
      simp only [blk, Bool.and_eq_true, decide_eq_true_eq] at hb'
      obtain rfl : m = k := by rw [← hm, hb'.1]
      obtain ⟨nb, noff, rfl⟩ := hI.some (by omega)
      obtain ⟨db, doff, rfl⟩ := hD.some (by omega)
      refine (make_ok w nb noff m nc db doff dc ns ds hn hI hD hT h.1.1 h.1.2 h.2 hb).mono ?_
      rintro _ w' ⟨g, rfl, h1, h2, h3⟩
      exact ⟨_, by rw [e], .inr ⟨e, g, rfl, h1, h2⟩, h3⟩
    | false =>
      have e : makeE ns ds = 32 := by unfold makeE; rw [hn, if_pos h, hb]; rfl
      refine (make_size w a da k nc m dc ns ds hn hm hI hD h.1 h.2 hb).mono ?_
      rintro _ w' ⟨rfl, h3⟩
      exact ⟨_, by rw [e], .inl ⟨by rw [e]; decide, rfl⟩, h3⟩
  · have e : makeE ns ds = 40 := by unfold makeE; rw [hn, if_neg h]
    refine (make_nums w a da k nc m dc ns hn hI h).mono ?_
    rintro _ w' ⟨rfl, h3⟩
    exact ⟨_, by rw [e], .inl ⟨by rw [e]; decide, rfl⟩, h3⟩
end Go.Proofs.YtflienghgobmoaaGreatDoor

namespace Go.Proofs.YtflienghgobmoaaGreatDoor
open Go.RowKit Rec

/-- what Nums hands back -/
def NumsAt (w w' : World) (v : Value) (l : List Int) : Prop := (l = [] ∧ v = .slice none 0 0) ∨ ∃ g cap, v = .slice (some ⟨g, 0, none⟩) l.length cap ∧ OwnI w' g cap l ∧ w.heap.size ≤ g

end Go.Proofs.YtflienghgobmoaaGreatDoor

namespace Go.Proofs.YtflienghgobmoaaGreatDoor
open Go.RowKit Rec

/-- 512 times this one -/
def one (c : Int) : List Int := List.replicate 512 c
theorem one_length (c : Int) : (one c).length = 512 := List.length_replicate
end Go.Proofs.YtflienghgobmoaaGreatDoor

namespace Go.Proofs.YtflienghgobmoaaGreatDoor
open Go.RowKit Rec

def s12 : ByteArray := { data := #[66, 79, 76, 69, 76, 79, 71, 49, 1, 0, 0, 0] }
end Go.Proofs.YtflienghgobmoaaGreatDoor

namespace Go.Proofs.YtflienghgobmoaaGreatDoor
open Go.RowKit Rec

/-- where a plan's numbers stand -/
def atP (st : List Int) : Nat → Int
  | 0 => 97
  | j + 1 => atP st j + 1 + nth st j % 18446744073709551616 % 160
def nsP (st : List Int) (j : Nat) : List Int := (List.range j).map fun i => atP st (i + 1)
/-- the bytes of its blocks -/
def byteP (sd : List Int) (i k : Nat) : Int := if sd.length = 0 then 0 else (nth sd ((k + i) % sd.length) + i) % 256
def blkP (sd : List Int) (i : Nat) : List Int := (List.range 512).map (byteP sd i)
theorem blkP_length (sd : List Int) (i : Nat) : (blkP sd i).length = 512 := by unfold blkP; rw [List.length_map, List.length_range]
def dsP (sd : List Int) (j : Nat) : List (List Int) := (List.range j).map (blkP sd)
theorem dsP_succ (sd : List Int) (j : Nat) : dsP sd (j + 1) = dsP sd j ++ [blkP sd j] := by
  unfold dsP; rw [List.range_succ, List.map_append]; rfl
/-- a plan's memory -/
structure PlanAt (w : World) (sa : Option Addr) (sn : Nat) (ba : Option Addr) (bn : Nat) (st sd : List Int) : Prop where
  sl : st.length = sn
  ints : Ints w sa st
  wf : ∀ i, -9223372036854775808 ≤ nth st i ∧ nth st i ≤ 9223372036854775807
  bl : sd.length = bn
  bytes : Bytes w ba sd
theorem PlanAt.on {w w' : World} {sa ba : Option Addr} {sn bn : Nat} {st sd : List Int} (h : PlanAt w sa sn ba bn st sd) (hb : Below w.heap.size w w') : PlanAt w' sa sn ba bn st sd := ⟨h.sl, h.ints.on hb, h.wf, h.bl, h.bytes.on hb⟩

theorem info22 : (Tryz.prog.info? 22).map (fun i => (i.zero, i.size, i.bytes)) = some (some (.slice none 0 0), 1, 24) := by kernel_rfl
/-- append of numbers to nil or one's own -/
theorem wp_iown {ops : Array Oper} {rest : List Oper} {o : Oper} {a : Act} {Q : Exit → Act → World → Prop} {w : World} (hgd : o.guard = none) (s x : Operand)
    (ho : o.op = .call { callee := .builtin .append, args := #[s, x], argTypes := #[82, 82] }) (v : Value) (k : Nat) (l : List Int) (hs : a.eval s = v) (hown : w.ownsRow 0 3 1 v k (l.map (Value.int .i64)))
    (ad : Addr) (m c : Nat) (y : List Int) (hx : a.eval x = .slice (some ad) m c) (hm : 0 < m) (hl : y.length = m) (hb : ∀ j, j < y.length → w.cell? (ad.add j) = some (.int .i64 (nth y j))) (h47 : k + m ≤ 17592186044416)
    (h : ∀ g cap w', w'.ownsRow 0 3 1 (.slice (some ⟨g, 0, none⟩) (k + m) cap) (k + m) ((l ++ y).map (Value.int .i64)) → Fr (fun k => v.ownBlock = some k) w w' → (v.ownBlock = some g ∨ w.heap.size ≤ g) → wpList Tryz.prog ops Q rest (a.put o.dst (.slice (some ⟨g, 0, none⟩) (k + m) cap)) w') :
    wpList Tryz.prog ops Q (o :: rest) a w := by
  obtain ⟨i0, hi, hz0, hz1, hz2⟩ := info_parts info3
  refine wp_own hgd s x 82 ho 3 i0 _ 1 8 Tryz.underlying82 hi hz0 hz1 hz2 rfl (by decide) v k _ hs hown ad m c (y.map (Value.int .i64)) hx hm (by rw [List.length_map, hl, Nat.mul_one]) ?_ ?_ (by unfold maxLen; omega) (by omega) ?_
  · intro j u hj
    have hlt : j < y.length := by
      by_cases hlt : j < y.length
      · exact hlt
      · rw [List.getElem?_eq_none (by simp; omega)] at hj; cases hj
    have e : (y.map (Value.int .i64))[j]? = some (.int .i64 (nth y j)) := by simp [nth, List.getD, hlt]
    rw [e] at hj
    cases hj
    exact hb j hlt
  · intro u hu
    obtain ⟨c, _, rfl⟩ := List.mem_map.1 hu
    rfl
  intro g cap w' h1 h2 h3
  rw [← List.map_append] at h1
  exact h g cap w' h1 h2 h3
/-- append of slices to nil or one's own -/
theorem wp_sown {ops : Array Oper} {rest : List Oper} {o : Oper} {a : Act} {Q : Exit → Act → World → Prop} {w : World} (hgd : o.guard = none) (s x : Operand)
    (ho : o.op = .call { callee := .builtin .append, args := #[s, x], argTypes := #[165, 165] }) (v : Value) (k : Nat) (l : List Value) (hs : a.eval s = v) (hown : w.ownsRow 0 22 1 v k l)
    (ad : Addr) (m c : Nat) (y : List Value) (hx : a.eval x = .slice (some ad) m c) (hm : 0 < m) (hl : y.length = m) (hb : ∀ j u, y[j]? = some u → w.cell? (ad.add j) = some u) (h1c : ∀ u ∈ y, u.oneCell' = true) (h47 : k + m ≤ 5864062014805)
    (h : ∀ g cap w', w'.ownsRow 0 22 1 (.slice (some ⟨g, 0, none⟩) (k + m) cap) (k + m) (l ++ y) → Fr (fun k => v.ownBlock = some k) w w' → (v.ownBlock = some g ∨ w.heap.size ≤ g) → wpList Tryz.prog ops Q rest (a.put o.dst (.slice (some ⟨g, 0, none⟩) (k + m) cap)) w') :
    wpList Tryz.prog ops Q (o :: rest) a w := by
  obtain ⟨i0, hi, hz0, hz1, hz2⟩ := info_parts info22
  exact wp_own hgd s x 165 ho 22 i0 _ 1 24 Tryz.underlying165 hi hz0 hz1 hz2 rfl (by decide) v k _ hs hown ad m c y hx hm (by rw [hl, Nat.mul_one]) hb h1c (by unfold maxLen; omega) (by omega) h
/-- rows of different kinds are different rows -/
theorem own_type {w : World} {B e size n : Nat} {v : Value} {xs : List Value} (h : w.ownsRow B e size v n xs) {k : Nat} (hk : v.ownBlock = some k) : ∃ cur, w.heap[k]? = some (.cells cur e (0, 0)) := by
  rcases h.2 with ⟨rfl, _⟩ | ⟨g, cap, cur, rfl, _, hg, _⟩
  · cases hk
  · cases hk; exact ⟨cur, hg⟩
theorem own_apart {w : World} {B B' e e' size size' n n' : Nat} {v v' : Value} {xs xs' : List Value} (h : w.ownsRow B e size v n xs) (h' : w.ownsRow B' e' size' v' n' xs') (hne : e ≠ e') (k : Nat) (hk : v.ownBlock = some k) : ¬ v'.ownBlock = some k := by
  intro hk'
  obtain ⟨c1, h1⟩ := own_type h hk
  obtain ⟨c2, h2⟩ := own_type h' hk'
  rw [h1] at h2
  cases h2
  exact hne rfl
theorem own_apartB {w : World} {B e size n g cap : Nat} {v : Value} {xs : List Value} {l : List Int} (h : w.ownsRow B e size v n xs) (h' : OwnB w g cap l) (hne : e ≠ 5) : ¬ v.ownBlock = some g := by
  intro hk
  obtain ⟨c1, h1⟩ := own_type h hk
  obtain ⟨cur, h2, _, _⟩ := h'.row
  rw [h1] at h2
  cases h2
  exact hne rfl
/-- slices of bytes, and what they hold -/
structure SlAt (w : World) (vs : List Value) (ds : List (List Int)) : Prop where
  len : vs.length = ds.length
  at_ : ∀ i, i < ds.length → ∃ b off c, vs[i]? = some (.slice (some ⟨b, off, none⟩) (row ds i).length c) ∧ Bytes w (some ⟨b, off, none⟩) (row ds i)
theorem SlAt.on {w w' : World} {vs : List Value} {ds : List (List Int)} (h : SlAt w vs ds) (hb : Below w.heap.size w w') : SlAt w' vs ds :=
  ⟨h.len, fun i hi => by obtain ⟨b, off, c, h1, h2⟩ := h.at_ i hi; exact ⟨b, off, c, h1, h2.on hb⟩⟩
theorem row_append (ds es : List (List Int)) (i : Nat) : row (ds ++ es) i = if i < ds.length then row ds i else row es (i - ds.length) := by
  unfold row
  by_cases h : i < ds.length
  · rw [if_pos h]; simp [List.getD, List.getElem?_append, h]
  · rw [if_neg h]; simp [List.getD, List.getElem?_append, h]
theorem SlAt.append {w : World} {vs us : List Value} {ds es : List (List Int)} (h : SlAt w vs ds) (k : SlAt w us es) : SlAt w (vs ++ us) (ds ++ es) := by
  refine ⟨by rw [List.length_append, List.length_append, h.len, k.len], fun i hi => ?_⟩
  rw [List.length_append] at hi
  rw [row_append]
  by_cases hlt : i < ds.length
  · rw [if_pos hlt, List.getElem?_append_left (by rw [h.len]; exact hlt)]; exact h.at_ i hlt
  · rw [if_neg hlt, List.getElem?_append_right (by rw [h.len]; omega), h.len]; exact k.at_ _ (by omega)
theorem SlAt.single {w : World} {b off c n : Nat} {l : List Int} (h : Bytes w (some ⟨b, off, none⟩) l) (hn : l.length = n) : SlAt w [.slice (some ⟨b, off, none⟩) n c] [l] :=
  ⟨rfl, fun i hi => by
    have : i = 0 := by simpa using hi
    subst this
    subst hn
    exact ⟨b, off, c, rfl, h⟩⟩
theorem SlAt.data {w : World} {g n cap : Nat} {vs : List Value} {ds : List (List Int)} (h : SlAt w vs ds) (ho : w.ownsRow 0 22 1 (.slice (some ⟨g, 0, none⟩) n cap) n vs) (hl : ds.length ≤ 1000000000000000) : Data w (some ⟨g, 0, none⟩) ds := by
  refine ⟨hl, .inr ⟨g, 0, rfl, fun i hi => ?_⟩⟩
  obtain ⟨b, off, c, h1, h2⟩ := h.at_ i hi
  refine ⟨_, c, ?_, h2, fun e => (nomatch e)⟩
  have := ho.cells (g := g) rfl i _ h1
  rw [Addr.add_lit] at this
  exact this
end Go.Proofs.YtflienghgobmoaaGreatDoor

namespace Go.Proofs.YtflienghgobmoaaGreatDoor
open Go.RowKit Rec

/-- what stands behind j rounds -/
structure MadeAt (w0 wr : World) (st sd : List Int) (j : Nat) (s5 s6 : Value) : Prop where
  nums : wr.ownsRow 0 3 1 s5 j ((nsP st j).map (Value.int .i64))
  rows : ∃ vs, wr.ownsRow 0 22 1 s6 j vs ∧ SlAt wr vs (dsP sd j) ∧ ∀ u ∈ vs, ∀ k, u.ownBlock = some k → w0.heap.size ≤ k ∧ ∃ cap l, OwnB wr k cap l
  far5 : ∀ k, s5.ownBlock = some k → w0.heap.size ≤ k
  far6 : ∀ k, s6.ownBlock = some k → w0.heap.size ≤ k
  bel : Below w0.heap.size w0 wr
theorem SlAt.fr {S : Nat → Prop} {w w' : World} {vs : List Value} {ds : List (List Int)} (h : SlAt w vs ds) (x : Fr S w w') (hS : ∀ u ∈ vs, ∀ k, u.ownBlock = some k → ¬ S k) : SlAt w' vs ds := by
  refine ⟨h.len, fun i hi => ?_⟩
  obtain ⟨b, off, c, h1, h2⟩ := h.at_ i hi
  refine ⟨b, off, c, h1, h2.len, h2.wf, ?_⟩
  rcases h2.at_ with e | ⟨b', off', e, hc⟩
  · exact .inl e
  · cases e
    refine .inr ⟨b, off, rfl, fun m hm => x.cell (hc m hm) (hS _ (List.mem_of_getElem? h1) b rfl)⟩
theorem MadeAt.start {w0 : World} {st sd : List Int} : MadeAt w0 w0 st sd 0 (.slice none 0 0) (.slice none 0 0) :=
  ⟨⟨rfl, .inl ⟨rfl, rfl⟩⟩, ⟨[], ⟨rfl, .inl ⟨rfl, rfl⟩⟩, ⟨rfl, fun i hi => absurd hi (by simp [dsP])⟩, fun u hu => by simp at hu⟩, (fun k h => by cases h), (fun k h => by cases h), Below.refl _ _⟩
/-- one number more, then a block of one's own, then it too -/
structure MidAt (w0 wr : World) (st sd : List Int) (j : Nat) (s5 s6 : Value) : Prop where
  nums : wr.ownsRow 0 3 1 s5 (j + 1) ((nsP st (j + 1)).map (Value.int .i64))
  rows : ∃ vs, wr.ownsRow 0 22 1 s6 j vs ∧ SlAt wr vs (dsP sd j) ∧ ∀ u ∈ vs, ∀ k, u.ownBlock = some k → w0.heap.size ≤ k ∧ ∃ cap l, OwnB wr k cap l
  far5 : ∀ k, s5.ownBlock = some k → w0.heap.size ≤ k
  far6 : ∀ k, s6.ownBlock = some k → w0.heap.size ≤ k
  bel : Below w0.heap.size w0 wr
theorem owns_on {w w' : World} {e size n : Nat} {v : Value} {xs : List Value} (h : w.ownsRow 0 e size v n xs) (hb : Below w.heap.size w w') : w'.ownsRow 0 e size v n xs := owns_fr h (below_fr hb (fun _ => False)) (fun _ _ e => e)
theorem MidAt.on {w0 wr w' : World} {st sd : List Int} {j : Nat} {s5 s6 : Value} (h : MidAt w0 wr st sd j s5 s6) (hb : Below wr.heap.size wr w') : MidAt w0 w' st sd j s5 s6 := by
  obtain ⟨vs, h1, h2, h3⟩ := h.rows
  exact ⟨owns_on h.nums hb, ⟨vs, owns_on h1 hb, h2.on hb, fun u hu k hk => by obtain ⟨a, c, l, b⟩ := h3 u hu k hk; exact ⟨a, c, l, b.on hb⟩⟩, h.far5, h.far6, h.bel.trans (hb.mono h.bel.size)⟩
theorem MadeAt.on {w0 wr w' : World} {st sd : List Int} {j : Nat} {s5 s6 : Value} (h : MadeAt w0 wr st sd j s5 s6) (hb : Below wr.heap.size wr w') : MadeAt w0 w' st sd j s5 s6 := by
  obtain ⟨vs, h1, h2, h3⟩ := h.rows
  exact ⟨owns_on h.nums hb, ⟨vs, owns_on h1 hb, h2.on hb, fun u hu k hk => by obtain ⟨a, c, l, b⟩ := h3 u hu k hk; exact ⟨a, c, l, b.on hb⟩⟩, h.far5, h.far6, h.bel.trans (hb.mono h.bel.size)⟩
theorem MadeAt.mid {w0 wr w' : World} {st sd : List Int} {j g cap : Nat} {s5 s6 : Value} (h : MadeAt w0 wr st sd j s5 s6) (ho : w'.ownsRow 0 3 1 (.slice (some ⟨g, 0, none⟩) (j + 1) cap) (j + 1) ((nsP st (j + 1)).map (Value.int .i64))) (hf : Fr (fun k => s5.ownBlock = some k) wr w') (hg : s5.ownBlock = some g ∨ wr.heap.size ≤ g) :
    MidAt w0 w' st sd j (.slice (some ⟨g, 0, none⟩) (j + 1) cap) s6 := by
  obtain ⟨vs, h1, h2, h3⟩ := h.rows
  refine ⟨ho, ⟨vs, owns_fr h1 hf (fun k hk => own_apart h1 h.nums (by decide) k hk), h2.fr hf (fun u hu k hk => ?_), fun u hu k hk => ?_⟩, fun k hk => ?_, h.far6, h.bel.trans (hf.below _ h.far5 h.bel.size)⟩
  · obtain ⟨_, cap, l, b⟩ := h3 u hu k hk
    exact own_apartB h.nums b (by decide)
  · obtain ⟨a, cap, l, b⟩ := h3 u hu k hk
    exact ⟨a, cap, l, b.fr hf (own_apartB h.nums b (by decide))⟩
  · cases hk
    rcases hg with e | e
    · exact h.far5 _ e
    · exact Nat.le_trans h.bel.size e
theorem MidAt.next {w0 wr w' : World} {st sd : List Int} {j g cap gb c : Nat} {s5 s6 : Value} {vs : List Value} (h : MidAt w0 wr st sd j s5 s6) (hr : wr.ownsRow 0 22 1 s6 j vs) (hs : SlAt wr vs (dsP sd j)) (hv : ∀ u ∈ vs, ∀ k, u.ownBlock = some k → w0.heap.size ≤ k ∧ ∃ cap l, OwnB wr k cap l)
    (hb : OwnB wr gb c (blkP sd j)) (hbg : w0.heap.size ≤ gb)
    (ho : w'.ownsRow 0 22 1 (.slice (some ⟨g, 0, none⟩) (j + 1) cap) (j + 1) (vs ++ [.slice (some ⟨gb, 0, none⟩) 512 c])) (hf : Fr (fun k => s6.ownBlock = some k) wr w') (hg : s6.ownBlock = some g ∨ wr.heap.size ≤ g) :
    MadeAt w0 w' st sd (j + 1) s5 (.slice (some ⟨g, 0, none⟩) (j + 1) cap) := by
  have hb' : OwnB w' gb c (blkP sd j) := hb.fr hf (own_apartB hr hb (by decide))
  have hv' : ∀ u ∈ vs ++ [.slice (some ⟨gb, 0, none⟩) 512 c], ∀ k, u.ownBlock = some k → w0.heap.size ≤ k ∧ ∃ cap l, OwnB w' k cap l := by
    intro u hu k hk
    rcases List.mem_append.1 hu with e | e
    · obtain ⟨a, cap, l, b⟩ := hv u e k hk
      exact ⟨a, cap, l, b.fr hf (own_apartB hr b (by decide))⟩
    · simp at e; subst e; cases hk; exact ⟨hbg, _, _, hb'⟩
  refine ⟨owns_fr h.nums hf (fun k hk => own_apart h.nums hr (by decide) k hk), ⟨_, ho, ?_, hv'⟩, h.far5, fun k hk => ?_, h.bel.trans (hf.below _ h.far6 h.bel.size)⟩
  · rw [dsP_succ]
    refine SlAt.append (hs.fr hf (fun u hu k hk => ?_)) (SlAt.single hb'.bytes (blkP_length sd j))
    obtain ⟨_, cap, l, b⟩ := hv u hu k hk
    exact own_apartB hr b (by decide)
  · cases hk
    rcases hg with e | e
    · exact h.far6 _ e
    · exact Nat.le_trans h.bel.size e
theorem own_form {w : World} {B e size n : Nat} {v : Value} {xs : List Value} (h : w.ownsRow B e size v n xs) : ∃ a c, v = .slice a n c := by
  rcases h.2 with ⟨rfl, rfl⟩ | ⟨g, cap, cur, rfl, _⟩
  · exact ⟨_, _, rfl⟩
  · exact ⟨_, _, rfl⟩
theorem own_some {w : World} {B e size n : Nat} {v : Value} {xs : List Value} (h : w.ownsRow B e size v n xs) (hn : 0 < n) : ∃ g c, v = .slice (some ⟨g, 0, none⟩) n c := by
  rcases h.2 with ⟨rfl, rfl⟩ | ⟨g, cap, cur, rfl, _⟩
  · omega
  · exact ⟨_, _, rfl⟩
end Go.Proofs.YtflienghgobmoaaGreatDoor

namespace Go.Proofs.YtflienghgobmoaaGreatDoor
open Go.RowKit Rec

end Go.Proofs.YtflienghgobmoaaGreatDoor

namespace Go.Proofs.YtflienghgobmoaaGreatDoor
open Go.RowKit Rec

/-- the numbers rise -/
theorem rises (ns : List Int) (n : Int) (hm : may ns n = true) : ∀ d i, i + d < ns.length → nth ns i ≤ nth ns (i + d)
  | 0, _, _ => Int.le_refl _
  | d + 1, i, h => by
    have a := rises ns n hm d i (by omega)
    have b := (of_decide_eq_true hm) (i + d + 1) h
    simp only [pre] at b
    rw [if_neg (by omega), Nat.add_sub_cancel] at b
    show nth ns i ≤ nth ns (i + d + 1)
    omega
end Go.Proofs.YtflienghgobmoaaGreatDoor

namespace Go.Proofs.YtflienghgobmoaaGreatDoor
open Go.RowKit Rec

theorem may_mono (ns : List Int) (n m : Int) (h : may ns n = true) (hl : ∀ i, i < ns.length → nth ns i < m) : may ns m = true := may_true (fun i hi => ⟨((of_decide_eq_true h) i hi).1, hl i hi⟩)
theorem may_last (ns : List Int) (n m : Int) (h : may ns n = true) (h1 : 1 ≤ ns.length) : may ns m = decide (nth ns (ns.length - 1) < m) := by
  by_cases hm : nth ns (ns.length - 1) < m
  · rw [decide_eq_true hm]
    refine may_mono ns n m h (fun i hi => ?_)
    have := rises ns n h (ns.length - 1 - i) i (by omega)
    rw [show i + (ns.length - 1 - i) = ns.length - 1 by omega] at this
    omega
  · rw [decide_eq_false hm]
    exact may_false (ns.length - 1) (by omega) (fun e => hm e.2)
theorem made_length (ns : List Int) (ds : List (List Int)) : (made ns ds).length = 512 := hd_length _ _
/-- all but the first -/
theorem Data.tail {w : World} {b off : Nat} {ds : List (List Int)} (h : Data w (Option.some ⟨b, off, none⟩) ds) : Data w (Option.some ⟨b, off + 1, none⟩) (ds.drop 1) := by
  refine ⟨by have := h.len; rw [List.length_drop]; omega, .inr ⟨b, off + 1, rfl, fun i hi => ?_⟩⟩
  rw [List.length_drop] at hi
  have e : row (ds.drop 1) i = row ds (i + 1) := by simp [row, List.getD]
  rw [e]
  have := h.cell (i := i + 1) (by omega)
  rw [show off + 1 + i = off + (i + 1) by omega]
  exact this
/-- one slice more -/
theorem news1 (w : World) (v : Value) : ∀ j u, [v][j]? = some u → (w.alloc (.cells #[v] 22)).cell? ((⟨w.heap.size, 0, none⟩ : Addr).add j) = some u := fun m u hm => by
  have : m = 0 := by
    by_cases h : m = 0
    · exact h
    · rw [List.getElem?_eq_none (by simp; omega)] at hm; cases hm
  subst this
  cases hm
  rw [Addr.add_lit, cell_of_row _ _ _ _ _ _ (heap_alloc_new _ _)]; rfl
end Go.Proofs.YtflienghgobmoaaGreatDoor
