import Derived.Test.YtpheajiepnjhdaaDoorRef4
namespace Go.Proofs.YtpheajiepnjhdaaDoor
open Go.RowKit Rec
open Crc (W)

theorem numsL_err {h : List Int} {n : Int} (hl : numsL h n ≠ []) : numsE h n = 0 := by
  obtain ⟨h1, h2, h3, _⟩ := numsL_some hl
  unfold numsE; rw [if_pos h1, h2, h3]; rfl
set_option maxRecDepth 100000 in
set_option maxHeartbeats 1600000 in
theorem rgood_none (w : World) (a da : Option Addr) (k c m dc : Nat) (h : List Int) (n : Int) (hn : h.length = k) (hO : Bytes w a h) (hl : numsL h n = []) :
    Calls Tryd.prog 22 #[.slice a k c, .int .i64 n, .slice da m dc] w fun e w' => e = .returned (.bool false) ∧ Below w.heap.size w w' := by
  have H1 : Hid (Calls Tryd.prog 20 #[.slice a k c, .int .i64 n] w fun e w' => ∃ a' c', e = .returned (.tuple #[.slice a' 0 c', .int .i64 (numsE h n)]) ∧ Below w.heap.size w w') := by
    refine (rnums_any w a k c h n hn hO).mono ?_
    rintro e w' ⟨v, rfl, h2, h3⟩
    rcases h2 with ⟨_, rfl⟩ | ⟨g, cap, rfl, _, _⟩
    · exact ⟨_, _, rfl, h3⟩
    · rw [hl]; exact ⟨_, _, rfl, h3⟩
  clear hn hO hl
  generalize numsE h n = E at H1
  by_cases hE : E = 0
  · subst hE
    go_enter Tryd.func22, Tryd.ntmps22
    go_wp2_with (go_at_call 20; refine H1.out.mono ?_; rintro e w1 ⟨a', c', rfl, hb⟩; have H2 : Hid (Below w.heap.size w w1) := hb; clear hb)
    go_ret
    exact ⟨rfl, H2.out⟩
  · go_enter Tryd.func22, Tryd.ntmps22
    go_wp2_with (go_at_call 20; refine H1.out.mono ?_; rintro e w1 ⟨a', c', rfl, hb⟩; have H2 : Hid (Below w.heap.size w w1) := hb; clear hb)
    go_ret
    exact ⟨rfl, H2.out⟩
set_option maxRecDepth 100000 in
set_option maxHeartbeats 1600000 in
theorem rgood_some (w : World) (b off : Nat) (da : Option Addr) (c m dc K : Nat) (h : List Int) (ds : List (List Int)) (n : Int) (hn : h.length = 512) (hm : ds.length = m) (hO : Bytes w (some ⟨b, off, none⟩) h) (hD : Data w da ds) (hl : numsL h n ≠ []) (hK : (numsL h n).length = K) :
    Calls Tryd.prog 22 #[.slice (some ⟨b, off, none⟩) 512 c, .int .i64 n, .slice da m dc] w fun e w' => e = .returned (.bool (good h n ds)) ∧ Below w.heap.size w w' := by
  obtain ⟨_, _, h3, h4, h5, h6, _⟩ := numsL_some hl
  rw [← h4, hK] at h5 h6
  have HGd : Hid (good h n ds = (blk ds K && decide (num h 12 4 = sumV (hd (nsOf h) 0) ds))) := by
    show _ = _
    unfold good
    have ho := one_form h n hn hO.wf h3
    have es : sumV h ds = sumV (hd (nsOf h) 0) ds := by
      conv => lhs; rw [ho]
      exact sumV_hd (nsOf h) (num h 12 4) ds
    rw [decide_eq_true hl, Bool.true_and, hK, es]
  have H1 : Hid (Calls Tryd.prog 20 #[.slice (some ⟨b, off, none⟩) 512 c, .int .i64 n] w fun e w' => ∃ g c', e = .returned (.tuple #[.slice (some ⟨g, 0, none⟩) K c', .int .i64 0]) ∧ OwnI w' g c' (nsOf h) ∧ Below w.heap.size w w') := by
    refine (rnums_any w _ 512 c h n hn hO).mono ?_
    rintro e w' ⟨v, rfl, h2, hb⟩
    rw [numsL_err hl]
    rcases h2 with ⟨e, _⟩ | ⟨g, cap, rfl, ho, _⟩
    · exact absurd e hl
    · exact ⟨g, cap, by rw [hK], by rw [← h4]; exact ho, hb⟩
  have H2 : Hid (∀ wx, Below w.heap.size w wx → Calls Tryd.prog 50 #[.slice da m dc, .int .i64 K] wx fun e w' => e = .returned (.bool (blk ds K)) ∧ wx = w') := fun wx hx => rblocks_any wx da m dc K ds hm (hD.on hx)
  have sb : 0 ≤ num h 12 4 ∧ num h 12 4 < 4294967296 := num_bd h 12 4 hO.wf
  have H3 : Hid (∀ wx, Below w.heap.size w wx → Calls Tryd.prog 53 #[.slice (some ⟨b, off, none⟩) 512 c, .int .i64 (12 : Nat)] wx fun e w' => e = .returned (.int .i64 (num h 12 4)) ∧ Below wx.heap.size wx w') := fun wx hx => number_any wx b off c 12 h hn (hO.on hx) (by omega)
  have hlen : (nsOf h).length = K := by rw [← h4, hK]
  have H4 : Hid (∀ wx g c', Below w.heap.size w wx → OwnI wx g c' (nsOf h) → blk ds K = true → Calls Tryd.prog 52 #[.slice (some ⟨g, 0, none⟩) K c', .slice da m dc] wx fun e w' => e = .returned (.int .u32 (sumV (hd (nsOf h) 0) ds)) ∧ Below wx.heap.size wx w') := fun wx g c' hx ho hb => by
    simp only [blk, Bool.and_eq_true, decide_eq_true_eq] at hb
    obtain ⟨hd1, hd2⟩ := hb
    rw [mem_row] at hd2
    obtain ⟨db, doff, rfl⟩ := hD.some (by omega)
    obtain rfl : m = K := by omega
    exact rsum_ok wx g 0 m c' db doff dc (nsOf h) ds hlen ho.ints (hD.on hx) hd1 h6 (fun i _ => nsOf_bd h hO.wf i) (fun i hi => hd2 i (by omega))
  have ssb := sumV_bd (hd (nsOf h) 0) ds
  clear hn hm hO hD hl hK h3 h4 hlen
  generalize sumV (hd (nsOf h) 0) ds = s at *
  generalize num h 12 4 = v at *
  have hwr : IntKind.u32.wrap v = v := Int.emod_eq_of_lt sb.1 sb.2
  cases hb : blk ds K with
  | false =>
    rw [hb] at H2 HGd
    clear hb H4
    go_enter Tryd.func22, Tryd.ntmps22
    go_wp2_with (first
      | (go_at_call 20; refine H1.out.mono ?_; rintro e w1 ⟨g, c', rfl, ho, hb⟩; have H5 : Hid (Below w.heap.size w w1) := hb; clear ho hb)
      | (go_at_call 50; refine (H2.out _ H5.out).mono ?_; rintro e w' ⟨rfl, rfl⟩))
    go_ret
    exact ⟨by rw [HGd.out]; rfl, H5.out⟩
  | true =>
    rw [hb] at H2 HGd
    have HC : Hid (∀ wx g c', Below w.heap.size w wx → OwnI wx g c' (nsOf h) → Calls Tryd.prog 52 #[.slice (some ⟨g, 0, none⟩) K c', .slice da m dc] wx fun e w' => e = .returned (.int .u32 s) ∧ Below wx.heap.size wx w') := fun wx g c' hx ho => H4.out wx g c' hx ho hb
    clear hb H4
    go_enter Tryd.func22, Tryd.ntmps22
    go_wp2_with (first
      | (go_at_call 20; refine H1.out.mono ?_; rintro e w1 ⟨g, c', rfl, ho, hb⟩; have H5 : Hid (OwnI w1 g c' (nsOf h) ∧ Below w.heap.size w w1) := ⟨ho, hb⟩; clear ho hb)
      | (go_at_call 50; refine (H2.out _ H5.out.2).mono ?_; rintro e w' ⟨rfl, rfl⟩)
      | (go_at_call 53; refine (H3.out _ H5.out.2).mono ?_; rintro e w2 ⟨rfl, hb⟩; have H6 : Hid (OwnI w2 g c' (nsOf h) ∧ Below w.heap.size w w2) := ⟨H5.out.1.on hb, H5.out.2.trans (hb.mono H5.out.2.size)⟩; clear hb)
      | (go_at_call 52; refine (HC.out _ g c' H6.out.2 H6.out.1).mono ?_; rintro e w3 ⟨rfl, hb⟩; have H7 : Hid (Below w.heap.size w w3) := H6.out.2.trans (hb.mono H6.out.2.size); clear hb))
    go_ret
    refine ⟨?_, H7.out⟩
    rw [HGd.out, Bool.true_and]; rfl
/-- the reference's Good -/
theorem rgood_any (w : World) (a da : Option Addr) (k c m dc : Nat) (h : List Int) (ds : List (List Int)) (n : Int) (hn : h.length = k) (hm : ds.length = m) (hO : Bytes w a h) (hD : Data w da ds) :
    Calls Tryd.prog 22 #[.slice a k c, .int .i64 n, .slice da m dc] w fun e w' => e = .returned (.bool (good h n ds)) ∧ Below w.heap.size w w' := by
  by_cases hl : numsL h n = []
  · have e : good h n ds = false := by unfold good; rw [hl]; rfl
    rw [e]
    exact rgood_none w a da k c m dc h n hn hO hl
  · obtain ⟨h1, _⟩ := numsL_some hl
    obtain rfl : k = 512 := by omega
    obtain ⟨b, off, rfl⟩ := hO.some (by omega)
    exact rgood_some w b off da c m dc _ h ds n hn hm hO hD hl rfl
end Go.Proofs.YtpheajiepnjhdaaDoor
