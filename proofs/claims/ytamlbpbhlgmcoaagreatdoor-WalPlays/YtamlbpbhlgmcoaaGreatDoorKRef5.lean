import Derived.Test.YtamlbpbhlgmcoaaGreatDoorRef4
import Derived.Test.YtamlbpbhlgmcoaaGreatDoorKWBi
import Derived.Test.YtamlbpbhlgmcoaaGreatDoorKWCt
namespace Go.Proofs.YtamlbpbhlgmcoaaGreatDoor
open Go.RowKit Rec
open Crc (W)

theorem numsL_err {h : List Int} {n : Int} (hl : numsL h n ≠ []) : numsE h n = 0 := by
  obtain ⟨h1, h2, h3, _⟩ := numsL_some hl
  unfold numsE; rw [if_pos h1, h2, h3]; rfl
set_option maxRecDepth 100000 in
set_option maxHeartbeats 1600000 in
theorem rgood_none (w : World) (a da : Option Addr) (k c m dc : Nat) (h : List Int) (n : Int) (hn : h.length = k) (hO : Bytes w a h) (hl : numsL h n = []) :
    Calls Tryz.prog 95 #[.slice a k c, .int .i64 n, .slice da m dc] w fun e w' => e = .returned (.bool false) ∧ Below w.heap.size w w' := by
  have H1 : Hid (Calls Tryz.prog 94 #[.slice a k c, .int .i64 n] w fun e w' => ∃ a' c', e = .returned (.tuple #[.slice a' 0 c', .int .i64 (numsE h n)]) ∧ Below w.heap.size w w') := by
    refine (rnums_any w a k c h n hn hO).mono ?_
    rintro e w' ⟨v, rfl, h2, h3⟩
    rcases h2 with ⟨_, rfl⟩ | ⟨g, cap, rfl, _, _⟩
    · exact ⟨_, _, rfl, h3⟩
    · rw [hl]; exact ⟨_, _, rfl, h3⟩
  clear hn hO hl
  generalize numsE h n = E at H1
  by_cases hE : E = 0
  · subst hE
    go_enter Tryz.func95, Tryz.ntmps95
    go_wp2_with (go_at_call 94; refine H1.out.mono ?_; rintro e w1 ⟨a', c', rfl, hb⟩; have H2 : Hid (Below w.heap.size w w1) := hb; clear hb)
    go_ret
    exact ⟨rfl, H2.out⟩
  · go_enter Tryz.func95, Tryz.ntmps95
    go_wp2_with (go_at_call 94; refine H1.out.mono ?_; rintro e w1 ⟨a', c', rfl, hb⟩; have H2 : Hid (Below w.heap.size w w1) := hb; clear hb)
    go_ret
    exact ⟨rfl, H2.out⟩
set_option maxRecDepth 100000 in
set_option maxHeartbeats 1600000 in
theorem rgood_some (w : World) (b off : Nat) (da : Option Addr) (c m dc K : Nat) (h : List Int) (ds : List (List Int)) (n : Int) (hn : h.length = 512) (hm : ds.length = m) (hO : Bytes w (some ⟨b, off, none⟩) h) (hD : Data w da ds) (hl : numsL h n ≠ []) (hK : (numsL h n).length = K) :
    Calls Tryz.prog 95 #[.slice (some ⟨b, off, none⟩) 512 c, .int .i64 n, .slice da m dc] w fun e w' => e = .returned (.bool (good h n ds)) ∧ Below w.heap.size w w' := by
  obtain ⟨_, _, h3, h4, h5, h6, _⟩ := numsL_some hl
  rw [← h4, hK] at h5 h6
  have HGd : Hid (good h n ds = (blk ds K && decide (num h 12 4 = sumV (hd (nsOf h) 0) ds))) := by
    show _ = _
    unfold good
    have ho := one_form h n hn hO.wf h3
    have es : sumV h ds = sumV (hd (nsOf h) 0) ds := by
      conv => lhs; rw [ho]
      exact sumV_hd (nsOf h) (num h 12 4) ds
    rw [decide_eq_true hl, Bool.true_and, hK, es]
  have H1 : Hid (Calls Tryz.prog 94 #[.slice (some ⟨b, off, none⟩) 512 c, .int .i64 n] w fun e w' => ∃ g c', e = .returned (.tuple #[.slice (some ⟨g, 0, none⟩) K c', .int .i64 0]) ∧ OwnI w' g c' (nsOf h) ∧ Below w.heap.size w w') := by
    refine (rnums_any w _ 512 c h n hn hO).mono ?_
    rintro e w' ⟨v, rfl, h2, hb⟩
    rw [numsL_err hl]
    rcases h2 with ⟨e, _⟩ | ⟨g, cap, rfl, ho, _⟩
    · exact absurd e hl
    · exact ⟨g, cap, by rw [hK], by rw [← h4]; exact ho, hb⟩
  have H2 : Hid (∀ wx, Below w.heap.size w wx → Calls Tryz.prog 110 #[.slice da m dc, .int .i64 K] wx fun e w' => e = .returned (.bool (blk ds K)) ∧ wx = w') := fun wx hx => rblocks_any wx da m dc K ds hm (hD.on hx)
  have sb : 0 ≤ num h 12 4 ∧ num h 12 4 < 4294967296 := num_bd h 12 4 hO.wf
  have H3 : Hid (∀ wx, Below w.heap.size w wx → Calls Tryz.prog 113 #[.slice (some ⟨b, off, none⟩) 512 c, .int .i64 (12 : Nat)] wx fun e w' => e = .returned (.int .i64 (num h 12 4)) ∧ Below wx.heap.size wx w') := fun wx hx => number_any wx b off c 12 h hn (hO.on hx) (by omega)
  have hlen : (nsOf h).length = K := by rw [← h4, hK]
  have H4 : Hid (∀ wx g c', Below w.heap.size w wx → OwnI wx g c' (nsOf h) → blk ds K = true → Calls Tryz.prog 112 #[.slice (some ⟨g, 0, none⟩) K c', .slice da m dc] wx fun e w' => e = .returned (.int .u32 (sumV (hd (nsOf h) 0) ds)) ∧ Below wx.heap.size wx w') := fun wx g c' hx ho hb => by
    simp only [blk, Bool.and_eq_true, decide_eq_true_eq] at hb
    obtain ⟨hd1, hd2⟩ := hb
    rw [mem_row] at hd2
    obtain ⟨db, doff, rfl⟩ := hD.some (by omega)
    obtain rfl : m = K := by omega
    exact rsum_ok wx g 0 m c' db doff dc (nsOf h) ds hlen ho.ints (hD.on hx) hd1 h6 (fun i _ => nsOf_bd h hO.wf i) (fun i hi => hd2 i (by omega))
  have ssb := sumV_bd (hd (nsOf h) 0) ds
  clear hn hm hO hD hl hK h3 h4 hlen
  generalize sumV (hd (nsOf h) 0) ds = s at *
  generalize num h 12 4 = v at *
  have hwr : IntKind.u32.wrap v = v := Int.emod_eq_of_lt sb.1 sb.2
  cases hb : blk ds K with
  | false =>
    rw [hb] at H2 HGd
    clear hb H4
    go_enter Tryz.func95, Tryz.ntmps95
    go_wp2_with (first
      | (go_at_call 94; refine H1.out.mono ?_; rintro e w1 ⟨g, c', rfl, ho, hb⟩; have H5 : Hid (Below w.heap.size w w1) := hb; clear ho hb)
      | (go_at_call 110; refine (H2.out _ H5.out).mono ?_; rintro e w' ⟨rfl, rfl⟩))
    go_ret
    exact ⟨by rw [HGd.out]; rfl, H5.out⟩
  | true =>
    rw [hb] at H2 HGd
    have HC : Hid (∀ wx g c', Below w.heap.size w wx → OwnI wx g c' (nsOf h) → Calls Tryz.prog 112 #[.slice (some ⟨g, 0, none⟩) K c', .slice da m dc] wx fun e w' => e = .returned (.int .u32 s) ∧ Below wx.heap.size wx w') := fun wx g c' hx ho => H4.out wx g c' hx ho hb
    clear hb H4
    go_enter Tryz.func95, Tryz.ntmps95
    go_wp2_with (first
      | (go_at_call 94; refine H1.out.mono ?_; rintro e w1 ⟨g, c', rfl, ho, hb⟩; have H5 : Hid (OwnI w1 g c' (nsOf h) ∧ Below w.heap.size w w1) := ⟨ho, hb⟩; clear ho hb)
      | (go_at_call 110; refine (H2.out _ H5.out.2).mono ?_; rintro e w' ⟨rfl, rfl⟩)
      | (go_at_call 113; refine (H3.out _ H5.out.2).mono ?_; rintro e w2 ⟨rfl, hb⟩; have H6 : Hid (OwnI w2 g c' (nsOf h) ∧ Below w.heap.size w w2) := ⟨H5.out.1.on hb, H5.out.2.trans (hb.mono H5.out.2.size)⟩; clear hb)
      | (go_at_call 112; refine (HC.out _ g c' H6.out.2 H6.out.1).mono ?_; rintro e w3 ⟨rfl, hb⟩; have H7 : Hid (Below w.heap.size w w3) := H6.out.2.trans (hb.mono H6.out.2.size); clear hb))
    go_ret
    refine ⟨?_, H7.out⟩
    rw [HGd.out, Bool.true_and]; rfl
/-- the reference's Good -/
theorem rgood_any (w : World) (a da : Option Addr) (k c m dc : Nat) (h : List Int) (ds : List (List Int)) (n : Int) (hn : h.length = k) (hm : ds.length = m) (hO : Bytes w a h) (hD : Data w da ds) :
    Calls Tryz.prog 95 #[.slice a k c, .int .i64 n, .slice da m dc] w fun e w' => e = .returned (.bool (good h n ds)) ∧ Below w.heap.size w w' := by
  by_cases hl : numsL h n = []
  · have e : good h n ds = false := by unfold good; rw [hl]; rfl
    rw [e]
    exact rgood_none w a da k c m dc h n hn hO hl
  · obtain ⟨h1, _⟩ := numsL_some hl
    obtain rfl : k = 512 := by omega
    obtain ⟨b, off, rfl⟩ := hO.some (by omega)
    exact rgood_some w b off da c m dc _ h ds n hn hm hO hD hl rfl
end Go.Proofs.YtamlbpbhlgmcoaaGreatDoor

namespace Go.Proofs.YtamlbpbhlgmcoaaGreatDoor
open Go.RowKit Rec

theorem DoneAt.set {w w1 w' : World} {D E : Dk} {acts : List WA} (h : DoneAt w1 D w' E acts) (hb : Below w.heap.size w w1) (hD : Disk w D) (p i : Nat) (h1 : w.heap.size ≤ p) (h2 : p < w1.heap.size) (v : Value) : DoneAt w D (w'.setCell ⟨p, i, none⟩ v) E acts := by
  have hF := h.from hb
  refine ⟨h.disk.fr Fr.set (fun k hk e => ?_), ⟨hF.mv.fr.trans Fr.set (fun k hk => .inr (by rw [hk]; exact h1)), hF.mv.has, hF.mv.d, hF.mv.nb⟩, hF.al, h.abs⟩
  subst e
  rcases h.al k hk with e | e
  · have := hD.allLt e; omega
  · omega
theorem homeA_length (Q : List (Nat × List Int)) : (homeA Q).length = Q.length + 3 := by simp [homeA]
theorem logH_length (F : List Int) (nb : Nat) : (logH F nb).length = (logN F nb).length := homes_length _ _ (logD_length _ _)
set_option maxRecDepth 100000 in
set_option maxHeartbeats 1600000 in
theorem recover_no (w : World) (D : Dk) (h : Disk w D) (hT : TabAt w) (he : openE D ≠ 0) :
    Calls Tryz.prog 21 #[.pointer (some ⟨D.d, 0, none⟩)] w fun e w' => e = .returned (.tuple #[.int .i64 0, .int .i64 (openE D)]) ∧ Below w.heap.size w w' := by
  have hmf : ∀ (fn : Fn) (first cap : Array Value) (w : World), (Instr.makeFunc fn first cap).run Tryz.prog w = .ok (.func fn first cap) w := fun _ _ _ _ => rfl
  have HB : Hid (Below w.heap.size w (w.alloc (.cells #[.int .i64 0] 26))) := (Below.refl _ _).alloc (Nat.le_refl _) _
  have HL : Hid (Calls Tryz.prog 54 #[.pointer (some ⟨D.d, 0, none⟩)] (w.alloc (.cells #[.int .i64 0] 26)) fun e w' => e = gave (openE D) ∧ Below (w.alloc (.cells #[.int .i64 0] 26)).heap.size (w.alloc (.cells #[.int .i64 0] 26)) w') := log_no _ D (h.on HB.out) (hT.on HB.out) he
  clear h hT he
  go_enter_defers Tryz.func21, Tryz.ntmps21
  go_wp2_with (go_at_call 54; refine HL.out.mono ?_; rintro e w1 ⟨rfl, hb⟩; have H1 : Hid (Below (w.alloc (.cells #[.int .i64 0] 26)).heap.size (w.alloc (.cells #[.int .i64 0] 26)) w1) := hb; clear hb)
  have hr : w1.heap[w.heap.size]? = some (.cells #[.int .i64 0] 26 (0, 0)) := (H1.out.block _ (heap_lt (heap_alloc_new w _))).trans (heap_alloc_new w _)
  refine leaves_cons (f := 52) (args := #[.pointer (some ⟨w.heap.size, 0, none⟩)]) (by simp) (by simp [go_sem]) ?_
  refine (catchR_panicking ⟨w.heap.size, 0, none⟩ 0 _ [] _ (by rw [cell_of_row _ _ _ _ _ _ hr]; rfl) (frozen_of_row _ _ _ _ _ hr)).mono ?_
  rintro e u' w'' ⟨rfl, rfl, rfl⟩
  have hc : (w1.setCell ⟨w.heap.size, 0, none⟩ (.int .i64 (openE D))).cell? ⟨w.heap.size, 0, none⟩ = some (.int .i64 (openE D)) := by rw [cell_of_row _ _ _ _ _ _ (heap_setCell_same _ _ _ _ _ _ hr)]; rfl
  have hbel : Below w.heap.size w (w1.setCell ⟨w.heap.size, 0, none⟩ (.int .i64 (openE D))) := (HB.out.trans (H1.out.mono HB.out.size)).trans (Fr.below Fr.set _ (fun k hk => by rw [hk]; exact Nat.le_refl _) (Nat.le_trans HB.out.size H1.out.size))
  simp [Leaves, settle, results, Tryz.results21, go_sem, hc]
  exact hbel
set_option maxRecDepth 100000 in
set_option maxHeartbeats 1600000 in
theorem recover_nil (w : World) (D : Dk) (h : Disk w D) (hT : TabAt w) (he : openE D = 0) (hn : logN D.full D.nb = []) :
    Calls Tryz.prog 21 #[.pointer (some ⟨D.d, 0, none⟩)] w fun e w' => e = .returned (.tuple #[.int .i64 0, .int .i64 0]) ∧ Below w.heap.size w w' := by
  have hmf : ∀ (fn : Fn) (first cap : Array Value) (w : World), (Instr.makeFunc fn first cap).run Tryz.prog w = .ok (.func fn first cap) w := fun _ _ _ _ => rfl
  have HB : Hid (Below w.heap.size w (w.alloc (.cells #[.int .i64 0] 26))) := (Below.refl _ _).alloc (Nat.le_refl _) _
  have HL : Hid (Calls Tryz.prog 54 #[.pointer (some ⟨D.d, 0, none⟩)] (w.alloc (.cells #[.int .i64 0] 26)) fun e w' => ∃ a c v2, e = .returned (.tuple #[.slice a 0 c, v2]) ∧ Below (w.alloc (.cells #[.int .i64 0] 26)).heap.size (w.alloc (.cells #[.int .i64 0] 26)) w') := by
    refine (log_yes _ D (h.on HB.out) (hT.on HB.out) he).mono ?_
    rintro e w' ⟨v1, v2, L, rfl, hA⟩
    obtain ⟨a, c, rfl⟩ := hA.nums.form
    rw [hn]
    exact ⟨a, c, v2, rfl, hA.bel⟩
  clear h hT he hn
  go_enter_defers Tryz.func21, Tryz.ntmps21
  go_upto_region 3 with (go_at_call 54; refine HL.out.mono ?_; rintro e w1 ⟨a, c, v2, rfl, hb⟩; have H1 : Hid (Below (w.alloc (.cells #[.int .i64 0] 26)).heap.size (w.alloc (.cells #[.int .i64 0] 26)) w1) := hb; clear hb)
  have hr : w1.heap[w.heap.size]? = some (.cells #[.int .i64 0] 26 (0, 0)) := (H1.out.block _ (heap_lt (heap_alloc_new w _))).trans (heap_alloc_new w _)
  have HR : Hid (w1.heap[w.heap.size]? = some (.cells #[.int .i64 0] 26 (0, 0))) := hr
  have c0 : w1.cell? ⟨w.heap.size, 0, none⟩ = some (.int .i64 0) := by rw [cell_of_row _ _ _ _ _ _ hr]; rfl
  have f0 : w1.frozen? ⟨w.heap.size, 0, none⟩ = false := frozen_of_row _ _ _ _ _ hr
  clear hr
  go_wp2
  refine leaves_cons (f := 52) (args := #[.pointer (some ⟨w.heap.size, 0, none⟩)]) (by simp) (by simp [go_sem]) ?_
  refine (catchR_idle ⟨w.heap.size, 0, none⟩ _).mono ?_
  rintro e u' w'' ⟨rfl, rfl, rfl⟩
  have hc : (w1.setCell ⟨w.heap.size, 0, none⟩ (.int .i64 0)).cell? ⟨w.heap.size, 0, none⟩ = some (.int .i64 0) := by rw [cell_of_row _ _ _ _ _ _ (heap_setCell_same _ _ _ _ _ _ HR.out)]; rfl
  have hbel : Below w.heap.size w (w1.setCell ⟨w.heap.size, 0, none⟩ (.int .i64 0)) := (HB.out.trans (H1.out.mono HB.out.size)).trans (Fr.below Fr.set _ (fun k hk => by rw [hk]; exact Nat.le_refl _) (Nat.le_trans HB.out.size H1.out.size))
  simp [Leaves, settle, results, Tryz.results21, go_sem, hc]
  exact hbel
end Go.Proofs.YtamlbpbhlgmcoaaGreatDoor

namespace Go.Proofs.YtamlbpbhlgmcoaaGreatDoor
open Go.RowKit Rec

theorem LogAt.lists {w0 w : World} {D : Dk} {F : List Int} {nb k : Nat} {v1 v2 : Value} {L : List Rb} (h : LogAt w0 w F nb v1 v2 L) (hk : (logN F nb).length = k) (h0 : 0 < k) (hl : F.length = 512 * nb) (hnb : 98 ≤ nb) (hD : ∀ b, D.has b → b < w0.heap.size) (hN : D.nb = nb) :
    ∃ gn cn gd cd, v1 = .slice (some ⟨gn, 0, none⟩) k cn ∧ v2 = .slice (some ⟨gd, 0, none⟩) k cd ∧ Lists w D gn gd k (logN F nb) (logD F k) := by
  obtain ⟨gn, cn, gd, cd, e1, e2, h1, h2, hat⟩ := h.at_ hk h0
  have hkl := logN_len F nb
  rw [hk] at hkl
  refine ⟨gn, cn, gd, cd, e1, e2, fun i hi => ?_, fun i hi => ?_, hk, logD_length _ _⟩
  · obtain ⟨m, hm, m1, m2⟩ := logN_nat F nb i (by rw [hk]; exact hi)
    rw [hN]
    refine ⟨(hat i hi).1, ?_, ?_⟩ <;> omega
  · obtain ⟨_, g, c, n2, n3, n4⟩ := hat i hi
    refine ⟨g, c, n2, ?_, fun e => by have := hD g e; omega⟩
    rw [row_logD F k i hi]
    exact BlkAt.of n3 (bck_length F _ nb hl (by omega))
set_option maxRecDepth 100000 in
set_option maxHeartbeats 4000000 in
theorem recover_yes (w : World) (D : Dk) (h : Disk w D) (hT : TabAt w) (he : openE D = 0) (k : Nat) (hk : (logN D.full D.nb).length = k) (h0 : 0 < k) (hr : RoomN D.abs (k + 3)) :
    Calls Tryz.prog 21 #[.pointer (some ⟨D.d, 0, none⟩)] w fun e w' => ((D.abs.takeE (homeA (logH D.full D.nb)) = 0 ∧ e = .returned (.tuple #[.int .i64 k, .int .i64 0])) ∨ (D.abs.takeE (homeA (logH D.full D.nb)) = 30 ∧ e = .returned (.tuple #[.int .i64 0, .int .i64 30]))) ∧ ∃ E, DoneAt w D w' E (homeA (logH D.full D.nb)) := by
  obtain ⟨hd, hnb, heL⟩ := openE_facts he
  have hnb1 := h.nb1
  have hkl := logN_len D.full D.nb
  rw [hk] at hkl
  have hmf : ∀ (fn : Fn) (first cap : Array Value) (w : World), (Instr.makeFunc fn first cap).run Tryz.prog w = .ok (.func fn first cap) w := fun _ _ _ _ => rfl
  have HB : Hid (Below w.heap.size w (w.alloc (.cells #[.int .i64 0] 26))) := (Below.refl _ _).alloc (Nat.le_refl _) _
  have HP : Hid ((w.alloc (.cells #[.int .i64 0] 26)).heap[w.heap.size]? = some (.cells #[.int .i64 0] 26 (0, 0))) := heap_alloc_new w _
  have HD : Hid (Disk w D) := h
  have HDl : Hid (∀ b, D.has b → b < w.heap.size) := fun b hb => h.hasLt hb
  have HL : Hid (∀ wx, Below w.heap.size w wx → Calls Tryz.prog 54 #[.pointer (some ⟨D.d, 0, none⟩)] wx fun e w' => ∃ gn cn gd cd, e = .returned (.tuple #[.slice (some ⟨gn, 0, none⟩) k cn, .slice (some ⟨gd, 0, none⟩) k cd]) ∧ Lists w' D gn gd k (logN D.full D.nb) (logD D.full k) ∧ Below wx.heap.size wx w') := fun wx hb => by
    refine (log_yes wx D (h.on hb) (hT.on hb) he).mono ?_
    rintro e w' ⟨v1, v2, L, rfl, hA⟩
    obtain ⟨gn, cn, gd, cd, rfl, rfl, hL⟩ := hA.lists (D := D) hk h0 h.full_length hnb (fun b hb' => Nat.lt_of_lt_of_le (HDl.out b hb') hb.size) rfl
    exact ⟨gn, cn, gd, cd, rfl, hL, hA.bel⟩
  have HH : Hid (homes (logN D.full D.nb) (logD D.full k) = logH D.full D.nb) := by unfold logH; rw [hk]; rfl
  have HHl : Hid ((homeA (logH D.full D.nb)).length = k + 3) := by rw [homeA_length, logH_length, hk]; rfl
  have HR : Hid (RoomN D.abs (k + 3)) := hr
  clear h hT he hd heL hr hk
  obtain ⟨acts, hacts⟩ : ∃ acts, homeA (logH D.full D.nb) = acts := ⟨_, rfl⟩
  have HAc : Hid (homeA (homes (logN D.full D.nb) (logD D.full k)) = acts) := by rw [HH.out]; exact hacts
  rw [hacts] at HHl ⊢
  clear hacts HH
  obtain ⟨ns, hns⟩ : ∃ ns, logN D.full D.nb = ns := ⟨_, rfl⟩
  obtain ⟨ds, hds⟩ : ∃ ds, logD D.full k = ds := ⟨_, rfl⟩
  rw [hns, hds] at HL HAc
  clear hns hds
  go_enter_defers Tryz.func21, Tryz.ntmps21
  generalize hwa : w.alloc (.cells #[.int .i64 0] 26) = wa at HB HP
  have hz : ((k : Int) == 0) = false := by simp; omega
  go_upto_region 5 with (go_at_call 54; refine (HL.out _ HB.out).mono ?_; rintro e w1 ⟨gn, cn, gd, cd, rfl, hA, hb⟩; have H1 : Hid (Lists w1 D gn gd k ns ds ∧ Below wa.heap.size wa w1 ∧ Below w.heap.size w w1) := ⟨hA, hb, HB.out.trans (hb.mono HB.out.size)⟩; clear hA hb)
  have H3 : Hid (Stp w1.heap.size (w1.alloc (.cells #[.pointer (some ⟨D.d, 0, none⟩), .slice none 0 0] 89)) D w1.heap.size []) := stp_new w1 D (fun k hk => Nat.lt_of_lt_of_le (HDl.out k hk) H1.out.2.2.size)
  obtain ⟨w3, hw3⟩ : ∃ w3, w3 = w1.alloc (.cells #[.pointer (some ⟨D.d, 0, none⟩), .slice none 0 0] 89) := ⟨_, rfl⟩
  have H3b : Hid (Below w1.heap.size w1 w3) := by rw [hw3]; exact (rows1 w1 _ _).1
  rw [← hw3] at H3
  go_upto_region 6 with fail
  rw [← hw3]
  clear hw3 hwa
  obtain ⟨B, hB⟩ : ∃ B, w1.heap.size = B := ⟨_, rfl⟩
  have HBe : Hid (w1.heap.size = B) := hB
  rw [hB] at H3 H3b ⊢
  clear hB
  have HM : Hid (Calls Tryz.prog 48 #[.pointer (some ⟨B, 0, none⟩), .slice (some ⟨gn, 0, none⟩) k cn, .slice (some ⟨gd, 0, none⟩) k cd] w3 fun e w' => e = .returned (.tuple #[]) ∧ Stp B w' D B acts ∧ Below B w3 w') := by
    have := home_any B w3 D B [] H3.out gn cn gd cd k ns ds (fun wx hb => by
      have hbx : Below w1.heap.size w1 wx := by rw [HBe.out]; exact H3b.out.trans hb
      exact H1.out.1.on hbx) (by omega) (by simp; omega)
    rw [List.nil_append, HAc.out] at this
    exact this
  have HC : Hid (∀ w', Stp B w' D B acts → Below B w3 w' → Calls Tryz.prog 49 #[.pointer (some ⟨B, 0, none⟩)] w' fun e w'' => e = .returned (.int .i64 (D.abs.takeE acts)) ∧ ∃ E, DoneAt w' D w'' E acts) := fun w' hs hb => by
    obtain ⟨v, fs, h1, _⟩ := hs.at_
    have hbw : Below w.heap.size w w' := by
      have hb1 : Below w1.heap.size w1 w' := by rw [HBe.out]; exact H3b.out.trans hb
      exact H1.out.2.2.trans (hb1.mono H1.out.2.2.size)
    exact carry_any w' D (HD.out.on hbw) B v fs acts h1 (by rw [HHl.out]; exact HR.out) (by rw [HHl.out]; omega)
  go_upto_region 7 with (go_at_call 48; refine HM.out.mono ?_; rintro e w4 ⟨rfl, h1, b1⟩; have H4 : Hid (Stp B w4 D B acts ∧ Below B w3 w4) := ⟨h1, b1⟩; clear h1 b1)
  have H4b : Hid (Below w.heap.size w w4 ∧ w4.heap[w.heap.size]? = some (.cells #[.int .i64 0] 26 (0, 0))) := by
    have hb1 : Below w1.heap.size w1 w4 := by rw [HBe.out]; exact H3b.out.trans H4.out.2
    exact ⟨H1.out.2.2.trans (hb1.mono H1.out.2.2.size), (hb1.block _ (Nat.lt_of_lt_of_le (heap_lt HP.out) H1.out.2.1.size)).trans ((H1.out.2.1.block _ (heap_lt HP.out)).trans HP.out)⟩
  clear HM HL HP HBe H3b H3
  have HPn : Hid (¬ D.has w.heap.size) := fun e => absurd (HDl.out _ e) (Nat.lt_irrefl _)
  have HC2 : Hid (Calls Tryz.prog 49 #[.pointer (some ⟨B, 0, none⟩)] w4 fun e w'' => e = .returned (.int .i64 (D.abs.takeE acts)) ∧ ∃ E, DoneAt w4 D w'' E acts ∧ w''.heap[w.heap.size]? = some (.cells #[.int .i64 0] 26 (0, 0))) := by
    refine (HC.out w4 H4.out.1 H4.out.2).mono ?_
    rintro e w5 ⟨rfl, E, hd⟩
    exact ⟨rfl, E, hd, hd.mv.fr.heap H4b.out.2 HPn.out⟩
  clear HC
  rcases takeE_vals D.abs acts with hv | hv
  · have HV : Hid (D.abs.takeE acts = 0) := hv
    rw [hv] at HC2
    clear hv
    go_upto_region 8 with (go_at_call 49; refine HC2.out.mono ?_; rintro e w5 ⟨rfl, E, hd, hp⟩; have H5 : Hid (DoneAt w4 D w5 E acts ∧ w5.heap[w.heap.size]? = some (.cells #[.int .i64 0] 26 (0, 0))) := ⟨hd, hp⟩; have c0 : w5.cell? ⟨w.heap.size, 0, none⟩ = some (.int .i64 0) := (by rw [cell_of_row _ _ _ _ _ _ hp]; rfl); have f0 : w5.frozen? ⟨w.heap.size, 0, none⟩ = false := frozen_of_row _ _ _ _ _ hp; clear hd hp)
    have r6 := heap_setCell_same w5 w.heap.size 0 _ _ (.int .i64 0) H5.out.2
    have H6 : Hid (DoneAt w D (w5.setCell ⟨w.heap.size, 0, none⟩ (.int .i64 0)) E acts ∧ (w5.setCell ⟨w.heap.size, 0, none⟩ (.int .i64 0)).heap[w.heap.size]? = some (.cells #[.int .i64 0] 26 (0, 0))) := ⟨H5.out.1.set H4b.out.1 HD.out w.heap.size 0 (Nat.le_refl _) (heap_lt H4b.out.2) _, r6⟩
    clear r6 c0 f0
    generalize w5.setCell ⟨w.heap.size, 0, none⟩ (.int .i64 0) = w6 at H6 ⊢
    have c6 : w6.cell? ⟨w.heap.size, 0, none⟩ = some (.int .i64 0) := by rw [cell_of_row _ _ _ _ _ _ H6.out.2]; rfl
    have f6 : w6.frozen? ⟨w.heap.size, 0, none⟩ = false := frozen_of_row _ _ _ _ _ H6.out.2
    go_wp2
    refine leaves_cons (f := 52) (args := #[.pointer (some ⟨w.heap.size, 0, none⟩)]) (by simp) (by simp [go_sem]) ?_
    refine (catchR_idle ⟨w.heap.size, 0, none⟩ _).mono ?_
    rintro e u' w'' ⟨rfl, rfl, rfl⟩
    have hc : (w6.setCell ⟨w.heap.size, 0, none⟩ (.int .i64 0)).cell? ⟨w.heap.size, 0, none⟩ = some (.int .i64 0) := by rw [cell_of_row _ _ _ _ _ _ (heap_setCell_same _ _ _ _ _ _ H6.out.2)]; rfl
    have hfin : DoneAt w D (w6.setCell ⟨w.heap.size, 0, none⟩ (.int .i64 0)) E acts := by
      refine ⟨H6.out.1.disk.fr Fr.set (fun k hk e => ?_), ⟨H6.out.1.mv.fr.trans Fr.set (fun k hk => .inr (by rw [hk]; exact Nat.le_refl _)), H6.out.1.mv.has, H6.out.1.mv.d, H6.out.1.mv.nb⟩, H6.out.1.al, H6.out.1.abs⟩
      subst e
      rcases H5.out.1.al _ hk with e | e
      · exact absurd (HD.out.allLt e) (Nat.lt_irrefl _)
      · exact absurd (heap_lt H4b.out.2) (Nat.not_lt.2 e)
    simp [Leaves, settle, results, Tryz.results21, go_sem, hc, HV.out]
    exact ⟨E, hfin⟩
  · have HV : Hid (D.abs.takeE acts = 30) := hv
    rw [hv] at HC2
    clear hv
    go_upto_region 8 with (go_at_call 49; refine HC2.out.mono ?_; rintro e w5 ⟨rfl, E, hd, hp⟩; have H5 : Hid (DoneAt w4 D w5 E acts ∧ w5.heap[w.heap.size]? = some (.cells #[.int .i64 0] 26 (0, 0))) := ⟨hd, hp⟩; have c0 : w5.cell? ⟨w.heap.size, 0, none⟩ = some (.int .i64 0) := (by rw [cell_of_row _ _ _ _ _ _ hp]; rfl); have f0 : w5.frozen? ⟨w.heap.size, 0, none⟩ = false := frozen_of_row _ _ _ _ _ hp; clear hd hp)
    have r6 := heap_setCell_same w5 w.heap.size 0 _ _ (.int .i64 30) H5.out.2
    have H6 : Hid (DoneAt w D (w5.setCell ⟨w.heap.size, 0, none⟩ (.int .i64 30)) E acts ∧ (w5.setCell ⟨w.heap.size, 0, none⟩ (.int .i64 30)).heap[w.heap.size]? = some (.cells #[.int .i64 30] 26 (0, 0))) := ⟨H5.out.1.set H4b.out.1 HD.out w.heap.size 0 (Nat.le_refl _) (heap_lt H4b.out.2) _, r6⟩
    clear r6 c0 f0
    generalize w5.setCell ⟨w.heap.size, 0, none⟩ (.int .i64 30) = w6 at H6 ⊢
    have c6 : w6.cell? ⟨w.heap.size, 0, none⟩ = some (.int .i64 30) := by rw [cell_of_row _ _ _ _ _ _ H6.out.2]; rfl
    have f6 : w6.frozen? ⟨w.heap.size, 0, none⟩ = false := frozen_of_row _ _ _ _ _ H6.out.2
    go_wp2
    go_region
    all_goals go_wp2
    all_goals
      have H7 : Hid (DoneAt w D (w6.setCell ⟨w.heap.size, 0, none⟩ (.int .i64 30)).drew E acts) := by
        have hb : Below (w6.setCell ⟨w.heap.size, 0, none⟩ (.int .i64 30)).heap.size (w6.setCell ⟨w.heap.size, 0, none⟩ (.int .i64 30)) (w6.setCell ⟨w.heap.size, 0, none⟩ (.int .i64 30)).drew := (Below.refl _ _).drew
        have hfin : DoneAt w D (w6.setCell ⟨w.heap.size, 0, none⟩ (.int .i64 30)) E acts := by
          refine ⟨H6.out.1.disk.fr Fr.set (fun k hk e => ?_), ⟨H6.out.1.mv.fr.trans Fr.set (fun k hk => .inr (by rw [hk]; exact Nat.le_refl _)), H6.out.1.mv.has, H6.out.1.mv.d, H6.out.1.mv.nb⟩, H6.out.1.al, H6.out.1.abs⟩
          subst e
          rcases H5.out.1.al _ hk with e | e
          · exact absurd (HD.out.allLt e) (Nat.lt_irrefl _)
          · exact absurd (heap_lt H4b.out.2) (Nat.not_lt.2 e)
        exact ⟨hfin.disk.on hb, hfin.mv.trans (mv_on _ _ _ hb), hfin.al, hfin.abs⟩
      have r7 : (w6.setCell ⟨w.heap.size, 0, none⟩ (.int .i64 30)).drew.heap[w.heap.size]? = some (.cells #[.int .i64 30] 26 (0, 0)) := heap_setCell_same _ _ _ _ _ _ H6.out.2
      generalize (w6.setCell ⟨w.heap.size, 0, none⟩ (.int .i64 30)).drew = w7 at *
      refine leaves_cons (f := 52) (args := #[.pointer (some ⟨w.heap.size, 0, none⟩)]) (by simp) (by simp [go_sem]) ?_
      refine (catchR_idle ⟨w.heap.size, 0, none⟩ _).mono ?_
      rintro e u' w'' ⟨rfl, rfl, rfl⟩
      have hc : w''.cell? ⟨w.heap.size, 0, none⟩ = some (.int .i64 30) := by rw [cell_of_row _ _ _ _ _ _ r7]; rfl
      simp [Leaves, settle, results, Tryz.results21, go_sem, hc, HV.out]
      exact ⟨E, H7.out⟩
end Go.Proofs.YtamlbpbhlgmcoaaGreatDoor
