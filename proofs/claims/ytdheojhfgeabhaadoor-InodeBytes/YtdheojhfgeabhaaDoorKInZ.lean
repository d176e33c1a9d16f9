import Derived.Test.YtdheojhfgeabhaaDoorKInK
import Derived.Test.YtdheojhfgeabhaaDoorInR0
namespace Go.Proofs.YtdheojhfgeabhaaDoor
open Go.RowKit Go.Maps Rec

set_option maxRecDepth 100000 in
theorem rwithin_any (w : World) (v lo hi : Int) : Calls Tryd.prog 35 #[.int .i64 v, .int .i64 lo, .int .i64 hi] w fun e w' => e = .returned (.bool (wth v lo hi)) ∧ w = w' := by
  go_enter Tryd.func35, Tryd.ntmps35
  by_cases h1 : lo ≤ v
  · by_cases h2 : v ≤ hi
    · go_wp2
      go_ret
      exact ⟨by rw [wth_yes ⟨h1, h2⟩]; rfl, rfl⟩
    · go_wp2
      go_ret
      exact ⟨by rw [wth_no (by omega)]; rfl, rfl⟩
  · go_wp2
    go_ret
    exact ⟨by rw [wth_no (by omega)]; rfl, rfl⟩
theorem num_head (l : List Int) : ∀ (m k : Nat), num l k (m + 1) = nth l k + 256 * num l (k + 1) m
  | 0, k => by simp [num]
  | m + 1, k => by
    have h1 : num l k (m + 1 + 1) = num l k (m + 1) + nth l (k + (m + 1)) * 256 ^ (m + 1) := rfl
    have h2 : num l (k + 1) (m + 1) = num l (k + 1) m + nth l (k + 1 + m) * 256 ^ m := rfl
    rw [h1, num_head l m k, h2, show k + (m + 1) = k + 1 + m by omega, Int.pow_succ]
    generalize nth l (k + 1 + m) = a
    generalize (256 : Int) ^ m = b
    have : a * (b * 256) = 256 * (a * b) := by rw [← Int.mul_assoc, Int.mul_comm]
    rw [this]
    omega
set_option maxRecDepth 100000 in
set_option maxHeartbeats 1600000 in
/-- the number of a few bytes -/
theorem rnum_any (w : World) (b off n c : Nat) (l : List Int) (hn : n ≤ 4) (hb : ∀ i, 0 ≤ nth l i ∧ nth l i < 256) (hc : ∀ i, i < n → w.cell? ⟨b, off + i, none⟩ = some (.int .u8 (nth l i))) :
    Calls Tryd.prog 23 #[.slice (some ⟨b, off, none⟩) n c] w fun e w' => e = .returned (.int .i64 (num l 0 n)) ∧ w = w' := by
  have HC : Hid (∀ i, i < n → w.cell? ⟨b, off + i, none⟩ = some (.int .u8 (nth l i))) := hc
  have HB : Hid (∀ i m, 0 ≤ num l i m ∧ num l i m < 256 ^ m) := fun i m => num_bd l i m hb
  have HB1 : Hid (∀ i, 0 ≤ nth l i ∧ nth l i < 256) := hb
  clear hc hb
  have hn1 : (n : Int) - 1 = (n : Int) + -1 := rfl
  go_enter Tryd.func23, Tryd.ntmps23
  go_wp2
  go_loopw [3, 4] (fun s3 s4 wr => ∃ k : Nat, k ≤ n ∧ s4 = .int .i64 ((k : Int) - 1) ∧ s3 = .int .i64 (num l k (n - k)) ∧ w = wr) (fun _ s4 _ => (intOf s4 + 1).toNat)
  case atStart => exact ⟨n, Nat.le_refl _, rfl, by rw [Nat.sub_self]; rfl, rfl⟩
  case round =>
    obtain ⟨k, hk, rfl, rfl, rfl⟩ := hrel
    cases k with
    | zero =>
      go_wp2
      go_ret
      exact ⟨by simp, rfl⟩
    | succ k =>
      have e1 : ((k + 1 : Nat) : Int) - 1 = (k : Int) := by omega
      rw [e1]
      have hcell := HC.out k (by omega)
      have h1 := HB.out (k + 1) (n - (k + 1))
      have h2 := HB1.out k
      have h3 : (256 : Int) ^ (n - (k + 1)) ≤ 256 ^ 3 := by
        rcases (show n - (k + 1) = 0 ∨ n - (k + 1) = 1 ∨ n - (k + 1) = 2 ∨ n - (k + 1) = 3 by omega) with e | e | e | e <;> rw [e] <;> decide
      have H4 : Hid (num l k (n - k) = num l (k + 1) (n - (k + 1)) * 256 + nth l k) := by
        rw [show n - k = n - (k + 1) + 1 by omega, num_head, Int.add_comm, Int.mul_comm]; exact rfl
      generalize num l (k + 1) (n - (k + 1)) = v at *
      generalize nth l k = u at *
      have h5 : 0 ≤ v ∧ v < 16777216 := ⟨h1.1, by have : (256 : Int) ^ 3 = 16777216 := rfl; omega⟩
      clear h1 h3
      have hk0 : (0 : Int) ≤ (k : Int) := by omega
      have hkn : (k : Int) < (n : Int) := by omega
      go_wp2
      exact ⟨⟨k, by omega, by simp, by rw [H4.out], by simp⟩, by simp [intOf]⟩
end Go.Proofs.YtdheojhfgeabhaaDoor

namespace Go.Proofs.YtdheojhfgeabhaaDoor
open Go.RowKit Go.Maps Rec

/-- append of bytes to a row of one's own, which may be nil -/
theorem wp_appV {ops : Array Oper} {rest : List Oper} {o : Oper} {a : Act} {Q : Exit → Act → World → Prop} {w : World} (hgd : o.guard = none) (s x : Operand)
    (ho : o.op = .call { callee := .builtin .append, args := #[s, x], argTypes := #[25, 25] }) (B : Nat) (v : Value) (l m : List Int) (hs : a.eval s = v) (hown : w.ownsRow B 5 1 v l.length (l.map (Value.int .u8))) (hwl : ∀ i, 0 ≤ nth l i ∧ nth l i < 256) (hB : B ≤ w.heap.size)
    (p : Addr) (n c : Nat) (hx : a.eval x = .slice (some p) n c) (hn : m.length = n) (hm : 0 < n) (hb : Bytes w (some p) m) (h47 : l.length + n ≤ 1000)
    (h : ∀ g' cap' w', B ≤ g' → OwnB w' g' cap' (l ++ m) → w.grownBy w' v.ownBlock → wpList Tryd.prog ops Q rest (a.put o.dst (.slice (some ⟨g', 0, none⟩) (l.length + n) cap')) w') :
    wpList Tryd.prog ops Q (o :: rest) a w := by
  subst hn
  obtain ⟨i0, hi, hz0, hz1, hz2⟩ := info_parts info5
  refine wpList_append_own _ hgd s x 25 ho B 5 i0 (.int .u8 0) 1 1 Tryd.underlying25 hi hz0 hz1 hz2 rfl (by decide) _ _ _ hs hown p m.length c (m.map (Value.int .u8)) hx (by simp) hb.news (cells_u8 m) ?_ (by omega) hB ?_
  · unfold maxLen; omega
  · intro v' w' ho' hg' hnil
    rw [← List.map_append] at ho'
    rcases ho'.2 with ⟨hv, h0⟩ | ⟨g', cap', cur, hv, hgB, hgr, hcap, hcm, hsz, htk⟩
    · have := (hnil.1 hv).2
      simp at this
      omega
    · subst hv
      exact h _ _ _ hgB ⟨⟨cur, hgr, by simpa using hsz, by simpa using htk⟩, by rw [List.length_append]; omega, by simpa using hcap, hcm, wf_two hwl hb.wf⟩ hg'
/-- a number's bytes, the lowest first -/
def digs (v : Int) (n : Nat) : List Int := (List.range n).map (dig v)
theorem digs_length (v : Int) (n : Nat) : (digs v n).length = n := by simp [digs]
theorem digs_snoc (v : Int) (n : Nat) : digs v (n + 1) = digs v n ++ [dig v n] := by simp [digs, List.range_succ]
end Go.Proofs.YtdheojhfgeabhaaDoor

namespace Go.Proofs.YtdheojhfgeabhaaDoor
open Go.RowKit Go.Maps Rec

set_option maxRecDepth 100000 in
set_option maxHeartbeats 1600000 in
theorem rlow_any (w : World) (v : Int) (n : Nat) (hv : 0 ≤ v ∧ v ≤ 9223372036854775807) (hn : 1 ≤ n ∧ n ≤ 4) :
    Calls Tryd.prog 36 #[.int .i64 v, .int .i64 (n : Int)] w fun e w' => ∃ g cap, e = .returned (.slice (some ⟨g, 0, none⟩) n cap) ∧ OwnB w' g cap (digs v n) ∧ w.heap.size ≤ g ∧ Below w.heap.size w w' := by
  have HV : Hid (∀ k, 0 ≤ v / 256 ^ k ∧ v / 256 ^ k ≤ 9223372036854775807) := fun k => ⟨Int.ediv_nonneg hv.1 (Int.le_of_lt (Int.pow_pos (by omega))), Int.le_trans (Int.ediv_le_self _ hv.1) hv.2⟩
  clear hv
  go_enter Tryd.func36, Tryd.ntmps36
  go_wp2
  go_loopw [0, 5, 6] (fun s0 s5 s6 wr => ∃ k : Nat, k ≤ n ∧ s0 = .int .i64 (v / 256 ^ k) ∧ s6 = .int .i64 (k : Int) ∧ Below w.heap.size w wr ∧ ((k = 0 ∧ s5 = .slice none 0 0) ∨ ∃ g cap, s5 = .slice (some ⟨g, 0, none⟩) k cap ∧ OwnB wr g cap (digs v k) ∧ w.heap.size ≤ g)) (fun _ _ s6 _ => n - (intOf s6).toNat)
  case atStart => exact ⟨0, Nat.zero_le _, by simp, rfl, Below.refl _ _, .inl ⟨rfl, rfl⟩⟩
  case round =>
    obtain ⟨k, hk, rfl, rfl, hB, hs⟩ := hrel
    have HB : Hid (Below w.heap.size w wr) := hB
    clear hB
    by_cases hlt : k < n
    · have hlt' : (k : Int) < (n : Int) := by omega
      obtain ⟨q, hq⟩ : ∃ q, v / 256 ^ k = q := ⟨_, rfl⟩
      have hq0 := HV.out k
      rw [hq] at hq0
      have HQ : Hid (q % 256 = dig v k ∧ q / 256 = v / 256 ^ (k + 1)) := ⟨by unfold dig; rw [hq], by rw [← hq, Int.pow_succ, Int.ediv_ediv_of_nonneg (Int.le_of_lt (Int.pow_pos (by omega)))]⟩
      rw [hq]
      clear hq
      have HAl : Hid (∀ o, Below wr.heap.size wr (wr.alloc o)) := fun o => (Below.refl _ _).alloc (Nat.le_refl _) o
      have HBy : Hid (∀ z : Int, 0 ≤ z → z < 256 → OwnB (wr.alloc (.cells #[.int .u8 z] 5)) wr.heap.size 1 [z]) := fun z h1 h2 => bytes7 wr [z] (by simp) (wf_one7 z ⟨h1, h2⟩)
      have hq1 : 0 ≤ q % 256 ∧ q % 256 < 256 := by omega
      rcases hs with ⟨rfl, rfl⟩ | ⟨g, cap, rfl, ho, hg⟩
      · have HN : Hid ((wr.alloc (.cells #[.int .u8 (q % 256)] 5)).ownsRow w.heap.size 5 1 (.slice none 0 0) ([] : List Int).length (([] : List Int).map (Value.int .u8))) := ⟨rfl, .inl ⟨rfl, rfl⟩⟩
        go_wp2_with (at_builtin; refine wp_appV (w := wr.alloc (.cells #[.int .u8 (q % 256)] 5)) rfl (.tmp 12) (.tmp 16) rfl w.heap.size (.slice none 0 0) [] [q % 256] rfl HN.out (fun i => by simp [nth]) (Nat.le_trans HB.out.size (HAl.out _).size) ⟨wr.heap.size, 0, none⟩ 1 1 rfl rfl (by omega) (HBy.out _ hq1.1 hq1.2).bytes (by simp) ?_; intro g5 c5 w5 h1 h2 h3; have H5 : Hid (OwnB w5 g5 c5 (digs v 1) ∧ w.heap.size ≤ g5 ∧ Below w.heap.size w w5) := ⟨(by rw [HQ.out.1] at h2; exact h2), h1, (HB.out.trans ((HAl.out _).mono HB.out.size)).grown h3 (Nat.le_trans HB.out.size (HAl.out _).size) (by intro k hk; cases hk)⟩; clear h1 h2 h3)
        exact ⟨⟨1, by omega, by rw [HQ.out.2], rfl, H5.out.2.2, .inr ⟨g5, c5, rfl, H5.out.1, H5.out.2.1⟩⟩, by simp [intOf]; omega⟩
      · have HO : Hid (OwnB wr g cap (digs v k) ∧ w.heap.size ≤ g) := ⟨ho, hg⟩
        clear ho hg
        go_wp2_with (at_builtin; refine wp_app (w := wr.alloc (.cells #[.int .u8 (q % 256)] 5)) rfl (.tmp 12) (.tmp 16) rfl w.heap.size g k cap (digs v k) [q % 256] (digs_length v k) rfl (HO.out.1.on (HAl.out _)) HO.out.2 (Nat.le_trans HB.out.size (HAl.out _).size) (some ⟨wr.heap.size, 0, none⟩) 1 1 rfl rfl (HBy.out _ hq1.1 hq1.2).bytes (fun e => by cases e) (by omega) ?_; intro g5 c5 w5 h1 h2 h3; have H5 : Hid (OwnB w5 g5 c5 (digs v (k + 1)) ∧ w.heap.size ≤ g5 ∧ Below w.heap.size w w5) := ⟨(by rw [HQ.out.1, ← digs_snoc] at h2; exact h2), h1, (HB.out.trans ((HAl.out _).mono HB.out.size)).trans (below_of h3 HO.out.2 (Nat.le_trans HB.out.size (HAl.out _).size))⟩; clear h1 h2 h3)
        exact ⟨⟨k + 1, by omega, by rw [HQ.out.2], rfl, H5.out.2.2, .inr ⟨g5, c5, rfl, H5.out.1, H5.out.2.1⟩⟩, by simp [intOf]; omega⟩
    · have hkn : k = n := by omega
      subst hkn
      rcases hs with ⟨h0, _⟩ | ⟨g, cap, rfl, ho, hg⟩
      · omega
      · go_wp2
        go_ret
        exact ⟨g, cap, rfl, ho, hg, HB.out⟩
end Go.Proofs.YtdheojhfgeabhaaDoor

namespace Go.Proofs.YtdheojhfgeabhaaDoor
open Go.RowKit Go.Maps Rec

/-- a record's first bytes -/
def rpre (x : Nat → Int) (m : Nat) : List Int := (List.range m).map (rbf x)
theorem rpre_len (x : Nat → Int) (m : Nat) : (rpre x m).length = m := by simp [rpre]
theorem rpre_app (x : Nat → Int) (m k : Nat) (f : Nat → Int) (h : ∀ i, i < k → rbf x (m + i) = f i) : rpre x m ++ (List.range k).map f = rpre x (m + k) := by
  refine ext_nth (by simp [rpre]) fun i hi => ?_
  have hi : i < m + k := by simpa [rpre] using hi
  rw [show nth (rpre x (m + k)) i = rbf x i from nth_mapR _ _ _ hi]
  by_cases c : i < m
  · have e : nth (rpre x m ++ (List.range k).map f) i = nth (rpre x m) i := by unfold nth; rw [List.getD_eq_getElem?_getD, List.getD_eq_getElem?_getD, List.getElem?_append_left (by rw [rpre_len]; exact c)]
    rw [e]
    exact nth_mapR _ _ _ c
  · have e : nth (rpre x m ++ (List.range k).map f) i = nth ((List.range k).map f) (i - m) := by unfold nth; rw [List.getD_eq_getElem?_getD, List.getD_eq_getElem?_getD, List.getElem?_append_right (by rw [rpre_len]; omega), rpre_len]
    rw [e, nth_mapR _ _ _ (by omega), ← h (i - m) (by omega), show m + (i - m) = i by omega]
theorem rpre_two (x : Nat → Int) : [dig (x 0) 0, 0] = rpre x 2 := by simp [rpre, List.range_succ, rbf]
theorem rpre_four (x : Nat → Int) : rpre x 2 ++ digs (x 1) 2 = rpre x 4 := rpre_app x 2 2 _ fun i hi => by
  unfold rbf
  rw [if_neg (by omega), if_neg (by omega), if_pos (by omega), show 2 + i - 2 = i by omega]
theorem rpre_eight (x : Nat → Int) : rpre x 4 ++ digs (x 2) 4 = rpre x 8 := rpre_app x 4 4 _ fun i hi => by
  unfold rbf
  rw [if_neg (by omega), if_neg (by omega), if_neg (by omega), if_pos (by omega), show 4 + i - 4 = i by omega]
theorem rpre_num (x : Nat → Int) (j : Nat) (hj : j < 12) : rpre x (8 + 4 * j) ++ digs (x (3 + j)) 4 = rpre x (8 + 4 * j + 4) := rpre_app x (8 + 4 * j) 4 _ fun i hi => by
  unfold rbf
  rw [if_neg (by omega), if_neg (by omega), if_neg (by omega), if_neg (by omega), if_pos (by omega), show (8 + 4 * j + i - 8) / 4 = j by omega, show (8 + 4 * j + i - 8) % 4 = i by omega]
theorem rpre_end (x : Nat → Int) : rpre x 56 ++ [0, 0, 0, 0, 0, 0, 0, 0] = rby x := by
  have := rpre_app x 56 8 (fun _ => 0) fun i hi => by
    unfold rbf
    rw [if_neg (by omega), if_neg (by omega), if_neg (by omega), if_neg (by omega), if_neg (by omega)]
  rw [show ((List.range 8).map fun _ : Nat => (0 : Int)) = [0, 0, 0, 0, 0, 0, 0, 0] from rfl] at this
  exact this
theorem box15 {w : World} {P : Nat} {x : Nat → Int} (h : w.heap[P]? = some (.cells (inC x) 24 (0, 0))) (j : Nat) (hj : j < 15) : w.cell? ⟨P, j, none⟩ = some (.int .i64 (x j)) := by
  rw [cell_of_row w P j _ _ _ h]
  rcases (show j = 0 ∨ j = 1 ∨ j = 2 ∨ j = 3 ∨ j = 4 ∨ j = 5 ∨ j = 6 ∨ j = 7 ∨ j = 8 ∨ j = 9 ∨ j = 10 ∨ j = 11 ∨ j = 12 ∨ j = 13 ∨ j = 14 by omega) with rfl | rfl | rfl | rfl | rfl | rfl | rfl | rfl | rfl | rfl | rfl | rfl | rfl | rfl | rfl <;> rfl

set_option maxRecDepth 100000 in
set_option maxHeartbeats 4000000 in
/-- the reference's bytes of a record that may be -/
theorem rlaid_any (w : World) (x : Nat → Int) (hx : rMay x = true) : Calls Tryd.prog 19 #[inV x] w fun e w' => ∃ g cap, e = .returned (.slice (some ⟨g, 0, none⟩) 64 cap) ∧ OwnB w' g cap (rby x) ∧ w.heap.size ≤ g ∧ Below w.heap.size w w' := by
  have HXb : Hid (∀ j, j < 15 → 0 ≤ x j ∧ x j ≤ 9223372036854775807) := fun j hj => by
    have h1 := rMay_bd hx j hj
    refine ⟨h1.1, ?_⟩
    have h2 : fBd j ≤ 4294967296 := by unfold fBd; repeat' split; all_goals omega
    omega
  have b0 : 0 ≤ x 0 ∧ x 0 < 256 := rMay_bd hx 0 (by omega)
  have HD0 : Hid (dig (x 0) 0 = x 0) := by show _ = _; unfold dig; simp; omega
  clear hx
  unfold inV
  obtain ⟨P, hP⟩ : ∃ P, w.heap.size = P := ⟨_, rfl⟩
  obtain ⟨wa, hwa⟩ : ∃ wa, w.alloc (.cells #[.int .i64 (x 0), .int .i64 (x 1), .int .i64 (x 2), .int .i64 (x 3), .int .i64 (x 4), .int .i64 (x 5), .int .i64 (x 6), .int .i64 (x 7), .int .i64 (x 8), .int .i64 (x 9), .int .i64 (x 10), .int .i64 (x 11), .int .i64 (x 12), .int .i64 (x 13), .int .i64 (x 14)] 24) = wa := ⟨_, rfl⟩
  have HA : Hid (Below w.heap.size w wa) := by rw [← hwa]; exact (Below.refl _ _).alloc (Nat.le_refl _) _
  have hra : wa.heap[P]? = some (.cells (inC x) 24 (0, 0)) := by rw [← hwa, ← hP]; exact heap_alloc_new _ _
  have HX : Hid (∀ wx, Below wa.heap.size wa wx → ∀ j, j < 15 → wx.cell? ⟨P, j, none⟩ = some (.int .i64 (x j))) := fun wx hb => box15 ((hb.block _ (heap_lt hra)).trans hra)
  have q0 := HX.out wa (Below.refl _ _) 0 (by omega)
  clear hra
  go_enter Tryd.func19, Tryd.ntmps19
  go_upto_region 1 with (fail)
  (try rw [hwa])
  (try rw [hP])
  clear hwa
  go_upto_region 2 with (fail)
  obtain ⟨g1, hg1⟩ : ∃ g1, wa.heap.size = g1 := ⟨_, rfl⟩
  obtain ⟨c1, hc1⟩ : ∃ c1, 2 = c1 := ⟨_, rfl⟩
  obtain ⟨w1, hw1⟩ : ∃ w1, wa.alloc (.cells #[.int .u8 (x 0), .int .u8 0] 5) = w1 := ⟨_, rfl⟩
  have H1 : Hid (OwnB w1 g1 c1 (rpre x 2) ∧ wa.heap.size ≤ g1 ∧ Below wa.heap.size wa w1) := by
    rw [← hw1, ← hg1, ← hc1, ← rpre_two, HD0.out]
    refine ⟨bytes7 wa [x 0, 0] (by simp) (fun i => ?_), Nat.le_refl _, (Below.refl _ _).alloc (Nat.le_refl _) _⟩
    match i with
    | 0 => exact b0
    | 1 => simp [nth]
    | i + 2 => simp [nth]
  (try rw [hw1])
  (try rw [hg1])
  rw [show (Value.slice (some ⟨g1, 0, none⟩) 2 2) = Value.slice (some ⟨g1, 0, none⟩) 2 c1 by rw [← hc1]]
  clear hw1 hg1 hc1 q0 b0 HD0
  have q1 := HX.out w1 H1.out.2.2 1 (by omega)
  have b1 := HXb.out 1 (by omega)
  go_upto_region 3 with (first
    | (go_at_call 36; refine (rlow_any _ (x 1) 2 b1 (by omega)).mono ?_; rintro e w1l ⟨g1l, c1l, rfl, h1, h2, h3⟩; have H1l : Hid (OwnB w1l g1l c1l (digs (x 1) 2) ∧ Below w1.heap.size w1 w1l) := ⟨h1, h3⟩; clear h1 h2 h3)
    | (at_builtin; refine wp_app (w := w1l) rfl (.tmp 9) (.tmp 12) rfl wa.heap.size g1 2 c1 (rpre x 2) (digs (x 1) 2) (rpre_len x _) rfl (H1.out.1.on H1l.out.2) H1.out.2.1 (Nat.le_trans H1.out.2.2.size H1l.out.2.size) (some ⟨g1l, 0, none⟩) 2 c1l rfl (digs_length _ _) H1l.out.1.bytes (fun e => by cases e) (by omega) ?_; intro g2 c2 w2 h1 h2 h3; have H2 : Hid (OwnB w2 g2 c2 (rpre x 4) ∧ wa.heap.size ≤ g2 ∧ Below wa.heap.size wa w2) := ⟨(by rw [rpre_four] at h2; exact h2), h1, (H1.out.2.2.trans (H1l.out.2.mono H1.out.2.2.size)).trans (below_of h3 H1.out.2.1 (Nat.le_trans H1.out.2.2.size H1l.out.2.size))⟩; clear h1 h2 h3)
    | fail)
  clear q1 b1 H1 H1l
  have q2 := HX.out w2 H2.out.2.2 2 (by omega)
  have b2 := HXb.out 2 (by omega)
  go_upto_region 4 with (first
    | (go_at_call 36; refine (rlow_any _ (x 2) 4 b2 (by omega)).mono ?_; rintro e w2l ⟨g2l, c2l, rfl, h1, h2, h3⟩; have H2l : Hid (OwnB w2l g2l c2l (digs (x 2) 4) ∧ Below w2.heap.size w2 w2l) := ⟨h1, h3⟩; clear h1 h2 h3)
    | (at_builtin; refine wp_app (w := w2l) rfl (.tmp 14) (.tmp 17) rfl wa.heap.size g2 4 c2 (rpre x 4) (digs (x 2) 4) (rpre_len x _) rfl (H2.out.1.on H2l.out.2) H2.out.2.1 (Nat.le_trans H2.out.2.2.size H2l.out.2.size) (some ⟨g2l, 0, none⟩) 4 c2l rfl (digs_length _ _) H2l.out.1.bytes (fun e => by cases e) (by omega) ?_; intro g3 c3 w3 h1 h2 h3; have H3 : Hid (OwnB w3 g3 c3 (rpre x 8) ∧ wa.heap.size ≤ g3 ∧ Below wa.heap.size wa w3) := ⟨(by rw [rpre_eight] at h2; exact h2), h1, (H2.out.2.2.trans (H2l.out.2.mono H2.out.2.2.size)).trans (below_of h3 H2.out.2.1 (Nat.le_trans H2.out.2.2.size H2l.out.2.size))⟩; clear h1 h2 h3)
    | fail)
  clear q2 b2 H2 H2l
  go_wp2
  go_loopw [3, 4] (fun s3 s4 wr => ∃ j g cap : Nat, j ≤ 10 ∧ s4 = .int .i64 (j : Int) ∧ s3 = .slice (some ⟨g, 0, none⟩) (8 + 4 * j) cap ∧ OwnB wr g cap (rpre x (8 + 4 * j)) ∧ wa.heap.size ≤ g ∧ Below wa.heap.size wa wr) (fun _ s4 _ => 10 - (intOf s4).toNat)
  case atStart => exact ⟨0, g3, c3, by omega, rfl, rfl, H3.out⟩
  case round =>
    clear H3
    obtain ⟨j, g4, c4, hj, rfl, rfl, hH⟩ := hrel
    have H4 : Hid (OwnB wr g4 c4 (rpre x (8 + 4 * j)) ∧ wa.heap.size ≤ g4 ∧ Below wa.heap.size wa wr) := hH
    clear hH
    by_cases hlt : j < 10
    · have hlt' : (j : Int) < 10 := by omega
      have q := HX.out wr H4.out.2.2 (3 + j) (by omega)
      have bb := HXb.out (3 + j) (by omega)
      have HN : Hid (rpre x (8 + 4 * j) ++ digs (x (3 + j)) 4 = rpre x (8 + 4 * (j + 1))) := by rw [show 8 + 4 * (j + 1) = 8 + 4 * j + 4 by omega]; exact rpre_num x j (by omega)
      go_wp2_with (first
        | (go_at_call 36; refine (rlow_any _ (x (3 + j)) 4 bb (by omega)).mono ?_; rintro e w5 ⟨g5, c5, rfl, h1, h2, h3⟩; have H5 : Hid (OwnB w5 g5 c5 (digs (x (3 + j)) 4) ∧ Below wr.heap.size wr w5) := ⟨h1, h3⟩; clear h1 h2 h3)
        | (at_builtin; refine wp_app (w := w5) rfl (.tmp 23) (.tmp 28) rfl wa.heap.size g4 (8 + 4 * j) c4 (rpre x (8 + 4 * j)) (digs (x (3 + j)) 4) (rpre_len x _) rfl (H4.out.1.on H5.out.2) H4.out.2.1 (Nat.le_trans H4.out.2.2.size H5.out.2.size) (some ⟨g5, 0, none⟩) 4 c5 rfl (digs_length _ _) H5.out.1.bytes (fun e => by cases e) (by omega) ?_; intro g6 c6 w6 h1 h2 h3; have H6 : Hid (OwnB w6 g6 c6 (rpre x (8 + 4 * (j + 1))) ∧ wa.heap.size ≤ g6 ∧ Below wa.heap.size wa w6) := ⟨(by rw [HN.out] at h2; exact h2), h1, (H4.out.2.2.trans (H5.out.2.mono H4.out.2.2.size)).trans (below_of h3 H4.out.2.1 (Nat.le_trans H4.out.2.2.size H5.out.2.size))⟩; clear h1 h2 h3)
        | fail)
      exact ⟨⟨j + 1, g6, c6, by omega, rfl, by rw [show 8 + 4 * (j + 1) = 8 + 4 * j + 4 by omega], H6.out⟩, by simp [intOf]; omega⟩
    · have hj0 : j = 10 := by omega
      subst hj0
      have q13 := HX.out wr H4.out.2.2 13 (by omega)
      have b13 := HXb.out 13 (by omega)
      go_upto_region 9 with (first
        | (go_at_call 36; refine (rlow_any _ (x 13) 4 b13 (by omega)).mono ?_; rintro e wrl ⟨g4l, c4l, rfl, h1, h2, h3⟩; have H4l : Hid (OwnB wrl g4l c4l (digs (x 13) 4) ∧ Below wr.heap.size wr wrl) := ⟨h1, h3⟩; clear h1 h2 h3)
        | (at_builtin; refine wp_app (w := wrl) rfl (.tmp 30) (.tmp 33) rfl wa.heap.size g4 48 c4 (rpre x 48) (digs (x 13) 4) (rpre_len x _) rfl (H4.out.1.on H4l.out.2) H4.out.2.1 (Nat.le_trans H4.out.2.2.size H4l.out.2.size) (some ⟨g4l, 0, none⟩) 4 c4l rfl (digs_length _ _) H4l.out.1.bytes (fun e => by cases e) (by omega) ?_; intro g5 c5 w5 h1 h2 h3; have H5 : Hid (OwnB w5 g5 c5 (rpre x 52) ∧ wa.heap.size ≤ g5 ∧ Below wa.heap.size wa w5) := ⟨(by rw [rpre_num x 10 (by omega)] at h2; exact h2), h1, (H4.out.2.2.trans (H4l.out.2.mono H4.out.2.2.size)).trans (below_of h3 H4.out.2.1 (Nat.le_trans H4.out.2.2.size H4l.out.2.size))⟩; clear h1 h2 h3)
        | fail)
      clear q13 b13 H4 H4l
      have q14 := HX.out w5 H5.out.2.2 14 (by omega)
      have b14 := HXb.out 14 (by omega)
      go_upto_region 10 with (first
        | (go_at_call 36; refine (rlow_any _ (x 14) 4 b14 (by omega)).mono ?_; rintro e w5l ⟨g5l, c5l, rfl, h1, h2, h3⟩; have H5l : Hid (OwnB w5l g5l c5l (digs (x 14) 4) ∧ Below w5.heap.size w5 w5l) := ⟨h1, h3⟩; clear h1 h2 h3)
        | (at_builtin; refine wp_app (w := w5l) rfl (.tmp 35) (.tmp 38) rfl wa.heap.size g5 52 c5 (rpre x 52) (digs (x 14) 4) (rpre_len x _) rfl (H5.out.1.on H5l.out.2) H5.out.2.1 (Nat.le_trans H5.out.2.2.size H5l.out.2.size) (some ⟨g5l, 0, none⟩) 4 c5l rfl (digs_length _ _) H5l.out.1.bytes (fun e => by cases e) (by omega) ?_; intro g6 c6 w6 h1 h2 h3; have H6 : Hid (OwnB w6 g6 c6 (rpre x 56) ∧ wa.heap.size ≤ g6 ∧ Below wa.heap.size wa w6) := ⟨(by rw [rpre_num x 11 (by omega)] at h2; exact h2), h1, (H5.out.2.2.trans (H5l.out.2.mono H5.out.2.2.size)).trans (below_of h3 H5.out.2.1 (Nat.le_trans H5.out.2.2.size H5l.out.2.size))⟩; clear h1 h2 h3)
        | fail)
      clear q14 b14 H5 H5l
      have HZ : Hid (∀ o, Below w6.heap.size w6 (w6.alloc o)) := fun o => (Below.refl _ _).alloc (Nat.le_refl _) o
      have HZb : Hid (OwnB (w6.alloc (.cells #[.int .u8 0, .int .u8 0, .int .u8 0, .int .u8 0, .int .u8 0, .int .u8 0, .int .u8 0, .int .u8 0] 5)) w6.heap.size 8 [0, 0, 0, 0, 0, 0, 0, 0]) := bytes7 w6 [0, 0, 0, 0, 0, 0, 0, 0] (by simp) (fun i => by match i with | 0 => simp [nth] | 1 => simp [nth] | 2 => simp [nth] | 3 => simp [nth] | 4 => simp [nth] | 5 => simp [nth] | 6 => simp [nth] | 7 => simp [nth] | i + 8 => simp [nth])
      go_wp2_with (at_builtin; refine wp_app (w := w6.alloc (.cells #[.int .u8 0, .int .u8 0, .int .u8 0, .int .u8 0, .int .u8 0, .int .u8 0, .int .u8 0, .int .u8 0] 5)) rfl (.tmp 40) (.tmp 41) rfl wa.heap.size g6 56 c6 (rpre x 56) [0, 0, 0, 0, 0, 0, 0, 0] (rpre_len x _) rfl (H6.out.1.on (HZ.out _)) H6.out.2.1 (Nat.le_trans H6.out.2.2.size (HZ.out _).size) (some ⟨w6.heap.size, 0, none⟩) 8 8 rfl rfl HZb.out.bytes (fun e => by cases e) (by omega) ?_; intro g7 c7 w7 h1 h2 h3; have H7 : Hid (OwnB w7 g7 c7 (rby x) ∧ wa.heap.size ≤ g7 ∧ Below wa.heap.size wa w7) := ⟨(by rw [rpre_end] at h2; exact h2), h1, (H6.out.2.2.trans ((HZ.out _).mono H6.out.2.2.size)).trans (below_of h3 H6.out.2.1 (Nat.le_trans H6.out.2.2.size (HZ.out _).size))⟩; clear h1 h2 h3)
      go_ret
      exact ⟨g7, c7, rfl, H7.out.1, Nat.le_trans HA.out.size H7.out.2.1, HA.out.trans (H7.out.2.2.mono HA.out.size)⟩
end Go.Proofs.YtdheojhfgeabhaaDoor

namespace Go.Proofs.YtdheojhfgeabhaaDoor
open Go.RowKit Go.Maps Rec

theorem may_eq (x : Nat → Int) : rMay x = (nFit x && (if x 0 = 0 then isFr x else kFit x)) := by
  unfold rMay inUs
  by_cases c : x 0 = 0
  · rw [if_pos c, kFit_0 (by omega) (by omega) (by omega), Bool.false_and, Bool.or_false]
    cases h : isFr x
    · simp
    · have : nFit x = true := nFit_iff.2 fun i hi => by rw [isFr_iff.1 h (3 + i) (by omega)]; unfold z15; omega
      rw [this]; rfl
  · rw [if_neg c]
    have : isFr x = false := by
      cases h : isFr x
      · rfl
      · exact absurd (isFr_iff.1 h 0 (by omega)) c
    rw [this, Bool.false_or, Bool.and_comm]
set_option maxRecDepth 100000 in
set_option maxHeartbeats 4000000 in
theorem rmay_any (w : World) (x : Nat → Int) (hx : ∀ i, -9223372036854775808 ≤ x i ∧ x i ≤ 9223372036854775807) : Calls Tryd.prog 18 #[inV x] w fun e w' => e = .returned (.bool (rMay x)) ∧ Below w.heap.size w w' := by
  have HN : Hid (∀ j, j < 12 → wth (x (3 + j)) 0 4294967295 = false → rMay x = false) := fun j hj h => by
    rw [may_eq]
    have : nFit x = false := by
      cases c : nFit x
      · rfl
      · rw [wth_yes (nFit_iff.1 c j hj)] at h; cases h
    rw [this]; rfl
  have HY : Hid ((∀ j, j < 12 → wth (x (3 + j)) 0 4294967295 = true) → rMay x = (if x 0 = 0 then isFr x else kFit x)) := fun h => by
    rw [may_eq, nFit_iff.2 (fun j hj => of_decide_eq_true (h j hj))]; rfl
  have HK : Hid ((x 0 = 1 → kFit x = (wth (x 1) 0 1000 && wth (x 2) 0 8459264)) ∧ (x 0 = 2 → kFit x = (wth (x 1) 2 65535 && wth (x 2) 0 8459264 && decide (x 2 % 512 = 0))) ∧ (x 0 = 3 → kFit x = (wth (x 1) 1 1000 && wth (x 2) 1 1024)) ∧ (¬ x 0 = 1 → ¬ x 0 = 2 → ¬ x 0 = 3 → kFit x = false)) := ⟨kFit_1, kFit_2, kFit_3, kFit_0⟩
  have HX2 : Hid (∀ lo hi, wth (x 2) lo hi = true → lo ≤ x 2 ∧ x 2 ≤ hi) := fun lo hi h => of_decide_eq_true h
  have E : ∀ w, (binOp .eql 24 (.agg #[.int .i64 (x 0), .int .i64 (x 1), .int .i64 (x 2), .int .i64 (x 3), .int .i64 (x 4), .int .i64 (x 5), .int .i64 (x 6), .int .i64 (x 7), .int .i64 (x 8), .int .i64 (x 9), .int .i64 (x 10), .int .i64 (x 11), .int .i64 (x 12), .int .i64 (x 13), .int .i64 (x 14)]) (.agg #[.int .i64 0, .int .i64 0, .int .i64 0, .int .i64 0, .int .i64 0, .int .i64 0, .int .i64 0, .int .i64 0, .int .i64 0, .int .i64 0, .int .i64 0, .int .i64 0, .int .i64 0, .int .i64 0, .int .i64 0])).run Tryd.prog w = .ok (.bool (isFr x)) w := fun w => by
    rw [← smB_z]; exact eqlI w x z15
  have b2 := hx 2
  clear hx
  unfold inV
  generalize rMay x = R at *
  obtain ⟨P, hP⟩ : ∃ P, w.heap.size = P := ⟨_, rfl⟩
  obtain ⟨wa, hwa⟩ : ∃ wa, w.alloc (.cells #[.int .i64 (x 0), .int .i64 (x 1), .int .i64 (x 2), .int .i64 (x 3), .int .i64 (x 4), .int .i64 (x 5), .int .i64 (x 6), .int .i64 (x 7), .int .i64 (x 8), .int .i64 (x 9), .int .i64 (x 10), .int .i64 (x 11), .int .i64 (x 12), .int .i64 (x 13), .int .i64 (x 14)] 24) = wa := ⟨_, rfl⟩
  have HA : Hid (Below w.heap.size w wa) := by rw [← hwa]; exact (Below.refl _ _).alloc (Nat.le_refl _) _
  have hra : wa.heap[P]? = some (.cells (inC x) 24 (0, 0)) := by rw [← hwa, ← hP]; exact heap_alloc_new _ _
  have HX : Hid (∀ j, j < 15 → wa.cell? ⟨P, j, none⟩ = some (.int .i64 (x j))) := box15 hra
  clear hra
  go_enter Tryd.func18, Tryd.ntmps18
  go_upto_region 1 with (fail)
  (try rw [hwa])
  (try rw [hP])
  clear hwa
  go_wp2
  go_loopw [3] (fun s3 wr => ∃ j : Nat, j ≤ 10 ∧ s3 = .int .i64 (j : Int) ∧ wa = wr ∧ ∀ i, i < j → wth (x (3 + i)) 0 4294967295 = true) (fun s3 _ => 10 - (intOf s3).toNat)
  case atStart => exact ⟨0, by omega, rfl, rfl, fun i hi => by omega⟩
  case round =>
    obtain ⟨j, hj, rfl, rfl, hall⟩ := hrel
    have HL : Hid (∀ i, i < j → wth (x (3 + i)) 0 4294967295 = true) := hall
    clear hall
    by_cases hlt : j < 10
    · have hlt' : (j : Int) < 10 := by omega
      have q := HX.out (3 + j) (by omega)
      clear E
      cases hw : wth (x (3 + j)) 0 4294967295
      · have e := HN.out j (by omega) hw
        subst e
        go_wp2_with (go_at_call 35; refine (rwithin_any _ _ _ _).mono ?_; rintro e w' ⟨rfl, rfl⟩)
        go_ret
        exact ⟨rfl, HA.out⟩
      · go_wp2_with (go_at_call 35; refine (rwithin_any _ _ _ _).mono ?_; rintro e w' ⟨rfl, rfl⟩)
        exact ⟨⟨j + 1, by omega, rfl, by simp, fun i hi => if c : i = j then (by rw [c]; exact hw) else HL.out i (by omega)⟩, by simp [intOf]; omega⟩
    · have hj0 : j = 10 := by omega
      subst hj0
      have q0 := HX.out 0 (by omega)
      have q1 := HX.out 1 (by omega)
      have q2 := HX.out 2 (by omega)
      have q13 := HX.out 13 (by omega)
      have q14 := HX.out 14 (by omega)
      cases h13 : wth (x 13) 0 4294967295
      · have e := HN.out 10 (by omega) h13
        subst e
        clear E
        go_wp2_with (go_at_call 35; refine (rwithin_any _ _ _ _).mono ?_; rintro e w' ⟨rfl, rfl⟩)
        go_ret
        exact ⟨rfl, HA.out⟩
      · cases h14 : wth (x 14) 0 4294967295
        · have e := HN.out 11 (by omega) h14
          subst e
          clear E
          go_wp2_with (go_at_call 35; refine (rwithin_any _ _ _ _).mono ?_; rintro e w' ⟨rfl, rfl⟩)
          go_ret
          exact ⟨rfl, HA.out⟩
        · have e := HY.out (fun j hj => if c : j < 10 then HL.out j c else if c2 : j = 10 then (by rw [c2]; exact h13) else (by rw [show j = 11 by omega]; exact h14))
          clear HN HY HL
          by_cases k0 : x 0 = 0
          · rw [if_pos k0] at e
            subst e
            have r0 := HX.out 0 (by omega); have r1 := HX.out 1 (by omega); have r2 := HX.out 2 (by omega); have r3 := HX.out 3 (by omega); have r4 := HX.out 4 (by omega); have r5 := HX.out 5 (by omega); have r6 := HX.out 6 (by omega); have r7 := HX.out 7 (by omega); have r8 := HX.out 8 (by omega); have r9 := HX.out 9 (by omega); have r10 := HX.out 10 (by omega); have r11 := HX.out 11 (by omega); have r12 := HX.out 12 (by omega); have r13 := HX.out 13 (by omega); have r14 := HX.out 14 (by omega)
            clear q0 q1 q2 q13 q14
            have z0 : (x 0 == 0) = true := by rw [k0]; rfl
            clear k0
            go_wp2_with (go_at_call 35; refine (rwithin_any _ _ _ _).mono ?_; rintro e w' ⟨rfl, rfl⟩)
            go_ret
            exact ⟨rfl, HA.out⟩
          · rw [if_neg k0] at e
            clear E
            generalize kFit x = F at *
            subst e
            generalize x 0 = k at *
            by_cases k1 : k = 1
            · have e := HK.out.1 k1
              clear HK
              subst k1
              cases h1 : wth (x 1) 0 1000 <;> rw [h1] at e <;> clear HX2 <;> subst e
              all_goals
                go_wp2_with (go_at_call 35; refine (rwithin_any _ _ _ _).mono ?_; rintro e w' ⟨rfl, rfl⟩)
                go_ret
                exact ⟨rfl, HA.out⟩
            · by_cases k2 : k = 2
              · have e := HK.out.2.1 k2
                clear HK
                subst k2
                cases h1 : wth (x 1) 2 65535
                · rw [h1] at e
                  clear HX2
                  subst e
                  go_wp2_with (go_at_call 35; refine (rwithin_any _ _ _ _).mono ?_; rintro e w' ⟨rfl, rfl⟩)
                  go_ret
                  exact ⟨rfl, HA.out⟩
                · cases h2 : wth (x 2) 0 8459264
                  · rw [h1, h2] at e
                    clear HX2
                    subst e
                    go_wp2_with (go_at_call 35; refine (rwithin_any _ _ _ _).mono ?_; rintro e w' ⟨rfl, rfl⟩)
                    go_ret
                    exact ⟨rfl, HA.out⟩
                  · have b := HX2.out _ _ h2
                    rw [h1, h2] at e
                    clear HX2
                    subst e
                    go_wp2_with (go_at_call 35; refine (rwithin_any _ _ _ _).mono ?_; rintro e w' ⟨rfl, rfl⟩)
                    go_ret
                    exact ⟨rfl, HA.out⟩
              · by_cases k3 : k = 3
                · have e := HK.out.2.2.1 k3
                  clear HK
                  subst k3
                  cases h1 : wth (x 1) 1 1000 <;> rw [h1] at e <;> clear HX2 <;> subst e
                  all_goals
                    go_wp2_with (go_at_call 35; refine (rwithin_any _ _ _ _).mono ?_; rintro e w' ⟨rfl, rfl⟩)
                    go_ret
                    exact ⟨rfl, HA.out⟩
                · have e := HK.out.2.2.2 k1 k2 k3
                  subst e
                  clear HK HX2
                  go_wp2_with (go_at_call 35; refine (rwithin_any _ _ _ _).mono ?_; rintro e w' ⟨rfl, rfl⟩)
                  go_ret
                  exact ⟨rfl, HA.out⟩

end Go.Proofs.YtdheojhfgeabhaaDoor

namespace Go.Proofs.YtdheojhfgeabhaaDoor
open Go.RowKit Go.Maps Rec

set_option maxRecDepth 100000 in
set_option maxHeartbeats 4000000 in
/-- the reference's Encode -/
theorem renc_any (w : World) (x : Nat → Int) (hx : ∀ i, -9223372036854775808 ≤ x i ∧ x i ≤ 9223372036854775807) : Calls Tryd.prog 5 #[inV x] w fun e w' => Below w.heap.size w w' ∧ ((rMay x = false ∧ e = .returned (.tuple #[.slice none 0 0, .int .i64 111])) ∨ (rMay x = true ∧ ∃ g cap, e = .returned (.tuple #[.slice (some ⟨g, 0, none⟩) 64 cap, .int .i64 0]) ∧ OwnB w' g cap (rby x) ∧ w.heap.size ≤ g)) := by
  have HM : Hid (∀ wx, Calls Tryd.prog 18 #[.agg #[.int .i64 (x 0), .int .i64 (x 1), .int .i64 (x 2), .int .i64 (x 3), .int .i64 (x 4), .int .i64 (x 5), .int .i64 (x 6), .int .i64 (x 7), .int .i64 (x 8), .int .i64 (x 9), .int .i64 (x 10), .int .i64 (x 11), .int .i64 (x 12), .int .i64 (x 13), .int .i64 (x 14)]] wx fun e w' => e = .returned (.bool (rMay x)) ∧ Below wx.heap.size wx w') := fun wx => rmay_any wx x hx
  have HL : Hid (rMay x = true → ∀ wx, Calls Tryd.prog 19 #[.agg #[.int .i64 (x 0), .int .i64 (x 1), .int .i64 (x 2), .int .i64 (x 3), .int .i64 (x 4), .int .i64 (x 5), .int .i64 (x 6), .int .i64 (x 7), .int .i64 (x 8), .int .i64 (x 9), .int .i64 (x 10), .int .i64 (x 11), .int .i64 (x 12), .int .i64 (x 13), .int .i64 (x 14)]] wx fun e w' => ∃ g cap, e = .returned (.slice (some ⟨g, 0, none⟩) 64 cap) ∧ OwnB w' g cap (rby x) ∧ wx.heap.size ≤ g ∧ Below wx.heap.size wx w') := fun h wx => rlaid_any wx x h
  clear hx
  unfold inV
  obtain ⟨P, hP⟩ : ∃ P, w.heap.size = P := ⟨_, rfl⟩
  obtain ⟨wa, hwa⟩ : ∃ wa, w.alloc (.cells #[.int .i64 (x 0), .int .i64 (x 1), .int .i64 (x 2), .int .i64 (x 3), .int .i64 (x 4), .int .i64 (x 5), .int .i64 (x 6), .int .i64 (x 7), .int .i64 (x 8), .int .i64 (x 9), .int .i64 (x 10), .int .i64 (x 11), .int .i64 (x 12), .int .i64 (x 13), .int .i64 (x 14)] 24) = wa := ⟨_, rfl⟩
  have HA : Hid (Below w.heap.size w wa) := by rw [← hwa]; exact (Below.refl _ _).alloc (Nat.le_refl _) _
  have hra : wa.heap[P]? = some (.cells (inC x) 24 (0, 0)) := by rw [← hwa, ← hP]; exact heap_alloc_new _ _
  have HX : Hid (∀ wx, Below wa.heap.size wa wx → ∀ j, j < 15 → wx.cell? ⟨P, j, none⟩ = some (.int .i64 (x j))) := fun wx hb => box15 ((hb.block _ (heap_lt hra)).trans hra)
  have q0 := HX.out wa (Below.refl _ _) 0 (by omega); have q1 := HX.out wa (Below.refl _ _) 1 (by omega); have q2 := HX.out wa (Below.refl _ _) 2 (by omega); have q3 := HX.out wa (Below.refl _ _) 3 (by omega); have q4 := HX.out wa (Below.refl _ _) 4 (by omega); have q5 := HX.out wa (Below.refl _ _) 5 (by omega); have q6 := HX.out wa (Below.refl _ _) 6 (by omega); have q7 := HX.out wa (Below.refl _ _) 7 (by omega); have q8 := HX.out wa (Below.refl _ _) 8 (by omega); have q9 := HX.out wa (Below.refl _ _) 9 (by omega); have q10 := HX.out wa (Below.refl _ _) 10 (by omega); have q11 := HX.out wa (Below.refl _ _) 11 (by omega); have q12 := HX.out wa (Below.refl _ _) 12 (by omega); have q13 := HX.out wa (Below.refl _ _) 13 (by omega); have q14 := HX.out wa (Below.refl _ _) 14 (by omega)
  clear hra
  go_enter Tryd.func5, Tryd.ntmps5
  go_upto_region 1 with (fail)
  (try rw [hwa])
  (try rw [hP])
  clear hwa
  cases hm : rMay x
  · rw [hm] at HM
    go_wp2_with (go_at_call 18; refine (HM.out _).mono ?_; rintro e w1 ⟨rfl, h1⟩; have H1 : Hid (Below w.heap.size w w1) := HA.out.trans (h1.mono HA.out.size); clear h1)
    go_ret2
    exact ⟨H1.out, .inl ⟨hm, rfl⟩⟩
  · rw [hm] at HM
    have HL2 := HL.out hm
    have HL3 : Hid (∀ wx, Calls Tryd.prog 19 #[.agg #[.int .i64 (x 0), .int .i64 (x 1), .int .i64 (x 2), .int .i64 (x 3), .int .i64 (x 4), .int .i64 (x 5), .int .i64 (x 6), .int .i64 (x 7), .int .i64 (x 8), .int .i64 (x 9), .int .i64 (x 10), .int .i64 (x 11), .int .i64 (x 12), .int .i64 (x 13), .int .i64 (x 14)]] wx fun e w' => ∃ g cap, e = .returned (.slice (some ⟨g, 0, none⟩) 64 cap) ∧ OwnB w' g cap (rby x) ∧ wx.heap.size ≤ g ∧ Below wx.heap.size wx w') := HL2
    have HH : Hid (rMay x = true) := hm
    clear HL HL2 hm
    go_upto_region 4 with (go_at_call 18; refine (HM.out _).mono ?_; rintro e w1 ⟨rfl, h1⟩; have H1 : Hid (Below wa.heap.size wa w1) := h1; clear h1)
    clear q0 q1 q2 q3 q4 q5 q6 q7 q8 q9 q10 q11 q12 q13 q14
    have q0 := HX.out w1 H1.out 0 (by omega); have q1 := HX.out w1 H1.out 1 (by omega); have q2 := HX.out w1 H1.out 2 (by omega); have q3 := HX.out w1 H1.out 3 (by omega); have q4 := HX.out w1 H1.out 4 (by omega); have q5 := HX.out w1 H1.out 5 (by omega); have q6 := HX.out w1 H1.out 6 (by omega); have q7 := HX.out w1 H1.out 7 (by omega); have q8 := HX.out w1 H1.out 8 (by omega); have q9 := HX.out w1 H1.out 9 (by omega); have q10 := HX.out w1 H1.out 10 (by omega); have q11 := HX.out w1 H1.out 11 (by omega); have q12 := HX.out w1 H1.out 12 (by omega); have q13 := HX.out w1 H1.out 13 (by omega); have q14 := HX.out w1 H1.out 14 (by omega)
    go_wp2_with (go_at_call 19; refine (HL3.out _).mono ?_; rintro e w2 ⟨g, cap, rfl, h1, h2, h3⟩; have H2 : Hid (OwnB w2 g cap (rby x) ∧ w.heap.size ≤ g ∧ Below w.heap.size w w2) := ⟨h1, Nat.le_trans (Nat.le_trans HA.out.size H1.out.size) h2, (HA.out.trans (H1.out.mono HA.out.size)).trans (h3.mono (Nat.le_trans HA.out.size H1.out.size))⟩; clear h1 h2 h3)
    go_ret2
    exact ⟨H2.out.2.2, .inr ⟨HH.out, g, cap, rfl, H2.out.1, H2.out.2.1⟩⟩
end Go.Proofs.YtdheojhfgeabhaaDoor
