import Derived.Test.YtamlbpbhlgmcoaaGreatDoorKMay
namespace Go.Proofs.YtamlbpbhlgmcoaaGreatDoor
open Go.RowKit Rec

theorem nth_cellI (l : List Int) (k : Nat) (h : k < l.length) : ((l.map (Value.int .i64)).toArray)[k]? = some (.int .i64 (nth l k)) := by
  simp [nth, List.getD, h]
/-- numbers in a row of one's own -/
structure OwnI (w : World) (g cap : Nat) (l : List Int) : Prop where
  row : ∃ cur : Array Value, w.heap[g]? = some (.cells cur 3 (0, 0)) ∧ cur.size = cap ∧ cur.toList.take l.length = l.map (Value.int .i64)
  len : l.length ≤ 1000000000000000
  room : l.length ≤ cap
  top : cap ≤ maxLen
theorem OwnI.cell {w : World} {g cap : Nat} {l : List Int} (h : OwnI w g cap l) (i : Nat) (hi : i < l.length) : w.cell? ⟨g, i, none⟩ = some (.int .i64 (nth l i)) := by
  obtain ⟨cur, hg, _, ht⟩ := h.row
  rw [cell_of_row _ _ _ _ _ _ hg, ← nth_cellI l i hi, ← ht]
  simp [hi]
theorem OwnI.frozen {w : World} {g cap : Nat} {l : List Int} (h : OwnI w g cap l) (i : Nat) : w.frozen? ⟨g, i, none⟩ = false := by
  obtain ⟨cur, hg, _, _⟩ := h.row
  exact frozen_of_row _ _ _ _ _ hg
theorem OwnI.ints {w : World} {g cap : Nat} {l : List Int} (h : OwnI w g cap l) : Ints w (some ⟨g, 0, none⟩) l :=
  ⟨h.len, .inr ⟨g, 0, rfl, fun i hi => by rw [Nat.zero_add]; exact h.cell i hi⟩⟩
theorem OwnI.lt {w : World} {g cap : Nat} {l : List Int} (h : OwnI w g cap l) : g < w.heap.size := by
  obtain ⟨cur, hg, _, _⟩ := h.row
  exact heap_lt hg
theorem OwnI.fr {S : Nat → Prop} {w w' : World} {g cap : Nat} {l : List Int} (h : OwnI w g cap l) (x : Fr S w w') (hr : ¬ S g) : OwnI w' g cap l := by
  obtain ⟨cur, hg, h2, h3⟩ := h.row
  exact ⟨⟨cur, x.heap hg hr, h2, h3⟩, h.len, h.room, h.top⟩
theorem OwnI.on {w w' : World} {g cap : Nat} {l : List Int} (h : OwnI w g cap l) (hb : Below w.heap.size w w') : OwnI w' g cap l := h.fr (below_fr hb (fun _ => False)) (fun e => e)
theorem OwnB.fr {S : Nat → Prop} {w w' : World} {g cap : Nat} {l : List Int} (h : OwnB w g cap l) (x : Fr S w w') (hr : ¬ S g) : OwnB w' g cap l := by
  obtain ⟨cur, hg, h2, h3⟩ := h.row
  exact ⟨⟨cur, x.heap hg hr, h2, h3⟩, h.len, h.room, h.top, h.wf⟩
theorem OwnI.set {w : World} {g cap : Nat} {l : List Int} (h : OwnI w g cap l) (k : Nat) (c : Int) :
    OwnI (w.setCell ⟨g, k, none⟩ (.int .i64 c)) g cap (l.set k c) := by
  obtain ⟨cur, hg, h2, h3⟩ := h.row
  refine ⟨⟨cur.setIfInBounds k (.int .i64 c), heap_setCell_same _ _ _ _ _ _ hg, by simp [h2], ?_⟩, by simpa using h.len, by simpa using h.room, h.top⟩
  rw [List.length_set, Array.toList_setIfInBounds, List.take_set, h3, List.map_set]
theorem OwnI.of {w : World} {g n cap : Nat} {l : List Int} (h : w.ownsRow 0 3 1 (.slice (some ⟨g, 0, none⟩) n cap) n (l.map (Value.int .i64))) (hl : l.length = n) (hn : n ≤ 1000000000000000) : OwnI w g cap l := by
  subst hl
  rcases h.2 with ⟨hv, _⟩ | ⟨g', cap', cur, hv, h1, hg, h2, h3, h4, h5⟩
  · cases hv
  · cases hv
    exact ⟨⟨cur, hg, by omega, by simpa using h5⟩, hn, h2, h3⟩
/-- some of the numbers -/
def upd (h : List Int) (K j : Nat) : List Int := (List.range K).map fun i => if i < j then num h (16 + 4 * i) 4 else 0
theorem upd_length (h : List Int) (K j : Nat) : (upd h K j).length = K := by simp [upd]
theorem upd_zero (h : List Int) (K : Nat) : upd h K 0 = zn K := by
  refine ext_nth (by rw [upd_length, zn_length]) fun i hi => ?_
  rw [upd_length] at hi
  rw [upd, nth_map _ _ _ hi, if_neg (by omega), zn, nth_rep _ _ _ hi]
theorem upd_succ (h : List Int) (K j : Nat) (hj : j < K) : (upd h K j).set j (num h (16 + 4 * j) 4) = upd h K (j + 1) := by
  refine ext_nth (by rw [List.length_set, upd_length, upd_length]) fun i hi => ?_
  rw [List.length_set, upd_length] at hi
  rw [nth_set _ _ _ _ (by rw [upd_length]; exact hj), upd, upd, nth_map _ _ _ hi, nth_map _ _ _ hi]
  by_cases e : i = j
  · subst e; rw [if_pos rfl, if_pos (by omega)]
  · rw [if_neg e]
    by_cases e2 : i < j
    · rw [if_pos e2, if_pos (by omega)]
    · rw [if_neg e2, if_neg (by omega)]
theorem upd_all (h : List Int) : upd h (cnt h) (cnt h) = nsOf h := by
  refine ext_nth (by rw [upd_length]; simp [nsOf]) fun i hi => ?_
  rw [upd_length] at hi
  rw [upd, nth_map _ _ _ hi, if_pos hi, nsOf, nth_map _ _ _ hi]

set_option maxRecDepth 100000 in
set_option maxHeartbeats 1600000 in
theorem numsOf_any (w : World) (b off c K : Nat) (h : List Int) (hn : h.length = 512) (hO : Bytes w (some ⟨b, off, none⟩) h) (hc : 512 ≤ c) (hT : TabAt w) (hK : K ≤ 96) :
    Calls Tryz.prog 107 #[.slice (some ⟨b, off, none⟩) 512 c, .int .i64 K] w fun e w' => ∃ g cap, e = .returned (.slice (some ⟨g, 0, none⟩) K cap) ∧ OwnI w' g cap (upd h K K) ∧ w.heap.size ≤ g ∧ Below w.heap.size w w' := by
  have HG : Hid (∀ wx, Below w.heap.size w wx → ∀ j : Nat, j < K → Calls Tryz.prog 108 #[.slice (some ⟨b, off, none⟩) 512 c, .int .i64 ((16 + 4 * j : Nat) : Int), .int .i64 (4 : Nat)] wx fun e w' => e = .returned (.tuple #[.int .u64 (num h (16 + 4 * j) 4), .int .i64 0]) ∧ wx = w') := fun wx hx j hj => get_in wx b off 512 c (16 + 4 * j) 4 h hn (hO.on hx) hc (hT.on hx) rfl (by omega)
  have HW : Hid (∀ j : Nat, 0 ≤ num h (16 + 4 * j) 4 ∧ num h (16 + 4 * j) 4 < 4294967296) := fun j => num_bd h _ 4 hO.wf
  clear hn hO hT
  go_enter Tryz.func107, Tryz.ntmps107
  go_wp2_with (at_make; refine wp_makeI rfl _ _ rfl _ _ _ _ K rfl rfl (by omega) (by omega) (by omega) ?_; intro w1 ho hb; have HO : Hid (OwnI w1 w.heap.size K (zn K)) := OwnI.of ho (zn_length K) (by omega); have HB : Hid (Below w.heap.size w w1) := hb; clear ho hb)
  go_loopw [13] (fun i wr => ∃ j : Nat, j ≤ K ∧ i = .int .i64 j ∧ OwnI wr w.heap.size K (upd h K j) ∧ Below w.heap.size w wr) (fun i _ => K - (intOf i).toNat)
  case atStart => exact ⟨0, Nat.zero_le _, rfl, by rw [upd_zero]; exact HO.out, HB.out⟩
  case round =>
    obtain ⟨j, hj, rfl, ho, hb⟩ := hrel
    have HO2 : Hid (OwnI wr w.heap.size K (upd h K j)) := ho
    have HB2 : Hid (Below w.heap.size w wr) := hb
    clear ho hb
    by_cases hlt : j < K
    · have c1 := HO2.out.cell j (by rw [upd_length]; exact hlt)
      have f1 := HO2.out.frozen j
      have b1 := HW.out j
      obtain ⟨v, hv⟩ : ∃ v, num h (16 + 4 * j) 4 = v := ⟨_, rfl⟩
      have HV : Hid (num h (16 + 4 * j) 4 = v) := hv
      rw [hv] at b1
      clear hv
      go_wp2_with (first
        | (go_at_call 102; refine (numAt_any _ j (by omega)).mono ?_; rintro e w' ⟨rfl, rfl⟩)
        | (go_at_call 108; refine (HG.out _ HB2.out j hlt).mono ?_; rintro e w' ⟨rfl, rfl⟩; rw [HV.out]))
      go_round
      case rel =>
        refine ⟨j + 1, by omega, by go_num, ?_, HB2.out.trans (Fr.below Fr.set _ (fun k hk => by rw [hk]; exact Nat.le_refl _) HB2.out.size)⟩
        have := HO2.out.set j v
        rw [← HV.out, upd_succ h K j hlt, HV.out] at this
        exact this
      case measure => simp [intOf]; omega
    · obtain rfl : j = K := by omega
      go_wp2
      go_ret
      exact ⟨_, _, rfl, HO2.out, Nat.le_refl _, HB2.out⟩

theorem flat_succ (ds : List (List Int)) (j : Nat) (h : j < ds.length) : (ds.take (j + 1)).flatten = (ds.take j).flatten ++ row ds j := by
  rw [List.take_succ_eq_append_getElem h, List.flatten_append]
  simp [row, List.getD, h]
theorem flat_len (ds : List (List Int)) (hb : ∀ i, i < ds.length → (row ds i).length = 512) : ∀ j, j ≤ ds.length → (ds.take j).flatten.length = 512 * j
  | 0, _ => by simp
  | j + 1, h => by
    rw [flat_succ ds j h, List.length_append, flat_len ds hb j (by omega), hb j h]; omega
theorem Data.cell {w : World} {b off i : Nat} {ds : List (List Int)} (h : Data w (some ⟨b, off, none⟩) ds) (hi : i < ds.length) : ∃ a' c, w.cell? ⟨b, off + i, none⟩ = some (.slice a' (row ds i).length c) ∧ Bytes w a' (row ds i) ∧ (a' = none → c = 0) := by
  rcases h.at_ with e | ⟨b', off', e, hc⟩
  · subst e; exact absurd hi (by simp)
  · cases e; exact hc i hi
set_option maxRecDepth 100000 in
set_option maxHeartbeats 1600000 in
theorem sumOf_some (w : World) (b off c db doff k dc : Nat) (h : List Int) (ds : List (List Int)) (hn : h.length = 512) (hO : Bytes w (some ⟨b, off, none⟩) h) (hT : TabAt w) (hD : Data w (some ⟨db, doff, none⟩) ds) (hk : ds.length = k) (hk96 : k ≤ 96) (hbl : ∀ i, i < k → (row ds i).length = 512) :
    Calls Tryz.prog 103 #[.slice (some ⟨b, off, none⟩) 512 c, .slice (some ⟨db, doff, none⟩) k dc] w fun e w' => e = .returned (.int .u32 (sumV h ds)) ∧ Below w.heap.size w w' := by
  have HH : Hid (Bytes w (some ⟨b, off, none⟩) h) := hO
  have HL : Hid (h.length = 512) := hn
  have HT : Hid (∀ wx, Below w.heap.size w wx → TabAt wx) := fun wx hx => hT.on hx
  have HD : Hid (∀ wx, Below w.heap.size w wx → ∀ j, j < k → ∃ b' o' c', wx.cell? ⟨db, doff + j, none⟩ = some (.slice (some ⟨b', o', none⟩) 512 c') ∧ Bytes wx (some ⟨b', o', none⟩) (row ds j)) := fun wx hx j hj => by
    obtain ⟨a', c', h1, h2, h3⟩ := (hD.on hx).cell (i := j) (by omega)
    have hr := hbl j hj
    rw [hr] at h1
    rcases h2.at_ with e | ⟨b', o', rfl, _⟩
    · rw [e] at hr; simp at hr
    · exact ⟨b', o', c', h1, h2⟩
  have HK : Hid (ds.length = k) := hk
  have HR : Hid (∀ i, i < k → (row ds i).length = 512) := hbl
  have HFl : Hid (∀ j, j ≤ k → (ds.take j).flatten.length = 512 * j) := fun j hj => flat_len ds (fun i hi => hbl i (by omega)) j (by omega)
  clear hO hn hT hD hk hbl
  go_enter Tryz.func103, Tryz.ntmps103
  go_wp2_with (go_at_call 121; refine (clone_any _ _ _ _ h HH.out HL.out (by omega)).mono ?_; rintro e w1 ⟨g, cap, rfl, hg, ho, hb⟩; have H1 : Hid (w.heap.size ≤ g ∧ OwnB w1 g cap h ∧ Below w.heap.size w w1) := ⟨hg, ho, hb⟩; have hcp : 512 ≤ cap := (by have := ho.room; rw [HL.out] at this; exact this); clear hg ho hb)
  obtain ⟨w2, hr2, ho2, hg2⟩ := clear_run (off := 12) (B := 12) (k := 4) (c := cap - 12) 0 H1.out.2.1 (by omega) (by rw [HL.out]; omega)
  have H2 : Hid (OwnB w2 g cap (ov h 12 4 (fun _ => 0)) ∧ Below w.heap.size w w2) := ⟨ho2, H1.out.2.2.grown hg2 H1.out.2.2.size (by intro k hk; cases hk; exact H1.out.1)⟩
  rw [hr2, Result.andThen_ok, Oper.upon_value]
  clear ho2 hg2 hr2
  go_wp2
  go_loopw [5, 14] (fun s i wr => ∃ (j g' cap' : Nat), j ≤ k ∧ i = .int .i64 j ∧ s = .slice (some ⟨g', 0, none⟩) (512 + 512 * j) cap' ∧ OwnB wr g' cap' (ov h 12 4 (fun _ => 0) ++ (ds.take j).flatten) ∧ w.heap.size ≤ g' ∧ Below w.heap.size w wr) (fun _ i _ => k - (intOf i).toNat)
  case atStart => exact ⟨0, g, cap, Nat.zero_le _, rfl, rfl, by simpa using H2.out.1, H1.out.1, H2.out.2⟩
  case round =>
    obtain ⟨j, g', cap', hj, rfl, rfl, ho, hg, hb⟩ := hrel
    have H3 : Hid (OwnB wr g' cap' (ov h 12 4 (fun _ => 0) ++ (ds.take j).flatten) ∧ w.heap.size ≤ g' ∧ Below w.heap.size w wr) := ⟨ho, hg, hb⟩
    have HL3 : Hid ((ov h 12 4 (fun _ => 0) ++ (ds.take j).flatten).length = 512 + 512 * j) := by show _ = _; rw [List.length_append, ov_length, HL.out, HFl.out j hj]
    clear ho hg hb
    by_cases hlt : j < k
    · obtain ⟨b', o', c', d1, d2⟩ := HD.out _ H3.out.2.2 j hlt
      have HB : Hid (Bytes wr (some ⟨b', o', none⟩) (row ds j)) := d2
      clear d2
      go_wp2_with (at_builtin; refine wp_app rfl (.tmp 18) (.tmp 19) rfl w.heap.size g' (512 + 512 * j) cap' _ (row ds j) HL3.out rfl H3.out.1 H3.out.2.1 H3.out.2.2.size (some ⟨b', o', none⟩) 512 c' rfl (HR.out j hlt) HB.out (fun h => by cases h) (by omega) ?_; intro g4 cap4 w4 hg4 ho4 hgr; have H4 : Hid (w.heap.size ≤ g4 ∧ OwnB w4 g4 cap4 (ov h 12 4 (fun _ => 0) ++ (ds.take (j + 1)).flatten) ∧ Below w.heap.size w w4) := ⟨hg4, by rw [flat_succ ds j (by rw [HK.out]; exact hlt), ← List.append_assoc]; exact ho4, H3.out.2.2.grown hgr H3.out.2.2.size (by intro k hk; cases hk; exact H3.out.2.1)⟩; clear hg4 ho4 hgr)
      go_round
      case rel => exact ⟨j + 1, g4, cap4, by omega, by go_num, by congr 1, H4.out.2.1, H4.out.1, H4.out.2.2⟩
      case measure => simp [intOf]; omega
    · obtain rfl : j = k := by omega
      go_wp2_with (go_at_call 122; refine (of_any _ _ (512 + 512 * j) cap' _ HL3.out (HT.out _ H3.out.2.2) H3.out.1.bytes).mono ?_; rintro e w' ⟨rfl, rfl⟩)
      go_ret
      refine ⟨?_, H3.out.2.2⟩
      have e : ds.take j = ds := List.take_of_length_le (by rw [HK.out]; omega)
      rw [e]; rfl
/-- Empty -/
theorem zs_zn : zn 512 = zs := rfl
set_option maxRecDepth 100000 in
theorem empty_any (w : World) : Calls Tryz.prog 59 #[] w fun e w' => ∃ g, e = .returned (.slice (some ⟨g, 0, none⟩) 512 512) ∧ OwnB w' g 512 zs ∧ w.heap.size ≤ g ∧ Below w.heap.size w w' := by
  go_enter Tryz.func59, Tryz.ntmps59
  go_wp2_with (at_make; refine wp_makeB rfl _ _ rfl _ _ _ _ 512 rfl rfl (by omega) (by omega) (by omega) ?_; intro w1 ho hb; have HO : Hid (OwnB w1 w.heap.size 512 (zn 512)) := ho; have HB : Hid (Below w.heap.size w w1) := hb; clear ho hb)
  go_ret
  exact ⟨_, rfl, by rw [← zs_zn]; exact HO.out, Nat.le_refl _, HB.out⟩
end Go.Proofs.YtamlbpbhlgmcoaaGreatDoor

namespace Go.Proofs.YtamlbpbhlgmcoaaGreatDoor
open Go.RowKit Rec

theorem Ints.some {w : World} {a : Option Addr} {l : List Int} (h : Ints w a l) (h0 : 0 < l.length) : ∃ b off, a = some ⟨b, off, none⟩ := by
  rcases h.at_ with e | ⟨b, off, e, _⟩
  · subst e; simp at h0
  · exact ⟨b, off, e⟩
theorem Data.some {w : World} {a : Option Addr} {l : List (List Int)} (h : Data w a l) (h0 : 0 < l.length) : ∃ b off, a = some ⟨b, off, none⟩ := by
  rcases h.at_ with e | ⟨b, off, e, _⟩
  · subst e; simp at h0
  · exact ⟨b, off, e⟩
theorem Bytes.some {w : World} {a : Option Addr} {l : List Int} (h : Bytes w a l) (h0 : 0 < l.length) : ∃ b off, a = some ⟨b, off, none⟩ := by
  rcases h.at_ with e | ⟨b, off, e, _⟩
  · subst e; simp at h0
  · exact ⟨b, off, e⟩
theorem has_of {v : Int} (W : Nat) (h : v < 256 ^ W) : has v W = true := decide_eq_true (by simpa using h)

set_option maxRecDepth 100000 in
set_option maxHeartbeats 3200000 in
theorem make_ok (w : World) (nb noff k nc db doff dc : Nat) (ns : List Int) (ds : List (List Int)) (hn : ns.length = k) (hI : Ints w (some ⟨nb, noff, none⟩) ns) (hD : Data w (some ⟨db, doff, none⟩) ds) (hT : TabAt w)
    (hk1 : 1 ≤ k) (hk96 : k ≤ 96) (hm : may ns 16384 = true) (hb : blk ds k = true) :
    Calls Tryz.prog 80 #[.slice (some ⟨nb, noff, none⟩) k nc, .slice (some ⟨db, doff, none⟩) k dc] w fun e w' => ∃ g, e = .returned (.tuple #[.slice (some ⟨g, 0, none⟩) 512 512, .int .i64 0]) ∧ OwnB w' g 512 (made ns ds) ∧ w.heap.size ≤ g ∧ Below w.heap.size w w' := by
  have hb' := hb
  simp only [blk, Bool.and_eq_true, decide_eq_true_eq] at hb'
  obtain ⟨hdl, hdb⟩ := hb'
  rw [mem_row] at hdb
  have H1 : Hid (Calls Tryz.prog 98 #[.slice (some ⟨nb, noff, none⟩) k nc, .int .i64 16384] w fun e w' => e = .returned (.bool true) ∧ Below w.heap.size w w') := by
    have := mayBe_any w _ k nc ns 16384 hn hI
    rw [hm] at this
    exact this
  have H2 : Hid (∀ wx, Below w.heap.size w wx → Calls Tryz.prog 99 #[.slice (some ⟨db, doff, none⟩) k dc, .int .i64 k] wx fun e w' => e = .returned (.bool true) ∧ wx = w') := fun wx hx => by
    have := areBlocks_any wx _ k dc k ds hdl (hD.on hx)
    rw [hb] at this
    exact this
  have HT : Hid (∀ wx, Below w.heap.size w wx → TabAt wx) := fun wx hx => hT.on hx
  have HI : Hid (∀ wx, Below w.heap.size w wx → ∀ j, j < k → wx.cell? ⟨nb, noff + j, none⟩ = some (.int .i64 (nth ns j))) := fun wx hx j hj => (hI.on hx).cell (by omega)
  have HV : Hid (∀ j, j < k → 98 ≤ nth ns j ∧ nth ns j < 16384) := fun j hj => pre_bd ns _ hm j (by omega)
  have HN : Hid (ns.length = k) := hn
  have HS : Hid (∀ wx, Below w.heap.size w wx → ∀ g, OwnB wx g 512 (hd ns 0) → ∃ s : Int, (s = sumV (hd ns 0) ds ∧ 0 ≤ s ∧ s < 4294967296) ∧ Calls Tryz.prog 103 #[.slice (some ⟨g, 0, none⟩) 512 512, .slice (some ⟨db, doff, none⟩) k dc] wx fun e w' => e = .returned (.int .u32 s) ∧ Below wx.heap.size wx w') := fun wx hx g ho =>
    ⟨_, ⟨rfl, sumV_bd _ _⟩, sumOf_some wx g 0 512 db doff k dc (hd ns 0) ds (hd_length _ _) ho.bytes (hT.on hx) (hD.on hx) hdl hk96 (fun i hi => hdb i (by omega))⟩
  clear hn hI hD hT hm hb hdl hdb
  go_enter Tryz.func80, Tryz.ntmps80
  go_wp2_with (first
    | (go_at_call 97; refine (isCount_any _ _).mono ?_; rintro e w' ⟨rfl, rfl⟩; rw [decide_eq_true (show (1 : Int) ≤ (k : Int) by omega), decide_eq_true (show (k : Int) ≤ 96 by omega)])
    | (go_at_call 98; refine H1.out.mono ?_; rintro e w1 ⟨rfl, hb⟩; have HB1 : Hid (Below w.heap.size w w1) := hb; clear hb)
    | (go_at_call 99; refine (H2.out _ HB1.out).mono ?_; rintro e w' ⟨rfl, rfl⟩)
    | (go_at_call 59; refine (empty_any _).mono ?_; rintro e w2 ⟨g, rfl, ho, hg, hb⟩; have H3 : Hid (OwnB w2 g 512 zs ∧ w.heap.size ≤ g ∧ Below w.heap.size w w2) := ⟨ho, Nat.le_trans HB1.out.size hg, HB1.out.trans (hb.mono HB1.out.size)⟩; clear ho hg hb)
    | (go_at_call 100; refine (ptx_in _ g 512 512 512 0 8 magS zs H3.out.1 (by rw [zs_length]; omega) (by omega) (by omega) (by decide) (by decide)).mono ?_; rintro e w3 ⟨rfl, ho, hb⟩; have H4 : Hid (OwnB w3 g 512 (ov zs 0 8 (nth mag)) ∧ Below w.heap.size w w3) := ⟨by rw [← magS_nums]; exact ho, H3.out.2.2.trans (below_of hb H3.out.2.1 H3.out.2.2.size)⟩; clear ho hb)
    | (go_at_call 101; refine (put_in _ g 512 512 512 8 2 k _ H4.out.1 (by rw [ov_length, zs_length]; omega) (by omega) (HT.out _ H4.out.2) (by omega) rfl (has_of 2 (show (k : Int) < 65536 by omega)) (by omega)).mono ?_; rintro e w4 ⟨rfl, ho, hb⟩; have H5 : Hid (OwnB w4 g 512 (hp ns 0) ∧ Below w.heap.size w w4) := ⟨by rw [← hp_zero, HN.out]; exact ho, H4.out.2.trans (below_of hb H3.out.2.1 H4.out.2.size)⟩; clear ho hb))
  go_loopw [33] (fun i wr => ∃ j : Nat, j ≤ k ∧ i = .int .i64 j ∧ OwnB wr g 512 (hp ns j) ∧ Below w.heap.size w wr) (fun i _ => k - (intOf i).toNat)
  case atStart => exact ⟨0, Nat.zero_le _, rfl, H5.out.1, H5.out.2⟩
  case round =>
    obtain ⟨j, hj, rfl, ho, hb⟩ := hrel
    have H6 : Hid (OwnB wr g 512 (hp ns j) ∧ Below w.heap.size w wr) := ⟨ho, hb⟩
    clear ho hb
    by_cases hlt : j < k
    · have c1 := HI.out _ H6.out.2 j hlt
      have b1 := HV.out j hlt
      go_wp2_with (first
        | (go_at_call 102; refine (numAt_any _ j (by omega)).mono ?_; rintro e w' ⟨rfl, rfl⟩)
        | (go_at_call 101; refine (put_in _ g 512 512 512 (16 + 4 * j) 4 (nth ns j) _ H6.out.1 (by rw [hp_length]; omega) (by omega) (HT.out _ H6.out.2) (by omega) rfl (has_of 4 (show nth ns j < 4294967296 by omega)) (by omega)).mono ?_; rintro e w5 ⟨rfl, ho, hb⟩; have H7 : Hid (OwnB w5 g 512 (hp ns (j + 1)) ∧ Below w.heap.size w w5) := ⟨by rw [← hp_succ ns j (by rw [HN.out]; exact hlt) (by rw [HN.out]; exact hk96)]; exact ho, H6.out.2.trans (below_of hb H3.out.2.1 H6.out.2.size)⟩; clear ho hb))
      go_round
      case rel => exact ⟨j + 1, by omega, by go_num, H7.out.1, H7.out.2⟩
      case measure => simp [intOf]; omega
    · obtain rfl : j = k := by omega
      have H8 : Hid (OwnB wr g 512 (hd ns 0)) := by rw [← hp_all, HN.out]; exact H6.out.1
      obtain ⟨s, ⟨hs, s0, s1⟩, hcs⟩ := HS.out _ H6.out.2 g H8.out
      have HC : Hid (Calls Tryz.prog 103 #[.slice (some ⟨g, 0, none⟩) 512 512, .slice (some ⟨db, doff, none⟩) j dc] wr fun e w' => e = .returned (.int .u32 s) ∧ Below wr.heap.size wr w') := hcs
      have HE : Hid (s = sumV (hd ns 0) ds) := hs
      clear hs hcs
      go_wp2_with (first
        | (go_at_call 103; refine HC.out.mono ?_; rintro e w6 ⟨rfl, hb⟩; have H9 : Hid (OwnB w6 g 512 (hd ns 0) ∧ Below w.heap.size w w6) := ⟨H8.out.on hb, H6.out.2.trans (hb.mono H6.out.2.size)⟩; clear hb)
        | (go_at_call 101; refine (put_in _ g 512 512 512 12 4 s _ H9.out.1 (by rw [hd_length]; omega) (by omega) (HT.out _ H9.out.2) (by omega) rfl (has_of 4 (show s < 4294967296 by omega)) (by omega)).mono ?_; rintro e w7 ⟨rfl, ho, hb⟩; have H10 : Hid (OwnB w7 g 512 (hd ns s) ∧ Below w.heap.size w w7) := ⟨by rw [← hd_put ns 0 s]; exact ho, H9.out.2.trans (below_of hb H3.out.2.1 H9.out.2.size)⟩; clear ho hb))
      go_ret2
      exact ⟨g, rfl, by unfold made; rw [← HE.out]; exact H10.out.1, H3.out.2.1, H10.out.2⟩
set_option maxRecDepth 100000 in
set_option maxHeartbeats 1600000 in
theorem make_nums (w : World) (a da : Option Addr) (k nc m dc : Nat) (ns : List Int) (hn : ns.length = k) (hI : Ints w a ns) (h : ¬ ((1 ≤ k ∧ k ≤ 96) ∧ may ns 16384 = true)) :
    Calls Tryz.prog 80 #[.slice a k nc, .slice da m dc] w fun e w' => e = .returned (.tuple #[.slice none 0 0, .int .i64 40]) ∧ Below w.heap.size w w' := by
  have H1 : Hid (Calls Tryz.prog 98 #[.slice a k nc, .int .i64 16384] w fun e w' => e = .returned (.bool (may ns 16384)) ∧ Below w.heap.size w w') := mayBe_any w _ k nc ns 16384 hn hI
  by_cases hc : 1 ≤ k ∧ k ≤ 96
  · have hm : may ns 16384 = false := by
      cases e : may ns 16384
      · rfl
      · exact absurd ⟨hc, e⟩ h
    rw [hm] at H1
    clear hm h hI hn
    go_enter Tryz.func80, Tryz.ntmps80
    go_wp2_with (first
      | (go_at_call 97; refine (isCount_any _ _).mono ?_; rintro e w' ⟨rfl, rfl⟩; rw [decide_eq_true (show (1 : Int) ≤ (k : Int) by omega), decide_eq_true (show (k : Int) ≤ 96 by omega)])
      | (go_at_call 98; refine H1.out.mono ?_; rintro e w1 ⟨rfl, hb⟩; have HB1 : Hid (Below w.heap.size w w1) := hb; clear hb))
    go_ret2
    exact ⟨rfl, HB1.out⟩
  · have e : (decide ((1 : Int) ≤ (k : Int)) && decide ((k : Int) ≤ 96)) = false := by
      rw [Bool.eq_false_iff]; intro e
      simp only [Bool.and_eq_true, decide_eq_true_eq] at e
      omega
    have HE : Hid ((decide ((1 : Int) ≤ (k : Int)) && decide ((k : Int) ≤ 96)) = false) := e
    clear h hI hn hc e
    go_enter Tryz.func80, Tryz.ntmps80
    go_wp2_with (go_at_call 97; refine (isCount_any _ _).mono ?_; rintro e w' ⟨rfl, rfl⟩; rw [HE.out])
    go_ret2
    exact ⟨rfl, Below.refl _ _⟩
set_option maxRecDepth 100000 in
set_option maxHeartbeats 1600000 in
theorem make_size (w : World) (a da : Option Addr) (k nc m dc : Nat) (ns : List Int) (ds : List (List Int)) (hn : ns.length = k) (hm : ds.length = m) (hI : Ints w a ns) (hD : Data w da ds) (hc : 1 ≤ k ∧ k ≤ 96) (hy : may ns 16384 = true) (hb : blk ds k = false) :
    Calls Tryz.prog 80 #[.slice a k nc, .slice da m dc] w fun e w' => e = .returned (.tuple #[.slice none 0 0, .int .i64 32]) ∧ Below w.heap.size w w' := by
  have H1 : Hid (Calls Tryz.prog 98 #[.slice a k nc, .int .i64 16384] w fun e w' => e = .returned (.bool true) ∧ Below w.heap.size w w') := by
    have := mayBe_any w _ k nc ns 16384 hn hI
    rw [hy] at this
    exact this
  have H2 : Hid (∀ wx, Below w.heap.size w wx → Calls Tryz.prog 99 #[.slice da m dc, .int .i64 k] wx fun e w' => e = .returned (.bool false) ∧ wx = w') := fun wx hx => by
    have := areBlocks_any wx _ m dc k ds hm (hD.on hx)
    rw [hb] at this
    exact this
  clear hI hD hy hb hn hm
  go_enter Tryz.func80, Tryz.ntmps80
  go_wp2_with (first
    | (go_at_call 97; refine (isCount_any _ _).mono ?_; rintro e w' ⟨rfl, rfl⟩; rw [decide_eq_true (show (1 : Int) ≤ (k : Int) by omega), decide_eq_true (show (k : Int) ≤ 96 by omega)])
    | (go_at_call 98; refine H1.out.mono ?_; rintro e w1 ⟨rfl, hb⟩; have HB1 : Hid (Below w.heap.size w w1) := hb; clear hb)
    | (go_at_call 99; refine (H2.out _ HB1.out).mono ?_; rintro e w' ⟨rfl, rfl⟩))
  go_ret2
  exact ⟨rfl, HB1.out⟩
/-- Make: P4.1 -/
theorem make_any (w : World) (a da : Option Addr) (k nc m dc : Nat) (ns : List Int) (ds : List (List Int)) (hn : ns.length = k) (hm : ds.length = m) (hI : Ints w a ns) (hD : Data w da ds) (hT : TabAt w) :
    Calls Tryz.prog 80 #[.slice a k nc, .slice da m dc] w fun e w' => ∃ v, e = .returned (.tuple #[v, .int .i64 (makeE ns ds)]) ∧ ((makeE ns ds ≠ 0 ∧ v = .slice none 0 0) ∨ (makeE ns ds = 0 ∧ ∃ g, v = .slice (some ⟨g, 0, none⟩) 512 512 ∧ OwnB w' g 512 (made ns ds) ∧ w.heap.size ≤ g)) ∧ Below w.heap.size w w' := by
  by_cases h : (1 ≤ k ∧ k ≤ 96) ∧ may ns 16384 = true
  · cases hb : blk ds k with
    | true =>
      have e : makeE ns ds = 0 := by unfold makeE; rw [hn, if_pos h, hb]; rfl
      have hb' := hb
      simp only [blk, Bool.and_eq_true, decide_eq_true_eq] at hb'
      obtain rfl : m = k := by rw [← hm, hb'.1]
      obtain ⟨nb, noff, rfl⟩ := hI.some (by omega)
      obtain ⟨db, doff, rfl⟩ := hD.some (by omega)
      refine (make_ok w nb noff m nc db doff dc ns ds hn hI hD hT h.1.1 h.1.2 h.2 hb).mono ?_
      rintro _ w' ⟨g, rfl, h1, h2, h3⟩
      exact ⟨_, by rw [e], .inr ⟨e, g, rfl, h1, h2⟩, h3⟩
    | false =>
      have e : makeE ns ds = 32 := by unfold makeE; rw [hn, if_pos h, hb]; rfl
      refine (make_size w a da k nc m dc ns ds hn hm hI hD h.1 h.2 hb).mono ?_
      rintro _ w' ⟨rfl, h3⟩
      exact ⟨_, by rw [e], .inl ⟨by rw [e]; decide, rfl⟩, h3⟩
  · have e : makeE ns ds = 40 := by unfold makeE; rw [hn, if_neg h]
    refine (make_nums w a da k nc m dc ns hn hI h).mono ?_
    rintro _ w' ⟨rfl, h3⟩
    exact ⟨_, by rw [e], .inl ⟨by rw [e]; decide, rfl⟩, h3⟩
end Go.Proofs.YtamlbpbhlgmcoaaGreatDoor
