import Derived.Test.YtflienghgobmoaaGreatDoorKMade
import Derived.Deep.DeepCutAuto
import Derived.Deep.RegionLaw
namespace Go.Proofs.YtflienghgobmoaaGreatDoor
open Go.RowKit Rec

/-- a row of one's own is a slice -/
theorem owns_slice {w : World} {B e size n : Nat} {v : Value} {xs : List Value} (h : w.ownsRow B e size v n xs) : ∃ a c, v = .slice a n c ∧ n ≤ c ∧ (n = 0 ∨ ∃ g, a = some ⟨g, 0, none⟩) ∧ ∀ g o, a = some ⟨g, o, none⟩ → o = 0 ∧ (∀ j u, xs[j]? = some u → w.cell? ⟨g, j, none⟩ = some u) ∧ (∀ j, w.frozen? ⟨g, j, none⟩ = false) := by
  rcases h.2 with ⟨rfl, rfl⟩ | ⟨g, cap, cur, rfl, h1, hg, h2, h3, h4, h5⟩
  · exact ⟨none, 0, rfl, Nat.le_refl _, .inl rfl, fun g o hh => by cases hh⟩
  · refine ⟨_, _, rfl, h2, .inr ⟨g, rfl⟩, fun g' o hh => ?_⟩
    cases hh
    refine ⟨rfl, fun j u hj => ?_, fun j => frozen_of_row _ _ _ _ _ hg⟩
    have := h.cells (g := g) rfl j u hj
    rwa [Addr.add_lit, Nat.zero_add] at this

theorem flat2 (f : It → List Value) (l : List It) (k : Nat) (hk : k < l.length) (j : Nat) (hj : j < 2) (hf : ∀ p, (f p).length = 2 := by intro p; rfl) : (l.flatMap f)[k * 2 + j]? = (f l[k])[j]? := by
  induction l generalizing k with
  | nil => simp at hk
  | cons p l ih =>
    rw [List.flatMap_cons]
    cases k with
    | zero => rw [List.getElem?_append_left (by rw [hf]; omega)]; simp
    | succ k =>
      rw [List.getElem?_append_right (by rw [hf]; omega), hf, show (k + 1) * 2 + j - 2 = k * 2 + j by omega, ih k (by simpa using hk)]; rfl
theorem OwnB.sub {w : World} {g cap : Nat} {l : List Int} (h : OwnB w g cap l) (o n : Nat) (hn : o + n ≤ l.length) : Bytes w (some ⟨g, o, none⟩) ((l.drop o).take n) := by
  refine ⟨by have := h.len; rw [List.length_take, List.length_drop]; omega, wf_take (wf_drop h.wf o) n, .inr ⟨g, o, rfl, fun i hi => ?_⟩⟩
  rw [List.length_take] at hi
  rw [nth_take _ _ _ (by omega), nth_drop, h.cell (o + i) (by omega)]
set_option maxRecDepth 100000 in
set_option maxHeartbeats 800000 in
theorem blocks_any (w : World) (D : Dk) (h : Disk w D) : Calls Tryz.prog 114 #[.pointer (some ⟨D.d, 0, none⟩)] w fun e w' => e = .returned (.int .i64 D.nb) ∧ w = w' := by
  have C2 : w.cell? ⟨D.d, 2, none⟩ = some (.slice (some ⟨D.nw, 0, none⟩) D.nb D.capN) := h.cell 2
  have hb := h.nb1
  clear h
  go_enter Tryz.func114, Tryz.ntmps114
  go_wp2
  go_ret
  exact ⟨rfl, rfl⟩
set_option maxRecDepth 100000 in
set_option maxHeartbeats 800000 in
theorem steps_any (w : World) (D : Dk) (h : Disk w D) : Calls Tryz.prog 12 #[.pointer (some ⟨D.d, 0, none⟩)] w fun e w' => e = .returned (.tuple #[.int .i64 D.wr, .int .i64 D.fl]) ∧ Below w.heap.size w w' := by
  have C4 : w.cell? ⟨D.d, 4, none⟩ = some (.int .i64 D.wr) := h.cell 4
  have C5 : w.cell? ⟨D.d, 5, none⟩ = some (.int .i64 D.fl) := h.cell 5
  clear h
  go_enter Tryz.func12, Tryz.ntmps12
  go_wp2
  go_region
  all_goals (try go_wp2)
  all_goals go_ret2
  all_goals exact ⟨rfl, (Below.refl _ w).drew⟩
set_option maxRecDepth 100000 in
set_option maxHeartbeats 800000 in
theorem dblock_min (w : World) (d L nb capL : Nat) (C0 : w.cell? ⟨d, 0, none⟩ = some (.slice (some ⟨L, 0, none⟩) (512 * nb) capL)) (hb : nb ≤ 16384) (hr : 512 * nb ≤ capL) (i : Nat) (hi : i < nb) : Calls Tryz.prog 128 #[.pointer (some ⟨d, 0, none⟩), .int .i64 i] w fun e w' => e = .returned (.slice (some ⟨L, 512 * i, none⟩) 512 (capL - 512 * i)) ∧ w = w' := by
  go_enter Tryz.func128, Tryz.ntmps128
  go_wp2
  go_ret
  refine ⟨?_, rfl⟩
  show Ending.returned (Value.slice (some ⟨L, i * 512, none⟩) ((i + 1) * 512 - i * 512) (capL - i * 512)) = _
  rw [show (i + 1) * 512 - i * 512 = 512 by omega, Nat.mul_comm i 512]
theorem dblock_any (w : World) (D : Dk) (h : Disk w D) (i : Nat) (hi : i < D.nb) : Calls Tryz.prog 128 #[.pointer (some ⟨D.d, 0, none⟩), .int .i64 i] w fun e w' => e = .returned (.slice (some ⟨D.L, 512 * i, none⟩) 512 (D.capL - 512 * i)) ∧ w = w' :=
  dblock_min w D.d D.L D.nb D.capL (h.cell 0) h.nb1 (by have := h.las.room; rw [h.lasl] at this; exact this) i hi
/-- may it be touched? -/
def touchE (D : Dk) (i : Int) : Int := if D.down then 30 else if 0 ≤ i ∧ i < D.nb then 0 else 31
set_option maxRecDepth 100000 in
set_option maxHeartbeats 800000 in
theorem touch_any (w : World) (D : Dk) (h : Disk w D) (i : Int) : Calls Tryz.prog 142 #[.pointer (some ⟨D.d, 0, none⟩), .int .i64 i] w fun e w' => e = .returned (.int .i64 (touchE D i)) ∧ w = w' := by
  have C8 : w.cell? ⟨D.d, 8, none⟩ = some (.bool D.down) := h.cell 8
  have HD : Hid (Disk w D) := h
  clear h
  go_enter Tryz.func142, Tryz.ntmps142
  unfold touchE
  cases hd : D.down with
  | true =>
    rw [hd] at C8
    go_wp2
    go_ret
    exact ⟨rfl, rfl⟩
  | false =>
    rw [hd] at C8
    by_cases h1 : i < 0
    · go_wp2
      go_ret
      exact ⟨rfl, rfl⟩
    · by_cases h2 : i < D.nb
      · go_wp2_with (go_at_call 114; refine (blocks_any _ D HD.out).mono ?_; rintro e w' ⟨rfl, rfl⟩)
        go_ret
        exact ⟨rfl, rfl⟩
      · go_wp2_with (go_at_call 114; refine (blocks_any _ D HD.out).mono ?_; rintro e w' ⟨rfl, rfl⟩)
        go_ret
        exact ⟨rfl, rfl⟩
/-- what is read of it -/
def Dk.full (D : Dk) : List Int := lay (fun _ => true) D.f D.X D.las D.pen.length
theorem Dk.full_length (D : Dk) : D.full.length = D.las.length := lay_length _ _ _ _ _
theorem blk_length {l : List Int} {n i : Nat} (h : l.length = 512 * n) (hi : i < n) : (bck l i).length = 512 := by
  rw [bck, List.length_take, List.length_drop]; omega
theorem nth_blk {l : List Int} {n i : Nat} (_ : l.length = 512 * n) (_ : i < n) (j : Nat) (hj : j < 512) : nth (bck l i) j = nth l (512 * i + j) := by
  rw [bck, nth_take _ _ _ hj, nth_drop]
theorem penX (D : Dk) (k : Nat) (hk : k < D.pen.length) : ∃ p, D.pen[k]? = some p ∧ p ∈ D.pen ∧ D.f k = p.b ∧ D.X k = p.x ∧ (D.pen.flatMap It.cells)[k * 2]? = some (.int .i64 p.b) ∧ (D.pen.flatMap It.cells)[k * 2 + 1]? = some (.slice (some ⟨p.g, 0, none⟩) 512 p.cap) := by
  refine ⟨D.pen[k], by simp [hk], List.getElem_mem hk, by simp [Dk.f, List.getD, hk], by simp [Dk.X, List.getD, hk], ?_, ?_⟩
  · exact flat2 _ D.pen k hk 0 (by omega)
  · exact flat2 _ D.pen k hk 1 (by omega)
theorem fullBlk {w : World} {D : Dk} (h : Disk w D) (i : Nat) (hi : i < D.nb) : bck D.full i = if lst D.f i D.pen.length = 0 then bck D.las i else D.X (lst D.f i D.pen.length - 1) := by
  have hf : D.full.length = 512 * D.nb := by rw [Dk.full_length, h.lasl]
  have e1 := blk_length hf hi
  have e2 := blk_length h.lasl hi
  have hle := lst_le D.f i D.pen.length
  by_cases h0 : lst D.f i D.pen.length = 0
  · rw [if_pos h0]
    refine ext_nth (by rw [e1, e2]) fun j hj => ?_
    rw [e1] at hj
    rw [nth_blk hf hi j hj, nth_blk h.lasl hi j hj, Dk.full, nth_lay_all _ _ _ _ _ (by rw [h.lasl]; omega), show (512 * i + j) / 512 = i by omega, if_pos h0]
  · rw [if_neg h0]
    obtain ⟨p, _, hp, _, hx, _, _⟩ := penX D (lst D.f i D.pen.length - 1) (by omega)
    have e3 := (h.penb p hp).2.1
    refine ext_nth (by rw [e1, hx, e3]) fun j hj => ?_
    rw [e1] at hj
    rw [nth_blk hf hi j hj, Dk.full, nth_lay_all _ _ _ _ _ (by rw [h.lasl]; omega), show (512 * i + j) / 512 = i by omega, if_neg h0, show (512 * i + j) % 512 = j by omega]
set_option maxRecDepth 100000 in
set_option maxHeartbeats 800000 in
theorem read_no (w : World) (D : Dk) (h : Disk w D) (i : Int) (ht : touchE D i ≠ 0) : Calls Tryz.prog 104 #[.pointer (some ⟨D.d, 0, none⟩), .int .i64 i] w fun e w' => e = .returned (.tuple #[.slice none 0 0, .int .i64 (touchE D i)]) ∧ w = w' := by
  have HD : Hid (Disk w D) := h
  clear h
  have hn : (touchE D i == 0) = false := by simpa using ht
  go_enter Tryz.func104, Tryz.ntmps104
  go_wp2_with (go_at_call 142; refine (touch_any _ D HD.out i).mono ?_; rintro e w' ⟨rfl, rfl⟩)
  go_ret2
  exact ⟨rfl, rfl⟩
set_option maxRecDepth 100000 in
set_option maxHeartbeats 800000 in
theorem read_yes (w : World) (D : Dk) (h : Disk w D) (i : Nat) (hi : i < D.nb) (hd : D.down = false) : Calls Tryz.prog 104 #[.pointer (some ⟨D.d, 0, none⟩), .int .i64 i] w fun e w' => ∃ g cap, e = .returned (.tuple #[.slice (some ⟨g, 0, none⟩) 512 cap, .int .i64 0]) ∧ w.heap.size ≤ g ∧ OwnB w' g cap (bck D.full i) ∧ Below w.heap.size w w' := by
  have HD : Hid (Disk w D) := h
  have HT : Hid (touchE D i = 0) := by unfold touchE; rw [hd, if_neg (by decide), if_pos (by omega)]; exact rfl
  have C2 : w.cell? ⟨D.d, 2, none⟩ = some (.slice (some ⟨D.nw, 0, none⟩) D.nb D.capN) := h.cell 2
  have C1 : w.cell? ⟨D.d, 1, none⟩ = some D.pv := h.cell 1
  have hb := h.nb1
  have HF := fullBlk h i hi
  have hle := lst_le D.f i D.pen.length
  have hN : w.cell? ⟨D.nw, i, none⟩ = some (.int .i64 (lst D.f i D.pen.length)) := by
    have e := h.nws.cells (g := D.nw) rfl i (.int .i64 (lst D.f i D.pen.length)) (by simp [newest, hi])
    rwa [Addr.add_lit, Nat.zero_add] at e
  have hpl := h.pl
  by_cases h0 : lst D.f i D.pen.length = 0
  · rw [h0] at hN
    rw [if_pos h0] at HF
    have HL : Hid (Bytes w (some ⟨D.L, 512 * i, none⟩) (bck D.las i)) := h.las.sub (512 * i) 512 (by rw [h.lasl]; omega)
    have HN : Hid ((bck D.las i).length = 512) := blk_length h.lasl hi
    have HF' : Hid (bck D.full i = bck D.las i) := HF
    clear h HF h0 hle
    go_enter Tryz.func104, Tryz.ntmps104
    go_wp2_with (first
      | (go_at_call 142; refine (touch_any _ D HD.out i).mono ?_; rintro e w' ⟨rfl, rfl⟩; rw [HT.out])
      | (go_at_call 128; refine (dblock_any _ D HD.out i hi).mono ?_; rintro e w' ⟨rfl, rfl⟩)
      | (go_at_call 19; refine (bclone_any _ _ _ _ _ HL.out HN.out (by omega)).mono ?_; rintro e w1 ⟨g, cap, rfl, hg, ho, hb⟩; have HG : Hid (w.heap.size ≤ g ∧ OwnB w1 g cap (bck D.las i) ∧ Below w.heap.size w w1) := ⟨hg, ho, hb⟩; clear hg ho hb))
    go_ret2
    rw [HF'.out]
    exact ⟨_, _, rfl, HG.out⟩
  · obtain ⟨p, _, hp, _, hx, c1, c2⟩ := penX D (lst D.f i D.pen.length - 1) (by omega)
    obtain ⟨a, c, hv, hc, hg, hcc⟩ := owns_slice h.pen
    obtain ⟨g, rfl⟩ := hg.resolve_left (by omega)
    have c2' := (hcc g 0 rfl).2.1 _ _ c2
    rw [hv] at C1
    rw [if_neg h0, hx] at HF
    have HF' : Hid (bck D.full i = p.x) := HF
    have HL : Hid (Bytes w (some ⟨p.g, 0, none⟩) p.x) := (h.penb p hp).2.2.1.bytes
    have HN : Hid (p.x.length = 512) := (h.penb p hp).2.1
    clear h HF hcc c1 c2 hx hp
    generalize lst D.f i D.pen.length = k at *
    obtain ⟨m, rfl⟩ : ∃ m, k = m + 1 := ⟨k - 1, by omega⟩
    simp only [Nat.add_sub_cancel] at c2'
    go_enter Tryz.func104, Tryz.ntmps104
    go_wp2_with (first
      | (go_at_call 142; refine (touch_any _ D HD.out i).mono ?_; rintro e w' ⟨rfl, rfl⟩; rw [HT.out])
      | (go_at_call 19; refine (bclone_any _ _ _ _ _ HL.out HN.out (by omega)).mono ?_; rintro e w1 ⟨g, cap, rfl, hg, ho, hb⟩; have HG : Hid (w.heap.size ≤ g ∧ OwnB w1 g cap p.x ∧ Below w.heap.size w w1) := ⟨hg, ho, hb⟩; clear hg ho hb))
    go_ret2
    rw [HF'.out]
    exact ⟨_, _, rfl, HG.out⟩
end Go.Proofs.YtflienghgobmoaaGreatDoor

namespace Go.Proofs.YtflienghgobmoaaGreatDoor
open Go.RowKit Rec

theorem sizeU8 : (Tryz.prog.info? 5).map (·.size) = some 1 := by kernel_rfl
theorem copyB_run {w : World} {g cap off dLen dCap : Nat} {l : List Int} (ty : TypeId) (ad : Addr) (sLen sCap : Nat) (m : List Int) (hO : OwnB w g cap l) (hb : Bytes w (some ad) m) (hm : m.length = sLen) (hle : sLen ≤ dLen) (hfit : off + sLen ≤ l.length) :
    ∃ w', (Builtin.copy_ #[22, 22] ty #[.slice (some ⟨g, off, none⟩) dLen dCap, .slice (some ad) sLen sCap]).run Tryz.prog w = .ok (.int .i64 sLen) w' ∧ OwnB w' g cap (ov l off sLen (nth m)) ∧ Fr (fun k => k = g) w w' := by
  obtain ⟨cur, h1, h2, h3⟩ := hO.row
  have hr := hO.room
  have hlen : (m.map (Value.int .u8)).length = Nat.min sLen dLen := by
    rw [List.length_map, hm]; exact (Nat.min_eq_left hle).symm
  have hrun := run_copy_row (P := Tryz.prog) w 22 22 ty 5 g off dLen dCap ad sLen sCap cur 5 (m.map (Value.int .u8)) Tryz.underlying22 sizeU8 h1 hlen hb.news (by rw [List.length_map, hm]; omega) (cells_u8 m)
  refine ⟨_, by rw [hrun, List.length_map, hm]; rfl, ⟨⟨_, setRow_heap w g _ _ _ _ h1, ?_, ?_⟩, by rw [ov_length]; exact hO.len, by rw [ov_length]; exact hr, hO.top, fun i => wf_ov _ _ _ _ hO.wf (fun j _ => hb.wf j) i⟩, ⟨rfl, rfl, rfl, by simp [World.setRow], fun k _ hk => setRow_other w g k _ hk⟩⟩
  · rw [← Array.length_toList] at h2
    simp only [List.size_toArray, List.length_append, List.length_take, List.length_drop, List.length_map]; omega
  · rw [← Array.length_toList] at h2
    have hcut : cur.toList = l.map (Value.int .u8) ++ cur.toList.drop l.length := by rw [← h3, List.take_append_drop]
    rw [ov_length]
    show List.take l.length (cur.toList.take off ++ m.map (Value.int .u8) ++ cur.toList.drop (off + sLen)) = _
    apply List.ext_getElem?
    intro i
    by_cases hi : i < l.length
    · rw [List.getElem?_take_of_lt hi, nth_cellL _ _ (by rw [ov_length]; exact hi), nth_ov _ _ _ _ _ hi]
      have hci : cur.toList[i]? = some (.int .u8 (nth l i)) := by
        rw [← nth_cellL l i hi, ← h3, List.getElem?_take_of_lt hi]
      by_cases h4 : i < off
      · rw [if_neg (by omega), List.append_assoc, List.getElem?_append_left (by rw [List.length_take]; omega), List.getElem?_take_of_lt h4]; exact hci
      · by_cases h5 : i < off + sLen
        · rw [if_pos (by omega), List.getElem?_append_left (by rw [List.length_append, List.length_take, List.length_map]; omega), List.getElem?_append_right (by rw [List.length_take]; omega), List.length_take, show i - min off cur.toList.length = i - off by omega, nth_cellL _ _ (by omega)]
        · rw [if_neg (by omega), List.getElem?_append_right (by rw [List.length_append, List.length_take, List.length_map]; omega), List.getElem?_drop, List.length_append, List.length_take, List.length_map, show off + sLen + (i - (min off cur.toList.length + m.length)) = i by omega]; exact hci
    · rw [List.getElem?_eq_none (by rw [List.length_take]; omega), List.getElem?_eq_none (by rw [List.length_map, ov_length]; omega)]
/-- is it among what is kept? -/
def kpOf (keep : List Bool) (k : Nat) : Bool := keep.getD k false
set_option maxRecDepth 100000 in
set_option maxHeartbeats 800000 in
theorem all_any (w : World) (k : Int) : Calls Tryz.prog 187 #[.int .i64 k] w fun e w' => e = .returned (.bool true) ∧ w = w' := by
  go_enter Tryz.func187, Tryz.ntmps187
  go_wp2
  go_ret
  exact ⟨rfl, rfl⟩
set_option maxRecDepth 100000 in
set_option maxHeartbeats 800000 in
theorem keep_any (w : World) (c : Nat) (v : Value) (keep : List Bool) (k : Nat) (hc : w.cell? ⟨c, 0, none⟩ = some v) (hv : Bools w v keep) (hl : keep.length ≤ 9223372036854775807) : Calls Tryz.prog 87 #[.int .i64 k, .pointer (some ⟨c, 0, none⟩)] w fun e w' => e = .returned (.bool (kpOf keep k)) ∧ w = w' := by
  obtain ⟨a, cp, rfl, hb⟩ := hv
  unfold kpOf
  by_cases h : k < keep.length
  · rcases hb with rfl | ⟨b, off, rfl, hbc⟩
    · simp at h
    · have e : keep.getD k false = keep[k] := by simp [List.getD, h]
      have d := hbc k keep[k] (by simp [h])
      rw [e]
      generalize keep[k] = x at *
      clear hbc e
      go_enter Tryz.func87, Tryz.ntmps87
      go_wp2
      go_ret
      exact ⟨rfl, rfl⟩
  · have e : keep.getD k false = false := by simp [List.getD, Nat.le_of_not_lt h]
    rw [e]
    clear hb e
    go_enter Tryz.func87, Tryz.ntmps87
    go_wp2
    go_ret
    exact ⟨rfl, rfl⟩
/-- copy, as a step of a region that draws -/
theorem step_copyB {ops : Array Oper} {o : Oper} {a : Act} {w : World} {K : Act → World → Prop} {Q : Exit → Act → World → Prop} {E : Prop} (hgd : o.guard = none) (d s : Operand)
    (ho : o.op = .call { callee := .builtin .copy, args := #[d, s], argTypes := #[22, 22] }) (g cap off dLen dCap : Nat) (l : List Int) (ad : Addr) (sLen sCap : Nat) (m : List Int)
    (hd : a.eval d = .slice (some ⟨g, off, none⟩) dLen dCap) (hs : a.eval s = .slice (some ad) sLen sCap) (hO : OwnB w g cap l) (hb : Bytes w (some ad) m) (hm : m.length = sLen) (hle : sLen ≤ dLen) (hfit : off + sLen ≤ l.length)
    (h : ∀ w', OwnB w' g cap (ov l off sLen (nth m)) → Fr (fun k => k = g) w w' → K (a.put o.dst (.int .i64 sLen)) w') :
    if Region.wanted o (yielded ops a.tmps) = true then Oper.wp Tryz.prog o a w K Q else E := by
  have hw : Region.wanted o (yielded ops a.tmps) = true := by simp [Region.wanted, hgd]
  rw [if_pos hw]
  obtain ⟨w', hrun, h1, h2⟩ := copyB_run (dCap := dCap) o.type ad sLen sCap m hO hb hm hle hfit
  unfold Oper.wp
  simp only [execOp, ho, resolve, invoke, builtin, Sem.run_bind, Sem.run_pure, Result.andThen_ok, List.map_toArray, List.map_cons, List.map_nil, hd, hs, hrun]
  exact h w' h1 h2
end Go.Proofs.YtflienghgobmoaaGreatDoor

namespace Go.Proofs.YtflienghgobmoaaGreatDoor
open Go.RowKit Rec

/-- a row, empty again -/
def pv0 : Value → Value
  | .slice a _ c => .slice a 0 c
  | v => v
theorem pv0_block (v : Value) : (pv0 v).ownBlock = v.ownBlock := by
  cases v <;> first | rfl | (rename_i a _ _; cases a <;> rfl)
/-- the disk behind a settling -/
def Dk.settled (D : Dk) (kp : Nat → Bool) : Dk := { D with las := lay kp D.f D.X D.las D.pen.length, pv := pv0 D.pv, pen := [] }
/-- within the settling -/
structure Mid (w wr : World) (D : Dk) (kp : Nat → Bool) (j k : Nat) : Prop where
  las : OwnB wr D.L D.capL (lay kp D.f D.X D.las j)
  nws : wr.ownsRow 0 3 1 (.slice (some ⟨D.nw, 0, none⟩) D.nb D.capN) D.nb ((nz D.f (newest D.f D.nb D.pen.length) k).map (Value.int .i64))
  fr : Fr (fun j => j = D.L ∨ j = D.nw) w wr
theorem Mid.start {w : World} {D : Dk} (h : Disk w D) (kp : Nat → Bool) : Mid w w D kp 0 0 := ⟨h.las, h.nws, Fr.refl _ _⟩
theorem Mid.has {w wr : World} {D : Dk} {kp : Nat → Bool} {j k : Nat} (m : Mid w wr D kp j k) : Fr D.has w wr := m.fr.mono (fun _ hj => hj.elim (fun e => .inr (.inl e)) (fun e => .inr (.inr (.inl e))))
theorem Mid.row {w wr : World} {D : Dk} {kp : Nat → Bool} {j k : Nat} (m : Mid w wr D kp j k) (h : Disk w D) : wr.heap[D.d]? = some (.cells D.cells 90 (0, 0)) :=
  m.fr.heap h.row (fun e => e.elim h.ap.dL h.ap.dn)
theorem Mid.pen {w wr : World} {D : Dk} {kp : Nat → Bool} {j k : Nat} (m : Mid w wr D kp j k) (h : Disk w D) : wr.ownsRow 0 180 2 D.pv D.pen.length (D.pen.flatMap It.cells) :=
  owns_fr h.pen m.fr (fun j hj e => by have := h.ap.p j hj; exact e.elim this.2.1 this.2.2.1)
theorem Mid.on {w wr wa : World} {D : Dk} {kp : Nat → Bool} {j k : Nat} (m : Mid w wr D kp j k) (x : Below wr.heap.size wr wa) : Mid w wa D kp j k :=
  ⟨m.las.on x, owns_fr m.nws (below_fr x (fun j => wr.heap.size ≤ j)) (fun j hj => by cases hj; exact Nat.not_le.2 (owns_block m.nws rfl)), m.fr.trans (below_fr x (fun j => wr.heap.size ≤ j)) (fun j hj => .inr (Nat.le_trans m.fr.size hj))⟩
theorem Mid.item {w wr : World} {D : Dk} {kp : Nat → Bool} {j k : Nat} (m : Mid w wr D kp j k) (h : Disk w D) {p : It} (hp : p ∈ D.pen) : OwnB wr p.g p.cap p.x :=
  (h.penb p hp).2.2.1.fr m.fr (fun e => (h.penb p hp).2.2.2 (e.elim (fun e => .inr (.inl e)) (fun e => .inr (.inr (.inl e)))))
theorem Mid.facts {w wr : World} {D : Dk} {kp : Nat → Bool} {j k : Nat} (m : Mid w wr D kp j k) (h : Disk w D) (b : Nat) (hb : b < D.nb) : wr.cell? ⟨D.d, 2, none⟩ = some (.slice (some ⟨D.nw, 0, none⟩) D.nb D.capN) ∧ (∃ u, wr.cell? ⟨D.nw, b, none⟩ = some (.int .i64 u)) ∧ wr.frozen? ⟨D.nw, b, none⟩ = false := by
  obtain ⟨a, c, hv, _, _, hc⟩ := owns_slice m.nws
  cases hv
  refine ⟨cell_of_row _ _ _ _ _ _ (m.row h), ⟨nth (nz D.f (newest D.f D.nb D.pen.length) k) b, (hc _ _ rfl).2.1 b _ ?_⟩, (hc _ _ rfl).2.2 b⟩
  have : b < (nz D.f (newest D.f D.nb D.pen.length) k).length := by rw [nz_length, newest_length]; exact hb
  simp [nth, List.getD, this]
theorem Mid.laid {w wa wx w3 : World} {D : Dk} {kp : Nat → Bool} {k : Nat} {p : It} (m : Mid w wa D kp k k) (hk : kp k = true) (hf : D.f k = p.b) (hX : D.X k = p.x) (hx : Below wa.heap.size wa wx) (ho : OwnB w3 D.L D.capL (ov (lay kp D.f D.X D.las k) (512 * p.b) 512 (nth p.x))) (f3 : Fr (fun k => k = D.L) wx w3) (h : Disk w D) : Mid w w3 D kp (k + 1) k := by
  have mx := m.on hx
  refine ⟨?_, owns_fr mx.nws f3 (fun j hj e => by cases hj; exact h.ap.Ln e.symm), mx.fr.trans f3 (fun j e => .inl (.inl e))⟩
  rw [lay, if_pos hk, hf, hX]; exact ho
theorem Mid.left {w wa : World} {D : Dk} {kp : Nat → Bool} {k : Nat} (m : Mid w wa D kp k k) (hk : kp k = false) : Mid w wa D kp (k + 1) k := by
  refine ⟨?_, m.nws, m.fr⟩
  rw [lay, if_neg (by rw [hk]; decide)]; exact m.las
theorem Mid.zeroed {w wa : World} {D : Dk} {kp : Nat → Bool} {j k : Nat} {b : Nat} (m : Mid w wa D kp j k) (hf : D.f k = b) (h : Disk w D) : Mid w (wa.setCell ⟨D.nw, b, none⟩ (.int .i64 0)) D kp j (k + 1) := by
  refine ⟨m.las.fr Fr.set (fun e => h.ap.Ln e), ?_, m.fr.trans Fr.set (fun j e => .inl (.inr e))⟩
  have := owns_set m.nws b (.int .i64 0)
  rw [← List.map_set, ← hf] at this
  rw [nz, ← hf]; exact this
/-- at the end -/
theorem settled_disk {w wr : World} {D : Dk} {kp : Nat → Bool} (h : Disk w D) (m : Mid w wr D kp D.pen.length D.pen.length) (w' : World) (hw' : w' = wr.setCell ⟨D.d, 1, none⟩ (pv0 D.pv)) : Disk w' (D.settled kp) ∧ Fr D.has w w' := by
  subst hw'
  have fs : Fr (fun i => i = D.d) wr (wr.setCell ⟨D.d, 1, none⟩ (pv0 D.pv)) := Fr.set
  have hfr : Fr D.has w (wr.setCell ⟨D.d, 1, none⟩ (pv0 D.pv)) := m.has.trans fs (fun k e => .inl (.inl e))
  have hsame : ∀ k, (D.settled kp).has k ↔ D.has k := fun k => by
    simp only [Dk.has, Dk.settled, pv0_block]
  refine ⟨?_, hfr⟩
  exact {
    row := by
      exact heap_setCell_same _ _ _ _ _ _ (m.row h)
    las := m.las.fr fs (fun e => h.ap.dL e.symm)
    lasl := by show (lay _ _ _ _ _).length = _; rw [lay_length]; exact h.lasl
    nb0 := h.nb0
    nb1 := h.nb1
    nws := by
      have e : newest (D.settled kp).f D.nb 0 = List.replicate D.nb 0 := newest_zero _ _
      have e2 : nz D.f (newest D.f D.nb D.pen.length) D.pen.length = List.replicate D.nb 0 := nz_newest _ _ _ (fun j hj => by
        obtain ⟨p, _, hp, hf, _⟩ := penX D j hj
        rw [hf]; exact (h.penb p hp).1)
      have := owns_fr m.nws fs (fun k hk e => by cases hk; exact h.ap.dn e.symm)
      rw [e2, ← e] at this
      exact this
    pen := by
      refine ⟨rfl, ?_⟩
      rcases h.pen.2 with ⟨hv, _⟩ | ⟨g, cap, cur, hv, h1, hg, h2, h3, h4, h5⟩
      · exact .inl ⟨by show pv0 D.pv = _; rw [hv]; rfl, rfl⟩
      · refine .inr ⟨g, cap, cur, by show pv0 D.pv = _; rw [hv]; rfl, h1, ?_, Nat.zero_le _, h3, h4, by simp [Dk.settled]⟩
        have hn := h.ap.p g (by rw [hv]; rfl)
        exact fs.heap (m.fr.heap hg (fun e => e.elim hn.2.1 hn.2.2.1)) hn.1
    penb := fun p hp => by cases hp
    tap := owns_fr (owns_fr h.tap m.fr (fun j hj e => e.elim (h.ap.t j hj).2.1 (h.ap.t j hj).2.2.1)) fs (fun j hj => (h.ap.t j hj).1)
    tapb := fun a ha => by
      rcases h.tapb a ha with ⟨h1, h2, h3, h4, g, cap, h5, h6, h7⟩ | h'
      · exact .inl ⟨h1, h2, h3, h4, g, cap, h5, h6.fr hfr h7, fun e => h7 ((hsame g).1 e)⟩
      · exact .inr h'
    kee := h.kee.fr hfr (fun _ => h.keb)
    keb := fun k hk e => h.keb k hk ((hsame k).1 e)
    kel := fun k hk => Nat.lt_of_lt_of_le (h.kel k hk) hfr.size
    ap := ⟨h.ap.dL, h.ap.dn, h.ap.Ln, (fun k hk => h.ap.p k (by rw [← pv0_block]; exact hk)), (fun k hk => by
      have := h.ap.t k hk
      exact ⟨this.1, this.2.1, this.2.2.1, by show (pv0 D.pv).ownBlock ≠ _; rw [pv0_block]; exact this.2.2.2⟩)⟩
    dn := fun _ => rfl
    pl := by show 0 ≤ _; omega
    tl := h.tl
    wrs := h.wrs
    fls := h.fls
    at1 := h.at1 }
set_option maxRecDepth 100000 in
set_option maxHeartbeats 1600000 in
theorem settle_all (w : World) (D : Dk) (h : Disk w D) :
    Calls Tryz.prog 86 #[.pointer (some ⟨D.d, 0, none⟩), .func (.func 187) #[] #[]] w fun e w' => e = .returned (.tuple #[]) ∧ Disk w' (D.settled (fun _ => true)) ∧ Fr D.has w w' := by
  obtain ⟨pa, pc, hv, hpc, hga, hcc⟩ := owns_slice h.pen
  have C1 : w.cell? ⟨D.d, 1, none⟩ = some (.slice pa D.pen.length pc) := by rw [← hv]; exact h.cell 1
  have hpl := h.pl
  have HD : Hid (Disk w D) := h
  clear h hcc
  go_enter Tryz.func86, Tryz.ntmps86
  go_wp2
  go_loopw [4, 5, 11, 12, 13, 14, 15, 16, 17, 18, 19, 20, 21, 22, 23, 24, 25, 26, 27, 28, 29, 30, 31, 32, 33, 34, 35, 36, 37, 38] (fun _ _ i _ _ _ _ _ _ _ _ _ _ _ _ _ _ _ _ _ _ _ _ _ _ _ _ _ _ _ wr => ∃ k : Nat, k ≤ D.pen.length ∧ i = .int .i64 k ∧ Mid w wr D (fun _ => true) k k) (fun _ _ i _ _ _ _ _ _ _ _ _ _ _ _ _ _ _ _ _ _ _ _ _ _ _ _ _ _ _ _ => D.pen.length - (intOf i).toNat)
  case atStart => exact ⟨0, Nat.zero_le _, rfl, Mid.start HD.out _⟩
  case round =>
    obtain ⟨k, hk, rfl, hm⟩ := hrel
    have HM : Hid (Mid w wr D (fun _ => true) k k) := hm
    have D1 : wr.cell? ⟨D.d, 1, none⟩ = some (.slice pa D.pen.length pc) := by rw [← hv]; exact cell_of_row _ _ _ _ _ _ (hm.row HD.out)
    clear hm C1
    by_cases hlt : k < D.pen.length
    · obtain ⟨p, _, hp, hfk, hxk, c1, c2⟩ := penX D k hlt
      obtain ⟨pa', pc', hv', _, _, hcc⟩ := owns_slice (HM.out.pen HD.out)
      rw [hv] at hv'
      cases hv'
      obtain ⟨g, rfl⟩ := hga.resolve_left (by omega)
      have d1 := (hcc g 0 rfl).2.1 _ _ c1
      have d2 := (hcc g 0 rfl).2.1 _ _ c2
      clear hcc c1 c2
      have HP : Hid (p ∈ D.pen ∧ D.f k = p.b ∧ D.X k = p.x) := ⟨hp, hfk, hxk⟩
      have hpb := (HD.out.penb p hp).1
      clear hp hfk hxk hga
      have HA : Hid (Below wr.heap.size wr (wr.alloc (.cells #[.int .i64 p.b, .slice (some ⟨p.g, 0, none⟩) 512 p.cap] 180))) := (Below.refl _ _).alloc (Nat.le_refl _) _
      have hrow := heap_alloc_new wr (.cells #[.int .i64 p.b, .slice (some ⟨p.g, 0, none⟩) 512 p.cap] 180)
      have HS : Hid (∀ j, (wr.alloc (.cells #[.int .i64 p.b, .slice (some ⟨p.g, 0, none⟩) 512 p.cap] 180)).cell? ⟨wr.heap.size, j, none⟩ = (#[Value.int .i64 p.b, .slice (some ⟨p.g, 0, none⟩) 512 p.cap])[j]?) := fun j => cell_of_row _ _ _ _ _ _ hrow
      clear hrow
      go_wp2_with (go_at_call 187; refine (all_any _ _).mono ?_; rintro e w' ⟨rfl, rfl⟩)
      generalize hwa : wr.alloc (.cells #[.int .i64 p.b, .slice (some ⟨p.g, 0, none⟩) 512 p.cap] 180) = wa at *
      have HMa : Hid (Mid w wa D (fun _ => true) k k) := HM.out.on HA.out
      have S0 : wa.cell? ⟨wr.heap.size, 0, none⟩ = some (.int .i64 p.b) := HS.out 0
      have S1 : wa.cell? ⟨wr.heap.size, 1, none⟩ = some (.slice (some ⟨p.g, 0, none⟩) 512 p.cap) := HS.out 1
      have HB : Hid (Below wa.heap.size wa wa.drew) := (Below.refl _ wa).drew
      have HQ : Hid (D.nb ≤ 16384 ∧ 512 * D.nb ≤ D.capL ∧ p.x.length = 512 ∧ 512 * p.b + 512 ≤ (lay (fun _ => true) D.f D.X D.las k).length) := ⟨HD.out.nb1, by have := HD.out.las.room; rw [HD.out.lasl] at this; exact this, (HD.out.penb p HP.out.1).2.1, by rw [lay_length, HD.out.lasl]; omega⟩
      have HL : Hid (¬ wr.heap.size = D.L) := by have := HD.out.las.lt; have := HM.out.fr.size; show ¬ _; omega
      have HR : Hid (wa.drew.cell? ⟨D.d, 0, none⟩ = some (.slice (some ⟨D.L, 0, none⟩) (512 * D.nb) D.capL)) := cell_of_row _ _ _ _ _ _ ((HMa.out.on HB.out).row HD.out)
      clear HS hwa D1 d1 d2 HM HA
      go_region_law (first
        | (refine step_copyB rfl (.tmp 27) (.tmp 29) rfl D.L D.capL (512 * p.b) 512 (D.capL - 512 * p.b) (lay (fun _ => true) D.f D.X D.las k) ⟨p.g, 0, none⟩ 512 p.cap p.x (by simp [Act.eval]) (by simp [Act.eval]) (HMa.out.las.on HB.out) ((HMa.out.item HD.out HP.out.1).bytes.on HB.out) HQ.out.2.2.1 (Nat.le_refl _) HQ.out.2.2.2 ?_; intro w3 ho hf; have HO : Hid (OwnB w3 D.L D.capL (ov (lay (fun _ => true) D.f D.X D.las k) (512 * p.b) 512 (nth p.x))) := ho; have HM3 : Hid (Mid w w3 D (fun _ => true) (k + 1) k) := HMa.out.laid rfl HP.out.2.1 HP.out.2.2 HB.out ho hf HD.out; have T0 : w3.cell? ⟨wr.heap.size, 0, none⟩ = some (.int .i64 p.b) := hf.cell (by rw [HB.out.cell (p := ⟨wr.heap.size, 0, none⟩) (block_lt_of_cell S0)]; exact S0) HL.out; have T1 := (HM3.out.facts HD.out p.b hpb).1; obtain ⟨u, T2⟩ := (HM3.out.facts HD.out p.b hpb).2.1; have T3 := (HM3.out.facts HD.out p.b hpb).2.2; clear ho hf)
        | (go_simp; go_at_call 128; refine (dblock_min _ D.d D.L D.nb D.capL HR.out HQ.out.1 HQ.out.2.1 p.b hpb).mono ?_; rintro e w' ⟨rfl, rfl⟩))
      all_goals
        clear S0 S1
        go_wp2
        go_region
        all_goals
          go_wp2
          refine ⟨⟨_, hlt, rfl, ?_⟩, by simp [intOf]; omega⟩
          first
            | exact (HM3.out.on ((Below.refl _ w3).drew)).zeroed HP.out.2.1 HD.out
            | exact (HM3.out.zeroed HP.out.2.1 HD.out).on ((Below.refl _ _).drew)
    · have F1 := frozen_of_row wr D.d 1 _ _ (HM.out.row HD.out)
      obtain rfl : k = D.pen.length := by omega
      go_wp2
      go_end0
      exact ⟨rfl, settled_disk HD.out HM.out _ (by rw [hv]; rfl)⟩
end Go.Proofs.YtflienghgobmoaaGreatDoor

namespace Go.Proofs.YtflienghgobmoaaGreatDoor
open Go.RowKit Rec

set_option maxRecDepth 100000 in
set_option maxHeartbeats 1600000 in
theorem settle_keep (w : World) (D : Dk) (h : Disk w D) (c : Nat) (v : Value) (keep : List Bool) (hc : w.cell? ⟨c, 0, none⟩ = some v) (hcn : ¬ D.has c) (hkv : Bools w v keep) (hkn : keep ≠ [] → ∀ k, v.ownBlock = some k → ¬ D.has k) (hkl : keep.length ≤ 9223372036854775807) :
    Calls Tryz.prog 86 #[.pointer (some ⟨D.d, 0, none⟩), .func (.func 87) #[] #[.pointer (some ⟨c, 0, none⟩)]] w fun e w' => e = .returned (.tuple #[]) ∧ Disk w' (D.settled (kpOf keep)) ∧ Fr D.has w w' := by
  obtain ⟨pa, pc, hv, hpc, hga, hcc⟩ := owns_slice h.pen
  have C1 : w.cell? ⟨D.d, 1, none⟩ = some (.slice pa D.pen.length pc) := by rw [← hv]; exact h.cell 1
  have hpl := h.pl
  have HD : Hid (Disk w D) := h
  have HK : Hid (∀ wx, Fr D.has w wx → wx.cell? ⟨c, 0, none⟩ = some v ∧ Bools wx v keep) := fun wx x => ⟨x.cell hc hcn, hkv.fr x hkn⟩
  clear h hcc hc hkv hkn
  go_enter Tryz.func86, Tryz.ntmps86
  go_wp2
  go_loopw [4, 5, 11, 12, 13, 14, 15, 16, 17, 18, 19, 20, 21, 22, 23, 24, 25, 26, 27, 28, 29, 30, 31, 32, 33, 34, 35, 36, 37, 38] (fun _ _ i _ _ _ _ _ _ _ _ _ _ _ _ _ _ _ _ _ _ _ _ _ _ _ _ _ _ _ wr => ∃ k : Nat, k ≤ D.pen.length ∧ i = .int .i64 k ∧ Mid w wr D (kpOf keep) k k) (fun _ _ i _ _ _ _ _ _ _ _ _ _ _ _ _ _ _ _ _ _ _ _ _ _ _ _ _ _ _ _ => D.pen.length - (intOf i).toNat)
  case atStart => exact ⟨0, Nat.zero_le _, rfl, Mid.start HD.out _⟩
  case round =>
    obtain ⟨k, hk, rfl, hm⟩ := hrel
    have HM : Hid (Mid w wr D (kpOf keep) k k) := hm
    have D1 : wr.cell? ⟨D.d, 1, none⟩ = some (.slice pa D.pen.length pc) := by rw [← hv]; exact cell_of_row _ _ _ _ _ _ (hm.row HD.out)
    clear hm C1
    by_cases hlt : k < D.pen.length
    · obtain ⟨p, _, hp, hfk, hxk, c1, c2⟩ := penX D k hlt
      obtain ⟨pa', pc', hv', _, _, hcc⟩ := owns_slice (HM.out.pen HD.out)
      rw [hv] at hv'
      cases hv'
      obtain ⟨g, rfl⟩ := hga.resolve_left (by omega)
      have d1 := (hcc g 0 rfl).2.1 _ _ c1
      have d2 := (hcc g 0 rfl).2.1 _ _ c2
      clear hcc c1 c2
      have HP : Hid (p ∈ D.pen ∧ D.f k = p.b ∧ D.X k = p.x) := ⟨hp, hfk, hxk⟩
      have hpb := (HD.out.penb p hp).1
      clear hp hfk hxk hga
      have HA : Hid (Below wr.heap.size wr (wr.alloc (.cells #[.int .i64 p.b, .slice (some ⟨p.g, 0, none⟩) 512 p.cap] 180))) := (Below.refl _ _).alloc (Nat.le_refl _) _
      have hrow := heap_alloc_new wr (.cells #[.int .i64 p.b, .slice (some ⟨p.g, 0, none⟩) 512 p.cap] 180)
      have HS : Hid (∀ j, (wr.alloc (.cells #[.int .i64 p.b, .slice (some ⟨p.g, 0, none⟩) 512 p.cap] 180)).cell? ⟨wr.heap.size, j, none⟩ = (#[Value.int .i64 p.b, .slice (some ⟨p.g, 0, none⟩) 512 p.cap])[j]?) := fun j => cell_of_row _ _ _ _ _ _ hrow
      clear hrow
      by_cases hkp : kpOf keep k = true
      · have HK1 : Hid (kpOf keep k = true) := hkp
        clear hkp
        go_wp2_with (go_at_call 87; refine (keep_any _ c v keep k (HK.out _ (HM.out.on HA.out).has).1 (HK.out _ (HM.out.on HA.out).has).2 hkl).mono ?_; rintro e w' ⟨rfl, rfl⟩; rw [HK1.out])
        generalize hwa : wr.alloc (.cells #[.int .i64 p.b, .slice (some ⟨p.g, 0, none⟩) 512 p.cap] 180) = wa at *
        have HMa : Hid (Mid w wa D (kpOf keep) k k) := HM.out.on HA.out
        have S0 : wa.cell? ⟨wr.heap.size, 0, none⟩ = some (.int .i64 p.b) := HS.out 0
        have S1 : wa.cell? ⟨wr.heap.size, 1, none⟩ = some (.slice (some ⟨p.g, 0, none⟩) 512 p.cap) := HS.out 1
        have HB : Hid (Below wa.heap.size wa wa.drew) := (Below.refl _ wa).drew
        have HQ : Hid (D.nb ≤ 16384 ∧ 512 * D.nb ≤ D.capL ∧ p.x.length = 512 ∧ 512 * p.b + 512 ≤ (lay (kpOf keep) D.f D.X D.las k).length) := ⟨HD.out.nb1, by have := HD.out.las.room; rw [HD.out.lasl] at this; exact this, (HD.out.penb p HP.out.1).2.1, by rw [lay_length, HD.out.lasl]; omega⟩
        have HL : Hid (¬ wr.heap.size = D.L) := by have := HD.out.las.lt; have := HM.out.fr.size; show ¬ _; omega
        have HR : Hid (wa.drew.cell? ⟨D.d, 0, none⟩ = some (.slice (some ⟨D.L, 0, none⟩) (512 * D.nb) D.capL)) := cell_of_row _ _ _ _ _ _ ((HMa.out.on HB.out).row HD.out)
        clear HS hwa D1 d1 d2 HM HA
        go_region_law (first
          | (refine step_copyB rfl (.tmp 27) (.tmp 29) rfl D.L D.capL (512 * p.b) 512 (D.capL - 512 * p.b) (lay (kpOf keep) D.f D.X D.las k) ⟨p.g, 0, none⟩ 512 p.cap p.x (by simp [Act.eval]) (by simp [Act.eval]) (HMa.out.las.on HB.out) ((HMa.out.item HD.out HP.out.1).bytes.on HB.out) HQ.out.2.2.1 (Nat.le_refl _) HQ.out.2.2.2 ?_; intro w3 ho hf; have HO : Hid (OwnB w3 D.L D.capL (ov (lay (kpOf keep) D.f D.X D.las k) (512 * p.b) 512 (nth p.x))) := ho; have HM3 : Hid (Mid w w3 D (kpOf keep) (k + 1) k) := HMa.out.laid HK1.out HP.out.2.1 HP.out.2.2 HB.out ho hf HD.out; have T0 : w3.cell? ⟨wr.heap.size, 0, none⟩ = some (.int .i64 p.b) := hf.cell (by rw [HB.out.cell (p := ⟨wr.heap.size, 0, none⟩) (block_lt_of_cell S0)]; exact S0) HL.out; have T1 := (HM3.out.facts HD.out p.b hpb).1; obtain ⟨u, T2⟩ := (HM3.out.facts HD.out p.b hpb).2.1; have T3 := (HM3.out.facts HD.out p.b hpb).2.2; clear ho hf)
          | (go_simp; go_at_call 128; refine (dblock_min _ D.d D.L D.nb D.capL HR.out HQ.out.1 HQ.out.2.1 p.b hpb).mono ?_; rintro e w' ⟨rfl, rfl⟩))
        all_goals
          clear S0 S1
          go_wp2
          go_region
          all_goals
            go_wp2
            refine ⟨⟨_, hlt, rfl, ?_⟩, by simp [intOf]; omega⟩
            first
              | exact (HM3.out.on ((Below.refl _ w3).drew)).zeroed HP.out.2.1 HD.out
              | exact (HM3.out.zeroed HP.out.2.1 HD.out).on ((Below.refl _ _).drew)
      · have HK1 : Hid (kpOf keep k = false) := Bool.eq_false_iff.2 hkp
        clear hkp
        go_wp2_with (go_at_call 87; refine (keep_any _ c v keep k (HK.out _ (HM.out.on HA.out).has).1 (HK.out _ (HM.out.on HA.out).has).2 hkl).mono ?_; rintro e w' ⟨rfl, rfl⟩; rw [HK1.out])
        generalize hwa : wr.alloc (.cells #[.int .i64 p.b, .slice (some ⟨p.g, 0, none⟩) 512 p.cap] 180) = wa at *
        have HM3 : Hid (Mid w wa D (kpOf keep) (k + 1) k) := (HM.out.on HA.out).left HK1.out
        have T0 : wa.cell? ⟨wr.heap.size, 0, none⟩ = some (.int .i64 p.b) := HS.out 0
        have T1 := (HM3.out.facts HD.out p.b hpb).1
        obtain ⟨u, T2⟩ := (HM3.out.facts HD.out p.b hpb).2.1
        have T3 := (HM3.out.facts HD.out p.b hpb).2.2
        clear HS hwa D1 d1 d2 HM HA
        go_region
        all_goals
          go_wp2
          refine ⟨⟨_, hlt, rfl, ?_⟩, by simp [intOf]; omega⟩
          first
            | exact (HM3.out.on ((Below.refl _ wa).drew)).zeroed HP.out.2.1 HD.out
            | exact (HM3.out.zeroed HP.out.2.1 HD.out).on ((Below.refl _ _).drew)
    · have F1 := frozen_of_row wr D.d 1 _ _ (HM.out.row HD.out)
      obtain rfl : k = D.pen.length := by omega
      go_wp2
      go_end0
      exact ⟨rfl, settled_disk HD.out HM.out _ (by rw [hv]; rfl)⟩
end Go.Proofs.YtflienghgobmoaaGreatDoor
