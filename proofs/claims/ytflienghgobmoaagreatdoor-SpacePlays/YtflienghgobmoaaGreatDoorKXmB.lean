import Derived.Test.YtflienghgobmoaaGreatDoorKXsC
import Derived.Test.YtflienghgobmoaaGreatDoorKWalC
import Derived.Test.YtflienghgobmoaaGreatDoorKWpD
import Derived.Test.YtflienghgobmoaaGreatDoorKPyM
import Derived.Deep.RegionHeld3
import Derived.Test.YtflienghgobmoaaGreatDoorKMay
import Derived.Laws.ResultCell
namespace Go.Proofs.YtflienghgobmoaaGreatDoor
open Go.RowKit Rec
theorem num_bck (F : List Int) (b A : Nat) : ∀ n, A + n ≤ 512 → num (bck F b) A n = num F (512 * b + A) n
  | 0, _ => rfl
  | n + 1, h => by
    rw [num, num, num_bck F b A n (by omega), nth_bck _ _ _ (by omega), Nat.add_assoc]
theorem zs_iff6 (h : List Int) (hn : h.length = 512) : h = zs ↔ zr h 0 512 = true := by
  unfold zr
  rw [decide_eq_true_iff]
  constructor
  · intro e i hi; rw [e, nth_zs]
  · intro e
    refine ext_nth (by rw [hn, zs_length]) fun i hi => ?_
    rw [nth_zs]
    have := e i (by omega)
    rwa [Nat.zero_add] at this
/-- the places where the document's recovery brings its blocks -/
def hm6 (F : List Int) (k : Nat) : List (Nat × List Int) := (List.range k).map fun i => ((num F (528 + 4 * i) 4).toNat, bck F (2 + i))
set_option maxRecDepth 100000 in
/-- a log that is empty or good, in the document's words -/
theorem log6 {F : List Int} {nb : Nat} (hl : F.length = 512 * nb) (hn : 98 ≤ nb) (ok : logE F nb = 0) (hw : ∀ i, 0 ≤ nth F i ∧ nth F i < 256) :
    (nth F 512 = 0 ∧ behind F nb = F) ∨ (nth F 512 ≠ 0 ∧ num F 520 2 = ((logN F nb).length : Nat) ∧ (logN F nb).length ≤ 96 ∧ (∀ i, i < (logN F nb).length → num F (528 + 4 * i) 4 = nth (logN F nb) i ∧ 98 ≤ nth (logN F nb) i ∧ nth (logN F nb) i < nb) ∧ hm6 F (logN F nb).length = logH F nb) := by
  have hbl : (bck F 1).length = 512 := bck_length _ _ nb hl (by omega)
  have e0 : nth (bck F 1) 0 = nth F 512 := nth_bck F 1 0 (by omega)
  have hbw : ∀ i, 0 ≤ nth (bck F 1) i ∧ nth (bck F 1) i < 256 := fun i => by
    by_cases hi : i < 512
    · rw [nth_bck _ _ _ hi]; exact hw _
    · unfold nth; rw [List.getD_eq_getElem?_getD, List.getElem?_eq_none (by omega)]; exact ⟨Int.le_refl _, by decide⟩
  by_cases hz : zr (bck F 1) 0 512 = true
  · refine .inl ?_
    have hzs : bck F 1 = zs := (zs_iff6 _ hbl).2 hz
    exact ⟨by rw [← e0, hzs, nth_zs], behind_empty hl hn hzs⟩
  · refine .inr ?_
    have hz' : zr (bck F 1) 0 512 = false := by cases h : zr (bck F 1) 0 512 with | true => exact absurd h hz | false => rfl
    have hE : numsE (bck F 1) nb = 0 := by
      unfold logE at ok
      rw [if_neg (by omega)] at ok
      by_cases h : numsE (bck F 1) nb = 0
      · exact h
      · rw [if_neg h] at ok; exact absurd ok h
    have hH : isH (bck F 1) nb = true := by
      unfold numsE at hE
      rw [if_pos hbl, hz', if_neg (by decide)] at hE
      by_cases h : isH (bck F 1) nb = true
      · exact h
      · rw [if_neg h] at hE; exact absurd hE (by decide)
    have hN : logN F nb = nsOf (bck F 1) := by
      unfold logN numsL
      rw [if_pos ⟨hbl, hz', hH⟩]
    unfold isH form at hH
    simp only [Bool.and_eq_true, decide_eq_true_eq, beq_iff_eq] at hH
    obtain ⟨⟨⟨⟨h8, _, _⟩, h1, h96⟩, hmay⟩, _⟩ := hH
    have hlen : (logN F nb).length = cnt (bck F 1) := by rw [hN]; simp [nsOf]
    have hnum : num (bck F 1) 8 2 = num F 520 2 := num_bck F 1 8 2 (by omega)
    have h66 : nth (bck F 1) 0 = 66 := by
      have := (take8 _ hbl).1 h8 0 (by omega)
      rw [this]; rfl
    have hnn : 0 ≤ num (bck F 1) 8 2 := by
      have a0 := hbw 8; have a1 := hbw 9
      show 0 ≤ 0 + nth (bck F 1) (8 + 0) * 256 ^ 0 + nth (bck F 1) (8 + 1) * 256 ^ 1
      simp; omega
    have hat : ∀ i, i < (logN F nb).length → num F (528 + 4 * i) 4 = nth (logN F nb) i ∧ 98 ≤ nth (logN F nb) i ∧ nth (logN F nb) i < nb := fun i hi => by
      have hi' : i < cnt (bck F 1) := by omega
      have b := pre_bd _ _ hmay i (by rw [← hN]; exact hi)
      rw [hN]
      refine ⟨?_, b.1, b.2⟩
      unfold nsOf
      rw [nth_map _ _ _ hi', num_bck F 1 (16 + 4 * i) 4 (by omega)]
      congr 1
      omega
    refine ⟨by rw [← e0, h66]; decide, by rw [hlen]; unfold cnt; rw [← hnum]; omega, by omega, hat, ?_⟩
    unfold hm6 logH homes logD
    apply List.ext_getElem
    · simp
    · intro i hi1 hi2
      simp only [List.length_map, List.length_range] at hi1
      simp only [List.getElem_map, List.getElem_range, List.getElem_zipWith]
      rw [(hat i hi1).1]
      unfold nth
      rw [List.getD_eq_getElem?_getD, List.getElem?_eq_getElem hi1]
      rfl
end Go.Proofs.YtflienghgobmoaaGreatDoor

namespace Go.Proofs.YtflienghgobmoaaGreatDoor
open Go.RowKit Rec
/-- blocks that may be in a header -/
def BgOk (q : BG) : Prop := 0 ≤ q.n ∧ q.n < 4294967296 ∧ q.x.length = 512
/-- the state behind the loops -/
structure HdA (w0 wr : World) (fv bv dv av : Value) (F B D A : List Int) : Prop where
  t : HdT w0 wr fv bv dv F B D
  a : BL w0 wr av A
  af : ApV av fv
  ab : ApV av bv
  ad : ApV av dv
theorem HdA.zero {w0 wr : World} {fv bv dv : Value} {F B D : List Int} (h : HdT w0 wr fv bv dv F B D) : HdA w0 wr fv bv dv (.slice none 0 0) F B D [] := ⟨h, BL.zero h.f.o.bel, (fun k e => by cases e), (fun k e => by cases e), (fun k e => by cases e)⟩
theorem HdA.on {w0 wr w' : World} {fv bv dv av : Value} {F B D A : List Int} (h : HdA w0 wr fv bv dv av F B D A) (hb : Below wr.heap.size wr w') : HdA w0 w' fv bv dv av F B D A := ⟨h.t.on hb, h.a.on hb, h.af, h.ab, h.ad⟩
theorem HdA.grow {w0 wr wa w' : World} {fv bv dv av : Value} {F B D A y : List Int} {k m g cap : Nat} (h : HdA w0 wr fv bv dv av F B D A) (hk : A.length = k) (hm : y.length = m) (hy : ∀ i, 0 ≤ nth y i ∧ nth y i < 256) (hs : k + m ≤ 1000000000) (ha : Below wr.heap.size wr wa) (h1 : w'.ownsRow 0 5 1 (.slice (some ⟨g, 0, none⟩) (k + m) cap) (k + m) ((A ++ y).map (Value.int .u8))) (h2 : Fr (fun k => av.ownBlock = some k) wa w') (h3 : av.ownBlock = some g ∨ wa.heap.size ≤ g) :
    HdA w0 w' fv bv dv (.slice (some ⟨g, 0, none⟩) (k + m) cap) F B D (A ++ y) := by
  have hf : BL w0 w' fv F := h.t.f.oth h.af ha h2 h.a.o.far
  have hb : BL w0 w' bv B := h.t.b.oth h.ab ha h2 h.a.o.far
  have hd : BL w0 w' dv D := h.t.d.oth h.ad ha h2 h.a.o.far
  exact ⟨⟨hf, hb, hd, h.t.fb, h.t.fd, h.t.bd⟩, h.a.grow hk hm hy hs ha h1 h2 h3, (ap_grow h.af.symm h.t.f.lt ha.size h3).symm, (ap_grow h.ab.symm h.t.b.lt ha.size h3).symm, (ap_grow h.ad.symm h.t.d.lt ha.size h3).symm⟩
def flatG (L : List BG) (j : Nat) : List Int := (dsG (L.take j)).flatten
theorem flatG_succ {L : List BG} {j : Nat} {q : BG} (h : L[j]? = some q) : flatG L (j + 1) = flatG L j ++ q.x := by
  unfold flatG dsG
  rw [take_bg h, List.map_append, List.flatten_append]
  simp
theorem flatG_len {L : List BG} (hL : ∀ q ∈ L, BgOk q) (j : Nat) (hj : j ≤ L.length) : (flatG L j).length = 512 * j := by
  induction j with
  | zero => simp [flatG, dsG]
  | succ j ih =>
    obtain ⟨q, hq⟩ : ∃ q, L[j]? = some q := ⟨_, List.getElem?_eq_getElem (by omega)⟩
    rw [flatG_succ hq, List.length_append, ih (by omega), (hL q (List.mem_of_getElem? hq)).2.2]
    omega
def rep0 (k : Nat) : List Int := List.replicate k 0
theorem rep0_succ (k : Nat) : rep0 (k + 1) = rep0 k ++ [0] := by unfold rep0; rw [List.replicate_succ']
theorem rep0_len (k : Nat) : (rep0 k).length = k := by simp [rep0]
theorem zero_bd : ∀ i, 0 ≤ nth [0] i ∧ nth [0] i < 256 := fun i => by
  unfold nth
  match i with
  | 0 => decide
  | i + 1 => simp
theorem zero4_bd : ∀ i, 0 ≤ nth [0, 0, 0, 0] i ∧ nth [0, 0, 0, 0] i < 256 := fun i => by
  match i with
  | 0 => decide
  | 1 => decide
  | 2 => decide
  | 3 => decide
  | i + 4 => simp [nth]
theorem zero2_bd : ∀ i, 0 ≤ nth [0, 0] i ∧ nth [0, 0] i < 256 := fun i => by
  match i with
  | 0 => decide
  | 1 => decide
  | i + 2 => simp [nth]
/-- append of bytes to the marked row of a text's bytes -/
theorem wp_grow6 {ops : Array Oper} {rest : List Oper} {o : Oper} {act : Act} {Q : Exit → Act → World → Prop} {w : World} (hgd : o.guard = none) (s x : Operand)
    (ho : o.op = .call { callee := .builtin .append, args := #[s, x], argTypes := #[22, 22] }) (g : Nat) (ad : Addr) (m c : Nat) (y : List Int) (hs : act.eval s = .slice (some ⟨g, 0, none⟩) 8 8) (hx : act.eval x = .slice (some ad) m c) (hm : 0 < m) (hm2 : m ≤ 1000) (hl : y.length = m) (hb : Bytes w (some ad) y)
    (hc : ∀ i, i < 8 → w.cell? ⟨g, i, none⟩ = some (.int .u8 (nth mag i)))
    (h : ∀ g' cap' w', w.heap.size ≤ g' → OwnB w' g' cap' (mag ++ y) → Below w.heap.size w w' → wpList Tryz.prog ops Q rest (act.put o.dst (.slice (some ⟨g', 0, none⟩) (8 + m) cap')) w') :
    wpList Tryz.prog ops Q (o :: rest) act w := by
  obtain ⟨i0, hi, hz0, hz1, hz2⟩ := info_parts info5
  have hr := run_append_grow (P := Tryz.prog) w 22 o.type 5 i0 (.int .u8 0) Tryz.underlying22 hi hz0 ⟨g, 0, none⟩ 8 8 (mag.map (Value.int .u8)) (by rw [hz1]; rfl) (fun j v hj => by
    have hlt : j < 8 := by
      by_cases hlt : j < 8
      · exact hlt
      · rw [List.getElem?_eq_none (by rw [List.length_map, mag_len]; omega)] at hj; cases hj
    rw [nth_cellL mag j (by rw [mag_len]; exact hlt)] at hj
    cases hj
    rw [Addr.add_lit, Nat.zero_add]
    exact hc j hlt) ad m c (y.map (Value.int .u8)) (by rw [hz1, List.length_map, hl, Nat.mul_one]) (hb.news) (by omega) (by omega) (by rw [hz2]; exact growslice_fits (bytes := 1) (by omega) (by omega))
  refine wpList_plain hgd fun K hK => ?_
  unfold Oper.wp execOp
  simp only [ho, resolve, invoke, builtin, Sem.run_bind, Sem.run_pure, Result.andThen_ok, List.map_toArray, List.map_cons, List.map_nil, hs, hx] at hr ⊢
  rw [hr]
  refine hK _ _ (h _ _ _ (Nat.le_refl _) ?_ (((Below.refl _ _).drew.alloc (Nat.le_refl _) _)))
  have h1 := grownCap_ge w (8 + m) 8 5
  have h2 := grownCap_le_maxLen w (8 + m) 8 5 (by unfold maxLen; omega)
  generalize grownCap w (8 + m) 8 5 = C at h1 h2 ⊢
  have hl2 : (mag ++ y).length = 8 + m := by rw [List.length_append, mag_len, hl]
  refine ⟨⟨_, heap_alloc_new _ _, ?_, ?_⟩, by rw [hl2]; omega, by rw [hl2]; omega, h2, fun i => ?_⟩
  · rw [Array.size_append, Array.size_append, size_zeroCells]
    show (mag.map (Value.int .u8)).toArray.size + (y.map (Value.int .u8)).toArray.size + (C - (8 + m)) * 1 = C
    rw [List.size_toArray, List.size_toArray, List.length_map, List.length_map, mag_len, hl]; omega
  · rw [Array.toList_append, Array.toList_append, List.take_append_of_le_length (by simp [mag_len])]
    rw [List.take_of_length_le (by simp [mag_len])]
    simp
  · by_cases hi : i < 8
    · rw [nth_app_l _ _ _ (by rw [mag_len]; exact hi)]; exact mag_bd i
    · rw [nth_app_r _ _ _ (by rw [mag_len]; omega)]; exact hb.wf _
set_option maxRecDepth 100000 in
set_option maxHeartbeats 8000000 in
theorem r6header_any (w : World) (p0 : Addr) (n c : Nat) (L : List BG) (hL : BGs w (some p0) L) (hn : L.length = n) (h0 : 0 < n) (h96 : n ≤ 96) (ok : ∀ q ∈ L, BgOk q) :
    Calls Tryz.prog 125 #[.slice (some p0) n c] w fun e w' => ∃ v, e = .returned v ∧ BL w w' v (made (nsG L) (dsG L)) := by
  have L2 : ∀ wx (v : Int), 0 ≤ v ∧ v < 4294967296 → Calls Tryz.prog 157 #[.int .i64 v, .int .i64 2] wx fun e w' => ∃ a c, e = .returned (.slice a 2 c) ∧ OwL 5 1 wx w' (.slice a 2 c) 2 ((dgs v 2).map (Value.int .u8)) := fun wx v hv => r6low_any wx v hv 2 (by omega)
  have L4 : ∀ wx (v : Int), 0 ≤ v ∧ v < 4294967296 → Calls Tryz.prog 157 #[.int .i64 v, .int .i64 4] wx fun e w' => ∃ a c, e = .returned (.slice a 4 c) ∧ OwL 5 1 wx w' (.slice a 4 c) 4 ((dgs v 4).map (Value.int .u8)) := fun wx v hv => r6low_any wx v hv 4 (by omega)
  have HL2 : Hid (∀ wx (v : Int), 0 ≤ v ∧ v < 4294967296 → Calls Tryz.prog 157 #[.int .i64 v, .int .i64 2] wx fun e w' => ∃ g c, e = .returned (.slice (some ⟨g, 0, none⟩) 2 c) ∧ Bytes w' (some ⟨g, 0, none⟩) (dgs v 2) ∧ Below wx.heap.size wx w') := fun wx v hv => by
    refine (L2 wx v hv).mono ?_
    rintro e w' ⟨a, c, rfl, h⟩
    have hb : BL wx w' (.slice a 2 c) (dgs v 2) := ⟨by rw [dgs_len]; exact h, dgs_bd v 2, by rw [dgs_len]; omega⟩
    obtain ⟨a', c', e, hB⟩ := hb.bytes
    rw [dgs_len] at e
    cases e
    rcases hB.at_ with e | ⟨b, off, e, _⟩
    · have := congrArg List.length e; rw [dgs_len] at this; simp at this
    · rcases h.row.2 with ⟨e2, _⟩ | ⟨g, cap, cur, e2, _⟩
      · cases e2
      · cases e2; exact ⟨g, _, rfl, hB, h.bel⟩
  have HL4 : Hid (∀ wx (v : Int), 0 ≤ v ∧ v < 4294967296 → Calls Tryz.prog 157 #[.int .i64 v, .int .i64 4] wx fun e w' => ∃ g c, e = .returned (.slice (some ⟨g, 0, none⟩) 4 c) ∧ Bytes w' (some ⟨g, 0, none⟩) (dgs v 4) ∧ Below wx.heap.size wx w') := fun wx v hv => by
    refine (L4 wx v hv).mono ?_
    rintro e w' ⟨a, c, rfl, h⟩
    have hb : BL wx w' (.slice a 4 c) (dgs v 4) := ⟨by rw [dgs_len]; exact h, dgs_bd v 4, by rw [dgs_len]; omega⟩
    obtain ⟨a', c', e, hB⟩ := hb.bytes
    rw [dgs_len] at e
    cases e
    rcases hB.at_ with e | ⟨b, off, e, _⟩
    · have := congrArg List.length e; rw [dgs_len] at this; simp at this
    · rcases h.row.2 with ⟨e2, _⟩ | ⟨g, cap, cur, e2, _⟩
      · cases e2
      · cases e2; exact ⟨g, _, rfl, hB, h.bel⟩
  clear L2 L4
  have HL : Hid (BGs w (some p0) L ∧ L.length = n ∧ ∀ q ∈ L, BgOk q) := ⟨hL, hn, ok⟩
  have hn0 : 0 ≤ (n : Int) ∧ (n : Int) < 4294967296 := by omega
  have hmk := conv_text w #[.int .u8 66, .int .u8 79, .int .u8 76, .int .u8 69, .int .u8 76, .int .u8 79, .int .u8 71, .int .u8 49] 8 rfl
  obtain ⟨wt, hwt⟩ : ∃ wt, w.alloc (.cells #[.int .u8 66, .int .u8 79, .int .u8 76, .int .u8 69, .int .u8 76, .int .u8 79, .int .u8 71, .int .u8 49] 5 (8, 8 + 1)) = wt := ⟨_, rfl⟩
  rw [hwt] at hmk
  have HM : Hid (Below w.heap.size w wt ∧ ∀ wx, Below wt.heap.size wt wx → ∀ i, i < 8 → wx.cell? ⟨w.heap.size, i, none⟩ = some (.int .u8 (nth mag i))) := by
    have hz : wt.heap[w.heap.size]? = some (.cells #[.int .u8 66, .int .u8 79, .int .u8 76, .int .u8 69, .int .u8 76, .int .u8 79, .int .u8 71, .int .u8 49] 5 (8, 8 + 1)) := by rw [← hwt]; exact heap_alloc_new _ _
    refine ⟨by rw [← hwt]; exact (Below.refl _ _).alloc (Nat.le_refl _) _, fun wx hb i hi => ?_⟩
    have hz2 := (hb.block _ (heap_lt hz)).trans hz
    rw [cell_of_row _ _ i _ _ _ hz2]
    have : i = 0 ∨ i = 1 ∨ i = 2 ∨ i = 3 ∨ i = 4 ∨ i = 5 ∨ i = 6 ∨ i = 7 := by omega
    rcases this with e | e | e | e | e | e | e | e <;> rw [e] <;> rfl
  clear hwt
  have HA2 : ∀ (wx : World) o, Below wx.heap.size wx (wx.alloc o) := fun wx o => (Below.refl wx.heap.size wx).alloc (Nat.le_refl _) _
  have HR2 : ∀ {wx : World} {g cap : Nat}, BL w wx (.slice (some ⟨g, 0, none⟩) 10 cap) (mag ++ dgs n 2) → wx.ownsRow 0 5 1 (.slice (some ⟨g, 0, none⟩) 10 cap) 10 ((mag ++ dgs n 2).map (Value.int .u8)) := fun h => by have := h.o.row; rw [List.length_append, dgs_len] at this; exact this
  clear hL hn ok
  go_enter Tryz.func125, Tryz.ntmps125
  go_upto_region 3 with (first
    | (go_at_call 157; refine (HL2.out _ n hn0).mono ?_; rintro e w1 ⟨g1, c1, rfl, hB1, hb1⟩
       have H1 : Hid (Below wt.heap.size wt w1 ∧ Bytes w1 (some ⟨g1, 0, none⟩) (dgs n 2)) := ⟨hb1, hB1⟩
       clear hB1 hb1 hmk)
    | (at_builtin; refine wp_grow6 rfl (.tmp 11) (.tmp 14) rfl w.heap.size ⟨g1, 0, none⟩ 2 c1 (dgs n 2) rfl rfl (by decide) (by decide) (dgs_len _ _) H1.out.2 (HM.out.2 _ H1.out.1) ?_
       intro g2 cap2 w2 h1 h2 h3
       go_frame
       have H2 : Hid (BL w w2 (.slice (some ⟨g2, 0, none⟩) 10 cap2) (mag ++ dgs n 2)) := (by
         have hb : Below w.heap.size w w1 := HM.out.1.trans (H1.out.1.mono HM.out.1.size)
         have hl : (mag ++ dgs (n : Int) 2).length = 10 := by rw [List.length_append, dgs_len]; rfl
         refine ⟨⟨?_, (fun k e => by cases e; exact Nat.le_trans hb.size h1), hb.trans (h3.mono hb.size)⟩, h2.wf, by rw [hl]; omega⟩
         have := owns_of (B := 0) h2 (Nat.zero_le _)
         rw [hl] at this ⊢
         exact this)
       clear h1 h2 h3 H1)
    | (at_builtin; have hh := H2.out; clear hh; refine wp_bown rfl (.tmp 16) (.tmp 17) rfl (.slice (some ⟨g2, 0, none⟩) 10 cap2) 10 (mag ++ dgs n 2) rfl (HR2 (H2.out.on (HA2 w2 _))) ⟨w2.heap.size, 0, none⟩ 2 2 [0, 0] rfl (by decide) rfl (bytesL w2 [0, 0] (by simp) zero2_bd).bytes (by decide) ?_
       intro g3 cap3 w3 h1 h2 h3
       go_frame
       have H3 : Hid (BL w w3 (.slice (some ⟨g3, 0, none⟩) 12 cap3) (fr12 n)) := H2.out.grow (k := 10) (m := 2) (by rw [List.length_append, dgs_len]; rfl) rfl zero2_bd (by omega) (HA2 w2 _) h1 h2 h3
       clear h1 h2 h3 H2))
  go_wp2
  go_loopw [4, 5, 21] (fun s4 s5 s21 wr => ∃ j : Nat, j ≤ n ∧ s21 = .int .i64 (j : Int) ∧ HdT w wr (.slice (some ⟨g3, 0, none⟩) 12 cap3) s4 s5 (fr12 n) (bk6 (nsG L) j) (flatG L j)) (fun _ _ s21 _ => n - (intOf s21).toNat)
  case atStart => exact ⟨0, Nat.zero_le _, rfl, ⟨H3.out, BL.zero H3.out.o.bel, BL.zero H3.out.o.bel, (fun k _ e => by cases e), (fun k _ e => by cases e), (fun k _ e => by cases e)⟩⟩
  case round =>
    obtain ⟨j, hj, rfl, hA⟩ := hrel
    have HA : Hid (HdT w wr (.slice (some ⟨g3, 0, none⟩) 12 cap3) u4 u5 (fr12 n) (bk6 (nsG L) j) (flatG L j)) := hA
    clear hA H3
    by_cases hlt : j < n
    · have hjl : j < L.length := by rw [HL.out.2.1]; exact hlt
      obtain ⟨q, hq⟩ : ∃ q, L[j]? = some q := ⟨_, List.getElem?_eq_getElem hjl⟩
      obtain ⟨b, off, e, hc⟩ := (HL.out.1.on HA.out.f.o.bel).at_.resolve_left (by intro e; rw [e] at hjl; simp at hjl)
      obtain ⟨c1', c2'⟩ := hc j q hq
      have hok := HL.out.2.2 q (List.mem_of_getElem? hq)
      obtain ⟨p, hp⟩ : ∃ p, q.a = some p := by
        rcases (HL.out.1.each q (List.mem_of_getElem? hq)).1.at_ with e | ⟨b, off, e, _⟩
        · have := hok.2.2; rw [e] at this; simp at this
        · exact ⟨_, e⟩
      have HQ : Hid (L[j]? = some q ∧ Bytes w (some p) q.x ∧ q.x.length = 512) := ⟨hq, by rw [← hp]; exact (HL.out.1.each q (List.mem_of_getElem? hq)).1, hok.2.2⟩
      replace c2' : wr.cell? ⟨b, off + j * 2 + 1, none⟩ = some (.slice (some p) 512 q.c) := by rw [← hp, ← hok.2.2]; exact c2'
      cases e
      have HN : Hid (nth (nsG L) j = q.n) := nth_nsG hq
      obtain ⟨qn, hqn⟩ : ∃ qn, q.n = qn := ⟨_, rfl⟩
      rw [hqn] at c1' HN
      have hqb : 0 ≤ qn ∧ qn < 4294967296 := by rw [← hqn]; exact ⟨hok.1, hok.2.1⟩
      have HB0 : Hid (Below wr.heap.size wr (wr.alloc (.cells #[.int .i64 qn, .slice (some p) 512 q.c] 141))) := HA2 _ _
      have HX : Hid (∀ wx, Below wr.heap.size wr wx → Bytes wx (some p) q.x) := fun wx hb => HQ.out.2.1.on (HA.out.f.o.bel.trans (hb.mono HA.out.f.o.bel.size))
      clear hc hq hjl hqn hok hp
      go_wp2_with (first
        | (go_at_call 157; refine (HL4.out _ qn hqb).mono ?_; rintro e w4 ⟨g4, c4, rfl, hB4, hb4⟩
           have H4 : Hid (Below wr.heap.size wr w4 ∧ Bytes w4 (some ⟨g4, 0, none⟩) (dgs qn 4)) := ⟨HB0.out.trans (hb4.mono HB0.out.size), hB4⟩
           have d2 : w4.cell? ⟨wr.heap.size, 1, none⟩ = some (.slice (some p) 512 q.c) := box_at hb4 1
           clear hB4 hb4)
        | (at_builtin; refine wp_bown rfl (.tmp 25) (.tmp 28) rfl u4 (4 * j) (bk6 (nsG L) j) rfl ((HA.out.b.on H4.out.1).row (bk6_len _ _)) ⟨g4, 0, none⟩ 4 c4 (dgs qn 4) rfl (by decide) (dgs_len _ _) H4.out.2 (by omega) ?_
           intro g5 cap5 w5 h1 h2 h3
           go_frame
           have H5 : Hid (HdT w w5 (.slice (some ⟨g3, 0, none⟩) 12 cap3) (.slice (some ⟨g5, 0, none⟩) (4 * j + 4) cap5) u5 (fr12 n) (bk6 (nsG L) (j + 1)) (flatG L j) ∧ w5.cell? ⟨wr.heap.size, 1, none⟩ = some (.slice (some p) 512 q.c) ∧ Below wr.heap.size wr w4) := (by
             have hz := (HA.out.on H4.out.1).growB (k := 4 * j) (m := 4) (bk6_len _ _) (dgs_len _ _) (dgs_bd _ _) (by omega) (Below.refl _ _) h1 h2 h3
             rw [← HN.out, ← bk6_succ] at hz
             refine ⟨hz, h2.cell d2 (fun e => ?_), H4.out.1⟩
             have := HA.out.b.lt _ e
             exact absurd this (Nat.lt_irrefl _))
           clear h1 h2 h3 d2
           have d2 := H5.out.2.1)
        | (at_builtin; refine wp_bown rfl (.tmp 30) (.tmp 32) rfl u5 (512 * j) (flatG L j) rfl (H5.out.1.d.row (flatG_len HL.out.2.2 _ (by rw [HL.out.2.1]; omega))) p 512 q.c q.x rfl (by decide) HQ.out.2.2 (HQ.out.2.1.on H5.out.1.f.o.bel) (by omega) ?_
           intro g6 cap6 w6 h1 h2 h3
           go_frame
           have H6 : Hid (HdT w w6 (.slice (some ⟨g3, 0, none⟩) 12 cap3) (.slice (some ⟨g5, 0, none⟩) (4 * j + 4) cap5) (.slice (some ⟨g6, 0, none⟩) (512 * j + 512) cap6) (fr12 n) (bk6 (nsG L) (j + 1)) (flatG L (j + 1))) := (by
             have hz := H5.out.1.growD (k := 512 * j) (m := 512) (flatG_len HL.out.2.2 _ (by rw [HL.out.2.1]; omega)) HQ.out.2.2 HQ.out.2.1.wf (by omega) (Below.refl _ _) h1 h2 h3
             rw [← flatG_succ HQ.out.1] at hz
             exact hz)
           clear h1 h2 h3))
      refine ⟨⟨_, _, _, _, _, _, _, _, _, _, _, _, _, _, _, _, _, ⟨j + 1, hlt, ?_, H6.out⟩, rfl⟩, ?_⟩
      · rfl
      · simp [intOf]; omega
    · have hjn : j = n := by omega
      subst hjn
      obtain ⟨ba, bc, e4, _⟩ := HA.out.b.bytes
      obtain ⟨dg, dc, e5, hDb⟩ := HA.out.d.addr (flatG_len HL.out.2.2 _ (by rw [HL.out.2.1]; omega)) (by omega)
      rw [bk6_len] at e4
      subst e4 e5
      have HT : Hid (HdT w wr (.slice (some ⟨g3, 0, none⟩) 12 cap3) (.slice ba (4 * j) bc) (.slice (some ⟨dg, 0, none⟩) (512 * j) dc) (fr12 j) (bk6 (nsG L) j ++ rep0 0) (flatG L j)) := by
        have := HA.out; show HdT _ _ _ _ _ _ _ _; rw [show rep0 0 = [] from rfl, List.append_nil]; exact this
      clear HA hDb hlt hj
      go_wp2
      go_loopw [4] (fun s4 wq => ∃ (k : Nat) (a : Option Addr) (cc : Nat), k ≤ 496 - 4 * j ∧ s4 = .slice a (4 * j + k) cc ∧ HdT w wq (.slice (some ⟨g3, 0, none⟩) 12 cap3) s4 (.slice (some ⟨dg, 0, none⟩) (512 * j) dc) (fr12 j) (bk6 (nsG L) j ++ rep0 k) (flatG L j)) (fun s4 _ => 496 - lenV s4)
      case atStart => exact ⟨0, ba, bc, Nat.zero_le _, rfl, HT.out⟩
      case round =>
        obtain ⟨k, ka, kc, hk, rfl, hA⟩ := hrel
        have HA : Hid (HdT w wr (.slice (some ⟨g3, 0, none⟩) 12 cap3) (.slice ka (4 * j + k) kc) (.slice (some ⟨dg, 0, none⟩) (512 * j) dc) (fr12 j) (bk6 (nsG L) j ++ rep0 k) (flatG L j)) := hA
        clear hA HT
        by_cases hlt : k < 496 - 4 * j
        · have HB0 : Hid (Below wr.heap.size wr (wr.alloc (.cells #[.int .u8 0] 5))) := HA2 _ _
          go_wp2_with (at_builtin; refine wp_bown rfl (.tmp 42) (.tmp 43) rfl (.slice ka (4 * j + k) kc) (4 * j + k) (bk6 (nsG L) j ++ rep0 k) rfl ((HA.out.b.on HB0.out).row (by rw [List.length_append, bk6_len, rep0_len])) ⟨wr.heap.size, 0, none⟩ 1 1 [0] rfl (by decide) rfl (bytesL wr [0] (by simp) zero_bd).bytes (by omega) ?_
                       intro g5 cap5 w5 h1 h2 h3
                       go_frame
                       have H5 : Hid (HdT w w5 (.slice (some ⟨g3, 0, none⟩) 12 cap3) (.slice (some ⟨g5, 0, none⟩) (4 * j + (k + 1)) cap5) (.slice (some ⟨dg, 0, none⟩) (512 * j) dc) (fr12 j) (bk6 (nsG L) j ++ rep0 (k + 1)) (flatG L j)) := (by
                         have hz := HA.out.growB (k := 4 * j + k) (m := 1) (by rw [List.length_append, bk6_len, rep0_len]) rfl zero_bd (by omega) HB0.out h1 h2 h3
                         rw [List.append_assoc, ← rep0_succ] at hz
                         exact hz)
                       clear h1 h2 h3)
          exact ⟨⟨k + 1, _, _, hlt, rfl, H5.out⟩, by simp [lenV]; omega⟩
        · obtain ⟨bg, _, e4, _⟩ := HA.out.b.addr (k := 4 * j + k) (by rw [List.length_append, bk6_len, rep0_len]) (by omega)
          cases e4
          have hk2 : 4 * j + k = 496 := by omega
          have HK : Hid (bk6 (nsG L) j ++ rep0 k = bk6 (nsG L) j ++ rep0 (496 - 4 * j)) := by show bk6 (nsG L) j ++ rep0 k = bk6 (nsG L) j ++ rep0 (496 - 4 * j); rw [show k = 496 - 4 * j by omega]
          rw [hk2, HK.out] at HA
          rw [hk2]
          obtain ⟨B, hB⟩ : ∃ B, bk6 (nsG L) j ++ rep0 (496 - 4 * j) = B := ⟨_, rfl⟩
          have HBl : Hid (B.length = 496 ∧ bk6 (nsG L) j ++ rep0 (496 - 4 * j) = B ∧ ∀ i, 0 ≤ nth B i ∧ nth B i < 256) := ⟨by rw [← hB, List.length_append, bk6_len, rep0_len]; omega, hB, by have := HA.out.b.wf; rw [hB] at this; exact this⟩
          rw [hB] at HA
          have HZ : Hid (HdA w wr (.slice (some ⟨g3, 0, none⟩) 12 cap3) (.slice (some ⟨bg, 0, none⟩) 496 kc) (.slice (some ⟨dg, 0, none⟩) (512 * j) dc) (.slice none 0 0) (fr12 j) B (flatG L j) []) := HdA.zero HA.out
          have HDl : Hid ((flatG L j).length = 512 * j) := flatG_len HL.out.2.2 _ (by rw [HL.out.2.1]; omega)
          have h512 : 0 < 512 * j := by omega
          have hj96 : 512 * j ≤ 49152 := by omega
          obtain ⟨N, hN⟩ : ∃ N, 512 * j = N := ⟨_, rfl⟩
          have hNi : (512 : Int) * (j : Int) = (N : Int) := by omega
          rw [hN] at HZ HDl h512 hj96 ⊢
          clear HK hB HA hk hlt hk2 hN
          go_upto_region 18 with (first
            | (at_builtin; have hh := HZ.out; clear hh; refine wp_bown rfl (.tmp 45) (.tmp 46) rfl (.slice none 0 0) 0 [] rfl HZ.out.a.o.row ⟨g3, 0, none⟩ 12 cap3 (fr12 j) rfl (by omega) (fr12_len _) (HZ.out.t.f.by_ (fr12_len _) (by omega)) (by omega) ?_
               intro g5 cap5 w5 h1 h2 h3
               go_frame
               have H5 : Hid (HdA w w5 (.slice (some ⟨g3, 0, none⟩) 12 cap3) (.slice (some ⟨bg, 0, none⟩) 496 kc) (.slice (some ⟨dg, 0, none⟩) N dc) (.slice (some ⟨g5, 0, none⟩) 12 cap5) (fr12 j) B (flatG L j) ((fr12 j))) := HZ.out.grow (k := 0) (m := 12) rfl (fr12_len _) HZ.out.t.f.wf (by omega) (Below.refl _ _) h1 h2 h3
               clear h1 h2 h3 HZ)
            | (at_builtin; have hh := H5.out; clear hh; refine wp_bown rfl (.tmp 48) (.tmp 49) rfl (.slice (some ⟨g5, 0, none⟩) 12 cap5) 12 (fr12 j) rfl ((H5.out.a.on (HA2 w5 _)).row (fr12_len _)) ⟨w5.heap.size, 0, none⟩ 4 4 [0, 0, 0, 0] rfl (by omega) rfl (bytesL w5 [0, 0, 0, 0] (by simp) zero4_bd).bytes (by omega) ?_
               intro g6 cap6 w6 h1 h2 h3
               go_frame
               have H6 : Hid (HdA w w6 (.slice (some ⟨g3, 0, none⟩) 12 cap3) (.slice (some ⟨bg, 0, none⟩) 496 kc) (.slice (some ⟨dg, 0, none⟩) N dc) (.slice (some ⟨g6, 0, none⟩) 16 cap6) (fr12 j) B (flatG L j) ((fr12 j) ++ [0, 0, 0, 0])) := H5.out.grow (k := 12) (m := 4) (fr12_len _) rfl zero4_bd (by omega) (HA2 w5 _) h1 h2 h3
               clear h1 h2 h3 H5)
            | (at_builtin; have hh := H6.out; clear hh; refine wp_bown rfl (.tmp 51) (.tmp 52) rfl (.slice (some ⟨g6, 0, none⟩) 16 cap6) 16 (fr12 j ++ [0, 0, 0, 0]) rfl (H6.out.a.row (by rw [List.length_append, fr12_len]; rfl)) ⟨bg, 0, none⟩ 496 kc B rfl (by omega) HBl.out.1 (H6.out.t.b.by_ HBl.out.1 (by omega)) (by omega) ?_
               intro g7 cap7 w7 h1 h2 h3
               go_frame
               have H7 : Hid (HdA w w7 (.slice (some ⟨g3, 0, none⟩) 12 cap3) (.slice (some ⟨bg, 0, none⟩) 496 kc) (.slice (some ⟨dg, 0, none⟩) N dc) (.slice (some ⟨g7, 0, none⟩) 512 cap7) (fr12 j) B (flatG L j) ((fr12 j ++ [0, 0, 0, 0]) ++ B)) := H6.out.grow (k := 16) (m := 496) (by rw [List.length_append, fr12_len]; rfl) HBl.out.1 HBl.out.2.2 (by omega) (Below.refl _ _) h1 h2 h3
               clear h1 h2 h3 H6)
            | (at_builtin; have hh := H7.out; clear hh; refine wp_bown rfl (.tmp 54) (.tmp 55) rfl (.slice (some ⟨g7, 0, none⟩) 512 cap7) 512 (fr12 j ++ [0, 0, 0, 0] ++ B) rfl (H7.out.a.row (by rw [List.length_append, List.length_append, fr12_len, HBl.out.1]; rfl)) ⟨dg, 0, none⟩ N dc (flatG L j) rfl (by omega) HDl.out (H7.out.t.d.by_ HDl.out h512) (by omega) ?_
               intro g8 cap8 w8 h1 h2 h3
               go_frame
               have H8 : Hid (HdA w w8 (.slice (some ⟨g3, 0, none⟩) 12 cap3) (.slice (some ⟨bg, 0, none⟩) 496 kc) (.slice (some ⟨dg, 0, none⟩) N dc) (.slice (some ⟨g8, 0, none⟩) (512 + N) cap8) (fr12 j) B (flatG L j) ((fr12 j ++ [0, 0, 0, 0] ++ B) ++ (flatG L j))) := H7.out.grow (k := 512) (m := N) (by rw [List.length_append, List.length_append, fr12_len, HBl.out.1]; rfl) HDl.out H7.out.t.d.wf (by omega) (Below.refl _ _) h1 h2 h3
               clear h1 h2 h3 H7))
          obtain ⟨A, hA⟩ : ∃ A, fr12 j ++ [0, 0, 0, 0] ++ B ++ flatG L j = A := ⟨_, rfl⟩
          have hAl : A.length = 512 + N := by rw [← hA, List.length_append, List.length_append, List.length_append, fr12_len, HBl.out.1, HDl.out]; rfl
          have HE : Hid (∀ z, (Crc.crc A).toNat = (z : Int) → fr12 j ++ dgs z 4 ++ B = made (nsG L) (dsG L)) := fun z hz => by
            have h1 : (nsG L).length = j := by rw [nsG_len]; exact HL.out.2.1
            have h2 : flatG L j = (dsG L).flatten := by unfold flatG; rw [List.take_of_length_le (by rw [HL.out.2.1]; exact Nat.le_refl _)]
            have h3 := sum6 (nsG L) (dsG L) (by omega)
            rw [h1, ← h2] at h3
            have h4 : bk6 (nsG L) j ++ List.replicate (496 - 4 * j) 0 = B := HBl.out.2.1
            rw [h4, hA] at h3
            have h5 := hd_parts (nsG L) z (by omega)
            rw [h1, h4] at h5
            unfold made
            rw [h5, ← hz, h3]
          rw [hA] at H8
          have HC : Hid (Calls Tryz.prog 158 #[.slice (some ⟨g8, 0, none⟩) (512 + N) cap8] w8 fun e w' => e = .returned (.int .u32 (U (Crc.crc A))) ∧ w8 = w') := by
            have hb := H8.out.a.by_ hAl (by omega)
            rcases hb.at_ with e | ⟨b, off, e, hc⟩
            · rw [e] at hAl; simp at hAl; omega
            · cases e
              have := r6crc_some w8 g8 0 cap8 A (by omega) hb.wf hc
              rw [hAl] at this
              exact this
          have lo := U_lo (Crc.crc A)
          have hi := U_hi (Crc.crc A)
          obtain ⟨z, hz⟩ : ∃ z, U (Crc.crc A) = z := ⟨_, rfl⟩
          have HZ2 : Hid (fr12 j ++ dgs z 4 ++ B = made (nsG L) (dsG L)) := HE.out z hz
          rw [hz] at HC lo hi
          have hzb : 0 ≤ z ∧ z < 4294967296 := ⟨lo, hi⟩
          clear hA HE hz
          go_wp2_with (first
            | (go_at_call 158; refine HC.out.mono ?_; rintro e w' ⟨rfl, rfl⟩)
            | (go_at_call 157; refine (HL4.out _ z hzb).mono ?_; rintro e w9 ⟨g9, c9, rfl, hB9, hb9⟩
               have H9 : Hid (HdT w w9 (.slice (some ⟨g3, 0, none⟩) 12 cap3) (.slice (some ⟨bg, 0, none⟩) 496 kc) (.slice (some ⟨dg, 0, none⟩) N dc) (fr12 j) B (flatG L j) ∧ Bytes w9 (some ⟨g9, 0, none⟩) (dgs z 4)) := ⟨H8.out.t.on hb9, hB9⟩
               clear hB9 hb9 H8)
            | (at_builtin; refine wp_bown rfl (.tmp 61) (.tmp 62) rfl (.slice (some ⟨g3, 0, none⟩) 12 cap3) 12 (fr12 j) rfl (H9.out.1.f.row (fr12_len _)) ⟨g9, 0, none⟩ 4 c9 (dgs z 4) rfl (by decide) (dgs_len _ _) H9.out.2 (by decide) ?_
               intro g10 cap10 w10 h1 h2 h3
               go_frame
               have H10 : Hid (HdT w w10 (.slice (some ⟨g10, 0, none⟩) 16 cap10) (.slice (some ⟨bg, 0, none⟩) 496 kc) (.slice (some ⟨dg, 0, none⟩) N dc) (fr12 j ++ dgs z 4) B (flatG L j)) := H9.out.1.growF (k := 12) (m := 4) (fr12_len _) (dgs_len _ _) (dgs_bd _ _) (by omega) (Below.refl _ _) h1 h2 h3
               clear h1 h2 h3 H9)
            | (at_builtin; have hh := H10.out; clear hh; refine wp_bown rfl (.tmp 63) (.tmp 64) rfl (.slice (some ⟨g10, 0, none⟩) 16 cap10) 16 (fr12 j ++ dgs z 4) rfl (H10.out.f.row (by rw [List.length_append, fr12_len, dgs_len])) ⟨bg, 0, none⟩ 496 kc B rfl (by decide) HBl.out.1 (H10.out.b.by_ HBl.out.1 (by omega)) (by decide) ?_
               intro g11 cap11 w11 h1 h2 h3
               go_frame
               have H11 : Hid (BL w w11 (.slice (some ⟨g11, 0, none⟩) 512 cap11) (fr12 j ++ dgs z 4 ++ B)) := (H10.out.growF (k := 16) (m := 496) (by rw [List.length_append, fr12_len, dgs_len]) HBl.out.1 HBl.out.2.2 (by omega) (Below.refl _ _) h1 h2 h3).f
               clear h1 h2 h3))
          go_ret
          exact ⟨_, rfl, by rw [← HZ2.out]; exact H11.out⟩
end Go.Proofs.YtflienghgobmoaaGreatDoor

namespace Go.Proofs.YtflienghgobmoaaGreatDoor
open Go.RowKit Rec
/-- an act as the program's log has it -/
def waQ (q : ActR) : WA := if q.kind = 1 then some (q.b.toNat, q.x) else none
def AqOk (nb : Nat) (q : ActR) : Prop := (q.kind = 1 ∧ 0 ≤ q.b ∧ q.b < nb ∧ q.x.length = 512) ∨ q.kind = 2
theorem Acts.frE {S : Nat → Prop} {w w' : World} {a0 : Option Addr} {A : List ActR} (h : Acts w a0 A) (x : Fr S w w') (h1 : ∀ b off, a0 = some ⟨b, off, none⟩ → ¬ S b) (h2 : ∀ q ∈ A, q.x ≠ [] → ∀ p, q.a = some p → ¬ S p.block) : Acts w' a0 A := by
  refine ⟨?_, fun q hq => bytes_frE (h.each q hq) x (h2 q hq), h.len⟩
  rcases h.at_ with e | ⟨b, off, e, hc⟩
  · exact .inl e
  · refine .inr ⟨b, off, e, fun i q hq => ?_⟩
    obtain ⟨f0, f1, f2⟩ := hc i q hq
    exact ⟨x.cell f0 (h1 b off e), x.cell f1 (h1 b off e), x.cell f2 (h1 b off e)⟩
theorem wE_take {a : AD} {q : ActR} {nb : Nat} (hq : q.kind = 1 ∧ 0 ≤ q.b ∧ q.b < nb ∧ q.x.length = 512) (hnb : a.nb = nb) : wE a q.b 512 = a.takeE [waQ q] ∧ wA a q.b q.x = a.take [waQ q] := by
  have ht : waQ q = some (q.b.toNat, q.x) := by unfold waQ; rw [if_pos hq.1]
  rw [ht]
  unfold wE wA
  by_cases hd : a.down = true
  · rw [if_pos hd, if_pos hd]
    obtain ⟨e1, e2⟩ := take_down a (some (q.b.toNat, q.x)) [] hd
    rw [e1, e2]; exact ⟨rfl, rfl⟩
  · have hd' : a.down = false := by cases e : a.down with | true => exact absurd e hd | false => rfl
    obtain ⟨e1, e2⟩ := take_single a (some (q.b.toNat, q.x)) hd'
    have hin : 0 ≤ q.b ∧ q.b < a.nb := by rw [hnb]; exact ⟨hq.2.1, hq.2.2.1⟩
    rw [if_neg hd, if_neg hd, e1, e2, if_pos hin, if_pos hin, if_pos (rfl : (512 : Nat) = 512), if_pos hq.2.2.2]
    exact ⟨rfl, rfl⟩
theorem fE_take {a : AD} {q : ActR} (hq : ¬ q.kind = 1) : fE a = a.takeE [waQ q] ∧ fA a = a.take [waQ q] := by
  have ht : waQ q = none := by unfold waQ; rw [if_neg hq]
  rw [ht]
  unfold fE fA
  by_cases hd : a.down = true
  · rw [if_pos hd, if_pos hd]
    obtain ⟨e1, e2⟩ := take_down a none [] hd
    rw [e1, e2]; exact ⟨rfl, rfl⟩
  · have hd' : a.down = false := by cases e : a.down with | true => exact absurd e hd | false => rfl
    obtain ⟨e1, e2⟩ := take_single a none hd'
    rw [if_neg hd, if_neg hd, e1, e2]
    exact ⟨rfl, rfl⟩
theorem take_nb : ∀ (l : List WA) (a : AD), (a.take l).nb = a.nb
  | [], _ => rfl
  | t :: r, a => by
    rw [AD.take]
    split
    · rfl
    · split
      · exact act_nb a t
      · rw [take_nb r, act_nb]
/-- how far the document's disk has come -/
structure Tk (w : World) (a : AD) (R : RDk) (j : Nat) (A : List ActR) (a0 : Option Addr) (wr : World) (R' : RDk) (k : Nat) : Prop where
  m : RM w R wr (a.take ((A.map waQ).take k)) R' (j + k)
  z : a.takeE ((A.map waQ).take k) = 0
  acts : Acts wr a0 A
theorem tk_get {A : List ActR} {k : Nat} {q : ActR} (h : A[k]? = some q) : (A.map waQ)[k]? = some (waQ q) := by rw [List.getElem?_map, h]; rfl
theorem Tk.more {w : World} {a : AD} {R : RDk} {j : Nat} {A : List ActR} {a0 : Option Addr} {wr wx w' : World} {R' R2 : RDk} {k : Nat} {q : ActR} {a' : AD} (h : Tk w a R j A a0 wr R' k) (hq : A[k]? = some q) (hx : Below wr.heap.size wr wx) (hM : RM wx R' w' a' R2 (j + k + 1)) (ha : a' = (a.take ((A.map waQ).take k)).take [waQ q]) :
    RM w R w' (a.take ((A.map waQ).take (k + 1))) R2 (j + (k + 1)) := by
  obtain ⟨e1, e2⟩ := take_more a (A.map waQ) k (waQ q) (tk_get hq) h.z
  have h1 : RM w R wx (a.take ((A.map waQ).take k)) R' (j + k) := ⟨h.m.t.on hx, h.m.fr.trans (below_fr hx (fun _ => False)) (fun _ e => e.elim), h.m.al, h.m.r⟩
  have h2 := h1.trans hM
  rw [e1, ← ha]
  exact h2
end Go.Proofs.YtflienghgobmoaaGreatDoor

namespace Go.Proofs.YtflienghgobmoaaGreatDoor
open Go.RowKit Rec

theorem res_row9 {fn : Func} {p : Tmp} {ty : TypeId} (h : fn.results = #[.cell p ty]) (tmps : Array Value) (w : World) (g : Nat) (cs : Array Value)
    (hp : tmps.getD p undef = .pointer (some ⟨g, 0, none⟩)) (hl : (loadVar ty ⟨g, 0, none⟩).run Tryz.prog w = .ok (.agg cs) w) :
    (results fn tmps).run Tryz.prog w = .ok (.agg cs) w := by
  have e : (results fn tmps).run Tryz.prog w = ((asAddr (tmps.getD p undef)).run Tryz.prog w).andThen fun a w₁ => (loadVar ty a).run Tryz.prog w₁ := by
    simp only [results, h]
    simp [Sem.run_bind, Result.andThen]
  rw [e, hp]
  simp [asAddr, hl]
end Go.Proofs.YtflienghgobmoaaGreatDoor
