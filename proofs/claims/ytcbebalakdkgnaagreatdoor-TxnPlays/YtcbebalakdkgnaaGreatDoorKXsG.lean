import Derived.Test.YtcbebalakdkgnaaGreatDoorKWpD
import Derived.Test.YtcbebalakdkgnaaGreatDoorKXsC
import Derived.Test.YtcbebalakdkgnaaGreatDoorKWalC
namespace Go.Proofs.YtcbebalakdkgnaaGreatDoor
open Go.RowKit Rec
/-- a list of bytes of one's own -/
structure BL (w0 wr : World) (v : Value) (l : List Int) : Prop where
  o : OwL 5 1 w0 wr v l.length (l.map (Value.int .u8))
  wf : ∀ i, 0 ≤ nth l i ∧ nth l i < 256
  sm : l.length ≤ 1000000000
def ApV (u v : Value) : Prop := ∀ k, u.ownBlock = some k → v.ownBlock ≠ some k
theorem BL.bytes {w0 wr : World} {v : Value} {l : List Int} (h : BL w0 wr v l) : ∃ a c, v = .slice a l.length c ∧ Bytes wr a l := by
  obtain ⟨a, c, e, _⟩ := owns_slice h.o.row
  refine ⟨a, c, e, ⟨by have := h.sm; omega, h.wf, ?_⟩⟩
  by_cases h0 : l = []
  · exact .inl h0
  · rcases h.o.row.2 with ⟨_, e2⟩ | ⟨g, cap, cur, e2, _⟩
    · exact absurd (List.eq_nil_of_length_eq_zero e2) h0
    · rw [e] at e2
      cases e2
      refine .inr ⟨g, 0, rfl, fun i hi => ?_⟩
      have hc := World.ownsRow.cells h.o.row (g := g) (by rw [e]; rfl) i (.int .u8 (nth l i)) (by rw [List.getElem?_map, List.getElem?_eq_getElem hi]; simp [nth, List.getD, hi])
      rw [Addr.add_lit, Nat.zero_add] at hc
      rw [Nat.zero_add]
      exact hc
theorem box_at {w w' : World} {cs : Array Value} {t : Nat} (hb : Below (w.alloc (.cells cs t)).heap.size (w.alloc (.cells cs t)) w') (i : Nat) : w'.cell? ⟨w.heap.size, i, none⟩ = cs[i]? := cell_of_row _ _ i _ _ _ ((hb.block w.heap.size (by simp)).trans (heap_alloc_new _ _))
theorem BL.row {w0 wr : World} {v : Value} {l : List Int} {k : Nat} (h : BL w0 wr v l) (hk : l.length = k) : wr.ownsRow 0 5 1 v k (l.map (Value.int .u8)) := by subst hk; exact h.o.row
theorem BL.addr {w0 wr : World} {v : Value} {l : List Int} {k : Nat} (h : BL w0 wr v l) (hk : l.length = k) (h0 : 0 < k) : ∃ g c, v = .slice (some ⟨g, 0, none⟩) k c ∧ Bytes wr (some ⟨g, 0, none⟩) l := by
  subst hk
  obtain ⟨a, c, e, hB⟩ := h.bytes
  rcases h.o.row.2 with ⟨e2, e3⟩ | ⟨g, cap, cur, e2, _⟩
  · omega
  · rw [e] at e2; cases e2; exact ⟨g, c, e, hB⟩
theorem BL.by_ {w0 wr : World} {g n cap : Nat} {l : List Int} (h : BL w0 wr (.slice (some ⟨g, 0, none⟩) n cap) l) (hk : l.length = n) (h0 : 0 < n) : Bytes wr (some ⟨g, 0, none⟩) l := by
  obtain ⟨g', c, e, hB⟩ := h.addr hk h0
  cases e; exact hB
def lenV : Value → Nat
  | .slice _ n _ => n
  | _ => 0
theorem BL.zero {w0 wr : World} (hb : Below w0.heap.size w0 wr) : BL w0 wr (.slice none 0 0) [] := ⟨OwL.zero hb, (fun i => by simp [nth]), by simp⟩
theorem BL.on {w0 wr w' : World} {v : Value} {l : List Int} (h : BL w0 wr v l) (hb : Below wr.heap.size wr w') : BL w0 w' v l := ⟨h.o.on hb, h.wf, h.sm⟩
theorem BL.oth {w0 wr wa w' : World} {u v : Value} {l : List Int} (h : BL w0 wr v l) (hap : ApV u v) (ha : Below wr.heap.size wr wa) (h2 : Fr (fun k => u.ownBlock = some k) wa w') (hf : ∀ k, u.ownBlock = some k → w0.heap.size ≤ k) : BL w0 w' v l := by
  have h' := h.on ha
  exact ⟨⟨owns_fr h'.o.row h2 (fun k hk e => hap k e hk), h.o.far, h'.o.bel.trans (h2.below _ hf h'.o.bel.size)⟩, h.wf, h.sm⟩
theorem BL.grow {w0 wr wa w' : World} {v : Value} {l y : List Int} {k m g cap : Nat} (h : BL w0 wr v l) (hk : l.length = k) (hm : y.length = m) (hy : ∀ i, 0 ≤ nth y i ∧ nth y i < 256) (hs : k + m ≤ 1000000000) (ha : Below wr.heap.size wr wa) (h1 : w'.ownsRow 0 5 1 (.slice (some ⟨g, 0, none⟩) (k + m) cap) (k + m) ((l ++ y).map (Value.int .u8))) (h2 : Fr (fun k => v.ownBlock = some k) wa w') (h3 : v.ownBlock = some g ∨ wa.heap.size ≤ g) :
    BL w0 w' (.slice (some ⟨g, 0, none⟩) (k + m) cap) (l ++ y) := by
  subst hk hm
  have hx := h.o.add ha (ys := y.map (Value.int .u8)) (by rw [List.map_append] at h1; exact h1) h2 h3
  refine ⟨by rw [List.length_append, List.map_append]; exact hx, fun i => ?_, by rw [List.length_append]; exact hs⟩
  by_cases hi : i < l.length
  · rw [nth_app_l _ _ _ hi]; exact h.wf i
  · rw [nth_app_r _ _ _ (by omega)]; exact hy _
theorem ap_grow {wa wr : World} {v u : Value} {g n cap : Nat} (hap : ApV u v) (hu : ∀ k, u.ownBlock = some k → k < wr.heap.size) (ha : wr.heap.size ≤ wa.heap.size) (h3 : v.ownBlock = some g ∨ wa.heap.size ≤ g) : ApV u (.slice (some ⟨g, 0, none⟩) n cap) := fun k hk e => by
  cases e
  rcases h3 with e | e
  · exact hap _ hk e
  · have : g < wr.heap.size := hu _ hk; omega
theorem ApV.symm {u v : Value} (h : ApV u v) : ApV v u := fun k hk e => h k e hk
/-- the header's lists, as they grow -/
structure HdT (w0 wr : World) (fv bv dv : Value) (F B D : List Int) : Prop where
  f : BL w0 wr fv F
  b : BL w0 wr bv B
  d : BL w0 wr dv D
  fb : ApV fv bv
  fd : ApV fv dv
  bd : ApV bv dv
theorem HdT.on {w0 wr w' : World} {fv bv dv : Value} {F B D : List Int} (h : HdT w0 wr fv bv dv F B D) (hb : Below wr.heap.size wr w') : HdT w0 w' fv bv dv F B D := ⟨h.f.on hb, h.b.on hb, h.d.on hb, h.fb, h.fd, h.bd⟩
theorem BL.lt {w0 wr : World} {v : Value} {l : List Int} (h : BL w0 wr v l) : ∀ k, v.ownBlock = some k → k < wr.heap.size := fun _ hk => owns_block h.o.row hk
section
variable {w0 wr wa w' : World} {fv bv dv : Value} {F B D y : List Int} {k m g cap : Nat}
theorem HdT.growB (h : HdT w0 wr fv bv dv F B D) (hk : B.length = k) (hm : y.length = m) (hy : ∀ i, 0 ≤ nth y i ∧ nth y i < 256) (hs : k + m ≤ 1000000000) (ha : Below wr.heap.size wr wa) (h1 : w'.ownsRow 0 5 1 (.slice (some ⟨g, 0, none⟩) (k + m) cap) (k + m) ((B ++ y).map (Value.int .u8))) (h2 : Fr (fun k => bv.ownBlock = some k) wa w') (h3 : bv.ownBlock = some g ∨ wa.heap.size ≤ g) :
    HdT w0 w' fv (.slice (some ⟨g, 0, none⟩) (k + m) cap) dv F (B ++ y) D :=
  ⟨h.f.oth h.fb.symm ha h2 h.b.o.far, h.b.grow hk hm hy hs ha h1 h2 h3, h.d.oth h.bd ha h2 h.b.o.far, ap_grow h.fb h.f.lt ha.size h3, h.fd, (ap_grow h.bd.symm h.d.lt ha.size h3).symm⟩
theorem HdT.growD (h : HdT w0 wr fv bv dv F B D) (hk : D.length = k) (hm : y.length = m) (hy : ∀ i, 0 ≤ nth y i ∧ nth y i < 256) (hs : k + m ≤ 1000000000) (ha : Below wr.heap.size wr wa) (h1 : w'.ownsRow 0 5 1 (.slice (some ⟨g, 0, none⟩) (k + m) cap) (k + m) ((D ++ y).map (Value.int .u8))) (h2 : Fr (fun k => dv.ownBlock = some k) wa w') (h3 : dv.ownBlock = some g ∨ wa.heap.size ≤ g) :
    HdT w0 w' fv bv (.slice (some ⟨g, 0, none⟩) (k + m) cap) F B (D ++ y) :=
  ⟨h.f.oth h.fd.symm ha h2 h.d.o.far, h.b.oth h.bd.symm ha h2 h.d.o.far, h.d.grow hk hm hy hs ha h1 h2 h3, h.fb, ap_grow h.fd h.f.lt ha.size h3, ap_grow h.bd h.b.lt ha.size h3⟩
theorem HdT.growF (h : HdT w0 wr fv bv dv F B D) (hk : F.length = k) (hm : y.length = m) (hy : ∀ i, 0 ≤ nth y i ∧ nth y i < 256) (hs : k + m ≤ 1000000000) (ha : Below wr.heap.size wr wa) (h1 : w'.ownsRow 0 5 1 (.slice (some ⟨g, 0, none⟩) (k + m) cap) (k + m) ((F ++ y).map (Value.int .u8))) (h2 : Fr (fun k => fv.ownBlock = some k) wa w') (h3 : fv.ownBlock = some g ∨ wa.heap.size ≤ g) :
    HdT w0 w' (.slice (some ⟨g, 0, none⟩) (k + m) cap) bv dv (F ++ y) B D :=
  ⟨h.f.grow hk hm hy hs ha h1 h2 h3, h.b.oth h.fb ha h2 h.f.o.far, h.d.oth h.fd ha h2 h.f.o.far, (ap_grow h.fb.symm h.b.lt ha.size h3).symm, (ap_grow h.fd.symm h.d.lt ha.size h3).symm, h.bd⟩
end
/-- a row of one's own, laid by its cells -/
theorem BL.lit {w0 w : World} {l : List Int} {k : Nat} (hb : Below w0.heap.size w0 w) (hk : l.length = k) (h0 : 0 < k) (hl : l.length ≤ 1000000000) (hw : ∀ i, 0 ≤ nth l i ∧ nth l i < 256) : BL w0 (w.alloc (.cells (l.map (Value.int .u8)).toArray 5)) (.slice (some ⟨w.heap.size, 0, none⟩) k k) l := by
  have hO : OwnB (w.alloc (.cells (l.map (Value.int .u8)).toArray 5)) w.heap.size l.length l := ⟨⟨_, heap_alloc_new _ _, by simp, by rw [List.take_of_length_le (by simp)]⟩, by omega, Nat.le_refl _, by unfold maxLen; omega, hw⟩
  subst hk
  exact ⟨⟨owns_of hO (Nat.zero_le _), fun k e => by cases e; exact hb.size, hb.alloc hb.size _⟩, hw, hl⟩
end Go.Proofs.YtcbebalakdkgnaaGreatDoor

namespace Go.Proofs.YtcbebalakdkgnaaGreatDoor
open Go.RowKit Rec
theorem num_bck (F : List Int) (b A : Nat) : ∀ n, A + n ≤ 512 → num (bck F b) A n = num F (512 * b + A) n
  | 0, _ => rfl
  | n + 1, h => by
    rw [num, num, num_bck F b A n (by omega), nth_bck _ _ _ (by omega), Nat.add_assoc]
theorem zs_iff6 (h : List Int) (hn : h.length = 512) : h = zs ↔ zr h 0 512 = true := by
  unfold zr
  rw [decide_eq_true_iff]
  constructor
  · intro e i hi; rw [e, nth_zs]
  · intro e
    refine ext_nth (by rw [hn, zs_length]) fun i hi => ?_
    rw [nth_zs]
    have := e i (by omega)
    rwa [Nat.zero_add] at this
/-- the places where the document's recovery brings its blocks -/
def hm6 (F : List Int) (k : Nat) : List (Nat × List Int) := (List.range k).map fun i => ((num F (528 + 4 * i) 4).toNat, bck F (2 + i))
theorem hm6_succ (F : List Int) (k : Nat) : hm6 F (k + 1) = hm6 F k ++ [((num F (528 + 4 * k) 4).toNat, bck F (2 + k))] := by unfold hm6; rw [List.range_succ, List.map_append]; rfl
set_option maxRecDepth 100000 in
/-- a log that is empty or good, in the document's words -/
theorem log6 {F : List Int} {nb : Nat} (hl : F.length = 512 * nb) (hn : 98 ≤ nb) (ok : logE F nb = 0) (hw : ∀ i, 0 ≤ nth F i ∧ nth F i < 256) :
    (nth F 512 = 0 ∧ behind F nb = F) ∨ (nth F 512 ≠ 0 ∧ num F 520 2 = ((logN F nb).length : Nat) ∧ (logN F nb).length ≤ 96 ∧ (∀ i, i < (logN F nb).length → num F (528 + 4 * i) 4 = nth (logN F nb) i ∧ 98 ≤ nth (logN F nb) i ∧ nth (logN F nb) i < nb) ∧ hm6 F (logN F nb).length = logH F nb) := by
  have hbl : (bck F 1).length = 512 := bck_length _ _ nb hl (by omega)
  have e0 : nth (bck F 1) 0 = nth F 512 := nth_bck F 1 0 (by omega)
  have hbw : ∀ i, 0 ≤ nth (bck F 1) i ∧ nth (bck F 1) i < 256 := fun i => by
    by_cases hi : i < 512
    · rw [nth_bck _ _ _ hi]; exact hw _
    · unfold nth; rw [List.getD_eq_getElem?_getD, List.getElem?_eq_none (by omega)]; exact ⟨Int.le_refl _, by decide⟩
  by_cases hz : zr (bck F 1) 0 512 = true
  · refine .inl ?_
    have hzs : bck F 1 = zs := (zs_iff6 _ hbl).2 hz
    exact ⟨by rw [← e0, hzs, nth_zs], behind_empty hl hn hzs⟩
  · refine .inr ?_
    have hz' : zr (bck F 1) 0 512 = false := by cases h : zr (bck F 1) 0 512 with | true => exact absurd h hz | false => rfl
    have hE : numsE (bck F 1) nb = 0 := by
      unfold logE at ok
      rw [if_neg (by omega)] at ok
      by_cases h : numsE (bck F 1) nb = 0
      · exact h
      · rw [if_neg h] at ok; exact absurd ok h
    have hH : isH (bck F 1) nb = true := by
      unfold numsE at hE
      rw [if_pos hbl, hz', if_neg (by decide)] at hE
      by_cases h : isH (bck F 1) nb = true
      · exact h
      · rw [if_neg h] at hE; exact absurd hE (by decide)
    have hN : logN F nb = nsOf (bck F 1) := by
      unfold logN numsL
      rw [if_pos ⟨hbl, hz', hH⟩]
    unfold isH form at hH
    simp only [Bool.and_eq_true, decide_eq_true_eq, beq_iff_eq] at hH
    obtain ⟨⟨⟨⟨h8, _, _⟩, h1, h96⟩, hmay⟩, _⟩ := hH
    have hlen : (logN F nb).length = cnt (bck F 1) := by rw [hN]; simp [nsOf]
    have hnum : num (bck F 1) 8 2 = num F 520 2 := num_bck F 1 8 2 (by omega)
    have h66 : nth (bck F 1) 0 = 66 := by
      have := (take8 _ hbl).1 h8 0 (by omega)
      rw [this]; rfl
    have hnn : 0 ≤ num (bck F 1) 8 2 := by
      have a0 := hbw 8; have a1 := hbw 9
      show 0 ≤ 0 + nth (bck F 1) (8 + 0) * 256 ^ 0 + nth (bck F 1) (8 + 1) * 256 ^ 1
      simp; omega
    have hat : ∀ i, i < (logN F nb).length → num F (528 + 4 * i) 4 = nth (logN F nb) i ∧ 98 ≤ nth (logN F nb) i ∧ nth (logN F nb) i < nb := fun i hi => by
      have hi' : i < cnt (bck F 1) := by omega
      have b := pre_bd _ _ hmay i (by rw [← hN]; exact hi)
      rw [hN]
      refine ⟨?_, b.1, b.2⟩
      unfold nsOf
      rw [nth_map _ _ _ hi', num_bck F 1 (16 + 4 * i) 4 (by omega)]
      congr 1
      omega
    refine ⟨by rw [← e0, h66]; decide, by rw [hlen]; unfold cnt; rw [← hnum]; omega, by omega, hat, ?_⟩
    unfold hm6 logH homes logD
    apply List.ext_getElem
    · simp
    · intro i hi1 hi2
      simp only [List.length_map, List.length_range] at hi1
      simp only [List.getElem_map, List.getElem_range, List.getElem_zipWith]
      rw [(hat i hi1).1]
      unfold nth
      rw [List.getD_eq_getElem?_getD, List.getElem?_eq_getElem hi1]
      rfl
end Go.Proofs.YtcbebalakdkgnaaGreatDoor
