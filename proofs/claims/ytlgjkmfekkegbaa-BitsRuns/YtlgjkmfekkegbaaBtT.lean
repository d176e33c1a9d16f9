import Derived.Test.YtlgjkmfekkegbaaBtR
import Derived.Test.YtlgjkmfekkegbaaOp8
import Derived.Laws.EntriesVeiled
namespace Go.Proofs.Ytlgjkmfekkegbaa
open Go.RowKit Go.Shelf Rec
attribute [local go_sem] Oper.semAt_some

/-- a box that holds one value -/
def Bx (w : World) (S : Nat) (v : Value) (t : TypeId) : Prop := w.heap[S]? = some (.cells #[v] t (0, 0))
theorem Bx.cell {w : World} {S : Nat} {v : Value} {t : TypeId} (h : Bx w S v t) : w.cell? ⟨S, 0, none⟩ = some v := by rw [cell_of_row _ _ _ _ _ _ h]; rfl
theorem Bx.frozen {w : World} {S : Nat} {v : Value} {t : TypeId} (h : Bx w S v t) : w.frozen? ⟨S, 0, none⟩ = false := frozen_of_row _ _ _ _ _ h
theorem Bx.lt {w : World} {S : Nat} {v : Value} {t : TypeId} (h : Bx w S v t) : S < w.heap.size := heap_lt h
theorem Bx.on {w w' : World} {S n : Nat} {v : Value} {t : TypeId} (h : Bx w S v t) (hb : Below n w w') (hn : S < n) : Bx w' S v t := (hb.block S hn).trans h
theorem Bx.new (w : World) (v : Value) (t : TypeId) : Bx (w.alloc (.cells #[v] t)) w.heap.size v t := heap_alloc_new _ _
theorem Bx.set {w : World} {S : Nat} {v u : Value} {t : TypeId} (h : Bx w S v t) : Bx (w.setCell ⟨S, 0, none⟩ u) S u t := by
  have := heap_setCell_same w S 0 _ _ u h
  exact this
theorem Bx.fr {w w' : World} {P : Nat → Prop} {S : Nat} {v : Value} {t : TypeId} (h : Bx w S v t) (hf : Fr P w w') (hS : ¬ P S) : Bx w' S v t := hf.heap h hS
/-- what the law holds on to -/
structure RnE (w : World) (sw : Nat) (y : Int) (g cap : Nat) (m : List Int) (sv : Nat) (av : Option Addr) (R cv : Nat) (l : List Int) (B gq cq sq : Nat) (W : World) : Prop where
  bel : Below sw w W
  most : Bx W sw (.int .i64 y) 3
  res : Bx W (sw + 1) (.bool false) 4
  mine : OwnB W g cap (m ++ [77])
  bw : Bx W sv (.slice av R cv) 38
  rows : W.ownsRow 0 42 2 (.slice av R cv) R (flatP (runs l))
  seq : SeqAt W B gq cq l
  bs : Bx W sq (.func (.func 20) #[] #[.pointer (some ⟨B, 0, none⟩)]) 25
theorem RnE.on {w : World} {sw : Nat} {y : Int} {g cap : Nat} {m : List Int} {sv : Nat} {av : Option Addr} {R cv : Nat} {l : List Int} {B gq cq sq : Nat} {W W' : World} (h : RnE w sw y g cap m sv av R cv l B gq cq sq W) (hb : Below W.heap.size W W') : RnE w sw y g cap m sv av R cv l B gq cq sq W' :=
  ⟨h.bel.trans (hb.mono (by have := h.most.lt; omega)), h.most.on hb h.most.lt, h.res.on hb h.res.lt, h.mine.on hb, h.bw.on hb h.bw.lt, owns_fr h.rows (below_fr hb (fun _ => False)) (fun _ _ h => h), ⟨(hb.cell (p := ⟨B, 0, none⟩) h.seq.ltB).trans h.seq.box, h.seq.row.on hb⟩, h.bs.on hb h.bs.lt⟩
theorem own_tag {w : World} {e size n : Nat} {v : Value} {xs : List Value} (h : w.ownsRow 0 e size v n xs) {k : Nat} (hk : v.ownBlock = some k) : ∃ cur, w.heap[k]? = some (.cells cur e (0, 0)) := by
  rcases h.2 with ⟨rfl, _⟩ | ⟨g, cap, cur, rfl, _, hg, _⟩
  · cases hk
  · cases hk; exact ⟨cur, hg⟩
theorem KeepsFrom.of_below {n : Nat} {W W' : World} (h : Below W.heap.size W W') : KeepsFrom n W W' := ⟨h.size, fun k _ _ hk _ => (h.block k (heap_lt hk)).trans hk⟩
theorem BoxI.onB {w : World} {S : Nat} {z : Int} {W W' : World} (h : BoxI w S z W) (hb : Below W.heap.size W W') : BoxI w S z W' := by
  have hlt : S < W.heap.size := block_lt_of_cell h.cell
  refine ⟨(hb.cell (p := ⟨S, 0, none⟩) hlt).trans h.cell, (frozen_block (hb.block S hlt)).trans h.frozen, h.fr.trans (below_fr hb (fun _ => False)) (fun _ e => e.elim)⟩
/-- a row came that is none of these -/
def RnX (s : List Int) (_ : Code) (pre : List (Rw s)) (_ : World) : Prop := ¬ (pre.map (·.1) <+: runs s)
theorem RnE.wr {w : World} {sw : Nat} {y : Int} {g cap : Nat} {m m' : List Int} {sv : Nat} {av : Option Addr} {R cv : Nat} {l : List Int} {B gq cq sq : Nat} {W W' : World} (h : RnE w sw y g cap m sv av R cv l B gq cq sq W) (S : Nat) (hF : Fr (fun k => k = S) W W') (hbS : ∃ cur f, W.heap[S]? = some (.cells cur 5 f)) (hs : sw + 2 ≤ S) (h1 : sv ≠ S) (h2 : sq ≠ S) (h3 : B ≠ S) (h4 : gq ≠ S) (hm : OwnB W' g cap (m' ++ [77])) : RnE w sw y g cap m' sv av R cv l B gq cq sq W' := by
  refine ⟨h.bel.trans (hF.below sw (fun k e => by have e : k = S := e; omega) (by have := h.res.lt; omega)), h.most.fr hF (fun e => by have e : sw = S := e; omega), h.res.fr hF (fun e => by have e : sw + 1 = S := e; omega), hm, h.bw.fr hF h1, owns_fr h.rows hF (fun k hk e => ?_), ⟨hF.cell h.seq.box h3, ?_⟩, h.bs.fr hF h2⟩
  · have e : k = S := e
    subst e
    obtain ⟨cur, f, hc⟩ := hbS
    rcases h.rows.2 with ⟨e1, _⟩ | ⟨g', cap', cur', e1, _, hg', _⟩
    · cases e1; cases hk
    · cases e1
      cases hk
      rw [hc] at hg'
      simp at hg'
  · refine ⟨h.seq.row.len, h.seq.row.wf, ?_⟩
    rcases h.seq.row.at_ with e | ⟨b, off, e, hc⟩
    · exact .inl e
    · cases e
      exact .inr ⟨_, _, rfl, fun i hi => hF.cell (hc i hi) h4⟩
/-- what the bytes become -/
def turnF (l l2 : List Int) (i : Nat) : Int := if i < l2.length then nth l2 i else 255 - nth l i
theorem turn_bd {l l2 : List Int} (h : ∀ i, 0 ≤ nth l i ∧ nth l i < 256) (h2 : ∀ i, 0 ≤ nth l2 i ∧ nth l2 i < 256) (i : Nat) : 0 ≤ turnF l l2 i ∧ turnF l l2 i < 256 := by
  unfold turnF
  split
  · exact h2 i
  · have := h i; omega
set_option maxRecDepth 100000 in
set_option maxHeartbeats 16000000 in
theorem runs8_any (w : World) (n c : Nat) (a : Option Addr) (l : List Int) (hb : Bytes w a l) (hn : l.length = n) (hz : a = none → c = 0) (hs : n ≤ 10000000)
    (n2 c2 : Nat) (a2 : Option Addr) (l2 : List Int) (hb2 : Bytes w a2 l2) (hn2 : l2.length = n2) (x : Int) (hx : -9223372036854775808 ≤ x ∧ x ≤ 9223372036854775807) :
    Calls Try.prog 5 #[.slice a n c, .slice a2 n2 c2, .int .i64 x] w fun e w' => e = .returned (.bool true) ∧ Below w.heap.size w w' := by
  refine (callsIn_wide (n := 6)).1 ?_
  have hn2' : n2 ≤ 1000000000000000 := by rw [← hn2]; exact hb2.len
  have HB : Hid (Bytes w a l ∧ l.length = n ∧ (a = none → c = 0) ∧ Bytes w a2 l2 ∧ l2.length = n2) := ⟨hb, hn, hz, hb2, hn2⟩
  clear hb hn hz hb2 hn2
  have E1 := eql_seq
  refine callsIn_of_wp_marks Try.func5 rfl trivial ?_ rfl
  simp only [Try.ntmps5, List.size_toArray, List.length_cons, List.length_nil, Nat.reduceAdd, Nat.reduceSub, Array.replicate_succ, Array.replicate_zero, List.push_toArray, List.append_toArray, List.nil_append, List.cons_append]
  refine wpIn_wide.2 ?_
  obtain ⟨wa, hwa⟩ : ∃ wa, (w.alloc (.cells #[.int .i64 x] 3)).alloc (.cells #[.bool false] 4) = wa := ⟨_, rfl⟩
  obtain ⟨sw, hsw⟩ : ∃ sw, w.heap.size = sw := ⟨_, rfl⟩
  have HA : Hid (Below sw w wa ∧ wa.heap.size = sw + 2 ∧ Bx wa sw (.int .i64 x) 3 ∧ Bx wa (sw + 1) (.bool false) 4) := by
    rw [← hwa, ← hsw]
    refine ⟨((Below.refl _ _).alloc (Nat.le_refl _) _).alloc (by simp) _, by simp, (Below.heap_alloc _ _ _ (by simp)).trans (heap_alloc_new _ _), ?_⟩
    have := heap_alloc_new (w.alloc (.cells #[.int .i64 x] 3)) (.cells #[.bool false] 4)
    rw [World.size_alloc] at this
    exact this
  go_upto_if 20 with (go_at_call 8; refine (fixed_any _).mono ?_; rintro e wb ⟨rfl, hbb⟩; have HBb : Hid (Below sw w wb ∧ Bx wb sw (.int .i64 x) 3 ∧ Bx wb (sw + 1) (.bool false) 4 ∧ sw + 2 ≤ wb.heap.size) := ⟨HA.out.1.trans (hbb.mono (by have := HA.out.2.1; omega)), HA.out.2.2.1.on hbb (by have := HA.out.2.1; omega), HA.out.2.2.2.on hbb (by have := HA.out.2.1; omega), (by have := HA.out.2.1; have := hbb.size; omega)⟩; have hcx : wb.cell? ⟨sw, 0, none⟩ = some (.int .i64 x) := HBb.out.2.1.cell; have hfx : wb.frozen? ⟨sw, 0, none⟩ = false := HBb.out.2.1.frozen; clear hbb)
  go_cut [21] from 21 to 23 (fun _ wx => ∃ y : Int, 0 ≤ y ∧ y ≤ 9223372036854775807 ∧ Below sw w wx ∧ Bx wx sw (.int .i64 y) 3 ∧ Bx wx (sw + 1) (.bool false) 4)
  case first =>
    by_cases h0 : x < 0
    · go_wp2
      go_meet
      case rel => exact ⟨-(x + 1), by omega, by omega, HBb.out.1.setCell (p := ⟨sw, 0, none⟩) (Nat.le_refl _) _, HBb.out.2.1.set, (set_other (by omega)).trans HBb.out.2.2.1⟩
    · go_wp2
      go_meet
      case rel => exact ⟨x, by omega, by omega, HBb.out.1, HBb.out.2.1, HBb.out.2.2.1⟩
  case rest =>
  obtain ⟨y, hy0, hy1, hbc, hbx, hbr⟩ := hcut
  have HC : Hid (Below sw w wc ∧ Bx wc sw (.int .i64 y) 3 ∧ Bx wc (sw + 1) (.bool false) 4) := ⟨hbc, hbx, hbr⟩
  have hsc : sw + 2 ≤ wc.heap.size := by have := hbr.lt; omega
  clear hbc hbx hbr HBb HA hwa
  have HAl : Hid (Below wc.heap.size wc (wc.alloc (.cells #[] 5)) ∧ OwnB (wc.alloc (.cells #[] 5)) wc.heap.size 0 []) := ⟨(Below.refl _ _).alloc (Nat.le_refl _) _, own_empty (heap_alloc_new _ _)⟩
  go_upto_region 6 with (first
    | (at_builtin; refine wp_app rfl (.tmp 24) (.tmp 25) rfl wc.heap.size wc.heap.size 0 0 [] l rfl rfl HAl.out.2 (Nat.le_refl _) HAl.out.1.size a n c rfl HB.out.2.1 (HB.out.1.on (by rw [hsw]; exact HC.out.1.trans (HAl.out.1.mono (by omega)))) HB.out.2.2.1 (by omega) ?_; intro g0 cap0 w1 hg ho hgr; have H1 : Hid (wc.heap.size ≤ g0 ∧ OwnB w1 g0 cap0 l ∧ Below wc.heap.size wc w1) := ⟨hg, ho, HAl.out.1.trans (below_of hgr (Nat.le_refl _) HAl.out.1.size)⟩; clear hg ho hgr)
    | (at_builtin; refine wp_app rfl (.tmp 26) (.tmp 27) rfl wc.heap.size g0 n cap0 l [77] HB.out.2.1 rfl (H1.out.2.1.on ((Below.refl _ _).alloc (Nat.le_refl _) _)) H1.out.1 (Nat.le_trans H1.out.2.2.size (by simp)) (some ⟨w1.heap.size, 0, none⟩) 1 1 rfl rfl ⟨by simp, wf_list (by decide), .inr ⟨_, 0, rfl, fun i hi => by rw [cell_of_row _ _ _ _ _ _ (heap_alloc_new w1 _)]; match i, hi with | 0, _ => rfl⟩⟩ (fun e => by cases e) (by omega) ?_; intro g cap w2 hg ho hgr; have H2 : Hid (wc.heap.size ≤ g ∧ OwnB w2 g cap (l ++ [77]) ∧ Below wc.heap.size wc w2) := ⟨hg, ho, (H1.out.2.2.alloc H1.out.2.2.size _).trans (below_of hgr H1.out.1 (Nat.le_trans H1.out.2.2.size (by simp)))⟩; clear hg ho hgr))
  clear HAl H1
  have hcap : n + 1 ≤ cap := by
    have := H2.out.2.1.room
    rw [List.length_append, HB.out.2.1] at this
    exact this
  have hcap' : n ≤ cap := by omega
  have HD : Hid (Below sw w w2 ∧ Bx w2 sw (.int .i64 y) 3 ∧ Bx w2 (sw + 1) (.bool false) 4 ∧ OwnB w2 g cap (l ++ [77]) ∧ sw + 2 ≤ g) := ⟨HC.out.1.trans (H2.out.2.2.mono (by omega)), HC.out.2.1.on H2.out.2.2 (by omega), HC.out.2.2.on H2.out.2.2 (by omega), H2.out.2.1, by have := H2.out.1; omega⟩
  clear HC H2
  obtain ⟨R, hR⟩ : ∃ R, (runs l).length = R := ⟨_, rfl⟩
  have hRb : R ≤ 80000000 := by have := runs_len l; have := HB.out.2.1; omega
  have HRR : Hid ((runs l).length = R) := hR
  go_upto_region 9 with (first
    | (go_at_call 15; refine (rruns_any w2 a n c l (HB.out.1.on (by rw [hsw]; exact HD.out.1)) HB.out.2.1 hs).mono ?_; rintro e w3 ⟨v, rfl, hv, hb3⟩; obtain ⟨av, cv, rfl⟩ := own_sl hv; rw [hR] at hv ⊢; have H3 : Hid (w3.ownsRow 0 42 2 (.slice av R cv) R (flatP (runs l)) ∧ Below w2.heap.size w2 w3) := ⟨hv, hb3⟩; clear hv hb3)
    | (go_at_call 9; refine (runs_any _ n cap (some ⟨g, 0, none⟩) l (by have h1 := ((HD.out.2.2.2.1.on H3.out.2).on ((Below.refl _ _).alloc (Nat.le_refl _) (.cells #[.slice av R cv] 38))).bytes.take n; rw [List.take_append_of_le_length (by rw [HB.out.2.1]; exact Nat.le_refl _), List.take_of_length_le (by rw [HB.out.2.1]; exact Nat.le_refl _)] at h1; exact h1) HB.out.2.1 (fun e => by cases e) (by omega)).mono ?_; rintro e w4 ⟨B, gq, cq, rfl, hsq, hB1, hg1, hb4⟩; have H4 : Hid (SeqAt w4 B gq cq l ∧ w3.heap.size + 1 ≤ B ∧ w3.heap.size + 1 ≤ gq ∧ Below (w3.heap.size + 1) (w3.alloc (.cells #[.slice av R cv] 38)) w4) := ⟨hsq, (by simpa using hB1), (by simpa using hg1), (by simpa using hb4)⟩; clear hsq hB1 hg1 hb4))
  obtain ⟨w5, hw5⟩ : ∃ w5, w4.alloc (.cells #[.func (.func 20) #[] #[.pointer (some ⟨B, 0, none⟩)]] 25) = w5 := ⟨_, rfl⟩
  obtain ⟨sv, hsv⟩ : ∃ sv, w3.heap.size = sv := ⟨_, rfl⟩
  obtain ⟨sq, hsq⟩ : ∃ sq, w4.heap.size = sq := ⟨_, rfl⟩
  have HE : Hid (Below sw w w5 ∧ Bx w5 sw (.int .i64 y) 3 ∧ Bx w5 (sw + 1) (.bool false) 4 ∧ OwnB w5 g cap (l ++ [77]) ∧ Bx w5 sv (.slice av R cv) 38 ∧ w5.ownsRow 0 42 2 (.slice av R cv) R (flatP (runs l)) ∧ SeqAt w5 B gq cq l ∧ Bx w5 sq (.func (.func 20) #[] #[.pointer (some ⟨B, 0, none⟩)]) 25) := by
    have b3 := H3.out.2
    have b3a : Below w3.heap.size w3 (w3.alloc (.cells #[.slice av R cv] 38)) := (Below.refl _ _).alloc (Nat.le_refl _) _
    have b4 := H4.out.2.2.2
    have b5 : Below w4.heap.size w4 w5 := by rw [← hw5]; exact (Below.refl _ _).alloc (Nat.le_refl _) _
    have b34 : Below w3.heap.size w3 w4 := b3a.trans (b4.mono (by omega))
    have b35 : Below w3.heap.size w3 w5 := b34.trans (b5.mono b34.size)
    have b25 : Below w2.heap.size w2 w5 := b3.trans (b35.mono b3.size)
    have l1 := HD.out.2.2.1.lt
    have n3 : Bx (w3.alloc (.cells #[.slice av R cv] 38)) w3.heap.size (.slice av R cv) 38 := Bx.new _ _ _
    refine ⟨HD.out.1.trans (b25.mono (by omega)), HD.out.2.1.on b25 (by omega), HD.out.2.2.1.on b25 (by omega), HD.out.2.2.2.1.on b25, ?_, owns_fr H3.out.1 (below_fr b35 (fun _ => False)) (fun _ _ h => h), ⟨(b5.cell (p := ⟨B, 0, none⟩) H4.out.1.ltB).trans H4.out.1.box, H4.out.1.row.on b5⟩, ?_⟩
    · rw [← hsv]
      have n4 := n3.on b4 (by omega)
      exact n4.on b5 n4.lt
    · rw [← hw5, ← hsq]; exact Bx.new _ _ _
  rw [hw5]
  have hord : sw + 2 ≤ g ∧ g < sv ∧ sv + 1 ≤ B ∧ sv + 1 ≤ gq ∧ B < sq ∧ gq < sq ∧ sq < w5.heap.size := by
    have h1 := HD.out.2.2.2.1.lt
    have h2 := H3.out.2.size
    refine ⟨HD.out.2.2.2.2, by omega, by rw [← hsv]; exact H4.out.2.1, by rw [← hsv]; exact H4.out.2.2.1, by rw [← hsq]; exact H4.out.1.ltB, by rw [← hsq]; exact H4.out.1.ltg, HE.out.2.2.2.2.2.2.2.lt⟩
  simp only [hsv, hsq]
  clear H3 H4 HD hw5
  have HN : Hid (RnE w sw y g cap l sv av R cv l B gq cq sq w5) := ⟨HE.out.1, HE.out.2.1, HE.out.2.2.1, HE.out.2.2.2.1, HE.out.2.2.2.2.1, HE.out.2.2.2.2.2.1, HE.out.2.2.2.2.2.2.1, HE.out.2.2.2.2.2.2.2⟩
  clear HE
  have hcq := HN.out.bs.cell
  have hln : (l ++ [(77 : Int)]).length = n + 1 := by rw [List.length_append, HB.out.2.1]; rfl
  have d0 : w5.cell? ⟨g, n, none⟩ = some (.int .u8 77) := by
    rw [HN.out.mine.cell n (by omega), ← HB.out.2.1]
    have : nth (l ++ [77]) (l.length + 0) = nth [77] 0 := by simp [nth, List.getD]
    rw [Nat.add_zero] at this
    rw [this]; rfl
  have cS := same8_yes w5 (some ⟨g, 0, none⟩) a n cap c l (by have h1 := HN.out.mine.bytes.take n; rw [List.take_append_of_le_length (by rw [HB.out.2.1]; exact Nat.le_refl _), List.take_of_length_le (by rw [HB.out.2.1]; exact Nat.le_refl _)] at h1; exact h1) (HB.out.1.on (by rw [hsw]; exact HN.out.bel)) HB.out.2.1
  go_upto_region 11 with (go_at_call 16; refine cS.mono ?_; rintro e w' ⟨rfl, mm, rfl⟩)
  clear cS d0 hcq
  obtain ⟨w6, hw6⟩ : ∃ w6, w5.drewN mm = w6 := ⟨_, rfl⟩
  have HN6 : Hid (RnE w sw y g cap l sv av R cv l B gq cq sq w6 ∧ sq < w6.heap.size) := by rw [← hw6]; exact ⟨HN.out.on (drewN_below _ _), hord.2.2.2.2.2.2⟩
  rw [hw6]
  clear HN hw6
  have HAl : Hid (Below w6.heap.size w6 (w6.alloc (.cells #[] 5)) ∧ OwnB (w6.alloc (.cells #[] 5)) w6.heap.size 0 []) := ⟨(Below.refl _ _).alloc (Nat.le_refl _) _, own_empty (heap_alloc_new _ _)⟩
  go_upto_region 12 with (at_builtin; refine wp_app rfl (.tmp 53) (.tmp 54) rfl w6.heap.size w6.heap.size 0 0 [] l rfl rfl HAl.out.2 (Nat.le_refl _) HAl.out.1.size a n c rfl HB.out.2.1 (HB.out.1.on (by rw [hsw]; exact (HN6.out.1.on HAl.out.1).bel)) HB.out.2.2.1 (by omega) ?_; intro g5 cap5 w7 hg ho hgr; have H7 : Hid (w6.heap.size ≤ g5 ∧ OwnB w7 g5 cap5 l ∧ Below w6.heap.size w6 w7) := ⟨hg, ho, HAl.out.1.trans (below_of hgr (Nat.le_refl _) HAl.out.1.size)⟩; clear hg ho hgr)
  have HN7 : Hid (RnE w sw y g cap (ov l 0 0 (turnF l l2)) sv av R cv l B gq cq sq w7 ∧ OwnB w7 g5 cap5 (ov l 0 0 (turnF l l2)) ∧ sq < g5) := by
    rw [ov_zero]
    exact ⟨HN6.out.1.on H7.out.2.2, H7.out.2.1, by have := HN6.out.2; have := H7.out.1; omega⟩
  clear HAl H7 HN6
  go_wp2
  go_loopw [12] (fun s wr => ∃ j : Nat, s = .int .i64 (j : Int) ∧ j ≤ n ∧ RnE w sw y g cap (ov l 0 j (turnF l l2)) sv av R cv l B gq cq sq wr ∧ OwnB wr g5 cap5 (ov l 0 j (turnF l l2))) (fun s _ => n - (intOf s).toNat)
  case atStart => exact ⟨0, rfl, Nat.zero_le _, HN7.out.1, HN7.out.2.1⟩
  case round =>
    obtain ⟨j, rfl, hj, hrn, hox⟩ := hrel
    have HR : Hid (RnE w sw y g cap (ov l 0 j (turnF l l2)) sv av R cv l B gq cq sq wr ∧ OwnB wr g5 cap5 (ov l 0 j (turnF l l2))) := ⟨hrn, hox⟩
    clear hrn hox
    by_cases hlt : j < n
    · have hlt' : (j : Int) < (n : Int) := by omega
      have hq5 := HN7.out.2.2
      by_cases h2 : j < n2
      · have h2' : (j : Int) < (n2 : Int) := by omega
        obtain ⟨b2, o2, rfl, hcz⟩ : ∃ b2 o2, a2 = some ⟨b2, o2, none⟩ ∧ wr.cell? ⟨b2, o2 + j, none⟩ = some (.int .u8 (nth l2 j)) := by
          rcases (HB.out.2.2.2.1.on (by rw [hsw]; exact HR.out.1.bel)).at_ with e | ⟨b, off, e, hc⟩
          · have := HB.out.2.2.2.2; rw [e] at this; simp at this; omega
          · exact ⟨b, off, e, hc j (by rw [HB.out.2.2.2.2]; exact h2)⟩
        obtain ⟨z, hz⟩ : ∃ z, nth l2 j = z := ⟨_, rfl⟩
        rw [hz] at hcz
        have hzb := turn_bd HB.out.1.wf HB.out.2.2.2.1.wf j
        have HZ : Hid (turnF l l2 j = z) := by
          show turnF l l2 j = z
          unfold turnF
          rw [if_pos (by rw [HB.out.2.2.2.2]; exact h2)]; exact hz
        rw [HZ.out] at hzb
        have hol : (ov l 0 j (turnF l l2)).length = n := by rw [ov_length]; exact HB.out.2.1
        have hc5 := HR.out.2.cell j (by omega)
        have hf5 := HR.out.2.frozen j
        have hcg := HR.out.1.mine.cell j (by rw [List.length_append, hol]; omega)
        have hfg := HR.out.1.mine.frozen j
        obtain ⟨v5, hv5⟩ : ∃ v5, nth (ov l 0 j (turnF l l2)) j = v5 := ⟨_, rfl⟩
        obtain ⟨vg, hvg⟩ : ∃ vg, nth (ov l 0 j (turnF l l2) ++ [77]) j = vg := ⟨_, rfl⟩
        rw [hv5] at hc5
        rw [hvg] at hcg
        clear hv5 hvg
        clear hz
        have hg5 : g ≠ g5 := by omega
        go_wp2
        go_round
        case rel =>
          have e1 : (ov l 0 j (turnF l l2)).set j z = ov l 0 (j + 1) (turnF l l2) := by
            have h1 := ov_set l 0 j (turnF l l2) (by rw [Nat.zero_add, HB.out.2.1]; exact hlt)
            rw [Nat.zero_add, HZ.out] at h1
            exact h1
          have o5 := HR.out.2.set j z (by omega) hzb
          rw [e1] at o5
          have f5 : Fr (fun k => k = g5) wr (wr.setCell ⟨g5, j, none⟩ (.int .u8 z)) := Fr.set
          have og := (HR.out.1.mine.frS f5 hg5).set j z (by rw [List.length_append, hol]; omega) hzb
          rw [List.set_append_left _ _ (by omega), e1] at og
          have fg : Fr (fun k => k = g) (wr.setCell ⟨g5, j, none⟩ (.int .u8 z)) ((wr.setCell ⟨g5, j, none⟩ (.int .u8 z)).setCell ⟨g, j, none⟩ (.int .u8 z)) := Fr.set
          have r5 := HR.out.1.wr (m' := ov l 0 j (turnF l l2)) g5 f5 (by obtain ⟨cur, h, _⟩ := HR.out.2.row; exact ⟨cur, _, h⟩) (by omega) (by omega) (by omega) (by omega) (by omega) (HR.out.1.mine.frS f5 hg5)
          exact ⟨j + 1, by go_num, by omega, r5.wr g fg (by obtain ⟨cur, h, _⟩ := r5.mine.row; exact ⟨cur, _, h⟩) (by omega) (by omega) (by omega) (by omega) (by omega) og, o5.frS fg (fun e => hg5 e.symm)⟩
        case measure => simp [intOf]; omega
      · have h2' : ¬ ((j : Int) < (n2 : Int)) := by omega
        obtain ⟨b2, o2, rfl, hcz⟩ : ∃ b2 o2, a = some ⟨b2, o2, none⟩ ∧ wr.cell? ⟨b2, o2 + j, none⟩ = some (.int .u8 (nth l j)) := by
          rcases (HB.out.1.on (by rw [hsw]; exact HR.out.1.bel)).at_ with e | ⟨b, off, e, hc⟩
          · have := HB.out.2.1; rw [e] at this; simp at this; omega
          · exact ⟨b, off, e, hc j (by rw [HB.out.2.1]; exact hlt)⟩
        have hlj := HB.out.1.wf j
        obtain ⟨z, hz⟩ : ∃ z, nth l j = z := ⟨_, rfl⟩
        rw [hz] at hcz hlj
        have hzb := turn_bd HB.out.1.wf HB.out.2.2.2.1.wf j
        have HZ : Hid (turnF l l2 j = 255 - z) := by
          show turnF l l2 j = 255 - z
          unfold turnF
          rw [if_neg (by rw [HB.out.2.2.2.2]; exact h2), hz]
        rw [HZ.out] at hzb
        have hol : (ov l 0 j (turnF l l2)).length = n := by rw [ov_length]; exact HB.out.2.1
        have hc5 := HR.out.2.cell j (by omega)
        have hf5 := HR.out.2.frozen j
        have hcg := HR.out.1.mine.cell j (by rw [List.length_append, hol]; omega)
        have hfg := HR.out.1.mine.frozen j
        obtain ⟨v5, hv5⟩ : ∃ v5, nth (ov l 0 j (turnF l l2)) j = v5 := ⟨_, rfl⟩
        obtain ⟨vg, hvg⟩ : ∃ vg, nth (ov l 0 j (turnF l l2) ++ [77]) j = vg := ⟨_, rfl⟩
        rw [hv5] at hc5
        rw [hvg] at hcg
        clear hv5 hvg
        clear hz
        have hw8 : (255 - z) % 256 = 255 - z := by omega
        have hg5 : g ≠ g5 := by omega
        go_wp2
        go_round
        case rel =>
          have e1 : (ov l 0 j (turnF l l2)).set j (255 - z) = ov l 0 (j + 1) (turnF l l2) := by
            have h1 := ov_set l 0 j (turnF l l2) (by rw [Nat.zero_add, HB.out.2.1]; exact hlt)
            rw [Nat.zero_add, HZ.out] at h1
            exact h1
          have o5 := HR.out.2.set j (255 - z) (by omega) hzb
          rw [e1] at o5
          have f5 : Fr (fun k => k = g5) wr (wr.setCell ⟨g5, j, none⟩ (.int .u8 (255 - z))) := Fr.set
          have og := (HR.out.1.mine.frS f5 hg5).set j (255 - z) (by rw [List.length_append, hol]; omega) hzb
          rw [List.set_append_left _ _ (by omega), e1] at og
          have fg : Fr (fun k => k = g) (wr.setCell ⟨g5, j, none⟩ (.int .u8 (255 - z))) ((wr.setCell ⟨g5, j, none⟩ (.int .u8 (255 - z))).setCell ⟨g, j, none⟩ (.int .u8 (255 - z))) := Fr.set
          have r5 := HR.out.1.wr (m' := ov l 0 j (turnF l l2)) g5 f5 (by obtain ⟨cur, h, _⟩ := HR.out.2.row; exact ⟨cur, _, h⟩) (by omega) (by omega) (by omega) (by omega) (by omega) (HR.out.1.mine.frS f5 hg5)
          exact ⟨j + 1, by go_num, by omega, r5.wr g fg (by obtain ⟨cur, h, _⟩ := r5.mine.row; exact ⟨cur, _, h⟩) (by omega) (by omega) (by omega) (by omega) (by omega) og, o5.frS fg (fun e => hg5 e.symm)⟩
        case measure => simp [intOf]; omega
    · have hlt' : ¬ ((j : Int) < (n : Int)) := by omega
      obtain rfl : j = n := by omega
      obtain ⟨zl, hzl⟩ : ∃ zl, ov l 0 j (turnF l l2) = zl := ⟨_, rfl⟩
      have hq5 := HN7.out.2.2
      have HZl : Hid (RnE w sw y g cap zl sv av R cv l B gq cq sq wr ∧ OwnB wr g5 cap5 zl ∧ zl.length = j ∧ l.length = j) := by
        rw [← hzl]; exact ⟨HR.out.1, HR.out.2, by rw [ov_length]; exact HB.out.2.1, HB.out.2.1⟩
      clear HR HN7 hzl
      have mineB : ∀ W, RnE w sw y g cap zl sv av R cv l B gq cq sq W → Bytes W (some ⟨g, 0, none⟩) zl := fun W h => by
        have h1 := h.mine.bytes.take j
        rw [List.take_append_of_le_length (by rw [HZl.out.2.2.1]; exact Nat.le_refl _), List.take_of_length_le (by rw [HZl.out.2.2.1]; exact Nat.le_refl _)] at h1
        exact h1
      have cR := runs_any wr j cap (some ⟨g, 0, none⟩) zl (mineB wr HZl.out.1) HZl.out.2.2.1 (fun e => by cases e) (by omega)
      obtain ⟨R2, hR2⟩ : ∃ R2, (runs zl).length = R2 := ⟨_, rfl⟩
      have hlb : l.length ≤ 10000000 := by rw [HZl.out.2.2.2]; exact hs
      have hzb : zl.length ≤ 10000000 := by rw [HZl.out.2.2.1]; exact hs
      have HLb : Hid (l.length ≤ 10000000 ∧ zl.length ≤ 10000000) := ⟨hlb, hzb⟩
      clear hlb hzb
      go_upto_region 22 with (first
        | (go_at_call 9; refine cR.mono ?_; rintro e w8 ⟨B2, gq2, cq2, rfl, hs2, _, _, hb8⟩; have H8 : Hid (RnE w sw y g cap zl sv av R cv l B gq cq sq w8 ∧ OwnB w8 g5 cap5 zl ∧ SeqAt w8 B2 gq2 cq2 zl) := ⟨HZl.out.1.on hb8, HZl.out.2.1.on hb8, hs2⟩; have hq8 := H8.out.1.bs.cell; have hv8 := H8.out.1.bw.cell; clear hs2 hb8)
        | (go_at_call 17; have hh := H8.out; clear hh; refine (goes_any w8 B gq cq l H8.out.1.seq HLb.out.1 (.slice av R cv) (by unfold Pairs; rw [HRR.out]; exact H8.out.1.rows) ((R : Int) + 1) (by omega)).mono ?_; rintro e w9 ⟨rfl, hb9⟩; have H9 : Hid (RnE w sw y g cap zl sv av R cv l B gq cq sq w9 ∧ OwnB w9 g5 cap5 zl ∧ SeqAt w9 B2 gq2 cq2 zl) := ⟨H8.out.1.on hb9, H8.out.2.1.on hb9, ⟨(hb9.cell (p := ⟨B2, 0, none⟩) H8.out.2.2.ltB).trans H8.out.2.2.box, H8.out.2.2.row.on hb9⟩⟩; clear hb9 hq8 hv8 H8)
        | (go_at_call 15; have hh := H9.out; clear hh; refine (rruns_any w9 (some ⟨g5, 0, none⟩) j cap5 zl H9.out.2.1.bytes HZl.out.2.2.1 hs).mono ?_; rintro e w10 ⟨v2, rfl, hv2, hb10⟩; obtain ⟨av2, cv2, rfl⟩ := own_sl hv2; have H10 : Hid (RnE w sw y g cap zl sv av R cv l B gq cq sq w10 ∧ OwnB w10 g5 cap5 zl ∧ SeqAt w10 B2 gq2 cq2 zl ∧ Pairs w10 (.slice av2 (runs zl).length cv2) (runs zl)) := ⟨H9.out.1.on hb10, H9.out.2.1.on hb10, ⟨(hb10.cell (p := ⟨B2, 0, none⟩) H9.out.2.2.ltB).trans H9.out.2.2.box, H9.out.2.2.row.on hb10⟩, hv2⟩; rw [hR2] at H10 ⊢; clear hb10 hv2 H9)
        | (go_at_call 17; have hh := H10.out; clear hh; refine (goes_any w10 B2 gq2 cq2 zl H10.out.2.2.1 HLb.out.2 (.slice av2 R2 cv2) H10.out.2.2.2 (8 * (j : Int) + 1) (by omega)).mono ?_; rintro e w11 ⟨rfl, hb11⟩; have H11 : Hid (RnE w sw y g cap zl sv av R cv l B gq cq sq w11 ∧ OwnB w11 g5 cap5 zl) := ⟨H10.out.1.on hb11, H10.out.2.1.on hb11⟩; have hq11 := H11.out.1.bs.cell; have hv11 := H11.out.1.bw.cell; have hy11 := H11.out.1.most.cell; clear hb11 H10)
        | (go_at_call 17; have hh := H11.out; clear hh; refine (goes_any w11 B gq cq l H11.out.1.seq HLb.out.1 (.slice av R cv) (by unfold Pairs; rw [HRR.out]; exact H11.out.1.rows) (y % 5) (by omega)).mono ?_; rintro e w12 ⟨rfl, hb12⟩; have H12 : Hid (RnE w sw y g cap zl sv av R cv l B gq cq sq w12 ∧ OwnB w12 g5 cap5 zl) := ⟨H11.out.1.on hb12, H11.out.2.on hb12⟩; clear hb12 hq11 hv11 hy11 H11))
      have HLz : Hid (zl.length = j) := HZl.out.2.2.1
      clear cR HZl hlt hlt'
      have hq12 := H12.out.1.bs.cell
      have hn8 : Below w12.heap.size w12 (w12.alloc (.cells #[.int .i64 0] 3)) := (Below.refl _ _).alloc (Nat.le_refl _) _
      obtain ⟨wz, hwz⟩ : ∃ wz, w12.alloc (.cells #[.int .i64 0] 3) = wz := ⟨_, rfl⟩
      obtain ⟨sn, hsn⟩ : ∃ sn, w12.heap.size = sn := ⟨_, rfl⟩
      rw [hwz] at hn8
      have HZ : Hid (RnE w sw y g cap zl sv av R cv l B gq cq sq wz ∧ OwnB wz g5 cap5 zl ∧ Bx wz sn (.int .i64 0) 3 ∧ wz.heap.size = sn + 1 ∧ sq < sn ∧ sw + 1 < sn ∧ g5 < sn ∧ zl.length = j) := ⟨H12.out.1.on hn8, H12.out.2.on hn8, by rw [← hwz, ← hsn]; exact Bx.new _ _ _, by rw [← hwz, ← hsn]; simp, by rw [← hsn]; exact H12.out.1.bs.lt, by rw [← hsn]; exact H12.out.1.res.lt, by rw [← hsn]; exact H12.out.2.lt, HLz.out⟩
      have HWZ : Hid (w12.alloc (.cells #[.int .i64 0] 3) = wz) := hwz
      have hqz : (w12.alloc (.cells #[.int .i64 0] 3)).cell? ⟨sq, 0, none⟩ = some (.func (.func 20) #[] #[.pointer (some ⟨B, 0, none⟩)]) := by rw [hwz]; exact HZ.out.1.bs.cell
      clear hq12 hwz
      go_wp2
      rw [HWZ.out]
      clear hqz
      refine (wpIn_wide (n := 6)).1 ?_
      have hsz := HZ.out.2.2.2.1
      have E42 := neq42
      have hnS : ∀ q, q < sn → ¬ (q = sn ∨ wz.heap.size ≤ q) := fun q hq => by omega
      have HO : Hid (sq < sn ∧ sw + 1 < sn ∧ g5 < sn ∧ B < sn ∧ gq < sn ∧ sv < sn) := ⟨HZ.out.2.2.2.2.1, HZ.out.2.2.2.2.2.1, HZ.out.2.2.2.2.2.2.1, by have := HZ.out.2.2.2.2.1; omega, by have := HZ.out.2.2.2.2.1; omega, by have := HZ.out.2.2.2.2.1; omega⟩
      have env : ∀ (q : Int) W, BoxI wz sn q W → RnE w sw y g cap zl sv av R cv l B gq cq sq W ∧ OwnB W g5 cap5 zl := fun q W h => by
        have hb : Below sn wz W := h.fr.below sn (fun k e => by rcases e with e | e <;> omega) (by omega)
        have h5 := HZ.out.2.1
        have r := HZ.out.1
        have o := HO.out
        have hm : g < sn := by omega
        obtain ⟨c1, e1, e2, e3⟩ := h5.row
        obtain ⟨c2, d1, d2, d3⟩ := r.mine.row
        refine ⟨⟨r.bel.trans (hb.mono (by omega)), r.most.on hb (by omega), r.res.on hb (by omega), ⟨⟨c2, (hb.block g hm).trans d1, d2, d3⟩, r.mine.len, r.mine.room, r.mine.top, r.mine.wf⟩, r.bw.on hb (by omega), ?_, ⟨(hb.cell (p := ⟨B, 0, none⟩) (by show B < sn; omega)).trans r.seq.box, ?_⟩, r.bs.on hb (by omega)⟩, ⟨⟨c1, (hb.block g5 (by omega)).trans e1, e2, e3⟩, h5.len, h5.room, h5.top, h5.wf⟩⟩
        · refine owns_fr r.rows h.fr (fun k hk e => ?_)
          have hk2 := owns_block r.rows hk
          have hk3 : k ≠ sn := fun e2 => by
            obtain ⟨cur, h4⟩ := own_tag r.rows hk
            have h3 : wz.heap[sn]? = some (.cells #[.int .i64 0] 3 (0, 0)) := HZ.out.2.2.1
            rw [e2, h3] at h4
            simp at h4
          rcases e with e | e
          · exact hk3 e
          · omega
        · refine ⟨r.seq.row.len, r.seq.row.wf, ?_⟩
          rcases r.seq.row.at_ with e | ⟨b, off, e, hc⟩
          · exact .inl e
          · cases e
            exact .inr ⟨_, _, rfl, fun i hi => (hb.cell (by show gq < sn; omega)).trans (hc i hi)⟩
      refine wpIn_rangeFunc_ownG (n := 6) rfl (by omega) (gf := 20) (lb := #[.pointer (some ⟨B, 0, none⟩)]) rfl trivial (enters_of Try.func20 (by kernel_rfl) rfl)
        (runs_stops B gq cq l wz HZ.out.1.seq (by have := HLb.out.1; omega)) (fun h k => h.trans k) (KpB.put (by have := HO.out; omega) (by have := HO.out; omega)) (Below.refl _ _) (fun _ => rfl)
        (GoI wz sn l) (RnX l) (GoI.own wz sn l (by omega)) (fun _ _ _ _ _ hs _ _ => hs) ⟨⟨HZ.out.2.2.1.cell, HZ.out.2.2.1.frozen, Fr.refl _ _⟩, by exact List.nil_prefix⟩ ?a1 ?assign ?body ?done ?stop
      case assign =>
        intro l x W K hK
        gi_wp2
        exact hK
      case stop =>
        rintro D c pre W hD hS hX hK
        exact absurd hS hX
      case body =>
        rintro lp pre ⟨⟨at_, k⟩, hxm⟩ W ⟨hI, hpre⟩ hlt
        rw [HRR.out] at hlt
        have htop := (runs_row hxm).top
        have hcn := hI.cell
        have hfn := hI.frozen
        obtain ⟨i, hi⟩ : ∃ i, pre.length = i := ⟨_, rfl⟩
        rw [hi] at hcn hlt hI
        have he := env _ W hI
        have hcw := he.1.bw.cell
        have hcy := he.1.most.cell
        have hcs := he.1.bs.cell
        have hcr := he.1.res.cell
        have hfr := he.1.res.frozen
        have hPw := he.1.rows
        obtain ⟨gv, hgv⟩ := own_at hPw (by omega)
        rw [hgv] at hPw hcw
        obtain ⟨p, hp⟩ : ∃ p, (runs l)[i]? = some p := ⟨(runs l)[i]'(by rw [HRR.out]; exact hlt), List.getElem?_eq_getElem _⟩
        have hg1 := (hPw.cellAt (i * 2) (by omega)).trans (flatP_get _ i p hp).1
        have hg2 := (hPw.cellAt (i * 2 + 1) (by omega)).trans (flatP_get _ i p hp).2
        have htop2 := (runs_row (List.mem_of_getElem? hp)).top
        obtain ⟨p1, p2⟩ := p
        dsimp only at hg1 hg2 htop2 htop
        have HI : Hid (BoxI wz sn (i : Int) W ∧ pre.length = i) := ⟨hI, hi⟩
        have hnx : Hid ((pre.map (·.1) ++ [(at_, k)] <+: runs l) ↔ (at_, k) = (p1, p2)) := pre_next hpre (by rw [List.length_map, hi]; exact hp)
        have HGo : Hid (CallsIn Fence.wide 3 Try.prog 17 #[.func (.func 20) #[] #[.pointer (some ⟨B, 0, none⟩)], .slice (some ⟨gv, 0, none⟩) R cv, .int .i64 ((R : Int) + 1)] W fun e w' => e = .returned (.bool true) ∧ Below W.heap.size W w') := callsIn_wide.2 (goes_any W B gq cq l he.1.seq HLb.out.1 (.slice (some ⟨gv, 0, none⟩) R cv) (by unfold Pairs; rw [HRR.out]; exact hPw) ((R : Int) + 1) (by omega))
        have HEn : Hid (RnE w sw y g cap zl sv av R cv l B gq cq sq W) := he.1
        clear hI hpre hi hp hPw he
        have hjR : ¬ ((R : Int) ≤ (i : Int)) := by omega
        have hfg : Fence.wide.fn 17 := trivial
        have hlb := HLb.out.1
        have ho := HO.out
        by_cases heq : at_ = p1 ∧ k = p2
        · obtain ⟨rfl, rfl⟩ := heq
          by_cases hmo : (i : Int) = y % 3
          · have hmo' : ((i : Int) == y % 3) = true := beq_iff_eq.2 hmo
            clear hmo
            gi_wp2_with (gi_at_call 17; refine (CallsIn.inRound lp HGo.out).mono ?_; rintro e W2 ⟨rfl, hb2⟩; have hcn2 := (hb2.cell (p := ⟨sn, 0, none⟩) (block_lt_of_cell hcn)).trans hcn; have hfn2 := (frozen_block (hb2.block sn (block_lt_of_cell hcn))).trans hfn; have H2 : Hid (Below W.heap.size W W2) := hb2; clear hb2)
            have hm2 : KeepsFrom wz.heap.size W W2 := KeepsFrom.of_below H2.out
            have hk2 : KpB B gq W W2 := KpB.of_below H2.out HEn.out.seq.ltB HEn.out.seq.ltg
            refine ⟨?k1, ?k2, ?k3, ?k4⟩
            case k1 => exact hm2.trans ((KeepsOthers.setCell _ _ _).from _)
            case k2 => exact hk2.trans ⟨set_other (by omega), set_other (by omega)⟩
            case k3 =>
              rw [List.length_append, HI.out.2]
              exact (HI.out.1.onB H2.out).set _
            case k4 =>
              rw [List.map_append]
              first | exact hnx.out.2 rfl | exact hnx.out.2 trivial
          · have hmo' : ((i : Int) == y % 3) = false := beq_eq_false_iff_ne.2 hmo
            clear hmo
            gi_wp2
            refine ⟨?k1, ?k2, ?k3, ?k4⟩
            case k1 => exact (KeepsOthers.setCell _ _ _).from _
            case k2 => exact ⟨set_other (by omega), set_other (by omega)⟩
            case k3 =>
              rw [List.length_append, HI.out.2]
              exact HI.out.1.set _
            case k4 =>
              rw [List.map_append]
              first | exact hnx.out.2 rfl | exact hnx.out.2 trivial
        · have hne : (!(decide ((p1 : Int) = (at_ : Int)) && decide ((p2 : Int) = (k : Int)))) = true := by
            simp only [Bool.not_eq_true', Bool.and_eq_false_iff, decide_eq_false_iff_not]
            omega
          have hxi : RnX l .ret (pre ++ [(⟨(at_, k), hxm⟩ : Rw l)]) (W.setCell ⟨sw + 1, 0, none⟩ (.bool false)) := by
            unfold RnX
            rw [List.map_append]
            exact fun h => heq (by have := hnx.out.1 h; simp at this; exact this)
          clear heq
          gi_wp2
          exact ⟨(KeepsOthers.setCell _ _ _).from _, hxi⟩
      case done =>
        rintro D ys W hD hS ⟨hI, hpre⟩ hK
        have hyl : ys.length = R := by rw [← HRR.out, ← hS, List.length_map]
        rw [hyl] at hI
        clear hyl hS hpre
        have he := env _ W hI
        have hcn := hI.cell
        have hcw := he.1.bw.cell
        have hcr := he.1.res.cell
        have hfr := he.1.res.frozen
        have HK : Hid (W.heap[D]? = some (.deferred (some [])) ∧ Below sw w W ∧ RnE w sw y g cap zl sv av R cv l B gq cq sq W ∧ OwnB W g5 cap5 zl) := ⟨hK, he.1.bel, he.1, he.2⟩
        have ho := HO.out
        clear hK he hI env
        have cS := same8_yes W (some ⟨g, 0, none⟩) (some ⟨g5, 0, none⟩) j cap cap5 zl (mineB W HK.out.2.2.1) HK.out.2.2.2.bytes HLz.out
        go_wp2_with (go_at_call 16; refine cS.mono ?_; rintro e w' ⟨rfl, m9, rfl⟩)
        have hK' : ((W.drewN m9).setCell ⟨sw + 1, 0, none⟩ (.bool true)).heap[D]? = some (.deferred (some [])) := (set_other (by omega)).trans HK.out.1
        have hc5 := cell_kept (World.cell?_setCell_same' (W.drewN m9) ⟨sw + 1, 0, none⟩ (.bool true) (by show (W.cell? _).isSome = true; rw [hcr]; rfl)) (grownBy_putObj' _ D (.deferred none)) (fun r e => by cases e; exact ⟨_, hK', rfl⟩)
        refine ⟨by simp, .inl ⟨_, _, rfl, run_takeDeferred hK', ?_⟩⟩
        refine ⟨.bool true, ?_, rfl, by first | exact ((HK.out.2.1.trans (belowN_drewN _ _ m9)).setCell (p := ⟨sw + 1, 0, none⟩) (by show sw ≤ sw + 1; omega) _).trans (belowK_b (w := w) (by omega) _ D _ _ (by omega) hK' rfl rfl) | (rw [hsw]; exact ((HK.out.2.1.trans (belowN_drewN _ _ m9)).setCell (p := ⟨sw + 1, 0, none⟩) (by show sw ≤ sw + 1; omega) _).trans (belowK_b (w := w) (by omega) _ D _ _ (by omega) hK' rfl rfl))⟩
        simp [results, Try.f5, go_sem, hc5]
end Go.Proofs.Ytlgjkmfekkegbaa
