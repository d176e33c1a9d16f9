import Derived.Test.YtleakaddlgpamaaDoorKInL
import Derived.Laws.IdiomCopy
import Derived.Test.YtleakaddlgpamaaDoorKTxG
namespace Go.Proofs.YtleakaddlgpamaaDoor
open Go.RowKit Go.Maps Rec

/-- a play -/
def PlAt (w : World) (p n d r t rt : Nat) : Prop := w.heap[p]? = some (.cells #[.int .i64 (n : Int), .int .i64 98, .int .i64 (gI n), .int .i64 (gD n), .int .i64 (gC n), .pointer (some ⟨d, 0, none⟩), .pointer (some ⟨r, 0, none⟩), .pointer (some ⟨t, 0, none⟩), .pointer (some ⟨rt, 0, none⟩), .slice none 0 0] 51 (0, 0))
theorem PlAt.on {w w' : World} {p n d r t rt : Nat} (h : PlAt w p n d r t rt) (hb : Below w.heap.size w w') : PlAt w' p n d r t rt := (hb.block p (heap_lt h)).trans h
theorem PlAt.cells {w : World} {p n d r t rt : Nat} (h : PlAt w p n d r t rt) : w.cell? ⟨p, 0, none⟩ = some (.int .i64 (n : Int)) ∧ w.cell? ⟨p, 1, none⟩ = some (.int .i64 98) ∧ w.cell? ⟨p, 2, none⟩ = some (.int .i64 (gI n)) ∧ w.cell? ⟨p, 3, none⟩ = some (.int .i64 (gD n)) ∧ w.cell? ⟨p, 4, none⟩ = some (.int .i64 (gC n)) ∧ w.cell? ⟨p, 7, none⟩ = some (.pointer (some ⟨t, 0, none⟩)) := by
  have hc := fun j => cell_of_row _ _ j _ _ _ h
  exact ⟨hc 0, hc 1, hc 2, hc 3, hc 4, hc 7⟩
theorem ptr_neqT (w : World) (p : Addr) : (binOp .neq 47 (.pointer (some p)) (.pointer none)).run Tryd.prog w = .ok (.bool true) w := by
  have h : ∀ d : Nat, (Op.equalIn (d + 1) 47 (.pointer (some p)) (.pointer none)).run Tryd.prog w = .ok false w := fun d => by
    simp [Op.equalIn, run_underlying Tryd.underlying47]
  simp only [binOp]
  simp [Op.equal, Op.maxDepth, h 9999]
set_option maxRecDepth 100000 in
set_option maxHeartbeats 8000000 in
theorem start0 (w : World) (hT : TabAt w) (m : Nat) (hm : m < 300) :
    Calls Tryd.prog 13 #[.int .i64 (m : Int), .slice none 0 0] w fun e w' => ∃ p d r rt D T, e = .returned (.tuple #[.pointer (some ⟨p, 0, none⟩), .bool true]) ∧ Tb w w' D T (128 + m) (fun _ => z15) 0 ∧ PlAt w' p (128 + m) d r T.t rt ∧ (¬ T.all p) ∧ (¬ D.all p) ∧ w.heap.size ≤ p := by
  have hptr := ptr_nil
  have hptT := ptr_neqT
  obtain ⟨n, hn⟩ : ∃ n, 128 + m = n := ⟨_, rfl⟩
  rw [hn]
  have hn1 : 128 ≤ n ∧ n ≤ 427 := by omega
  have hI := nM_bd (n := n) (by omega) (by omega)
  have HMd : Hid (∀ wx, Calls Tryd.prog 11 #[.int .i64 (m : Int), .int .i64 4096] wx fun e w' => e = .returned (.int .i64 (m : Int)) ∧ wx = w') := fun wx => by
    have := imod_any wx (m : Int) 4096 (by omega) (by omega)
    rw [show (m : Int) % ((4096 : Nat) : Int) = (m : Int) by omega] at this
    exact this
  have hmn : (128 : Int) + (m : Int) = (n : Int) := by omega
  have HOf : Hid (∀ wx, Calls Tryd.prog 20 #[.int .i64 (n : Int)] wx fun e w' => e = .returned (.tuple #[.agg #[.int .i64 (n : Int), .int .i64 98, .int .i64 (gI n), .int .i64 (gD n), .int .i64 (gC n)], .int .i64 0]) ∧ Below wx.heap.size wx w') := fun wx => rof_ok wx n (isLen_yes (by omega))
  obtain ⟨K, hK⟩ : ∃ K, 512 * n = K := ⟨_, rfl⟩
  have hK' : (512 : Int) * (n : Int) = (K : Int) := by omega
  obtain ⟨o, E2, ho⟩ := makeN K (by omega)
  have HO : Hid (∀ w : World, OwnB (w.alloc o) w.heap.size K (zn K)) := ho
  have HOp : Hid (∀ wx g, OwnB wx g K (zn K) → Calls Tryd.prog 31 #[.slice (some ⟨g, 0, none⟩) K K] wx fun e w' => ∃ D, e = .returned (.tuple #[.pointer (some ⟨D.d, 0, none⟩), .int .i64 0]) ∧ Mine wx w' D ∧ Fresh D.abs n (zn K)) := fun wx g hg => by
    have := open_fresh wx ⟨g, 0, none⟩ K n (zn K) hg.bytes (by rw [zn_length]; omega) (by omega) (by omega)
    rw [hK] at this
    exact this
  have HR3 : Hid (∀ wx g, OwnB wx g K (zn K) → Calls Tryd.prog 32 #[.slice (some ⟨g, 0, none⟩) K K] wx fun e w' => ∃ r, e = .returned (.tuple #[.pointer (some ⟨r, 0, none⟩), .int .i64 0]) ∧ Below wx.heap.size wx w') := fun wx g hg => by
    have := r3of_any wx ⟨g, 0, none⟩ n K (zn K) hg.bytes (by rw [zn_length]; omega) (by omega) (by omega)
    rw [hK] at this
    exact this
  have HBeg : Hid (∀ wx d, Calls Tryd.prog 21 #[.pointer (some ⟨d, 0, none⟩)] wx fun e w' => ∃ T, e = .returned (.pointer (some ⟨T.t, 0, none⟩)) ∧ TMine wx w' T ∧ T.d = d ∧ T.nb = n ∧ T.c = (fun _ => none) ∧ T.us = []) := fun wx d => begin_any wx d n (by omega)
  have HR6 : Hid (∀ wx r, Calls Tryd.prog 33 #[.pointer (some ⟨r, 0, none⟩)] wx fun e w' => ∃ t, e = .returned (.pointer (some ⟨t, 0, none⟩)) ∧ Below wx.heap.size wx w') := fun wx r => r6begin_any wx r
  obtain ⟨I5, hI5⟩ : ∃ I5, 512 * (98 + nM n) = I5 := ⟨_, rfl⟩
  obtain ⟨D5, hD5⟩ : ∃ D5, 512 * nD n = D5 := ⟨_, rfl⟩
  have eI : (512 : Int) * gI (n : Int) = (I5 : Int) := by rw [gI_nat]; omega
  have eD : (512 : Int) * gD (n : Int) = (D5 : Int) := by rw [gD_nat]; omega
  have hID : I5 ≤ D5 ∧ D5 ≤ K ∧ I5 < K := by omega
  have HT : Hid (TabAt w) := hT
  have HKn : Hid (512 * n = K) := hK
  clear hT hK ho hI5 hD5 hI hn
  go_enter Tryd.func13, Tryd.ntmps13
  go_upto_region 4 with (first
    | (go_at_call 11; refine (HMd.out _).mono ?_; rintro e w' ⟨rfl, rfl⟩; clear HMd)
    | (go_at_call 20; refine (HOf.out _).mono ?_; rintro e w1 ⟨rfl, h1⟩; have H1 : Hid (Below w.heap.size w w1) := h1; clear h1 HOf))
  obtain ⟨P, hP⟩ : ∃ P, w1.heap.size = P := ⟨_, rfl⟩
  obtain ⟨w2, hw2⟩ : ∃ w2, w1.alloc (.cells #[.int .i64 (n : Int), .int .i64 98, .int .i64 (gI n), .int .i64 (gD n), .int .i64 (gC n)] 44) = w2 := ⟨_, rfl⟩
  have H2 : Hid (Below w.heap.size w w2 ∧ GeoAt w2 P n) := by
    rw [← hw2, ← hP]
    exact ⟨H1.out.alloc H1.out.size _, heap_alloc_new _ _⟩
  rw [hw2, hP]
  clear hw2
  obtain ⟨g0, g1, g2, g3, g4⟩ := H2.out.2.cells
  go_upto_region 5 with (fail)
  obtain ⟨G, hG⟩ : ∃ G, w2.heap.size = G := ⟨_, rfl⟩
  obtain ⟨w3, hw3⟩ : ∃ w3, w2.alloc o = w3 := ⟨_, rfl⟩
  have H3 : Hid (Below w.heap.size w w3 ∧ GeoAt w3 P n ∧ OwnB w3 G K (zn K)) := by
    have hb : Below w2.heap.size w2 w3 := by rw [← hw3]; exact (Below.refl _ _).alloc (Nat.le_refl _) _
    refine ⟨H2.out.1.trans (hb.mono H2.out.1.size), H2.out.2.on hb, ?_⟩
    rw [← hw3, ← hG]; exact HO.out _
  rw [hw3, hG]
  clear hw3 E2 HO
  obtain ⟨i0, i1, i2, i3, i4⟩ := H3.out.2.1.cells
  have EC : ∀ ad dl dc, (Builtin.copy_ #[25, 25] 3 #[.slice ad dl dc, .slice none 0 0]).run Tryd.prog w3 = .ok (.int .i64 0) w3 := fun ad dl dc => run_copy_none w3 _ _ _ 5 ad none dl dc 0 0 Tryd.underlying25 sizeU8 (by simp)
  go_upto_region 11 with (first
    | (go_at_call 31; refine (HOp.out _ G H3.out.2.2).mono ?_; rintro e w4 ⟨D, rfl, h1, h2⟩; have H4 : Hid (Mine w w4 D ∧ Fresh D.abs n (zn K) ∧ GeoAt w4 P n ∧ OwnB w4 G K (zn K)) := ⟨h1.far' H3.out.1, h2, H3.out.2.1.on h1.bel, H3.out.2.2.on h1.bel⟩; clear h1 h2 HOp)
    | (go_at_call 32; refine (HR3.out _ G H4.out.2.2.2).mono ?_; rintro e w5 ⟨r, rfl, h1⟩; have H5 : Hid (Mine w w5 D ∧ GeoAt w5 P n) := ⟨H4.out.1.on h1, H4.out.2.2.1.on h1⟩; clear h1 HR3)
    | (go_at_call 21; refine (HBeg.out _ _).mono ?_; rintro e w6 ⟨T, rfl, h1, h2, h3, h4, h5⟩; have H6 : Hid (Tb w w6 D T n (fun _ => z15) 0 ∧ GeoAt w6 P n) := (by have hs := ses_begin H5.out.1 h1 h2 (h3.trans (show D.nb = n from H4.out.2.1.size).symm); exact ⟨tb_start HT.out hs (by rw [H4.out.2.1.full, HKn.out]; rfl) H4.out.2.1.down h4 h5 h3 (by omega) (by omega), H5.out.2.on h1.bel⟩); clear h1 h2 h3 h4 h5 HBeg))
  obtain ⟨k0, k1, k2, k3, k4⟩ := H6.out.2.cells
  have HD : Hid (Below w6.heap.size w6 w6.drew) := (Below.refl _ _).drew
  go_region_held3 (fun w' => w'.cell? ⟨P, 0, none⟩ = some (.int .i64 (n : Int)) ∧ w'.cell? ⟨P, 1, none⟩ = some (.int .i64 98) ∧ w'.cell? ⟨P, 2, none⟩ = some (.int .i64 (gI n)) ∧ w'.cell? ⟨P, 3, none⟩ = some (.int .i64 (gD n)) ∧ w'.cell? ⟨P, 4, none⟩ = some (.int .i64 (gC n))) (go_keep)
    (first | (go_at_call 33; refine (HR6.out _ _).mono ?_; rintro e w7 ⟨rt, rfl, h1⟩; have H7 : Hid (Below w6.heap.size w6 w7) := HD.out.trans (h1.mono HD.out.size); obtain ⟨m0, m1, m2, m3, m4⟩ := (H6.out.2.on H7.out).cells; clear h1))
  all_goals
    go_wp2
    go_ret2
    have hb : Below w6.heap.size w6 (w7.alloc (.cells #[.int .i64 (n : Int), .int .i64 98, .int .i64 (gI n), .int .i64 (gD n), .int .i64 (gC n), .pointer (some ⟨D.d, 0, none⟩), .pointer (some ⟨r, 0, none⟩), .pointer (some ⟨T.t, 0, none⟩), .pointer (some ⟨rt, 0, none⟩), .slice none 0 0] 51)) := H7.out.alloc H7.out.size _
    refine ⟨w7.heap.size, D.d, r, rt, D, T, rfl, H6.out.1.on hb, heap_alloc_new _ _, fun e => ?_, fun e => ?_, ?_⟩
    · have := H6.out.1.spc.ses.tx.lt e
      have := H7.out.size
      omega
    · have := H6.out.1.spc.ses.dk.disk.allLt e
      have := H7.out.size
      omega
    · have := H6.out.1.spc.ses.bel.size
      have := H7.out.size
      omega
end Go.Proofs.YtleakaddlgpamaaDoor

namespace Go.Proofs.YtleakaddlgpamaaDoor
open Go.RowKit Go.Maps Go.Sort Go.Shelf Rec

theorem written_over (w : World) (t : Nat) (h : OverAt w t) :
    Calls Tryd.prog 41 #[.pointer (some ⟨t, 0, none⟩)] w fun e w' => e = .returned (.slice none 0 0) ∧ Below w.heap.size w w' := by
  refine (callsIn_wide (n := 6)).1 ?_
  have hc1 : w.cell? ⟨t, 1, none⟩ = some (.map none) := cell_of_row _ _ _ _ _ _ h
  have hseq : SeqGives Fence.wide 2 Tryd.prog 70 #[.pointer (some ⟨w.heap.size, 0, none⟩)] encZ (fun ss : List Int => ss = []) 0 (w.alloc (.cells #[.map none] 85)) :=
    AnyZI.keys_gives_nil (ρ := keysA_ren) { keysA with } Fence.wide _ trivial rfl w.heap.size _ (by simp) (by simp)
  have cK : ∀ mb W, CallsIn Fence.wide 5 Tryd.prog 61 #[.map mb] W fun e w' => e = .returned (.func (.func 70) #[] #[.pointer (some ⟨W.heap.size, 0, none⟩)]) ∧ w' = W.alloc (.cells #[.map mb] 85) := fun mb W => AnyZI.keys_in keysA Fence.wide 5 trivial rfl mb W
  have cS := AnyZI.sorted_in sortedA Fence.wide 5 trivial trivial trivial trivial rfl (by omega) (sortsA _) (enters_of Tryd.func69 (by kernel_rfl) rfl) 70 #[.pointer (some ⟨w.heap.size, 0, none⟩)] trivial (enters_of Tryd.func70 (by kernel_rfl) rfl) _ 0 (Nat.zero_le _) (by omega) _ hseq
  change CallsIn _ _ Tryd.prog 60 _ _ _ at cS
  have hfK : Fence.wide.fn 61 := trivial
  have hfS : Fence.wide.fn 60 := trivial
  clear hseq h
  refine callsIn_of_wp Tryd.func41 rfl trivial ?_ rfl
  simp only [Tryd.ntmps41, List.size_toArray, List.length_cons, List.length_nil, Nat.reduceAdd, Nat.reduceSub, Array.replicate_succ, Array.replicate_zero, List.push_toArray, List.append_toArray, List.nil_append, List.cons_append]
  gi_wp2_with (first
    | (gi_at_call 61; refine (cK _ _).mono ?_; rintro e w' ⟨rfl, rfl⟩)
    | (gi_at_call 60; refine cS.mono ?_; rintro e w' ⟨v, ss, rfl, rfl, hrow, hnil, hb⟩; obtain rfl : v = .slice none 0 0 := hnil.2 rfl))
  go_ret
  exact ⟨rfl, ((Below.refl _ w).alloc (Nat.le_refl _) _).trans (hb.mono (by simp))⟩
/-- numbers in memory -/
def IntsAt (w : World) (v : Value) (l : List Int) : Prop := ∃ a c, v = .slice a l.length c ∧ (l = [] ∨ ∃ g, a = some ⟨g, 0, none⟩ ∧ ∀ j x, l[j]? = some x → w.cell? ⟨g, j, none⟩ = some (.int .i64 x))
theorem IntsAt.on {w w' : World} {v : Value} {l : List Int} (h : IntsAt w v l) (hb : Below w.heap.size w w') : IntsAt w' v l := by
  obtain ⟨a, c, rfl, hl⟩ := h
  refine ⟨a, c, rfl, hl.imp id ?_⟩
  rintro ⟨g, rfl, hc⟩
  exact ⟨g, rfl, fun j x hx => (hb.cell (block_lt_of_cell (hc j x hx))).trans (hc j x hx)⟩
theorem ints_of {B : Nat} {w : World} {v : Value} {l : List Int} {n : Nat} (h : w.ownsRow B 3 1 v n (l.map (Value.int .i64))) (hn : l.length = n) : IntsAt w v l := by
  subst hn
  rcases h.2 with ⟨rfl, h0⟩ | ⟨g, cap, cur, rfl, h1, hg, h2, h3, h4, h5⟩
  · exact ⟨none, 0, by rw [h0], .inl (List.eq_nil_of_length_eq_zero h0)⟩
  · refine ⟨some ⟨g, 0, none⟩, cap, rfl, .inr ⟨g, rfl, fun j x hx => ?_⟩⟩
    have := h.cells (g := g) rfl j (.int .i64 x) (by simp [hx])
    rw [Addr.add_lit] at this
    simpa using this
theorem lst_next (c : Cm) (k : Nat) : lst c (k + 1) = lst c k ++ (c k).toList := by
  unfold lst
  rw [List.range_succ, List.filterMap_append]
  cases h : c k <;> simp [h]
theorem lst_low {c : Cm} {n : Nat} (h : COk c n) (k : Nat) (hk : k ≤ 98) : lst c k = [] := by
  unfold lst
  refine List.filterMap_eq_nil_iff.2 (fun i hi => ?_)
  cases hc : c i with
  | none => rfl
  | some q => have := h.lo i q hc; have := List.mem_range.1 hi; omega
theorem Cnt.val {c : Cm} {now : Nat → Int} {is : Nat → Bool} (h : Cnt (fun _ => none) c now is) (i : Nat) (h0 : 98 ≤ i) (h1 : i < 118) : valC c (fr6 118) i = one (now i) := by
  obtain ⟨_, a, b⟩ := h i h0 h1
  cases e : is i with
  | true =>
    obtain ⟨q, hq, hx⟩ := a e
    rw [valC_some hq, hx]
  | false =>
    obtain ⟨hq, hx⟩ := b e
    rw [valC_none hq, bck_fr6 _ _ h1, hx, v6, if_neg (by omega)]
theorem Cnt.is {c : Cm} {now : Nat → Int} {is : Nat → Bool} (h : Cnt (fun _ => none) c now is) (i : Nat) (h0 : 98 ≤ i) (h1 : i < 118) : is i = (c i).isSome := by
  obtain ⟨_, a, b⟩ := h i h0 h1
  cases e : is i with
  | true => obtain ⟨q, hq, hx⟩ := a e; rw [hq]; rfl
  | false => rw [(b e).1]; rfl
theorem bck_98 (i : Nat) (h0 : 98 ≤ i) (h1 : i < 118) : bck (fr6 118) i = one (i : Int) := by rw [bck_fr6 _ _ h1, v6, if_neg (by omega)]
end Go.Proofs.YtleakaddlgpamaaDoor

namespace Go.Proofs.YtleakaddlgpamaaDoor
open Go.RowKit Go.Maps Rec

set_option maxRecDepth 100000 in
set_option maxHeartbeats 8000000 in
theorem inside_any (w0 w : World) (D : Dk) (T : Tx) (n U : Nat) (H : Nat → Nat → Int) (h : Tb w0 w D T n H U) (p d r rt : Nat) (hp : PlAt w p n d r T.t rt) :
    Calls Tryd.prog 18 #[.pointer (some ⟨p, 0, none⟩)] w fun e w' => e = .returned (.bool true) ∧ Below w.heap.size w w' := by
  have HW : Hid (Calls Tryd.prog 41 #[.pointer (some ⟨T.t, 0, none⟩)] w fun e w' => ∃ (a : Option Addr) (c : Nat) (L : List Int), e = .returned (.slice a L.length c) ∧ (L = [] ∨ ∃ g, a = some ⟨g, 0, none⟩ ∧ ∀ j x, L[j]? = some x → w'.cell? ⟨g, j, none⟩ = some (.int .i64 x)) ∧ (∀ x ∈ L, gI n ≤ x ∧ x < gD n) ∧ L.length ≤ 96 ∧ Below w.heap.size w w') := by
    refine (written_any w T h.spc.ses.tx).mono ?_
    rintro e w' ⟨v, rfl, h1, _, h3⟩
    obtain ⟨a, c, hv, h4⟩ := ints_of h1 (by simp)
    subst hv
    refine ⟨a, c, _, rfl, h4, fun x hx => ?_, by simpa using h.spc.ses.tx.cnt, h3⟩
    obtain ⟨q, hq, rfl⟩ := List.mem_map.1 hx
    obtain ⟨i, _, hc⟩ := lst_mem hq
    have := h.room i q hc
    rw [h.spc.ses.tx.ok.num i q hc, gI_nat, gD_nat]
    omega
  have HP : Hid (PlAt w p n d r T.t rt) := hp
  obtain ⟨c0, c1, c2, c3, c4, c7⟩ := hp.cells
  clear h hp
  go_enter Tryd.func18, Tryd.ntmps18
  go_wp2_with (go_at_call 41; refine HW.out.mono ?_; rintro e w1 ⟨a, c, L, rfl, h1, h2, h3, h4⟩; have H1 : Hid ((L = [] ∨ ∃ g, a = some ⟨g, 0, none⟩ ∧ ∀ j x, L[j]? = some x → w1.cell? ⟨g, j, none⟩ = some (.int .i64 x)) ∧ (∀ x ∈ L, gI n ≤ x ∧ x < gD n) ∧ Below w.heap.size w w1) := ⟨h1, h2, h4⟩; have hL96 : L.length ≤ 96 := h3; clear h1 h2 h3 h4 HW)
  go_loopw [4] (fun i wr => ∃ k : Nat, k ≤ L.length ∧ i = .int .i64 k ∧ Below w1.heap.size w1 wr) (fun i _ => L.length - (intOf i).toNat)
  case atStart => exact ⟨0, Nat.zero_le _, rfl, Below.refl _ _⟩
  case round =>
    obtain ⟨k, hk, rfl, hI⟩ := hrel
    have HI : Hid (Below w1.heap.size w1 wr) := hI
    clear hI c0 c1 c2 c3 c4 c7
    by_cases hlt : k < L.length
    · have h9 : ∃ g x, a = some ⟨g, 0, none⟩ ∧ wr.cell? ⟨g, k, none⟩ = some (.int .i64 x) ∧ gI n ≤ x ∧ x < gD n := by
        rcases H1.out.1 with e | ⟨g, ha, hc⟩
        · rw [e] at hlt; exact absurd hlt (by simp)
        · have hx : L[k]? = some L[k] := List.getElem?_eq_getElem hlt
          have hcell := hc k _ hx
          have hm := H1.out.2.1 L[k] (List.getElem_mem hlt)
          exact ⟨g, L[k], ha, (HI.out.cell (block_lt_of_cell hcell)).trans hcell, hm.1, hm.2⟩
      obtain ⟨g, x, rfl, hcell, hx1, hx2⟩ := h9
      obtain ⟨_, _, d2, d3, _, _⟩ := (HP.out.on (H1.out.2.2.trans (HI.out.mono H1.out.2.2.size))).cells
      have hd1 : decide (x < gI n) = false := decide_eq_false (by omega)
      have hd2 : decide (gD n ≤ x) = false := decide_eq_false (by omega)
      have hd3 : ¬ x < gI n := by omega
      have hd4 : ¬ gD n ≤ x := by omega
      go_upto_region 5 with (fail)
      go_quiet (fail)
      go_wp2
      exact ⟨⟨k + 1, hlt, rfl, HI.out.trans ((drew7 wr _).mono HI.out.size)⟩, by simp [intOf]; omega⟩
    · obtain rfl : k = L.length := by omega
      go_wp2
      go_ret
      exact ⟨rfl, H1.out.2.2.trans (HI.out.mono H1.out.2.2.size)⟩
end Go.Proofs.YtleakaddlgpamaaDoor
