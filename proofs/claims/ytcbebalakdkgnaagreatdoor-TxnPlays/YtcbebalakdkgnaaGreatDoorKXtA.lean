import Derived.Test.YtcbebalakdkgnaaGreatDoorKXsW
namespace Go.Proofs.YtcbebalakdkgnaaGreatDoor
open Go.RowKit Rec
variable {w0 w w1 wx w2 w' : World} {P j j' : Nat} {D D' : Dk} {R R' : RDk} {T T' : Tx} {U U' : RTx} {K K' : Kb} {row' : List Dn} {c2 c3 : Value}
/-- bytes go into the book -/
theorem XS.bytes (h : XS w0 w P D R T U K j) (v : Value) (n : Nat) (x : List Int) (hv : w.ownsRow 0 5 1 v n (x.map (Value.int .u8))) (hn : n ≤ 10000000) (hw : ∀ j, 0 ≤ nth x j ∧ nth x j < 256) (hf : ∀ i k, v.ownBlock = some k → ¬ cps D R T U K P i k) (hv0 : ∀ k, v.ownBlock = some k → w0.heap.size ≤ k) (hj : j ≤ j') (hb : K.bn + 1 ≤ 2 * j') (hj2 : j' ≤ 100000001) :
    Calls Tryz.prog 34 #[.pointer (some ⟨K.kb, 0, none⟩), v] w fun e w' => e = .returned (.tuple #[]) ∧ ∃ K', XS w0 w' P D R T U K' j' ∧ K'.kb = K.kb ∧ K'.im = K.im ∧ K'.bn = K.bn + 1 ∧ Fr (fun k => K.all k ∨ v.ownBlock = some k) w w' ∧ ∀ k, K'.all k → K.all k ∨ v.ownBlock = some k ∨ w.heap.size ≤ k := by
  refine (kbytes_any w K h.bk v n x hv hn hw (fun k e => hf 4 k e) (by omega)).mono ?_
  rintro e w' ⟨rfl, bv, V, h1, h2, h3⟩
  exact ⟨rfl, K.addB bv V x, h.book hf hv0 h2 h1 h3 hj hb (by show K.im ≤ _; have := h.im; omega), rfl, rfl, rfl, h2, h3⟩
theorem pread6 (h : XS w0 w P D R T U K j) (i : Int) : Calls Tryz.prog 32 #[.pointer (some ⟨T.t, 0, none⟩), .int .i64 i] w fun e w' => ∃ a c, e = .returned (.tuple #[.slice a (rxB D.abs U i).length c, .int .i64 (rxE D.abs U i)]) ∧ AnsB w.heap.size w' (.slice a (rxB D.abs U i).length c) (rxB D.abs U i) ∧ Below w.heap.size w w' := by
  cases hen : U.ends with
  | true =>
    have e1 : rxE D.abs U i = 61 := by unfold rxE; rw [if_pos hen]
    have e2 : rxB D.abs U i = [] := by unfold rxB; rw [if_pos hen]
    rw [e1, e2]
    refine (read_over w T.t (h.tp.over hen) i).mono ?_
    rintro e w' ⟨rfl, rfl⟩
    exact ⟨none, 0, rfl, ansB_nil, Below.refl _ _⟩
  | false =>
    obtain ⟨hx, hd, hn, hu⟩ := h.tp.live hen
    obtain ⟨e1, e2⟩ := hu.read (a := D.abs) hn.symm hen i
    refine (txread_any w T D hx h.ws.d hd hn (fun k hk hdn => ?_) i).mono ?_
    · have := bck512 h.ws.t (i := k) hdn hk
      rw [← abs_full] at this
      exact this
    · rintro e w' ⟨v, rfl, h1, h2⟩
      have f : D.full = D.abs.full := abs_full D
      have hdn : D.down = D.abs.down := rfl
      rw [hdn, e1]
      rw [hdn, f, e2] at h1
      obtain ⟨a, c, rfl, hB⟩ := h1.2.2.2
      exact ⟨a, c, rfl, h1, h2⟩
theorem rxB_len (h : XS w0 w P D R T U K j) (i : Int) : (rxB D.abs U i).length ≤ 512 := by
  unfold rxB
  split
  · simp
  · split
    · split
      · rename_i x hx
        rcases lp_some U.row i U.row.length (Nat.le_refl _) with ⟨_, e2⟩ | ⟨k, q, _, _, hq, _, e2⟩
        · rw [e2] at hx; cases hx
        · rw [e2] at hx; cases hx
          have := (h.ux.each q (List.mem_of_getElem? hq)).2.2.1
          omega
      · split
        · simp
        · unfold bck; rw [List.length_take]; omega
    · simp
set_option maxRecDepth 100000 in
set_option maxHeartbeats 8000000 in
theorem xlists1 (h : XS w0 w P D R T U K j) (hj : j ≤ 100000000) (n x : Int) (ba ka : Option Addr) (bn bc kn kc : Nat) :
    Calls Tryz.prog 12 #[.pointer (some ⟨P, 0, none⟩), .agg #[.int .i64 1, .int .i64 n, .int .u8 x, .slice ba bn bc, .slice ka kn kc], .pointer (some ⟨K.kb, 0, none⟩)] w (PlP w0 P j K.kb) := by
  have HX : Hid (XS w0 w P D R T U K j) := h
  obtain ⟨l, hl⟩ : ∃ l, rxB D.abs U n = l := ⟨_, rfl⟩
  obtain ⟨E, hE⟩ : ∃ E, rxE D.abs U n = E := ⟨_, rfl⟩
  have hll : l.length ≤ 512 := by rw [← hl]; exact rxB_len h n
  have HPW : Hid (∀ wx, Below w.heap.size w wx → Calls Tryz.prog 32 #[.pointer (some ⟨T.t, 0, none⟩), .int .i64 n] wx fun e w' => ∃ a c, e = .returned (.tuple #[.slice a l.length c, .int .i64 E]) ∧ AnsB wx.heap.size w' (.slice a l.length c) l ∧ Below wx.heap.size wx w') := fun wx hb => by
    have := pread6 (h.on hb) n; rw [hl, hE] at this; exact this
  have HRW : Hid (∀ wx, Below w.heap.size w wx → Calls Tryz.prog 33 #[.pointer (some ⟨U.u, 0, none⟩), .int .i64 n] wx fun e w' => ∃ a c, e = .returned (.tuple #[.slice a l.length c, .int .i64 E]) ∧ Bytes w' a l ∧ Below wx.heap.size wx w') := fun wx hb => by
    have := rxread_any wx D.abs R (200 * j) (h.on hb).ws.t U (h.on hb).ux h.ur n
    rw [hl, hE] at this
    refine this.mono ?_
    rintro e w' ⟨pa, m, c, rfl, hB, hm, hb⟩
    subst hm
    exact ⟨pa, c, rfl, hB, hb⟩
  have HC : Hid (∀ wx, Below w.heap.size w wx → wx.cell? ⟨P, 2, none⟩ = some (.pointer (some ⟨T.t, 0, none⟩)) ∧ wx.cell? ⟨P, 3, none⟩ = some (.pointer (some ⟨U.u, 0, none⟩))) := fun wx hb => (h.on hb).ptrs.2.2
  have HIm : Hid (K.im ≤ 2 * j ∧ K.bn ≤ 2 * j ∧ j ≤ 100000000) := ⟨h.im, h.bn, hj⟩
  obtain ⟨m, hm⟩ : ∃ m, l.length = m := ⟨_, rfl⟩
  have HM : Hid (l.length = m ∧ m ≤ 512) := ⟨hm, by omega⟩
  rw [hm] at HPW HRW
  clear h hl hll hm hE
  go_enter Tryz.func12, Tryz.ntmps12
  go_upto_region 1 with fail
  obtain ⟨Q, hQ⟩ : ∃ Q, w.heap.size = Q := ⟨_, rfl⟩
  obtain ⟨wb, hwb⟩ : ∃ wb, w.alloc (.cells #[.int .i64 1, .int .i64 n, .int .u8 x, .slice ba bn bc, .slice ka kn kc] 45) = wb := ⟨_, rfl⟩
  have HB : Hid (Below w.heap.size w wb) := by rw [← hwb]; exact (Below.refl _ _).alloc (Nat.le_refl _) _
  have HBx : Hid (∀ wx, Below wb.heap.size wb wx → wx.cell? ⟨Q, 1, none⟩ = some (.int .i64 n)) := fun wx hb => by
    rw [← hwb, ← hQ] at *
    exact box_at hb 1
  have b0 : wb.cell? ⟨Q, 0, none⟩ = some (.int .i64 1) := by rw [← hwb, ← hQ]; exact box_at (Below.refl _ _) 0
  obtain ⟨c2, c3⟩ := HC.out wb HB.out
  have b1 := HBx.out wb (Below.refl _ _)
  rw [hwb, hQ]
  clear hwb hQ
  go_upto_region 3 with fail
  have hS0 : wb.drew.cell? ⟨P, 2, none⟩ = some (.pointer (some ⟨T.t, 0, none⟩)) ∧ wb.drew.cell? ⟨Q, 1, none⟩ = some (.int .i64 n) := ⟨c2, b1⟩
  have HD1 : Hid (Below wb.heap.size wb wb.drew) := (Below.refl _ _).drew
  go_region_held3 (fun w' => w'.cell? ⟨P, 2, none⟩ = some (.pointer (some ⟨T.t, 0, none⟩)) ∧ w'.cell? ⟨Q, 1, none⟩ = some (.int .i64 n)) (first | exact hS0 | exact hS1 | go_keep)
    (first
      | (go_at_call 32; refine (HPW.out _ (HB.out.trans (HD1.out.mono HB.out.size))).mono ?_; rintro e w1 ⟨a1, k1, rfl, hv1, hb1⟩
         have H1 : Hid (AnsB wb.heap.size w1 (.slice a1 m k1) l ∧ Below wb.heap.size wb w1 ∧ Below wb.heap.size wb w1) := ⟨hv1, HD1.out.trans (hb1.mono HD1.out.size), ((Below.refl wb.heap.size wb).drew).trans hb1⟩
         have hS1 : w1.cell? ⟨P, 2, none⟩ = some (.pointer (some ⟨T.t, 0, none⟩)) ∧ w1.cell? ⟨Q, 1, none⟩ = some (.int .i64 n) := ⟨(HC.out w1 (HB.out.trans (H1.out.2.1.mono HB.out.size))).1, HBx.out w1 H1.out.2.1⟩
         clear hv1 hb1))
  clear hS0 hS1 c2 c3 b1
  obtain ⟨c2, c3⟩ := HC.out w1 (HB.out.trans (H1.out.2.1.mono HB.out.size))
  have b1 := HBx.out w1 H1.out.2.1
  go_upto_region 4 with fail
  have hS0 : w1.drew.cell? ⟨P, 2, none⟩ = some (.pointer (some ⟨T.t, 0, none⟩)) ∧ w1.drew.cell? ⟨Q, 1, none⟩ = some (.int .i64 n) := ⟨c2, b1⟩
  have HD2 : Hid (Below wb.heap.size wb w1.drew) := H1.out.2.1.drew
  go_region_held3 (fun w' => w'.cell? ⟨P, 2, none⟩ = some (.pointer (some ⟨T.t, 0, none⟩)) ∧ w'.cell? ⟨Q, 1, none⟩ = some (.int .i64 n)) (first | exact hS0 | exact hS1 | go_keep)
    (first
      | (go_at_call 32; refine (HPW.out _ (HB.out.trans (HD2.out.mono HB.out.size))).mono ?_; rintro e w2 ⟨a2, k2, rfl, hv1, hb1⟩
         have H2 : Hid (AnsB w1.heap.size w2 (.slice a2 m k2) l ∧ Below wb.heap.size wb w2 ∧ Below w1.heap.size w1 w2) := ⟨hv1, HD2.out.trans (hb1.mono HD2.out.size), ((Below.refl w1.heap.size w1).drew).trans hb1⟩
         have hS1 : w2.cell? ⟨P, 2, none⟩ = some (.pointer (some ⟨T.t, 0, none⟩)) ∧ w2.cell? ⟨Q, 1, none⟩ = some (.int .i64 n) := ⟨(HC.out w2 (HB.out.trans (H2.out.2.1.mono HB.out.size))).1, HBx.out w2 H2.out.2.1⟩
         clear hv1 hb1))
  clear hS0 hS1 c2 c3 b1
  obtain ⟨c2, c3⟩ := HC.out w2 (HB.out.trans (H2.out.2.1.mono HB.out.size))
  have b1 := HBx.out w2 H2.out.2.1
  go_upto_region 5 with fail
  have hS0 : w2.drew.cell? ⟨P, 3, none⟩ = some (.pointer (some ⟨U.u, 0, none⟩)) ∧ w2.drew.cell? ⟨Q, 1, none⟩ = some (.int .i64 n) := ⟨c3, b1⟩
  have HD3 : Hid (Below wb.heap.size wb w2.drew) := H2.out.2.1.drew
  go_region_held3 (fun w' => w'.cell? ⟨P, 3, none⟩ = some (.pointer (some ⟨U.u, 0, none⟩)) ∧ w'.cell? ⟨Q, 1, none⟩ = some (.int .i64 n)) (first | exact hS0 | exact hS1 | go_keep)
    (first
      | (go_at_call 33; refine (HRW.out _ (HB.out.trans (HD3.out.mono HB.out.size))).mono ?_; rintro e w3 ⟨a3, k3, rfl, hv1, hb1⟩
         have H3 : Hid (Bytes w3 (a3) l ∧ Below wb.heap.size wb w3 ∧ Below w2.heap.size w2 w3) := ⟨hv1, HD3.out.trans (hb1.mono HD3.out.size), ((Below.refl w2.heap.size w2).drew).trans hb1⟩
         have hS1 : w3.cell? ⟨P, 3, none⟩ = some (.pointer (some ⟨U.u, 0, none⟩)) ∧ w3.cell? ⟨Q, 1, none⟩ = some (.int .i64 n) := ⟨(HC.out w3 (HB.out.trans (H3.out.2.1.mono HB.out.size))).2, HBx.out w3 H3.out.2.1⟩
         clear hv1 hb1))
  clear hS0 hS1 c2 c3 b1
  obtain ⟨c2, c3⟩ := HC.out w3 (HB.out.trans (H3.out.2.1.mono HB.out.size))
  have b1 := HBx.out w3 H3.out.2.1
  clear c2 c3 b1
  have hA1 : AnsB wb.heap.size w1 (.slice a1 m k1) l := H1.out.1
  have hA2 : AnsB w1.heap.size w2 (.slice a2 m k2) l := H2.out.1
  have g1 : ∀ k, (Value.slice a1 m k1).ownBlock = some k → w.heap.size ≤ k ∧ k < w1.heap.size := fun k e => ⟨Nat.le_trans HB.out.size (hA1.2.1 k e), owns_block hA1.1 e⟩
  have g2 : ∀ k, (Value.slice a2 m k2).ownBlock = some k → w1.heap.size ≤ k ∧ k < w2.heap.size := fun k e => ⟨hA2.2.1 k e, owns_block hA2.1 e⟩
  have HG : Hid ((∀ k, (Value.slice a1 m k1).ownBlock = some k → w.heap.size ≤ k ∧ k < w1.heap.size) ∧ (∀ k, (Value.slice a2 m k2).ownBlock = some k → w1.heap.size ≤ k ∧ k < w2.heap.size) ∧ w1.heap.size ≤ w2.heap.size ∧ w2.heap.size ≤ w3.heap.size ∧ w.heap.size ≤ w1.heap.size) := ⟨g1, g2, H2.out.2.2.size, H3.out.2.2.size, Nat.le_trans HB.out.size H1.out.2.1.size⟩
  have q1 : w1.ownsRow 0 5 1 (.slice a1 m k1) m (l.map (Value.int .u8)) := by have := hA1.1; rw [HM.out.1] at this; exact this
  have q2 : w2.ownsRow 0 5 1 (.slice a2 m k2) m (l.map (Value.int .u8)) := by have := hA2.1; rw [HM.out.1] at this; exact this
  have HO1 : Hid (w3.ownsRow 0 5 1 (.slice a1 m k1) m (l.map (Value.int .u8)) ∧ ∀ j, 0 ≤ nth l j ∧ nth l j < 256) := ⟨owns_on (owns_on q1 H2.out.2.2) H3.out.2.2, hA1.2.2.1⟩
  have HO2 : Hid (w3.ownsRow 0 5 1 (.slice a2 m k2) m (l.map (Value.int .u8))) := owns_on q2 H3.out.2.2
  have hB1 : Bytes w3 a1 l := by
    obtain ⟨a, c, e, hB⟩ := hA1.2.2.2
    cases e
    exact (hB.on H2.out.2.2).on H3.out.2.2
  have hB2 : Bytes w3 a2 l := by
    obtain ⟨a, c, e, hB⟩ := hA2.2.2.2
    cases e
    exact hB.on H3.out.2.2
  obtain ⟨s, hs⟩ : ∃ s, strOfNums l = s := ⟨_, rfl⟩
  have cv1 : (convert 42 9 (.slice a1 m k1)).run Tryz.prog w3 = .ok (.string s) w3 := by rw [← hs]; exact str_opt hB1 HM.out.1
  have cv2 : (convert 42 9 (.slice a2 m k2)).run Tryz.prog w3 = .ok (.string s) w3 := by rw [← hs]; exact str_opt hB2 HM.out.1
  have cv3 : (convert 42 9 (.slice a3 m k3)).run Tryz.prog w3 = .ok (.string s) w3 := by rw [← hs]; exact str_opt H3.out.1 HM.out.1
  have HX3 : Hid (XS w0 w3 P D R T U K j) := HX.out.on (HB.out.trans (H3.out.2.1.mono HB.out.size))
  clear hA1 hA2 g1 g2 q1 q2 hB1 hB2 hs
  have HI1 : Hid (Calls Tryz.prog 34 #[.pointer (some ⟨K.kb, 0, none⟩), .slice a1 m k1] w3 fun e w' => e = .returned (.tuple #[]) ∧ ∃ K', XS w0 w' P D R T U K' (j + 1) ∧ K'.kb = K.kb ∧ K'.im = K.im ∧ K'.bn = K.bn + 1 ∧ Fr (fun k => K.all k ∨ (Value.slice a1 m k1).ownBlock = some k) w3 w' ∧ ∀ k, K'.all k → K.all k ∨ (Value.slice a1 m k1).ownBlock = some k ∨ w3.heap.size ≤ k) :=
    HX3.out.bytes _ m l HO1.out.1 (by have := HM.out; omega) HO1.out.2 (fun i k e e2 => by have := (HG.out.1 k e).1; have := HX.out.lt i k e2; omega) (fun k e => Nat.le_trans HX.out.ws.be.size (HG.out.1 k e).1) (by omega) (by have := HIm.out; omega) (by have := HIm.out; omega)
  have TK4 : Hid True := trivial
  go_wp2_with (first
    | (go_at_call 34; have hh := TK4.out; clear hh; refine HI1.out.mono ?_; rintro e w6 ⟨rfl, K6, h1, h2, h3, h4, h5, h6⟩
       have H6 : Hid (XS w0 w6 P D R T U K6 (j + 1) ∧ K6.kb = K.kb) := ⟨h1, h2⟩
       have HI2 : Hid (Calls Tryz.prog 34 #[.pointer (some ⟨K.kb, 0, none⟩), .slice a2 m k2] w6 fun e w' => e = .returned (.tuple #[]) ∧ ∃ K', XS w0 w' P D R T U K' (j + 1) ∧ K'.kb = K.kb) := (by
         have hne : ∀ k, (Value.slice a2 m k2).ownBlock = some k → ¬ (K.all k ∨ (Value.slice a1 m k1).ownBlock = some k) := fun k e e2 => (by
           have q1 := HG.out.2.1 k e
           have q5 := HG.out.2.2.2.2
           rcases e2 with e2 | e2
           · have := HX.out.lt 4 k e2
             omega
           · have := HG.out.1 k e2; omega)
         have := h1.bytes (j' := j + 1) (.slice a2 m k2) m l (owns_fr HO2.out h5 hne) (by have := HM.out; omega) HO1.out.2 (fun i k e e2 => by
           have q1 := HG.out.2.1 k e
           have q2 := HG.out.2.2
           by_cases hi : i = 4
           · subst hi
             rcases h6 k e2 with e3 | e3 | e3
             · exact hne k e (.inl e3)
             · exact hne k e (.inr e3)
             · omega
           · have e4 : cps D R T U K P i k := by
               match i, hi, e2 with
               | 0, _, e2 => exact e2
               | 1, _, e2 => exact e2
               | 2, _, e2 => exact e2
               | 3, _, e2 => exact e2
               | 5, _, e2 => exact e2
               | _ + 6, _, e2 => exact e2.elim
               | 4, hi, _ => exact absurd rfl hi
             have := HX.out.lt i k e4
             omega) (fun k e => by have q1 := HG.out.2.1 k e; have q2 := HG.out.2.2; have q4 := HX.out.ws.be.size; omega) (Nat.le_refl _) (by have := HIm.out; omega) (by have := HIm.out; omega)
         rw [h2] at this
         exact this.mono (fun e w' ⟨e1, K', q1, q2, _⟩ => ⟨e1, K', q1, q2⟩))
       clear h1 h2 h3 h4 h5 h6 TK4)
    | (go_at_call 34; refine HI2.out.mono ?_; rintro e w7 ⟨rfl, K7, h1, h2⟩
       have H7 : Hid (XS w0 w7 P D R T U K7 (j + 1) ∧ K7.kb = K.kb) := ⟨h1, h2⟩
       clear h1 h2))
  go_ret
  exact ⟨rfl, D, R, T, U, K7, H7.out.1, H7.out.2⟩
end Go.Proofs.YtcbebalakdkgnaaGreatDoor

namespace Go.Proofs.YtcbebalakdkgnaaGreatDoor
open Go.RowKit Rec
variable {w0 w w1 wx w2 w' : World} {P j j' : Nat} {D D' : Dk} {R R' : RDk} {T T' : Tx} {U U' : RTx} {K K' : Kb} {row' : List Dn} {c2 c3 : Value}
set_option maxRecDepth 100000 in
set_option maxHeartbeats 8000000 in
theorem xplayL (_h : XS w0 w P D R T U K j) (k n x : Int) (ba ka : Option Addr) (bn bc kn kc : Nat) (h2 : ¬ k = 2) (h4 : ¬ k = 4) (h5 : ¬ k = 5) (h6 : ¬ k = 6) (h7 : ¬ k = 7) (h8 : ¬ k = 8) (h9 : ¬ k = 9) (h10 : ¬ k = 10) (h11 : ¬ k = 11)
    (hL : ∀ wx, Below w.heap.size w wx → Calls Tryz.prog 12 #[.pointer (some ⟨P, 0, none⟩), .agg #[.int .i64 k, .int .i64 n, .int .u8 x, .slice ba bn bc, .slice ka kn kc], .pointer (some ⟨K.kb, 0, none⟩)] wx (PlP w0 P j K.kb)) :
    Calls Tryz.prog 8 #[.pointer (some ⟨P, 0, none⟩), .agg #[.int .i64 k, .int .i64 n, .int .u8 x, .slice ba bn bc, .slice ka kn kc], .pointer (some ⟨K.kb, 0, none⟩)] w (PlP w0 P j K.kb) := by
  have HLs : Hid (∀ wx, Below w.heap.size w wx → Calls Tryz.prog 12 #[.pointer (some ⟨P, 0, none⟩), .agg #[.int .i64 k, .int .i64 n, .int .u8 x, .slice ba bn bc, .slice ka kn kc], .pointer (some ⟨K.kb, 0, none⟩)] wx (PlP w0 P j K.kb)) := hL
  have e2 : (k == 2) = false := beq_eq_false_iff_ne.2 h2
  have e4 : (k == 4) = false := beq_eq_false_iff_ne.2 h4
  have e5 : (k == 5) = false := beq_eq_false_iff_ne.2 h5
  have e6 : (k == 6) = false := beq_eq_false_iff_ne.2 h6
  have e7 : (k == 7) = false := beq_eq_false_iff_ne.2 h7
  have e8 : (k == 8) = false := beq_eq_false_iff_ne.2 h8
  have e9 : (k == 9) = false := beq_eq_false_iff_ne.2 h9
  have e10 : (k == 10) = false := beq_eq_false_iff_ne.2 h10
  have e11 : (k == 11) = false := beq_eq_false_iff_ne.2 h11
  clear hL h2 h4 h5 h6 h7 h8 h9 h10 h11
  go_enter Tryz.func8, Tryz.ntmps8
  go_upto_region 1 with fail
  obtain ⟨Q, hQ⟩ : ∃ Q, w.heap.size = Q := ⟨_, rfl⟩
  obtain ⟨wb, hwb⟩ : ∃ wb, w.alloc (.cells #[.int .i64 k, .int .i64 n, .int .u8 x, .slice ba bn bc, .slice ka kn kc] 45) = wb := ⟨_, rfl⟩
  have HB : Hid (Below w.heap.size w wb) := by rw [← hwb]; exact (Below.refl _ _).alloc (Nat.le_refl _) _
  have b0 : wb.cell? ⟨Q, 0, none⟩ = some (.int .i64 k) := by rw [← hwb, ← hQ]; exact box_at (Below.refl _ _) 0
  have b1 : wb.cell? ⟨Q, 1, none⟩ = some (.int .i64 n) := by rw [← hwb, ← hQ]; exact box_at (Below.refl _ _) 1
  have b2 : wb.cell? ⟨Q, 2, none⟩ = some (.int .u8 x) := by rw [← hwb, ← hQ]; exact box_at (Below.refl _ _) 2
  have b3 : wb.cell? ⟨Q, 3, none⟩ = some (.slice ba bn bc) := by rw [← hwb, ← hQ]; exact box_at (Below.refl _ _) 3
  have b4 : wb.cell? ⟨Q, 4, none⟩ = some (.slice ka kn kc) := by rw [← hwb, ← hQ]; exact box_at (Below.refl _ _) 4
  rw [hwb, hQ]
  clear hwb hQ
  go_wp2_with (go_at_call 12; refine (HLs.out wb HB.out).mono ?_; rintro e w3 ⟨rfl, H⟩; have H4 : Hid (∃ D R T U K', XS w0 w3 P D R T U K' (j + 1) ∧ K'.kb = K.kb) := H; clear H)
  go_ret
  exact ⟨rfl, H4.out⟩
theorem xplay1 (h : XS w0 w P D R T U K j) (hj : j ≤ 100000000) (n x : Int) (ba ka : Option Addr) (bn bc kn kc : Nat) :
    Calls Tryz.prog 8 #[.pointer (some ⟨P, 0, none⟩), .agg #[.int .i64 1, .int .i64 n, .int .u8 x, .slice ba bn bc, .slice ka kn kc], .pointer (some ⟨K.kb, 0, none⟩)] w (PlP w0 P j K.kb) :=
  xplayL h 1 n x ba ka bn bc kn kc (by decide) (by decide) (by decide) (by decide) (by decide) (by decide) (by decide) (by decide) (by decide) (fun _ hb => xlists1 (h.on hb) hj n x ba ka bn bc kn kc)
theorem xplay3 (h : XS w0 w P D R T U K j) (hj : j ≤ 100000000) (n x : Int) (ba ka : Option Addr) (bn bc kn kc : Nat) :
    Calls Tryz.prog 8 #[.pointer (some ⟨P, 0, none⟩), .agg #[.int .i64 3, .int .i64 n, .int .u8 x, .slice ba bn bc, .slice ka kn kc], .pointer (some ⟨K.kb, 0, none⟩)] w (PlP w0 P j K.kb) :=
  xplayL h 3 n x ba ka bn bc kn kc (by decide) (by decide) (by decide) (by decide) (by decide) (by decide) (by decide) (by decide) (by decide) (fun _ hb => xlists3 (h.on hb) hj n x ba ka bn bc kn kc)
end Go.Proofs.YtcbebalakdkgnaaGreatDoor
