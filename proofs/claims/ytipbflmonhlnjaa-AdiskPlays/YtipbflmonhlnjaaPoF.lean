import Derived.Test.YtipbflmonhlnjaaPoB
namespace Go.Proofs.Ytipbflmonhlnjaa
open Go.RowKit Rec

/-- a tape as it is answered -/
structure TpX (T : List (Int × Int × List Int)) (nb : Nat) (wx w1 : World) (a : Option Addr) (c : Nat) (L : List ActR) : Prop where
  ans : AnsA wx.heap.size w1 (.slice a T.length c) L
  acts : Acts w1 a L
  same : L.map ActR.abs = T
  len : L.length = T.length
theorem TpX.on {T : List (Int × Int × List Int)} {nb : Nat} {wx w1 w2 : World} {a : Option Addr} {c : Nat} {L : List ActR} (h : TpX T nb wx w1 a c L) (hb : Below w1.heap.size w1 w2) : TpX T nb wx w2 a c L := ⟨h.ans.on hb, h.acts.on hb, h.same, h.len⟩
def TpT (T : List (Int × Int × List Int)) (nb : Nat) (wx : World) (e : Ending) (w1 : World) : Prop := ∃ a c L, e = .returned (.slice a T.length c) ∧ TpX T nb wx w1 a c L ∧ Below wx.heap.size wx w1
def TpR (T : List (Int × Int × List Int)) (wx : World) (e : Ending) (w1 : World) : Prop := ∃ a c M, e = .returned (.slice a T.length c) ∧ Acts w1 a M ∧ M.map ActR.abs = T ∧ Below wx.heap.size wx w1
theorem tpT_of {T : List (Int × Int × List Int)} {nb : Nat} {wx w1 : World} {e : Ending} {v : Value} {L : List ActR} (h1 : e = .returned v) (h2 : AcR w1 nb v L) (h3 : L.map ActR.abs = T) (h4 : ∀ k, v.ownBlock = some k → wx.heap.size ≤ k) (h5 : ∀ q ∈ L, ∀ p, q.a = some p → wx.heap.size ≤ p.block) (h6 : DisA L) (h7 : ∀ q ∈ L, OwQ w1 q) (h8 : Below wx.heap.size wx w1) (hT : T.length ≤ 100000000) : TpT T nb wx e w1 := by
  have hl : L.length = T.length := by rw [← h3, List.length_map]
  obtain ⟨a, c, rfl, ha⟩ := acts_of h2.row (fun q hq => (h7 q hq).bytes) (by omega)
  rw [hl] at h1
  refine ⟨a, c, L, h1, ⟨⟨?_, h7, h6, ?_, fun k e => ?_⟩, ha, h3, hl⟩, h8⟩
  · rw [← hl]; exact h2.row
  · intro q hq
    rcases h2.each q hq with h | ⟨_, _, _, h, _⟩
    · obtain ⟨_, _, _, h⟩ := id h
      first | (rw [h]; simp) | simp [h]
    · omega
  · rw [← hl] at e
    rcases e with e | ⟨q, hq, p, e, rfl⟩
    · exact h4 k e
    · exact h5 q hq p e
theorem tpR_of {T : List (Int × Int × List Int)} {wx w1 : World} {e : Ending} {v : Value} {M : List ActR} (h1 : e = .returned v) (h2 : TpI wx w1 v T M) (h3 : Below wx.heap.size wx w1) (hT : T.length ≤ 100000000) : TpR T wx e w1 := by
  have hl : M.length = T.length := by rw [← h2.same, List.length_map]
  have hr := h2.row
  rw [← hl] at hr
  obtain ⟨a, c, rfl, ha⟩ := acts_of hr (fun q hq => by obtain ⟨g, hg, _⟩ := h2.each q hq; exact RwA.bytes hg) (by omega)
  rw [hl] at h1
  exact ⟨a, c, M, h1, ha, h2.same, h3⟩
set_option maxRecDepth 100000 in
set_option maxHeartbeats 4000000 in
theorem looks_tape (w : World) (D : Dk) (R : RDk) (j : Nat) (h : Pr w D R j) (K : Bk) (hK : BkI w K) (hj : j ≤ 10000000) (hn : K.bn + 2 * j + 2 ≤ 1000000000000) (hm : K.im + 2 ≤ 1000000000000) (ha : K.am + 2 ≤ 1000000000000) (tw : Bool) (N : Int) (ba : Option Addr) (bn bc : Nat) (ka : Option Addr) (kn kc : Nat) :
    Calls Try.prog 10 #[.agg #[.pointer (some ⟨D.d, 0, none⟩), .pointer (some ⟨R.r, 0, none⟩)], .agg #[.int .i64 9, .bool tw, .int .i64 N, .slice ba bn bc, .slice ka kn kc], .pointer (some ⟨K.kb, 0, none⟩)] w fun e w' => e = .returned (.bool true) ∧ LkP w K j w' := by
  have hU := And.intro hj (And.intro hn (And.intro hm ha))
  clear hU
  have HX : Hid (Pr w D R j ∧ BkI w K) := ⟨h, hK⟩
  obtain ⟨d, hd⟩ : ∃ d, D.d = d := ⟨_, rfl⟩
  obtain ⟨r, hr⟩ : ∃ r, R.r = r := ⟨_, rfl⟩
  obtain ⟨kb, hkb⟩ : ∃ kb, K.kb = kb := ⟨_, rfl⟩
  rw [hd, hr, hkb]
  have HD : Hid (D.d = d ∧ R.r = r ∧ K.kb = kb) := ⟨hd, hr, hkb⟩
  clear h hK hd hr hkb
  obtain ⟨P0, hP0⟩ : ∃ P0, w.heap.size = P0 := ⟨_, rfl⟩
  obtain ⟨wa, hwa⟩ : ∃ wa, w.alloc (.cells #[.pointer (some ⟨d, 0, none⟩), .pointer (some ⟨r, 0, none⟩)] 32) = wa := ⟨_, rfl⟩
  obtain ⟨P1, hP1⟩ : ∃ P1, wa.heap.size = P1 := ⟨_, rfl⟩
  obtain ⟨wb, hwb⟩ : ∃ wb, wa.alloc (.cells #[.int .i64 9, .bool tw, .int .i64 N, .slice ba bn bc, .slice ka kn kc] 44) = wb := ⟨_, rfl⟩
  have hA1 : Below w.heap.size w wa := by rw [← hwa]; exact (Below.refl _ _).alloc (Nat.le_refl _) _
  have hA2 : Below wa.heap.size wa wb := by rw [← hwb]; exact (Below.refl _ _).alloc (Nat.le_refl _) _
  have HB : Hid (Below w.heap.size w wb) := hA1.trans (hA2.mono hA1.size)
  have HC : Hid (∀ wx, Below wb.heap.size wb wx → wx.cell? ⟨P0, 0, none⟩ = some (.pointer (some ⟨d, 0, none⟩)) ∧ wx.cell? ⟨P0, 1, none⟩ = some (.pointer (some ⟨r, 0, none⟩)) ∧ wx.cell? ⟨P1, 0, none⟩ = some (.int .i64 9) ∧ wx.cell? ⟨P1, 2, none⟩ = some (.int .i64 N)) := fun wx hx => by
    have z1 : wa.heap[P0]? = some (.cells #[.pointer (some ⟨d, 0, none⟩), .pointer (some ⟨r, 0, none⟩)] 32 (0, 0)) := by rw [← hwa, ← hP0]; exact heap_alloc_new _ _
    have z2 : wb.heap[P1]? = some (.cells #[.int .i64 9, .bool tw, .int .i64 N, .slice ba bn bc, .slice ka kn kc] 44 (0, 0)) := by rw [← hwb, ← hP1]; exact heap_alloc_new _ _
    have y1 := (below_fr hx (fun _ => False)).heap ((below_fr hA2 (fun _ => False)).heap z1 (fun e => e)) (fun e => e)
    have y2 := (below_fr hx (fun _ => False)).heap z2 (fun e => e)
    exact ⟨cell_of_row _ _ 0 _ _ _ y1, cell_of_row _ _ 1 _ _ _ y1, cell_of_row _ _ 0 _ _ _ y2, cell_of_row _ _ 2 _ _ _ y2⟩
  clear hA1 hA2
  go_enter Try.func10, Try.ntmps10
  go_upto_region 1 with fail
  try rw [hP0]
  try rw [hwa]
  try rw [hP1]
  try rw [hwb]
  clear hwa hwb hP0 hP1
  obtain ⟨c0, c1, c2, c3⟩ := HC.out wb (Below.refl _ _)
  obtain ⟨T, hx, hR1, hR2⟩ := ptape HX.out.1 N
  rw [HD.out.1] at hR1
  rw [HD.out.2.1] at hR2
  have HR1 : Hid (∀ wx, Below w.heap.size w wx → Calls Try.prog 41 #[.pointer (some ⟨d, 0, none⟩), .int .i64 N] wx (TpT T D.nb wx)) := fun wx hb => (hR1 wx hb).mono (fun e w1 ⟨v, L, h1, h2, h3, h4, h5, h6, h7, h8⟩ => tpT_of h1 h2 h3 h4 h5 h6 h7 h8 (by omega))
  have HR2 : Hid (∀ wx, Below w.heap.size w wx → Calls Try.prog 42 #[.pointer (some ⟨r, 0, none⟩), .int .i64 N] wx (TpR T wx)) := fun wx hb => (hR2 wx hb).mono (fun e w1 ⟨v, M, h1, h2, h3⟩ => tpR_of h1 h2 h3 (by omega))
  have HT0 : Hid (T.length ≤ j) := hx
  obtain ⟨tl, htl⟩ : ∃ tl, T.length = tl := ⟨_, rfl⟩
  rw [htl] at hx
  clear hR1 hR2
  go_upto_region 28 with (go_at_call 41; refine (HR1.out wb HB.out).mono ?_; rintro e w1 ⟨a1, e1, L1, rfl, hv, hb1⟩; have V1 : Hid (TpX T D.nb wb w1 a1 e1 L1 ∧ Below wb.heap.size wb w1) := ⟨hv, hb1⟩; clear hv hb1 c0 c1 c2 c3; obtain ⟨c0, c1, c2, c3⟩ := HC.out w1 V1.out.2)
  have HB1 : Hid (Below w.heap.size w w1) := HB.out.trans (V1.out.2.mono HB.out.size)
  go_upto_region 29 with (go_at_call 41; refine (HR1.out w1 HB1.out).mono ?_; rintro e w2 ⟨a2, e2, L2, rfl, hv, hb1⟩; have V2 : Hid (TpX T D.nb w1 w2 a2 e2 L2 ∧ Below w1.heap.size w1 w2) := ⟨hv, hb1⟩; clear hv hb1 c0 c1 c2 c3; obtain ⟨c0, c1, c2, c3⟩ := HC.out w2 (V1.out.2.trans (V2.out.2.mono V1.out.2.size)))
  have HB2 : Hid (Below w.heap.size w w2) := HB1.out.trans (V2.out.2.mono HB1.out.size)
  go_upto_region 30 with (go_at_call 42; refine (HR2.out w2 HB2.out).mono ?_; rintro e w3 ⟨a3, e3, M, rfl, hv, hm, hb1⟩; have V3 : Hid (Acts w3 a3 M ∧ M.map ActR.abs = T ∧ Below w2.heap.size w2 w3) := ⟨hv, hm, hb1⟩; clear hv hm hb1 c0 c1 c2 c3)
  have HB3 : Hid (Below w.heap.size w w3) := HB2.out.trans (V3.out.2.2.mono HB2.out.size)
  have HO : Hid (TpX T D.nb wb w3 a1 e1 L1 ∧ TpX T D.nb w1 w3 a2 e2 L2) := ⟨(V1.out.1.on V2.out.2).on V3.out.2.2, V2.out.1.on V3.out.2.2⟩
  clear HR1 HR2
  have TK1 : Hid True := trivial
  try rw [htl]
  go_upto_region 32 with (first
    | (go_at_call 43; have hh := TK1.out; clear hh; refine (sameActs_any w3 a1 a3 tl e1 e3 L1 M HO.out.1.acts V3.out.1 (by rw [HO.out.1.same, V3.out.2.1]) (by rw [HO.out.1.len, htl])).mono ?_; rintro e w4 ⟨rfl, hb4⟩; have H4 : Hid (Below w3.heap.size w3 w4) := hb4; clear hb4 TK1)
    | (go_at_call 43; refine (sameActs_any w4 a2 a3 tl e2 e3 L2 M (HO.out.2.acts.on H4.out) (V3.out.1.on H4.out) (by rw [HO.out.2.same, V3.out.2.1]) (by rw [HO.out.2.len, htl])).mono ?_; rintro e w5 ⟨rfl, hb5⟩; have H5 : Hid (Below w4.heap.size w4 w5) := hb5; clear hb5))
  have HB5 : Hid (Below w3.heap.size w3 w5) := H4.out.trans (H5.out.mono H4.out.size)
  have HT : Hid (Calls Try.prog 44 #[.pointer (some ⟨kb, 0, none⟩), .slice a1 tl e1] w5 fun e w1 => e = .returned (.tuple #[]) ∧ Calls Try.prog 44 #[.pointer (some ⟨kb, 0, none⟩), .slice a2 tl e2] w1 fun e w2 => e = .returned (.tuple #[]) ∧ LkP w K j w2) := by
    have l1 := HO.out.1.len
    have l2 := HO.out.2.len
    have x1 := (HO.out.1.ans.on HB5.out)
    have x2 := (HO.out.2.ans.on HB5.out)
    rw [htl] at x1 x2
    have := two_acts (j := j) HX.out.2 (HB3.out.trans (HB5.out.mono HB3.out.size)) x1 x2 (by omega) (by omega) hj HB.out.size (fun k e => by rw [← htl] at e; exact V1.out.1.ans.lt e) HB1.out.size (by omega) (by omega)
    rw [HD.out.2.2] at this
    exact this
  go_upto_region 33 with (go_at_call 44; refine HT.out.mono ?_; rintro e w6 ⟨rfl, h4⟩; have HT2 : Hid (Calls Try.prog 44 #[.pointer (some ⟨kb, 0, none⟩), .slice a2 tl e2] w6 fun e w2 => e = .returned (.tuple #[]) ∧ LkP w K j w2) := h4; clear h4)
  go_wp2_with (go_at_call 44; refine HT2.out.mono ?_; rintro e w7 ⟨rfl, h5⟩; have HE : Hid (LkP w K j w7) := h5; clear h5)
  go_ret
  exact ⟨rfl, HE.out⟩
end Go.Proofs.Ytipbflmonhlnjaa
