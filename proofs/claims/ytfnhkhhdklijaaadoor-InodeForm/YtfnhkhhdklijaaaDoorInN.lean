import Derived.Test.YtfnhkhhdklijaaaDoorKInL
namespace Go.Proofs.YtfnhkhhdklijaaaDoor
open Go.RowKit Go.Maps Rec

theorem flip_ne (c : Int) (r : Nat) (hc : 0 ≤ c ∧ c < 256) (hr : r < 8) : bits .xor .u8 c ((2 : Int) ^ r % 256) ≠ c := fun e => by
  have h := (flip_byte11 c r hc hr).2
  rw [e] at h
  have h0 : (1#32 <<< r) = 0#32 := by
    have := congrArg (fun z => BitVec.ofInt 32 c ^^^ z) h
    simp only [← BitVec.xor_assoc, BitVec.xor_self, BitVec.zero_xor] at this
    exact this.symm
  have hk : r = 0 ∨ r = 1 ∨ r = 2 ∨ r = 3 ∨ r = 4 ∨ r = 5 ∨ r = 6 ∨ r = 7 := by omega
  rcases hk with rfl | rfl | rfl | rfl | rfl | rfl | rfl | rfl <;> exact absurd h0 (by decide)
/-- a record's bytes with one of them another -/
theorem turned_ne {p : Nat → Int} {k : Nat} {v : Int} (hk : k < 64) (hv : 0 ≤ v ∧ v < 256) (hne : v ≠ nth (rby p) k) (h0 : decE ((rby p).set k v) = 0) : smB (decX ((rby p).set k v)) p = false := by
  cases e : smB (decX ((rby p).set k v)) p with
  | false => rfl
  | true =>
    have hb : ∀ i, 0 ≤ nth ((rby p).set k v) i ∧ nth ((rby p).set k v) i < 256 := fun i => by
      rw [nth_set _ _ _ _ (by rw [rby_length]; exact hk)]
      split
      · exact hv
      · exact rby_bd p i
    have h1 := (rby_decX hb h0).2
    rw [(smB_iff.1 e).rby] at h1
    have h2 := nth_set (rby p) k k v (by rw [rby_length]; exact hk)
    rw [← h1, if_pos rfl] at h2
    exact absurd h2.symm hne
set_option maxRecDepth 100000 in
set_option maxHeartbeats 16000000 in
theorem form_any (w : World) (hT : TabAt w) (x y : Nat → Int) (hx : ∀ i, -9223372036854775808 ≤ x i ∧ x i ≤ 9223372036854775807) (hy : ∀ i, -9223372036854775808 ≤ y i ∧ y i ≤ 9223372036854775807) (ba : Option Addr) (bl bc : Nat) (bs : List Int) (hB : Bytes w ba bs) (hbl : bs.length = bl) (hbc : bl ≤ bc) :
    Calls Tryd.prog 3 #[inV x, inV y, .slice ba bl bc] w fun e w' => e = .returned (.bool true) ∧ Below w.heap.size w w' := by
  have HFx : Hid (∀ wx, Below w.heap.size w wx → Calls Tryd.prog 6 #[] wx fun e w' => e = .returned (.bool true) ∧ Below wx.heap.size wx w') := fun wx hb => jfixed_any wx (hT.on hb)
  have HBx : Hid (∀ wx, Calls Tryd.prog 7 #[.agg #[.int .i64 (x 0), .int .i64 (x 1), .int .i64 (x 2), .int .i64 (x 3), .int .i64 (x 4), .int .i64 (x 5), .int .i64 (x 6), .int .i64 (x 7), .int .i64 (x 8), .int .i64 (x 9), .int .i64 (x 10), .int .i64 (x 11), .int .i64 (x 12), .int .i64 (x 13), .int .i64 (x 14)]] wx fun e w' => e = .returned (inV (brR x)) ∧ Below wx.heap.size wx w') := fun wx => brought_any wx x hx
  have HBy : Hid (∀ wx, Calls Tryd.prog 7 #[.agg #[.int .i64 (y 0), .int .i64 (y 1), .int .i64 (y 2), .int .i64 (y 3), .int .i64 (y 4), .int .i64 (y 5), .int .i64 (y 6), .int .i64 (y 7), .int .i64 (y 8), .int .i64 (y 9), .int .i64 (y 10), .int .i64 (y 11), .int .i64 (y 12), .int .i64 (y 13), .int .i64 (y 14)]] wx fun e w' => e = .returned (inV (brR y)) ∧ Below wx.heap.size wx w') := fun wx => brought_any wx y hy
  have HPm : Hid (rMay (brR x) = true ∧ rMay (brR y) = true) := ⟨brR_may x, brR_may y⟩
  have HPb : Hid ((∀ i, -9223372036854775808 ≤ brR x i ∧ brR x i ≤ 9223372036854775807) ∧ (∀ i, -9223372036854775808 ≤ brR y i ∧ brR y i ≤ 9223372036854775807)) := ⟨brR_bd x, brR_bd y⟩
  generalize brR x = p at *
  generalize brR y = q at *
  unfold inV at HBx HBy
  have HEn : Hid (∀ (z : Nat → Int) wx, rMay z = true → (∀ i, -9223372036854775808 ≤ z i ∧ z i ≤ 9223372036854775807) → Below w.heap.size w wx → Calls Tryd.prog 8 #[.agg #[.int .i64 (z 0), .int .i64 (z 1), .int .i64 (z 2), .int .i64 (z 3), .int .i64 (z 4), .int .i64 (z 5), .int .i64 (z 6), .int .i64 (z 7), .int .i64 (z 8), .int .i64 (z 9), .int .i64 (z 10), .int .i64 (z 11), .int .i64 (z 12), .int .i64 (z 13), .int .i64 (z 14)]] wx fun e w' => ∃ g, e = .returned (.tuple #[.slice (some ⟨g, 0, none⟩) 64 64, .int .i64 0]) ∧ wx.heap.size ≤ g ∧ OwnB w' g 64 (rby z) ∧ Below wx.heap.size wx w') := fun z wx hm hz hb => enc_ok wx z hz hm (hT.on hb)
  have HDe : Hid (∀ wx a n c (l : List Int), l.length = n → Bytes wx a l → n ≤ c → Below w.heap.size w wx → Calls Tryd.prog 9 #[.slice a n c] wx fun e w' => e = .returned (.tuple #[.agg #[.int .i64 (decX l 0), .int .i64 (decX l 1), .int .i64 (decX l 2), .int .i64 (decX l 3), .int .i64 (decX l 4), .int .i64 (decX l 5), .int .i64 (decX l 6), .int .i64 (decX l 7), .int .i64 (decX l 8), .int .i64 (decX l 9), .int .i64 (decX l 10), .int .i64 (decX l 11), .int .i64 (decX l 12), .int .i64 (decX l 13), .int .i64 (decX l 14)], .int .i64 (decE l)]) ∧ Below wx.heap.size wx w') := fun wx a n c l hn ho hc hb => dec_any wx a n c l hn ho hc (hT.on hb)
  have HD0 : Hid (∀ wx g, Below w.heap.size w wx → OwnB wx g 64 (rby p) → Calls Tryd.prog 9 #[.slice (some ⟨g, 0, none⟩) 64 64] wx fun e w' => e = .returned (.tuple #[.agg #[.int .i64 (p 0), .int .i64 (p 1), .int .i64 (p 2), .int .i64 (p 3), .int .i64 (p 4), .int .i64 (p 5), .int .i64 (p 6), .int .i64 (p 7), .int .i64 (p 8), .int .i64 (p 9), .int .i64 (p 10), .int .i64 (p 11), .int .i64 (p 12), .int .i64 (p 13), .int .i64 (p 14)], .int .i64 0]) ∧ Below wx.heap.size wx w') := fun wx g hb ho => by
    have := dec_any wx (some ⟨g, 0, none⟩) 64 64 _ (rby_length p) ho.bytes (by omega) (hT.on hb)
    rw [decE_rby HPm.out.1, inV_sm (decX_rby HPm.out.1)] at this
    exact this
  have HBs : Hid (Bytes w ba bs ∧ bs.length = bl ∧ bl ≤ bc) := ⟨hB, hbl, hbc⟩
  have hbl9 : bl ≤ 1000000000000000 := by have := hB.len; omega
  clear hT hx hy hB hbl hbc
  unfold inV
  obtain ⟨P, hP⟩ : ∃ P, w.heap.size = P := ⟨_, rfl⟩
  obtain ⟨wa, hwa⟩ : ∃ wa, (w.alloc (.cells #[.int .i64 (x 0), .int .i64 (x 1), .int .i64 (x 2), .int .i64 (x 3), .int .i64 (x 4), .int .i64 (x 5), .int .i64 (x 6), .int .i64 (x 7), .int .i64 (x 8), .int .i64 (x 9), .int .i64 (x 10), .int .i64 (x 11), .int .i64 (x 12), .int .i64 (x 13), .int .i64 (x 14)] 24)).alloc (.cells #[.int .i64 (y 0), .int .i64 (y 1), .int .i64 (y 2), .int .i64 (y 3), .int .i64 (y 4), .int .i64 (y 5), .int .i64 (y 6), .int .i64 (y 7), .int .i64 (y 8), .int .i64 (y 9), .int .i64 (y 10), .int .i64 (y 11), .int .i64 (y 12), .int .i64 (y 13), .int .i64 (y 14)] 24) = wa := ⟨_, rfl⟩
  have HA : Hid (Below w.heap.size w wa ∧ wa.heap[P]? = some (.cells (inC x) 24 (0, 0)) ∧ wa.heap[P + 1]? = some (.cells (inC y) 24 (0, 0))) := by
    rw [← hwa, ← hP]
    refine ⟨((Below.refl _ _).alloc (Nat.le_refl _) _).alloc (by simp) _, (Below.heap_alloc _ _ _ (by simp)).trans (heap_alloc_new _ _), ?_⟩
    have := heap_alloc_new (w.alloc (.cells #[.int .i64 (x 0), .int .i64 (x 1), .int .i64 (x 2), .int .i64 (x 3), .int .i64 (x 4), .int .i64 (x 5), .int .i64 (x 6), .int .i64 (x 7), .int .i64 (x 8), .int .i64 (x 9), .int .i64 (x 10), .int .i64 (x 11), .int .i64 (x 12), .int .i64 (x 13), .int .i64 (x 14)] 24)) (.cells #[.int .i64 (y 0), .int .i64 (y 1), .int .i64 (y 2), .int .i64 (y 3), .int .i64 (y 4), .int .i64 (y 5), .int .i64 (y 6), .int .i64 (y 7), .int .i64 (y 8), .int .i64 (y 9), .int .i64 (y 10), .int .i64 (y 11), .int .i64 (y 12), .int .i64 (y 13), .int .i64 (y 14)] 24)
    rw [World.size_alloc] at this
    exact this
  go_enter Tryd.func3, Tryd.ntmps3
  go_upto_region 4 with (first
    | (go_at_call 6; refine (HFx.out _ HA.out.1).mono ?_; rintro e w1 ⟨rfl, h1⟩; have H1 : Hid (Below w.heap.size w w1 ∧ w1.heap[P]? = some (.cells (inC x) 24 (0, 0)) ∧ w1.heap[P + 1]? = some (.cells (inC y) 24 (0, 0))) := ⟨HA.out.1.trans (h1.mono HA.out.1.size), (h1.block _ (heap_lt HA.out.2.1)).trans HA.out.2.1, (h1.block _ (heap_lt HA.out.2.2)).trans HA.out.2.2⟩; have a0 : w1.cell? ⟨P, 0, none⟩ = some (.int .i64 (x 0)) := cell_of_row _ _ 0 _ _ _ H1.out.2.1; have a1 : w1.cell? ⟨P, 1, none⟩ = some (.int .i64 (x 1)) := cell_of_row _ _ 1 _ _ _ H1.out.2.1; have a2 : w1.cell? ⟨P, 2, none⟩ = some (.int .i64 (x 2)) := cell_of_row _ _ 2 _ _ _ H1.out.2.1; have a3 : w1.cell? ⟨P, 3, none⟩ = some (.int .i64 (x 3)) := cell_of_row _ _ 3 _ _ _ H1.out.2.1; have a4 : w1.cell? ⟨P, 4, none⟩ = some (.int .i64 (x 4)) := cell_of_row _ _ 4 _ _ _ H1.out.2.1; have a5 : w1.cell? ⟨P, 5, none⟩ = some (.int .i64 (x 5)) := cell_of_row _ _ 5 _ _ _ H1.out.2.1; have a6 : w1.cell? ⟨P, 6, none⟩ = some (.int .i64 (x 6)) := cell_of_row _ _ 6 _ _ _ H1.out.2.1; have a7 : w1.cell? ⟨P, 7, none⟩ = some (.int .i64 (x 7)) := cell_of_row _ _ 7 _ _ _ H1.out.2.1; have a8 : w1.cell? ⟨P, 8, none⟩ = some (.int .i64 (x 8)) := cell_of_row _ _ 8 _ _ _ H1.out.2.1; have a9 : w1.cell? ⟨P, 9, none⟩ = some (.int .i64 (x 9)) := cell_of_row _ _ 9 _ _ _ H1.out.2.1; have a10 : w1.cell? ⟨P, 10, none⟩ = some (.int .i64 (x 10)) := cell_of_row _ _ 10 _ _ _ H1.out.2.1; have a11 : w1.cell? ⟨P, 11, none⟩ = some (.int .i64 (x 11)) := cell_of_row _ _ 11 _ _ _ H1.out.2.1; have a12 : w1.cell? ⟨P, 12, none⟩ = some (.int .i64 (x 12)) := cell_of_row _ _ 12 _ _ _ H1.out.2.1; have a13 : w1.cell? ⟨P, 13, none⟩ = some (.int .i64 (x 13)) := cell_of_row _ _ 13 _ _ _ H1.out.2.1; have a14 : w1.cell? ⟨P, 14, none⟩ = some (.int .i64 (x 14)) := cell_of_row _ _ 14 _ _ _ H1.out.2.1; clear h1 HFx)
    | (go_at_call 7; refine (HBx.out _).mono ?_; rintro e w2 ⟨rfl, h1⟩; have H2 : Hid (Below w.heap.size w w2 ∧ w2.heap[P + 1]? = some (.cells (inC y) 24 (0, 0))) := ⟨H1.out.1.trans (h1.mono H1.out.1.size), (h1.block _ (heap_lt H1.out.2.2)).trans H1.out.2.2⟩; clear h1 HBx))
  obtain ⟨X, hX⟩ : ∃ X, w2.heap.size = X := ⟨_, rfl⟩
  obtain ⟨w3, hw3⟩ : ∃ w3, w2.alloc (.cells #[.int .i64 (p 0), .int .i64 (p 1), .int .i64 (p 2), .int .i64 (p 3), .int .i64 (p 4), .int .i64 (p 5), .int .i64 (p 6), .int .i64 (p 7), .int .i64 (p 8), .int .i64 (p 9), .int .i64 (p 10), .int .i64 (p 11), .int .i64 (p 12), .int .i64 (p 13), .int .i64 (p 14)] 24) = w3 := ⟨_, rfl⟩
  have H3 : Hid (Below w.heap.size w w3 ∧ w3.heap[P + 1]? = some (.cells (inC y) 24 (0, 0)) ∧ w3.heap[X]? = some (.cells (inC p) 24 (0, 0))) := by
    have hb : Below w2.heap.size w2 w3 := by rw [← hw3]; exact (Below.refl _ _).alloc (Nat.le_refl _) _
    refine ⟨H2.out.1.trans (hb.mono H2.out.1.size), (hb.block _ (heap_lt H2.out.2)).trans H2.out.2, ?_⟩
    rw [← hw3, ← hX]; exact heap_alloc_new _ _
  rw [hw3, hX]
  clear hw3
  have b0 : w3.cell? ⟨P + 1, 0, none⟩ = some (.int .i64 (y 0)) := cell_of_row _ _ 0 _ _ _ H3.out.2.1; have b1 : w3.cell? ⟨P + 1, 1, none⟩ = some (.int .i64 (y 1)) := cell_of_row _ _ 1 _ _ _ H3.out.2.1; have b2 : w3.cell? ⟨P + 1, 2, none⟩ = some (.int .i64 (y 2)) := cell_of_row _ _ 2 _ _ _ H3.out.2.1; have b3 : w3.cell? ⟨P + 1, 3, none⟩ = some (.int .i64 (y 3)) := cell_of_row _ _ 3 _ _ _ H3.out.2.1; have b4 : w3.cell? ⟨P + 1, 4, none⟩ = some (.int .i64 (y 4)) := cell_of_row _ _ 4 _ _ _ H3.out.2.1; have b5 : w3.cell? ⟨P + 1, 5, none⟩ = some (.int .i64 (y 5)) := cell_of_row _ _ 5 _ _ _ H3.out.2.1; have b6 : w3.cell? ⟨P + 1, 6, none⟩ = some (.int .i64 (y 6)) := cell_of_row _ _ 6 _ _ _ H3.out.2.1; have b7 : w3.cell? ⟨P + 1, 7, none⟩ = some (.int .i64 (y 7)) := cell_of_row _ _ 7 _ _ _ H3.out.2.1; have b8 : w3.cell? ⟨P + 1, 8, none⟩ = some (.int .i64 (y 8)) := cell_of_row _ _ 8 _ _ _ H3.out.2.1; have b9 : w3.cell? ⟨P + 1, 9, none⟩ = some (.int .i64 (y 9)) := cell_of_row _ _ 9 _ _ _ H3.out.2.1; have b10 : w3.cell? ⟨P + 1, 10, none⟩ = some (.int .i64 (y 10)) := cell_of_row _ _ 10 _ _ _ H3.out.2.1; have b11 : w3.cell? ⟨P + 1, 11, none⟩ = some (.int .i64 (y 11)) := cell_of_row _ _ 11 _ _ _ H3.out.2.1; have b12 : w3.cell? ⟨P + 1, 12, none⟩ = some (.int .i64 (y 12)) := cell_of_row _ _ 12 _ _ _ H3.out.2.1; have b13 : w3.cell? ⟨P + 1, 13, none⟩ = some (.int .i64 (y 13)) := cell_of_row _ _ 13 _ _ _ H3.out.2.1; have b14 : w3.cell? ⟨P + 1, 14, none⟩ = some (.int .i64 (y 14)) := cell_of_row _ _ 14 _ _ _ H3.out.2.1
  as_aux_lemma =>
    go_upto_region 5 with (go_at_call 7; refine (HBy.out _).mono ?_; rintro e w4 ⟨rfl, h1⟩; have H4 : Hid (Below w.heap.size w w4 ∧ w4.heap[X]? = some (.cells (inC p) 24 (0, 0))) := ⟨H3.out.1.trans (h1.mono H3.out.1.size), (h1.block _ (heap_lt H3.out.2.2)).trans H3.out.2.2⟩; clear h1 HBy)
    obtain ⟨Y, hY⟩ : ∃ Y, w4.heap.size = Y := ⟨_, rfl⟩
    obtain ⟨w5, hw5⟩ : ∃ w5, w4.alloc (.cells #[.int .i64 (q 0), .int .i64 (q 1), .int .i64 (q 2), .int .i64 (q 3), .int .i64 (q 4), .int .i64 (q 5), .int .i64 (q 6), .int .i64 (q 7), .int .i64 (q 8), .int .i64 (q 9), .int .i64 (q 10), .int .i64 (q 11), .int .i64 (q 12), .int .i64 (q 13), .int .i64 (q 14)] 24) = w5 := ⟨_, rfl⟩
    have H5 : Hid (Below w.heap.size w w5 ∧ w5.heap[X]? = some (.cells (inC p) 24 (0, 0)) ∧ w5.heap[Y]? = some (.cells (inC q) 24 (0, 0))) := by
      have hb : Below w4.heap.size w4 w5 := by rw [← hw5]; exact (Below.refl _ _).alloc (Nat.le_refl _) _
      refine ⟨H4.out.1.trans (hb.mono H4.out.1.size), (hb.block _ (heap_lt H4.out.2)).trans H4.out.2, ?_⟩
      rw [← hw5, ← hY]; exact heap_alloc_new _ _
    rw [hw5, hY]
    clear hw5
    have c0 : w5.cell? ⟨X, 0, none⟩ = some (.int .i64 (p 0)) := cell_of_row _ _ 0 _ _ _ H5.out.2.1; have c1 : w5.cell? ⟨X, 1, none⟩ = some (.int .i64 (p 1)) := cell_of_row _ _ 1 _ _ _ H5.out.2.1; have c2 : w5.cell? ⟨X, 2, none⟩ = some (.int .i64 (p 2)) := cell_of_row _ _ 2 _ _ _ H5.out.2.1; have c3 : w5.cell? ⟨X, 3, none⟩ = some (.int .i64 (p 3)) := cell_of_row _ _ 3 _ _ _ H5.out.2.1; have c4 : w5.cell? ⟨X, 4, none⟩ = some (.int .i64 (p 4)) := cell_of_row _ _ 4 _ _ _ H5.out.2.1; have c5 : w5.cell? ⟨X, 5, none⟩ = some (.int .i64 (p 5)) := cell_of_row _ _ 5 _ _ _ H5.out.2.1; have c6 : w5.cell? ⟨X, 6, none⟩ = some (.int .i64 (p 6)) := cell_of_row _ _ 6 _ _ _ H5.out.2.1; have c7 : w5.cell? ⟨X, 7, none⟩ = some (.int .i64 (p 7)) := cell_of_row _ _ 7 _ _ _ H5.out.2.1; have c8 : w5.cell? ⟨X, 8, none⟩ = some (.int .i64 (p 8)) := cell_of_row _ _ 8 _ _ _ H5.out.2.1; have c9 : w5.cell? ⟨X, 9, none⟩ = some (.int .i64 (p 9)) := cell_of_row _ _ 9 _ _ _ H5.out.2.1; have c10 : w5.cell? ⟨X, 10, none⟩ = some (.int .i64 (p 10)) := cell_of_row _ _ 10 _ _ _ H5.out.2.1; have c11 : w5.cell? ⟨X, 11, none⟩ = some (.int .i64 (p 11)) := cell_of_row _ _ 11 _ _ _ H5.out.2.1; have c12 : w5.cell? ⟨X, 12, none⟩ = some (.int .i64 (p 12)) := cell_of_row _ _ 12 _ _ _ H5.out.2.1; have c13 : w5.cell? ⟨X, 13, none⟩ = some (.int .i64 (p 13)) := cell_of_row _ _ 13 _ _ _ H5.out.2.1; have c14 : w5.cell? ⟨X, 14, none⟩ = some (.int .i64 (p 14)) := cell_of_row _ _ 14 _ _ _ H5.out.2.1
    as_aux_lemma =>
      go_upto_region 7 with (first
        | (go_at_call 8; have hh := H5.out; clear hh; refine (HEn.out p _ HPm.out.1 HPb.out.1 H5.out.1).mono ?_; rintro e w6 ⟨gl, rfl, h1, h2, h3⟩; have H6 : Hid (Below w.heap.size w w6 ∧ w6.heap[X]? = some (.cells (inC p) 24 (0, 0)) ∧ w6.heap[Y]? = some (.cells (inC q) 24 (0, 0)) ∧ OwnB w6 gl 64 (rby p)) := ⟨H5.out.1.trans (h3.mono H5.out.1.size), (h3.block _ (heap_lt H5.out.2.1)).trans H5.out.2.1, (h3.block _ (heap_lt H5.out.2.2)).trans H5.out.2.2, h2⟩; have d0 : w6.cell? ⟨Y, 0, none⟩ = some (.int .i64 (q 0)) := cell_of_row _ _ 0 _ _ _ H6.out.2.2.1; have d1 : w6.cell? ⟨Y, 1, none⟩ = some (.int .i64 (q 1)) := cell_of_row _ _ 1 _ _ _ H6.out.2.2.1; have d2 : w6.cell? ⟨Y, 2, none⟩ = some (.int .i64 (q 2)) := cell_of_row _ _ 2 _ _ _ H6.out.2.2.1; have d3 : w6.cell? ⟨Y, 3, none⟩ = some (.int .i64 (q 3)) := cell_of_row _ _ 3 _ _ _ H6.out.2.2.1; have d4 : w6.cell? ⟨Y, 4, none⟩ = some (.int .i64 (q 4)) := cell_of_row _ _ 4 _ _ _ H6.out.2.2.1; have d5 : w6.cell? ⟨Y, 5, none⟩ = some (.int .i64 (q 5)) := cell_of_row _ _ 5 _ _ _ H6.out.2.2.1; have d6 : w6.cell? ⟨Y, 6, none⟩ = some (.int .i64 (q 6)) := cell_of_row _ _ 6 _ _ _ H6.out.2.2.1; have d7 : w6.cell? ⟨Y, 7, none⟩ = some (.int .i64 (q 7)) := cell_of_row _ _ 7 _ _ _ H6.out.2.2.1; have d8 : w6.cell? ⟨Y, 8, none⟩ = some (.int .i64 (q 8)) := cell_of_row _ _ 8 _ _ _ H6.out.2.2.1; have d9 : w6.cell? ⟨Y, 9, none⟩ = some (.int .i64 (q 9)) := cell_of_row _ _ 9 _ _ _ H6.out.2.2.1; have d10 : w6.cell? ⟨Y, 10, none⟩ = some (.int .i64 (q 10)) := cell_of_row _ _ 10 _ _ _ H6.out.2.2.1; have d11 : w6.cell? ⟨Y, 11, none⟩ = some (.int .i64 (q 11)) := cell_of_row _ _ 11 _ _ _ H6.out.2.2.1; have d12 : w6.cell? ⟨Y, 12, none⟩ = some (.int .i64 (q 12)) := cell_of_row _ _ 12 _ _ _ H6.out.2.2.1; have d13 : w6.cell? ⟨Y, 13, none⟩ = some (.int .i64 (q 13)) := cell_of_row _ _ 13 _ _ _ H6.out.2.2.1; have d14 : w6.cell? ⟨Y, 14, none⟩ = some (.int .i64 (q 14)) := cell_of_row _ _ 14 _ _ _ H6.out.2.2.1; clear h1 h2 h3 H5)
        | (go_at_call 8; refine (HEn.out q _ HPm.out.2 HPb.out.2 H6.out.1).mono ?_; rintro e w7 ⟨gm, rfl, h1, h2, h3⟩; have H7 : Hid (Below w.heap.size w w7 ∧ w7.heap[X]? = some (.cells (inC p) 24 (0, 0)) ∧ w7.heap[Y]? = some (.cells (inC q) 24 (0, 0)) ∧ OwnB w7 gl 64 (rby p) ∧ OwnB w7 gm 64 (rby q)) := ⟨H6.out.1.trans (h3.mono H6.out.1.size), (h3.block _ (heap_lt H6.out.2.1)).trans H6.out.2.1, (h3.block _ (heap_lt H6.out.2.2.1)).trans H6.out.2.2.1, H6.out.2.2.2.on h3, h2⟩; clear h1 h2 h3))
      have e0 : w7.cell? ⟨X, 0, none⟩ = some (.int .i64 (p 0)) := cell_of_row _ _ 0 _ _ _ H7.out.2.1; have e1 : w7.cell? ⟨X, 1, none⟩ = some (.int .i64 (p 1)) := cell_of_row _ _ 1 _ _ _ H7.out.2.1; have e2 : w7.cell? ⟨X, 2, none⟩ = some (.int .i64 (p 2)) := cell_of_row _ _ 2 _ _ _ H7.out.2.1; have e3 : w7.cell? ⟨X, 3, none⟩ = some (.int .i64 (p 3)) := cell_of_row _ _ 3 _ _ _ H7.out.2.1; have e4 : w7.cell? ⟨X, 4, none⟩ = some (.int .i64 (p 4)) := cell_of_row _ _ 4 _ _ _ H7.out.2.1; have e5 : w7.cell? ⟨X, 5, none⟩ = some (.int .i64 (p 5)) := cell_of_row _ _ 5 _ _ _ H7.out.2.1; have e6 : w7.cell? ⟨X, 6, none⟩ = some (.int .i64 (p 6)) := cell_of_row _ _ 6 _ _ _ H7.out.2.1; have e7 : w7.cell? ⟨X, 7, none⟩ = some (.int .i64 (p 7)) := cell_of_row _ _ 7 _ _ _ H7.out.2.1; have e8 : w7.cell? ⟨X, 8, none⟩ = some (.int .i64 (p 8)) := cell_of_row _ _ 8 _ _ _ H7.out.2.1; have e9 : w7.cell? ⟨X, 9, none⟩ = some (.int .i64 (p 9)) := cell_of_row _ _ 9 _ _ _ H7.out.2.1; have e10 : w7.cell? ⟨X, 10, none⟩ = some (.int .i64 (p 10)) := cell_of_row _ _ 10 _ _ _ H7.out.2.1; have e11 : w7.cell? ⟨X, 11, none⟩ = some (.int .i64 (p 11)) := cell_of_row _ _ 11 _ _ _ H7.out.2.1; have e12 : w7.cell? ⟨X, 12, none⟩ = some (.int .i64 (p 12)) := cell_of_row _ _ 12 _ _ _ H7.out.2.1; have e13 : w7.cell? ⟨X, 13, none⟩ = some (.int .i64 (p 13)) := cell_of_row _ _ 13 _ _ _ H7.out.2.1; have e14 : w7.cell? ⟨X, 14, none⟩ = some (.int .i64 (p 14)) := cell_of_row _ _ 14 _ _ _ H7.out.2.1
      have f0 : w7.cell? ⟨Y, 0, none⟩ = some (.int .i64 (q 0)) := cell_of_row _ _ 0 _ _ _ H7.out.2.2.1; have f1 : w7.cell? ⟨Y, 1, none⟩ = some (.int .i64 (q 1)) := cell_of_row _ _ 1 _ _ _ H7.out.2.2.1; have f2 : w7.cell? ⟨Y, 2, none⟩ = some (.int .i64 (q 2)) := cell_of_row _ _ 2 _ _ _ H7.out.2.2.1; have f3 : w7.cell? ⟨Y, 3, none⟩ = some (.int .i64 (q 3)) := cell_of_row _ _ 3 _ _ _ H7.out.2.2.1; have f4 : w7.cell? ⟨Y, 4, none⟩ = some (.int .i64 (q 4)) := cell_of_row _ _ 4 _ _ _ H7.out.2.2.1; have f5 : w7.cell? ⟨Y, 5, none⟩ = some (.int .i64 (q 5)) := cell_of_row _ _ 5 _ _ _ H7.out.2.2.1; have f6 : w7.cell? ⟨Y, 6, none⟩ = some (.int .i64 (q 6)) := cell_of_row _ _ 6 _ _ _ H7.out.2.2.1; have f7 : w7.cell? ⟨Y, 7, none⟩ = some (.int .i64 (q 7)) := cell_of_row _ _ 7 _ _ _ H7.out.2.2.1; have f8 : w7.cell? ⟨Y, 8, none⟩ = some (.int .i64 (q 8)) := cell_of_row _ _ 8 _ _ _ H7.out.2.2.1; have f9 : w7.cell? ⟨Y, 9, none⟩ = some (.int .i64 (q 9)) := cell_of_row _ _ 9 _ _ _ H7.out.2.2.1; have f10 : w7.cell? ⟨Y, 10, none⟩ = some (.int .i64 (q 10)) := cell_of_row _ _ 10 _ _ _ H7.out.2.2.1; have f11 : w7.cell? ⟨Y, 11, none⟩ = some (.int .i64 (q 11)) := cell_of_row _ _ 11 _ _ _ H7.out.2.2.1; have f12 : w7.cell? ⟨Y, 12, none⟩ = some (.int .i64 (q 12)) := cell_of_row _ _ 12 _ _ _ H7.out.2.2.1; have f13 : w7.cell? ⟨Y, 13, none⟩ = some (.int .i64 (q 13)) := cell_of_row _ _ 13 _ _ _ H7.out.2.2.1; have f14 : w7.cell? ⟨Y, 14, none⟩ = some (.int .i64 (q 14)) := cell_of_row _ _ 14 _ _ _ H7.out.2.2.1
      as_aux_lemma =>
        obtain ⟨S1, hS1⟩ : ∃ S1, strOfNums (rby p) = S1 := ⟨_, rfl⟩
        obtain ⟨S2, hS2⟩ : ∃ S2, strOfNums (rby q) = S2 := ⟨_, rfl⟩
        have cv1 : ∀ j, (convert 25 9 (.slice (some ⟨gl, 0, none⟩) 64 64)).run Tryd.prog (w7.drewN j) = .ok (.string S1) (w7.drewN j) := fun j => by
          rw [← hS1]; exact str_opt (H7.out.2.2.2.1.on (drew7 w7 j)).bytes (rby_length p)
        have cv2 : ∀ j, (convert 25 9 (.slice (some ⟨gm, 0, none⟩) 64 64)).run Tryd.prog (w7.drewN j) = .ok (.string S2) (w7.drewN j) := fun j => by
          rw [← hS2]; exact str_opt (H7.out.2.2.2.2.on (drew7 w7 j)).bytes (rby_length q)
        have HSS : Hid ((smB p q = true → S1 = S2) ∧ (smB p q = false → (S1.toList == S2.toList) = false ∧ ¬ S1 = S2)) := by
          constructor
          · intro h; rw [← hS1, ← hS2, (smB_iff.1 h).rby]
          · intro h
            have hne : ¬ rby p = rby q := fun e => by
              have := smB_iff.2 (rby_inj HPm.out.1 HPm.out.2 e)
              rw [h] at this; cases this
            rw [← hS1, ← hS2]
            refine ⟨?_, fun e => hne ((str_inj (rby_bd p) (rby_bd q)).1 e)⟩
            rw [str_same (rby_bd p) (rby_bd q)]; exact decide_eq_false hne
        have EQ : ∀ w, (binOp .eql 24 (.agg #[.int .i64 (p 0), .int .i64 (p 1), .int .i64 (p 2), .int .i64 (p 3), .int .i64 (p 4), .int .i64 (p 5), .int .i64 (p 6), .int .i64 (p 7), .int .i64 (p 8), .int .i64 (p 9), .int .i64 (p 10), .int .i64 (p 11), .int .i64 (p 12), .int .i64 (p 13), .int .i64 (p 14)]) (.agg #[.int .i64 (q 0), .int .i64 (q 1), .int .i64 (q 2), .int .i64 (q 3), .int .i64 (q 4), .int .i64 (q 5), .int .i64 (q 6), .int .i64 (q 7), .int .i64 (q 8), .int .i64 (q 9), .int .i64 (q 10), .int .i64 (q 11), .int .i64 (q 12), .int .i64 (q 13), .int .i64 (q 14)])).run Tryd.prog w = .ok (.bool (smB p q)) w := fun w => eqlI w p q
        clear hS1 hS2
        go_cut [65] (fun s wx => s = .bool false ∧ Below w7.heap.size w7 wx)
        case first => as_aux_lemma =>
          cases hpq : smB p q
          · obtain ⟨t1, t2⟩ := HSS.out.2 hpq
            rw [hpq] at EQ
            clear HSS hpq
            go_quiet (fail)
            all_goals go_wp2
            all_goals go_meet
            case rel => exact ⟨by simp, drew7 w7 _⟩
          · have t1 := HSS.out.1 hpq
            subst t1
            rw [hpq] at EQ
            clear HSS hpq
            go_quiet (fail)
            all_goals go_wp2
            all_goals go_meet
            case rel => exact ⟨by simp, drew7 w7 _⟩
        case rest =>
        obtain ⟨rfl, hb8⟩ := hcut
        have H8 : Hid (Below w.heap.size w wc ∧ wc.heap[X]? = some (.cells (inC p) 24 (0, 0)) ∧ OwnB wc gl 64 (rby p)) := ⟨H7.out.1.trans (hb8.mono H7.out.1.size), (hb8.block _ (heap_lt H7.out.2.1)).trans H7.out.2.1, H7.out.2.2.2.1.on hb8⟩
        clear hb8 EQ cv1 cv2 HSS
        as_aux_lemma =>
          have EN : ∀ w, (binOp .neq 24 (.agg #[.int .i64 (p 0), .int .i64 (p 1), .int .i64 (p 2), .int .i64 (p 3), .int .i64 (p 4), .int .i64 (p 5), .int .i64 (p 6), .int .i64 (p 7), .int .i64 (p 8), .int .i64 (p 9), .int .i64 (p 10), .int .i64 (p 11), .int .i64 (p 12), .int .i64 (p 13), .int .i64 (p 14)]) (.agg #[.int .i64 (p 0), .int .i64 (p 1), .int .i64 (p 2), .int .i64 (p 3), .int .i64 (p 4), .int .i64 (p 5), .int .i64 (p 6), .int .i64 (p 7), .int .i64 (p 8), .int .i64 (p 9), .int .i64 (p 10), .int .i64 (p 11), .int .i64 (p 12), .int .i64 (p 13), .int .i64 (p 14)])).run Tryd.prog w = .ok (.bool false) w := fun w => by
            have := neqI w p p
            rw [smB_iff.2 Sm.rfl] at this
            exact this
          go_upto_region 10 with (go_at_call 9; refine (HD0.out _ gl H8.out.1 H8.out.2.2).mono ?_; rintro e w9 ⟨rfl, h1⟩; have H9 : Hid (Below wc.heap.size wc w9) := h1; clear h1 HD0)
          obtain ⟨V, hV⟩ : ∃ V, w9.heap.size = V := ⟨_, rfl⟩
          obtain ⟨wA, hwA⟩ : ∃ wA, w9.alloc (.cells #[.int .i64 (p 0), .int .i64 (p 1), .int .i64 (p 2), .int .i64 (p 3), .int .i64 (p 4), .int .i64 (p 5), .int .i64 (p 6), .int .i64 (p 7), .int .i64 (p 8), .int .i64 (p 9), .int .i64 (p 10), .int .i64 (p 11), .int .i64 (p 12), .int .i64 (p 13), .int .i64 (p 14)] 24) = wA := ⟨_, rfl⟩
          have H10 : Hid (Below w.heap.size w wA ∧ wA.heap[X]? = some (.cells (inC p) 24 (0, 0)) ∧ OwnB wA gl 64 (rby p) ∧ wA.heap[V]? = some (.cells (inC p) 24 (0, 0))) := by
            have hb : Below wc.heap.size wc wA := by rw [← hwA]; exact H9.out.alloc H9.out.size _
            refine ⟨H8.out.1.trans (hb.mono H8.out.1.size), (hb.block _ (heap_lt H8.out.2.1)).trans H8.out.2.1, H8.out.2.2.on hb, ?_⟩
            rw [← hwA, ← hV]; exact heap_alloc_new _ _
          rw [hwA, hV]
          clear hwA
          have g0 : wA.cell? ⟨X, 0, none⟩ = some (.int .i64 (p 0)) := cell_of_row _ _ 0 _ _ _ H10.out.2.1; have g1 : wA.cell? ⟨X, 1, none⟩ = some (.int .i64 (p 1)) := cell_of_row _ _ 1 _ _ _ H10.out.2.1; have g2 : wA.cell? ⟨X, 2, none⟩ = some (.int .i64 (p 2)) := cell_of_row _ _ 2 _ _ _ H10.out.2.1; have g3 : wA.cell? ⟨X, 3, none⟩ = some (.int .i64 (p 3)) := cell_of_row _ _ 3 _ _ _ H10.out.2.1; have g4 : wA.cell? ⟨X, 4, none⟩ = some (.int .i64 (p 4)) := cell_of_row _ _ 4 _ _ _ H10.out.2.1; have g5 : wA.cell? ⟨X, 5, none⟩ = some (.int .i64 (p 5)) := cell_of_row _ _ 5 _ _ _ H10.out.2.1; have g6 : wA.cell? ⟨X, 6, none⟩ = some (.int .i64 (p 6)) := cell_of_row _ _ 6 _ _ _ H10.out.2.1; have g7 : wA.cell? ⟨X, 7, none⟩ = some (.int .i64 (p 7)) := cell_of_row _ _ 7 _ _ _ H10.out.2.1; have g8 : wA.cell? ⟨X, 8, none⟩ = some (.int .i64 (p 8)) := cell_of_row _ _ 8 _ _ _ H10.out.2.1; have g9 : wA.cell? ⟨X, 9, none⟩ = some (.int .i64 (p 9)) := cell_of_row _ _ 9 _ _ _ H10.out.2.1; have g10 : wA.cell? ⟨X, 10, none⟩ = some (.int .i64 (p 10)) := cell_of_row _ _ 10 _ _ _ H10.out.2.1; have g11 : wA.cell? ⟨X, 11, none⟩ = some (.int .i64 (p 11)) := cell_of_row _ _ 11 _ _ _ H10.out.2.1; have g12 : wA.cell? ⟨X, 12, none⟩ = some (.int .i64 (p 12)) := cell_of_row _ _ 12 _ _ _ H10.out.2.1; have g13 : wA.cell? ⟨X, 13, none⟩ = some (.int .i64 (p 13)) := cell_of_row _ _ 13 _ _ _ H10.out.2.1; have g14 : wA.cell? ⟨X, 14, none⟩ = some (.int .i64 (p 14)) := cell_of_row _ _ 14 _ _ _ H10.out.2.1
          have h0 : wA.cell? ⟨V, 0, none⟩ = some (.int .i64 (p 0)) := cell_of_row _ _ 0 _ _ _ H10.out.2.2.2; have h1 : wA.cell? ⟨V, 1, none⟩ = some (.int .i64 (p 1)) := cell_of_row _ _ 1 _ _ _ H10.out.2.2.2; have h2 : wA.cell? ⟨V, 2, none⟩ = some (.int .i64 (p 2)) := cell_of_row _ _ 2 _ _ _ H10.out.2.2.2; have h3 : wA.cell? ⟨V, 3, none⟩ = some (.int .i64 (p 3)) := cell_of_row _ _ 3 _ _ _ H10.out.2.2.2; have h4 : wA.cell? ⟨V, 4, none⟩ = some (.int .i64 (p 4)) := cell_of_row _ _ 4 _ _ _ H10.out.2.2.2; have h5 : wA.cell? ⟨V, 5, none⟩ = some (.int .i64 (p 5)) := cell_of_row _ _ 5 _ _ _ H10.out.2.2.2; have h6 : wA.cell? ⟨V, 6, none⟩ = some (.int .i64 (p 6)) := cell_of_row _ _ 6 _ _ _ H10.out.2.2.2; have h7 : wA.cell? ⟨V, 7, none⟩ = some (.int .i64 (p 7)) := cell_of_row _ _ 7 _ _ _ H10.out.2.2.2; have h8 : wA.cell? ⟨V, 8, none⟩ = some (.int .i64 (p 8)) := cell_of_row _ _ 8 _ _ _ H10.out.2.2.2; have h9 : wA.cell? ⟨V, 9, none⟩ = some (.int .i64 (p 9)) := cell_of_row _ _ 9 _ _ _ H10.out.2.2.2; have h10 : wA.cell? ⟨V, 10, none⟩ = some (.int .i64 (p 10)) := cell_of_row _ _ 10 _ _ _ H10.out.2.2.2; have h11 : wA.cell? ⟨V, 11, none⟩ = some (.int .i64 (p 11)) := cell_of_row _ _ 11 _ _ _ H10.out.2.2.2; have h12 : wA.cell? ⟨V, 12, none⟩ = some (.int .i64 (p 12)) := cell_of_row _ _ 12 _ _ _ H10.out.2.2.2; have h13 : wA.cell? ⟨V, 13, none⟩ = some (.int .i64 (p 13)) := cell_of_row _ _ 13 _ _ _ H10.out.2.2.2; have h14 : wA.cell? ⟨V, 14, none⟩ = some (.int .i64 (p 14)) := cell_of_row _ _ 14 _ _ _ H10.out.2.2.2
          go_wp2
          clear g0 h0 g1 h1 g2 h2 g3 h3 g4 h4 g5 h5 g6 h6 g7 h7 g8 h8 g9 h9 g10 h10 g11 h11 g12 h12 g13 h13 g14 h14 EN
          as_aux_lemma =>
            go_loopw [15] (fun i wr => ∃ k : Nat, k ≤ 64 ∧ i = .int .i64 k ∧ Below wA.heap.size wA wr) (fun i _ => 64 - (intOf i).toNat)
            case atStart => exact ⟨0, Nat.zero_le _, rfl, Below.refl _ _⟩
            case round =>
              obtain ⟨k, hk, rfl, hI⟩ := hrel
              have HI : Hid (Below wA.heap.size wA wr) := hI
              have HX : Hid (Below w.heap.size w wr ∧ wr.heap[X]? = some (.cells (inC p) 24 (0, 0)) ∧ OwnB wr gl 64 (rby p)) := ⟨H10.out.1.trans (hI.mono H10.out.1.size), (hI.block _ (heap_lt H10.out.2.1)).trans H10.out.2.1, H10.out.2.2.1.on hI⟩
              clear hI
              by_cases hlt : k < 64
              · go_upto_region 16 with (at_builtin; refine wp_bcopy11 (w7 := wr) rfl (.tmp 82) (.tmp 83) rfl rfl ⟨gl, 0, none⟩ 64 64 (rby p) rfl (rby_length p) HX.out.2.2.bytes (by omega) ?_; intro g cap w11 ho hb hg hcap; have H11 : Hid (OwnB w11 g cap (rby p) ∧ Below wr.heap.size wr w11 ∧ wr.heap.size ≤ g) := ⟨ho, hb, hg⟩; clear ho hb hg)
                as_aux_lemma =>
                  obtain ⟨r, hr, hr8⟩ : ∃ r : Nat, (k : Int) % 8 = (r : Int) ∧ r < 8 := ⟨k % 8, by omega, by omega⟩
                  obtain ⟨cc, hcc, hcb⟩ : ∃ cc, nth (rby p) k = cc ∧ 0 ≤ cc ∧ cc < 256 := ⟨_, rfl, rby_bd p k⟩
                  have d := H11.out.1.cell k (by rw [rby_length]; omega)
                  rw [hcc] at d
                  have HCc : Hid (nth (rby p) k = cc) := hcc
                  clear hcc
                  have f := H11.out.1.frozen k
                  have HFl : Hid ((0 ≤ bits .xor .u8 cc ((2 : Int) ^ r % 256) ∧ bits .xor .u8 cc ((2 : Int) ^ r % 256) < 256) ∧ bits .xor .u8 cc ((2 : Int) ^ r % 256) ≠ cc) := ⟨(flip_byte11 cc r hcb hr8).1, flip_ne cc r hcb hr8⟩
                  go_region
                  obtain ⟨v, hv⟩ : ∃ v, bits .xor .u8 cc ((2 : Int) ^ r % 256) = v := ⟨_, rfl⟩
                  rw [hv] at HFl
                  obtain ⟨w12, hw12⟩ : ∃ w12, (w11.setCell ⟨g, k, none⟩ (.int .u8 v)).drew = w12 := ⟨_, rfl⟩
                  have H12 : Hid (Below wr.heap.size wr w12 ∧ OwnB w12 g cap ((rby p).set k v)) := by
                    rw [← hw12]
                    have h1 : Below wr.heap.size wr (w11.setCell ⟨g, k, none⟩ (.int .u8 v)) := below_put H11.out.2.1 (Nat.le_refl _) H11.out.2.2
                    exact ⟨h1.drew, (H11.out.1.set k v (by rw [rby_length]; omega) HFl.out.1).on (Below.refl _ _).drew⟩
                  have HZl : Hid (((rby p).set k v).length = 64) := by show _ = _; rw [List.length_set, rby_length]
                  have HZc : Hid ((decE ((rby p).set k v) = 0 ∧ smB (decX ((rby p).set k v)) p = false) ∨ (decE ((rby p).set k v) = 111 ∧ smB (decX ((rby p).set k v)) z15 = true)) := by
                    rcases decE_cases HZl.out with h | h
                    · exact .inl ⟨h, turned_ne hlt HFl.out.1 (by rw [HCc.out]; exact HFl.out.2) h⟩
                    · exact .inr ⟨h, by rw [decX_ne (by omega)]; exact smB_iff.2 Sm.rfl⟩
                  rw [hv, hw12]
                  clear hw12 hv d f HFl HCc hr hr8 hcb
                  have HDz : Hid (Calls Tryd.prog 9 #[.slice (some ⟨g, 0, none⟩) 64 cap] w12 fun e w' => e = .returned (.tuple #[.agg #[.int .i64 (decX ((rby p).set k v) 0), .int .i64 (decX ((rby p).set k v) 1), .int .i64 (decX ((rby p).set k v) 2), .int .i64 (decX ((rby p).set k v) 3), .int .i64 (decX ((rby p).set k v) 4), .int .i64 (decX ((rby p).set k v) 5), .int .i64 (decX ((rby p).set k v) 6), .int .i64 (decX ((rby p).set k v) 7), .int .i64 (decX ((rby p).set k v) 8), .int .i64 (decX ((rby p).set k v) 9), .int .i64 (decX ((rby p).set k v) 10), .int .i64 (decX ((rby p).set k v) 11), .int .i64 (decX ((rby p).set k v) 12), .int .i64 (decX ((rby p).set k v) 13), .int .i64 (decX ((rby p).set k v) 14)], .int .i64 (decE ((rby p).set k v))]) ∧ Below w12.heap.size w12 w') := HDe.out w12 (some ⟨g, 0, none⟩) 64 cap _ HZl.out H12.out.2.bytes hcap (HX.out.1.trans (H12.out.1.mono HX.out.1.size))
                  generalize decX ((rby p).set k v) = dx at *
                  generalize decE ((rby p).set k v) = de at *
                  as_aux_lemma =>
                    go_upto_region 18 with (go_at_call 9; refine HDz.out.mono ?_; rintro e w13 ⟨rfl, h1⟩; have H13 : Hid (Below wr.heap.size wr w13) := H12.out.1.trans (h1.mono H12.out.1.size); clear h1 HDz)
                    obtain ⟨Q, hQ⟩ : ∃ Q, w13.heap.size = Q := ⟨_, rfl⟩
                    obtain ⟨w14, hw14⟩ : ∃ w14, w13.alloc (.cells #[.int .i64 (dx 0), .int .i64 (dx 1), .int .i64 (dx 2), .int .i64 (dx 3), .int .i64 (dx 4), .int .i64 (dx 5), .int .i64 (dx 6), .int .i64 (dx 7), .int .i64 (dx 8), .int .i64 (dx 9), .int .i64 (dx 10), .int .i64 (dx 11), .int .i64 (dx 12), .int .i64 (dx 13), .int .i64 (dx 14)] 24) = w14 := ⟨_, rfl⟩
                    have H14 : Hid (Below wr.heap.size wr w14 ∧ w14.heap[Q]? = some (.cells (inC dx) 24 (0, 0)) ∧ w14.heap[X]? = some (.cells (inC p) 24 (0, 0))) := by
                      have hb : Below wr.heap.size wr w14 := by rw [← hw14]; exact H13.out.alloc H13.out.size _
                      refine ⟨hb, ?_, (hb.block _ (heap_lt HX.out.2.1)).trans HX.out.2.1⟩
                      rw [← hw14, ← hQ]; exact heap_alloc_new _ _
                    rw [hw14, hQ]
                    clear hw14
                    have g0 : w14.cell? ⟨Q, 0, none⟩ = some (.int .i64 (dx 0)) := cell_of_row _ _ 0 _ _ _ H14.out.2.1; have g1 : w14.cell? ⟨Q, 1, none⟩ = some (.int .i64 (dx 1)) := cell_of_row _ _ 1 _ _ _ H14.out.2.1; have g2 : w14.cell? ⟨Q, 2, none⟩ = some (.int .i64 (dx 2)) := cell_of_row _ _ 2 _ _ _ H14.out.2.1; have g3 : w14.cell? ⟨Q, 3, none⟩ = some (.int .i64 (dx 3)) := cell_of_row _ _ 3 _ _ _ H14.out.2.1; have g4 : w14.cell? ⟨Q, 4, none⟩ = some (.int .i64 (dx 4)) := cell_of_row _ _ 4 _ _ _ H14.out.2.1; have g5 : w14.cell? ⟨Q, 5, none⟩ = some (.int .i64 (dx 5)) := cell_of_row _ _ 5 _ _ _ H14.out.2.1; have g6 : w14.cell? ⟨Q, 6, none⟩ = some (.int .i64 (dx 6)) := cell_of_row _ _ 6 _ _ _ H14.out.2.1; have g7 : w14.cell? ⟨Q, 7, none⟩ = some (.int .i64 (dx 7)) := cell_of_row _ _ 7 _ _ _ H14.out.2.1; have g8 : w14.cell? ⟨Q, 8, none⟩ = some (.int .i64 (dx 8)) := cell_of_row _ _ 8 _ _ _ H14.out.2.1; have g9 : w14.cell? ⟨Q, 9, none⟩ = some (.int .i64 (dx 9)) := cell_of_row _ _ 9 _ _ _ H14.out.2.1; have g10 : w14.cell? ⟨Q, 10, none⟩ = some (.int .i64 (dx 10)) := cell_of_row _ _ 10 _ _ _ H14.out.2.1; have g11 : w14.cell? ⟨Q, 11, none⟩ = some (.int .i64 (dx 11)) := cell_of_row _ _ 11 _ _ _ H14.out.2.1; have g12 : w14.cell? ⟨Q, 12, none⟩ = some (.int .i64 (dx 12)) := cell_of_row _ _ 12 _ _ _ H14.out.2.1; have g13 : w14.cell? ⟨Q, 13, none⟩ = some (.int .i64 (dx 13)) := cell_of_row _ _ 13 _ _ _ H14.out.2.1; have g14 : w14.cell? ⟨Q, 14, none⟩ = some (.int .i64 (dx 14)) := cell_of_row _ _ 14 _ _ _ H14.out.2.1
                    have h0 : w14.cell? ⟨X, 0, none⟩ = some (.int .i64 (p 0)) := cell_of_row _ _ 0 _ _ _ H14.out.2.2; have h1 : w14.cell? ⟨X, 1, none⟩ = some (.int .i64 (p 1)) := cell_of_row _ _ 1 _ _ _ H14.out.2.2; have h2 : w14.cell? ⟨X, 2, none⟩ = some (.int .i64 (p 2)) := cell_of_row _ _ 2 _ _ _ H14.out.2.2; have h3 : w14.cell? ⟨X, 3, none⟩ = some (.int .i64 (p 3)) := cell_of_row _ _ 3 _ _ _ H14.out.2.2; have h4 : w14.cell? ⟨X, 4, none⟩ = some (.int .i64 (p 4)) := cell_of_row _ _ 4 _ _ _ H14.out.2.2; have h5 : w14.cell? ⟨X, 5, none⟩ = some (.int .i64 (p 5)) := cell_of_row _ _ 5 _ _ _ H14.out.2.2; have h6 : w14.cell? ⟨X, 6, none⟩ = some (.int .i64 (p 6)) := cell_of_row _ _ 6 _ _ _ H14.out.2.2; have h7 : w14.cell? ⟨X, 7, none⟩ = some (.int .i64 (p 7)) := cell_of_row _ _ 7 _ _ _ H14.out.2.2; have h8 : w14.cell? ⟨X, 8, none⟩ = some (.int .i64 (p 8)) := cell_of_row _ _ 8 _ _ _ H14.out.2.2; have h9 : w14.cell? ⟨X, 9, none⟩ = some (.int .i64 (p 9)) := cell_of_row _ _ 9 _ _ _ H14.out.2.2; have h10 : w14.cell? ⟨X, 10, none⟩ = some (.int .i64 (p 10)) := cell_of_row _ _ 10 _ _ _ H14.out.2.2; have h11 : w14.cell? ⟨X, 11, none⟩ = some (.int .i64 (p 11)) := cell_of_row _ _ 11 _ _ _ H14.out.2.2; have h12 : w14.cell? ⟨X, 12, none⟩ = some (.int .i64 (p 12)) := cell_of_row _ _ 12 _ _ _ H14.out.2.2; have h13 : w14.cell? ⟨X, 13, none⟩ = some (.int .i64 (p 13)) := cell_of_row _ _ 13 _ _ _ H14.out.2.2; have h14 : w14.cell? ⟨X, 14, none⟩ = some (.int .i64 (p 14)) := cell_of_row _ _ 14 _ _ _ H14.out.2.2
                    as_aux_lemma =>
                      rcases HZc.out with ⟨hde, hsm⟩ | ⟨hde, hsm⟩
                      · subst hde
                        have EQ : ∀ w, (binOp .eql 24 (.agg #[.int .i64 (dx 0), .int .i64 (dx 1), .int .i64 (dx 2), .int .i64 (dx 3), .int .i64 (dx 4), .int .i64 (dx 5), .int .i64 (dx 6), .int .i64 (dx 7), .int .i64 (dx 8), .int .i64 (dx 9), .int .i64 (dx 10), .int .i64 (dx 11), .int .i64 (dx 12), .int .i64 (dx 13), .int .i64 (dx 14)]) (.agg #[.int .i64 (p 0), .int .i64 (p 1), .int .i64 (p 2), .int .i64 (p 3), .int .i64 (p 4), .int .i64 (p 5), .int .i64 (p 6), .int .i64 (p 7), .int .i64 (p 8), .int .i64 (p 9), .int .i64 (p 10), .int .i64 (p 11), .int .i64 (p 12), .int .i64 (p 13), .int .i64 (p 14)])).run Tryd.prog w = .ok (.bool false) w := fun w => by
                          have := eqlI w dx p
                          rw [hsm] at this
                          exact this
                        clear hsm HZc
                        go_wp2
                        exact ⟨⟨k + 1, hlt, rfl, HI.out.trans (H14.out.1.mono HI.out.size)⟩, by simp [intOf]; omega⟩
                      · subst hde
                        have EQ : ∀ w, (binOp .neq 24 (.agg #[.int .i64 (dx 0), .int .i64 (dx 1), .int .i64 (dx 2), .int .i64 (dx 3), .int .i64 (dx 4), .int .i64 (dx 5), .int .i64 (dx 6), .int .i64 (dx 7), .int .i64 (dx 8), .int .i64 (dx 9), .int .i64 (dx 10), .int .i64 (dx 11), .int .i64 (dx 12), .int .i64 (dx 13), .int .i64 (dx 14)]) (.agg #[.int .i64 0, .int .i64 0, .int .i64 0, .int .i64 0, .int .i64 0, .int .i64 0, .int .i64 0, .int .i64 0, .int .i64 0, .int .i64 0, .int .i64 0, .int .i64 0, .int .i64 0, .int .i64 0, .int .i64 0])).run Tryd.prog w = .ok (.bool false) w := fun w => by
                          have := neqI w dx z15
                          rw [hsm] at this
                          exact this
                        clear hsm HZc
                        go_wp2
                        exact ⟨⟨k + 1, hlt, rfl, HI.out.trans (H14.out.1.mono HI.out.size)⟩, by simp [intOf]; omega⟩
              · obtain rfl : k = 64 := by omega
                have HDz : Hid (Calls Tryd.prog 9 #[.slice ba bl bc] wr fun e w' => e = .returned (.tuple #[.agg #[.int .i64 (decX bs 0), .int .i64 (decX bs 1), .int .i64 (decX bs 2), .int .i64 (decX bs 3), .int .i64 (decX bs 4), .int .i64 (decX bs 5), .int .i64 (decX bs 6), .int .i64 (decX bs 7), .int .i64 (decX bs 8), .int .i64 (decX bs 9), .int .i64 (decX bs 10), .int .i64 (decX bs 11), .int .i64 (decX bs 12), .int .i64 (decX bs 13), .int .i64 (decX bs 14)], .int .i64 (decE bs)]) ∧ Below wr.heap.size wr w') := HDe.out wr ba bl bc bs HBs.out.2.1 (HBs.out.1.on HX.out.1) HBs.out.2.2 HX.out.1
                have HZc : Hid ((¬ bl = 64 ∧ decE bs = 32 ∧ smB (decX bs) z15 = true) ∨ (bl = 64 ∧ decE bs = 111 ∧ smB (decX bs) z15 = true) ∨ (bl = 64 ∧ decE bs = 0 ∧ rMay (decX bs) = true ∧ rby (decX bs) = bs)) := by
                  have hl := HBs.out.2.1
                  by_cases c : bl = 64
                  · rcases decE_cases (l := bs) (by omega) with h | h
                    · exact .inr (.inr ⟨c, h, rby_decX HBs.out.1.wf h⟩)
                    · exact .inr (.inl ⟨c, h, by rw [decX_ne (by omega)]; exact smB_iff.2 Sm.rfl⟩)
                  · have h := decE_size (l := bs) (by omega)
                    exact .inl ⟨c, h, by rw [decX_ne (by omega)]; exact smB_iff.2 Sm.rfl⟩
                have HZb : Hid (∀ i, -9223372036854775808 ≤ decX bs i ∧ decX bs i ≤ 9223372036854775807) := fun i => by
                  unfold decX
                  split
                  · exact rdf_bd HBs.out.1.wf i
                  · unfold z15; omega
                generalize decX bs = dx at *
                generalize decE bs = de at *
                as_aux_lemma =>
                  go_upto_region 21 with (go_at_call 9; refine HDz.out.mono ?_; rintro e w13 ⟨rfl, h1⟩; have H13 : Hid (Below wr.heap.size wr w13) := h1; clear h1 HDz)
                  obtain ⟨Q, hQ⟩ : ∃ Q, w13.heap.size = Q := ⟨_, rfl⟩
                  obtain ⟨w14, hw14⟩ : ∃ w14, w13.alloc (.cells #[.int .i64 (dx 0), .int .i64 (dx 1), .int .i64 (dx 2), .int .i64 (dx 3), .int .i64 (dx 4), .int .i64 (dx 5), .int .i64 (dx 6), .int .i64 (dx 7), .int .i64 (dx 8), .int .i64 (dx 9), .int .i64 (dx 10), .int .i64 (dx 11), .int .i64 (dx 12), .int .i64 (dx 13), .int .i64 (dx 14)] 24) = w14 := ⟨_, rfl⟩
                  have H14 : Hid (Below w.heap.size w w14 ∧ w14.heap[Q]? = some (.cells (inC dx) 24 (0, 0))) := by
                    have hb : Below wr.heap.size wr w14 := by rw [← hw14]; exact H13.out.alloc H13.out.size _
                    refine ⟨HX.out.1.trans (hb.mono HX.out.1.size), ?_⟩
                    rw [← hw14, ← hQ]; exact heap_alloc_new _ _
                  rw [hw14, hQ]
                  clear hw14
                  have g0 : w14.cell? ⟨Q, 0, none⟩ = some (.int .i64 (dx 0)) := cell_of_row _ _ 0 _ _ _ H14.out.2; have g1 : w14.cell? ⟨Q, 1, none⟩ = some (.int .i64 (dx 1)) := cell_of_row _ _ 1 _ _ _ H14.out.2; have g2 : w14.cell? ⟨Q, 2, none⟩ = some (.int .i64 (dx 2)) := cell_of_row _ _ 2 _ _ _ H14.out.2; have g3 : w14.cell? ⟨Q, 3, none⟩ = some (.int .i64 (dx 3)) := cell_of_row _ _ 3 _ _ _ H14.out.2; have g4 : w14.cell? ⟨Q, 4, none⟩ = some (.int .i64 (dx 4)) := cell_of_row _ _ 4 _ _ _ H14.out.2; have g5 : w14.cell? ⟨Q, 5, none⟩ = some (.int .i64 (dx 5)) := cell_of_row _ _ 5 _ _ _ H14.out.2; have g6 : w14.cell? ⟨Q, 6, none⟩ = some (.int .i64 (dx 6)) := cell_of_row _ _ 6 _ _ _ H14.out.2; have g7 : w14.cell? ⟨Q, 7, none⟩ = some (.int .i64 (dx 7)) := cell_of_row _ _ 7 _ _ _ H14.out.2; have g8 : w14.cell? ⟨Q, 8, none⟩ = some (.int .i64 (dx 8)) := cell_of_row _ _ 8 _ _ _ H14.out.2; have g9 : w14.cell? ⟨Q, 9, none⟩ = some (.int .i64 (dx 9)) := cell_of_row _ _ 9 _ _ _ H14.out.2; have g10 : w14.cell? ⟨Q, 10, none⟩ = some (.int .i64 (dx 10)) := cell_of_row _ _ 10 _ _ _ H14.out.2; have g11 : w14.cell? ⟨Q, 11, none⟩ = some (.int .i64 (dx 11)) := cell_of_row _ _ 11 _ _ _ H14.out.2; have g12 : w14.cell? ⟨Q, 12, none⟩ = some (.int .i64 (dx 12)) := cell_of_row _ _ 12 _ _ _ H14.out.2; have g13 : w14.cell? ⟨Q, 13, none⟩ = some (.int .i64 (dx 13)) := cell_of_row _ _ 13 _ _ _ H14.out.2; have g14 : w14.cell? ⟨Q, 14, none⟩ = some (.int .i64 (dx 14)) := cell_of_row _ _ 14 _ _ _ H14.out.2
                  have EQ0 : Hid (smB dx z15 = true → ∀ w, (binOp .eql 24 (.agg #[.int .i64 (dx 0), .int .i64 (dx 1), .int .i64 (dx 2), .int .i64 (dx 3), .int .i64 (dx 4), .int .i64 (dx 5), .int .i64 (dx 6), .int .i64 (dx 7), .int .i64 (dx 8), .int .i64 (dx 9), .int .i64 (dx 10), .int .i64 (dx 11), .int .i64 (dx 12), .int .i64 (dx 13), .int .i64 (dx 14)]) (.agg #[.int .i64 0, .int .i64 0, .int .i64 0, .int .i64 0, .int .i64 0, .int .i64 0, .int .i64 0, .int .i64 0, .int .i64 0, .int .i64 0, .int .i64 0, .int .i64 0, .int .i64 0, .int .i64 0, .int .i64 0])).run Tryd.prog w = .ok (.bool true) w) := fun h w => by
                    have := eqlI w dx z15
                    rw [h] at this
                    exact this
                  as_aux_lemma =>
                    rcases HZc.out with ⟨hb6, hde, hsm⟩ | ⟨hb6, hde, hsm⟩ | ⟨hb6, hde, hm, hrb⟩
                    · subst hde
                      have EQ := EQ0.out hsm
                      have hb7 : ¬ (bl : Int) = 64 := by omega
                      clear hsm HZc
                      go_wp2
                      go_ret
                      exact ⟨by simp; omega, H14.out.1⟩
                    · subst hde
                      have EQ := EQ0.out hsm
                      clear hsm HZc
                      subst hb6
                      go_wp2
                      go_ret
                      exact ⟨by simp, H14.out.1⟩
                    · subst hde
                      have HMr : Hid (rMay dx = true ∧ rby dx = bs) := ⟨hm, hrb⟩
                      clear hm hrb HZc
                      subst hb6
                      go_upto_region 24 with (go_at_call 8; refine (HEn.out dx _ HMr.out.1 HZb.out H14.out.1).mono ?_; rintro e w15 ⟨ge, rfl, h1, h2, h3⟩; have H15 : Hid (Below w.heap.size w w15 ∧ OwnB w15 ge 64 bs) := ⟨H14.out.1.trans (h3.mono H14.out.1.size), (by rw [← HMr.out.2]; exact h2)⟩; clear h1 h2 h3)
                      have cv1 : (convert 25 9 (.slice (some ⟨ge, 0, none⟩) 64 64)).run Tryd.prog w15 = .ok (.string (strOfNums bs)) w15 := str_opt H15.out.2.bytes HBs.out.2.1
                      have cv2 : (convert 25 9 (.slice ba 64 bc)).run Tryd.prog w15 = .ok (.string (strOfNums bs)) w15 := str_opt (HBs.out.1.on H15.out.1) HBs.out.2.1
                      generalize strOfNums bs = SS at *
                      go_wp2
                      go_ret
                      exact ⟨by simp, H15.out.1⟩
end Go.Proofs.YtfnhkhhdklijaaaDoor
