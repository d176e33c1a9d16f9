import Derived.Test.YtipbflmonhlnjaaPoB
namespace Go.Proofs.Ytipbflmonhlnjaa
open Go.RowKit Rec

set_option maxRecDepth 100000 in
set_option maxHeartbeats 4000000 in
theorem looks_other (w : World) (D : Dk) (R : RDk) (j : Nat) (h : Pr w D R j) (K : Bk) (hK : BkI w K) (hj : j ≤ 10000000) (hn : K.bn + 2 * j + 2 ≤ 1000000000000) (hm : K.im + 2 ≤ 1000000000000) (ha : K.am + 2 ≤ 1000000000000) (kd : Int) (tw : Bool) (N : Int) (ba : Option Addr) (bn bc : Nat) (ka : Option Addr) (kn kc : Nat) (h1 : (kd == 1) = false) (h6 : (kd == 6) = false) (h8 : (kd == 8) = false) (h9 : (kd == 9) = false) :
    Calls Try.prog 10 #[.agg #[.pointer (some ⟨D.d, 0, none⟩), .pointer (some ⟨R.r, 0, none⟩)], .agg #[.int .i64 kd, .bool tw, .int .i64 N, .slice ba bn bc, .slice ka kn kc], .pointer (some ⟨K.kb, 0, none⟩)] w fun e w' => e = .returned (.bool true) ∧ LkP w K j w' := by
  have hU := And.intro hj (And.intro hn (And.intro hm ha))
  clear hU
  have HX : Hid (Pr w D R j ∧ BkI w K) := ⟨h, hK⟩
  obtain ⟨d, hd⟩ : ∃ d, D.d = d := ⟨_, rfl⟩
  obtain ⟨r, hr⟩ : ∃ r, R.r = r := ⟨_, rfl⟩
  obtain ⟨kb, hkb⟩ : ∃ kb, K.kb = kb := ⟨_, rfl⟩
  rw [hd, hr, hkb]
  have HD : Hid (D.d = d ∧ R.r = r ∧ K.kb = kb) := ⟨hd, hr, hkb⟩
  clear h hK hd hr hkb
  obtain ⟨P0, hP0⟩ : ∃ P0, w.heap.size = P0 := ⟨_, rfl⟩
  obtain ⟨wa, hwa⟩ : ∃ wa, w.alloc (.cells #[.pointer (some ⟨d, 0, none⟩), .pointer (some ⟨r, 0, none⟩)] 32) = wa := ⟨_, rfl⟩
  obtain ⟨P1, hP1⟩ : ∃ P1, wa.heap.size = P1 := ⟨_, rfl⟩
  obtain ⟨wb, hwb⟩ : ∃ wb, wa.alloc (.cells #[.int .i64 kd, .bool tw, .int .i64 N, .slice ba bn bc, .slice ka kn kc] 44) = wb := ⟨_, rfl⟩
  have hA1 : Below w.heap.size w wa := by rw [← hwa]; exact (Below.refl _ _).alloc (Nat.le_refl _) _
  have hA2 : Below wa.heap.size wa wb := by rw [← hwb]; exact (Below.refl _ _).alloc (Nat.le_refl _) _
  have HB : Hid (Below w.heap.size w wb) := hA1.trans (hA2.mono hA1.size)
  have HC : Hid (∀ wx, Below wb.heap.size wb wx → wx.cell? ⟨P0, 0, none⟩ = some (.pointer (some ⟨d, 0, none⟩)) ∧ wx.cell? ⟨P0, 1, none⟩ = some (.pointer (some ⟨r, 0, none⟩)) ∧ wx.cell? ⟨P1, 0, none⟩ = some (.int .i64 kd) ∧ wx.cell? ⟨P1, 2, none⟩ = some (.int .i64 N)) := fun wx hx => by
    have z1 : wa.heap[P0]? = some (.cells #[.pointer (some ⟨d, 0, none⟩), .pointer (some ⟨r, 0, none⟩)] 32 (0, 0)) := by rw [← hwa, ← hP0]; exact heap_alloc_new _ _
    have z2 : wb.heap[P1]? = some (.cells #[.int .i64 kd, .bool tw, .int .i64 N, .slice ba bn bc, .slice ka kn kc] 44 (0, 0)) := by rw [← hwb, ← hP1]; exact heap_alloc_new _ _
    have y1 := (below_fr hx (fun _ => False)).heap ((below_fr hA2 (fun _ => False)).heap z1 (fun e => e)) (fun e => e)
    have y2 := (below_fr hx (fun _ => False)).heap z2 (fun e => e)
    exact ⟨cell_of_row _ _ 0 _ _ _ y1, cell_of_row _ _ 1 _ _ _ y1, cell_of_row _ _ 0 _ _ _ y2, cell_of_row _ _ 2 _ _ _ y2⟩
  clear hA1 hA2
  go_enter Try.func10, Try.ntmps10
  go_upto_region 1 with fail
  try rw [hP0]
  try rw [hwa]
  try rw [hP1]
  try rw [hwb]
  clear hwa hwb hP0 hP1
  obtain ⟨c0, c1, c2, c3⟩ := HC.out wb (Below.refl _ _)
  go_wp2
  go_ret
  exact ⟨rfl, LkP.zero HX.out.2 HB.out⟩
end Go.Proofs.Ytipbflmonhlnjaa
