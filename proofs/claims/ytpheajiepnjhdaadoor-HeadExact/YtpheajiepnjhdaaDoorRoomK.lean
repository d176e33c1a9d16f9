import Derived.Test.YtpheajiepnjhdaaDoorRoomI
namespace Go.Proofs.YtpheajiepnjhdaaDoor
open Go.RowKit Rec

theorem RoomEnd.on {B : Nat} {w w' : World} {p : Nat} {ds : List (List Int)} {m gD cD : Nat} {sF : Value} {vs fs : List Value} {gm : Nat} (h : RoomEnd B w p ds m gD cD sF vs fs gm) (hb : Below w.heap.size w w') : RoomEnd B w' p ds m gD cD sF vs fs gm :=
  ⟨(hb.block _ (heap_lt h.row)).trans h.row, owns_on h.dat hb, owns_on h.ful hb, fun i hi => by obtain ⟨g, c, h1, h2, h3, h4⟩ := h.els i hi; exact ⟨g, c, h1, h2, h3.on hb, h4⟩, h.mark.on hb⟩
theorem strMark : strOfNums [109, 97, 114, 107] = { data := #[109, 97, 114, 107] } := by decide +kernel
set_option maxRecDepth 100000 in
set_option maxHeartbeats 8000000 in
theorem kept_any (B : Nat) (w : World) (p : Nat) (a : Option Addr) (dc : Nat) (ds : List (List Int)) (m gD cD : Nat) (sF : Value) (vs fs : List Value) (gm : Nat) (h : RoomEnd B w p ds m gD cD sF vs fs gm) (hm : ds.length = m) (hD : Data w a ds) (hm9 : m ≤ 5864062014634) (hS : Small ds) :
    Calls Tryd.prog 18 #[.pointer (some ⟨p, 0, none⟩), .slice a m dc] w fun e w' => e = .returned (.bool true) ∧ Below w.heap.size w w' := by
  obtain ⟨aF, cF, rfl⟩ := own_form h.ful
  have HE : Hid (∀ wr, Below w.heap.size w wr → RoomEnd B wr p ds m gD cD (.slice aF m cF) vs fs gm) := fun wr hb => h.on hb
  have HD : Hid (∀ wr, Below w.heap.size w wr → Data wr a ds) := fun wr hb => hD.on hb
  have HM : Hid (ds.length = m) := hm
  have HSm : Hid (∀ i, i < m → (row ds i).length ≤ 140737488351232) := fun i hi => hS i (by omega)
  have hvl : vs.length = m := by have := h.dat.1; rw [List.length_append] at this; simp at this; omega
  have HVl : Hid (vs.length = m) := hvl
  clear h hD hm hS hvl
  go_enter Tryd.func18, Tryd.ntmps18
  go_wp2
  go_loopw [10] (fun s10 wr => ∃ j : Nat, j ≤ m ∧ s10 = .int .i64 j ∧ Below w.heap.size w wr) (fun s10 _ => m - (intOf s10).toNat)
  case atStart => exact ⟨0, Nat.zero_le _, rfl, Below.refl _ _⟩
  case round =>
    obtain ⟨j, hj, rfl, hb⟩ := hrel
    have HB : Hid (Below w.heap.size w wr) := hb
    clear hb
    have q0 : wr.cell? ⟨p, 0, none⟩ = some (.slice (some ⟨gD, 0, none⟩) (m + 1) cD) := by rw [cell_of_row _ _ _ _ _ _ (HE.out _ HB.out).row]; rfl
    have q1 : wr.cell? ⟨p, 1, none⟩ = some (.slice aF m cF) := by rw [cell_of_row _ _ _ _ _ _ (HE.out _ HB.out).row]; rfl
    by_cases hlt : j < m
    · obtain ⟨b, off, rfl⟩ := (HD.out _ HB.out).some (by rw [HM.out]; omega)
      obtain ⟨a1, c1, d1, d2, d3⟩ := (HD.out _ HB.out).cell (i := j) (by rw [HM.out]; exact hlt)
      obtain ⟨gF, cF2, eF⟩ := own_some (HE.out _ HB.out).ful (by omega)
      cases eF
      obtain ⟨g, c, h1, h2, h3, _⟩ := (HE.out _ HB.out).els j hlt
      obtain ⟨n, hn⟩ : ∃ n, (row ds j).length = n := ⟨_, rfl⟩
      rw [hn] at d1 h1 h2
      have hn9 : n ≤ 140737488351232 := by rw [← hn]; exact HSm.out j hlt
      obtain ⟨S, hSS⟩ : ∃ S, S = strOfNums (row ds j) := ⟨_, rfl⟩
      have e1 : ∀ k, (convert 23 9 (.slice a1 n c1)).run Tryd.prog (wr.drewN k) = .ok (.string S) (wr.drewN k) := fun k => by
        rw [hSS]; exact str_opt (d2.on (below_drewN (Below.refl _ _) _)) hn
      have e2 : ∀ k, (convert 23 9 (.slice (some ⟨g, 0, none⟩) n c)).run Tryd.prog (wr.drewN k) = .ok (.string S) (wr.drewN k) := fun k => by
        have := h3.bytes.take (row ds j).length
        rw [List.take_left] at this
        rw [hSS]; exact str_opt (this.on (below_drewN (Below.refl _ _) _)) hn
      have r1 : wr.cell? ⟨gD, j, none⟩ = some (.slice (some ⟨g, 0, none⟩) n c) := by
        have := (HE.out _ HB.out).dat.cells (g := gD) rfl j _ (show (vs ++ [Value.slice (some ⟨gm, 0, none⟩) 4 4])[j]? = some _ by rw [List.getElem?_append_left (by rw [HVl.out]; exact hlt)]; exact h1)
        rw [Addr.add_lit, Nat.zero_add] at this
        exact this
      have r2 : wr.cell? ⟨gF, j, none⟩ = some (.slice (some ⟨g, 0, none⟩) (n + 1) c) := by
        have := (HE.out _ HB.out).ful.cells (g := gF) rfl j _ h2
        rw [Addr.add_lit, Nat.zero_add] at this
        exact this
      have r3 : wr.cell? ⟨g, n, none⟩ = some (.int .u8 107) := by
        have := h3.cell n (by rw [List.length_append, hn]; simp)
        rw [nth_app, if_neg (by omega), hn, Nat.sub_self] at this
        exact this
      have hc0 : n + 1 ≤ c := by have := h3.room; rw [List.length_append, hn] at this; simpa using this
      have i1 : (j : Int) < (m : Int) + 1 := by omega
      have i2 : (n : Int) ≤ (c : Int) := by omega
      have i3 : (n : Int) < (n : Int) + 1 := by omega
      clear d2 d3 h1 h2 h3 hSS hn
      go_upto_region 5 with fail
      go_quiet (fail)
      have HB2 : Hid (Below w.heap.size w (wr.drewN nq)) := below_drewN HB.out _
      clear q0 q1 d1 e1 e2 r1 r2 r3
      generalize wr.drewN nq = w2 at *
      go_wp2
      go_round
      case rel => exact ⟨j + 1, by omega, by go_num, HB2.out⟩
      case measure => simp [intOf]; omega
    · obtain rfl : j = m := by omega
      have r1 : wr.cell? ⟨gD, j, none⟩ = some (.slice (some ⟨gm, 0, none⟩) 4 4) := by
        have := (HE.out _ HB.out).dat.cells (g := gD) rfl j _ (show (vs ++ [Value.slice (some ⟨gm, 0, none⟩) 4 4])[j]? = some _ by rw [List.getElem?_append_right (by rw [HVl.out]; omega), HVl.out, Nat.sub_self]; rfl)
        rw [Addr.add_lit, Nat.zero_add] at this
        exact this
      have e1 : (convert 23 9 (.slice (some ⟨gm, 0, none⟩) 4 4)).run Tryd.prog wr = .ok (.string { data := #[109, 97, 114, 107] }) wr := by
        rw [← strMark]; exact str_opt (HE.out _ HB.out).mark rfl
      have i1 : (j : Int) < (j : Int) + 1 := by omega
      go_wp2
      go_ret
      exact ⟨rfl, HB.out⟩
end Go.Proofs.YtpheajiepnjhdaaDoor
