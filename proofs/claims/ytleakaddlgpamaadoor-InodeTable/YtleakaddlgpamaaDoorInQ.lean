import Derived.Test.YtleakaddlgpamaaDoorInP
import Derived.Test.YtleakaddlgpamaaDoorTxN0
namespace Go.Proofs.YtleakaddlgpamaaDoor
open Go.RowKit Go.Maps Rec

set_option maxRecDepth 100000 in
set_option maxHeartbeats 8000000 in
theorem inside_any (w0 w : World) (D : Dk) (T : Tx) (n U : Nat) (H : Nat → Nat → Int) (h : Tb w0 w D T n H U) (p d r rt : Nat) (hp : PlAt w p n d r T.t rt) :
    Calls Tryd.prog 18 #[.pointer (some ⟨p, 0, none⟩)] w fun e w' => e = .returned (.bool true) ∧ Below w.heap.size w w' := by
  have HW : Hid (Calls Tryd.prog 41 #[.pointer (some ⟨T.t, 0, none⟩)] w fun e w' => ∃ (a : Option Addr) (c : Nat) (L : List Int), e = .returned (.slice a L.length c) ∧ (L = [] ∨ ∃ g, a = some ⟨g, 0, none⟩ ∧ ∀ j x, L[j]? = some x → w'.cell? ⟨g, j, none⟩ = some (.int .i64 x)) ∧ (∀ x ∈ L, gI n ≤ x ∧ x < gD n) ∧ L.length ≤ 96 ∧ Below w.heap.size w w') := by
    refine (written_any w T h.spc.ses.tx).mono ?_
    rintro e w' ⟨v, rfl, h1, _, h3⟩
    obtain ⟨a, c, hv, h4⟩ := ints_of h1 (by simp)
    subst hv
    refine ⟨a, c, _, rfl, h4, fun x hx => ?_, by simpa using h.spc.ses.tx.cnt, h3⟩
    obtain ⟨q, hq, rfl⟩ := List.mem_map.1 hx
    obtain ⟨i, _, hc⟩ := lst_mem hq
    have := h.room i q hc
    rw [h.spc.ses.tx.ok.num i q hc, gI_nat, gD_nat]
    omega
  have HP : Hid (PlAt w p n d r T.t rt) := hp
  obtain ⟨c0, c1, c2, c3, c4, c7⟩ := hp.cells
  clear h hp
  go_enter Tryd.func18, Tryd.ntmps18
  go_wp2_with (go_at_call 41; refine HW.out.mono ?_; rintro e w1 ⟨a, c, L, rfl, h1, h2, h3, h4⟩; have H1 : Hid ((L = [] ∨ ∃ g, a = some ⟨g, 0, none⟩ ∧ ∀ j x, L[j]? = some x → w1.cell? ⟨g, j, none⟩ = some (.int .i64 x)) ∧ (∀ x ∈ L, gI n ≤ x ∧ x < gD n) ∧ Below w.heap.size w w1) := ⟨h1, h2, h4⟩; have hL96 : L.length ≤ 96 := h3; clear h1 h2 h3 h4 HW)
  go_loopw [4] (fun i wr => ∃ k : Nat, k ≤ L.length ∧ i = .int .i64 k ∧ Below w1.heap.size w1 wr) (fun i _ => L.length - (intOf i).toNat)
  case atStart => exact ⟨0, Nat.zero_le _, rfl, Below.refl _ _⟩
  case round =>
    obtain ⟨k, hk, rfl, hI⟩ := hrel
    have HI : Hid (Below w1.heap.size w1 wr) := hI
    clear hI c0 c1 c2 c3 c4 c7
    by_cases hlt : k < L.length
    · have h9 : ∃ g x, a = some ⟨g, 0, none⟩ ∧ wr.cell? ⟨g, k, none⟩ = some (.int .i64 x) ∧ gI n ≤ x ∧ x < gD n := by
        rcases H1.out.1 with e | ⟨g, ha, hc⟩
        · rw [e] at hlt; exact absurd hlt (by simp)
        · have hx : L[k]? = some L[k] := List.getElem?_eq_getElem hlt
          have hcell := hc k _ hx
          have hm := H1.out.2.1 L[k] (List.getElem_mem hlt)
          exact ⟨g, L[k], ha, (HI.out.cell (block_lt_of_cell hcell)).trans hcell, hm.1, hm.2⟩
      obtain ⟨g, x, rfl, hcell, hx1, hx2⟩ := h9
      obtain ⟨_, _, d2, d3, _, _⟩ := (HP.out.on (H1.out.2.2.trans (HI.out.mono H1.out.2.2.size))).cells
      have hd1 : decide (x < gI n) = false := decide_eq_false (by omega)
      have hd2 : decide (gD n ≤ x) = false := decide_eq_false (by omega)
      have hd3 : ¬ x < gI n := by omega
      have hd4 : ¬ gD n ≤ x := by omega
      go_upto_region 5 with (fail)
      go_quiet (fail)
      go_wp2
      exact ⟨⟨k + 1, hlt, rfl, HI.out.trans ((drew7 wr _).mono HI.out.size)⟩, by simp [intOf]; omega⟩
    · obtain rfl : k = L.length := by omega
      go_wp2
      go_ret
      exact ⟨rfl, H1.out.2.2.trans (HI.out.mono H1.out.2.2.size)⟩
end Go.Proofs.YtleakaddlgpamaaDoor
