import Derived.Test.YtamlbpbhlgmcoaaGreatDoorWpW
import Derived.Test.YtamlbpbhlgmcoaaGreatDoorKATape
import Derived.Test.YtamlbpbhlgmcoaaGreatDoorKRfM
namespace Go.Proofs.YtamlbpbhlgmcoaaGreatDoor
open Go.RowKit Rec
set_option maxRecDepth 100000 in
set_option maxHeartbeats 4000000 in
theorem wsameActs_any (w : World) (a1 a2 : Option Addr) (n c1 c2 : Nat) (L M : List ActR) (h1 : Acts w a1 L) (h2 : Acts w a2 M) (hab : L.map ActR.abs = M.map ActR.abs) (hn : L.length = n) :
    Calls Tryz.prog 11 #[.slice a1 n c1, .slice a2 n c2] w fun e w' => e = .returned (.bool true) ∧ Below w.heap.size w w' := by
  have hm : M.length = n := by have := congrArg List.length hab; simp at this; omega
  have hl := h1.len
  have HA : Hid (Acts w a1 L ∧ Acts w a2 M ∧ L.map ActR.abs = M.map ActR.abs ∧ L.length = n ∧ M.length = n) := ⟨h1, h2, hab, hn, hm⟩
  rw [hn] at hl
  clear h1 h2 hab hn hm
  go_enter Tryz.func11, Tryz.ntmps11
  go_wp2
  go_loopw [5] (fun i wr => ∃ k : Nat, k ≤ n ∧ i = .int .i64 k ∧ Below w.heap.size w wr) (fun i _ => n - (intOf i).toNat)
  case atStart => exact ⟨0, Nat.zero_le _, rfl, Below.refl _ _⟩
  case round =>
    obtain ⟨k, hk, rfl, hb⟩ := hrel
    have HB : Hid (Below w.heap.size w wr) := hb
    clear hb
    by_cases hlt : k < n
    · have hk1 : k < L.length := by rw [HA.out.2.2.2.1]; exact hlt
      have hk2 : k < M.length := by rw [HA.out.2.2.2.2]; exact hlt
      obtain ⟨b1, o1, rfl, ⟨x0, x1, x2⟩⟩ := acts_at (HA.out.1.on HB.out) k hk1
      obtain ⟨b2, o2, rfl, ⟨y0, y1, y2⟩⟩ := acts_at (HA.out.2.1.on HB.out) k hk2
      obtain ⟨z0, z1, z2⟩ := abs_at HA.out.2.2.1 k hk1 hk2
      have t1 := (HA.out.1.on HB.out).each _ (List.getElem_mem hk1)
      have t2 := (HA.out.2.1.on HB.out).each _ (List.getElem_mem hk2)
      rw [z2] at x2 t1
      rw [z0] at x0
      rw [z1] at x1
      generalize (L[k]).a = A1 at *
      generalize (L[k]).c = C1 at *
      generalize (M[k]).a = A2 at *
      generalize (M[k]).c = C2 at *
      generalize (M[k]).x = X at *
      generalize (M[k]).kind = K at *
      generalize (M[k]).b = Bk at *
      have HT : Hid (∀ j, Calls Tryz.prog 14 #[.slice A1 X.length C1, .slice A2 X.length C2] (wr.drewN j) fun e w' => e = .returned (.bool true) ∧ w' = wr.drewN j) := fun j => (sameBytes_yes (wr.drewN j) A1 A2 X.length C1 C2 X (t1.on (below_drewN (Below.refl _ wr) j)) (t2.on (below_drewN (Below.refl _ wr) j)) rfl).mono (fun e w' h => ⟨h.1, h.2.symm⟩)
      clear z0 z1 z2 t1 t2 hk1 hk2
      go_wp2
      go_quiet (first | (go_at_call 14; refine Calls.quiet_of_same (HT.out _)))
      go_wp2
      exact ⟨⟨k + 1, hlt, rfl, below_drewN HB.out _⟩, by simp [intOf]; omega⟩
    · go_wp2
      go_ret
      exact ⟨rfl, HB.out⟩
theorem tb_get {B : List TB} {i : Nat} (h : i < B.length) : (B.map TB.v)[i]? = some (.slice (B[i]).a (B[i]).x.length (B[i]).c) ∧ (B.map TB.s)[i]? = some (.string (strOfNums (B[i]).x)) := by
  rw [List.getElem?_map, List.getElem?_map, List.getElem?_eq_getElem h]; exact ⟨rfl, rfl⟩
set_option maxRecDepth 100000 in
set_option maxHeartbeats 4000000 in
theorem wwhole_any (w0 w : World) (P : Nat) (D : Dk) (R : RDk) (j : Nat) (tv wv : Value) (B : List TB) (h : Pl w0 w P D R j tv wv B) (hj : j ≤ 100000000) :
    Calls Tryz.prog 17 #[.pointer (some ⟨P, 0, none⟩)] w fun e w' => e = .returned (.bool true) ∧ Below w.heap.size w w' := by
  have hbl := h.bl
  obtain ⟨ta, tc, e1, _, hg1, hc1⟩ := owns_slice h.told
  obtain ⟨wa, wc, e2, _, hg2, hc2⟩ := owns_slice h.was
  have c2 : w.cell? ⟨P, 2, none⟩ = some tv := cell_of_row _ _ 2 _ _ _ h.box
  have c3 : w.cell? ⟨P, 3, none⟩ = some wv := cell_of_row _ _ 3 _ _ _ h.box
  rw [e1] at c2
  rw [e2] at c3
  have HC : Hid (∀ wx, Below w.heap.size w wx → wx.cell? ⟨P, 2, none⟩ = some (.slice ta B.length tc) ∧ wx.cell? ⟨P, 3, none⟩ = some (.slice wa B.length wc)) := fun wx hx => ⟨(below_fr hx (fun _ => False)).cell c2 (fun e => e), (below_fr hx (fun _ => False)).cell c3 (fun e => e)⟩
  have HE : Hid (∀ i (hi : i < B.length), ∃ g1 g2, ta = some ⟨g1, 0, none⟩ ∧ wa = some ⟨g2, 0, none⟩ ∧ w.cell? ⟨g1, i, none⟩ = some (.slice (B[i]).a (B[i]).x.length (B[i]).c) ∧ w.cell? ⟨g2, i, none⟩ = some (.string (strOfNums (B[i]).x)) ∧ Bytes w (B[i]).a (B[i]).x) := fun i hi => by
    obtain ⟨g1, e3⟩ := hg1.resolve_left (by omega)
    obtain ⟨g2, e4⟩ := hg2.resolve_left (by omega)
    obtain ⟨z1, z2⟩ := tb_get hi
    refine ⟨g1, g2, e3, e4, (hc1 g1 0 e3).2.1 i _ z1, (hc2 g2 0 e4).2.1 i _ z2, ?_⟩
    rcases h.each _ (List.getElem_mem hi) with ⟨x1, x2, _⟩ | ⟨g, x1, ho, _⟩
    · rw [x1, x2]; exact nil_bytes w
    · rw [x1]; exact ho.bytes
  obtain ⟨n, hn⟩ : ∃ n, B.length = n := ⟨_, rfl⟩
  rw [hn] at HC hbl
  have HN : Hid (B.length = n) := hn
  clear h e1 e2 hg1 hg2 hc1 hc2 c2 c3 hn
  obtain ⟨x2, x3⟩ := HC.out w (Below.refl _ _)
  go_enter Tryz.func17, Tryz.ntmps17
  go_wp2
  clear x2 x3
  go_loopw [3] (fun i wr => ∃ k : Nat, k ≤ n ∧ i = .int .i64 k ∧ Below w.heap.size w wr) (fun i _ => n - (intOf i).toNat)
  case atStart => exact ⟨0, Nat.zero_le _, rfl, Below.refl _ _⟩
  case round =>
    obtain ⟨k, hk, rfl, hb⟩ := hrel
    have HB : Hid (Below w.heap.size w wr) := hb
    clear hb
    by_cases hlt : k < n
    · obtain ⟨g1, g2, rfl, rfl, x1, x2, x3⟩ := HE.out k (by rw [HN.out]; exact hlt)
      have y1 := (below_fr HB.out (fun _ => False)).cell x1 (fun e => e)
      have y2 := (below_fr HB.out (fun _ => False)).cell x2 (fun e => e)
      have y3 := x3.on HB.out
      clear x1 x2 x3
      generalize (B[k]'(by rw [HN.out]; exact hlt)).a = A1 at *
      generalize (B[k]'(by rw [HN.out]; exact hlt)).c = C1 at *
      generalize (B[k]'(by rw [HN.out]; exact hlt)).x = X at *
      have e1 : ∀ j, (convert 37 9 (.slice A1 X.length C1)).run Tryz.prog (wr.drewN j) = .ok (.string (strOfNums X)) (wr.drewN j) := fun j => str_opt (y3.on (below_drewN (Below.refl _ wr) j)) rfl
      obtain ⟨z2, z3⟩ := HC.out wr HB.out
      clear y3
      go_wp2
      go_quiet (fail)
      go_wp2
      exact ⟨⟨k + 1, hlt, rfl, below_drewN HB.out _⟩, by simp [intOf]; omega⟩
    · obtain ⟨z2, z3⟩ := HC.out wr HB.out
      go_wp2
      go_ret
      exact ⟨rfl, HB.out⟩
/-- Tape on both sides -/
theorem wtape {w0 w : World} {D : Dk} {R : RDk} {j : Nat} (h : WS w0 w D R j) (hj : j ≤ 100000000) (fr : Int) : ∃ T : List (Int × Int × List Int),
    (∀ wx, Below w.heap.size w wx → Calls Tryz.prog 12 #[.pointer (some ⟨D.d, 0, none⟩), .int .i64 fr] wx fun e w1 => ∃ a n c L, e = .returned (.slice a n c) ∧ L.length = n ∧ Acts w1 a L ∧ L.map ActR.abs = T ∧ Below wx.heap.size wx w1) ∧
    (∀ wx, Below w.heap.size w wx → Calls Tryz.prog 13 #[.pointer (some ⟨R.r, 0, none⟩), .int .i64 fr] wx fun e w1 => ∃ a n c L, e = .returned (.slice a n c) ∧ L.length = n ∧ Acts w1 a L ∧ L.map ActR.abs = T ∧ Below wx.heap.size wx w1) := by
  obtain ⟨m, h1⟩ : ∃ m, (if fr < 0 then (0 : Int) else fr) = m := ⟨_, rfl⟩
  have hm0 : 0 ≤ m := by rw [← h1]; split <;> omega
  have hLT : D.tap.length = R.L.length := by rw [← abs_tlen, h.t.tie.T, List.length_map]
  have hLj := h.t.ll
  obtain ⟨n, h2, hn⟩ : ∃ n : Nat, (if (D.tap.length : Int) < m then (D.tap.length : Int) else m) = (n : Int) ∧ n ≤ D.tap.length := by
    by_cases c : (D.tap.length : Int) < m
    · exact ⟨D.tap.length, if_pos c, Nat.le_refl _⟩
    · exact ⟨m.toNat, by rw [if_neg c]; omega, by omega⟩
  have hT := h.t.tie.tape h1 (n := n) (by rw [← hLT]; exact h2)
  have hTl : (D.abs.T.drop n).length ≤ j := by rw [List.length_drop, abs_tlen]; omega
  refine ⟨D.abs.T.drop n, fun wx hb => (tape_all wx D (h.d.on hb) fr m n hn h1 h2).mono ?_, fun wx hb => ?_⟩
  · rintro e w1 ⟨v, L, rfl, a1, a2, a3, _⟩
    obtain ⟨a, c, e1, _⟩ := owns_slice a1.row
    have hLl : L.length ≤ j := by have := congrArg List.length a2; rw [List.length_map] at this; omega
    rw [e1] at a1
    obtain ⟨_, a4, _⟩ := a1.acts (by omega)
    exact ⟨a, L.length, c, L, by rw [e1], rfl, a4, a2, a3⟩
  · rw [hT]
    have hTl2 : (tpB R.L fr R.L.length).length ≤ R.L.length := tpB_len _ _ _
    refine (rtape_any wx R (h.t.r.on hb) fr).mono ?_
    rintro e w1 ⟨v, M, rfl, a1, a3⟩
    have hMl : M.length = (tpB R.L fr R.L.length).length := by have := congrArg List.length a1.same; rw [List.length_map] at this; exact this
    have hrow := a1.row
    rw [← hMl] at hrow
    obtain ⟨a, c, e1, _, hg, hc⟩ := owns_slice hrow
    refine ⟨a, M.length, c, M, by rw [e1], rfl, ⟨?_, fun q hq => ?_, by omega⟩, a1.same, a3⟩
    · rcases hg with h0 | ⟨g, rfl⟩
      · exact .inl (List.eq_nil_of_length_eq_zero h0)
      · refine .inr ⟨g, 0, rfl, fun i q hq => ?_⟩
        have hi := (List.getElem?_eq_some_iff.1 hq).1
        have e : M[i] = q := (List.getElem?_eq_some_iff.1 hq).2
        have c1 := (hc g 0 rfl).2.1
        rw [Nat.zero_add]
        exact ⟨c1 _ _ (by have := flat3 ActR.cells M i hi 0 (by omega); rw [e] at this; exact this), c1 _ _ (by have := flat3 ActR.cells M i hi 1 (by omega); rw [e] at this; exact this), c1 _ _ (by have := flat3 ActR.cells M i hi 2 (by omega); rw [e] at this; exact this)⟩
    · obtain ⟨g, h4, _⟩ := a1.each q hq
      exact h4.bytes
end Go.Proofs.YtamlbpbhlgmcoaaGreatDoor
