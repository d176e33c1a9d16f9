import Derived.Test.YtccocjipgbeaeabTape
namespace Go.Proofs.Ytccocjipgbeaeab
open Go.RowKit Adk

theorem acts_at {w : World} {a : Option Addr} {L : List ActR} (h : Acts w a L) (k : Nat) (hk : k < L.length) : ∃ b off, a = some ⟨b, off, none⟩ ∧ ActAt w b (off + k * 3) L[k] := by
  obtain ⟨b, off, e, hc⟩ := h.at_.resolve_left (by intro e; rw [e] at hk; simp at hk)
  exact ⟨b, off, e, hc k L[k] (by simp [hk])⟩
theorem abs_at {L M : List ActR} (h : L.map ActR.abs = M.map ActR.abs) (k : Nat) (h1 : k < L.length) (h2 : k < M.length) : (L[k]).kind = (M[k]).kind ∧ (L[k]).b = (M[k]).b ∧ (L[k]).x = (M[k]).x := by
  have e : (L.map ActR.abs)[k]? = (M.map ActR.abs)[k]? := by rw [h]
  simp [h1, h2, ActR.abs] at e
  exact e
set_option maxRecDepth 100000 in
set_option maxHeartbeats 4000000 in
theorem sameKinds_any (w : World) (a1 a2 : Option Addr) (n c1 c2 : Nat) (L M : List ActR) (h1 : Acts w a1 L) (h2 : Acts w a2 M) (hab : L.map ActR.abs = M.map ActR.abs) (hn : L.length = n) :
    Calls Try.prog 32 #[.slice a1 n c1, .slice a2 n c2] w fun e w' => e = .returned (.bool true) ∧ Below w.heap.size w w' := by
  have hm : M.length = n := by have := congrArg List.length hab; simp at this; omega
  have hl := h1.len
  have HA : Hid (Acts w a1 L ∧ Acts w a2 M ∧ L.map ActR.abs = M.map ActR.abs ∧ L.length = n ∧ M.length = n) := ⟨h1, h2, hab, hn, hm⟩
  rw [hn] at hl
  clear h1 h2 hab hn hm
  go_enter Try.func32, Try.ntmps32
  go_wp2
  go_loopw [5, 13, 14, 15, 16, 17, 18, 19, 20, 21, 22, 23, 24, 25, 26, 27, 28, 29, 30, 31, 32, 33, 34, 35, 36, 37, 38, 39, 40] (fun _ i _ _ _ _ _ _ _ _ _ _ _ _ _ _ _ _ _ _ _ _ _ _ _ _ _ _ _ wr => ∃ k : Nat, k ≤ n ∧ i = .int .i64 k ∧ Below w.heap.size w wr) (fun _ i _ _ _ _ _ _ _ _ _ _ _ _ _ _ _ _ _ _ _ _ _ _ _ _ _ _ _ _ => n - (intOf i).toNat)
  case atStart => exact ⟨0, Nat.zero_le _, rfl, Below.refl _ _⟩
  case round =>
    obtain ⟨k, hk, rfl, hb⟩ := hrel
    have HB : Hid (Below w.heap.size w wr) := hb
    clear hb
    by_cases hlt : k < n
    · obtain ⟨b1, o1, rfl, ⟨x0, x1, x2⟩⟩ := acts_at (HA.out.1.on HB.out) k (by rw [HA.out.2.2.2.1]; exact hlt)
      obtain ⟨b2, o2, rfl, ⟨y0, y1, y2⟩⟩ := acts_at (HA.out.2.1.on HB.out) k (by rw [HA.out.2.2.2.2]; exact hlt)
      obtain ⟨z0, z1, _⟩ := abs_at HA.out.2.2.1 k (by rw [HA.out.2.2.2.1]; exact hlt) (by rw [HA.out.2.2.2.2]; exact hlt)
      rw [z0] at x0
      rw [z1] at x1
      clear x2 y2 z0 z1
      generalize (M[k]'(by rw [HA.out.2.2.2.2]; exact hlt)).kind = K at *
      generalize (M[k]'(by rw [HA.out.2.2.2.2]; exact hlt)).b = Bk at *
      go_wp2
      go_quiet (fail)
      go_wp2
      exact ⟨⟨k + 1, hlt, rfl, below_drewN HB.out _⟩, by simp [intOf]; omega⟩
    · go_wp2
      go_ret
      exact ⟨rfl, HB.out⟩
set_option maxRecDepth 100000 in
set_option maxHeartbeats 4000000 in
theorem sameActs_any (w : World) (a1 a2 : Option Addr) (n c1 c2 : Nat) (L M : List ActR) (h1 : Acts w a1 L) (h2 : Acts w a2 M) (hab : L.map ActR.abs = M.map ActR.abs) (hn : L.length = n) :
    Calls Try.prog 11 #[.slice a1 n c1, .slice a2 n c2] w fun e w' => e = .returned (.bool true) ∧ Below w.heap.size w w' := by
  have hm : M.length = n := by have := congrArg List.length hab; simp at this; omega
  have hl := h1.len
  have HA : Hid (Acts w a1 L ∧ Acts w a2 M ∧ L.map ActR.abs = M.map ActR.abs ∧ L.length = n ∧ M.length = n) := ⟨h1, h2, hab, hn, hm⟩
  rw [hn] at hl
  clear h1 h2 hab hn hm
  go_enter Try.func11, Try.ntmps11
  go_wp2_with (go_at_call 32; refine (sameKinds_any _ a1 a2 n c1 c2 L M HA.out.1 HA.out.2.1 HA.out.2.2.1 HA.out.2.2.2.1).mono ?_; rintro e w1 ⟨rfl, hb⟩; have H1 : Hid (Below w.heap.size w w1) := hb; clear hb)
  go_loopw [5, 12, 13, 14, 15, 16, 17, 18, 19, 20, 21, 22, 23, 24, 25, 26, 27, 28] (fun _ i _ _ _ _ _ _ _ _ _ _ _ _ _ _ _ _ wr => ∃ k : Nat, k ≤ n ∧ i = .int .i64 k ∧ Below w.heap.size w wr) (fun _ i _ _ _ _ _ _ _ _ _ _ _ _ _ _ _ _ _ => n - (intOf i).toNat)
  case atStart => exact ⟨0, Nat.zero_le _, rfl, H1.out⟩
  case round =>
    obtain ⟨k, hk, rfl, hb⟩ := hrel
    have HB : Hid (Below w.heap.size w wr) := hb
    clear hb
    by_cases hlt : k < n
    · have hk1 : k < L.length := by rw [HA.out.2.2.2.1]; exact hlt
      have hk2 : k < M.length := by rw [HA.out.2.2.2.2]; exact hlt
      obtain ⟨b1, o1, rfl, ⟨x0, x1, x2⟩⟩ := acts_at (HA.out.1.on HB.out) k hk1
      obtain ⟨b2, o2, rfl, ⟨y0, y1, y2⟩⟩ := acts_at (HA.out.2.1.on HB.out) k hk2
      have z2 := (abs_at HA.out.2.2.1 k hk1 hk2).2.2
      have t1 := (HA.out.1.on HB.out).each _ (List.getElem_mem hk1)
      have t2 := (HA.out.2.1.on HB.out).each _ (List.getElem_mem hk2)
      rw [z2] at x2 t1
      generalize (L[k]).a = A1 at *
      generalize (L[k]).c = C1 at *
      generalize (M[k]).a = A2 at *
      generalize (M[k]).c = C2 at *
      generalize (M[k]).x = X at *
      have e1 : ∀ j, (convert 25 9 (.slice A1 X.length C1)).run Try.prog (wr.drewN j) = .ok (.string (strOfNums X)) (wr.drewN j) := fun j => str_opt (t1.on (below_drewN (Below.refl _ wr) j)) rfl
      have e2 : ∀ j, (convert 25 9 (.slice A2 X.length C2)).run Try.prog (wr.drewN j) = .ok (.string (strOfNums X)) (wr.drewN j) := fun j => str_opt (t2.on (below_drewN (Below.refl _ wr) j)) rfl
      clear x0 x1 y0 y1 z2 t1 t2 hk1 hk2
      go_wp2
      go_quiet (fail)
      go_wp2
      exact ⟨⟨k + 1, hlt, rfl, below_drewN HB.out _⟩, by simp [intOf]; omega⟩
    · go_wp2
      go_ret
      exact ⟨rfl, HB.out⟩
end Go.Proofs.Ytccocjipgbeaeab
