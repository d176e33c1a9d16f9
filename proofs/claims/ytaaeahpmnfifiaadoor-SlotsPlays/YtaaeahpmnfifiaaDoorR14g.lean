import Derived.Test.YtaaeahpmnfifiaaDoorR14f
namespace Go.Proofs.YtaaeahpmnfifiaaDoor
open Go.RowKit Rec Sc
set_option maxHeartbeats 2000000 in
theorem rput_no (w : World) (a : Option Addr) (c : Nat) (p : Int) (s : ByteArray) (i : Int) (hs : s.size ≤ 9223372036854775807) (h : mst p s i = false) : Calls Tryd.prog 20 #[.slice a 512 c, eV p s i] w fun e w' => e = .returned (.int .i64 140) ∧ Below w.heap.size w w' := by
  have HNa : Hid (∀ wx, Calls Tryd.prog 34 #[.string s] wx fun e w' => e = .returned (.bool (Pa.name s.data.toList)) ∧ wx = w') := fun wx => rname_any wx s hs
  have hA : Hid (∀ o, Below w.heap.size w (w.alloc o)) := fun o => (Below.refl _ _).alloc (Nat.le_refl _) _
  by_cases h0 : p < 0
  · clear HNa h
    go_enter Tryd.func20, Tryd.ntmps20
    go_wp2
    go_ret
    exact ⟨rfl, hA.out _⟩
  · by_cases h1 : 16 ≤ p
    · clear HNa h
      go_enter Tryd.func20, Tryd.ntmps20
      go_wp2
      go_ret
      exact ⟨rfl, hA.out _⟩
    · by_cases h2 : i < 1
      · clear HNa h
        go_enter Tryd.func20, Tryd.ntmps20
        go_wp2
        go_ret
        exact ⟨rfl, hA.out _⟩
      · by_cases h3 : 4294967295 < i
        · clear HNa h
          go_enter Tryd.func20, Tryd.ntmps20
          go_wp2
          go_ret
          exact ⟨rfl, hA.out _⟩
        · have hN : Pa.name s.data.toList = false := by
            have e1 : plc p = true := by simp [plc]; omega
            have e2 : decide (1 ≤ i) = true := decide_eq_true (by omega)
            have e3 : decide (i ≤ 4294967295) = true := decide_eq_true (by omega)
            simp only [mst, e1, e2, e3, Bool.true_and] at h
            exact h
          rw [hN] at HNa
          clear h hN
          go_enter Tryd.func20, Tryd.ntmps20
          go_wp2_with (first
            | (go_at_call 34; refine (HNa.out _).mono ?_; rintro e w' ⟨rfl, rfl⟩))
          go_ret
          exact ⟨rfl, hA.out _⟩
set_option maxHeartbeats 2000000 in
theorem rput_ok (w : World) (g cap c : Nat) (L : List Int) (k : Nat) (e : Ent) (hk : k < 16) (hO : OwnB w g cap L) (hn : 512 ≤ L.length) (he : Sc.good e) :
    Calls Tryd.prog 20 #[.slice (some ⟨g, 0, none⟩) 512 c, eV k e.nm e.ino] w fun r w' => r = .returned (.int .i64 0) ∧ OwnB w' g cap (ov L (32 * k) 32 (cb e)) ∧ w.grownBy w' (some g) := by
  obtain ⟨n1, n2, _⟩ := name_ne he.1
  obtain ⟨s, i⟩ := e
  have hi1 : 1 ≤ i := he.2.1
  have hi2 : i ≤ 4294967295 := he.2.2
  have hsz : s.size ≤ 27 := n2
  have hN : Pa.name s.data.toList = true := he.1
  have hgl := hO.lt
  have HNa : Hid (∀ wx, Calls Tryd.prog 34 #[.string s] wx fun e w' => e = .returned (.bool true) ∧ wx = w') := fun wx => by
    have := rname_any wx s (by omega)
    rw [hN] at this
    exact this
  have HFo : Hid (∀ wx, Below w.heap.size w wx → Calls Tryd.prog 35 #[.int .i64 i, .string s] wx fun e w' => e = .returned (.slice (some ⟨wx.heap.size, 0, none⟩) 32 32) ∧ OwnB w' wx.heap.size 32 (cbl (some ⟨s, i⟩)) ∧ Below w.heap.size w w' ∧ w.heap.size ≤ wx.heap.size ∧ (∀ p v, wx.cell? p = some v → w'.cell? p = some v)) := fun wx hb => by
    refine (rform_any wx s i hsz hi1 hi2).mono ?_
    rintro e w' ⟨rfl, h1, h2⟩
    exact ⟨rfl, h1, hb.trans (h2.mono hb.size), hb.size, fun p v hv => (h2.cell (block_lt_of_cell hv)).trans hv⟩
  have HLa : Hid (∀ wx h, Below w.heap.size w wx → OwnB wx h 32 (cbl (some ⟨s, i⟩)) → h ≠ g → Calls Tryd.prog 36 #[.slice (some ⟨g, 0, none⟩) 512 c, .int .i64 k, .slice (some ⟨h, 0, none⟩) 32 32] wx fun e w' => e = .returned (.tuple #[]) ∧ OwnB w' g cap (ov L (32 * k) 32 (cb ⟨s, i⟩)) ∧ w.grownBy w' (some g)) := fun wx h hb ho hne => by
    refine (laid_any wx g cap c h 32 L _ k hk (hO.on hb) hn ho.bytes (cbl_len _) hne).mono ?_
    rintro e w' ⟨rfl, h1, h2⟩
    have e1 : ov L (32 * k) 32 (nth (cbl (some ⟨s, i⟩))) = ov L (32 * k) 32 (cb ⟨s, i⟩) := by
      refine ext_nth (by rw [ov_length, ov_length]) (fun j hj => ?_)
      rw [ov_length] at hj
      rw [nth_ov _ _ _ _ _ hj, nth_ov _ _ _ _ _ hj]
      split
      · rw [nth_cbl _ (by omega)]; rfl
      · rfl
    rw [e1] at h1
    exact ⟨rfl, h1, grown_trans (grown_of hb _) h2⟩
  have hk' : (k : Int) < 16 := by omega
  clear hO he n1 n2 hN
  go_enter Tryd.func20, Tryd.ntmps20
  go_wp2_with (first
    | (go_at_call 34; refine (HNa.out _).mono ?_; rintro e w' ⟨rfl, rfl⟩)
    | (go_at_call 35; refine (HFo.out _ ?_).mono ?_; (· exact (Below.refl _ _).alloc (Nat.le_refl _) _); rintro e w3 ⟨rfl, h1, h2, _, hcl⟩
       rw [World.size_alloc] at h1
       have H1 : Hid (OwnB w3 (w.heap.size + 1) 32 (cbl (some ⟨s, i⟩))) := h1
       have H2 : Hid (Below w.heap.size w w3) := h2
       have c0 : w3.cell? ⟨w.heap.size, 0, none⟩ = some (.int .i64 k) := hcl _ _ (cell_of_row _ _ 0 _ _ _ (heap_alloc_new _ _))
       clear h1 h2 hcl)
    | (go_at_call 36; refine (HLa.out _ (w.heap.size + 1) H2.out H1.out ?_).mono ?_; (· omega); rintro e w4 ⟨rfl, h4⟩; have H4 : Hid _ := h4; clear h4))
  go_ret
  exact ⟨rfl, H4.out⟩
end Go.Proofs.YtaaeahpmnfifiaaDoor
