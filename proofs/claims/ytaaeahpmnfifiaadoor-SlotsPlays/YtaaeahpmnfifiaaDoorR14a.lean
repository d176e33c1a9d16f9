import Derived.Test.YtaaeahpmnfifiaaDoorSnQ
namespace Go.Proofs.YtaaeahpmnfifiaaDoor
open Go.RowKit Rec Sc
theorem pl0_of {s : ByteArray} (h : Pa.name s.data.toList = true) : pl0 s = true := by
  obtain ⟨n1, n2, _⟩ := name_ne h
  have h' : Pa.name (tx s) = true := h
  simp only [Pa.name, Bool.and_eq_true, Bool.not_eq_true'] at h'
  obtain ⟨⟨h1, _⟩, h3⟩ := h'
  have h2 := (Pa.noPart_iff _).1 h1
  have a3 : (s.toList == [46]) = false := by rw [toList_tx]; simpa using h2.2.1
  have a4 : (s.toList == [46, 46]) = false := by
    rw [toList_tx]
    simp only [Pa.goes, Bool.or_eq_false_iff] at h3
    exact h3.2
  simp only [pl0, a3, a4, decide_eq_true n1, decide_eq_true n2]; rfl
theorem okB_of {s : ByteArray} (h : Pa.name s.data.toList = true) : okB s s.size := by
  have h' : Pa.name (tx s) = true := h
  simp only [Pa.name, Bool.and_eq_true, Bool.not_eq_true'] at h'
  obtain ⟨⟨h1, _⟩, _⟩ := h'
  have h2 := (Pa.noPart_iff _).1 h1
  intro i hi _
  have hb : s[i] ∈ tx s := by
    have h' : i < s.data.toList.length := by rw [← Lib.size_eq]; exact hi
    have e : (tx s)[i]? = some s[i] := by unfold tx; rw [List.getElem?_eq_getElem h']; rfl
    exact List.mem_of_getElem? e
  refine ⟨fun e => h2.2.2.1 ?_, fun e => h2.2.2.2 ?_⟩
  · have : s[i] = 47 := UInt8.toNat_inj.1 e
    rw [← this]; exact hb
  · have : s[i] = 0 := UInt8.toNat_inj.1 e
    rw [← this]; exact hb
set_option maxHeartbeats 4000000 in
theorem rname_any (w : World) (s : ByteArray) (hs : s.size ≤ 9223372036854775807) : Calls Tryd.prog 34 #[.string s] w fun e w' => e = .returned (.bool (Pa.name s.data.toList)) ∧ w = w' := by
  obtain ⟨N, hN⟩ : ∃ N, Pa.name s.data.toList = N := ⟨_, rfl⟩
  rw [hN]
  cases h0 : pl0 s with
  | false =>
    have HN : Hid (N = false) := by
      cases N with
      | false => rfl
      | true => rw [pl0_of hN] at h0; cases h0
    clear hN
    by_cases a1 : s.size < 1
    · go_enter Tryd.func34, Tryd.ntmps34
      go_wp2
      go_ret
      exact ⟨by rw [HN.out]; rfl, rfl⟩
    · by_cases a2 : s.size ≤ 27
      · cases a3 : (s.toList == [46]) with
        | true =>
          go_enter Tryd.func34, Tryd.ntmps34
          go_wp2
          go_ret
          exact ⟨by rw [HN.out]; rfl, rfl⟩
        | false =>
          have a4 : (s.toList == [46, 46]) = true := by
            cases a4 : (s.toList == [46, 46]) with
            | true => rfl
            | false =>
              have b1 : 1 ≤ s.size := by omega
              simp only [pl0, a3, a4, decide_eq_true b1, decide_eq_true a2] at h0; cases h0
          go_enter Tryd.func34, Tryd.ntmps34
          go_wp2
          go_ret
          exact ⟨by rw [HN.out]; rfl, rfl⟩
      · go_enter Tryd.func34, Tryd.ntmps34
        go_wp2
        go_ret
        exact ⟨by rw [HN.out]; rfl, rfl⟩
  | true =>
    have hh := h0
    simp only [pl0, Bool.and_eq_true, decide_eq_true_eq, Bool.not_eq_true'] at hh
    obtain ⟨a1, a2, a3, a4⟩ := hh
    have H0 : Hid (pl0 s = true) := h0
    have HN : Hid (Pa.name s.data.toList = N) := hN
    clear h0 hN
    go_enter Tryd.func34, Tryd.ntmps34
    go_wp2
    go_loopw [3] (fun s3 wr => ∃ k : Nat, k ≤ s.size ∧ s3 = .int .i64 (k : Int) ∧ okB s k ∧ wr = w) (fun s3 _ => s.size - (intOf s3).toNat)
    case atStart => exact ⟨0, Nat.zero_le _, rfl, fun i _ h => absurd h (by omega), rfl⟩
    case round =>
      obtain ⟨k, hk, rfl, hok, rfl⟩ := hrel
      have HK : Hid (okB s k) := hok
      clear hok
      by_cases hlt : k < s.size
      · obtain ⟨c, hc⟩ : ∃ c : UInt8, s[k] = c := ⟨_, rfl⟩
        have HK1 : Hid (c.toNat ≠ 47 → c.toNat ≠ 0 → okB s (k + 1)) := fun h1 h2 i hi hk' => by
          by_cases e : i = k
          · subst e; rw [hc]; exact ⟨h1, h2⟩
          · exact HK.out i hi (by omega)
        have HF : Hid (c.toNat = 47 ∨ c.toNat = 0 → N = false) := fun h => by
          rw [← HN.out]
          cases e : Pa.name s.data.toList with
          | false => rfl
          | true =>
            have := okB_of e k hlt hlt
            rw [hc] at this
            omega
        by_cases h47 : c.toNat = 47
        · go_wp2
          go_ret
          exact ⟨by rw [HF.out (.inl h47)]; rfl, rfl⟩
        · by_cases h00 : c.toNat = 0
          · go_wp2
            go_ret
            exact ⟨by rw [HF.out (.inr h00)]; rfl, rfl⟩
          · have h47' : ((c.toNat : Int) == 47) = false := by simp; omega
            have h00' : ((c.toNat : Int) == 0) = false := by simp; omega
            go_wp2
            refine ⟨⟨k + 1, by omega, rfl, HK1.out h47 h00, trivial⟩, ?_⟩
            simp [intOf]
            omega
      · obtain rfl : k = s.size := by omega
        go_wp2
        go_ret
        exact ⟨by rw [← HN.out, name_of H0.out HK.out]; rfl, rfl⟩
set_option maxHeartbeats 4000000 in
theorem number_any (w : World) (b off c : Nat) (l : List Int) (hn : l.length = 32) (hO : Bytes w (some ⟨b, off, none⟩) l) :
    Calls Tryd.prog 43 #[.slice (some ⟨b, off, none⟩) 32 c] w fun e w' => e = .returned (.int .i64 (num l 0 4)) ∧ ∃ q, w' = w.drewN q := by
  have c0 := hO.cell (i := 0) (by omega)
  have c1 := hO.cell (i := 1) (by omega)
  have c2 := hO.cell (i := 2) (by omega)
  have c3 := hO.cell (i := 3) (by omega)
  have b0 := hO.wf 0
  have b1 := hO.wf 1
  have b2 := hO.wf 2
  have b3 := hO.wf 3
  have HE : Hid (num l 0 4 = nth l 0 + 256 * nth l 1 + 65536 * nth l 2 + 16777216 * nth l 3) := by
    show num l 0 4 = _
    simp only [num, Nat.zero_add]
    omega
  have d0 : w.drew.cell? ⟨b, off, none⟩ = some (.int .u8 (nth l 0)) := c0
  have d1 : w.drew.cell? ⟨b, off + 1, none⟩ = some (.int .u8 (nth l 1)) := c1
  have d2 : w.drew.cell? ⟨b, off + 2, none⟩ = some (.int .u8 (nth l 2)) := c2
  have d3 : w.drew.cell? ⟨b, off + 3, none⟩ = some (.int .u8 (nth l 3)) := c3
  simp only [Nat.add_zero] at c0
  clear hO
  go_enter Tryd.func43, Tryd.ntmps43
  go_wp2
  go_region
  go_wp2
  go_ret
  exact ⟨by rw [HE.out]; rfl, 1, rfl⟩
end Go.Proofs.YtaaeahpmnfifiaaDoor
