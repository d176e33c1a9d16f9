import Derived.Test.YtkmadcjbeiigmaaR13a
namespace Go.Proofs.Ytkmadcjbeiigmaa
open Go.RowKit Go.Shelf Pa
theorem w64s {m : Nat} (h : m ≤ 2000000000) : wrap64 ((m : Int) + 1) = (m : Int) + 1 := by unfold wrap64; omega
theorem ilt {a b : Nat} (h : a < b) : (a : Int) < (b : Int) := Int.ofNat_lt.2 h
theorem inlt {a b : Nat} (h : ¬ a < b) : ¬ (a : Int) < (b : Int) := fun e => h (Int.ofNat_lt.1 e)
theorem ile {a b : Nat} (h : a ≤ b) : (a : Int) ≤ (b : Int) := Int.ofNat_le.2 h
theorem meas1 {n i : Nat} (h : i ≤ n) : n + 1 - (intOf (.int .i64 ((i : Int) + 1))).toNat < n + 1 - (intOf (.int .i64 (i : Int))).toNat := by
  simp [intOf]; omega
/-- a list of pieces, told -/
def PsR (w : World) (l : List Tx) (e : Ending) (w' : World) : Prop := (∃ v xs, e = .returned v ∧ Ow w' w.heap.size v xs ∧ xs.map tx = l ∧ xs.length ≤ 200000000) ∧ Below w.heap.size w w'
set_option maxRecDepth 100000 in
set_option maxHeartbeats 4000000 in
theorem rpieces_any (w : World) (s : ByteArray) (hs : s.size ≤ 100000000) : Calls Try.prog 38 #[.string s] w fun e w' => PsR w (pcs (tx s)) e w' := by
  obtain ⟨n, hn⟩ : ∃ n, s.size = n := ⟨_, rfl⟩
  have hT : (tx s).length = n := by rw [← size_tx]; exact hn
  have HT : Hid ((tx s).length = n ∧ n ≤ 100000000 ∧ s.size = n) := ⟨hT, by omega, hn⟩
  clear hT hn
  go_enter Try.func38, Try.ntmps38
  go_wp2
  go_loopw [3, 4, 5] (fun s3 s4 s5 wr => ∃ (i fr : Nat) (row : List ByteArray), i ≤ n + 1 ∧ s5 = .int .i64 (i : Int) ∧ s4 = .int .i64 (fr : Int) ∧ Ow wr w.heap.size s3 row ∧ Pc (tx s) n i fr row ∧ Below w.heap.size w wr) (fun _ _ s5 _ => n + 1 - (intOf s5).toNat)
  case atStart => exact ⟨0, 0, [], Nat.zero_le _, rfl, rfl, Ow.nil _ _, ⟨Nat.le_refl _, by simp, rfl, fun e => (by omega), Nat.zero_le _⟩, Below.refl _ _⟩
  case round =>
    obtain ⟨i, fr, row, hi, rfl, rfl, how, hpc, hbr⟩ := hrel
    by_cases hle : i ≤ n
    · have hle' : (i : Int) ≤ (s.size : Int) := by rw [HT.out.2.2]; exact ile hle
      have HM := meas1 hle
      have HMh : Hid (n + 1 - (intOf (.int .i64 ((i : Int) + 1))).toNat < n + 1 - (intOf (.int .i64 (i : Int))).toNat) := HM
      clear HM
      have hfi := hpc.fi
      by_cases hgo : i < n ∧ (tx s)[i]? ≠ some 47
      · obtain ⟨h1, h2⟩ := hgo
        have hic : i < s.size := by rw [HT.out.2.2]; exact h1
        have h1' : (i : Int) < (s.size : Int) := ilt hic
        have hat := tx_at hic
        have h47 : s[i] ≠ 47 := fun e => h2 (by rw [hat, e])
        have hb47 : ((s[i].toNat : Int) == 47) = false := by
          rw [beq_eq_false_iff_ne]
          exact fun h => h47 (u8_eq (n := 47) (by decide) h)
        have HP : Hid (Pc (tx s) n (i + 1) fr row ∧ i + 1 ≤ n + 1) := ⟨hpc.go h1 hat h47, by omega⟩
        clear h1 h2 hat h47 hpc hle hfi
        go_wp2
        go_roundw
        case rel => exact ⟨i + 1, fr, row, HP.out.2, rfl, rfl, how, HP.out.1, hbr⟩
        case measure => exact HMh.out
      · have hs47 : i < n → (tx s)[i]? = some 47 := fun h => by
          by_cases e : (tx s)[i]? = some 47
          · exact e
          · exact absurd ⟨h, e⟩ hgo
        have hcut := hpc.cut HT.out.1 hle hs47
        have hrl := hpc.le
        clear hgo
        by_cases hf : fr < i
        · have hf' : (fr : Int) < (i : Int) := ilt hf
          have hfr0 : (0 : Int) ≤ (fr : Int) := Int.natCast_nonneg _
          have hfr1 : (fr : Int) ≤ (i : Int) := ile hfi
          obtain ⟨x, hx⟩ : ∃ x, s.extract fr i = x := ⟨_, rfl⟩
          have hxt : tx x = ((tx s).drop fr).take (i - fr) := by rw [← hx]; exact mid_tx s fr i (by rw [HT.out.2.2]; exact hle) hfi
          obtain ⟨g', cap', w', hrun, how', hbw⟩ := how.append2 x (by have := HT.out.2.1; omega) hbr.size
          have HC : Hid (Ow w' w.heap.size (.slice (some ⟨g', 0, none⟩) (row.length + 1) cap') (row ++ [x]) ∧ Below w.heap.size w w' ∧ Pc (tx s) n (i + 1) (i + 1) (row ++ [x]) ∧ i + 1 ≤ n + 1) := ⟨how', hbw w hbr, hcut (row ++ [x]) (by rw [List.map_append, if_pos hf, ← hxt]; rfl) (by simp), by omega⟩
          have HX : Hid (s.extract fr i = x) := hx
          clear how' hbw hcut hxt hpc hbr hrl hfi hx hf
          rcases how.cases with ⟨rfl, rfl⟩ | ⟨g, cap, rfl, hg1, hg2, hg3⟩
          · clear how
            by_cases h1 : i < n
            · have hic : i < s.size := by rw [HT.out.2.2]; exact h1
              have h1' : (i : Int) < (s.size : Int) := ilt hic
              have hb47 : ((s[i].toNat : Int) == 47) = true := by
                have := tx_at hic
                rw [hs47 h1] at this
                rw [← Option.some.inj this]; rfl
              clear hs47 h1 hle
              go_wp2_with (at_builtin; rw [HX.out]; refine wp_hrun rfl _ _ 22 rfl hrun ?_; clear hrun)
              go_roundw
              case rel => exact ⟨i + 1, i + 1, _, HC.out.2.2.2, rfl, rfl, HC.out.1, HC.out.2.2.1, HC.out.2.1⟩
              case measure => exact HMh.out
            · have h1' : ¬ (i : Int) < (s.size : Int) := by rw [HT.out.2.2]; exact inlt h1
              clear hs47 h1 hle
              go_wp2_with (at_builtin; rw [HX.out]; refine wp_hrun rfl _ _ 22 rfl hrun ?_; clear hrun)
              go_roundw
              case rel => exact ⟨i + 1, i + 1, _, HC.out.2.2.2, rfl, rfl, HC.out.1, HC.out.2.2.1, HC.out.2.1⟩
              case measure => exact HMh.out
          · clear how hg1 hg2 hg3
            generalize row.length = m at hrun HC ⊢
            by_cases h1 : i < n
            · have hic : i < s.size := by rw [HT.out.2.2]; exact h1
              have h1' : (i : Int) < (s.size : Int) := ilt hic
              have hb47 : ((s[i].toNat : Int) == 47) = true := by
                have := tx_at hic
                rw [hs47 h1] at this
                rw [← Option.some.inj this]; rfl
              clear hs47 h1 hle
              go_wp2_with (at_builtin; rw [HX.out]; refine wp_hrun rfl _ _ 22 rfl hrun ?_; clear hrun)
              go_roundw
              case rel => exact ⟨i + 1, i + 1, _, HC.out.2.2.2, rfl, rfl, HC.out.1, HC.out.2.2.1, HC.out.2.1⟩
              case measure => exact HMh.out
            · have h1' : ¬ (i : Int) < (s.size : Int) := by rw [HT.out.2.2]; exact inlt h1
              clear hs47 h1 hle
              go_wp2_with (at_builtin; rw [HX.out]; refine wp_hrun rfl _ _ 22 rfl hrun ?_; clear hrun)
              go_roundw
              case rel => exact ⟨i + 1, i + 1, _, HC.out.2.2.2, rfl, rfl, HC.out.1, HC.out.2.2.1, HC.out.2.1⟩
              case measure => exact HMh.out
        · have hf' : ¬ (fr : Int) < (i : Int) := inlt hf
          have HC : Hid (Pc (tx s) n (i + 1) (i + 1) row ∧ i + 1 ≤ n + 1) := ⟨hcut row (by rw [if_neg hf, List.append_nil]) (by omega), by omega⟩
          clear hcut hpc hrl hfi hf
          by_cases h1 : i < n
          · have hic : i < s.size := by rw [HT.out.2.2]; exact h1
            have h1' : (i : Int) < (s.size : Int) := ilt hic
            have hb47 : ((s[i].toNat : Int) == 47) = true := by
              have := tx_at hic
              rw [hs47 h1] at this
              rw [← Option.some.inj this]; rfl
            clear hs47 h1 hle
            go_wp2
            go_roundw
            case rel => exact ⟨i + 1, i + 1, row, HC.out.2, rfl, rfl, how, HC.out.1, hbr⟩
            case measure => exact HMh.out
          · have h1' : ¬ (i : Int) < (s.size : Int) := by rw [HT.out.2.2]; exact inlt h1
            clear hs47 h1 hle
            go_wp2
            go_roundw
            case rel => exact ⟨i + 1, i + 1, row, HC.out.2, rfl, rfl, how, HC.out.1, hbr⟩
            case measure => exact HMh.out
    · have hle' : ¬ (i : Int) ≤ (s.size : Int) := by rw [HT.out.2.2]; omega
      have ei : i = n + 1 := by omega
      have HE : Hid (row.map tx = pcs (tx s) ∧ row.length ≤ 200000000) := by
        have h1 := hpc.ps
        rw [hpc.en ei, List.drop_of_length_le (by rw [HT.out.1]; omega), pcs_nil, List.append_nil] at h1
        have := hpc.le
        have := HT.out.2.1
        exact ⟨h1, by omega⟩
      clear hpc hle
      go_wp2
      go_ret
      exact ⟨⟨_, row, rfl, how, HE.out⟩, hbr⟩
end Go.Proofs.Ytkmadcjbeiigmaa
