import Derived.Test.YtleakaddlgpamaaDoorGeL
namespace Go.Proofs.YtleakaddlgpamaaDoor
open Go.RowKit Rec

theorem bytes7 (w : World) (l : List Int) (hl : l.length ≤ 100) (hw : ∀ i, 0 ≤ nth l i ∧ nth l i < 256) : OwnB (w.alloc (.cells (l.map (Value.int .u8)).toArray 5)) w.heap.size l.length l :=
  ⟨⟨_, heap_alloc_new _ _, by simp, List.take_of_length_le (by simp)⟩, by omega, Nat.le_refl _, by unfold maxLen; omega, hw⟩
theorem wf_one7 (b : Int) (h : 0 ≤ b ∧ b < 256) : ∀ i, 0 ≤ nth [b] i ∧ nth [b] i < 256 := fun i => by
  cases i with
  | zero => exact h
  | succ i => rw [nth_out _ _ (by simp)]; omega
theorem sup_spoilt {n : Int} (hn : isLen n = true) (k : Nat) (hk : k < 512) (b : Int) (hb : 1 ≤ b ∧ b ≤ 255) : rdE ((sup n).set k ((nth (sup n) k + b) % 256)) = 71 ∧ rdV ((sup n).set k ((nth (sup n) k + b) % 256)) = 0 := by
  have h1 := sup_bd n k
  have h2 := spoilt hn k hk ((nth (sup n) k + b) % 256) (by omega)
  have h3 : ((sup n).set k ((nth (sup n) k + b) % 256)).length = 512 := by rw [List.length_set, sup_len]
  generalize (sup n).set k ((nth (sup n) k + b) % 256) = z at h2 h3
  unfold rdE rdV
  rw [if_pos h3, if_pos h3, h2]
  exact ⟨rfl, rfl⟩
theorem rd_size {l : List Int} (h : l.length ≠ 512) : rdE l = 32 ∧ rdV l = 0 := by
  unfold rdE rdV; rw [if_neg h, if_neg h]; exact ⟨rfl, rfl⟩
theorem rd_cases (l : List Int) : (l.length ≠ 512 ∧ rdE l = 32 ∧ rdV l = 0) ∨ (l.length = 512 ∧ rdE l = 71 ∧ rdV l = 0) ∨ (l.length = 512 ∧ rdE l = 0 ∧ isLen (rdV l) = true ∧ l = sup (rdV l)) := by
  by_cases h : l.length = 512
  · right
    cases hk : rdOk l with
    | false => left; unfold rdE rdV; rw [if_pos h, if_pos h, hk]; exact ⟨h, rfl, rfl⟩
    | true =>
      right
      have e : rdV l = num l 8 4 := by unfold rdV; rw [if_pos h, if_pos hk]
      obtain ⟨h1, h2⟩ := rdOk_is hk
      rw [e]
      exact ⟨h, by unfold rdE; rw [if_pos h, if_pos hk], h1, h2⟩
  · exact .inl ⟨h, rd_size h⟩
end Go.Proofs.YtleakaddlgpamaaDoor
