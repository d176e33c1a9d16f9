import Derived.Test.YtmecmeonahodaaaPaZ
namespace Go.Proofs.Ytmecmeonahodaaa
open Go.RowKit Go.Shelf Pa
/-- a list's mark -/
def mk (i : Nat) : ByteArray := st [47, 109, 97, 114, 107, 32, UInt8.ofNat (97 + i)]
theorem mk_inj {i j : Nat} (hi : i < 9) (hj : j < 9) (h : mk i = mk j) : i = j := by
  have h1 : tx (mk i) = tx (mk j) := by rw [h]
  unfold mk at h1
  rw [tx_st, tx_st] at h1
  have h2 : UInt8.ofNat (97 + i) = UInt8.ofNat (97 + j) := by simpa using h1
  have h3 := congrArg UInt8.toNat h2
  simp at h3
  omega
set_option maxRecDepth 100000 in
set_option maxHeartbeats 4000000 in
theorem mark_any (w : World) (i : Nat) (hi : i < 9) : Calls Try.prog 9 #[.int .i64 (i : Int)] w fun e w' => e = .returned (.string (mk i)) ∧ Below w.heap.size w w' := by
  have c1 : wrap64 (97 + (i : Int)) = 97 + (i : Int) := by unfold wrap64; omega
  have hrun : (convert 42 9 (.slice (some ⟨w.heap.size, 0, none⟩) 1 1)).run Try.prog (w.alloc (.cells #[.int .u8 (97 + (i : Int))] 5)) = .ok (.string ⟨#[UInt8.ofNat (97 + i)]⟩) (w.alloc (.cells #[.int .u8 (97 + (i : Int))] 5)) := by
    refine run_convert_bytes_back (P := Try.prog) _ 42 9 5 ⟨w.heap.size, 0, none⟩ 1 [UInt8.ofNat (97 + i)] Try.underlying42 Try.underlying5 Try.underlying9 ?_
    intro j hj
    have : j = 0 := by simpa using hj
    subst this
    have e : ((UInt8.ofNat (97 + i)).toNat : Int) = 97 + (i : Int) := by
      have : (UInt8.ofNat (97 + i)).toNat = 97 + i := by simp; omega
      omega
    rw [List.getElem_cons_zero, e]
    simp [Addr.add]
  have HB := below_a w (.cells #[.int .u8 (97 + (i : Int))] 5)
  go_enter Try.func9, Try.ntmps9
  go_wp2
  go_ret
  refine ⟨?_, HB⟩
  have e : ({ data := #[47, 109, 97, 114, 107, 32] } ++ { data := #[97 + UInt8.ofNat i] } : ByteArray) = mk i := tx_inj (by unfold mk; rw [tx_st]; simp [tx])
  rw [← e]; rfl
end Go.Proofs.Ytmecmeonahodaaa
