import Derived.Test.YtkmadcjbeiigmaaOp13
import Derived.Test.YtkmadcjbeiigmaaR13n
namespace Go.Proofs.Ytkmadcjbeiigmaa
open Go.ChangeShapes Go.WideShapes Go.ChangeAt Go.RowKit Go.ChangeMaps Go.ChangeShapes Pa
theorem small_le {H : Type} {l : List (DataW H)} (h : Rows.uptoSmall H l = true) : Rows.uptoBulkAll l ≤ 1048576 := of_decide_eq_true h
theorem bulk_strs {H : Type} : ∀ (ss : List ByteArray), ss.length ≤ Rows.uptoBulkAll (strs (H := H) ss) ∧ ∀ x, x ∈ ss → x.size ≤ Rows.uptoBulkAll (strs (H := H) ss)
  | [] => ⟨Nat.zero_le _, fun x h => by cases h⟩
  | s :: ss => by
    have ih := bulk_strs (H := H) ss
    have e : Rows.uptoBulkAll (strs (H := H) (s :: ss)) = s.data.toList.length + 1 + Rows.uptoBulkAll (strs (H := H) ss) := by simp [strs, Rows.uptoBulkAll, Rows.uptoBulk]
    have hs : s.size = s.data.toList.length := Lib.size_eq s
    refine ⟨by rw [List.length_cons]; omega, fun x hx => ?_⟩
    rcases List.mem_cons.1 hx with rfl | hx
    · omega
    · have := ih.2 x hx; omega
theorem open_told {H : Type} {enc : TypeId × Value → H} {W : World} {a : Option Addr} {len cap : Nat} {d : DataW H} {p : List MemPlace} {fuel : Nat}
    (hf : DataW.trod enc Try.prog W 0 (fun _ => true) true fuel 22 [.slice a len cap] = some (d, p)) (hz : Rows.uptoBulk d ≤ 1048576) :
    ∃ l : List Tx, Told W a len l ∧ len ≤ 100000000 ∧ ∀ p, p ∈ l → p.length ≤ 100000000 := by
  rcases open_strings Try.underlying22 Try.underlying9 cellsS hf with ⟨hcs, _⟩ | ⟨x, l, c, ss, hcs, _, hl, hm, hlen, hx, hcell, hwz⟩
  · simp at hcs
    obtain ⟨rfl, rfl, rfl⟩ := hcs
    exact ⟨[], ⟨[], .inl rfl, rfl, rfl⟩, by omega, fun x h => by cases h⟩
  · simp only [List.cons.injEq, Value.slice.injEq, and_true] at hcs
    obtain ⟨rfl, rfl, rfl⟩ := hcs
    simp only [Prod.mk.injEq] at hx
    obtain ⟨rfl, _⟩ := hx
    simp only [if_true] at hlen
    have hb := bulk_strs (H := H) (ss.take len)
    simp only [Rows.uptoBulk] at hz
    have hll : (ss.take len).length = len := by simp; omega
    refine ⟨(ss.take len).map tx, ⟨ss.take len, ?_, rfl, hll⟩, by omega, fun q hq => ?_⟩
    · by_cases h0 : len = 0
      · exact .inl (by simp [h0])
      · have hsp : x.spot = none := by
          have := hcell 0 (by omega)
          simpa [Addr.add] using World.cell?_spot this
        obtain ⟨b, off, sp⟩ := x
        simp at hsp
        subst hsp
        refine .inr ⟨b, off, rfl, fun j y hj => ?_⟩
        have hjl : j < len := by have := (List.getElem?_eq_some_iff.1 hj).1; simp at this; omega
        have h2 := hcell j (by omega)
        have e : ss.getD j ByteArray.empty = y := by
          rw [List.getElem?_take_of_lt hjl] at hj
          simp [List.getD, hj]
        rw [e] at h2
        cases j with
        | zero => simpa [Addr.add] using h2
        | succ j => simpa [Addr.add] using h2
    · obtain ⟨y, hy, rfl⟩ := List.mem_map.1 hq
      have := hb.2 y hy
      rw [← size_tx]; omega
end Go.Proofs.Ytkmadcjbeiigmaa
