import Derived.Test.YtmecmeonahodaaaFr13
import Derived.Test.YtmecmeonahodaaaPaO
import Derived.SizedLaws
import Derived.Lib.SmallJoins
import Derived.Deep.Slices
import Derived.SliceStrings
import Derived.ChangeMaps5
namespace Go.Proofs.Ytmecmeonahodaaa
open Go.ChangeShapes Go.WideShapes Go.ChangeAt Go.RowKit Go.ChangeMaps Go.ChangeShapes Pa
theorem bytesS : Try.prog.bytesOf 9 = 16 := by kernel_rfl
theorem cellsS : Try.prog.cellsOf 9 = 1 := by kernel_rfl
theorem open_strs {H : Type} {enc : TypeId × Value → H} {W : World} {a : Option Addr} {len cap : Nat} {d : DataW H} {p : List MemPlace} {fuel : Nat}
    (hf : DataW.trod enc Try.prog W 0 (fun _ => true) true fuel 24 [.slice a len cap] = some (d, p)) (hz : ∀ n ∈ d.weights Try.prog 24, n ≤ reachBytes) :
    ∃ xs : List ByteArray, xs.length = len ∧ StrsAt W a xs ∧ len ≤ cap ∧ cap ≤ 8796093021952 ∧ ∀ x, x ∈ xs → x.size ≤ 9223372036854775807 := by
  rcases open_strings Try.underlying24 Try.underlying9 cellsS hf with ⟨hcs, _⟩ | ⟨x, l, c, ss, hcs, _, hl, hm, hlen, hx, hcell, hwz⟩
  · simp at hcs
    obtain ⟨rfl, rfl, rfl⟩ := hcs
    exact ⟨[], rfl, .inl rfl, Nat.le_refl _, by omega, fun x h => by cases h⟩
  · simp only [List.cons.injEq, Value.slice.injEq, and_true] at hcs
    obtain ⟨rfl, rfl, rfl⟩ := hcs
    simp only [Prod.mk.injEq] at hx
    obtain ⟨rfl, _⟩ := hx
    simp only [if_true] at hlen
    have hb : cap ≤ 8796093021952 := by
      have h1 := hz (((strs (H := H) (ss.take len)).length + (strs (H := H) (ss.drop len)).length) * 16) (by simp [DataW.weights, Try.underlying24, bytesS])
      simp [strs, reachBytes] at h1
      omega
    refine ⟨ss.take len, by simp; omega, ?_, hl, hb, fun y hy => hwz y (List.mem_of_mem_take hy)⟩
    by_cases h0 : len = 0
    · exact .inl (by simp [h0])
    · have hsp : x.spot = none := by
        have := hcell 0 (by omega)
        simpa [Addr.add] using World.cell?_spot this
      obtain ⟨b, off, sp⟩ := x
      simp at hsp
      subst hsp
      refine .inr ⟨b, off, rfl, fun j y hj => ?_⟩
      have hjl : j < len := by have := (List.getElem?_eq_some_iff.1 hj).1; simp at this; omega
      have h2 := hcell j (by omega)
      have e : ss.getD j ByteArray.empty = y := by
        rw [List.getElem?_take_of_lt hjl] at hj
        simp [List.getD, hj]
      rw [e] at h2
      cases j with
      | zero => simpa [Addr.add] using h2
      | succ j => simpa [Addr.add] using h2
end Go.Proofs.Ytmecmeonahodaaa
