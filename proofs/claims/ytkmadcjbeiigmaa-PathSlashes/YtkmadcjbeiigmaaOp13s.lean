import Derived.Test.YtkmadcjbeiigmaaOp13
import Derived.Test.YtkmadcjbeiigmaaPbS
import Derived.Deep.SlicePairs
namespace Go.Proofs.Ytkmadcjbeiigmaa
open Go.ChangeShapes Go.WideShapes Go.ChangeAt Go.RowKit Go.Deep Pa
theorem cellsPut : Try.prog.cellsOf 40 = 2 := by kernel_rfl
theorem bytesPut : Try.prog.bytesOf 40 = 16 := by kernel_rfl
theorem cellsN : Try.prog.cellsOf 3 = 1 := by kernel_rfl
theorem cellsBo : Try.prog.cellsOf 4 = 1 := by kernel_rfl
theorem wf_i64 {x : Int} (h : (Lit.int .i64 x).wf = true) : -9223372036854775808 ≤ x ∧ x ≤ 9223372036854775807 := by
  have hmin : IntKind.i64.min = -9223372036854775808 := rfl
  have hmax : IntKind.i64.max = 9223372036854775807 := rfl
  simp only [Lit.wf, Bool.and_eq_true, decide_eq_true_eq] at h
  omega
theorem open_puts {H : Type} {enc : TypeId × Value → H} {W : World} {a : Option Addr} {len cap : Nat} {d : DataW H} {p : List MemPlace} {fuel : Nat}
    (hf : DataW.trod enc Try.prog W 0 (fun _ => true) true fuel 38 [.slice a len cap] = some (d, p)) (hz : ∀ n ∈ d.weights Try.prog 38, n ≤ reachBytes) :
    ∃ (A : Nat → Int) (D : Nat → Bool), PutsAt W a len A D ∧ len ≤ 8796093021952 ∧ ∀ k, -9223372036854775808 ≤ A k ∧ A k ≤ 9223372036854775807 := by
  rcases open_slice_pairs Try.underlying38 Try.underlying40 cellsPut rfl rfl cellsN cellsBo hf with ⟨hcs, _⟩ | ⟨x, l, c, m, n, V0, V1, D0, D1, P0, P1, hcs, _, hl, hm, hmm, hx, hel⟩
  · simp at hcs
    obtain ⟨rfl, rfl, rfl⟩ := hcs
    exact ⟨fun _ => 0, fun _ => false, .inl rfl, by omega, fun _ => by simp⟩
  · simp only [List.cons.injEq, Value.slice.injEq, and_true] at hcs
    obtain ⟨rfl, rfl, rfl⟩ := hcs
    simp only [Prod.mk.injEq] at hx
    obtain ⟨rfl, _⟩ := hx
    simp only [if_true] at hmm
    have hb : m ≤ 8796093021952 := by
      have h1 := hz ((((List.range len).map fun i => DataW.agg [D0 i, D1 i]).length + ((List.range (m - len)).map fun j => DataW.agg [D0 (len + j), D1 (len + j)]).length) * 16) (by simp [DataW.weights, Try.underlying38, bytesPut])
      simp [reachBytes] at h1
      omega
    have each : ∀ i, i < len → ∃ z : Int × Bool, V0 i = .int .i64 z.1 ∧ V1 i = .bool z.2 ∧ -9223372036854775808 ≤ z.1 ∧ z.1 ≤ 9223372036854775807 := by
      intro i hi
      obtain ⟨_, _, e0, e1⟩ := hel i (by omega)
      obtain ⟨y, z0, _, wy⟩ := DataW.trod_int Try.underlying3 e0
      obtain ⟨fl, z1, _⟩ := DataW.trod_bool Try.underlying4 e1
      simp at z0 z1
      exact ⟨(y, fl), z0, z1, wf_i64 wy⟩
    obtain ⟨q, hq⟩ : ∃ q : Nat → Int × Bool, ∀ i, i < len → V0 i = .int .i64 (q i).1 ∧ V1 i = .bool (q i).2 ∧ -9223372036854775808 ≤ (q i).1 ∧ (q i).1 ≤ 9223372036854775807 := by
      refine ⟨fun i => if h : i < len then Classical.choose (each i h) else (0, false), fun i hi => ?_⟩
      simp only [hi, dite_true]
      exact Classical.choose_spec (each i hi)
    refine ⟨fun i => if i < len then (q i).1 else 0, fun i => (q i).2, ?_, by omega, fun k => ?_⟩
    · by_cases h0 : len = 0
      · exact .inl h0
      · have hsp : x.spot = none := by
          have := (hel 0 (by omega)).1
          simpa [Addr.add] using World.cell?_spot this
        obtain ⟨b, off, sp⟩ := x
        simp at hsp
        subst hsp
        refine .inr ⟨b, off, rfl, fun k hk => ?_⟩
        obtain ⟨e0, e1, _, _⟩ := hel k (by omega)
        rw [(hq k hk).1, Go.WideShapes.add_plain] at e0
        rw [(hq k hk).2.1, Go.WideShapes.add_plain] at e1
        exact ⟨by show _ = some (Value.int .i64 (if k < len then (q k).1 else 0)); rw [if_pos hk]; exact e0, e1⟩
    · show -9223372036854775808 ≤ (if k < len then (q k).1 else 0) ∧ (if k < len then (q k).1 else 0) ≤ 9223372036854775807
      split
      · next h => exact (hq k h).2.2
      · omega
end Go.Proofs.Ytkmadcjbeiigmaa
