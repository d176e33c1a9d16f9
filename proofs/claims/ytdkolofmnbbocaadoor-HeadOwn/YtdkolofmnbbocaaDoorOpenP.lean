import Derived.Test.YtdkolofmnbbocaaDoorKEight
import Derived.Test.YtdkolofmnbbocaaDoorPlanM
namespace Go.Proofs.YtdkolofmnbbocaaDoor
open Rec Go.ChangeShapes Go.WideShapes Go.ChangeAt Go.RowKit

theorem list2 {α : Type} (l : List α) (h : l.length = 2) : ∃ a b, l = [a, b] := by
  match l, h with
  | [a, b], _ => exact ⟨a, b, rfl⟩
theorem cellsPl : Tryd.prog.cellsOf 25 = 2 := by kernel_rfl
theorem cellsIs : Tryd.prog.cellsOf 22 = 1 := by kernel_rfl
set_option maxRecDepth 100000 in
theorem okWide_plan {W : World} {base : Nat} {v : Value} (h : Value.okWide Tryd.prog W .any base 25 v) : ∃ cs, v = .agg cs := by
  obtain ⟨cs, h1, _⟩ := okWide_struct Tryd.underlying25 h
  exact ⟨cs, h1⟩
theorem open_ints_cs {H : Type} {enc : TypeId × Value → H} {W : World} {cs : List Value} {d : DataW H} {p : List MemPlace} {fuel : Nat}
    (hf : DataW.trod enc Tryd.prog W 0 (fun _ => true) true fuel 22 cs = some (d, p)) : ∃ a len cap, cs = [.slice a len cap] ∧ len ≤ cap := by
  rcases open_ints Tryd.underlying22 Tryd.underlying3 cellsN hf with ⟨hcs, _⟩ | ⟨x, l, c, zs, hcs, _, hl, _⟩
  · exact ⟨_, _, _, hcs, Nat.le_refl _⟩
  · exact ⟨_, _, _, hcs, hl⟩
/-- a Plan among the arguments -/
theorem open_plan {H : Type} {enc : TypeId × Value → H} {W : World} {v : Value} {D : DataW H} {Pl : List MemPlace} {fuel : Nat} (hv : ∃ cs, v = .agg cs)
    (hf : DataW.trod enc Tryd.prog W 0 (fun _ => true) true fuel 25 v.cells.toList = some (D, Pl)) (hz : ∀ n ∈ D.weights Tryd.prog 25, n ≤ reachBytes) :
    ∃ sa sn sc ba bn bc st sd, v = .agg #[.slice sa sn sc, .slice ba bn bc] ∧ PlanAt W sa sn ba bn st sd := by
  obtain ⟨cs, rfl⟩ := hv
  obtain ⟨xs, m, hm, hx, hlen, hxl, hel⟩ := DataW.trod_struct Tryd.underlying25 hf
  rw [cellsPl] at hlen
  obtain ⟨v0, v1, hcs⟩ := list2 _ hlen
  obtain ⟨x0, x1, rfl⟩ := list2 xs hxl
  rw [hcs] at hel
  have e0 := hel 0 _ rfl
  have e1 := hel 1 _ rfl
  clear hel
  simp [cellsIs, cellsS] at e0 e1
  obtain ⟨a0, n0, c0, h0, _⟩ := open_ints_cs e0
  obtain ⟨a1, n1, c1, h1, _⟩ := open_bytes_cs e1
  simp at h0 h1
  subst h0 h1
  have hD : D = .agg [x0.1, x1.1] := (Prod.mk.inj hx).1
  subst hD
  have w0 : ∀ n ∈ x0.1.weights Tryd.prog 22, n ≤ reachBytes := fun n hn => hz n (by
    simp only [DataW.weights, Tryd.underlying25, List.map_cons, List.map_nil, DataW.weightsEach]
    exact List.mem_append_left _ hn)
  have w1 : ∀ n ∈ x1.1.weights Tryd.prog 23, n ≤ reachBytes := fun n hn => hz n (by
    simp only [DataW.weights, Tryd.underlying25, List.map_cons, List.map_nil, DataW.weightsEach]
    exact List.mem_append_right _ (List.mem_append_left _ hn))
  obtain ⟨st, s1, s2, s3, _⟩ := open_nums e0 w0
  obtain ⟨sd, t1, t2, _⟩ := open_bytes e1 w1
  have hc : cs = #[.slice a0 n0 c0, .slice a1 n1 c1] := by
    cases cs with
    | mk l =>
      have : l = [.slice a0 n0 c0, .slice a1 n1 c1] := hcs
      rw [this]
  exact ⟨a0, n0, c0, a1, n1, c1, st, sd, by rw [hc], ⟨s1, s2, s3, t1, t2⟩⟩
end Go.Proofs.YtdkolofmnbbocaaDoor
