import Derived.Test.YtpheajiepnjhdaaDoorOpenP
import Derived.Test.YtpheajiepnjhdaaDoorRoom
namespace Go.Proofs.YtpheajiepnjhdaaDoor
open Rec Go.ChangeShapes Go.WideShapes Go.ChangeAt Go.RowKit

/-- a [][]byte among the arguments -/
theorem open_rowsS {H : Type} {enc : TypeId × Value → H} {W : World} {a : Option Addr} {len cap : Nat} {d : DataW H} {p : List MemPlace} {fuel : Nat}
    (hf : DataW.trod enc Tryd.prog W 0 (fun _ => true) true fuel 27 [.slice a len cap] = some (d, p)) (hz : ∀ n ∈ d.weights Tryd.prog 27, n ≤ reachBytes) :
    ∃ ds : List (List Int), ds.length = len ∧ Data W a ds ∧ Small ds ∧ len ≤ 5864062014634 ∧ len ≤ cap ∧ (a = none → cap = 0) := by
  rcases Deep.open_slice Tryd.underlying27 hf with ⟨hcs, _⟩ | ⟨x, len', cap', m, n, D, Pl, hcs, _, hl, hm, hmm, hx, hel⟩
  · simp at hcs
    obtain ⟨rfl, rfl, rfl⟩ := hcs
    exact ⟨[], rfl, ⟨by simp, .inl rfl⟩, fun i hi => absurd hi (by simp), by omega, Nat.le_refl _, fun _ => rfl⟩
  · simp only [List.cons.injEq, Value.slice.injEq, and_true] at hcs
    obtain ⟨rfl, rfl, rfl⟩ := hcs
    simp only [Prod.mk.injEq] at hx
    obtain ⟨rfl, _⟩ := hx
    simp only [if_true] at hmm
    subst hmm
    have hlen : len ≤ 5864062014634 := by
      have h2 := hz ((((List.range len).map D).length + ((List.range (m - len)).map fun j => D (len + j)).length) * Tryd.prog.bytesOf 23) (by simp [DataW.weights, Tryd.underlying27])
      rw [bytesS] at h2
      simp [reachBytes] at h2
      omega
    have hw : ∀ i, i < len → ∀ k ∈ (D i).weights Tryd.prog 23, k ≤ reachBytes := by
      intro i hi k hk
      refine hz k ?_
      have := weightsAll_mem Tryd.prog 23 ((List.range len).map D) (D i) (List.mem_map.2 ⟨i, List.mem_range.2 hi, rfl⟩) k hk
      simp only [DataW.weights, Tryd.underlying27]
      exact List.mem_cons_of_mem _ (List.mem_append_left _ this)
    have hex : ∀ i, i < len → ∃ q : List Int × Option Addr × Nat, (Bytes W q.2.1 q.1 ∧ (q.2.1 = none → q.2.2 = 0) ∧ q.1.length ≤ 140737488351232) ∧ ∀ j, j < 1 → W.cell? ((x.add (i * 1)).add j) = [Value.slice q.2.1 q.1.length q.2.2][j]? := by
      intro i hi
      obtain ⟨cs', hc1, hc2⟩ := hel i (by omega)
      rw [cellsS] at hc1
      obtain ⟨a', len', cap', rfl, _⟩ := open_bytes_cs hc2
      obtain ⟨l, h1, h2, h3, h4⟩ := open_bytes hc2 (hw i hi)
      obtain ⟨_, _, hcell⟩ := World.cells?_some hc1
      exact ⟨(l, a', cap'), ⟨h2, h3, by rw [h1]; exact h4⟩, by rw [h1]; exact hcell⟩
    obtain ⟨L, hL, h1, h2⟩ := recs_list 1 (fun q : List Int × Option Addr × Nat => [Value.slice q.2.1 q.1.length q.2.2]) (fun q => Bytes W q.2.1 q.1 ∧ (q.2.1 = none → q.2.2 = 0) ∧ q.1.length ≤ 140737488351232) W x len hex len (Nat.le_refl _)
    have hrow : ∀ i, i < L.length → row (L.map (·.1)) i = (L.getD i ([], none, 0)).1 := fun i hi => by simp [row, List.getD, hi]
    refine ⟨L.map (·.1), by simp [hL], ⟨by simp [hL]; omega, ?_⟩, fun i hi => ?_, hlen, hl, fun h => (nomatch h)⟩
    rotate_left
    · have hi' : i < L.length := by simpa using hi
      rw [hrow i hi']
      have e : L.getD i ([], none, 0) = L[i] := by simp [List.getD, hi']
      rw [e]
      exact (h1 _ (List.getElem_mem hi')).2.2
    by_cases h0 : len = 0
    · exact .inl (by rw [List.eq_nil_of_length_eq_zero (show L.length = 0 by omega)]; rfl)
    · obtain ⟨q, _, q1⟩ := hex 0 (by omega)
      have c0 := q1 0 (by omega)
      obtain ⟨b, off, spot⟩ := x
      have hspot : spot = none := by
        have := World.cell?_spot (w := W) (show W.cell? _ = some _ from c0)
        simpa [Addr.add] using this
      subst hspot
      refine .inr ⟨b, off, rfl, fun i hi => ?_⟩
      have hi' : i < L.length := by simpa using hi
      have hq : L[i]? = some L[i] := List.getElem?_eq_getElem hi'
      have hc := h2 i _ hq 0 (by omega)
      rw [Addr.add_lit, Addr.add_lit, Nat.mul_one, Nat.add_zero] at hc
      have e : row (L.map (·.1)) i = (L[i]).1 := by simp [row, List.getD, hi']
      rw [e]
      have hh := h1 _ (List.getElem_mem hi')
      exact ⟨_, _, hc, hh.1, hh.2.1⟩
theorem cellsAs : Tryd.prog.cellsOf 43 = 2 := by kernel_rfl
theorem cellsRs : Tryd.prog.cellsOf 27 = 1 := by kernel_rfl
theorem open_rows_cs {H : Type} {enc : TypeId × Value → H} {W : World} {cs : List Value} {d : DataW H} {p : List MemPlace} {fuel : Nat}
    (hf : DataW.trod enc Tryd.prog W 0 (fun _ => true) true fuel 27 cs = some (d, p)) : ∃ a len cap, cs = [.slice a len cap] := by
  rcases Deep.open_slice Tryd.underlying27 hf with ⟨hcs, _⟩ | ⟨x, len', cap', m, n, D, Pl, hcs, _⟩
  · exact ⟨_, _, _, hcs⟩
  · exact ⟨_, _, _, hcs⟩
set_option maxRecDepth 100000 in
theorem okWide_asked {W : World} {base : Nat} {v : Value} (h : Value.okWide Tryd.prog W .any base 43 v) : ∃ cs, v = .agg cs := by
  obtain ⟨cs, h1, _⟩ := okWide_struct Tryd.underlying43 h
  exact ⟨cs, h1⟩
/-- an Asked among the arguments -/
theorem open_asked {H : Type} {enc : TypeId × Value → H} {W : World} {v : Value} {D : DataW H} {Pl : List MemPlace} {fuel : Nat} (hv : ∃ cs, v = .agg cs)
    (hf : DataW.trod enc Tryd.prog W 0 (fun _ => true) true fuel 43 v.cells.toList = some (D, Pl)) (hz : ∀ n ∈ D.weights Tryd.prog 43, n ≤ reachBytes) :
    ∃ sa sn sc da dn dc ns ds, v = .agg #[.slice sa sn sc, .slice da dn dc] ∧ (ns.length = sn ∧ Ints W sa ns ∧ sn ≤ sc ∧ (sa = none → sc = 0) ∧ sn ≤ 17592186043904) ∧ (ds.length = dn ∧ Data W da ds ∧ Small ds ∧ dn ≤ 5864062014634 ∧ dn ≤ dc ∧ (da = none → dc = 0)) := by
  obtain ⟨cs, rfl⟩ := hv
  obtain ⟨xs, m, hm, hx, hlen, hxl, hel⟩ := DataW.trod_struct Tryd.underlying43 hf
  rw [cellsAs] at hlen
  obtain ⟨v0, v1, hcs⟩ := list2 _ hlen
  obtain ⟨x0, x1, rfl⟩ := list2 xs hxl
  rw [hcs] at hel
  have e0 := hel 0 _ rfl
  have e1 := hel 1 _ rfl
  clear hel
  simp [cellsIs, cellsRs] at e0 e1
  obtain ⟨a0, n0, c0, h0, _⟩ := open_ints_cs e0
  obtain ⟨a1, n1, c1, h1⟩ := open_rows_cs e1
  simp at h0 h1
  subst h0 h1
  have hD : D = .agg [x0.1, x1.1] := (Prod.mk.inj hx).1
  subst hD
  have w0 : ∀ n ∈ x0.1.weights Tryd.prog 22, n ≤ reachBytes := fun n hn => hz n (by
    simp only [DataW.weights, Tryd.underlying43, List.map_cons, List.map_nil, DataW.weightsEach]
    exact List.mem_append_left _ hn)
  have w1 : ∀ n ∈ x1.1.weights Tryd.prog 27, n ≤ reachBytes := fun n hn => hz n (by
    simp only [DataW.weights, Tryd.underlying43, List.map_cons, List.map_nil, DataW.weightsEach]
    exact List.mem_append_right _ (List.mem_append_left _ hn))
  obtain ⟨st, s1, s2, _, s3⟩ := open_nums e0 w0
  obtain ⟨sd, t1⟩ := open_rowsS e1 w1
  have hc : cs = #[.slice a0 n0 c0, .slice a1 n1 c1] := by
    cases cs with
    | mk l =>
      have : l = [.slice a0 n0 c0, .slice a1 n1 c1] := hcs
      rw [this]
  exact ⟨a0, n0, c0, a1, n1, c1, st, sd, by rw [hc], ⟨s1, s2, s3⟩, t1⟩
end Go.Proofs.YtpheajiepnjhdaaDoor
