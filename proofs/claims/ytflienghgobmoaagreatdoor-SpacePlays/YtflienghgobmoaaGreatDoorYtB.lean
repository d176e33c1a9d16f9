import Derived.Test.YtflienghgobmoaaGreatDoorKOpens
import Derived.Test.YtflienghgobmoaaGreatDoorKSpK
namespace Go.Proofs.YtflienghgobmoaaGreatDoor
open Rec Go.ChangeShapes Go.WideShapes Go.ChangeAt Go.RowKit
theorem list3Z {α : Type} (l : List α) (h : l.length = 3) : ∃ a b c, l = [a, b, c] := by
  match l, h with
  | [a, b, c], _ => exact ⟨a, b, c, rfl⟩
theorem list4Z {α : Type} (l : List α) (h : l.length = 4) : ∃ a b c d, l = [a, b, c, d] := by
  match l, h with
  | [a, b, c, d], _ => exact ⟨a, b, c, d, rfl⟩
theorem cellsCsZ : Tryz.prog.cellsOf 25 = 4 := by kernel_rfl
theorem cellsBsZ : Tryz.prog.cellsOf 22 = 1 := by kernel_rfl
theorem cellsOsZ : Tryz.prog.cellsOf 23 = 1 := by kernel_rfl
theorem cellsOpZ : Tryz.prog.cellsOf 46 = 3 := by kernel_rfl
theorem cellsIZ : Tryz.prog.cellsOf 3 = 1 := by kernel_rfl
theorem cellsUZ : Tryz.prog.cellsOf 5 = 1 := by kernel_rfl
/-- a step among the arguments -/
theorem open_opZ {H : Type} {enc : TypeId × Value → H} {W : World} {cs : List Value} {D : DataW H} {Pms : List MemPlace} {fuel : Nat}
    (hf : DataW.trod enc Tryz.prog W 0 (fun _ => true) true fuel 46 cs = some (D, Pms)) : ∃ q : OpZ, OpZIn q ∧ cs = q.cs.toList := by
  obtain ⟨xs, m, hm, hx, hlen, hxl, hel⟩ := DataW.trod_struct Tryz.underlying46 hf
  rw [cellsOpZ] at hlen
  obtain ⟨v0, v1, v2, rfl⟩ := list3Z _ hlen
  obtain ⟨x0, x1, x2, rfl⟩ := list3Z xs hxl
  have e0 := hel 0 _ rfl
  have e1 := hel 1 _ rfl
  have e2 := hel 2 _ rfl
  clear hel
  simp [cellsIZ, cellsUZ] at e0 e1 e2
  obtain ⟨k, z0, _, w0⟩ := DataW.trod_int Tryz.underlying3 e0
  obtain ⟨n, z1, _, w1⟩ := DataW.trod_int Tryz.underlying3 e1
  obtain ⟨x, z2, _, w2⟩ := DataW.trod_int Tryz.underlying5 e2
  simp at z0 z1 z2
  subst z0 z1 z2
  exact ⟨⟨k, n, x⟩, ⟨wf_i64 w1, wf_u8 w2⟩, rfl⟩
/-- the script among the arguments -/
theorem open_scriptZ {H : Type} {enc : TypeId × Value → H} {W : World} {a : Option Addr} {len cap : Nat} {d : DataW H} {p : List MemPlace} {fuel : Nat}
    (hf : DataW.trod enc Tryz.prog W 0 (fun _ => true) true fuel 23 [.slice a len cap] = some (d, p)) : ∃ L : List OpZ, L.length = len ∧ SrZ W a L := by
  rcases Deep.open_slice Tryz.underlying23 hf with ⟨hcs, _⟩ | ⟨x, len', cap', m, n, D, Pms, hcs, _, hl, hm, hmm, hx, hel⟩
  · simp at hcs
    obtain ⟨rfl, rfl, rfl⟩ := hcs
    exact ⟨[], rfl, ⟨.inl rfl, fun q h => by simp at h⟩⟩
  · simp only [List.cons.injEq, Value.slice.injEq, and_true] at hcs
    obtain ⟨rfl, rfl, rfl⟩ := hcs
    simp only [if_true] at hmm
    subst hmm
    have hex : ∀ i, i < len → ∃ q : OpZ, OpZIn q ∧ ∀ j, j < 3 → W.cell? ((x.add (i * 3)).add j) = q.cs.toList[j]? := by
      intro i hi
      obtain ⟨cs', hc1, hc2⟩ := hel i (by omega)
      rw [cellsOpZ] at hc1
      obtain ⟨q, q1, rfl⟩ := open_opZ hc2
      obtain ⟨_, _, hcell⟩ := World.cells?_some hc1
      exact ⟨q, q1, hcell⟩
    obtain ⟨L, hL, h1, h2⟩ := recs_list 3 (fun q : OpZ => q.cs.toList) OpZIn W x len hex len (Nat.le_refl _)
    refine ⟨L, hL, ⟨?_, h1⟩⟩
    by_cases h0 : len = 0
    · exact .inl (List.eq_nil_of_length_eq_zero (by omega))
    · obtain ⟨q, _, q1⟩ := hex 0 (by omega)
      have c0 := q1 0 (by omega)
      obtain ⟨b, off, spot⟩ := x
      have hspot : spot = none := by
        have := World.cell?_spot (w := W) (show W.cell? _ = some _ from c0)
        simpa [Addr.add] using this
      subst hspot
      refine .inr ⟨b, off, rfl, fun i q hq j hj => ?_⟩
      have hh := h2 i q hq j hj
      have ad : ∀ j, ((⟨b, off, none⟩ : Addr).add (i * 3)).add j = ⟨b, off + i * 3 + j, none⟩ := fun j => by rw [Addr.add_lit, Addr.add_lit]
      rw [ad] at hh
      rw [hh, Array.getElem?_toList]
set_option maxRecDepth 100000 in
theorem okWideZ {W : World} {base : Nat} {v : Value} (h : Value.okWide Tryz.prog W .any base 25 v) : ∃ cs, v = .agg cs := by
  obtain ⟨cs, h1, _⟩ := okWide_struct Tryz.underlying25 h
  exact ⟨cs, h1⟩
/-- a Case among the arguments -/
theorem open_caseZ {H : Type} {enc : TypeId × Value → H} {W : World} {v : Value} {D : DataW H} {Pms : List MemPlace} {fuel : Nat} (hv : ∃ cs, v = .agg cs)
    (hf : DataW.trod enc Tryz.prog W 0 (fun _ => true) true fuel 25 v.cells.toList = some (D, Pms)) (hz : ∀ n ∈ D.weights Tryz.prog 25, n ≤ reachBytes) :
    ∃ (N : Int) (ba : Option Addr) (bl bc : Nat) (r : Int) (sa : Option Addr) (sl sc : Nat) (bs : List Int) (L : List OpZ), v = .agg #[.int .i64 N, .slice ba bl bc, .int .u8 r, .slice sa sl sc] ∧ (-9223372036854775808 ≤ N ∧ N ≤ 9223372036854775807) ∧ (0 ≤ r ∧ r < 256) ∧ Bytes W ba bs ∧ bs.length = bl ∧ SrZ W sa L ∧ L.length = sl := by
  obtain ⟨cs, rfl⟩ := hv
  obtain ⟨xs, m, hm, hx, hlen, hxl, hel⟩ := DataW.trod_struct Tryz.underlying25 hf
  rw [cellsCsZ] at hlen
  obtain ⟨v0, v1, v2, v3, hcs⟩ := list4Z _ hlen
  obtain ⟨x0, x1, x2, x3, rfl⟩ := list4Z xs hxl
  rw [hcs] at hel
  have e0 := hel 0 _ rfl
  have e1 := hel 1 _ rfl
  have e2 := hel 2 _ rfl
  have e3 := hel 3 _ rfl
  clear hel
  simp [cellsIZ, cellsUZ, cellsBsZ, cellsOsZ] at e0 e1 e2 e3
  obtain ⟨N, z0, _, w0⟩ := DataW.trod_int Tryz.underlying3 e0
  obtain ⟨r, z2, _, w2⟩ := DataW.trod_int Tryz.underlying5 e2
  have h1 : ∃ a len cap, [v1] = [Value.slice a len cap] := by
    rcases Deep.open_slice Tryz.underlying22 e1 with ⟨hcs, _⟩ | ⟨x, l, c, m, n, D, Pms, hcs, _⟩
    · exact ⟨_, _, _, hcs⟩
    · exact ⟨_, _, _, hcs⟩
  have h3 : ∃ a len cap, [v3] = [Value.slice a len cap] := by
    rcases Deep.open_slice Tryz.underlying23 e3 with ⟨hcs, _⟩ | ⟨x, l, c, m, n, D, Pms, hcs, _⟩
    · exact ⟨_, _, _, hcs⟩
    · exact ⟨_, _, _, hcs⟩
  obtain ⟨a1, n1, c1, h1⟩ := h1
  obtain ⟨a3, n3, c3, h3⟩ := h3
  simp at z0 z2 h1 h3
  subst z0 z2 h1 h3
  have hD : D = .agg [x0.1, x1.1, x2.1, x3.1] := (Prod.mk.inj hx).1
  subst hD
  have w1 : ∀ n ∈ x1.1.weights Tryz.prog 22, n ≤ reachBytes := fun n hn => hz n (by
    simp only [DataW.weights, Tryz.underlying25, List.map_cons, List.map_nil, DataW.weightsEach]
    exact List.mem_append_right _ (List.mem_append_left _ hn))
  obtain ⟨bs, t1, t2, _⟩ := open_bytes e1 w1
  obtain ⟨L, l1, l2⟩ := open_scriptZ e3
  have hc : cs = #[.int .i64 N, .slice a1 n1 c1, .int .u8 r, .slice a3 n3 c3] := by
    cases cs with
    | mk l =>
      have : l = [.int .i64 N, .slice a1 n1 c1, .int .u8 r, .slice a3 n3 c3] := hcs
      rw [this]
  exact ⟨N, a1, n1, c1, r, a3, n3, c3, bs, L, by rw [hc], wf_i64 w0, wf_u8 w2, t2, t1, l2, l1⟩
end Go.Proofs.YtflienghgobmoaaGreatDoor
