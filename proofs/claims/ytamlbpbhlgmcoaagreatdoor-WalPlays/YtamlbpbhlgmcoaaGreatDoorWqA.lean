import Derived.Test.YtamlbpbhlgmcoaaGreatDoorOpens
import Derived.Test.YtamlbpbhlgmcoaaGreatDoorWpZ
namespace Go.Proofs.YtamlbpbhlgmcoaaGreatDoor
open Rec Go.ChangeShapes Go.WideShapes Go.ChangeAt Go.RowKit

theorem list2q {α : Type} (l : List α) (h : l.length = 2) : ∃ a b, l = [a, b] := by
  match l, h with
  | [a, b], _ => exact ⟨a, b, rfl⟩
theorem list6q {α : Type} (l : List α) (h : l.length = 6) : ∃ a b c d e f, l = [a, b, c, d, e, f] := by
  match l, h with
  | [a, b, c, d, e, f], _ => exact ⟨a, b, c, d, e, f, rfl⟩
theorem list7q {α : Type} (l : List α) (h : l.length = 7) : ∃ a b c d e f g, l = [a, b, c, d, e, f, g] := by
  match l, h with
  | [a, b, c, d, e, f, g], _ => exact ⟨a, b, c, d, e, f, g, rfl⟩
theorem cellsBlkQ : Tryz.prog.cellsOf 58 = 2 := by kernel_rfl
theorem cellsByQ : Tryz.prog.cellsOf 37 = 1 := by kernel_rfl
theorem cellsNQ : Tryz.prog.cellsOf 3 = 1 := by kernel_rfl
theorem cellsBQ : Tryz.prog.cellsOf 4 = 1 := by kernel_rfl
theorem cellsKeQ : Tryz.prog.cellsOf 39 = 1 := by kernel_rfl
theorem cellsCrQ : Tryz.prog.cellsOf 44 = 2 := by kernel_rfl
theorem cellsBksQ : Tryz.prog.cellsOf 42 = 1 := by kernel_rfl
theorem cellsOpQ : Tryz.prog.cellsOf 46 = 7 := by kernel_rfl
theorem bytesBlkQ : Tryz.prog.bytesOf 58 = 32 := by kernel_rfl
theorem bytesBQ : Tryz.prog.bytesOf 4 = 1 := by kernel_rfl
theorem bytesOpQ : Tryz.prog.bytesOf 46 = 104 := by kernel_rfl
/-- one block -/
theorem open_blkQ {H : Type} {enc : TypeId × Value → H} {W : World} {cs : List Value} {D : DataW H} {Pl : List MemPlace} {fuel : Nat}
    (hf : DataW.trod enc Tryz.prog W 0 (fun _ => true) true fuel 58 cs = some (D, Pl)) (hz : ∀ n ∈ D.weights Tryz.prog 58, n ≤ reachBytes) :
    ∃ q : BG, ((Bytes W q.a q.x ∧ (q.a = none → q.c = 0)) ∧ q.x.length ≤ 140737488351232) ∧ cs = [.int .i64 q.n, q.v] := by
  obtain ⟨xs, m, hm, hx, hlen, hxl, hel⟩ := DataW.trod_struct Tryz.underlying58 hf
  rw [cellsBlkQ] at hlen
  obtain ⟨v0, v1, rfl⟩ := list2q cs hlen
  obtain ⟨x0, x1, rfl⟩ := list2q xs hxl
  have e0 := hel 0 _ rfl
  have e1 := hel 1 _ rfl
  clear hel
  simp [cellsNQ, cellsByQ] at e0 e1
  obtain ⟨b, z0, _, _⟩ := DataW.trod_int Tryz.underlying3 e0
  have h2 : ∃ a len cap, [v1] = [Value.slice a len cap] := by
    rcases Deep.open_slice Tryz.underlying37 e1 with ⟨hcs, _⟩ | ⟨x, len', cap', m, n, D, Pl, hcs, _⟩
    · exact ⟨_, _, _, hcs⟩
    · exact ⟨_, _, _, hcs⟩
  obtain ⟨a2, n2, c2, h2⟩ := h2
  simp at z0 h2
  subst z0 h2
  have hD : D = .agg [x0.1, x1.1] := (Prod.mk.inj hx).1
  subst hD
  have w2 : ∀ n ∈ x1.1.weights Tryz.prog 37, n ≤ reachBytes := fun n hn => hz n (by
    simp only [DataW.weights, Tryz.underlying58, List.map_cons, List.map_nil, DataW.weightsEach]
    exact List.mem_append_right _ (List.mem_append_left _ hn))
  obtain ⟨bs, t1, t2, t3, t4⟩ := open_bytes e1 w2
  refine ⟨⟨b, a2, c2, bs⟩, ⟨⟨t2, t3⟩, by show bs.length ≤ _; omega⟩, ?_⟩
  show _ = [Value.int .i64 b, Value.slice a2 bs.length c2]
  rw [t1]
/-- a []Block within the script -/
theorem open_blksQ {H : Type} {enc : TypeId × Value → H} {W : World} {a : Option Addr} {len cap : Nat} {d : DataW H} {p : List MemPlace} {fuel : Nat}
    (hf : DataW.trod enc Tryz.prog W 0 (fun _ => true) true fuel 42 [.slice a len cap] = some (d, p)) (hz : ∀ n ∈ d.weights Tryz.prog 42, n ≤ reachBytes) :
    ∃ L : List BG, BGs W a L ∧ L.length = len ∧ len ≤ 4398046511000 ∧ ∀ q ∈ L, q.x.length ≤ 140737488351232 := by
  rcases Deep.open_slice Tryz.underlying42 hf with ⟨hcs, _⟩ | ⟨x, len', cap', m, n, D, Pl, hcs, _, hl, hm, hmm, hx, hel⟩
  · simp at hcs
    obtain ⟨rfl, rfl, rfl⟩ := hcs
    exact ⟨[], ⟨.inl rfl, fun q h => by simp at h⟩, rfl, by omega, fun q h => by simp at h⟩
  · simp only [List.cons.injEq, Value.slice.injEq, and_true] at hcs
    obtain ⟨rfl, rfl, rfl⟩ := hcs
    simp only [Prod.mk.injEq] at hx
    obtain ⟨rfl, _⟩ := hx
    simp only [if_true] at hmm
    subst hmm
    have hlen : len ≤ 4398046511000 := by
      have h2 := hz ((((List.range len).map D).length + ((List.range (m - len)).map fun j => D (len + j)).length) * Tryz.prog.bytesOf 58) (by simp [DataW.weights, Tryz.underlying42])
      rw [bytesBlkQ] at h2
      simp [reachBytes] at h2
      omega
    have hw : ∀ i, i < len → ∀ k ∈ (D i).weights Tryz.prog 58, k ≤ reachBytes := by
      intro i hi k hk
      refine hz k ?_
      have := weightsAll_mem Tryz.prog 58 ((List.range len).map D) (D i) (List.mem_map.2 ⟨i, List.mem_range.2 hi, rfl⟩) k hk
      simp only [DataW.weights, Tryz.underlying42]
      exact List.mem_cons_of_mem _ (List.mem_append_left _ this)
    have hex : ∀ i, i < len → ∃ q : BG, ((Bytes W q.a q.x ∧ (q.a = none → q.c = 0)) ∧ q.x.length ≤ 140737488351232) ∧ ∀ j, j < 2 → W.cell? ((x.add (i * 2)).add j) = [Value.int .i64 q.n, q.v][j]? := by
      intro i hi
      obtain ⟨cs', hc1, hc2⟩ := hel i (by omega)
      rw [cellsBlkQ] at hc1
      obtain ⟨q, q1, rfl⟩ := open_blkQ hc2 (hw i hi)
      obtain ⟨_, _, hcell⟩ := World.cells?_some hc1
      exact ⟨q, q1, hcell⟩
    obtain ⟨L, hL, h1, h2⟩ := recs_list 2 (fun q : BG => [Value.int .i64 q.n, q.v]) (fun q => (Bytes W q.a q.x ∧ (q.a = none → q.c = 0)) ∧ q.x.length ≤ 140737488351232) W x len hex len (Nat.le_refl _)
    refine ⟨L, ⟨?_, fun q hq => (h1 q hq).1⟩, hL, hlen, fun q hq => (h1 q hq).2⟩
    by_cases h0 : len = 0
    · exact .inl (List.eq_nil_of_length_eq_zero (by omega))
    · obtain ⟨q, _, q1⟩ := hex 0 (by omega)
      have c0 := q1 0 (by omega)
      obtain ⟨b, off, spot⟩ := x
      have hspot : spot = none := by
        have := World.cell?_spot (w := W) (show W.cell? _ = some _ from c0)
        simpa [Addr.add] using this
      subst hspot
      refine .inr ⟨b, off, rfl, fun i q hq => ?_⟩
      have hh := h2 i q hq
      have ad : ∀ j, ((⟨b, off, none⟩ : Addr).add (i * 2)).add j = ⟨b, off + i * 2 + j, none⟩ := fun j => by rw [Addr.add_lit, Addr.add_lit]
      refine ⟨?_, ?_⟩
      · have := hh 0 (by omega); rw [ad] at this; exact this
      · have := hh 1 (by omega); rw [ad] at this; exact this
theorem open_boolsQ {H : Type} {enc : TypeId × Value → H} {W : World} {a : Option Addr} {len cap : Nat} {d : DataW H} {p : List MemPlace} {fuel : Nat}
    (hf : DataW.trod enc Tryz.prog W 0 (fun _ => true) true fuel 39 [.slice a len cap] = some (d, p)) (hz : ∀ n ∈ d.weights Tryz.prog 39, n ≤ reachBytes) :
    ∃ L : List Bool, L.length = len ∧ len ≤ 140737488351232 ∧ (a = none → cap = 0) ∧ Bools W (.slice a len cap) L := by
  rcases Deep.open_slice Tryz.underlying39 hf with ⟨hcs, _⟩ | ⟨x, len', cap', m, n, D, Pl, hcs, _, hl, hm, hmm, hx, hel⟩
  · simp at hcs
    obtain ⟨rfl, rfl, rfl⟩ := hcs
    exact ⟨[], rfl, by omega, fun _ => rfl, _, _, rfl, .inl rfl⟩
  · simp only [List.cons.injEq, Value.slice.injEq, and_true] at hcs
    obtain ⟨rfl, rfl, rfl⟩ := hcs
    simp only [Prod.mk.injEq] at hx
    obtain ⟨rfl, _⟩ := hx
    simp only [if_true] at hmm
    subst hmm
    have hlen : len ≤ 140737488351232 := by
      have h2 := hz ((((List.range len).map D).length + ((List.range (m - len)).map fun j => D (len + j)).length) * Tryz.prog.bytesOf 4) (by simp [DataW.weights, Tryz.underlying39])
      rw [bytesBQ] at h2
      simp [reachBytes] at h2
      omega
    have hex : ∀ i, i < len → ∃ q : Bool, True ∧ ∀ j, j < 1 → W.cell? ((x.add (i * 1)).add j) = [Value.bool q][j]? := by
      intro i hi
      obtain ⟨cs', hc1, hc2⟩ := hel i (by omega)
      rw [cellsBQ] at hc1
      obtain ⟨q, rfl, _⟩ := DataW.trod_bool Tryz.underlying4 hc2
      obtain ⟨_, _, hcell⟩ := World.cells?_some hc1
      exact ⟨q, trivial, hcell⟩
    obtain ⟨L, hL, _, h2⟩ := recs_list 1 (fun q : Bool => [Value.bool q]) (fun _ => True) W x len hex len (Nat.le_refl _)
    refine ⟨L, hL, hlen, fun h => (nomatch h), ⟨_, _, by rw [hL], ?_⟩⟩
    by_cases h0 : len = 0
    · exact .inl (List.eq_nil_of_length_eq_zero (by omega))
    · obtain ⟨q, _, q1⟩ := hex 0 (by omega)
      have c0 := q1 0 (by omega)
      obtain ⟨b, off, spot⟩ := x
      have hspot : spot = none := by
        have := World.cell?_spot (w := W) (show W.cell? _ = some _ from c0)
        simpa [Addr.add] using this
      subst hspot
      refine .inr ⟨b, off, rfl, fun i q hq => ?_⟩
      have hh := h2 i q hq 0 (by omega)
      rw [Addr.add_lit, Addr.add_lit, Nat.mul_one] at hh
      exact hh
/-- a slice's one cell -/
theorem slice_cellQ {H : Type} {enc : TypeId × Value → H} {W : World} {t e : TypeId} (ht : Tryz.prog.underlying t = some (.slice e)) {v : Value} {D : DataW H} {Pl : List MemPlace} {fuel : Nat}
    (hf : DataW.trod enc Tryz.prog W 0 (fun _ => true) true fuel t [v] = some (D, Pl)) : ∃ a len cap, v = Value.slice a len cap := by
  have : ∃ a len cap, [v] = [Value.slice a len cap] := by
    rcases Deep.open_slice ht hf with ⟨hcs, _⟩ | ⟨x, len', cap', m, n, D, Pl, hcs, _⟩
    · exact ⟨_, _, _, hcs⟩
    · exact ⟨_, _, _, hcs⟩
  obtain ⟨a, n, c, h⟩ := this
  simp at h
  exact ⟨a, n, c, h⟩
/-- a cut within the script -/
theorem open_cutQ {H : Type} {enc : TypeId × Value → H} {W : World} {v0 v1 : Value} {D : DataW H} {Pl : List MemPlace} {fuel : Nat}
    (hf : DataW.trod enc Tryz.prog W 0 (fun _ => true) true fuel 44 [v0, v1] = some (D, Pl)) (hz : ∀ n ∈ D.weights Tryz.prog 44, n ≤ reachBytes) :
    ∃ (ca : Int) (ka : Option Addr) (kn kc : Nat) (K : List Bool), v0 = .int .i64 ca ∧ v1 = .slice ka kn kc ∧ ca ≤ 9223372036854775807 ∧ K.length = kn ∧ kn ≤ 140737488351232 ∧ (ka = none → kc = 0) ∧ Bools W (.slice ka kn kc) K := by
  obtain ⟨xs, m, hm, hx, hlen, hxl, hel⟩ := DataW.trod_struct Tryz.underlying44 hf
  obtain ⟨x0, x1, rfl⟩ := list2q xs hxl
  have e0 := hel 0 _ rfl
  have e1 := hel 1 _ rfl
  clear hel
  simp [cellsNQ, cellsKeQ] at e0 e1
  have hD : D = .agg [x0.1, x1.1] := (Prod.mk.inj hx).1
  subst hD
  have w1 : ∀ n ∈ x1.1.weights Tryz.prog 39, n ≤ reachBytes := fun n hn => hz n (by
    simp only [DataW.weights, Tryz.underlying44, List.map_cons, List.map_nil, DataW.weightsEach]
    exact List.mem_append_right _ (List.mem_append_left _ hn))
  obtain ⟨b, z0, _, wx⟩ := DataW.trod_int Tryz.underlying3 e0
  obtain ⟨a, n, c, rfl⟩ := slice_cellQ Tryz.underlying39 e1
  simp at z0
  subst z0
  obtain ⟨K, s1, s2, s3, s4⟩ := open_boolsQ e1 w1
  exact ⟨b, a, n, c, K, rfl, rfl, (wf_i64 wx).2, s1, s2, s3, s4⟩
/-- one op of the script -/
theorem open_opQ {H : Type} {enc : TypeId × Value → H} {W : World} {cs : List Value} {D : DataW H} {Pl : List MemPlace} {fuel : Nat}
    (hf : DataW.trod enc Tryz.prog W 0 (fun _ => true) true fuel 46 cs = some (D, Pl)) (hz : ∀ n ∈ D.weights Tryz.prog 46, n ≤ reachBytes) :
    ∃ q : OpR, OpIn W q ∧ cs = q.cs.toList := by
  obtain ⟨xs, m, hm, hx, hlen, hxl, hel⟩ := DataW.trod_struct Tryz.underlying46 hf
  rw [cellsOpQ] at hlen
  obtain ⟨v0, v1, v2, v3, v4, v5, v6, rfl⟩ := list7q cs hlen
  obtain ⟨x0, x1, x2, x3, x4, x5, rfl⟩ := list6q xs hxl
  have e0 := hel 0 _ rfl
  have e1 := hel 1 _ rfl
  have e2 := hel 2 _ rfl
  have e3 := hel 3 _ rfl
  have e4 := hel 4 _ rfl
  have e5 := hel 5 _ rfl
  clear hel
  simp [cellsNQ, cellsByQ, cellsBksQ, cellsCrQ, cells5] at e0 e1 e2 e3 e4 e5
  obtain ⟨kd, z0, _, _⟩ := DataW.trod_int Tryz.underlying3 e0
  obtain ⟨at_, z2, _, _⟩ := DataW.trod_int Tryz.underlying3 e2
  obtain ⟨by_, z3, _, w3⟩ := DataW.trod_int Tryz.underlying5 e3
  obtain ⟨a1, n1, c1, rfl⟩ := slice_cellQ Tryz.underlying42 e1
  obtain ⟨a4, n4, c4, rfl⟩ := slice_cellQ Tryz.underlying37 e4
  simp at z0 z2 z3
  subst z0 z2 z3
  have hD : D = .agg [x0.1, x1.1, x2.1, x3.1, x4.1, x5.1] := (Prod.mk.inj hx).1
  subst hD
  have y1 : ∀ n ∈ x1.1.weights Tryz.prog 42, n ≤ reachBytes := fun n hn => hz n (by
    simp only [DataW.weights, Tryz.underlying46, List.map_cons, List.map_nil, DataW.weightsEach]
    exact List.mem_append_right _ (List.mem_append_left _ hn))
  have y4 : ∀ n ∈ x4.1.weights Tryz.prog 37, n ≤ reachBytes := fun n hn => hz n (by
    simp only [DataW.weights, Tryz.underlying46, List.map_cons, List.map_nil, DataW.weightsEach]
    exact List.mem_append_right _ (List.mem_append_right _ (List.mem_append_right _ (List.mem_append_right _ (List.mem_append_left _ hn)))))
  have y5 : ∀ n ∈ x5.1.weights Tryz.prog 44, n ≤ reachBytes := fun n hn => hz n (by
    simp only [DataW.weights, Tryz.underlying46, List.map_cons, List.map_nil, DataW.weightsEach]
    exact List.mem_append_right _ (List.mem_append_right _ (List.mem_append_right _ (List.mem_append_right _ (List.mem_append_right _ (List.mem_append_left _ hn))))))
  obtain ⟨L, l1, l2, l3, l4⟩ := open_blksQ e1 y1
  obtain ⟨bs, t1, t2, _, _⟩ := open_bytes e4 y4
  obtain ⟨ca, ka, kn, kc, K, rfl, rfl, k1, k2, k3, k4, k5⟩ := open_cutQ e5 y5
  exact ⟨⟨kd, a1, n1, c1, at_, by_, a4, n4, c4, ca, ka, kn, kc, L, bs, K⟩, ⟨l1, l2, l3, l4, wf_u8 w3, t2, t1, k1, k5, k2, k4, k3⟩, rfl⟩
/-- the script among the arguments -/
theorem open_scriptQ {H : Type} {enc : TypeId × Value → H} {W : World} {a : Option Addr} {len cap : Nat} {d : DataW H} {p : List MemPlace} {fuel : Nat}
    (hf : DataW.trod enc Tryz.prog W 0 (fun _ => true) true fuel 22 [.slice a len cap] = some (d, p)) (hz : ∀ n ∈ d.weights Tryz.prog 22, n ≤ reachBytes) :
    ∃ L : List OpR, L.length = len ∧ SrAt W a L ∧ len ≤ 140737488351232 := by
  rcases Deep.open_slice Tryz.underlying22 hf with ⟨hcs, _⟩ | ⟨x, len', cap', m, n, D, Pl, hcs, _, hl, hm, hmm, hx, hel⟩
  · simp at hcs
    obtain ⟨rfl, rfl, rfl⟩ := hcs
    exact ⟨[], rfl, ⟨.inl rfl, fun q h => by simp at h⟩, by omega⟩
  · simp only [List.cons.injEq, Value.slice.injEq, and_true] at hcs
    obtain ⟨rfl, rfl, rfl⟩ := hcs
    simp only [Prod.mk.injEq] at hx
    obtain ⟨rfl, _⟩ := hx
    simp only [if_true] at hmm
    subst hmm
    have hlen : len ≤ 140737488351232 := by
      have h2 := hz ((((List.range len).map D).length + ((List.range (m - len)).map fun j => D (len + j)).length) * Tryz.prog.bytesOf 46) (by simp [DataW.weights, Tryz.underlying22])
      rw [bytesOpQ] at h2
      simp [reachBytes] at h2
      omega
    have hw : ∀ i, i < len → ∀ k ∈ (D i).weights Tryz.prog 46, k ≤ reachBytes := by
      intro i hi k hk
      refine hz k ?_
      have := weightsAll_mem Tryz.prog 46 ((List.range len).map D) (D i) (List.mem_map.2 ⟨i, List.mem_range.2 hi, rfl⟩) k hk
      simp only [DataW.weights, Tryz.underlying22]
      exact List.mem_cons_of_mem _ (List.mem_append_left _ this)
    have hex : ∀ i, i < len → ∃ q : OpR, OpIn W q ∧ ∀ j, j < 7 → W.cell? ((x.add (i * 7)).add j) = q.cs.toList[j]? := by
      intro i hi
      obtain ⟨cs', hc1, hc2⟩ := hel i (by omega)
      rw [cellsOpQ] at hc1
      obtain ⟨q, q1, rfl⟩ := open_opQ hc2 (hw i hi)
      obtain ⟨_, _, hcell⟩ := World.cells?_some hc1
      exact ⟨q, q1, hcell⟩
    obtain ⟨L, hL, h1, h2⟩ := recs_list 7 (fun q : OpR => q.cs.toList) (OpIn W) W x len hex len (Nat.le_refl _)
    refine ⟨L, hL, ⟨?_, h1⟩, hlen⟩
    by_cases h0 : len = 0
    · exact .inl (List.eq_nil_of_length_eq_zero (by omega))
    · obtain ⟨q, _, q1⟩ := hex 0 (by omega)
      have c0 := q1 0 (by omega)
      obtain ⟨b, off, spot⟩ := x
      have hspot : spot = none := by
        have := World.cell?_spot (w := W) (show W.cell? _ = some _ from c0)
        simpa [Addr.add] using this
      subst hspot
      refine .inr ⟨b, off, rfl, fun i q hq j hj => ?_⟩
      have hh := h2 i q hq j hj
      have ad : ∀ j, ((⟨b, off, none⟩ : Addr).add (i * 7)).add j = ⟨b, off + i * 7 + j, none⟩ := fun j => by rw [Addr.add_lit, Addr.add_lit]
      rw [ad] at hh
      rw [hh, Array.getElem?_toList]
end Go.Proofs.YtamlbpbhlgmcoaaGreatDoor
