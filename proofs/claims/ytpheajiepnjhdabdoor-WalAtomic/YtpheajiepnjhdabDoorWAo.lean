import Derived.Test.YtpheajiepnjhdabDoorKEight
import Derived.Test.YtpheajiepnjhdabDoorKWAm
import Derived.OpenShut
namespace Go.Proofs.YtpheajiepnjhdabDoor
open Rec Go.ChangeShapes Go.WideShapes Go.ChangeAt Go.RowKit

theorem wf_i64c {x : Int} (h : (Lit.int .i64 x).wf = true) : -9223372036854775808 ≤ x ∧ x ≤ 9223372036854775807 := by
  have hmin : IntKind.i64.min = -9223372036854775808 := rfl
  have hmax : IntKind.i64.max = 9223372036854775807 := rfl
  simp only [Lit.wf, Bool.and_eq_true, decide_eq_true_eq] at h
  omega
theorem list2a {α : Type} (l : List α) (h : l.length = 2) : ∃ a b, l = [a, b] := by
  match l, h with
  | [a, b], _ => exact ⟨a, b, rfl⟩
theorem cellsPtA : Tryd.prog.cellsOf 64 = 2 := by kernel_rfl
theorem cellsIntA : Tryd.prog.cellsOf 3 = 1 := by kernel_rfl
theorem bytesPtA : Tryd.prog.bytesOf 64 = 16 := by kernel_rfl
theorem cellsPsA : Tryd.prog.cellsOf 22 = 1 := by kernel_rfl
theorem cellsP2A : Tryd.prog.cellsOf 23 = 2 := by kernel_rfl
theorem cellsBoA : Tryd.prog.cellsOf 4 = 1 := by kernel_rfl
theorem bytesBoA : Tryd.prog.bytesOf 4 = 1 := by kernel_rfl
theorem cellsBsA : Tryd.prog.cellsOf 24 = 1 := by kernel_rfl
theorem cellsCrA : Tryd.prog.cellsOf 26 = 2 := by kernel_rfl
theorem bytesCrA : Tryd.prog.bytesOf 26 = 32 := by kernel_rfl
/-- one put -/
theorem open_ptA {H : Type} {enc : TypeId × Value → H} {W : World} {cs : List Value} {D : DataW H} {Pl : List MemPlace} {fuel : Nat}
    (hf : DataW.trod enc Tryd.prog W 0 (fun _ => true) true fuel 64 cs = some (D, Pl)) :
    ∃ q : Int × Int, (0 ≤ q.2 ∧ q.2 < 256) ∧ cs = [.int .i64 q.1, .int .u8 q.2] := by
  obtain ⟨xs, m, _, hx, hlen, hxl, hel⟩ := DataW.trod_struct Tryd.underlying64 hf
  rw [cellsPtA] at hlen
  obtain ⟨v0, v1, rfl⟩ := list2a cs hlen
  obtain ⟨x0, x1, rfl⟩ := list2a xs hxl
  have e0 := hel 0 _ rfl
  have e1 := hel 1 _ rfl
  clear hel
  simp [cellsIntA, cells5] at e0 e1
  obtain ⟨b, z0, _, _⟩ := DataW.trod_int Tryd.underlying3 e0
  obtain ⟨x, z1, _, wx⟩ := DataW.trod_int Tryd.underlying5 e1
  simp at z0 z1
  subst z0 z1
  exact ⟨⟨b, x⟩, wf_u8 wx, rfl⟩
/-- a []Put -/
theorem open_ptsA {H : Type} {enc : TypeId × Value → H} {W : World} {cs : List Value} {d : DataW H} {p : List MemPlace} {fuel : Nat}
    (hf : DataW.trod enc Tryd.prog W 0 (fun _ => true) true fuel 22 cs = some (d, p)) (hz : ∀ n ∈ d.weights Tryd.prog 22, n ≤ reachBytes) :
    ∃ (a : Option Addr) (cap : Nat) (L : List (Int × Int)), cs = [.slice a L.length cap] ∧ PtsAt W a L := by
  rcases Deep.open_slice Tryd.underlying22 hf with ⟨hcs, _⟩ | ⟨x, len, cap, m, n, D, Pl, hcs, _, hl, hm, hmm, hx, hel⟩
  · exact ⟨none, 0, [], hcs, ⟨by simp, .inl rfl⟩⟩
  · simp only [Prod.mk.injEq] at hx
    obtain ⟨rfl, _⟩ := hx
    simp only [if_true] at hmm
    subst hmm
    have hlen : len ≤ 1000000000000000 := by
      have h2 := hz ((((List.range len).map D).length + ((List.range (m - len)).map fun j => D (len + j)).length) * Tryd.prog.bytesOf 64) (by simp [DataW.weights, Tryd.underlying22])
      rw [bytesPtA] at h2
      simp [reachBytes] at h2
      omega
    have hex : ∀ i, i < len → ∃ q : Int × Int, (0 ≤ q.2 ∧ q.2 < 256) ∧ ∀ j, j < 2 → W.cell? ((x.add (i * 2)).add j) = [Value.int .i64 q.1, .int .u8 q.2][j]? := by
      intro i hi
      obtain ⟨cs', hc1, hc2⟩ := hel i (by omega)
      rw [cellsPtA] at hc1
      obtain ⟨q, q1, rfl⟩ := open_ptA hc2
      obtain ⟨_, _, hcell⟩ := World.cells?_some hc1
      exact ⟨q, q1, hcell⟩
    obtain ⟨L, hL, h1, h2⟩ := recs_list 2 (fun q : Int × Int => [Value.int .i64 q.1, .int .u8 q.2]) (fun q => 0 ≤ q.2 ∧ q.2 < 256) W x len hex len (Nat.le_refl _)
    refine ⟨some x, m, L, by rw [hL]; exact hcs, ⟨by omega, ?_⟩⟩
    by_cases h0 : len = 0
    · exact .inl (List.eq_nil_of_length_eq_zero (by omega))
    · obtain ⟨q, _, q1⟩ := hex 0 (by omega)
      have c0 := q1 0 (by omega)
      obtain ⟨b, off, spot⟩ := x
      have hspot : spot = none := by
        have := World.cell?_spot (w := W) (show W.cell? _ = some _ from c0)
        simpa [Addr.add] using this
      subst hspot
      refine .inr ⟨b, off, rfl, fun i q hq => ?_⟩
      have hh := h2 i q hq
      have ad : ∀ j, ((⟨b, off, none⟩ : Addr).add (i * 2)).add j = ⟨b, off + i * 2 + j, none⟩ := fun j => by rw [Addr.add_lit, Addr.add_lit]
      refine ⟨?_, ?_, h1 q (List.mem_of_getElem? hq)⟩
      · have := hh 0 (by omega); rw [ad] at this; exact this
      · have := hh 1 (by omega); rw [ad] at this; exact this
/-- a [2][]Put among the arguments -/
theorem open_two {H : Type} {enc : TypeId × Value → H} {W : World} {cs : Array Value} {D : DataW H} {Pl : List MemPlace} {fuel : Nat}
    (hf : DataW.trod enc Tryd.prog W 0 (fun _ => true) true fuel 23 (Value.agg cs).cells.toList = some (D, Pl)) (hz : ∀ n ∈ D.weights Tryd.prog 23, n ≤ reachBytes) :
    ∃ a0 c0 P0 a1 c1 P1, cs = #[.slice a0 (List.length P0) c0, .slice a1 (List.length P1) c1] ∧ PtsAt W a0 P0 ∧ PtsAt W a1 P1 := by
  obtain ⟨xs, m, hm, hx, hlen, hxl, hel⟩ := DataW.trod_array Tryd.underlying23 hf
  rw [cellsP2A] at hlen
  obtain ⟨v0, v1, hcs⟩ := list2a _ hlen
  obtain ⟨x0, x1, rfl⟩ := list2a xs hxl
  rw [hcs] at hel
  have e0 := hel 0 (by omega)
  have e1 := hel 1 (by omega)
  clear hel
  simp [cellsPsA] at e0 e1
  have hD : D = .agg [x0.1, x1.1] := (Prod.mk.inj hx).1
  subst hD
  have w0 : ∀ n ∈ x0.1.weights Tryd.prog 22, n ≤ reachBytes := fun n hn => hz n (by
    simp only [DataW.weights, Tryd.underlying23]
    exact weightsAll_mem _ _ _ x0.1 (.head _) n hn)
  have w1 : ∀ n ∈ x1.1.weights Tryd.prog 22, n ≤ reachBytes := fun n hn => hz n (by
    simp only [DataW.weights, Tryd.underlying23]
    exact weightsAll_mem _ _ _ x1.1 (.tail _ (.head _)) n hn)
  obtain ⟨a0, c0, P0, z0, p0⟩ := open_ptsA e0 w0
  obtain ⟨a1, c1, P1, z1, p1⟩ := open_ptsA e1 w1
  simp at z0 z1
  subst z0 z1
  refine ⟨a0, c0, P0, a1, c1, P1, ?_, p0, p1⟩
  cases cs with
  | mk l =>
    have : l = _ := hcs
    rw [this]
/-- a crash that is handed in -/
structure CrR where
  t : Int
  a : Option Addr
  c : Nat
  keep : List Bool
structure CrOk (w : World) (q : CrR) : Prop where
  bools : Bools w (.slice q.a q.keep.length q.c) q.keep
  nil : q.a = none → q.c = 0
  len : q.keep.length ≤ 140737488351232
  lo : -9223372036854775808 ≤ q.t
  hi : q.t ≤ 9223372036854775807
theorem CrOk.on {w w' : World} {q : CrR} (h : CrOk w q) (hb : Below w.heap.size w w') : CrOk w' q := ⟨h.bools.on hb, h.nil, h.len, h.lo, h.hi⟩
def CrR.cells (q : CrR) : List Value := [.int .i64 q.t, .slice q.a q.keep.length q.c]
structure CrsAt (w : World) (a : Option Addr) (C : List CrR) : Prop where
  len : C.length ≤ 1000000000000000
  at_ : C = [] ∨ ∃ b off, a = some ⟨b, off, none⟩ ∧ ∀ i q, C[i]? = some q → w.cell? ⟨b, off + i * 2, none⟩ = some (.int .i64 q.t) ∧ w.cell? ⟨b, off + i * 2 + 1, none⟩ = some (.slice q.a q.keep.length q.c) ∧ CrOk w q
theorem CrsAt.on {w w' : World} {a : Option Addr} {C : List CrR} (h : CrsAt w a C) (hb : Below w.heap.size w w') : CrsAt w' a C := by
  refine ⟨h.len, ?_⟩
  rcases h.at_ with e | ⟨b, off, e, hc⟩
  · exact .inl e
  · refine .inr ⟨b, off, e, fun i q hq => ?_⟩
    obtain ⟨h1, h2, h3⟩ := hc i q hq
    exact ⟨(hb.cell (block_lt_of_cell h1)).trans h1, (hb.cell (block_lt_of_cell h2)).trans h2, h3.on hb⟩
/-- a []bool -/
theorem open_boolsA {H : Type} {enc : TypeId × Value → H} {W : World} {cs : List Value} {d : DataW H} {p : List MemPlace} {fuel : Nat}
    (hf : DataW.trod enc Tryd.prog W 0 (fun _ => true) true fuel 24 cs = some (d, p)) (hz : ∀ n ∈ d.weights Tryd.prog 24, n ≤ reachBytes) :
    ∃ (a : Option Addr) (cap : Nat) (L : List Bool), cs = [.slice a L.length cap] ∧ L.length ≤ 140737488351232 ∧ (a = none → cap = 0) ∧ Bools W (.slice a L.length cap) L := by
  rcases Deep.open_slice Tryd.underlying24 hf with ⟨hcs, _⟩ | ⟨x, len, cap, m, n, D, Pl, hcs, _, hl, hm, hmm, hx, hel⟩
  · exact ⟨none, 0, [], hcs, by simp, fun _ => rfl, _, _, rfl, .inl rfl⟩
  · simp only [Prod.mk.injEq] at hx
    obtain ⟨rfl, _⟩ := hx
    simp only [if_true] at hmm
    subst hmm
    have hlen : len ≤ 140737488351232 := by
      have h2 := hz ((((List.range len).map D).length + ((List.range (m - len)).map fun j => D (len + j)).length) * Tryd.prog.bytesOf 4) (by simp [DataW.weights, Tryd.underlying24])
      rw [bytesBoA] at h2
      simp [reachBytes] at h2
      omega
    have hex : ∀ i, i < len → ∃ q : Bool, True ∧ ∀ j, j < 1 → W.cell? ((x.add (i * 1)).add j) = [Value.bool q][j]? := by
      intro i hi
      obtain ⟨cs', hc1, hc2⟩ := hel i (by omega)
      rw [cellsBoA] at hc1
      obtain ⟨q, rfl, _⟩ := DataW.trod_bool Tryd.underlying4 hc2
      obtain ⟨_, _, hcell⟩ := World.cells?_some hc1
      exact ⟨q, trivial, hcell⟩
    obtain ⟨L, hL, _, h2⟩ := recs_list 1 (fun q : Bool => [Value.bool q]) (fun _ => True) W x len hex len (Nat.le_refl _)
    refine ⟨some x, m, L, by rw [hL]; exact hcs, by omega, fun h => (nomatch h), ⟨_, _, rfl, ?_⟩⟩
    by_cases h0 : len = 0
    · exact .inl (List.eq_nil_of_length_eq_zero (by omega))
    · obtain ⟨q, _, q1⟩ := hex 0 (by omega)
      have c0 := q1 0 (by omega)
      obtain ⟨b, off, spot⟩ := x
      have hspot : spot = none := by
        have := World.cell?_spot (w := W) (show W.cell? _ = some _ from c0)
        simpa [Addr.add] using this
      subst hspot
      refine .inr ⟨b, off, rfl, fun i q hq => ?_⟩
      have hh := h2 i q hq 0 (by omega)
      rw [Addr.add_lit, Addr.add_lit, Nat.mul_one] at hh
      exact hh
/-- an api.Crash -/
theorem open_crash {H : Type} {enc : TypeId × Value → H} {W : World} {cs : List Value} {D : DataW H} {Pl : List MemPlace} {fuel : Nat}
    (hf : DataW.trod enc Tryd.prog W 0 (fun _ => true) true fuel 26 cs = some (D, Pl)) (hz : ∀ n ∈ D.weights Tryd.prog 26, n ≤ reachBytes) :
    ∃ q : CrR, CrOk W q ∧ cs = q.cells := by
  obtain ⟨xs, m, _, hx, hlen, hxl, hel⟩ := DataW.trod_struct Tryd.underlying26 hf
  rw [cellsCrA] at hlen
  obtain ⟨v0, v1, rfl⟩ := list2a cs hlen
  obtain ⟨x0, x1, rfl⟩ := list2a xs hxl
  have e0 := hel 0 _ rfl
  have e1 := hel 1 _ rfl
  clear hel
  simp [cellsIntA, cellsBsA] at e0 e1
  have hD : D = .agg [x0.1, x1.1] := (Prod.mk.inj hx).1
  subst hD
  have w1 : ∀ n ∈ x1.1.weights Tryd.prog 24, n ≤ reachBytes := fun n hn => hz n (by
    simp only [DataW.weights, Tryd.underlying26, List.map_cons, List.map_nil, DataW.weightsEach]
    exact List.mem_append_right _ (List.mem_append_left _ hn))
  obtain ⟨b, z0, _, wx⟩ := DataW.trod_int Tryd.underlying3 e0
  obtain ⟨a, cap, L, z1, l1, l2, l3⟩ := open_boolsA e1 w1
  simp at z0 z1
  subst z0 z1
  have := wf_i64c wx
  exact ⟨⟨b, a, cap, L⟩, ⟨l3, l2, l1, this.1, this.2⟩, rfl⟩
set_option maxRecDepth 100000 in
theorem okWide_two {W : World} {base : Nat} {v : Value} (h : Value.okWide Tryd.prog W .any base 23 v) : ∃ cs, v = .agg cs := by
  simp only [Value.okWide, Tryd.underlying23] at h
  obtain ⟨cs, h1, _⟩ := h
  exact ⟨cs, h1⟩
set_option maxRecDepth 100000 in
theorem okWide_crash {W : World} {base : Nat} {v : Value} (h : Value.okWide Tryd.prog W .any base 26 v) : ∃ cs, v = .agg cs := by
  obtain ⟨cs, h1, _⟩ := okWide_struct Tryd.underlying26 h
  exact ⟨cs, h1⟩
theorem open_crashV {H : Type} {enc : TypeId × Value → H} {W : World} {cs : Array Value} {D : DataW H} {Pl : List MemPlace} {fuel : Nat}
    (hf : DataW.trod enc Tryd.prog W 0 (fun _ => true) true fuel 26 (Value.agg cs).cells.toList = some (D, Pl)) (hz : ∀ n ∈ D.weights Tryd.prog 26, n ≤ reachBytes) :
    ∃ q : CrR, CrOk W q ∧ cs = #[.int .i64 q.t, .slice q.a q.keep.length q.c] := by
  obtain ⟨q, h1, h2⟩ := open_crash hf hz
  refine ⟨q, h1, ?_⟩
  cases cs with
  | mk l =>
    have : l = q.cells := h2
    rw [this]; rfl
/-- a []api.Crash among the arguments -/
theorem open_crs {H : Type} {enc : TypeId × Value → H} {W : World} {a : Option Addr} {len cap : Nat} {d : DataW H} {p : List MemPlace} {fuel : Nat}
    (hf : DataW.trod enc Tryd.prog W 0 (fun _ => true) true fuel 27 [.slice a len cap] = some (d, p)) (hz : ∀ n ∈ d.weights Tryd.prog 27, n ≤ reachBytes) :
    ∃ C : List CrR, C.length = len ∧ CrsAt W a C := by
  rcases Deep.open_slice Tryd.underlying27 hf with ⟨hcs, _⟩ | ⟨x, len', cap', m, n, D, Pl, hcs, _, hl, hm, hmm, hx, hel⟩
  · simp at hcs
    obtain ⟨rfl, rfl, rfl⟩ := hcs
    exact ⟨[], rfl, ⟨by simp, .inl rfl⟩⟩
  · simp only [List.cons.injEq, Value.slice.injEq, and_true] at hcs
    obtain ⟨rfl, rfl, rfl⟩ := hcs
    simp only [Prod.mk.injEq] at hx
    obtain ⟨rfl, _⟩ := hx
    simp only [if_true] at hmm
    subst hmm
    have hlen : len ≤ 1000000000000000 := by
      have h2 := hz ((((List.range len).map D).length + ((List.range (m - len)).map fun j => D (len + j)).length) * Tryd.prog.bytesOf 26) (by simp [DataW.weights, Tryd.underlying27])
      rw [bytesCrA] at h2
      simp [reachBytes] at h2
      omega
    have hw : ∀ i, i < len → ∀ k ∈ (D i).weights Tryd.prog 26, k ≤ reachBytes := by
      intro i hi k hk
      refine hz k ?_
      have := weightsAll_mem Tryd.prog 26 ((List.range len).map D) (D i) (List.mem_map.2 ⟨i, List.mem_range.2 hi, rfl⟩) k hk
      simp only [DataW.weights, Tryd.underlying27]
      exact List.mem_cons_of_mem _ (List.mem_append_left _ this)
    have hex : ∀ i, i < len → ∃ q : CrR, CrOk W q ∧ ∀ j, j < 2 → W.cell? ((x.add (i * 2)).add j) = q.cells[j]? := by
      intro i hi
      obtain ⟨cs', hc1, hc2⟩ := hel i (by omega)
      rw [cellsCrA] at hc1
      obtain ⟨q, q1, rfl⟩ := open_crash hc2 (hw i hi)
      obtain ⟨_, _, hcell⟩ := World.cells?_some hc1
      exact ⟨q, q1, hcell⟩
    obtain ⟨L, hL, h1, h2⟩ := recs_list 2 CrR.cells (fun q => CrOk W q) W x len hex len (Nat.le_refl _)
    refine ⟨L, hL, ⟨by omega, ?_⟩⟩
    by_cases h0 : len = 0
    · exact .inl (List.eq_nil_of_length_eq_zero (by omega))
    · obtain ⟨q, _, q1⟩ := hex 0 (by omega)
      have c0 := q1 0 (by omega)
      obtain ⟨b, off, spot⟩ := x
      have hspot : spot = none := by
        have := World.cell?_spot (w := W) (show W.cell? _ = some _ from c0)
        simpa [Addr.add] using this
      subst hspot
      refine .inr ⟨b, off, rfl, fun i q hq => ?_⟩
      have hh := h2 i q hq
      have ad : ∀ j, ((⟨b, off, none⟩ : Addr).add (i * 2)).add j = ⟨b, off + i * 2 + j, none⟩ := fun j => by rw [Addr.add_lit, Addr.add_lit]
      refine ⟨?_, ?_, h1 q (List.mem_of_getElem? hq)⟩
      · have := hh 0 (by omega); rw [ad] at this; exact this
      · have := hh 1 (by omega); rw [ad] at this; exact this
end Go.Proofs.YtpheajiepnjhdabDoor
