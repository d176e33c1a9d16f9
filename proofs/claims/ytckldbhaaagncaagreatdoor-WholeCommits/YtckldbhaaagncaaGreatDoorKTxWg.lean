import Derived.Test.YtckldbhaaagncaaGreatDoorKEight
import Derived.Test.YtckldbhaaagncaaGreatDoorKTxWe
import Derived.OpenShut
namespace Go.Proofs.YtckldbhaaagncaaGreatDoor
open Rec Go.ChangeShapes Go.WideShapes Go.ChangeAt Go.RowKit

theorem list2Y {α : Type} (l : List α) (h : l.length = 2) : ∃ a b, l = [a, b] := by
  match l, h with
  | [a, b], _ => exact ⟨a, b, rfl⟩
theorem cellsPtY : Tryz.prog.cellsOf 31 = 2 := by kernel_rfl
theorem cellsIntY : Tryz.prog.cellsOf 3 = 1 := by kernel_rfl
theorem bytesPtY : Tryz.prog.bytesOf 31 = 16 := by kernel_rfl
theorem cellsPsY : Tryz.prog.cellsOf 32 = 1 := by kernel_rfl
theorem bytesPsY : Tryz.prog.bytesOf 32 = 24 := by kernel_rfl
/-- one put -/
theorem open_ptY {H : Type} {enc : TypeId × Value → H} {W : World} {cs : List Value} {D : DataW H} {Pl : List MemPlace} {fuel : Nat}
    (hf : DataW.trod enc Tryz.prog W 0 (fun _ => true) true fuel 31 cs = some (D, Pl)) :
    ∃ q : Int × Int, True ∧ cs = [.int .i64 q.1, .int .i64 q.2] := by
  obtain ⟨xs, m, _, hx, hlen, hxl, hel⟩ := DataW.trod_struct Tryz.underlying31 hf
  rw [cellsPtY] at hlen
  obtain ⟨v0, v1, rfl⟩ := list2Y cs hlen
  obtain ⟨x0, x1, rfl⟩ := list2Y xs hxl
  have e0 := hel 0 _ rfl
  have e1 := hel 1 _ rfl
  clear hel
  simp [cellsIntY] at e0 e1
  obtain ⟨b, z0, _, _⟩ := DataW.trod_int Tryz.underlying3 e0
  obtain ⟨x, z1, _, _⟩ := DataW.trod_int Tryz.underlying3 e1
  simp at z0 z1
  subst z0 z1
  exact ⟨⟨b, x⟩, trivial, rfl⟩
/-- a []Put among the arguments -/
theorem open_ptsY {H : Type} {enc : TypeId × Value → H} {W : World} {cs : List Value} {d : DataW H} {p : List MemPlace} {fuel : Nat}
    (hf : DataW.trod enc Tryz.prog W 0 (fun _ => true) true fuel 32 cs = some (d, p)) (hz : ∀ n ∈ d.weights Tryz.prog 32, n ≤ reachBytes) :
    ∃ (a : Option Addr) (cap : Nat) (L : List (Int × Int)), cs = [.slice a L.length cap] ∧ PfsAt W a L := by
  rcases Deep.open_slice Tryz.underlying32 hf with ⟨hcs, _⟩ | ⟨x, len, cap, m, n, D, Pl, hcs, _, hl, hm, hmm, hx, hel⟩
  · exact ⟨none, 0, [], hcs, ⟨by simp, .inl rfl⟩⟩
  · simp only [Prod.mk.injEq] at hx
    obtain ⟨rfl, _⟩ := hx
    simp only [if_true] at hmm
    subst hmm
    have hlen : len ≤ 1000000000000000 := by
      have h2 := hz ((((List.range len).map D).length + ((List.range (m - len)).map fun j => D (len + j)).length) * Tryz.prog.bytesOf 31) (by simp [DataW.weights, Tryz.underlying32])
      rw [bytesPtY] at h2
      simp [reachBytes] at h2
      omega
    have hex : ∀ i, i < len → ∃ q : Int × Int, True ∧ ∀ j, j < 2 → W.cell? ((x.add (i * 2)).add j) = [Value.int .i64 q.1, .int .i64 q.2][j]? := by
      intro i hi
      obtain ⟨cs', hc1, hc2⟩ := hel i (by omega)
      rw [cellsPtY] at hc1
      obtain ⟨q, q1, rfl⟩ := open_ptY hc2
      obtain ⟨_, _, hcell⟩ := World.cells?_some hc1
      exact ⟨q, q1, hcell⟩
    obtain ⟨L, hL, _, h2⟩ := recs_list 2 (fun q : Int × Int => [Value.int .i64 q.1, .int .i64 q.2]) (fun _ => True) W x len hex len (Nat.le_refl _)
    refine ⟨some x, m, L, by rw [hL]; exact hcs, ⟨by omega, ?_⟩⟩
    by_cases h0 : len = 0
    · exact .inl (List.eq_nil_of_length_eq_zero (by omega))
    · obtain ⟨q, _, q1⟩ := hex 0 (by omega)
      have c0 := q1 0 (by omega)
      obtain ⟨b, off, spot⟩ := x
      have hspot : spot = none := by
        have := World.cell?_spot (w := W) (show W.cell? _ = some _ from c0)
        simpa [Addr.add] using this
      subst hspot
      refine .inr ⟨b, off, rfl, fun i q hq => ?_⟩
      have hh := h2 i q hq
      have ad : ∀ j, ((⟨b, off, none⟩ : Addr).add (i * 2)).add j = ⟨b, off + i * 2 + j, none⟩ := fun j => by rw [Addr.add_lit, Addr.add_lit]
      refine ⟨?_, ?_⟩
      · have := hh 0 (by omega); rw [ad] at this; exact this
      · have := hh 1 (by omega); rw [ad] at this; exact this
theorem open_putsY {H : Type} {enc : TypeId × Value → H} {W : World} {a : Option Addr} {len cap : Nat} {d : DataW H} {p : List MemPlace} {fuel : Nat}
    (hf : DataW.trod enc Tryz.prog W 0 (fun _ => true) true fuel 32 [.slice a len cap] = some (d, p)) (hz : ∀ n ∈ d.weights Tryz.prog 32, n ≤ reachBytes) :
    ∃ L : List (Int × Int), L.length = len ∧ PfsAt W a L := by
  obtain ⟨a', cap', L, hcs, hL⟩ := open_ptsY hf hz
  simp only [List.cons.injEq, Value.slice.injEq, and_true] at hcs
  obtain ⟨rfl, rfl, rfl⟩ := hcs
  exact ⟨L, rfl, hL⟩
end Go.Proofs.YtckldbhaaagncaaGreatDoor

namespace Go.Proofs.YtckldbhaaagncaaGreatDoor
open Rec Go.ChangeShapes Go.WideShapes Go.ChangeAt Go.RowKit

theorem wf_i64c {x : Int} (h : (Lit.int .i64 x).wf = true) : -9223372036854775808 ≤ x ∧ x ≤ 9223372036854775807 := by
  have hmin : IntKind.i64.min = -9223372036854775808 := rfl
  have hmax : IntKind.i64.max = 9223372036854775807 := rfl
  simp only [Lit.wf, Bool.and_eq_true, decide_eq_true_eq] at h
  omega
theorem list2a {α : Type} (l : List α) (h : l.length = 2) : ∃ a b, l = [a, b] := by
  match l, h with
  | [a, b], _ => exact ⟨a, b, rfl⟩
theorem cellsIntA : Tryz.prog.cellsOf 3 = 1 := by kernel_rfl
theorem cellsBoA : Tryz.prog.cellsOf 4 = 1 := by kernel_rfl
theorem bytesBoA : Tryz.prog.bytesOf 4 = 1 := by kernel_rfl
theorem cellsBsA : Tryz.prog.cellsOf 33 = 1 := by kernel_rfl
theorem cellsCrA : Tryz.prog.cellsOf 35 = 2 := by kernel_rfl
theorem bytesCrA : Tryz.prog.bytesOf 35 = 32 := by kernel_rfl
/-- a []bool -/
theorem open_boolsA {H : Type} {enc : TypeId × Value → H} {W : World} {cs : List Value} {d : DataW H} {p : List MemPlace} {fuel : Nat}
    (hf : DataW.trod enc Tryz.prog W 0 (fun _ => true) true fuel 33 cs = some (d, p)) (hz : ∀ n ∈ d.weights Tryz.prog 33, n ≤ reachBytes) :
    ∃ (a : Option Addr) (cap : Nat) (L : List Bool), cs = [.slice a L.length cap] ∧ L.length ≤ 140737488351232 ∧ (a = none → cap = 0) ∧ Bools W (.slice a L.length cap) L := by
  rcases Deep.open_slice Tryz.underlying33 hf with ⟨hcs, _⟩ | ⟨x, len, cap, m, n, D, Pl, hcs, _, hl, hm, hmm, hx, hel⟩
  · exact ⟨none, 0, [], hcs, by simp, fun _ => rfl, _, _, rfl, .inl rfl⟩
  · simp only [Prod.mk.injEq] at hx
    obtain ⟨rfl, _⟩ := hx
    simp only [if_true] at hmm
    subst hmm
    have hlen : len ≤ 140737488351232 := by
      have h2 := hz ((((List.range len).map D).length + ((List.range (m - len)).map fun j => D (len + j)).length) * Tryz.prog.bytesOf 4) (by simp [DataW.weights, Tryz.underlying33])
      rw [bytesBoA] at h2
      simp [reachBytes] at h2
      omega
    have hex : ∀ i, i < len → ∃ q : Bool, True ∧ ∀ j, j < 1 → W.cell? ((x.add (i * 1)).add j) = [Value.bool q][j]? := by
      intro i hi
      obtain ⟨cs', hc1, hc2⟩ := hel i (by omega)
      rw [cellsBoA] at hc1
      obtain ⟨q, rfl, _⟩ := DataW.trod_bool Tryz.underlying4 hc2
      obtain ⟨_, _, hcell⟩ := World.cells?_some hc1
      exact ⟨q, trivial, hcell⟩
    obtain ⟨L, hL, _, h2⟩ := recs_list 1 (fun q : Bool => [Value.bool q]) (fun _ => True) W x len hex len (Nat.le_refl _)
    refine ⟨some x, m, L, by rw [hL]; exact hcs, by omega, fun h => (nomatch h), ⟨_, _, rfl, ?_⟩⟩
    by_cases h0 : len = 0
    · exact .inl (List.eq_nil_of_length_eq_zero (by omega))
    · obtain ⟨q, _, q1⟩ := hex 0 (by omega)
      have c0 := q1 0 (by omega)
      obtain ⟨b, off, spot⟩ := x
      have hspot : spot = none := by
        have := World.cell?_spot (w := W) (show W.cell? _ = some _ from c0)
        simpa [Addr.add] using this
      subst hspot
      refine .inr ⟨b, off, rfl, fun i q hq => ?_⟩
      have hh := h2 i q hq 0 (by omega)
      rw [Addr.add_lit, Addr.add_lit, Nat.mul_one] at hh
      exact hh
/-- an api.Crash -/
theorem open_crash {H : Type} {enc : TypeId × Value → H} {W : World} {cs : List Value} {D : DataW H} {Pl : List MemPlace} {fuel : Nat}
    (hf : DataW.trod enc Tryz.prog W 0 (fun _ => true) true fuel 35 cs = some (D, Pl)) (hz : ∀ n ∈ D.weights Tryz.prog 35, n ≤ reachBytes) :
    ∃ q : CrR, CrOk W q ∧ cs = q.cells := by
  obtain ⟨xs, m, _, hx, hlen, hxl, hel⟩ := DataW.trod_struct Tryz.underlying35 hf
  rw [cellsCrA] at hlen
  obtain ⟨v0, v1, rfl⟩ := list2a cs hlen
  obtain ⟨x0, x1, rfl⟩ := list2a xs hxl
  have e0 := hel 0 _ rfl
  have e1 := hel 1 _ rfl
  clear hel
  simp [cellsIntA, cellsBsA] at e0 e1
  have hD : D = .agg [x0.1, x1.1] := (Prod.mk.inj hx).1
  subst hD
  have w1 : ∀ n ∈ x1.1.weights Tryz.prog 33, n ≤ reachBytes := fun n hn => hz n (by
    simp only [DataW.weights, Tryz.underlying35, List.map_cons, List.map_nil, DataW.weightsEach]
    exact List.mem_append_right _ (List.mem_append_left _ hn))
  obtain ⟨b, z0, _, wx⟩ := DataW.trod_int Tryz.underlying3 e0
  obtain ⟨a, cap, L, z1, l1, l2, l3⟩ := open_boolsA e1 w1
  simp at z0 z1
  subst z0 z1
  have := wf_i64c wx
  exact ⟨⟨b, a, cap, L⟩, ⟨l3, l2, l1, this.1, this.2⟩, rfl⟩
set_option maxRecDepth 100000 in
theorem okWide_crash {W : World} {base : Nat} {v : Value} (h : Value.okWide Tryz.prog W .any base 35 v) : ∃ cs, v = .agg cs := by
  obtain ⟨cs, h1, _⟩ := okWide_struct Tryz.underlying35 h
  exact ⟨cs, h1⟩
theorem open_crashV {H : Type} {enc : TypeId × Value → H} {W : World} {cs : Array Value} {D : DataW H} {Pl : List MemPlace} {fuel : Nat}
    (hf : DataW.trod enc Tryz.prog W 0 (fun _ => true) true fuel 35 (Value.agg cs).cells.toList = some (D, Pl)) (hz : ∀ n ∈ D.weights Tryz.prog 35, n ≤ reachBytes) :
    ∃ q : CrR, CrOk W q ∧ cs = #[.int .i64 q.t, .slice q.a q.keep.length q.c] := by
  obtain ⟨q, h1, h2⟩ := open_crash hf hz
  refine ⟨q, h1, ?_⟩
  cases cs with
  | mk l =>
    have : l = q.cells := h2
    rw [this]; rfl
/-- a []api.Crash among the arguments -/
theorem open_crs {H : Type} {enc : TypeId × Value → H} {W : World} {a : Option Addr} {len cap : Nat} {d : DataW H} {p : List MemPlace} {fuel : Nat}
    (hf : DataW.trod enc Tryz.prog W 0 (fun _ => true) true fuel 36 [.slice a len cap] = some (d, p)) (hz : ∀ n ∈ d.weights Tryz.prog 36, n ≤ reachBytes) :
    ∃ C : List CrR, C.length = len ∧ CrsAt W a C := by
  rcases Deep.open_slice Tryz.underlying36 hf with ⟨hcs, _⟩ | ⟨x, len', cap', m, n, D, Pl, hcs, _, hl, hm, hmm, hx, hel⟩
  · simp at hcs
    obtain ⟨rfl, rfl, rfl⟩ := hcs
    exact ⟨[], rfl, ⟨by simp, .inl rfl⟩⟩
  · simp only [List.cons.injEq, Value.slice.injEq, and_true] at hcs
    obtain ⟨rfl, rfl, rfl⟩ := hcs
    simp only [Prod.mk.injEq] at hx
    obtain ⟨rfl, _⟩ := hx
    simp only [if_true] at hmm
    subst hmm
    have hlen : len ≤ 1000000000000000 := by
      have h2 := hz ((((List.range len).map D).length + ((List.range (m - len)).map fun j => D (len + j)).length) * Tryz.prog.bytesOf 35) (by simp [DataW.weights, Tryz.underlying36])
      rw [bytesCrA] at h2
      simp [reachBytes] at h2
      omega
    have hw : ∀ i, i < len → ∀ k ∈ (D i).weights Tryz.prog 35, k ≤ reachBytes := by
      intro i hi k hk
      refine hz k ?_
      have := weightsAll_mem Tryz.prog 35 ((List.range len).map D) (D i) (List.mem_map.2 ⟨i, List.mem_range.2 hi, rfl⟩) k hk
      simp only [DataW.weights, Tryz.underlying36]
      exact List.mem_cons_of_mem _ (List.mem_append_left _ this)
    have hex : ∀ i, i < len → ∃ q : CrR, CrOk W q ∧ ∀ j, j < 2 → W.cell? ((x.add (i * 2)).add j) = q.cells[j]? := by
      intro i hi
      obtain ⟨cs', hc1, hc2⟩ := hel i (by omega)
      rw [cellsCrA] at hc1
      obtain ⟨q, q1, rfl⟩ := open_crash hc2 (hw i hi)
      obtain ⟨_, _, hcell⟩ := World.cells?_some hc1
      exact ⟨q, q1, hcell⟩
    obtain ⟨L, hL, h1, h2⟩ := recs_list 2 CrR.cells (fun q => CrOk W q) W x len hex len (Nat.le_refl _)
    refine ⟨L, hL, ⟨by omega, ?_⟩⟩
    by_cases h0 : len = 0
    · exact .inl (List.eq_nil_of_length_eq_zero (by omega))
    · obtain ⟨q, _, q1⟩ := hex 0 (by omega)
      have c0 := q1 0 (by omega)
      obtain ⟨b, off, spot⟩ := x
      have hspot : spot = none := by
        have := World.cell?_spot (w := W) (show W.cell? _ = some _ from c0)
        simpa [Addr.add] using this
      subst hspot
      refine .inr ⟨b, off, rfl, fun i q hq => ?_⟩
      have hh := h2 i q hq
      have ad : ∀ j, ((⟨b, off, none⟩ : Addr).add (i * 2)).add j = ⟨b, off + i * 2 + j, none⟩ := fun j => by rw [Addr.add_lit, Addr.add_lit]
      refine ⟨?_, ?_, h1 q (List.mem_of_getElem? hq)⟩
      · have := hh 0 (by omega); rw [ad] at this; exact this
      · have := hh 1 (by omega); rw [ad] at this; exact this
end Go.Proofs.YtckldbhaaagncaaGreatDoor

namespace Go.Proofs.YtckldbhaaagncaaGreatDoor
open Rec Go.ChangeShapes Go.WideShapes Go.ChangeAt Go.RowKit

theorem open_crsA {H : Type} {enc : TypeId × Value → H} {W : World} {cs : List Value} {d : DataW H} {p : List MemPlace} {fuel : Nat}
    (hf : DataW.trod enc Tryz.prog W 0 (fun _ => true) true fuel 36 cs = some (d, p)) (hz : ∀ n ∈ d.weights Tryz.prog 36, n ≤ reachBytes) :
    ∃ (a : Option Addr) (cap : Nat) (C : List CrR), cs = [.slice a C.length cap] ∧ CrsAt W a C := by
  have h : ∃ (a : Option Addr) (len cap : Nat), cs = [.slice a len cap] := by
    rcases Deep.open_slice Tryz.underlying36 hf with ⟨hcs, _⟩ | ⟨x, len, cap, m, n, D, Pl, hcs, _⟩
    · exact ⟨none, 0, 0, hcs⟩
    · exact ⟨some x, len, cap, hcs⟩
  obtain ⟨a, len, cap, rfl⟩ := h
  obtain ⟨C, hl, hC⟩ := open_crs hf hz
  exact ⟨a, cap, C, by rw [hl], hC⟩
theorem list5 {α : Type} (l : List α) (h : l.length = 5) : ∃ a b c d e, l = [a, b, c, d, e] := by
  match l, h with
  | [a, b, c, d, e], _ => exact ⟨a, b, c, d, e, rfl⟩
theorem list4 {α : Type} (l : List α) (h : l.length = 4) : ∃ a b c d, l = [a, b, c, d] := by
  match l, h with
  | [a, b, c, d], _ => exact ⟨a, b, c, d, rfl⟩
theorem cellsJb : Tryz.prog.cellsOf 38 = 5 := by kernel_rfl
theorem bytesJb : Tryz.prog.bytesOf 38 = 88 := by kernel_rfl
theorem cellsBoY : Tryz.prog.cellsOf 4 = 1 := by kernel_rfl
theorem cellsCrY : Tryz.prog.cellsOf 35 = 2 := by kernel_rfl
theorem cellsCsY : Tryz.prog.cellsOf 36 = 1 := by kernel_rfl
theorem cellsPfY : Tryz.prog.cellsOf 32 = 1 := by kernel_rfl
/-- a handed job -/
structure JbR where
  pa : Option Addr
  pc : Nat
  P : List (Int × Int)
  lets : Bool
  cut : CrR
  ca : Option Addr
  cc : Nat
  C : List CrR
structure JbOk (w : World) (q : JbR) : Prop where
  puts : PfsAt w q.pa q.P
  cut : CrOk w q.cut
  again : CrsAt w q.ca q.C
theorem JbOk.on {w w' : World} {q : JbR} (h : JbOk w q) (hb : Below w.heap.size w w') : JbOk w' q := ⟨h.puts.on hb, h.cut.on hb, h.again.on hb⟩
def JbR.cells (q : JbR) : List Value := [.slice q.pa q.P.length q.pc, .bool q.lets, .int .i64 q.cut.t, .slice q.cut.a q.cut.keep.length q.cut.c, .slice q.ca q.C.length q.cc]
set_option maxRecDepth 100000 in
theorem open_job {H : Type} {enc : TypeId × Value → H} {W : World} {cs : List Value} {D : DataW H} {Pl : List MemPlace} {fuel : Nat}
    (hf : DataW.trod enc Tryz.prog W 0 (fun _ => true) true fuel 38 cs = some (D, Pl)) (hz : ∀ n ∈ D.weights Tryz.prog 38, n ≤ reachBytes) :
    ∃ q : JbR, JbOk W q ∧ cs = q.cells := by
  obtain ⟨xs, m, _, hx, hlen, hxl, hel⟩ := DataW.trod_struct Tryz.underlying38 hf
  rw [cellsJb] at hlen
  obtain ⟨v0, v1, v2, v3, v4, rfl⟩ := list5 cs hlen
  obtain ⟨x0, x1, x2, x3, rfl⟩ := list4 xs hxl
  have e0 := hel 0 _ rfl
  have e1 := hel 1 _ rfl
  have e2 := hel 2 _ rfl
  have e3 := hel 3 _ rfl
  clear hel
  simp [cellsBoY, cellsCrY, cellsCsY, cellsPfY] at e0 e1 e2 e3
  have hD : D = .agg [x0.1, x1.1, x2.1, x3.1] := (Prod.mk.inj hx).1
  subst hD
  have w0 : ∀ n ∈ x0.1.weights Tryz.prog 32, n ≤ reachBytes := fun n hn => hz n (by
    simp only [DataW.weights, Tryz.underlying38, List.map_cons, List.map_nil, DataW.weightsEach]
    exact List.mem_append_left _ hn)
  have w2 : ∀ n ∈ x2.1.weights Tryz.prog 35, n ≤ reachBytes := fun n hn => hz n (by
    simp only [DataW.weights, Tryz.underlying38, List.map_cons, List.map_nil, DataW.weightsEach]
    exact List.mem_append_right _ (List.mem_append_right _ (List.mem_append_left _ hn)))
  have w3 : ∀ n ∈ x3.1.weights Tryz.prog 36, n ≤ reachBytes := fun n hn => hz n (by
    simp only [DataW.weights, Tryz.underlying38, List.map_cons, List.map_nil, DataW.weightsEach]
    exact List.mem_append_right _ (List.mem_append_right _ (List.mem_append_right _ (List.mem_append_left _ hn))))
  obtain ⟨pa, pc, P, z0, hP⟩ := open_ptsY e0 w0
  obtain ⟨b, z1, _⟩ := DataW.trod_bool Tryz.underlying4 e1
  obtain ⟨q, hq, z2⟩ := open_crash e2 w2
  obtain ⟨ca, cc, C, z3, hC⟩ := open_crsA e3 w3
  simp [CrR.cells] at z0 z1 z2 z3
  obtain ⟨rfl, rfl⟩ := z2
  subst z0 z1 z3
  exact ⟨⟨pa, pc, P, b, q, ca, cc, C⟩, ⟨hP, hq, hC⟩, rfl⟩
/-- a row of jobs -/
structure JbsAt (w : World) (a : Option Addr) (J : List JbR) : Prop where
  len : J.length ≤ 100000000000000
  at_ : J = [] ∨ ∃ b off, a = some ⟨b, off, none⟩ ∧ ∀ i q, J[i]? = some q → (∀ j v, q.cells[j]? = some v → w.cell? ⟨b, off + i * 5 + j, none⟩ = some v) ∧ JbOk w q
theorem open_jobs {H : Type} {enc : TypeId × Value → H} {W : World} {a : Option Addr} {len cap : Nat} {d : DataW H} {p : List MemPlace} {fuel : Nat}
    (hf : DataW.trod enc Tryz.prog W 0 (fun _ => true) true fuel 22 [.slice a len cap] = some (d, p)) (hz : ∀ n ∈ d.weights Tryz.prog 22, n ≤ reachBytes) :
    ∃ J : List JbR, J.length = len ∧ JbsAt W a J ∧ (a = none → cap = 0) ∧ len * 88 ≤ 140737488351232 := by
  rcases Deep.open_slice Tryz.underlying22 hf with ⟨hcs, _⟩ | ⟨x, len', cap', m, n, D, Pl, hcs, _, hl, hm, hmm, hx, hel⟩
  · simp at hcs
    obtain ⟨rfl, rfl, rfl⟩ := hcs
    exact ⟨[], rfl, ⟨by simp, .inl rfl⟩, fun _ => rfl, by omega⟩
  · simp only [List.cons.injEq, Value.slice.injEq, and_true] at hcs
    obtain ⟨rfl, rfl, rfl⟩ := hcs
    simp only [Prod.mk.injEq] at hx
    obtain ⟨rfl, _⟩ := hx
    simp only [if_true] at hmm
    subst hmm
    have hl88 : len * 88 ≤ 140737488351232 := by
      have h2 := hz ((((List.range len).map D).length + ((List.range (m - len)).map fun j => D (len + j)).length) * Tryz.prog.bytesOf 38) (by simp [DataW.weights, Tryz.underlying22])
      rw [bytesJb] at h2
      simp [reachBytes] at h2
      omega
    have hlen : len ≤ 100000000000000 := by
      have h2 := hz ((((List.range len).map D).length + ((List.range (m - len)).map fun j => D (len + j)).length) * Tryz.prog.bytesOf 38) (by simp [DataW.weights, Tryz.underlying22])
      rw [bytesJb] at h2
      simp [reachBytes] at h2
      omega
    have hw : ∀ i, i < len → ∀ k ∈ (D i).weights Tryz.prog 38, k ≤ reachBytes := by
      intro i hi k hk
      refine hz k ?_
      have := weightsAll_mem Tryz.prog 38 ((List.range len).map D) (D i) (List.mem_map.2 ⟨i, List.mem_range.2 hi, rfl⟩) k hk
      simp only [DataW.weights, Tryz.underlying22]
      exact List.mem_cons_of_mem _ (List.mem_append_left _ this)
    have hex : ∀ i, i < len → ∃ q : JbR, JbOk W q ∧ ∀ j, j < 5 → W.cell? ((x.add (i * 5)).add j) = q.cells[j]? := by
      intro i hi
      obtain ⟨cs', hc1, hc2⟩ := hel i (by omega)
      rw [cellsJb] at hc1
      obtain ⟨q, q1, rfl⟩ := open_job hc2 (hw i hi)
      obtain ⟨_, _, hcell⟩ := World.cells?_some hc1
      exact ⟨q, q1, hcell⟩
    obtain ⟨L, hL, h1, h2⟩ := recs_list 5 JbR.cells (fun q => JbOk W q) W x len hex len (Nat.le_refl _)
    refine ⟨L, hL, ⟨by omega, ?_⟩, (fun e => by cases e), hl88⟩
    by_cases h0 : len = 0
    · exact .inl (List.eq_nil_of_length_eq_zero (by omega))
    · obtain ⟨q, _, q1⟩ := hex 0 (by omega)
      have c0 := q1 0 (by omega)
      obtain ⟨b, off, spot⟩ := x
      have hspot : spot = none := by
        have := World.cell?_spot (w := W) (show W.cell? _ = some _ from c0)
        simpa [Addr.add] using this
      subst hspot
      refine .inr ⟨b, off, rfl, fun i q hq => ⟨fun j v hv => ?_, h1 q (List.mem_of_getElem? hq)⟩⟩
      have hj : j < 5 := by
        rcases Nat.lt_or_ge j 5 with h | h
        · exact h
        · rw [List.getElem?_eq_none (by simp [JbR.cells]; omega)] at hv; cases hv
      have hh := h2 i q hq j hj
      rw [Addr.add_lit, Addr.add_lit, hv] at hh
      exact hh
end Go.Proofs.YtckldbhaaagncaaGreatDoor
