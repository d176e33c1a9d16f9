import Derived.Test.YtpheajiepnjhdaaDoorKEight
import Derived.Test.YtpheajiepnjhdaaDoorWKp
namespace Go.Proofs.YtpheajiepnjhdaaDoor
open Rec Go.ChangeShapes Go.WideShapes Go.ChangeAt Go.RowKit

theorem list2 {α : Type} (l : List α) (h : l.length = 2) : ∃ a b, l = [a, b] := by
  match l, h with
  | [a, b], _ => exact ⟨a, b, rfl⟩
theorem cellsPt : Tryd.prog.cellsOf 123 = 2 := by kernel_rfl
theorem cellsInt : Tryd.prog.cellsOf 3 = 1 := by kernel_rfl
theorem bytesPt : Tryd.prog.bytesOf 123 = 16 := by kernel_rfl
theorem cellsPs : Tryd.prog.cellsOf 69 = 1 := by kernel_rfl
theorem bytesPs : Tryd.prog.bytesOf 69 = 24 := by kernel_rfl
/-- one put -/
theorem open_pt {H : Type} {enc : TypeId × Value → H} {W : World} {cs : List Value} {D : DataW H} {Pl : List MemPlace} {fuel : Nat}
    (hf : DataW.trod enc Tryd.prog W 0 (fun _ => true) true fuel 123 cs = some (D, Pl)) :
    ∃ q : Int × Int, (0 ≤ q.2 ∧ q.2 < 256) ∧ cs = [.int .i64 q.1, .int .u8 q.2] := by
  obtain ⟨xs, m, _, hx, hlen, hxl, hel⟩ := DataW.trod_struct Tryd.underlying123 hf
  rw [cellsPt] at hlen
  obtain ⟨v0, v1, rfl⟩ := list2 cs hlen
  obtain ⟨x0, x1, rfl⟩ := list2 xs hxl
  have e0 := hel 0 _ rfl
  have e1 := hel 1 _ rfl
  clear hel
  simp [cellsInt, cells5] at e0 e1
  obtain ⟨b, z0, _, _⟩ := DataW.trod_int Tryd.underlying3 e0
  obtain ⟨x, z1, _, wx⟩ := DataW.trod_int Tryd.underlying5 e1
  simp at z0 z1
  subst z0 z1
  exact ⟨⟨b, x⟩, wf_u8 wx, rfl⟩
/-- a []Put among the arguments -/
theorem open_pts {H : Type} {enc : TypeId × Value → H} {W : World} {cs : List Value} {d : DataW H} {p : List MemPlace} {fuel : Nat}
    (hf : DataW.trod enc Tryd.prog W 0 (fun _ => true) true fuel 69 cs = some (d, p)) (hz : ∀ n ∈ d.weights Tryd.prog 69, n ≤ reachBytes) :
    ∃ (a : Option Addr) (cap : Nat) (L : List (Int × Int)), cs = [.slice a L.length cap] ∧ PtsAt W a L := by
  rcases Deep.open_slice Tryd.underlying69 hf with ⟨hcs, _⟩ | ⟨x, len, cap, m, n, D, Pl, hcs, _, hl, hm, hmm, hx, hel⟩
  · exact ⟨none, 0, [], hcs, ⟨by simp, .inl rfl⟩⟩
  · simp only [Prod.mk.injEq] at hx
    obtain ⟨rfl, _⟩ := hx
    simp only [if_true] at hmm
    subst hmm
    have hlen : len ≤ 1000000000000000 := by
      have h2 := hz ((((List.range len).map D).length + ((List.range (m - len)).map fun j => D (len + j)).length) * Tryd.prog.bytesOf 123) (by simp [DataW.weights, Tryd.underlying69])
      rw [bytesPt] at h2
      simp [reachBytes] at h2
      omega
    have hex : ∀ i, i < len → ∃ q : Int × Int, (0 ≤ q.2 ∧ q.2 < 256) ∧ ∀ j, j < 2 → W.cell? ((x.add (i * 2)).add j) = [Value.int .i64 q.1, .int .u8 q.2][j]? := by
      intro i hi
      obtain ⟨cs', hc1, hc2⟩ := hel i (by omega)
      rw [cellsPt] at hc1
      obtain ⟨q, q1, rfl⟩ := open_pt hc2
      obtain ⟨_, _, hcell⟩ := World.cells?_some hc1
      exact ⟨q, q1, hcell⟩
    obtain ⟨L, hL, h1, h2⟩ := recs_list 2 (fun q : Int × Int => [Value.int .i64 q.1, .int .u8 q.2]) (fun q => 0 ≤ q.2 ∧ q.2 < 256) W x len hex len (Nat.le_refl _)
    refine ⟨some x, m, L, by rw [hL]; exact hcs, ⟨by omega, ?_⟩⟩
    by_cases h0 : len = 0
    · exact .inl (List.eq_nil_of_length_eq_zero (by omega))
    · obtain ⟨q, _, q1⟩ := hex 0 (by omega)
      have c0 := q1 0 (by omega)
      obtain ⟨b, off, spot⟩ := x
      have hspot : spot = none := by
        have := World.cell?_spot (w := W) (show W.cell? _ = some _ from c0)
        simpa [Addr.add] using this
      subst hspot
      refine .inr ⟨b, off, rfl, fun i q hq => ?_⟩
      have hh := h2 i q hq
      have ad : ∀ j, ((⟨b, off, none⟩ : Addr).add (i * 2)).add j = ⟨b, off + i * 2 + j, none⟩ := fun j => by rw [Addr.add_lit, Addr.add_lit]
      refine ⟨?_, ?_, h1 q (List.mem_of_getElem? hq)⟩
      · have := hh 0 (by omega); rw [ad] at this; exact this
      · have := hh 1 (by omega); rw [ad] at this; exact this
/-- a [][]Put among the arguments -/
theorem open_pps {H : Type} {enc : TypeId × Value → H} {W : World} {a : Option Addr} {len cap : Nat} {d : DataW H} {p : List MemPlace} {fuel : Nat}
    (hf : DataW.trod enc Tryd.prog W 0 (fun _ => true) true fuel 65 [.slice a len cap] = some (d, p)) (hz : ∀ n ∈ d.weights Tryd.prog 65, n ≤ reachBytes) :
    ∃ LL : List (List (Int × Int)), LL.length = len ∧ PPs W a LL := by
  rcases Deep.open_slice Tryd.underlying65 hf with ⟨hcs, _⟩ | ⟨x, len', cap', m, n, D, Pl, hcs, _, hl, hm, hmm, hx, hel⟩
  · simp at hcs
    obtain ⟨rfl, rfl, rfl⟩ := hcs
    exact ⟨[], rfl, ⟨by simp, .inl rfl⟩⟩
  · simp only [List.cons.injEq, Value.slice.injEq, and_true] at hcs
    obtain ⟨rfl, rfl, rfl⟩ := hcs
    simp only [Prod.mk.injEq] at hx
    obtain ⟨rfl, _⟩ := hx
    simp only [if_true] at hmm
    subst hmm
    have hlen : len ≤ 1000000000000000 := by
      have h2 := hz ((((List.range len).map D).length + ((List.range (m - len)).map fun j => D (len + j)).length) * Tryd.prog.bytesOf 69) (by simp [DataW.weights, Tryd.underlying65])
      rw [bytesPs] at h2
      simp [reachBytes] at h2
      omega
    have hw : ∀ i, i < len → ∀ k ∈ (D i).weights Tryd.prog 69, k ≤ reachBytes := by
      intro i hi k hk
      refine hz k ?_
      have := weightsAll_mem Tryd.prog 69 ((List.range len).map D) (D i) (List.mem_map.2 ⟨i, List.mem_range.2 hi, rfl⟩) k hk
      simp only [DataW.weights, Tryd.underlying65]
      exact List.mem_cons_of_mem _ (List.mem_append_left _ this)
    have hex : ∀ i, i < len → ∃ q : List (Int × Int) × Option Addr × Nat, PtsAt W q.2.1 q.1 ∧ ∀ j, j < 1 → W.cell? ((x.add (i * 1)).add j) = [Value.slice q.2.1 q.1.length q.2.2][j]? := by
      intro i hi
      obtain ⟨cs', hc1, hc2⟩ := hel i (by omega)
      rw [cellsPs] at hc1
      obtain ⟨a', cap', L, rfl, hL⟩ := open_pts hc2 (hw i hi)
      obtain ⟨_, _, hcell⟩ := World.cells?_some hc1
      exact ⟨(L, a', cap'), hL, hcell⟩
    obtain ⟨L, hL, h1, h2⟩ := recs_list 1 (fun q : List (Int × Int) × Option Addr × Nat => [Value.slice q.2.1 q.1.length q.2.2]) (fun q => PtsAt W q.2.1 q.1) W x len hex len (Nat.le_refl _)
    refine ⟨L.map (·.1), by simp [hL], ⟨by simp [hL]; omega, ?_⟩⟩
    by_cases h0 : len = 0
    · exact .inl (by rw [List.eq_nil_of_length_eq_zero (show L.length = 0 by omega)]; rfl)
    · obtain ⟨q, _, q1⟩ := hex 0 (by omega)
      have c0 := q1 0 (by omega)
      obtain ⟨b, off, spot⟩ := x
      have hspot : spot = none := by
        have := World.cell?_spot (w := W) (show W.cell? _ = some _ from c0)
        simpa [Addr.add] using this
      subst hspot
      refine .inr ⟨b, off, rfl, fun i P hP => ?_⟩
      have hi' : i < L.length := by have := (List.getElem?_eq_some_iff.1 hP).1; simpa using this
      have hq : L[i]? = some L[i] := List.getElem?_eq_getElem hi'
      have hc := h2 i _ hq 0 (by omega)
      rw [Addr.add_lit, Addr.add_lit, Nat.mul_one, Nat.add_zero] at hc
      have e : (L[i]).1 = P := by
        rw [List.getElem?_map, hq] at hP
        simpa using hP
      rw [← e]
      exact ⟨_, _, hc, h1 _ (List.getElem_mem hi')⟩
end Go.Proofs.YtpheajiepnjhdaaDoor
