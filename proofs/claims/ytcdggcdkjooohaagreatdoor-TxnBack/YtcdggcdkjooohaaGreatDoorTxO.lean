import Derived.Test.YtcdggcdkjooohaaGreatDoorKEight
import Derived.Test.YtcdggcdkjooohaaGreatDoorTxJ
namespace Go.Proofs.YtcdggcdkjooohaaGreatDoor
open Rec Go.ChangeShapes Go.WideShapes Go.ChangeAt Go.RowKit

theorem list26 {α : Type} (l : List α) (h : l.length = 2) : ∃ a b, l = [a, b] := by
  match l, h with
  | [a, b], _ => exact ⟨a, b, rfl⟩
theorem cellsPt6 : Tryz.prog.cellsOf 104 = 2 := by kernel_rfl
theorem cellsInt6 : Tryz.prog.cellsOf 3 = 1 := by kernel_rfl
theorem bytesPt6 : Tryz.prog.bytesOf 104 = 16 := by kernel_rfl
theorem cellsPs6 : Tryz.prog.cellsOf 22 = 1 := by kernel_rfl
theorem bytesPs6 : Tryz.prog.bytesOf 22 = 24 := by kernel_rfl
/-- one put -/
theorem open_pt6 {H : Type} {enc : TypeId × Value → H} {W : World} {cs : List Value} {D : DataW H} {Pl : List MemPlace} {fuel : Nat}
    (hf : DataW.trod enc Tryz.prog W 0 (fun _ => true) true fuel 104 cs = some (D, Pl)) :
    ∃ q : Int × Int, (0 ≤ q.2 ∧ q.2 < 256) ∧ cs = [.int .i64 q.1, .int .u8 q.2] := by
  obtain ⟨xs, m, _, hx, hlen, hxl, hel⟩ := DataW.trod_struct Tryz.underlying104 hf
  rw [cellsPt6] at hlen
  obtain ⟨v0, v1, rfl⟩ := list26 cs hlen
  obtain ⟨x0, x1, rfl⟩ := list26 xs hxl
  have e0 := hel 0 _ rfl
  have e1 := hel 1 _ rfl
  clear hel
  simp [cellsInt6, cells5] at e0 e1
  obtain ⟨b, z0, _, _⟩ := DataW.trod_int Tryz.underlying3 e0
  obtain ⟨x, z1, _, wx⟩ := DataW.trod_int Tryz.underlying5 e1
  simp at z0 z1
  subst z0 z1
  exact ⟨⟨b, x⟩, wf_u8 wx, rfl⟩
/-- a []Put among the arguments -/
theorem open_pts6 {H : Type} {enc : TypeId × Value → H} {W : World} {cs : List Value} {d : DataW H} {p : List MemPlace} {fuel : Nat}
    (hf : DataW.trod enc Tryz.prog W 0 (fun _ => true) true fuel 22 cs = some (d, p)) (hz : ∀ n ∈ d.weights Tryz.prog 22, n ≤ reachBytes) :
    ∃ (a : Option Addr) (cap : Nat) (L : List (Int × Int)), cs = [.slice a L.length cap] ∧ PtsAt W a L := by
  rcases Deep.open_slice Tryz.underlying22 hf with ⟨hcs, _⟩ | ⟨x, len, cap, m, n, D, Pl, hcs, _, hl, hm, hmm, hx, hel⟩
  · exact ⟨none, 0, [], hcs, ⟨by simp, .inl rfl⟩⟩
  · simp only [Prod.mk.injEq] at hx
    obtain ⟨rfl, _⟩ := hx
    simp only [if_true] at hmm
    subst hmm
    have hlen : len ≤ 1000000000000000 := by
      have h2 := hz ((((List.range len).map D).length + ((List.range (m - len)).map fun j => D (len + j)).length) * Tryz.prog.bytesOf 104) (by simp [DataW.weights, Tryz.underlying22])
      rw [bytesPt6] at h2
      simp [reachBytes] at h2
      omega
    have hex : ∀ i, i < len → ∃ q : Int × Int, (0 ≤ q.2 ∧ q.2 < 256) ∧ ∀ j, j < 2 → W.cell? ((x.add (i * 2)).add j) = [Value.int .i64 q.1, .int .u8 q.2][j]? := by
      intro i hi
      obtain ⟨cs', hc1, hc2⟩ := hel i (by omega)
      rw [cellsPt6] at hc1
      obtain ⟨q, q1, rfl⟩ := open_pt6 hc2
      obtain ⟨_, _, hcell⟩ := World.cells?_some hc1
      exact ⟨q, q1, hcell⟩
    obtain ⟨L, hL, h1, h2⟩ := recs_list 2 (fun q : Int × Int => [Value.int .i64 q.1, .int .u8 q.2]) (fun q => 0 ≤ q.2 ∧ q.2 < 256) W x len hex len (Nat.le_refl _)
    refine ⟨some x, m, L, by rw [hL]; exact hcs, ⟨by omega, ?_⟩⟩
    by_cases h0 : len = 0
    · exact .inl (List.eq_nil_of_length_eq_zero (by omega))
    · obtain ⟨q, _, q1⟩ := hex 0 (by omega)
      have c0 := q1 0 (by omega)
      obtain ⟨b, off, spot⟩ := x
      have hspot : spot = none := by
        have := World.cell?_spot (w := W) (show W.cell? _ = some _ from c0)
        simpa [Addr.add] using this
      subst hspot
      refine .inr ⟨b, off, rfl, fun i q hq => ?_⟩
      have hh := h2 i q hq
      have ad : ∀ j, ((⟨b, off, none⟩ : Addr).add (i * 2)).add j = ⟨b, off + i * 2 + j, none⟩ := fun j => by rw [Addr.add_lit, Addr.add_lit]
      refine ⟨?_, ?_, h1 q (List.mem_of_getElem? hq)⟩
      · have := hh 0 (by omega); rw [ad] at this; exact this
      · have := hh 1 (by omega); rw [ad] at this; exact this
theorem open_puts6 {H : Type} {enc : TypeId × Value → H} {W : World} {a : Option Addr} {len cap : Nat} {d : DataW H} {p : List MemPlace} {fuel : Nat}
    (hf : DataW.trod enc Tryz.prog W 0 (fun _ => true) true fuel 22 [.slice a len cap] = some (d, p)) (hz : ∀ n ∈ d.weights Tryz.prog 22, n ≤ reachBytes) :
    ∃ L : List (Int × Int), L.length = len ∧ PtsAt W a L := by
  obtain ⟨a', cap', L, hcs, hL⟩ := open_pts6 hf hz
  simp only [List.cons.injEq, Value.slice.injEq, and_true] at hcs
  obtain ⟨rfl, rfl, rfl⟩ := hcs
  exact ⟨L, rfl, hL⟩
end Go.Proofs.YtcdggcdkjooohaaGreatDoor
