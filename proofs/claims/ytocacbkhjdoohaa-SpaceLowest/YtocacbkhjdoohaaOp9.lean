import Derived.Test.YtocacbkhjdoohaaKFr8
import Derived.Test.YtocacbkhjdoohaaKEight
import Derived.SizedLaws
import Derived.Lib.SmallJoins
import Derived.Deep.Slices
namespace Go.Proofs.Ytocacbkhjdoohaa
open Rec Go.ChangeShapes Go.WideShapes Go.ChangeAt Go.RowKit

theorem nth_wf {l : List Int} (h : ∀ c ∈ l, 0 ≤ c ∧ c < 256) (i : Nat) : 0 ≤ nth l i ∧ nth l i < 256 := by
  unfold nth
  by_cases hi : i < l.length
  · have : l.getD i 0 = l[i] := by simp [List.getD, hi]
    rw [this]; exact h _ (List.getElem_mem hi)
  · have : l.getD i 0 = 0 := by simp [List.getD, hi]
    rw [this]; omega
theorem cells5 : Try.prog.cellsOf 5 = 1 := by kernel_rfl
theorem bytes5 : Try.prog.bytesOf 5 = 1 := by kernel_rfl
theorem wf_u8 {x : Int} (h : (Lit.int .u8 x).wf = true) : 0 ≤ x ∧ x < 256 := by
  have hmin : IntKind.u8.min = 0 := rfl
  have hmax : IntKind.u8.max = 255 := rfl
  simp only [Lit.wf, Bool.and_eq_true, decide_eq_true_eq] at h
  omega
theorem open_bytes {H : Type} {enc : TypeId × Value → H} {W : World} {a : Option Addr} {len cap : Nat} {d : DataW H} {p : List MemPlace} {fuel : Nat}
    (hf : DataW.trod enc Try.prog W 0 (fun _ => true) true fuel 24 [.slice a len cap] = some (d, p)) (hz : ∀ n ∈ d.weights Try.prog 24, n ≤ reachBytes) :
    ∃ l : List Int, l.length = len ∧ Bytes W a l ∧ (a = none → cap = 0) ∧ len ≤ 140737488351232 ∧ len ≤ cap := by
  rcases open_ints Try.underlying24 Try.underlying5 cells5 hf with ⟨hcs, _⟩ | ⟨x, l, c, zs, hcs, _, hl, hm, hlen, hx, hcell, hwz⟩
  · simp at hcs
    obtain ⟨rfl, rfl, rfl⟩ := hcs
    exact ⟨[], rfl, ⟨by simp, fun i => by simp [nth], .inl rfl⟩, fun _ => rfl, by omega, Nat.le_refl _⟩
  · simp only [List.cons.injEq, Value.slice.injEq, and_true] at hcs
    obtain ⟨rfl, rfl, rfl⟩ := hcs
    simp only [Prod.mk.injEq] at hx
    obtain ⟨rfl, _⟩ := hx
    simp only [if_true] at hlen
    have hb : cap ≤ 140737488351232 := by
      have h1 := hz ((lits (H := H) .u8 (zs.take len)).length + (lits (H := H) .u8 (zs.drop len)).length) (by simp [DataW.weights, Try.underlying24, bytes5])
      simp [lits, reachBytes] at h1
      omega
    refine ⟨zs.take len, by simp; omega, ⟨by simp; omega, nth_wf fun n hn => wf_u8 (hwz n (List.mem_of_mem_take hn)), ?_⟩, fun h => (nomatch h), by omega, hl⟩
    by_cases h0 : len = 0
    · exact .inl (by simp [h0])
    · obtain ⟨b, off, rfl, hc⟩ := ints_at hcell (by omega)
      refine .inr ⟨b, off, rfl, fun i hi => ?_⟩
      have hi' : i < len := by simp at hi; omega
      rw [hc i (by omega)]
      have e : nth (zs.take len) i = zs.getD i 0 := by simp [nth, List.getD, hi']
      rw [e]
theorem wf_i64 {x : Int} (h : (Lit.int .i64 x).wf = true) : -9223372036854775808 ≤ x ∧ x ≤ 9223372036854775807 := by
  have hmin : IntKind.i64.min = -9223372036854775808 := rfl
  have hmax : IntKind.i64.max = 9223372036854775807 := rfl
  simp only [Lit.wf, Bool.and_eq_true, decide_eq_true_eq] at h
  omega

theorem bytesI : Try.prog.bytesOf 3 = 8 := by kernel_rfl
theorem cellsN : Try.prog.cellsOf 3 = 1 := by kernel_rfl
theorem open_nums {H : Type} {enc : TypeId × Value → H} {W : World} {a : Option Addr} {len cap : Nat} {d : DataW H} {p : List MemPlace} {fuel : Nat}
    (hf : DataW.trod enc Try.prog W 0 (fun _ => true) true fuel 22 [.slice a len cap] = some (d, p)) (hz : ∀ n ∈ d.weights Try.prog 22, n ≤ reachBytes) :
    ∃ l : List Int, l.length = len ∧ Ints W a l ∧ (∀ i, -9223372036854775808 ≤ nth l i ∧ nth l i ≤ 9223372036854775807) ∧ len ≤ cap ∧ (a = none → cap = 0) ∧ len ≤ 17592186043904 := by
  rcases open_ints Try.underlying22 Try.underlying3 cellsN hf with ⟨hcs, _⟩ | ⟨x, l, c, zs, hcs, _, hl, hm, hlen, hx, hcell, hwz⟩
  · simp at hcs
    obtain ⟨rfl, rfl, rfl⟩ := hcs
    exact ⟨[], rfl, ⟨by simp, .inl rfl⟩, fun i => by simp [nth], Nat.le_refl _, fun _ => rfl, by omega⟩
  · simp only [List.cons.injEq, Value.slice.injEq, and_true] at hcs
    obtain ⟨rfl, rfl, rfl⟩ := hcs
    simp only [Prod.mk.injEq] at hx
    obtain ⟨rfl, _⟩ := hx
    simp only [if_true] at hlen
    have hb : cap ≤ 17592186043904 := by
      have h1 := hz (((lits (H := H) .i64 (zs.take len)).length + (lits (H := H) .i64 (zs.drop len)).length) * 8) (by simp [DataW.weights, Try.underlying22, bytesI])
      simp [lits, reachBytes] at h1
      omega
    refine ⟨zs.take len, by simp; omega, ⟨by simp; omega, ?_⟩, fun i => ?_, hl, fun h => (nomatch h), by omega⟩
    · by_cases h0 : len = 0
      · exact .inl (by simp [h0])
      · obtain ⟨b, off, rfl, hc⟩ := ints_at hcell (by omega)
        refine .inr ⟨b, off, rfl, fun i hi => ?_⟩
        have hi' : i < len := by simp at hi; omega
        rw [hc i (by omega)]
        have e : nth (zs.take len) i = zs.getD i 0 := by simp [nth, List.getD, hi']
        rw [e]
    · by_cases hi : i < (zs.take len).length
      · have e : nth (zs.take len) i = (zs.take len)[i] := by unfold nth; rw [List.getD_eq_getElem?_getD, List.getElem?_eq_getElem hi]; rfl
        rw [e]
        exact wf_i64 (hwz _ (List.mem_of_mem_take (List.getElem_mem hi)))
      · rw [nth_out _ _ (by omega)]; omega
end Go.Proofs.Ytocacbkhjdoohaa
