import Derived.Test.YtpbpblpbjkegfaaKFr8
import Derived.Test.YtpbpblpbjkegfaaKEight
import Derived.SizedLaws
import Derived.Lib.SmallJoins
import Derived.Deep.Slices
namespace Go.Proofs.Ytpbpblpbjkegfaa
open Rec Go.ChangeShapes Go.WideShapes Go.ChangeAt Go.RowKit

theorem nth_wf {l : List Int} (h : ∀ c ∈ l, 0 ≤ c ∧ c < 256) (i : Nat) : 0 ≤ nth l i ∧ nth l i < 256 := by
  unfold nth
  by_cases hi : i < l.length
  · have : l.getD i 0 = l[i] := by simp [List.getD, hi]
    rw [this]; exact h _ (List.getElem_mem hi)
  · have : l.getD i 0 = 0 := by simp [List.getD, hi]
    rw [this]; omega
theorem cells5 : Try.prog.cellsOf 5 = 1 := by kernel_rfl
theorem bytes5 : Try.prog.bytesOf 5 = 1 := by kernel_rfl
theorem wf_u8 {x : Int} (h : (Lit.int .u8 x).wf = true) : 0 ≤ x ∧ x < 256 := by
  have hmin : IntKind.u8.min = 0 := rfl
  have hmax : IntKind.u8.max = 255 := rfl
  simp only [Lit.wf, Bool.and_eq_true, decide_eq_true_eq] at h
  omega
theorem open_bytes {H : Type} {enc : TypeId × Value → H} {W : World} {a : Option Addr} {len cap : Nat} {d : DataW H} {p : List MemPlace} {fuel : Nat}
    (hf : DataW.trod enc Try.prog W 0 (fun _ => true) true fuel 22 [.slice a len cap] = some (d, p)) (hz : ∀ n ∈ d.weights Try.prog 22, n ≤ reachBytes) :
    ∃ l : List Int, l.length = len ∧ Bytes W a l ∧ (a = none → cap = 0) ∧ len ≤ 140737488351232 ∧ len ≤ cap := by
  rcases open_ints Try.underlying22 Try.underlying5 cells5 hf with ⟨hcs, _⟩ | ⟨x, l, c, zs, hcs, _, hl, hm, hlen, hx, hcell, hwz⟩
  · simp at hcs
    obtain ⟨rfl, rfl, rfl⟩ := hcs
    exact ⟨[], rfl, ⟨by simp, fun i => by simp [nth], .inl rfl⟩, fun _ => rfl, by omega, Nat.le_refl _⟩
  · simp only [List.cons.injEq, Value.slice.injEq, and_true] at hcs
    obtain ⟨rfl, rfl, rfl⟩ := hcs
    simp only [Prod.mk.injEq] at hx
    obtain ⟨rfl, _⟩ := hx
    simp only [if_true] at hlen
    have hb : cap ≤ 140737488351232 := by
      have h1 := hz ((lits (H := H) .u8 (zs.take len)).length + (lits (H := H) .u8 (zs.drop len)).length) (by simp [DataW.weights, Try.underlying22, bytes5])
      simp [lits, reachBytes] at h1
      omega
    refine ⟨zs.take len, by simp; omega, ⟨by simp; omega, nth_wf fun n hn => wf_u8 (hwz n (List.mem_of_mem_take hn)), ?_⟩, fun h => (nomatch h), by omega, hl⟩
    by_cases h0 : len = 0
    · exact .inl (by simp [h0])
    · obtain ⟨b, off, rfl, hc⟩ := ints_at hcell (by omega)
      refine .inr ⟨b, off, rfl, fun i hi => ?_⟩
      have hi' : i < len := by simp at hi; omega
      rw [hc i (by omega)]
      have e : nth (zs.take len) i = zs.getD i 0 := by simp [nth, List.getD, hi']
      rw [e]
theorem wf_i64 {x : Int} (h : (Lit.int .i64 x).wf = true) : -9223372036854775808 ≤ x ∧ x ≤ 9223372036854775807 := by
  have hmin : IntKind.i64.min = -9223372036854775808 := rfl
  have hmax : IntKind.i64.max = 9223372036854775807 := rfl
  simp only [Lit.wf, Bool.and_eq_true, decide_eq_true_eq] at h
  omega

theorem bytesI : Try.prog.bytesOf 3 = 8 := by kernel_rfl
theorem cellsN : Try.prog.cellsOf 3 = 1 := by kernel_rfl
theorem open_nums {H : Type} {enc : TypeId × Value → H} {W : World} {a : Option Addr} {len cap : Nat} {d : DataW H} {p : List MemPlace} {fuel : Nat}
    (hf : DataW.trod enc Try.prog W 0 (fun _ => true) true fuel 34 [.slice a len cap] = some (d, p)) (hz : ∀ n ∈ d.weights Try.prog 34, n ≤ reachBytes) :
    ∃ l : List Int, l.length = len ∧ Ints W a l ∧ (∀ i, -9223372036854775808 ≤ nth l i ∧ nth l i ≤ 9223372036854775807) ∧ len ≤ cap ∧ (a = none → cap = 0) ∧ len ≤ 17592186043904 := by
  rcases open_ints Try.underlying34 Try.underlying3 cellsN hf with ⟨hcs, _⟩ | ⟨x, l, c, zs, hcs, _, hl, hm, hlen, hx, hcell, hwz⟩
  · simp at hcs
    obtain ⟨rfl, rfl, rfl⟩ := hcs
    exact ⟨[], rfl, ⟨by simp, .inl rfl⟩, fun i => by simp [nth], Nat.le_refl _, fun _ => rfl, by omega⟩
  · simp only [List.cons.injEq, Value.slice.injEq, and_true] at hcs
    obtain ⟨rfl, rfl, rfl⟩ := hcs
    simp only [Prod.mk.injEq] at hx
    obtain ⟨rfl, _⟩ := hx
    simp only [if_true] at hlen
    have hb : cap ≤ 17592186043904 := by
      have h1 := hz (((lits (H := H) .i64 (zs.take len)).length + (lits (H := H) .i64 (zs.drop len)).length) * 8) (by simp [DataW.weights, Try.underlying34, bytesI])
      simp [lits, reachBytes] at h1
      omega
    refine ⟨zs.take len, by simp; omega, ⟨by simp; omega, ?_⟩, fun i => ?_, hl, fun h => (nomatch h), by omega⟩
    · by_cases h0 : len = 0
      · exact .inl (by simp [h0])
      · obtain ⟨b, off, rfl, hc⟩ := ints_at hcell (by omega)
        refine .inr ⟨b, off, rfl, fun i hi => ?_⟩
        have hi' : i < len := by simp at hi; omega
        rw [hc i (by omega)]
        have e : nth (zs.take len) i = zs.getD i 0 := by simp [nth, List.getD, hi']
        rw [e]
    · by_cases hi : i < (zs.take len).length
      · have e : nth (zs.take len) i = (zs.take len)[i] := by unfold nth; rw [List.getD_eq_getElem?_getD, List.getElem?_eq_getElem hi]; rfl
        rw [e]
        exact wf_i64 (hwz _ (List.mem_of_mem_take (List.getElem_mem hi)))
      · rw [nth_out _ _ (by omega)]; omega
end Go.Proofs.Ytpbpblpbjkegfaa

namespace Go.Proofs.Ytpbpblpbjkegfaa
open Rec Go.ChangeShapes Go.WideShapes Go.ChangeAt Go.RowKit

theorem list4c {α : Type} (l : List α) (h : l.length = 4) : ∃ a b c d, l = [a, b, c, d] := by
  match l, h with
  | [a, b, c, d], _ => exact ⟨a, b, c, d, rfl⟩
theorem cellsCs : Try.prog.cellsOf 25 = 4 := by kernel_rfl
theorem cellsBs : Try.prog.cellsOf 22 = 1 := by kernel_rfl
theorem cellsOs : Try.prog.cellsOf 23 = 1 := by kernel_rfl
set_option maxRecDepth 100000 in
theorem okWide_case {W : World} {base : Nat} {v : Value} (h : Value.okWide Try.prog W .any base 25 v) : ∃ cs, v = .agg cs := by
  obtain ⟨cs, h1, _⟩ := okWide_struct Try.underlying25 h
  exact ⟨cs, h1⟩
/-- a Case among the arguments -/
theorem open_case {H : Type} {enc : TypeId × Value → H} {W : World} {v : Value} {D : DataW H} {Pl : List MemPlace} {fuel : Nat} (hv : ∃ cs, v = .agg cs)
    (hf : DataW.trod enc Try.prog W 0 (fun _ => true) true fuel 25 v.cells.toList = some (D, Pl)) (hz : ∀ n ∈ D.weights Try.prog 25, n ≤ reachBytes) :
    ∃ (N : Int) (ba : Option Addr) (bl bc : Nat) (r : Int) (sa : Option Addr) (sl sc : Nat) (bs : List Int), v = .agg #[.int .i64 N, .slice ba bl bc, .int .u8 r, .slice sa sl sc] ∧ (-9223372036854775808 ≤ N ∧ N ≤ 9223372036854775807) ∧ (0 ≤ r ∧ r < 256) ∧ Bytes W ba bs ∧ bs.length = bl := by
  obtain ⟨cs, rfl⟩ := hv
  obtain ⟨xs, m, hm, hx, hlen, hxl, hel⟩ := DataW.trod_struct Try.underlying25 hf
  rw [cellsCs] at hlen
  obtain ⟨v0, v1, v2, v3, hcs⟩ := list4c _ hlen
  obtain ⟨x0, x1, x2, x3, rfl⟩ := list4c xs hxl
  rw [hcs] at hel
  have e0 := hel 0 _ rfl
  have e1 := hel 1 _ rfl
  have e2 := hel 2 _ rfl
  have e3 := hel 3 _ rfl
  clear hel
  simp [cellsN, cells5, cellsBs, cellsOs] at e0 e1 e2 e3
  obtain ⟨N, z0, _, w0⟩ := DataW.trod_int Try.underlying3 e0
  obtain ⟨r, z2, _, w2⟩ := DataW.trod_int Try.underlying5 e2
  have h1 : ∃ a len cap, [v1] = [Value.slice a len cap] := by
    rcases open_ints Try.underlying22 Try.underlying5 cells5 e1 with ⟨hcs, _⟩ | ⟨x, l, c, zs, hcs, _⟩
    · exact ⟨_, _, _, hcs⟩
    · exact ⟨_, _, _, hcs⟩
  have h3 : ∃ a len cap, [v3] = [Value.slice a len cap] := by
    rcases Deep.open_slice Try.underlying23 e3 with ⟨hcs, _⟩ | ⟨x, l, c, m, n, D, Pl, hcs, _⟩
    · exact ⟨_, _, _, hcs⟩
    · exact ⟨_, _, _, hcs⟩
  obtain ⟨a1, n1, c1, h1⟩ := h1
  obtain ⟨a3, n3, c3, h3⟩ := h3
  simp at z0 z2 h1 h3
  subst z0 z2 h1 h3
  have hD : D = .agg [x0.1, x1.1, x2.1, x3.1] := (Prod.mk.inj hx).1
  subst hD
  have w1 : ∀ n ∈ x1.1.weights Try.prog 22, n ≤ reachBytes := fun n hn => hz n (by
    simp only [DataW.weights, Try.underlying25, List.map_cons, List.map_nil, DataW.weightsEach]
    exact List.mem_append_right _ (List.mem_append_left _ hn))
  obtain ⟨bs, t1, t2, _⟩ := open_bytes e1 w1
  have hc : cs = #[.int .i64 N, .slice a1 n1 c1, .int .u8 r, .slice a3 n3 c3] := by
    cases cs with
    | mk l =>
      have : l = [.int .i64 N, .slice a1 n1 c1, .int .u8 r, .slice a3 n3 c3] := hcs
      rw [this]
  exact ⟨N, a1, n1, c1, r, a3, n3, c3, bs, by rw [hc], wf_i64 w0, wf_u8 w2, t2, t1⟩
end Go.Proofs.Ytpbpblpbjkegfaa
