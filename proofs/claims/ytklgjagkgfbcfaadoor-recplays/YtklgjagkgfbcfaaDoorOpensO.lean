import Derived.Test.YtklgjagkgfbcfaaDoorOpens
import Derived.Test.YtklgjagkgfbcfaaDoorPlayA
import Derived.Deep.Slices
namespace Go.Proofs.YtklgjagkgfbcfaaDoor
open Rec Go.ChangeShapes Go.WideShapes Go.ChangeAt Go.RowKit

theorem list5 {α : Type} (l : List α) (h : l.length = 5) : ∃ a b c d e, l = [a, b, c, d, e] := by
  match l, h with
  | [a, b, c, d, e], _ => exact ⟨a, b, c, d, e, rfl⟩
theorem cells46 : Tryd.prog.cellsOf 46 = 5 := by kernel_rfl
theorem cellsO3 : Tryd.prog.cellsOf 3 = 1 := by kernel_rfl
theorem cellsO23 : Tryd.prog.cellsOf 23 = 1 := by kernel_rfl
theorem cellsO9 : Tryd.prog.cellsOf 9 = 1 := by kernel_rfl
theorem bytes46 : Tryd.prog.bytesOf 46 = 48 := by kernel_rfl
theorem wf_u64 {x : Int} (h : (Lit.int .u64 x).wf = true) : 0 ≤ x ∧ x < 18446744073709551616 := by
  have hmin : IntKind.u64.min = 0 := rfl
  have hmax : IntKind.u64.max = 18446744073709551615 := rfl
  simp only [Lit.wf, Bool.and_eq_true, decide_eq_true_eq] at h
  omega

/-- one op -/
theorem open_op {H : Type} {enc : TypeId × Value → H} {W : World} {cs : List Value} {D : DataW H} {Pl : List MemPlace} {fuel : Nat}
    (hf : DataW.trod enc Tryd.prog W 0 (fun _ => true) true fuel 46 cs = some (D, Pl)) :
    ∃ q : OpR, OpOk q ∧ cs = [.int .i64 q.kind, .int .i64 q.at_, .int .i64 q.n, .int .u64 q.v, .string q.s] := by
  obtain ⟨xs, m, _, hx, hlen, hxl, hel⟩ := DataW.trod_struct Tryd.underlying46 hf
  rw [cells46] at hlen
  obtain ⟨v0, v1, v2, v3, v4, rfl⟩ := list5 cs hlen
  obtain ⟨x0, x1, x2, x3, x4, rfl⟩ := list5 xs hxl
  have e0 := hel 0 _ rfl
  have e1 := hel 1 _ rfl
  have e2 := hel 2 _ rfl
  have e3 := hel 3 _ rfl
  have e4 := hel 4 _ rfl
  clear hel
  simp [cellsO3, cellsO23, cellsO9] at e0 e1 e2 e3 e4
  obtain ⟨kind, z0, _, _⟩ := DataW.trod_int Tryd.underlying3 e0
  obtain ⟨at_, z1, _, wa⟩ := DataW.trod_int Tryd.underlying3 e1
  obtain ⟨n, z2, _, wn⟩ := DataW.trod_int Tryd.underlying3 e2
  obtain ⟨v, z3, _, wv⟩ := DataW.trod_int Tryd.underlying23 e3
  obtain ⟨s, z4, _, ws⟩ := DataW.trod_string Tryd.underlying9 e4
  simp at z0 z1 z2 z3 z4
  subst z0 z1 z2 z3 z4
  exact ⟨⟨kind, at_, n, v, s⟩, ⟨(wf_i64 wa).2, (wf_i64 wn).2, wf_u64 wv, by unfold maxLen at ws; omega⟩, rfl⟩

theorem ops_list (W : World) (x : Addr) (len : Nat) (hex : ∀ i, i < len → ∃ q : OpR, OpOk q ∧ ∀ j, j < 5 → W.cell? ((x.add (i * 5)).add j) = [Value.int .i64 q.kind, .int .i64 q.at_, .int .i64 q.n, .int .u64 q.v, .string q.s][j]?) :
    ∀ k, k ≤ len → ∃ L : List OpR, L.length = k ∧ (∀ q ∈ L, OpOk q) ∧ ∀ i q, L[i]? = some q → ∀ j, j < 5 → W.cell? ((x.add (i * 5)).add j) = [Value.int .i64 q.kind, .int .i64 q.at_, .int .i64 q.n, .int .u64 q.v, .string q.s][j]?
  | 0, _ => ⟨[], rfl, fun q h => by simp at h, fun i q h => by simp at h⟩
  | k + 1, hk => by
    obtain ⟨L, hl, h1, h2⟩ := ops_list W x len hex k (by omega)
    obtain ⟨q, q1, q2⟩ := hex k (by omega)
    refine ⟨L ++ [q], by simp [hl], fun r hr => ?_, fun i r hr => ?_⟩
    · rcases List.mem_append.1 hr with h | h
      · exact h1 r h
      · simp at h; subst h; exact q1
    · by_cases hi : i < L.length
      · rw [List.getElem?_append_left hi] at hr; exact h2 i r hr
      · rw [List.getElem?_append_right (by omega)] at hr
        have : i - L.length = 0 := by
          by_cases h : i - L.length = 0
          · exact h
          · rw [List.getElem?_eq_none (by simp; omega)] at hr; cases hr
        rw [this] at hr
        simp at hr
        subst hr
        have e : i = k := by omega
        rw [e]; exact q2

/-- a []Ask among the arguments -/
theorem open_ops {H : Type} {enc : TypeId × Value → H} {W : World} {a : Option Addr} {len cap : Nat} {d : DataW H} {p : List MemPlace} {fuel : Nat}
    (hf : DataW.trod enc Tryd.prog W 0 (fun _ => true) true fuel 43 [.slice a len cap] = some (d, p)) (hz : ∀ n ∈ d.weights Tryd.prog 43, n ≤ reachBytes) :
    ∃ L : List OpR, L.length = len ∧ len ≤ 2932031007317 ∧ Ops W a L := by
  rcases Deep.open_slice Tryd.underlying43 hf with ⟨hcs, _⟩ | ⟨x, len', cap', m, n, D, Pl, hcs, _, hl, hm, hmm, hx, hel⟩
  · simp at hcs
    obtain ⟨rfl, rfl, rfl⟩ := hcs
    exact ⟨[], rfl, by omega, ⟨.inl rfl, fun q h => by simp at h⟩⟩
  · simp only [List.cons.injEq, Value.slice.injEq, and_true] at hcs
    obtain ⟨rfl, rfl, rfl⟩ := hcs
    simp only [Prod.mk.injEq] at hx
    obtain ⟨rfl, _⟩ := hx
    simp only [if_true] at hmm
    subst hmm
    have hlen : len ≤ 2932031007317 := by
      have h2 := hz ((((List.range len).map D).length + ((List.range (m - len)).map fun j => D (len + j)).length) * Tryd.prog.bytesOf 46) (by simp [DataW.weights, Tryd.underlying43])
      rw [bytes46] at h2
      simp [reachBytes] at h2
      omega
    have hex : ∀ i, i < len → ∃ q : OpR, OpOk q ∧ ∀ j, j < 5 → W.cell? ((x.add (i * 5)).add j) = [Value.int .i64 q.kind, .int .i64 q.at_, .int .i64 q.n, .int .u64 q.v, .string q.s][j]? := by
      intro i hi
      obtain ⟨cs', hc1, hc2⟩ := hel i (by omega)
      rw [cells46] at hc1
      obtain ⟨q, q1, rfl⟩ := open_op hc2
      obtain ⟨_, _, hcell⟩ := World.cells?_some hc1
      exact ⟨q, q1, hcell⟩
    obtain ⟨L, hL, h1, h2⟩ := ops_list W x len hex len (Nat.le_refl _)
    refine ⟨L, hL, hlen, ⟨?_, h1⟩⟩
    by_cases h0 : len = 0
    · exact .inl (List.eq_nil_of_length_eq_zero (by omega))
    · obtain ⟨q, _, q1⟩ := hex 0 (by omega)
      have c0 := q1 0 (by omega)
      obtain ⟨b, off, spot⟩ := x
      have hspot : spot = none := by
        have := World.cell?_spot (w := W) (show W.cell? _ = some _ from c0)
        simpa [Addr.add] using this
      subst hspot
      refine .inr ⟨b, off, rfl, fun i q hq => ?_⟩
      have hh := h2 i q hq
      have ad : ∀ j, ((⟨b, off, none⟩ : Addr).add (i * 5)).add j = ⟨b, off + i * 5 + j, none⟩ := fun j => by rw [Addr.add_lit, Addr.add_lit]
      refine ⟨?_, ?_, ?_, ?_, ?_⟩
      · have := hh 0 (by omega); rw [ad] at this; exact this
      · have := hh 1 (by omega); rw [ad] at this; exact this
      · have := hh 2 (by omega); rw [ad] at this; exact this
      · have := hh 3 (by omega); rw [ad] at this; exact this
      · have := hh 4 (by omega); rw [ad] at this; exact this
end Go.Proofs.YtklgjagkgfbcfaaDoor
