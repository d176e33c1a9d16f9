import Derived.Test.YtlgjkmfekkegbaaBtL
import Derived.Test.YtlgjkmfekkegbaaOp8
namespace Go.Proofs.Ytlgjkmfekkegbaa
open Go.RowKit Rec Go.ChangeShapes Go.WideShapes Go.ChangeAt

/-- one op of a script -/
structure OpR where
  kd : Int
  i : Int
  t : Int
  on : Bool
/-- a script in memory -/
structure Ops (w : World) (a : Option Addr) (L : List OpR) : Prop where
  at_ : L = [] ∨ ∃ b off, a = some ⟨b, off, none⟩ ∧ ∀ i q, L[i]? = some q → w.cell? ⟨b, off + i * 4, none⟩ = some (.int .i64 q.kd) ∧ w.cell? ⟨b, off + i * 4 + 1, none⟩ = some (.int .i64 q.i) ∧ w.cell? ⟨b, off + i * 4 + 2, none⟩ = some (.int .i64 q.t) ∧ w.cell? ⟨b, off + i * 4 + 3, none⟩ = some (.bool q.on)
  ok : ∀ q ∈ L, q.i ≤ 9223372036854775807
  len : L.length ≤ 9000000000000000000
theorem Ops.on {w w' : World} {a : Option Addr} {L : List OpR} (h : Ops w a L) (hb : Below w.heap.size w w') : Ops w' a L := by
  refine ⟨?_, h.ok, h.len⟩
  rcases h.at_ with e | ⟨b, off, rfl, hc⟩
  · exact .inl e
  · refine .inr ⟨b, off, rfl, fun i q hq => ?_⟩
    obtain ⟨h0, h1, h2, h3⟩ := hc i q hq
    exact ⟨(hb.cell (block_lt_of_cell h0)).trans h0, (hb.cell (block_lt_of_cell h1)).trans h1, (hb.cell (block_lt_of_cell h2)).trans h2, (hb.cell (block_lt_of_cell h3)).trans h3⟩
theorem list4 {α : Type} (l : List α) (h : l.length = 4) : ∃ a b c d, l = [a, b, c, d] := by
  match l, h with
  | [a, b, c, d], _ => exact ⟨a, b, c, d, rfl⟩
theorem cellsOp : Try.prog.cellsOf 47 = 4 := by kernel_rfl
theorem cellsBo : Try.prog.cellsOf 4 = 1 := by kernel_rfl
theorem bytesOp : Try.prog.bytesOf 47 = 32 := by kernel_rfl
theorem open_op {H : Type} {enc : TypeId × Value → H} {W : World} {cs : List Value} {D : DataW H} {Pl : List MemPlace} {fuel : Nat}
    (hf : DataW.trod enc Try.prog W 0 (fun _ => true) true fuel 47 cs = some (D, Pl)) :
    ∃ q : OpR, q.i ≤ 9223372036854775807 ∧ cs = [.int .i64 q.kd, .int .i64 q.i, .int .i64 q.t, .bool q.on] := by
  obtain ⟨xs, m, _, hx, hlen, hxl, hel⟩ := DataW.trod_struct Try.underlying47 hf
  rw [cellsOp] at hlen
  obtain ⟨v0, v1, v2, v3, rfl⟩ := list4 cs hlen
  obtain ⟨x0, x1, x2, x3, rfl⟩ := list4 xs hxl
  have e0 := hel 0 _ rfl
  have e1 := hel 1 _ rfl
  have e2 := hel 2 _ rfl
  have e3 := hel 3 _ rfl
  clear hel
  simp [cellsN, cellsBo] at e0 e1 e2 e3
  obtain ⟨b, z0, _, _⟩ := DataW.trod_int Try.underlying3 e0
  obtain ⟨x, z1, _, wx⟩ := DataW.trod_int Try.underlying3 e1
  obtain ⟨y, z2, _, _⟩ := DataW.trod_int Try.underlying3 e2
  obtain ⟨fl, z3, _⟩ := DataW.trod_bool Try.underlying4 e3
  simp at z0 z1 z2 z3
  subst z0 z1 z2 z3
  exact ⟨⟨b, x, y, fl⟩, (wf_i64 wx).2, rfl⟩
theorem recs_list {R : Type} (sz : Nat) (cells : R → List Value) (ok : R → Prop) (W : World) (x : Addr) (len : Nat) (hex : ∀ i, i < len → ∃ q : R, ok q ∧ ∀ j, j < sz → W.cell? ((x.add (i * sz)).add j) = (cells q)[j]?) :
    ∀ k, k ≤ len → ∃ L : List R, L.length = k ∧ (∀ q ∈ L, ok q) ∧ ∀ i q, L[i]? = some q → ∀ j, j < sz → W.cell? ((x.add (i * sz)).add j) = (cells q)[j]?
  | 0, _ => ⟨[], rfl, fun q h => by simp at h, fun i q h => by simp at h⟩
  | k + 1, hk => by
    obtain ⟨L, hl, h1, h2⟩ := recs_list sz cells ok W x len hex k (by omega)
    obtain ⟨q, q1, q2⟩ := hex k (by omega)
    refine ⟨L ++ [q], by simp [hl], fun r hr => ?_, fun i r hr => ?_⟩
    · rcases List.mem_append.1 hr with h | h
      · exact h1 r h
      · simp at h; subst h; exact q1
    · by_cases hi : i < L.length
      · rw [List.getElem?_append_left hi] at hr; exact h2 i r hr
      · rw [List.getElem?_append_right (by omega)] at hr
        have : i - L.length = 0 := by
          by_cases h : i - L.length = 0
          · exact h
          · rw [List.getElem?_eq_none (by simp; omega)] at hr; cases hr
        rw [this] at hr
        simp at hr
        subst hr
        have e : i = k := by omega
        rw [e]; exact q2
/-- a []Op among the arguments -/
theorem open_ops {H : Type} {enc : TypeId × Value → H} {W : World} {a : Option Addr} {len cap : Nat} {d : DataW H} {p : List MemPlace} {fuel : Nat}
    (hf : DataW.trod enc Try.prog W 0 (fun _ => true) true fuel 44 [.slice a len cap] = some (d, p)) (hz : ∀ n ∈ d.weights Try.prog 44, n ≤ reachBytes) :
    ∃ L : List OpR, L.length = len ∧ len ≤ cap ∧ Ops W a L := by
  rcases Deep.open_slice Try.underlying44 hf with ⟨hcs, _⟩ | ⟨x, len', cap', m, n, D, Pl, hcs, _, hl, hm, hmm, hx, hel⟩
  · simp at hcs
    obtain ⟨rfl, rfl, rfl⟩ := hcs
    exact ⟨[], rfl, Nat.le_refl _, ⟨.inl rfl, fun q h => by simp at h, by simp⟩⟩
  · simp only [List.cons.injEq, Value.slice.injEq, and_true] at hcs
    obtain ⟨rfl, rfl, rfl⟩ := hcs
    simp only [Prod.mk.injEq] at hx
    obtain ⟨rfl, _⟩ := hx
    simp only [if_true] at hmm
    subst hmm
    have hlen : len ≤ 9000000000000000000 := by
      have h2 := hz ((((List.range len).map D).length + ((List.range (m - len)).map fun j => D (len + j)).length) * Try.prog.bytesOf 47) (by simp [DataW.weights, Try.underlying44])
      rw [bytesOp] at h2
      simp [reachBytes] at h2
      omega
    have hex : ∀ i, i < len → ∃ q : OpR, q.i ≤ 9223372036854775807 ∧ ∀ j, j < 4 → W.cell? ((x.add (i * 4)).add j) = [Value.int .i64 q.kd, .int .i64 q.i, .int .i64 q.t, .bool q.on][j]? := by
      intro i hi
      obtain ⟨cs', hc1, hc2⟩ := hel i (by omega)
      rw [cellsOp] at hc1
      obtain ⟨q, q1, rfl⟩ := open_op hc2
      obtain ⟨_, _, hcell⟩ := World.cells?_some hc1
      exact ⟨q, q1, hcell⟩
    obtain ⟨L, hL, h1, h2⟩ := recs_list 4 (fun q : OpR => [Value.int .i64 q.kd, .int .i64 q.i, .int .i64 q.t, .bool q.on]) (fun q => q.i ≤ 9223372036854775807) W x len hex len (Nat.le_refl _)
    refine ⟨L, hL, hl, ⟨?_, h1, by omega⟩⟩
    by_cases h0 : len = 0
    · exact .inl (List.eq_nil_of_length_eq_zero (by omega))
    · obtain ⟨q, _, q1⟩ := hex 0 (by omega)
      have c0 := q1 0 (by omega)
      obtain ⟨b, off, spot⟩ := x
      have hspot : spot = none := by
        have := World.cell?_spot (w := W) (show W.cell? _ = some _ from c0)
        simpa [Addr.add] using this
      subst hspot
      refine .inr ⟨b, off, rfl, fun i q hq => ?_⟩
      have hh := h2 i q hq
      have ad : ∀ j, ((⟨b, off, none⟩ : Addr).add (i * 4)).add j = ⟨b, off + i * 4 + j, none⟩ := fun j => by rw [Addr.add_lit, Addr.add_lit]
      refine ⟨?_, ?_, ?_, ?_⟩
      · have := hh 0 (by omega); rw [ad] at this; exact this
      · have := hh 1 (by omega); rw [ad] at this; exact this
      · have := hh 2 (by omega); rw [ad] at this; exact this
      · have := hh 3 (by omega); rw [ad] at this; exact this
end Go.Proofs.Ytlgjkmfekkegbaa
