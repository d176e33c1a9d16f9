import Derived.Test.YtaaeahpmnfifiaaDoorOp14
namespace Go.Proofs.YtaaeahpmnfifiaaDoor
open Rec Go.ChangeShapes Go.WideShapes Go.ChangeAt Go.RowKit
/-- one call of a script: kind, entry, place, byte -/
abbrev OT := Int × ET × Int × Int
abbrev otC (q : OT) : List Value := [.int .i64 q.1, .int .i64 q.2.1.1, .string q.2.1.2.1, .int .i64 q.2.1.2.2, .int .i64 q.2.2.1, .int .u8 q.2.2.2]
def OtOk (q : OT) : Prop := q.2.1.2.1.size ≤ 9223372036854775807 ∧ (0 ≤ q.2.2.2 ∧ q.2.2.2 < 256)
def OpsAt (w : World) (a : Option Addr) (L : List OT) : Prop := (∀ q, q ∈ L → OtOk q) ∧ (L = [] ∨ ∃ b off, a = some ⟨b, off, none⟩ ∧ ∀ k q, L[k]? = some q → ∀ j, j < 6 → w.cell? ⟨b, off + k * 6 + j, none⟩ = (otC q)[j]?)
theorem OpsAt.at {w : World} {a : Option Addr} {L : List OT} (h : OpsAt w a L) {k : Nat} (hk : k < L.length) {wx : World} (hb : Below w.heap.size w wx) : ∃ b off, ∃ q : OT, a = some ⟨b, off, none⟩ ∧ OtOk q ∧ wx.cell? ⟨b, off + k * 6, none⟩ = some (.int .i64 q.1) ∧ wx.cell? ⟨b, off + k * 6 + 1, none⟩ = some (.int .i64 q.2.1.1) ∧ wx.cell? ⟨b, off + k * 6 + 2, none⟩ = some (.string q.2.1.2.1) ∧ wx.cell? ⟨b, off + k * 6 + 3, none⟩ = some (.int .i64 q.2.1.2.2) ∧ wx.cell? ⟨b, off + k * 6 + 4, none⟩ = some (.int .i64 q.2.2.1) ∧ wx.cell? ⟨b, off + k * 6 + 5, none⟩ = some (.int .u8 q.2.2.2) := by
  obtain ⟨h0, h⟩ := h
  rcases h with h | ⟨b, off, e, hc⟩
  · subst h; cases hk
  · have hh := hc k _ (List.getElem?_eq_getElem hk)
    have t : ∀ j v, j < 6 → (otC L[k])[j]? = some v → wx.cell? ⟨b, off + k * 6 + j, none⟩ = some v := fun j v hj hv => by
      have h1 := (hh j hj).trans hv
      exact (hb.cell (block_lt_of_cell h1)).trans h1
    exact ⟨b, off, L[k], e, h0 _ (List.getElem_mem _), t 0 _ (by omega) rfl, t 1 _ (by omega) rfl, t 2 _ (by omega) rfl, t 3 _ (by omega) rfl, t 4 _ (by omega) rfl, t 5 _ (by omega) rfl⟩
theorem list6 {α : Type} (l : List α) (h : l.length = 6) : ∃ a b c d e f, l = [a, b, c, d, e, f] := by
  match l, h with
  | [a, b, c, d, e, f], _ => exact ⟨a, b, c, d, e, f, rfl⟩
theorem cellsOp : Tryd.prog.cellsOf 60 = 6 := by kernel_rfl
theorem bytesOp : Tryd.prog.bytesOf 60 = 56 := by kernel_rfl
theorem open_op {H : Type} {enc : TypeId × Value → H} {W : World} {cs : List Value} {D : DataW H} {Pl : List MemPlace} {fuel : Nat}
    (hf : DataW.trod enc Tryd.prog W 0 (fun _ => true) true fuel 60 cs = some (D, Pl)) :
    ∃ q : OT, OtOk q ∧ cs = otC q := by
  obtain ⟨xs, m, _, hx, hlen, hxl, hel⟩ := DataW.trod_struct Tryd.underlying60 hf
  rw [cellsOp] at hlen
  obtain ⟨v0, v1, v2, v3, v4, v5, rfl⟩ := list6 cs hlen
  obtain ⟨x0, x1, x2, x3, rfl⟩ := list4 xs hxl
  have e0 := hel 0 _ rfl
  have e1 := hel 1 _ rfl
  have e2 := hel 2 _ rfl
  have e3 := hel 3 _ rfl
  clear hel
  simp [cellsN, cellsEn, cells5] at e0 e1 e2 e3
  obtain ⟨b, z0, _, _⟩ := DataW.trod_int Tryd.underlying3 e0
  obtain ⟨D1, P1⟩ := x1
  obtain ⟨q, hs, _, _, z1⟩ := open_en e1
  obtain ⟨y, z2, _, _⟩ := DataW.trod_int Tryd.underlying3 e2
  obtain ⟨u, z3, _, w3⟩ := DataW.trod_int Tryd.underlying5 e3
  simp at z0 z1 z2 z3
  obtain ⟨rfl, rfl, rfl⟩ := z1
  subst z0 z2 z3
  exact ⟨(b, q, y, u), ⟨hs, wf_u8 w3⟩, rfl⟩
theorem open_ops {H : Type} {enc : TypeId × Value → H} {W : World} {a : Option Addr} {len cap : Nat} {d : DataW H} {p : List MemPlace} {fuel : Nat}
    (hf : DataW.trod enc Tryd.prog W 0 (fun _ => true) true fuel 54 [.slice a len cap] = some (d, p)) (hz : ∀ n ∈ d.weights Tryd.prog 54, n ≤ reachBytes) :
    ∃ L : List OT, L.length = len ∧ OpsAt W a L ∧ len ≤ 3000000000000 := by
  rcases Deep.open_slice Tryd.underlying54 hf with ⟨hcs, _⟩ | ⟨x, len', cap', m, n, D, Pl, hcs, _, hl, hm, hmm, hx, hel⟩
  · simp at hcs
    obtain ⟨rfl, rfl, rfl⟩ := hcs
    exact ⟨[], rfl, ⟨fun q h => by simp at h, .inl rfl⟩, by omega⟩
  · simp only [List.cons.injEq, Value.slice.injEq, and_true] at hcs
    obtain ⟨rfl, rfl, rfl⟩ := hcs
    simp only [Prod.mk.injEq] at hx
    obtain ⟨rfl, _⟩ := hx
    simp only [if_true] at hmm
    subst hmm
    have hlen : len ≤ 3000000000000 := by
      have h2 := hz ((((List.range len).map D).length + ((List.range (m - len)).map fun j => D (len + j)).length) * Tryd.prog.bytesOf 60) (by simp [DataW.weights, Tryd.underlying54])
      rw [bytesOp] at h2
      simp [reachBytes] at h2
      omega
    have hex : ∀ i, i < len → ∃ q : OT, OtOk q ∧ ∀ j, j < 6 → W.cell? ((x.add (i * 6)).add j) = (otC q)[j]? := by
      intro i hi
      obtain ⟨cs', hc1, hc2⟩ := hel i (by omega)
      rw [cellsOp] at hc1
      obtain ⟨q, q1, rfl⟩ := open_op hc2
      obtain ⟨_, _, hcell⟩ := World.cells?_some hc1
      exact ⟨q, q1, hcell⟩
    obtain ⟨L, hL, h1, h2⟩ := recs_list 6 otC OtOk W x len hex len (Nat.le_refl _)
    refine ⟨L, hL, ⟨h1, ?_⟩, hlen⟩
    by_cases h0 : len = 0
    · exact .inl (List.eq_nil_of_length_eq_zero (by omega))
    · obtain ⟨q, _, q1⟩ := hex 0 (by omega)
      have c0 := q1 0 (by omega)
      obtain ⟨b, off, spot⟩ := x
      have hspot : spot = none := by
        have := World.cell?_spot (w := W) (show W.cell? _ = some _ from c0)
        simpa [Addr.add] using this
      subst hspot
      refine .inr ⟨b, off, rfl, fun i q hq j hj => ?_⟩
      have hh := h2 i q hq j hj
      rw [Addr.add_lit, Addr.add_lit] at hh
      exact hh
end Go.Proofs.YtaaeahpmnfifiaaDoor
