import Derived.Test.YtaaeahpmnfifiaaDoorKFrame
import Derived.SizedLaws
import Derived.Lib.SmallJoins
import Derived.Deep.Slices
import Derived.Test.YtaaeahpmnfifiaaDoorSnL
namespace Go.Proofs.YtaaeahpmnfifiaaDoor
open Rec Go.ChangeShapes Go.WideShapes Go.ChangeAt Go.RowKit
theorem nth_wf {l : List Int} (h : ∀ c ∈ l, 0 ≤ c ∧ c < 256) (i : Nat) : 0 ≤ nth l i ∧ nth l i < 256 := by
  unfold nth
  by_cases hi : i < l.length
  · have : l.getD i 0 = l[i] := by simp [List.getD, hi]
    rw [this]; exact h _ (List.getElem_mem hi)
  · have : l.getD i 0 = 0 := by simp [List.getD, hi]
    rw [this]; omega
theorem cells5 : Tryd.prog.cellsOf 5 = 1 := by kernel_rfl
theorem bytes5 : Tryd.prog.bytesOf 5 = 1 := by kernel_rfl
theorem wf_u8 {x : Int} (h : (Lit.int .u8 x).wf = true) : 0 ≤ x ∧ x < 256 := by
  have hmin : IntKind.u8.min = 0 := rfl
  have hmax : IntKind.u8.max = 255 := rfl
  simp only [Lit.wf, Bool.and_eq_true, decide_eq_true_eq] at h
  omega
/-- a []byte among the arguments -/
theorem open_bytes {H : Type} {enc : TypeId × Value → H} {W : World} {a : Option Addr} {len cap : Nat} {d : DataW H} {p : List MemPlace} {fuel : Nat}
    (hf : DataW.trod enc Tryd.prog W 0 (fun _ => true) true fuel 25 [.slice a len cap] = some (d, p)) (hz : ∀ n ∈ d.weights Tryd.prog 25, n ≤ reachBytes) :
    ∃ l : List Int, l.length = len ∧ Bytes W a l ∧ (a = none → cap = 0) ∧ len ≤ 140737488351232 := by
  rcases open_ints Tryd.underlying25 Tryd.underlying5 cells5 hf with ⟨hcs, _⟩ | ⟨x, l, c, zs, hcs, _, hl, hm, hlen, hx, hcell, hwz⟩
  · simp at hcs
    obtain ⟨rfl, rfl, rfl⟩ := hcs
    exact ⟨[], rfl, ⟨by simp, fun i => by simp [nth], .inl rfl⟩, fun _ => rfl, by omega⟩
  · simp only [List.cons.injEq, Value.slice.injEq, and_true] at hcs
    obtain ⟨rfl, rfl, rfl⟩ := hcs
    simp only [Prod.mk.injEq] at hx
    obtain ⟨rfl, _⟩ := hx
    simp only [if_true] at hlen
    have hb : cap ≤ 140737488351232 := by
      have h1 := hz ((lits (H := H) .u8 (zs.take len)).length + (lits (H := H) .u8 (zs.drop len)).length) (by simp [DataW.weights, Tryd.underlying25, bytes5])
      simp [lits, reachBytes] at h1
      omega
    refine ⟨zs.take len, by simp; omega, ⟨by simp; omega, nth_wf fun n hn => wf_u8 (hwz n (List.mem_of_mem_take hn)), ?_⟩, fun h => (nomatch h), by omega⟩
    by_cases h0 : len = 0
    · exact .inl (by simp [h0])
    · obtain ⟨b, off, rfl, hc⟩ := ints_at hcell (by omega)
      refine .inr ⟨b, off, rfl, fun i hi => ?_⟩
      have hi' : i < len := by simp at hi; omega
      rw [hc i (by omega)]
      have e : nth (zs.take len) i = zs.getD i 0 := by simp [nth, List.getD, hi']
      rw [e]
theorem wf_i64 {x : Int} (h : (Lit.int .i64 x).wf = true) : -9223372036854775808 ≤ x ∧ x ≤ 9223372036854775807 := by
  have hmin : IntKind.i64.min = -9223372036854775808 := rfl
  have hmax : IntKind.i64.max = 9223372036854775807 := rfl
  simp only [Lit.wf, Bool.and_eq_true, decide_eq_true_eq] at h
  omega

theorem bytesI : Tryd.prog.bytesOf 3 = 8 := by kernel_rfl
theorem recs_list {R : Type} (sz : Nat) (cells : R → List Value) (ok : R → Prop) (W : World) (x : Addr) (len : Nat) (hex : ∀ i, i < len → ∃ q : R, ok q ∧ ∀ j, j < sz → W.cell? ((x.add (i * sz)).add j) = (cells q)[j]?) :
    ∀ k, k ≤ len → ∃ L : List R, L.length = k ∧ (∀ q ∈ L, ok q) ∧ ∀ i q, L[i]? = some q → ∀ j, j < sz → W.cell? ((x.add (i * sz)).add j) = (cells q)[j]?
  | 0, _ => ⟨[], rfl, fun q h => by simp at h, fun i q h => by simp at h⟩
  | k + 1, hk => by
    obtain ⟨L, hl, h1, h2⟩ := recs_list sz cells ok W x len hex k (by omega)
    obtain ⟨q, q1, q2⟩ := hex k (by omega)
    refine ⟨L ++ [q], by simp [hl], fun r hr => ?_, fun i r hr => ?_⟩
    · rcases List.mem_append.1 hr with h | h
      · exact h1 r h
      · simp at h; subst h; exact q1
    · by_cases hi : i < L.length
      · rw [List.getElem?_append_left hi] at hr; exact h2 i r hr
      · rw [List.getElem?_append_right (by omega)] at hr
        have : i - L.length = 0 := by
          by_cases h : i - L.length = 0
          · exact h
          · rw [List.getElem?_eq_none (by simp; omega)] at hr; cases hr
        rw [this] at hr
        simp at hr
        subst hr
        have e : i = k := by omega
        rw [e]; exact q2
theorem open_nums {H : Type} {enc : TypeId × Value → H} {W : World} {a : Option Addr} {len cap : Nat} {d : DataW H} {p : List MemPlace} {fuel : Nat}
    (hf : DataW.trod enc Tryd.prog W 0 (fun _ => true) true fuel 23 [.slice a len cap] = some (d, p)) (hz : ∀ n ∈ d.weights Tryd.prog 23, n ≤ reachBytes) :
    ∃ l : List Int, l.length = len ∧ IntAt W a l ∧ (∀ i, -9223372036854775808 ≤ nth l i ∧ nth l i ≤ 9223372036854775807) ∧ len ≤ cap ∧ (a = none → cap = 0) ∧ len ≤ 17592186043904 := by
  rcases open_ints Tryd.underlying23 Tryd.underlying3 cellsN hf with ⟨hcs, _⟩ | ⟨x, l, c, zs, hcs, _, hl, hm, hlen, hx, hcell, hwz⟩
  · simp at hcs
    obtain ⟨rfl, rfl, rfl⟩ := hcs
    exact ⟨[], rfl, .inl rfl, fun i => by simp [nth], Nat.le_refl _, fun _ => rfl, by omega⟩
  · simp only [List.cons.injEq, Value.slice.injEq, and_true] at hcs
    obtain ⟨rfl, rfl, rfl⟩ := hcs
    simp only [Prod.mk.injEq] at hx
    obtain ⟨rfl, _⟩ := hx
    simp only [if_true] at hlen
    have hb : cap ≤ 17592186043904 := by
      have h1 := hz (((lits (H := H) .i64 (zs.take len)).length + (lits (H := H) .i64 (zs.drop len)).length) * 8) (by simp [DataW.weights, Tryd.underlying23, bytesI])
      simp [lits, reachBytes] at h1
      omega
    refine ⟨zs.take len, by simp; omega, ?_, fun i => ?_, hl, fun h => (nomatch h), by omega⟩
    · by_cases h0 : len = 0
      · exact .inl (by simp [h0])
      · obtain ⟨b, off, rfl, hc⟩ := ints_at hcell (by omega)
        refine .inr ⟨b, off, rfl, fun i hi => ?_⟩
        have hi' : i < len := by simp at hi; omega
        rw [hc i (by omega)]
        have e : nth (zs.take len) i = zs.getD i 0 := by simp [nth, List.getD, hi']
        rw [e]
    · by_cases hi : i < (zs.take len).length
      · have e : nth (zs.take len) i = (zs.take len)[i] := by unfold nth; rw [List.getD_eq_getElem?_getD, List.getElem?_eq_getElem hi]; rfl
        rw [e]
        exact wf_i64 (hwz _ (List.mem_of_mem_take (List.getElem_mem hi)))
      · rw [nth_out _ _ (by omega)]; omega

theorem cap_of {H : Type} {enc : TypeId × Value → H} {W : World} {a : Option Addr} {len cap : Nat} {d : DataW H} {p : List MemPlace} {fuel : Nat}
    (hf : DataW.trod enc Tryd.prog W 0 (fun _ => true) true fuel 25 [.slice a len cap] = some (d, p)) : len ≤ cap := by
  rcases open_ints Tryd.underlying25 Tryd.underlying5 cells5 hf with ⟨hcs, _⟩ | ⟨x, l, c, zs, hcs, _, hl, _⟩
  · simp at hcs; omega
  · simp only [List.cons.injEq, Value.slice.injEq, and_true] at hcs
    obtain ⟨rfl, rfl, rfl⟩ := hcs
    exact hl
theorem list4 {α : Type} (l : List α) (h : l.length = 4) : ∃ a b c d, l = [a, b, c, d] := by
  match l, h with
  | [a, b, c, d], _ => exact ⟨a, b, c, d, rfl⟩
theorem list3 {α : Type} (l : List α) (h : l.length = 3) : ∃ a b c, l = [a, b, c] := by
  match l, h with
  | [a, b, c], _ => exact ⟨a, b, c, rfl⟩
theorem list2 {α : Type} (l : List α) (h : l.length = 2) : ∃ a b, l = [a, b] := by
  match l, h with
  | [a, b], _ => exact ⟨a, b, rfl⟩
theorem cellsCe : Tryd.prog.cellsOf 30 = 4 := by kernel_rfl
theorem bytesCe : Tryd.prog.bytesOf 30 = 40 := by kernel_rfl
theorem cellsStr : Tryd.prog.cellsOf 9 = 1 := by kernel_rfl
theorem cellsEn : Tryd.prog.cellsOf 27 = 3 := by kernel_rfl
theorem cellsTu : Tryd.prog.cellsOf 45 = 2 := by kernel_rfl
theorem open_cel {H : Type} {enc : TypeId × Value → H} {W : World} {cs : List Value} {D : DataW H} {Pl : List MemPlace} {fuel : Nat}
    (hf : DataW.trod enc Tryd.prog W 0 (fun _ => true) true fuel 30 cs = some (D, Pl)) :
    ∃ q : CT, q.2.2.2.size ≤ 9223372036854775807 ∧ cs = [.int .i64 q.1, .int .i64 q.2.1, .int .i64 q.2.2.1, .string q.2.2.2] := by
  obtain ⟨xs, m, _, hx, hlen, hxl, hel⟩ := DataW.trod_struct Tryd.underlying30 hf
  rw [cellsCe] at hlen
  obtain ⟨v0, v1, v2, v3, rfl⟩ := list4 cs hlen
  obtain ⟨x0, x1, x2, x3, rfl⟩ := list4 xs hxl
  have e0 := hel 0 _ rfl
  have e1 := hel 1 _ rfl
  have e2 := hel 2 _ rfl
  have e3 := hel 3 _ rfl
  clear hel
  simp [cellsN, cellsStr] at e0 e1 e2 e3
  obtain ⟨b, z0, _, _⟩ := DataW.trod_int Tryd.underlying3 e0
  obtain ⟨x, z1, _, _⟩ := DataW.trod_int Tryd.underlying3 e1
  obtain ⟨y, z2, _, _⟩ := DataW.trod_int Tryd.underlying3 e2
  obtain ⟨fl, z3, _, hs⟩ := DataW.trod_string Tryd.underlying9 e3
  simp at z0 z1 z2 z3
  subst z0 z1 z2 z3
  exact ⟨(b, x, y, fl), hs, rfl⟩
theorem open_en {H : Type} {enc : TypeId × Value → H} {W : World} {cs : List Value} {D : DataW H} {Pl : List MemPlace} {fuel : Nat}
    (hf : DataW.trod enc Tryd.prog W 0 (fun _ => true) true fuel 27 cs = some (D, Pl)) :
    ∃ q : ET, q.2.1.size ≤ 9223372036854775807 ∧ (-9223372036854775808 ≤ q.1 ∧ q.1 ≤ 9223372036854775807) ∧ (-9223372036854775808 ≤ q.2.2 ∧ q.2.2 ≤ 9223372036854775807) ∧ cs = [.int .i64 q.1, .string q.2.1, .int .i64 q.2.2] := by
  obtain ⟨xs, m, _, hx, hlen, hxl, hel⟩ := DataW.trod_struct Tryd.underlying27 hf
  rw [cellsEn] at hlen
  obtain ⟨v0, v1, v2, rfl⟩ := list3 cs hlen
  obtain ⟨x0, x1, x2, rfl⟩ := list3 xs hxl
  have e0 := hel 0 _ rfl
  have e1 := hel 1 _ rfl
  have e2 := hel 2 _ rfl
  clear hel
  simp [cellsN, cellsStr] at e0 e1 e2
  obtain ⟨b, z0, _, w0⟩ := DataW.trod_int Tryd.underlying3 e0
  obtain ⟨fl, z1, _, hs⟩ := DataW.trod_string Tryd.underlying9 e1
  obtain ⟨y, z2, _, w2⟩ := DataW.trod_int Tryd.underlying3 e2
  simp at z0 z1 z2
  subst z0 z1 z2
  exact ⟨(b, fl, y), hs, wf_i64 w0, wf_i64 w2, rfl⟩
theorem open_tu {H : Type} {enc : TypeId × Value → H} {W : World} {cs : List Value} {D : DataW H} {Pl : List MemPlace} {fuel : Nat}
    (hf : DataW.trod enc Tryd.prog W 0 (fun _ => true) true fuel 45 cs = some (D, Pl)) :
    ∃ (a b : Int), (0 ≤ b ∧ b < 256) ∧ cs = [.int .i64 a, .int .u8 b] := by
  obtain ⟨xs, m, _, hx, hlen, hxl, hel⟩ := DataW.trod_struct Tryd.underlying45 hf
  rw [cellsTu] at hlen
  obtain ⟨v0, v1, rfl⟩ := list2 cs hlen
  obtain ⟨x0, x1, rfl⟩ := list2 xs hxl
  have e0 := hel 0 _ rfl
  have e1 := hel 1 _ rfl
  clear hel
  simp [cellsN, cells5] at e0 e1
  obtain ⟨b, z0, _, _⟩ := DataW.trod_int Tryd.underlying3 e0
  obtain ⟨y, z1, _, w1⟩ := DataW.trod_int Tryd.underlying5 e1
  simp at z0 z1
  subst z0 z1
  exact ⟨b, y, wf_u8 w1, rfl⟩
/-- a []Cell among the arguments -/
theorem open_cels {H : Type} {enc : TypeId × Value → H} {W : World} {a : Option Addr} {len cap : Nat} {d : DataW H} {p : List MemPlace} {fuel : Nat}
    (hf : DataW.trod enc Tryd.prog W 0 (fun _ => true) true fuel 22 [.slice a len cap] = some (d, p)) (hz : ∀ n ∈ d.weights Tryd.prog 22, n ≤ reachBytes) :
    ∃ L : List CT, L.length = len ∧ CelAt W a L ∧ len ≤ 9000000000000000000 := by
  rcases Deep.open_slice Tryd.underlying22 hf with ⟨hcs, _⟩ | ⟨x, len', cap', m, n, D, Pl, hcs, _, hl, hm, hmm, hx, hel⟩
  · simp at hcs
    obtain ⟨rfl, rfl, rfl⟩ := hcs
    exact ⟨[], rfl, ⟨fun q h => by simp at h, .inl rfl⟩, by omega⟩
  · simp only [List.cons.injEq, Value.slice.injEq, and_true] at hcs
    obtain ⟨rfl, rfl, rfl⟩ := hcs
    simp only [Prod.mk.injEq] at hx
    obtain ⟨rfl, _⟩ := hx
    simp only [if_true] at hmm
    subst hmm
    have hlen : len ≤ 9000000000000000000 := by
      have h2 := hz ((((List.range len).map D).length + ((List.range (m - len)).map fun j => D (len + j)).length) * Tryd.prog.bytesOf 30) (by simp [DataW.weights, Tryd.underlying22])
      rw [bytesCe] at h2
      simp [reachBytes] at h2
      omega
    have hex : ∀ i, i < len → ∃ q : CT, q.2.2.2.size ≤ 9223372036854775807 ∧ ∀ j, j < 4 → W.cell? ((x.add (i * 4)).add j) = [Value.int .i64 q.1, .int .i64 q.2.1, .int .i64 q.2.2.1, .string q.2.2.2][j]? := by
      intro i hi
      obtain ⟨cs', hc1, hc2⟩ := hel i (by omega)
      rw [cellsCe] at hc1
      obtain ⟨q, q1, rfl⟩ := open_cel hc2
      obtain ⟨_, _, hcell⟩ := World.cells?_some hc1
      exact ⟨q, q1, hcell⟩
    obtain ⟨L, hL, h1, h2⟩ := recs_list 4 (fun q : CT => [Value.int .i64 q.1, .int .i64 q.2.1, .int .i64 q.2.2.1, .string q.2.2.2]) (fun q => q.2.2.2.size ≤ 9223372036854775807) W x len hex len (Nat.le_refl _)
    refine ⟨L, hL, ⟨h1, ?_⟩, hlen⟩
    by_cases h0 : len = 0
    · exact .inl (List.eq_nil_of_length_eq_zero (by omega))
    · obtain ⟨q, _, q1⟩ := hex 0 (by omega)
      have c0 := q1 0 (by omega)
      obtain ⟨b, off, spot⟩ := x
      have hspot : spot = none := by
        have := World.cell?_spot (w := W) (show W.cell? _ = some _ from c0)
        simpa [Addr.add] using this
      subst hspot
      refine .inr ⟨b, off, rfl, fun i q hq => ?_⟩
      have hh := h2 i q hq
      have ad : ∀ j, ((⟨b, off, none⟩ : Addr).add (i * 4)).add j = ⟨b, off + i * 4 + j, none⟩ := fun j => by rw [Addr.add_lit, Addr.add_lit]
      refine ⟨?_, ?_, ?_, ?_⟩
      · have := hh 0 (by omega); rw [ad] at this; exact this
      · have := hh 1 (by omega); rw [ad] at this; exact this
      · have := hh 2 (by omega); rw [ad] at this; exact this
      · have := hh 3 (by omega); rw [ad] at this; exact this
end Go.Proofs.YtaaeahpmnfifiaaDoor
