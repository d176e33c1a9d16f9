import Derived.Test.YtklffjagdhbjcaaDoorOpens
import Derived.Test.YtklffjagdhbjcaaDoorExact
import Derived.Deep.Slices
namespace Go.Proofs.YtklffjagdhbjcaaDoor
open Go.ChangeShapes Go.WideShapes Go.ChangeAt Go.RowKit

theorem open_bytes_cs {H : Type} {enc : TypeId × Value → H} {W : World} {cs : List Value} {y : DataW H × List MemPlace} {fuel : Nat}
    (hf : DataW.trod enc Tryd.prog W 0 (fun _ => true) true fuel 24 cs = some y) (hz : ∀ n ∈ y.1.weights Tryd.prog 24, n ≤ reachBytes) :
    ∃ (a : Option Addr) (cap : Nat) (l : List Int), cs = [.slice a l.length cap] ∧ Bytes W a l ∧ (a = none → cap = 0) ∧ l.length ≤ 140737488351232 := by
  obtain ⟨d, p⟩ := y
  have hs : ∃ a len cap, cs = [.slice a len cap] := by
    rcases open_ints Tryd.underlying24 Tryd.underlying5 cells5 hf with ⟨hcs, _⟩ | ⟨x, l, c, zs, hcs, _⟩
    · exact ⟨_, _, _, hcs⟩
    · exact ⟨_, _, _, hcs⟩
  obtain ⟨a, len, cap, rfl⟩ := hs
  obtain ⟨l, hl, h1, h2, h3⟩ := open_bytes hf hz
  subst hl
  exact ⟨a, cap, l, rfl, h1, h2, h3⟩
theorem list7 {α : Type} (l : List α) (h : l.length = 7) : ∃ a b c d e f g, l = [a, b, c, d, e, f, g] := by
  match l, h with
  | [a, b, c, d, e, f, g], _ => exact ⟨a, b, c, d, e, f, g, rfl⟩
theorem cells40 : Tryd.prog.cellsOf 40 = 7 := by kernel_rfl
theorem cellsA3 : Tryd.prog.cellsOf 3 = 1 := by kernel_rfl
theorem cellsA24 : Tryd.prog.cellsOf 24 = 1 := by kernel_rfl
theorem bytes40 : Tryd.prog.bytesOf 40 = 80 := by kernel_rfl

/-- one question -/
theorem open_ask {H : Type} {enc : TypeId × Value → H} {W : World} {cs : List Value} {D : DataW H} {Pl : List MemPlace} {fuel : Nat}
    (hf : DataW.trod enc Tryd.prog W 0 (fun _ => true) true fuel 40 cs = some (D, Pl)) (hz : ∀ n ∈ D.weights Tryd.prog 40, n ≤ reachBytes) :
    ∃ q : AskR, AskOk W q ∧ cs = [.int .i64 q.kind, .int .u32 (U q.A), .int .u32 (U q.B), .int .i64 q.n, .int .i64 q.at_, .slice q.a1 q.l1.length q.c1, .slice q.a2 q.l2.length q.c2] := by
  obtain ⟨xs, m, _, hx, hlen, hxl, hel⟩ := DataW.trod_struct Tryd.underlying40 hf
  rw [cells40] at hlen
  obtain ⟨v0, v1, v2, v3, v4, v5, v6, rfl⟩ := list7 cs hlen
  obtain ⟨x0, x1, x2, x3, x4, x5, x6, rfl⟩ := list7 xs hxl
  have e0 := hel 0 _ rfl
  have e1 := hel 1 _ rfl
  have e2 := hel 2 _ rfl
  have e3 := hel 3 _ rfl
  have e4 := hel 4 _ rfl
  have e5 := hel 5 _ rfl
  have e6 := hel 6 _ rfl
  clear hel
  simp [cellsA3, cellsA24, cells25] at e0 e1 e2 e3 e4 e5 e6
  simp only [Prod.mk.injEq] at hx
  obtain ⟨rfl, _⟩ := hx
  have w5 : ∀ n ∈ x5.1.weights Tryd.prog 24, n ≤ reachBytes := fun n hn => hz n (by simp [DataW.weights, Tryd.underlying40, DataW.weightsEach, hn])
  have w6 : ∀ n ∈ x6.1.weights Tryd.prog 24, n ≤ reachBytes := fun n hn => hz n (by simp [DataW.weights, Tryd.underlying40, DataW.weightsEach, hn])
  obtain ⟨kind, z0, _, _⟩ := DataW.trod_int Tryd.underlying3 e0
  obtain ⟨A, z1, _, wA⟩ := DataW.trod_int Tryd.underlying25 e1
  obtain ⟨B, z2, _, wB⟩ := DataW.trod_int Tryd.underlying25 e2
  obtain ⟨n, z3, _, _⟩ := DataW.trod_int Tryd.underlying3 e3
  obtain ⟨at_, z4, _, _⟩ := DataW.trod_int Tryd.underlying3 e4
  obtain ⟨a1, c1, l1, z5, p1, p2, p3⟩ := open_bytes_cs e5 w5
  obtain ⟨a2, c2, l2, z6, r1, r2, r3⟩ := open_bytes_cs e6 w6
  have bA := wf_u32 wA
  have bB := wf_u32 wB
  obtain ⟨A', rfl⟩ := of_word A bA.1 bA.2
  obtain ⟨B', rfl⟩ := of_word B bB.1 bB.2
  simp at z0 z1 z2 z3 z4 z5 z6
  subst z0 z1 z2 z3 z4 z5 z6
  exact ⟨⟨kind, n, at_, A', B', a1, a2, c1, c2, l1, l2⟩, ⟨p1, r1, p2, r2, p3, r3⟩, rfl⟩

theorem asks_list (W : World) (x : Addr) (len : Nat) (hex : ∀ i, i < len → ∃ q : AskR, AskOk W q ∧ ∀ j, j < 7 → W.cell? ((x.add (i * 7)).add j) = [Value.int .i64 q.kind, .int .u32 (U q.A), .int .u32 (U q.B), .int .i64 q.n, .int .i64 q.at_, .slice q.a1 q.l1.length q.c1, .slice q.a2 q.l2.length q.c2][j]?) :
    ∀ k, k ≤ len → ∃ L : List AskR, L.length = k ∧ (∀ q ∈ L, AskOk W q) ∧ ∀ i q, L[i]? = some q → ∀ j, j < 7 → W.cell? ((x.add (i * 7)).add j) = [Value.int .i64 q.kind, .int .u32 (U q.A), .int .u32 (U q.B), .int .i64 q.n, .int .i64 q.at_, .slice q.a1 q.l1.length q.c1, .slice q.a2 q.l2.length q.c2][j]?
  | 0, _ => ⟨[], rfl, fun q h => by simp at h, fun i q h => by simp at h⟩
  | k + 1, hk => by
    obtain ⟨L, hl, h1, h2⟩ := asks_list W x len hex k (by omega)
    obtain ⟨q, q1, q2⟩ := hex k (by omega)
    refine ⟨L ++ [q], by simp [hl], fun r hr => ?_, fun i r hr => ?_⟩
    · rcases List.mem_append.1 hr with h | h
      · exact h1 r h
      · simp at h; subst h; exact q1
    · by_cases hi : i < L.length
      · rw [List.getElem?_append_left hi] at hr; exact h2 i r hr
      · rw [List.getElem?_append_right (by omega)] at hr
        have : i - L.length = 0 := by
          by_cases h : i - L.length = 0
          · exact h
          · rw [List.getElem?_eq_none (by simp; omega)] at hr; cases hr
        rw [this] at hr
        simp at hr
        subst hr
        have e : i = k := by omega
        rw [e]; exact q2

/-- a []Ask among the arguments -/
theorem open_asks {H : Type} {enc : TypeId × Value → H} {W : World} {a : Option Addr} {len cap : Nat} {d : DataW H} {p : List MemPlace} {fuel : Nat}
    (hf : DataW.trod enc Tryd.prog W 0 (fun _ => true) true fuel 38 [.slice a len cap] = some (d, p)) (hz : ∀ n ∈ d.weights Tryd.prog 38, n ≤ reachBytes) :
    ∃ L : List AskR, L.length = len ∧ len ≤ 140737488351232 ∧ Asks W a L := by
  rcases Deep.open_slice Tryd.underlying38 hf with ⟨hcs, _⟩ | ⟨x, len', cap', m, n, D, Pl, hcs, _, hl, hm, hmm, hx, hel⟩
  · simp at hcs
    obtain ⟨rfl, rfl, rfl⟩ := hcs
    exact ⟨[], rfl, by omega, ⟨.inl rfl, fun q h => by simp at h⟩⟩
  · simp only [List.cons.injEq, Value.slice.injEq, and_true] at hcs
    obtain ⟨rfl, rfl, rfl⟩ := hcs
    simp only [Prod.mk.injEq] at hx
    obtain ⟨rfl, _⟩ := hx
    simp only [if_true] at hmm
    subst hmm
    have hlen : len ≤ 140737488351232 := by
      have h2 := hz ((((List.range len).map D).length + ((List.range (m - len)).map fun j => D (len + j)).length) * Tryd.prog.bytesOf 40) (by simp [DataW.weights, Tryd.underlying38])
      rw [bytes40] at h2
      simp [reachBytes] at h2
      omega
    have wall : ∀ (l : List (DataW H)) (e : DataW H), e ∈ l → ∀ n ∈ e.weights Tryd.prog 40, n ∈ DataW.weightsAll Tryd.prog 40 l := by
      intro l e he n hn
      induction l with
      | nil => cases he
      | cons y r ih =>
        simp only [DataW.weightsAll, List.mem_append]
        rcases List.mem_cons.1 he with h | h
        · subst h; exact .inl hn
        · exact .inr (ih h)
    have hex : ∀ i, i < len → ∃ q : AskR, AskOk W q ∧ ∀ j, j < 7 → W.cell? ((x.add (i * 7)).add j) = [Value.int .i64 q.kind, .int .u32 (U q.A), .int .u32 (U q.B), .int .i64 q.n, .int .i64 q.at_, .slice q.a1 q.l1.length q.c1, .slice q.a2 q.l2.length q.c2][j]? := by
      intro i hi
      obtain ⟨cs', hc1, hc2⟩ := hel i (by omega)
      rw [cells40] at hc1
      obtain ⟨q, q1, rfl⟩ := open_ask hc2 (fun n hn => hz n (by
        simp only [DataW.weights, Tryd.underlying38, List.mem_cons, List.mem_append]
        exact .inr (.inl (wall _ (D i) (List.mem_map.2 ⟨i, List.mem_range.2 hi, rfl⟩) n hn))))
      obtain ⟨_, _, hcell⟩ := World.cells?_some hc1
      exact ⟨q, q1, hcell⟩
    obtain ⟨L, hL, h1, h2⟩ := asks_list W x len hex len (Nat.le_refl _)
    refine ⟨L, hL, hlen, ⟨?_, h1⟩⟩
    by_cases h0 : len = 0
    · exact .inl (List.eq_nil_of_length_eq_zero (by omega))
    · obtain ⟨q, _, q1⟩ := hex 0 (by omega)
      have c0 := q1 0 (by omega)
      obtain ⟨b, off, spot⟩ := x
      have hspot : spot = none := by
        have := World.cell?_spot (w := W) (show W.cell? _ = some _ from c0)
        simpa [Addr.add] using this
      subst hspot
      refine .inr ⟨b, off, rfl, fun i q hq => ?_⟩
      have hh := h2 i q hq
      have ad : ∀ j, ((⟨b, off, none⟩ : Addr).add (i * 7)).add j = ⟨b, off + i * 7 + j, none⟩ := fun j => by rw [Addr.add_lit, Addr.add_lit]
      refine ⟨?_, ?_, ?_, ?_, ?_, ?_, ?_⟩
      · have := hh 0 (by omega); rw [ad] at this; exact this
      · have := hh 1 (by omega); rw [ad] at this; exact this
      · have := hh 2 (by omega); rw [ad] at this; exact this
      · have := hh 3 (by omega); rw [ad] at this; exact this
      · have := hh 4 (by omega); rw [ad] at this; exact this
      · have := hh 5 (by omega); rw [ad] at this; exact this
      · have := hh 6 (by omega); rw [ad] at this; exact this
end Go.Proofs.YtklffjagdhbjcaaDoor
