import Derived.Test.YtjmdjagfekloaaaGreatDoorKOwn
import Derived.Test.YtjmdjagfekloaaaGreatDoorKImC
import Derived.SizedLaws
import Derived.Lib.SmallJoins
import Derived.Deep.Slices
namespace Go.Proofs.YtjmdjagfekloaaaGreatDoor
open Rec Go.ChangeShapes Go.WideShapes Go.ChangeAt Go.RowKit

theorem nth_wf {l : List Int} (h : ∀ c ∈ l, 0 ≤ c ∧ c < 256) (i : Nat) : 0 ≤ nth l i ∧ nth l i < 256 := by
  unfold nth
  by_cases hi : i < l.length
  · have : l.getD i 0 = l[i] := by simp [List.getD, hi]
    rw [this]; exact h _ (List.getElem_mem hi)
  · have : l.getD i 0 = 0 := by simp [List.getD, hi]
    rw [this]; omega
theorem cells5 : Tryz.prog.cellsOf 5 = 1 := by kernel_rfl
theorem bytes5 : Tryz.prog.bytesOf 5 = 1 := by kernel_rfl
theorem wf_u8 {x : Int} (h : (Lit.int .u8 x).wf = true) : 0 ≤ x ∧ x < 256 := by
  have hmin : IntKind.u8.min = 0 := rfl
  have hmax : IntKind.u8.max = 255 := rfl
  simp only [Lit.wf, Bool.and_eq_true, decide_eq_true_eq] at h
  omega
/-- a []byte among the arguments -/
theorem open_bytes {H : Type} {enc : TypeId × Value → H} {W : World} {a : Option Addr} {len cap : Nat} {d : DataW H} {p : List MemPlace} {fuel : Nat}
    (hf : DataW.trod enc Tryz.prog W 0 (fun _ => true) true fuel 63 [.slice a len cap] = some (d, p)) (hz : ∀ n ∈ d.weights Tryz.prog 63, n ≤ reachBytes) :
    ∃ l : List Int, l.length = len ∧ Bytes W a l ∧ (a = none → cap = 0) ∧ len ≤ 140737488351232 := by
  rcases open_ints Tryz.underlying63 Tryz.underlying5 cells5 hf with ⟨hcs, _⟩ | ⟨x, l, c, zs, hcs, _, hl, hm, hlen, hx, hcell, hwz⟩
  · simp at hcs
    obtain ⟨rfl, rfl, rfl⟩ := hcs
    exact ⟨[], rfl, ⟨by simp, fun i => by simp [nth], .inl rfl⟩, fun _ => rfl, by omega⟩
  · simp only [List.cons.injEq, Value.slice.injEq, and_true] at hcs
    obtain ⟨rfl, rfl, rfl⟩ := hcs
    simp only [Prod.mk.injEq] at hx
    obtain ⟨rfl, _⟩ := hx
    simp only [if_true] at hlen
    have hb : cap ≤ 140737488351232 := by
      have h1 := hz ((lits (H := H) .u8 (zs.take len)).length + (lits (H := H) .u8 (zs.drop len)).length) (by simp [DataW.weights, Tryz.underlying63, bytes5])
      simp [lits, reachBytes] at h1
      omega
    refine ⟨zs.take len, by simp; omega, ⟨by simp; omega, nth_wf fun n hn => wf_u8 (hwz n (List.mem_of_mem_take hn)), ?_⟩, fun h => (nomatch h), by omega⟩
    by_cases h0 : len = 0
    · exact .inl (by simp [h0])
    · obtain ⟨b, off, rfl, hc⟩ := ints_at hcell (by omega)
      refine .inr ⟨b, off, rfl, fun i hi => ?_⟩
      have hi' : i < len := by simp at hi; omega
      rw [hc i (by omega)]
      have e : nth (zs.take len) i = zs.getD i 0 := by simp [nth, List.getD, hi']
      rw [e]
theorem recs_list {R : Type} (sz : Nat) (cells : R → List Value) (ok : R → Prop) (W : World) (x : Addr) (len : Nat) (hex : ∀ i, i < len → ∃ q : R, ok q ∧ ∀ j, j < sz → W.cell? ((x.add (i * sz)).add j) = (cells q)[j]?) :
    ∀ k, k ≤ len → ∃ L : List R, L.length = k ∧ (∀ q ∈ L, ok q) ∧ ∀ i q, L[i]? = some q → ∀ j, j < sz → W.cell? ((x.add (i * sz)).add j) = (cells q)[j]?
  | 0, _ => ⟨[], rfl, fun q h => by simp at h, fun i q h => by simp at h⟩
  | k + 1, hk => by
    obtain ⟨L, hl, h1, h2⟩ := recs_list sz cells ok W x len hex k (by omega)
    obtain ⟨q, q1, q2⟩ := hex k (by omega)
    refine ⟨L ++ [q], by simp [hl], fun r hr => ?_, fun i r hr => ?_⟩
    · rcases List.mem_append.1 hr with h | h
      · exact h1 r h
      · simp at h; subst h; exact q1
    · by_cases hi : i < L.length
      · rw [List.getElem?_append_left hi] at hr; exact h2 i r hr
      · rw [List.getElem?_append_right (by omega)] at hr
        have : i - L.length = 0 := by
          by_cases h : i - L.length = 0
          · exact h
          · rw [List.getElem?_eq_none (by simp; omega)] at hr; cases hr
        rw [this] at hr
        simp at hr
        subst hr
        have e : i = k := by omega
        rw [e]; exact q2
theorem weightsAll_memS {H : Type} (P : Program) (e : TypeId) : ∀ (l : List (DataW H)) (d : DataW H), d ∈ l → ∀ n ∈ d.weights P e, n ∈ DataW.weightsAll P e l
  | x :: r, d, hd, n, hn => by
    rw [DataW.weightsAll]
    rcases List.mem_cons.1 hd with rfl | h
    · exact List.mem_append_left _ hn
    · exact List.mem_append_right _ (weightsAll_memS P e r d h n hn)
theorem list2s {α : Type} (l : List α) (h : l.length = 2) : ∃ a b, l = [a, b] := by
  match l, h with
  | [a, b], _ => exact ⟨a, b, rfl⟩
theorem list3s {α : Type} (l : List α) (h : l.length = 3) : ∃ a b c, l = [a, b, c] := by
  match l, h with
  | [a, b, c], _ => exact ⟨a, b, c, rfl⟩
theorem cellsBlk : Tryz.prog.cellsOf 145 = 2 := by kernel_rfl
theorem cellsByS : Tryz.prog.cellsOf 63 = 1 := by kernel_rfl
theorem cellsNS : Tryz.prog.cellsOf 3 = 1 := by kernel_rfl
theorem cellsStu : Tryz.prog.cellsOf 25 = 3 := by kernel_rfl
theorem cellsInS : Tryz.prog.cellsOf 22 = 1 := by kernel_rfl
theorem cellsBkS : Tryz.prog.cellsOf 23 = 1 := by kernel_rfl
theorem bytesBlk : Tryz.prog.bytesOf 145 = 32 := by kernel_rfl
abbrev RawR := Int × Option Addr × Nat × Nat × List Int
def RawOk (W : World) (q : RawR) : Prop := Bytes W q.2.1 q.2.2.2.2 ∧ q.2.2.2.2.length = q.2.2.1 ∧ (q.2.1 = none → q.2.2.2.1 = 0)
/-- one block -/
theorem open_blk {H : Type} {enc : TypeId × Value → H} {W : World} {cs : List Value} {D : DataW H} {Pl : List MemPlace} {fuel : Nat}
    (hf : DataW.trod enc Tryz.prog W 0 (fun _ => true) true fuel 145 cs = some (D, Pl)) (hz : ∀ n ∈ D.weights Tryz.prog 145, n ≤ reachBytes) :
    ∃ q : RawR, RawOk W q ∧ cs = [.int .i64 q.1, .slice q.2.1 q.2.2.1 q.2.2.2.1] := by
  obtain ⟨xs, m, hm, hx, hlen, hxl, hel⟩ := DataW.trod_struct Tryz.underlying145 hf
  rw [cellsBlk] at hlen
  obtain ⟨v0, v1, rfl⟩ := list2s cs hlen
  obtain ⟨x0, x1, rfl⟩ := list2s xs hxl
  have e0 := hel 0 _ rfl
  have e1 := hel 1 _ rfl
  clear hel
  simp [cellsNS, cellsByS] at e0 e1
  obtain ⟨b, z0, _, _⟩ := DataW.trod_int Tryz.underlying3 e0
  have h2 : ∃ a len cap, [v1] = [Value.slice a len cap] := by
    rcases open_ints Tryz.underlying63 Tryz.underlying5 cells5 e1 with ⟨hcs, _⟩ | ⟨x, l, c, zs, hcs, _⟩
    · exact ⟨_, _, _, hcs⟩
    · exact ⟨_, _, _, hcs⟩
  obtain ⟨a2, n2, c2, h2⟩ := h2
  simp at z0 h2
  subst z0 h2
  have hD : D = .agg [x0.1, x1.1] := (Prod.mk.inj hx).1
  subst hD
  have w2 : ∀ n ∈ x1.1.weights Tryz.prog 63, n ≤ reachBytes := fun n hn => hz n (by
    simp only [DataW.weights, Tryz.underlying145, List.map_cons, List.map_nil, DataW.weightsEach]
    exact List.mem_append_right _ (List.mem_append_left _ hn))
  have hb := open_bytes e1 w2
  obtain ⟨bs, t1, t2, t3⟩ := hb
  refine ⟨⟨b, a2, n2, c2, bs⟩, ⟨t2, t1, ?_⟩, rfl⟩
  first | exact t3.1 | exact t3
/-- a []Block among the arguments -/
theorem open_blks {H : Type} {enc : TypeId × Value → H} {W : World} {a : Option Addr} {len cap : Nat} {d : DataW H} {p : List MemPlace} {fuel : Nat}
    (hf : DataW.trod enc Tryz.prog W 0 (fun _ => true) true fuel 23 [.slice a len cap] = some (d, p)) (hz : ∀ n ∈ d.weights Tryz.prog 23, n ≤ reachBytes) :
    ∃ L : List RawR, RawAt W a len L ∧ len ≤ 1000000000000000 := by
  rcases Deep.open_slice Tryz.underlying23 hf with ⟨hcs, _⟩ | ⟨x, len', cap', m, n, D, Pl, hcs, _, hl, hm, hmm, hx, hel⟩
  · simp at hcs
    obtain ⟨rfl, rfl, rfl⟩ := hcs
    exact ⟨[], ⟨rfl, .inl rfl⟩, by omega⟩
  · simp only [List.cons.injEq, Value.slice.injEq, and_true] at hcs
    obtain ⟨rfl, rfl, rfl⟩ := hcs
    simp only [Prod.mk.injEq] at hx
    obtain ⟨rfl, _⟩ := hx
    simp only [if_true] at hmm
    subst hmm
    have hlen : len ≤ 1000000000000000 := by
      have h2 := hz ((((List.range len).map D).length + ((List.range (m - len)).map fun j => D (len + j)).length) * Tryz.prog.bytesOf 145) (by simp [DataW.weights, Tryz.underlying23])
      rw [bytesBlk] at h2
      simp [reachBytes] at h2
      omega
    have hw : ∀ i, i < len → ∀ k ∈ (D i).weights Tryz.prog 145, k ≤ reachBytes := by
      intro i hi k hk
      refine hz k ?_
      have := weightsAll_memS Tryz.prog 145 ((List.range len).map D) (D i) (List.mem_map.2 ⟨i, List.mem_range.2 hi, rfl⟩) k hk
      simp only [DataW.weights, Tryz.underlying23]
      exact List.mem_cons_of_mem _ (List.mem_append_left _ this)
    have hex : ∀ i, i < len → ∃ q : RawR, RawOk W q ∧ ∀ j, j < 2 → W.cell? ((x.add (i * 2)).add j) = [Value.int .i64 q.1, .slice q.2.1 q.2.2.1 q.2.2.2.1][j]? := by
      intro i hi
      obtain ⟨cs', hc1, hc2⟩ := hel i (by omega)
      rw [cellsBlk] at hc1
      obtain ⟨q, q1, rfl⟩ := open_blk hc2 (hw i hi)
      obtain ⟨_, _, hcell⟩ := World.cells?_some hc1
      exact ⟨q, q1, hcell⟩
    obtain ⟨L, hL, h1, h2⟩ := recs_list 2 (fun q : RawR => [Value.int .i64 q.1, .slice q.2.1 q.2.2.1 q.2.2.2.1]) (RawOk W) W x len hex len (Nat.le_refl _)
    refine ⟨L, ⟨hL, ?_⟩, hlen⟩
    by_cases h0 : len = 0
    · exact .inl h0
    · obtain ⟨q, _, q1⟩ := hex 0 (by omega)
      have c0 := q1 0 (by omega)
      obtain ⟨b, off, spot⟩ := x
      have hspot : spot = none := by
        have := World.cell?_spot (w := W) (show W.cell? _ = some _ from c0)
        simpa [Addr.add] using this
      subst hspot
      refine .inr ⟨b, off, rfl, fun i q hq => ?_⟩
      have hh := h2 i q hq
      have ad : ∀ j, ((⟨b, off, none⟩ : Addr).add (i * 2)).add j = ⟨b, off + i * 2 + j, none⟩ := fun j => by rw [Addr.add_lit, Addr.add_lit]
      refine ⟨?_, ?_, h1 q (List.mem_of_getElem? hq)⟩
      · have := hh 0 (by omega); rw [ad] at this; exact this
      · have := hh 1 (by omega); rw [ad] at this; exact this
set_option maxRecDepth 100000 in
theorem okWide_stu {W : World} {base : Nat} {v : Value} (h : Value.okWide Tryz.prog W .any base 25 v) : ∃ cs, v = .agg cs := by
  obtain ⟨cs, h1, _⟩ := okWide_struct Tryz.underlying25 h
  exact ⟨cs, h1⟩
/-- a Setup among the arguments -/
theorem open_stu {H : Type} {enc : TypeId × Value → H} {W : World} {v : Value} {D : DataW H} {Pl : List MemPlace} {fuel : Nat} (hv : ∃ cs, v = .agg cs)
    (hf : DataW.trod enc Tryz.prog W 0 (fun _ => true) true fuel 25 v.cells.toList = some (D, Pl)) (hz : ∀ n ∈ D.weights Tryz.prog 25, n ≤ reachBytes) :
    ∃ (M : Int) (ta : Option Addr) (tl tc : Nat) (ra : Option Addr) (rl rc : Nat) (ts : List Int) (rs : List RawR), v = stuV M ta tl tc ra rl rc ∧ Ints W ta ts ∧ ts.length = tl ∧ RawAt W ra rl rs ∧ rl ≤ 1000000000000000 := by
  obtain ⟨cs, rfl⟩ := hv
  obtain ⟨xs, m, hm, hx, hlen, hxl, hel⟩ := DataW.trod_struct Tryz.underlying25 hf
  rw [cellsStu] at hlen
  obtain ⟨v0, v1, v2, hcs⟩ := list3s _ hlen
  obtain ⟨x0, x1, x2, rfl⟩ := list3s xs hxl
  rw [hcs] at hel
  have e0 := hel 0 _ rfl
  have e1 := hel 1 _ rfl
  have e2 := hel 2 _ rfl
  clear hel
  simp [cellsNS, cellsInS, cellsBkS] at e0 e1 e2
  obtain ⟨M, z0, _, w0⟩ := DataW.trod_int Tryz.underlying3 e0
  have h1 : ∃ a len cap, [v1] = [Value.slice a len cap] := by
    rcases Deep.open_slice Tryz.underlying22 e1 with ⟨hcs, _⟩ | ⟨x, l, c, m, n, D, Pl, hcs, _⟩
    · exact ⟨_, _, _, hcs⟩
    · exact ⟨_, _, _, hcs⟩
  have h2 : ∃ a len cap, [v2] = [Value.slice a len cap] := by
    rcases Deep.open_slice Tryz.underlying23 e2 with ⟨hcs, _⟩ | ⟨x, l, c, m, n, D, Pl, hcs, _⟩
    · exact ⟨_, _, _, hcs⟩
    · exact ⟨_, _, _, hcs⟩
  obtain ⟨a1, n1, c1, h1⟩ := h1
  obtain ⟨a2, n2, c2, h2⟩ := h2
  simp at z0 h1 h2
  subst z0 h1 h2
  have hD : D = .agg [x0.1, x1.1, x2.1] := (Prod.mk.inj hx).1
  subst hD
  have w1 : ∀ n ∈ x1.1.weights Tryz.prog 22, n ≤ reachBytes := fun n hn => hz n (by
    simp only [DataW.weights, Tryz.underlying25, List.map_cons, List.map_nil, DataW.weightsEach]
    exact List.mem_append_right _ (List.mem_append_left _ hn))
  have w2 : ∀ n ∈ x2.1.weights Tryz.prog 23, n ≤ reachBytes := fun n hn => hz n (by
    simp only [DataW.weights, Tryz.underlying25, List.map_cons, List.map_nil, DataW.weightsEach]
    exact List.mem_append_right _ (List.mem_append_right _ (List.mem_append_left _ hn)))
  obtain ⟨ts, t1, t2, _⟩ := open_nums e1 w1
  obtain ⟨rs, r1, r2⟩ := open_blks e2 w2
  have hc : cs = #[.int .i64 M, .slice a1 n1 c1, .slice a2 n2 c2] := by
    cases cs with
    | mk l =>
      have : l = [.int .i64 M, .slice a1 n1 c1, .slice a2 n2 c2] := hcs
      rw [this]
  exact ⟨M, a1, n1, c1, a2, n2, c2, ts, rs, by rw [hc]; rfl, t2, t1, r1, r2⟩
end Go.Proofs.YtjmdjagfekloaaaGreatDoor
