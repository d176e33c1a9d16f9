import Derived.Test.YtipbflmonhlnjaaKBkZ
import Derived.Test.YtipbflmonhlnjaaPoQ
namespace Go.Proofs.Ytipbflmonhlnjaa
open Rec Go.ChangeShapes Go.WideShapes Go.ChangeAt Go.RowKit
theorem weightsAll_mem {H : Type} (P : Program) (e : TypeId) : ∀ (l : List (DataW H)) (d : DataW H), d ∈ l → ∀ n ∈ d.weights P e, n ∈ DataW.weightsAll P e l
  | x :: r, d, hd, n, hn => by
    rw [DataW.weightsAll]
    rcases List.mem_cons.1 hd with rfl | h
    · exact List.mem_append_left _ hn
    · exact List.mem_append_right _ (weightsAll_mem P e r d h n hn)
theorem recs_list {R : Type} (sz : Nat) (cells : R → List Value) (ok : R → Prop) (W : World) (x : Addr) (len : Nat) (hex : ∀ i, i < len → ∃ q : R, ok q ∧ ∀ j, j < sz → W.cell? ((x.add (i * sz)).add j) = (cells q)[j]?) :
    ∀ k, k ≤ len → ∃ L : List R, L.length = k ∧ (∀ q ∈ L, ok q) ∧ ∀ i q, L[i]? = some q → ∀ j, j < sz → W.cell? ((x.add (i * sz)).add j) = (cells q)[j]?
  | 0, _ => ⟨[], rfl, fun q h => by simp at h, fun i q h => by simp at h⟩
  | k + 1, hk => by
    obtain ⟨L, hl, h1, h2⟩ := recs_list sz cells ok W x len hex k (by omega)
    obtain ⟨q, q1, q2⟩ := hex k (by omega)
    refine ⟨L ++ [q], by simp [hl], fun r hr => ?_, fun i r hr => ?_⟩
    · rcases List.mem_append.1 hr with h | h
      · exact h1 r h
      · simp at h; subst h; exact q1
    · by_cases hi : i < L.length
      · rw [List.getElem?_append_left hi] at hr; exact h2 i r hr
      · rw [List.getElem?_append_right (by omega)] at hr
        have : i - L.length = 0 := by
          by_cases h : i - L.length = 0
          · exact h
          · rw [List.getElem?_eq_none (by simp; omega)] at hr; cases hr
        rw [this] at hr
        simp at hr
        subst hr
        have e : i = k := by omega
        rw [e]; exact q2
theorem cellsBy : Try.prog.cellsOf 22 = 1 := by kernel_rfl
theorem cellsKe : Try.prog.cellsOf 42 = 1 := by kernel_rfl
theorem cellsB : Try.prog.cellsOf 4 = 1 := by kernel_rfl
theorem cellsNi : Try.prog.cellsOf 3 = 1 := by kernel_rfl
theorem cellsOp : Try.prog.cellsOf 44 = 5 := by kernel_rfl
theorem bytesB : Try.prog.bytesOf 4 = 1 := by kernel_rfl
theorem list5a {α : Type} (l : List α) (h : l.length = 5) : ∃ a b c d e, l = [a, b, c, d, e] := by
  match l, h with
  | [a, b, c, d, e], _ => exact ⟨a, b, c, d, e, rfl⟩
theorem small_le {H : Type} {l : List (DataW H)} (h : Rows.uptoSmall H l = true) : Rows.uptoBulkAll l ≤ 1048576 := of_decide_eq_true h
theorem bulk_pos {H : Type} (d : DataW H) : 1 ≤ Rows.uptoBulk d := by
  cases d with
  | lit x => cases x <;> simp [Rows.uptoBulk]
  | _ => simp [Rows.uptoBulk]
theorem bulk_len {H : Type} : ∀ l : List (DataW H), l.length ≤ Rows.uptoBulkAll l
  | [] => Nat.zero_le _
  | d :: r => by have := bulk_pos d; have := bulk_len r; simp only [Rows.uptoBulkAll, List.length_cons]; omega
theorem bulk_mem {H : Type} : ∀ (l : List (DataW H)) (d : DataW H), d ∈ l → Rows.uptoBulk d ≤ Rows.uptoBulkAll l
  | x :: r, d, h => by
    rcases List.mem_cons.1 h with rfl | h
    · simp only [Rows.uptoBulkAll]; omega
    · have := bulk_mem r d h; simp only [Rows.uptoBulkAll]; omega
theorem bulk_six {H : Type} : ∀ (l : List (DataW H)), (∀ d ∈ l, 6 ≤ Rows.uptoBulk d) → 6 * l.length ≤ Rows.uptoBulkAll l
  | [], _ => Nat.zero_le _
  | d :: r, h => by
    have h1 := h d List.mem_cons_self
    have h2 := bulk_six r (fun x hx => h x (List.mem_cons_of_mem _ hx))
    simp only [Rows.uptoBulkAll, List.length_cons]; omega
/-- a slice has no more elements than its bulk -/
theorem bulk_slice {H : Type} {enc : TypeId × Value → H} {W : World} {t e : TypeId} (ht : Try.prog.underlying t = some (.slice e)) {a : Option Addr} {len cap : Nat} {d : DataW H} {p : List MemPlace} {fuel : Nat}
    (hf : DataW.trod enc Try.prog W 0 (fun _ => true) true fuel t [.slice a len cap] = some (d, p)) : len ≤ Rows.uptoBulk d := by
  rcases Deep.open_slice ht hf with ⟨hcs, _⟩ | ⟨x, len', cap', m, n, D, Pl, hcs, _, hl, hm, hmm, hx, hel⟩
  · simp at hcs
    obtain ⟨rfl, rfl, rfl⟩ := hcs
    exact Nat.zero_le _
  · simp only [List.cons.injEq, Value.slice.injEq, and_true] at hcs
    obtain ⟨rfl, rfl, rfl⟩ := hcs
    simp only [Prod.mk.injEq] at hx
    obtain ⟨rfl, _⟩ := hx
    have := bulk_len ((List.range len).map D)
    rw [List.length_map, List.length_range] at this
    simp only [Rows.uptoBulk]
    omega
theorem open_bools {H : Type} {enc : TypeId × Value → H} {W : World} {a : Option Addr} {len cap : Nat} {d : DataW H} {p : List MemPlace} {fuel : Nat}
    (hf : DataW.trod enc Try.prog W 0 (fun _ => true) true fuel 42 [.slice a len cap] = some (d, p)) (hz : ∀ n ∈ d.weights Try.prog 42, n ≤ reachBytes) :
    ∃ L : List Bool, L.length = len ∧ len ≤ cap ∧ len ≤ 140737488351232 ∧ (a = none → cap = 0) ∧ Bools W (.slice a len cap) L := by
  rcases Deep.open_slice Try.underlying42 hf with ⟨hcs, _⟩ | ⟨x, len', cap', m, n, D, Pl, hcs, _, hl, hm, hmm, hx, hel⟩
  · simp at hcs
    obtain ⟨rfl, rfl, rfl⟩ := hcs
    exact ⟨[], rfl, Nat.le_refl _, by omega, fun _ => rfl, _, _, rfl, .inl rfl⟩
  · simp only [List.cons.injEq, Value.slice.injEq, and_true] at hcs
    obtain ⟨rfl, rfl, rfl⟩ := hcs
    simp only [Prod.mk.injEq] at hx
    obtain ⟨rfl, _⟩ := hx
    simp only [if_true] at hmm
    subst hmm
    have hlen : len ≤ 140737488351232 := by
      have h2 := hz ((((List.range len).map D).length + ((List.range (m - len)).map fun j => D (len + j)).length) * Try.prog.bytesOf 4) (by simp [DataW.weights, Try.underlying42])
      rw [bytesB] at h2
      simp [reachBytes] at h2
      omega
    have hex : ∀ i, i < len → ∃ q : Bool, True ∧ ∀ j, j < 1 → W.cell? ((x.add (i * 1)).add j) = [Value.bool q][j]? := by
      intro i hi
      obtain ⟨cs', hc1, hc2⟩ := hel i (by omega)
      rw [cellsB] at hc1
      obtain ⟨q, rfl, _⟩ := DataW.trod_bool Try.underlying4 hc2
      obtain ⟨_, _, hcell⟩ := World.cells?_some hc1
      exact ⟨q, trivial, hcell⟩
    obtain ⟨L, hL, _, h2⟩ := recs_list 1 (fun q : Bool => [Value.bool q]) (fun _ => True) W x len hex len (Nat.le_refl _)
    refine ⟨L, hL, hl, hlen, fun h => (nomatch h), ⟨_, _, by rw [hL], ?_⟩⟩
    by_cases h0 : len = 0
    · exact .inl (List.eq_nil_of_length_eq_zero (by omega))
    · obtain ⟨q, _, q1⟩ := hex 0 (by omega)
      have c0 := q1 0 (by omega)
      obtain ⟨b, off, spot⟩ := x
      have hspot : spot = none := by
        have := World.cell?_spot (w := W) (show W.cell? _ = some _ from c0)
        simpa [Addr.add] using this
      subst hspot
      refine .inr ⟨b, off, rfl, fun i q hq => ?_⟩
      have hh := h2 i q hq 0 (by omega)
      rw [Addr.add_lit, Addr.add_lit, Nat.mul_one] at hh
      exact hh
/-- one call of the script -/
theorem open_op {H : Type} {enc : TypeId × Value → H} {W : World} {cs : List Value} {D : DataW H} {Pl : List MemPlace} {fuel : Nat}
    (hf : DataW.trod enc Try.prog W 0 (fun _ => true) true fuel 44 cs = some (D, Pl)) (hz : ∀ n ∈ D.weights Try.prog 44, n ≤ reachBytes) (hk : Rows.uptoBulk D ≤ 1048576) :
    6 ≤ Rows.uptoBulk D ∧ ∃ q : OpR, OpOk W q ∧ cs = q.cells := by
  obtain ⟨xs, m, hm, hx, hlen, hxl, hel⟩ := DataW.trod_struct Try.underlying44 hf
  rw [cellsOp] at hlen
  obtain ⟨v0, v1, v2, v3, v4, rfl⟩ := list5a cs hlen
  obtain ⟨x0, x1, x2, x3, x4, rfl⟩ := list5a xs hxl
  have e0 := hel 0 _ rfl
  have e1 := hel 1 _ rfl
  have e2 := hel 2 _ rfl
  have e3 := hel 3 _ rfl
  have e4 := hel 4 _ rfl
  clear hel
  simp [cellsNi, cellsBy, cellsB, cellsKe] at e0 e1 e2 e3 e4
  obtain ⟨kd, z0, _, _⟩ := DataW.trod_int Try.underlying3 e0
  obtain ⟨tw, z1, _⟩ := DataW.trod_bool Try.underlying4 e1
  obtain ⟨N, z2, _, w2⟩ := DataW.trod_int Try.underlying3 e2
  have h3 : ∃ a len cap, [v3] = [Value.slice a len cap] := by
    rcases Deep.open_slice Try.underlying22 e3 with ⟨hcs, _⟩ | ⟨x, len', cap', m, n, D, Pl, hcs, _⟩
    · exact ⟨_, _, _, hcs⟩
    · exact ⟨_, _, _, hcs⟩
  have h4 : ∃ a len cap, [v4] = [Value.slice a len cap] := by
    rcases Deep.open_slice Try.underlying42 e4 with ⟨hcs, _⟩ | ⟨x, len', cap', m, n, D, Pl, hcs, _⟩
    · exact ⟨_, _, _, hcs⟩
    · exact ⟨_, _, _, hcs⟩
  obtain ⟨a3, n3, c3, h3⟩ := h3
  obtain ⟨a4, n4, c4, h4⟩ := h4
  simp at z0 z1 z2 h3 h4
  subst z0 z1 z2 h3 h4
  have hD : D = .agg [x0.1, x1.1, x2.1, x3.1, x4.1] := (Prod.mk.inj hx).1
  subst hD
  have y3 : ∀ n ∈ x3.1.weights Try.prog 22, n ≤ reachBytes := fun n hn => hz n (by
    simp only [DataW.weights, Try.underlying44, List.map_cons, List.map_nil, DataW.weightsEach]
    exact List.mem_append_right _ (List.mem_append_right _ (List.mem_append_right _ (List.mem_append_left _ hn))))
  have y4 : ∀ n ∈ x4.1.weights Try.prog 42, n ≤ reachBytes := fun n hn => hz n (by
    simp only [DataW.weights, Try.underlying44, List.map_cons, List.map_nil, DataW.weightsEach]
    exact List.mem_append_right _ (List.mem_append_right _ (List.mem_append_right _ (List.mem_append_right _ (List.mem_append_left _ hn)))))
  have b0 := bulk_pos x0.1
  have b1 := bulk_pos x1.1
  have b2 := bulk_pos x2.1
  have b3 := bulk_pos x3.1
  have b4 := bulk_pos x4.1
  have c3' := bulk_slice Try.underlying22 e3
  have c4' := bulk_slice Try.underlying42 e4
  simp only [Rows.uptoBulk, Rows.uptoBulkAll] at hk
  obtain ⟨bs, t1, t2, t3, t4, _⟩ := open_bytes e3 y3
  obtain ⟨ks, s1, s2, s3, s4, s5⟩ := open_bools e4 y4
  refine ⟨by simp only [Rows.uptoBulk, Rows.uptoBulkAll]; omega, ⟨kd, tw, N, a3, n3, c3, bs, a4, n4, c4, ks⟩, ⟨(wf_i64 w2).2, t2, t1, by show n3 ≤ _; omega, t3, s5, s1, by show n4 ≤ _; omega, s4⟩, rfl⟩
/-- the script among the arguments -/
theorem open_ops {H : Type} {enc : TypeId × Value → H} {W : World} {a : Option Addr} {len cap : Nat} {d : DataW H} {p : List MemPlace} {fuel : Nat}
    (hf : DataW.trod enc Try.prog W 0 (fun _ => true) true fuel 23 [.slice a len cap] = some (d, p)) (hz : ∀ n ∈ d.weights Try.prog 23, n ≤ reachBytes) (hk : Rows.uptoBulk d ≤ 1048576) :
    ∃ L : List OpR, L.length = len ∧ OpsAt W a L ∧ len ≤ 174763 := by
  rcases Deep.open_slice Try.underlying23 hf with ⟨hcs, _⟩ | ⟨x, len', cap', m, n, D, Pl, hcs, _, hl, hm, hmm, hx, hel⟩
  · simp at hcs
    obtain ⟨rfl, rfl, rfl⟩ := hcs
    exact ⟨[], rfl, ⟨.inl rfl, fun q h => by simp at h⟩, by omega⟩
  · simp only [List.cons.injEq, Value.slice.injEq, and_true] at hcs
    obtain ⟨rfl, rfl, rfl⟩ := hcs
    simp only [Prod.mk.injEq] at hx
    obtain ⟨rfl, _⟩ := hx
    simp only [if_true] at hmm
    subst hmm
    have hbk : Rows.uptoBulkAll ((List.range len).map D) ≤ 1048576 := by simp only [Rows.uptoBulk] at hk; omega
    have hw : ∀ i, i < len → (∀ k ∈ (D i).weights Try.prog 44, k ≤ reachBytes) ∧ Rows.uptoBulk (D i) ≤ 1048576 := by
      intro i hi
      have hmem : D i ∈ (List.range len).map D := List.mem_map.2 ⟨i, List.mem_range.2 hi, rfl⟩
      refine ⟨fun k hk => hz k ?_, Nat.le_trans (bulk_mem _ _ hmem) hbk⟩
      have := weightsAll_mem Try.prog 44 ((List.range len).map D) (D i) hmem k hk
      simp only [DataW.weights, Try.underlying23]
      exact List.mem_cons_of_mem _ (List.mem_append_left _ this)
    have hop : ∀ i, i < len → 6 ≤ Rows.uptoBulk (D i) ∧ ∃ q : OpR, OpOk W q ∧ ∀ j, j < 5 → W.cell? ((x.add (i * 5)).add j) = q.cells[j]? := by
      intro i hi
      obtain ⟨cs', hc1, hc2⟩ := hel i (by omega)
      rw [cellsOp] at hc1
      obtain ⟨q0, q, q1, rfl⟩ := open_op hc2 (hw i hi).1 (hw i hi).2
      obtain ⟨_, _, hcell⟩ := World.cells?_some hc1
      exact ⟨q0, q, q1, hcell⟩
    have h6 := bulk_six ((List.range len).map D) (fun d hd => by
      obtain ⟨i, hi, rfl⟩ := List.mem_map.1 hd
      exact (hop i (List.mem_range.1 hi)).1)
    rw [List.length_map, List.length_range] at h6
    have hex := fun i hi => (hop i hi).2
    obtain ⟨L, hL, h1, h2⟩ := recs_list 5 OpR.cells (OpOk W) W x len hex len (Nat.le_refl _)
    refine ⟨L, hL, ⟨?_, h1⟩, by omega⟩
    by_cases h0 : len = 0
    · exact .inl (List.eq_nil_of_length_eq_zero (by omega))
    · obtain ⟨q, _, q1⟩ := hex 0 (by omega)
      have c0 := q1 0 (by omega)
      obtain ⟨b, off, spot⟩ := x
      have hspot : spot = none := by
        have := World.cell?_spot (w := W) (show W.cell? _ = some _ from c0)
        simpa [Addr.add] using this
      subst hspot
      refine .inr ⟨b, off, rfl, fun i q hq j hj => ?_⟩
      have hh := h2 i q hq j hj
      have ad : ∀ j, ((⟨b, off, none⟩ : Addr).add (i * 5)).add j = ⟨b, off + i * 5 + j, none⟩ := fun j => by rw [Addr.add_lit, Addr.add_lit]
      rw [ad] at hh
      exact hh
end Go.Proofs.Ytipbflmonhlnjaa
