import Derived.Test.YtpheajiepnjhdaaDoorFrame
import Derived.SizedLaws
import Derived.Lib.SmallJoins
import Derived.Deep.Slices
import Derived.Test.YtpheajiepnjhdaaDoorHead2
namespace Go.Proofs.YtpheajiepnjhdaaDoor
open Rec Go.ChangeShapes Go.WideShapes Go.ChangeAt Go.RowKit

theorem nth_wf {l : List Int} (h : ∀ c ∈ l, 0 ≤ c ∧ c < 256) (i : Nat) : 0 ≤ nth l i ∧ nth l i < 256 := by
  unfold nth
  by_cases hi : i < l.length
  · have : l.getD i 0 = l[i] := by simp [List.getD, hi]
    rw [this]; exact h _ (List.getElem_mem hi)
  · have : l.getD i 0 = 0 := by simp [List.getD, hi]
    rw [this]; omega
theorem cells5 : Tryd.prog.cellsOf 5 = 1 := by kernel_rfl
theorem bytes5 : Tryd.prog.bytesOf 5 = 1 := by kernel_rfl
theorem wf_u8 {x : Int} (h : (Lit.int .u8 x).wf = true) : 0 ≤ x ∧ x < 256 := by
  have hmin : IntKind.u8.min = 0 := rfl
  have hmax : IntKind.u8.max = 255 := rfl
  simp only [Lit.wf, Bool.and_eq_true, decide_eq_true_eq] at h
  omega
theorem wf_u32 {x : Int} (h : (Lit.int .u32 x).wf = true) : 0 ≤ x ∧ x < 4294967296 := by
  have hmin : IntKind.u32.min = 0 := rfl
  have hmax : IntKind.u32.max = 4294967295 := rfl
  simp only [Lit.wf, Bool.and_eq_true, decide_eq_true_eq] at h
  omega

/-- a []byte among the arguments -/
theorem open_bytes {H : Type} {enc : TypeId × Value → H} {W : World} {a : Option Addr} {len cap : Nat} {d : DataW H} {p : List MemPlace} {fuel : Nat}
    (hf : DataW.trod enc Tryd.prog W 0 (fun _ => true) true fuel 23 [.slice a len cap] = some (d, p)) (hz : ∀ n ∈ d.weights Tryd.prog 23, n ≤ reachBytes) :
    ∃ l : List Int, l.length = len ∧ Bytes W a l ∧ (a = none → cap = 0) ∧ len ≤ 140737488351232 := by
  rcases open_ints Tryd.underlying23 Tryd.underlying5 cells5 hf with ⟨hcs, _⟩ | ⟨x, l, c, zs, hcs, _, hl, hm, hlen, hx, hcell, hwz⟩
  · simp at hcs
    obtain ⟨rfl, rfl, rfl⟩ := hcs
    exact ⟨[], rfl, ⟨by simp, fun i => by simp [nth], .inl rfl⟩, fun _ => rfl, by omega⟩
  · simp only [List.cons.injEq, Value.slice.injEq, and_true] at hcs
    obtain ⟨rfl, rfl, rfl⟩ := hcs
    simp only [Prod.mk.injEq] at hx
    obtain ⟨rfl, _⟩ := hx
    simp only [if_true] at hlen
    have hb : cap ≤ 140737488351232 := by
      have h1 := hz ((lits (H := H) .u8 (zs.take len)).length + (lits (H := H) .u8 (zs.drop len)).length) (by simp [DataW.weights, Tryd.underlying23, bytes5])
      simp [lits, reachBytes] at h1
      omega
    refine ⟨zs.take len, by simp; omega, ⟨by simp; omega, nth_wf fun n hn => wf_u8 (hwz n (List.mem_of_mem_take hn)), ?_⟩, fun h => (nomatch h), by omega⟩
    by_cases h0 : len = 0
    · exact .inl (by simp [h0])
    · obtain ⟨b, off, rfl, hc⟩ := ints_at hcell (by omega)
      refine .inr ⟨b, off, rfl, fun i hi => ?_⟩
      have hi' : i < len := by simp at hi; omega
      rw [hc i (by omega)]
      have e : nth (zs.take len) i = zs.getD i 0 := by simp [nth, List.getD, hi']
      rw [e]
theorem bulk_pos {H : Type} (d : DataW H) : 0 < Rows.uptoBulk d := by
  cases d with
  | lit l => cases l <;> simp [Rows.uptoBulk]
  | nil => simp [Rows.uptoBulk]
  | ptr d => simp [Rows.uptoBulk]
  | slice elems spare => simp [Rows.uptoBulk]
  | agg parts => simp [Rows.uptoBulk]
  | iface t d => simp [Rows.uptoBulk]
  | map entries => simp [Rows.uptoBulk]
  | held h => simp [Rows.uptoBulk]
theorem bulk_many {H : Type} : ∀ l : List (DataW H), l.length ≤ Rows.uptoBulkAll l
  | [] => by simp [Rows.uptoBulkAll]
  | d :: r => by
    have h1 := bulk_pos d
    have h2 := bulk_many r
    simp only [Rows.uptoBulkAll, List.length_cons]; omega
theorem small_le {H : Type} {l : List (DataW H)} (h : Rows.uptoSmall H l = true) : Rows.uptoBulkAll l ≤ 1048576 := of_decide_eq_true h
theorem bulk_slice {H : Type} (elems spare : List (DataW H)) : elems.length ≤ Rows.uptoBulk (.slice elems spare) := by
  have := bulk_many elems
  simp only [Rows.uptoBulk]; omega

/-- how long a slice of numbers is, by its bulk -/
theorem ints_bulk {H : Type} {enc : TypeId × Value → H} {W : World} {a : Option Addr} {len cap : Nat} {d : DataW H} {p : List MemPlace} {fuel : Nat} {t e : TypeId} {k : IntKind}
    (ht : Tryd.prog.underlying t = some (.slice e)) (he : Tryd.prog.underlying e = some (.int k)) (hc : Tryd.prog.cellsOf e = 1)
    (hf : DataW.trod enc Tryd.prog W 0 (fun _ => true) true fuel t [.slice a len cap] = some (d, p)) : len ≤ Rows.uptoBulk d ∧ len ≤ cap := by
  rcases open_ints ht he hc hf with ⟨hcs, _⟩ | ⟨x, l, c, zs, hcs, _, hl, hm, hlen, hx, hcell, hwz⟩
  · simp at hcs
    obtain ⟨rfl, rfl, rfl⟩ := hcs
    exact ⟨Nat.zero_le _, Nat.le_refl _⟩
  · simp only [List.cons.injEq, Value.slice.injEq, and_true] at hcs
    obtain ⟨rfl, rfl, rfl⟩ := hcs
    simp only [Prod.mk.injEq] at hx
    obtain ⟨rfl, _⟩ := hx
    simp only [if_true] at hlen
    refine ⟨Nat.le_trans ?_ (bulk_slice _ _), hl⟩
    simp [lits]; omega
theorem wf_i64 {x : Int} (h : (Lit.int .i64 x).wf = true) : -9223372036854775808 ≤ x ∧ x ≤ 9223372036854775807 := by
  have hmin : IntKind.i64.min = -9223372036854775808 := rfl
  have hmax : IntKind.i64.max = 9223372036854775807 := rfl
  simp only [Lit.wf, Bool.and_eq_true, decide_eq_true_eq] at h
  omega

theorem bytesI : Tryd.prog.bytesOf 3 = 8 := by kernel_rfl
theorem cellsS : Tryd.prog.cellsOf 23 = 1 := by kernel_rfl
theorem bytesS : Tryd.prog.bytesOf 23 = 24 := by kernel_rfl
theorem open_bytes_cs {H : Type} {enc : TypeId × Value → H} {W : World} {cs : List Value} {d : DataW H} {p : List MemPlace} {fuel : Nat}
    (hf : DataW.trod enc Tryd.prog W 0 (fun _ => true) true fuel 23 cs = some (d, p)) : ∃ a len cap, cs = [.slice a len cap] ∧ len ≤ cap := by
  rcases open_ints Tryd.underlying23 Tryd.underlying5 cells5 hf with ⟨hcs, _⟩ | ⟨x, l, c, zs, hcs, _, hl, _⟩
  · exact ⟨_, _, _, hcs, Nat.le_refl _⟩
  · exact ⟨_, _, _, hcs, hl⟩
theorem weightsAll_mem {H : Type} (P : Program) (e : TypeId) : ∀ (l : List (DataW H)) (d : DataW H), d ∈ l → ∀ n ∈ d.weights P e, n ∈ DataW.weightsAll P e l
  | x :: r, d, hd, n, hn => by
    rw [DataW.weightsAll]
    rcases List.mem_cons.1 hd with rfl | h
    · exact List.mem_append_left _ hn
    · exact List.mem_append_right _ (weightsAll_mem P e r d h n hn)
theorem recs_list {R : Type} (sz : Nat) (cells : R → List Value) (ok : R → Prop) (W : World) (x : Addr) (len : Nat) (hex : ∀ i, i < len → ∃ q : R, ok q ∧ ∀ j, j < sz → W.cell? ((x.add (i * sz)).add j) = (cells q)[j]?) :
    ∀ k, k ≤ len → ∃ L : List R, L.length = k ∧ (∀ q ∈ L, ok q) ∧ ∀ i q, L[i]? = some q → ∀ j, j < sz → W.cell? ((x.add (i * sz)).add j) = (cells q)[j]?
  | 0, _ => ⟨[], rfl, fun q h => by simp at h, fun i q h => by simp at h⟩
  | k + 1, hk => by
    obtain ⟨L, hl, h1, h2⟩ := recs_list sz cells ok W x len hex k (by omega)
    obtain ⟨q, q1, q2⟩ := hex k (by omega)
    refine ⟨L ++ [q], by simp [hl], fun r hr => ?_, fun i r hr => ?_⟩
    · rcases List.mem_append.1 hr with h | h
      · exact h1 r h
      · simp at h; subst h; exact q1
    · by_cases hi : i < L.length
      · rw [List.getElem?_append_left hi] at hr; exact h2 i r hr
      · rw [List.getElem?_append_right (by omega)] at hr
        have : i - L.length = 0 := by
          by_cases h : i - L.length = 0
          · exact h
          · rw [List.getElem?_eq_none (by simp; omega)] at hr; cases hr
        rw [this] at hr
        simp at hr
        subst hr
        have e : i = k := by omega
        rw [e]; exact q2
/-- a [][]byte among the arguments -/
theorem open_rows {H : Type} {enc : TypeId × Value → H} {W : World} {a : Option Addr} {len cap : Nat} {d : DataW H} {p : List MemPlace} {fuel : Nat}
    (hf : DataW.trod enc Tryd.prog W 0 (fun _ => true) true fuel 27 [.slice a len cap] = some (d, p)) (hz : ∀ n ∈ d.weights Tryd.prog 27, n ≤ reachBytes) :
    ∃ ds : List (List Int), ds.length = len ∧ Data W a ds ∧ len ≤ cap ∧ (a = none → cap = 0) := by
  rcases Deep.open_slice Tryd.underlying27 hf with ⟨hcs, _⟩ | ⟨x, len', cap', m, n, D, Pl, hcs, _, hl, hm, hmm, hx, hel⟩
  · simp at hcs
    obtain ⟨rfl, rfl, rfl⟩ := hcs
    exact ⟨[], rfl, ⟨by simp, .inl rfl⟩, Nat.le_refl _, fun _ => rfl⟩
  · simp only [List.cons.injEq, Value.slice.injEq, and_true] at hcs
    obtain ⟨rfl, rfl, rfl⟩ := hcs
    simp only [Prod.mk.injEq] at hx
    obtain ⟨rfl, _⟩ := hx
    simp only [if_true] at hmm
    subst hmm
    have hlen : len ≤ 1000000000000000 := by
      have h2 := hz ((((List.range len).map D).length + ((List.range (m - len)).map fun j => D (len + j)).length) * Tryd.prog.bytesOf 23) (by simp [DataW.weights, Tryd.underlying27])
      rw [bytesS] at h2
      simp [reachBytes] at h2
      omega
    have hw : ∀ i, i < len → ∀ k ∈ (D i).weights Tryd.prog 23, k ≤ reachBytes := by
      intro i hi k hk
      refine hz k ?_
      have := weightsAll_mem Tryd.prog 23 ((List.range len).map D) (D i) (List.mem_map.2 ⟨i, List.mem_range.2 hi, rfl⟩) k hk
      simp only [DataW.weights, Tryd.underlying27]
      exact List.mem_cons_of_mem _ (List.mem_append_left _ this)
    have hex : ∀ i, i < len → ∃ q : List Int × Option Addr × Nat, (Bytes W q.2.1 q.1 ∧ (q.2.1 = none → q.2.2 = 0)) ∧ ∀ j, j < 1 → W.cell? ((x.add (i * 1)).add j) = [Value.slice q.2.1 q.1.length q.2.2][j]? := by
      intro i hi
      obtain ⟨cs', hc1, hc2⟩ := hel i (by omega)
      rw [cellsS] at hc1
      obtain ⟨a', len', cap', rfl, _⟩ := open_bytes_cs hc2
      obtain ⟨l, h1, h2, h3, _⟩ := open_bytes hc2 (hw i hi)
      obtain ⟨_, _, hcell⟩ := World.cells?_some hc1
      exact ⟨(l, a', cap'), ⟨h2, h3⟩, by rw [h1]; exact hcell⟩
    obtain ⟨L, hL, h1, h2⟩ := recs_list 1 (fun q : List Int × Option Addr × Nat => [Value.slice q.2.1 q.1.length q.2.2]) (fun q => Bytes W q.2.1 q.1 ∧ (q.2.1 = none → q.2.2 = 0)) W x len hex len (Nat.le_refl _)
    refine ⟨L.map (·.1), by simp [hL], ⟨by simp [hL]; omega, ?_⟩, hl, fun h => (nomatch h)⟩
    by_cases h0 : len = 0
    · exact .inl (by rw [List.eq_nil_of_length_eq_zero (show L.length = 0 by omega)]; rfl)
    · obtain ⟨q, _, q1⟩ := hex 0 (by omega)
      have c0 := q1 0 (by omega)
      obtain ⟨b, off, spot⟩ := x
      have hspot : spot = none := by
        have := World.cell?_spot (w := W) (show W.cell? _ = some _ from c0)
        simpa [Addr.add] using this
      subst hspot
      refine .inr ⟨b, off, rfl, fun i hi => ?_⟩
      have hi' : i < L.length := by simpa using hi
      have hq : L[i]? = some L[i] := List.getElem?_eq_getElem hi'
      have hc := h2 i _ hq 0 (by omega)
      rw [Addr.add_lit, Addr.add_lit, Nat.mul_one, Nat.add_zero] at hc
      have e : row (L.map (·.1)) i = (L[i]).1 := by simp [row, List.getD, hi']
      rw [e]
      exact ⟨_, _, hc, h1 _ (List.getElem_mem hi')⟩
/-- a []int among the arguments -/
theorem open_nums {H : Type} {enc : TypeId × Value → H} {W : World} {a : Option Addr} {len cap : Nat} {d : DataW H} {p : List MemPlace} {fuel : Nat}
    (hf : DataW.trod enc Tryd.prog W 0 (fun _ => true) true fuel 22 [.slice a len cap] = some (d, p)) (hz : ∀ n ∈ d.weights Tryd.prog 22, n ≤ reachBytes) :
    ∃ l : List Int, l.length = len ∧ Ints W a l ∧ (∀ i, -9223372036854775808 ≤ nth l i ∧ nth l i ≤ 9223372036854775807) ∧ len ≤ cap ∧ (a = none → cap = 0) ∧ len ≤ 17592186043904 := by
  rcases open_ints Tryd.underlying22 Tryd.underlying3 cellsN hf with ⟨hcs, _⟩ | ⟨x, l, c, zs, hcs, _, hl, hm, hlen, hx, hcell, hwz⟩
  · simp at hcs
    obtain ⟨rfl, rfl, rfl⟩ := hcs
    exact ⟨[], rfl, ⟨by simp, .inl rfl⟩, fun i => by simp [nth], Nat.le_refl _, fun _ => rfl, by omega⟩
  · simp only [List.cons.injEq, Value.slice.injEq, and_true] at hcs
    obtain ⟨rfl, rfl, rfl⟩ := hcs
    simp only [Prod.mk.injEq] at hx
    obtain ⟨rfl, _⟩ := hx
    simp only [if_true] at hlen
    have hb : cap ≤ 17592186043904 := by
      have h1 := hz (((lits (H := H) .i64 (zs.take len)).length + (lits (H := H) .i64 (zs.drop len)).length) * 8) (by simp [DataW.weights, Tryd.underlying22, bytesI])
      simp [lits, reachBytes] at h1
      omega
    refine ⟨zs.take len, by simp; omega, ⟨by simp; omega, ?_⟩, fun i => ?_, hl, fun h => (nomatch h), by omega⟩
    · by_cases h0 : len = 0
      · exact .inl (by simp [h0])
      · obtain ⟨b, off, rfl, hc⟩ := ints_at hcell (by omega)
        refine .inr ⟨b, off, rfl, fun i hi => ?_⟩
        have hi' : i < len := by simp at hi; omega
        rw [hc i (by omega)]
        have e : nth (zs.take len) i = zs.getD i 0 := by simp [nth, List.getD, hi']
        rw [e]
    · by_cases hi : i < (zs.take len).length
      · have e : nth (zs.take len) i = (zs.take len)[i] := by unfold nth; rw [List.getD_eq_getElem?_getD, List.getElem?_eq_getElem hi]; rfl
        rw [e]
        exact wf_i64 (hwz _ (List.mem_of_mem_take (List.getElem_mem hi)))
      · rw [nth_out _ _ (by omega)]; omega
end Go.Proofs.YtpheajiepnjhdaaDoor
