import Derived.Test.YtdheojhfgeabhaaDoorKWLa
import Derived.Maps.OwnSet
import Derived.Lib.SlKeysI
namespace Go.Proofs.YtdheojhfgeabhaaDoor
open Go.RowKit Rec

theorem flatK (f : Bk → List Value) (l : List Bk) (k : Nat) (hk : k < l.length) (j : Nat) (hj : j < 2) (hf : ∀ p, (f p).length = 2 := by intro p; rfl) : (l.flatMap f)[k * 2 + j]? = (f l[k])[j]? := by
  induction l generalizing k with
  | nil => simp at hk
  | cons p l ih =>
    rw [List.flatMap_cons]
    cases k with
    | zero => rw [List.getElem?_append_left (by rw [hf]; omega)]; simp
    | succ k =>
      rw [List.getElem?_append_right (by rw [hf]; omega), hf, show (k + 1) * 2 + j - 2 = k * 2 + j by omega, ih k (by simpa using hk)]; rfl
/-- puts that are handed in -/
structure PtsAt (w : World) (a : Option Addr) (P : List (Int × Int)) : Prop where
  len : P.length ≤ 1000000000000000
  at_ : P = [] ∨ ∃ b off, a = some ⟨b, off, none⟩ ∧ ∀ i q, P[i]? = some q → w.cell? ⟨b, off + i * 2, none⟩ = some (.int .i64 q.1) ∧ w.cell? ⟨b, off + i * 2 + 1, none⟩ = some (.int .u8 q.2) ∧ 0 ≤ q.2 ∧ q.2 < 256
theorem PtsAt.on {w w' : World} {a : Option Addr} {P : List (Int × Int)} (h : PtsAt w a P) (hb : Below w.heap.size w w') : PtsAt w' a P := by
  refine ⟨h.len, ?_⟩
  rcases h.at_ with e | ⟨b, off, e, hc⟩
  · exact .inl e
  · refine .inr ⟨b, off, e, fun i q hq => ?_⟩
    obtain ⟨h1, h2, h3⟩ := hc i q hq
    exact ⟨(hb.cell (block_lt_of_cell h1)).trans h1, (hb.cell (block_lt_of_cell h2)).trans h2, h3⟩
def Bk.cells (q : Bk) : List Value := [.int .i64 q.n, q.v]
theorem pre_nsB (L : List Bk) (h1 : ∀ q ∈ L, 98 ≤ q.n) (h2 : L.Pairwise fun p q => p.n < q.n) (n : Int) (h3 : ∀ q ∈ L, q.n < n) : may (nsB L) n = true := by
  refine decide_eq_true fun i hi => ?_
  have hi' : i < L.length := by simpa [nsB] using hi
  have e : nth (nsB L) i = (L[i]).n := nth_nsB L i _ (List.getElem?_eq_getElem hi')
  refine ⟨?_, by rw [e]; exact h3 _ (List.getElem_mem hi')⟩
  cases i with
  | zero =>
    have := h1 _ (List.getElem_mem hi')
    simp only [pre, e]
    simp
    omega
  | succ i =>
    have hp : pre (nsB L) (i + 1) = nth (nsB L) i := by simp [pre]
    rw [hp, e, nth_nsB L i _ (List.getElem?_eq_getElem (by omega))]
    exact List.pairwise_iff_getElem.1 h2 i (i + 1) (by omega) hi' (by omega)
end Go.Proofs.YtdheojhfgeabhaaDoor

namespace Go.Proofs.YtdheojhfgeabhaaDoor
open Go.RowKit Go.Maps Rec

/-- what a transaction holds: a block for each number that is put -/
abbrev Cm := Nat → Option Bk
def ups (c : Cm) (i : Nat) (q : Option Bk) : Cm := fun j => if j = i then q else c j
theorem ups_same (c : Cm) (i : Nat) (q : Option Bk) : ups c i q i = q := by simp [ups]
theorem ups_other (c : Cm) {i j : Nat} (q : Option Bk) (h : j ≠ i) : ups c i q j = c j := by simp [ups, h]
theorem ups_back (c : Cm) (i : Nat) (q : Option Bk) : ups (ups c i q) i (c i) = c := by
  funext j
  by_cases h : j = i
  · subst h; simp [ups]
  · simp [ups, h]
def lst (c : Cm) (n : Nat) : List Bk := (List.range n).filterMap c
def ent (q : Bk) : Lit × DataW Value := (.int .i64 q.n, .held q.v)
def dat (c : Cm) (n : Nat) : DataW Value := .map ((lst c n).map ent)
/-- each stands under its own number -/
structure COk (c : Cm) (n : Nat) : Prop where
  num : ∀ i q, c i = some q → q.n = (i : Int)
  lo : ∀ i q, c i = some q → 98 ≤ i
  hi : ∀ i q, c i = some q → i < n
theorem cok_none (n : Nat) : COk (fun _ => none) n := ⟨(fun _ _ h => by cases h), (fun _ _ h => by cases h), (fun _ _ h => by cases h)⟩
theorem COk.ups {c : Cm} {n i : Nat} (h : COk c n) (q : Option Bk) (h0 : 98 ≤ i) (h1 : i < n) (hq : ∀ x, q = some x → x.n = (i : Int)) : COk (ups c i q) n := by
  refine ⟨fun j x hx => ?_, fun j x hx => ?_, fun j x hx => ?_⟩ <;> by_cases e : j = i
  · subst e; rw [ups_same] at hx; exact hq x hx
  · rw [ups_other _ _ e] at hx; exact h.num j x hx
  · subst e; exact h0
  · rw [ups_other _ _ e] at hx; exact h.lo j x hx
  · subst e; exact h1
  · rw [ups_other _ _ e] at hx; exact h.hi j x hx
theorem lst_mem {c : Cm} {n : Nat} {q : Bk} (h : q ∈ lst c n) : ∃ i, i < n ∧ c i = some q := by
  obtain ⟨i, hi, e⟩ := List.mem_filterMap.1 h
  exact ⟨i, List.mem_range.1 hi, e⟩
theorem lst_split (c : Cm) (n i : Nat) (h : i < n) : lst c n = lst c i ++ ((c i).toList ++ (List.range' (i + 1) (n - i - 1)).filterMap c) := by
  have e : List.range n = List.range i ++ (i :: List.range' (i + 1) (n - i - 1)) := by
    rw [List.range_eq_range', List.range_eq_range']
    have := @List.range'_append_1 0 i (n - i)
    rw [show i + (n - i) = n by omega, Nat.zero_add] at this
    rw [← this]
    congr 1
    obtain ⟨m, hm⟩ : ∃ m, n - i = m + 1 := ⟨n - i - 1, by omega⟩
    rw [hm, List.range'_succ]
    simp
  unfold lst
  rw [e, List.filterMap_append, List.filterMap_cons]
  cases c i <;> rfl
theorem filterMap_ups (c : Cm) (i : Nat) (q : Option Bk) (l : List Nat) (h : ∀ j ∈ l, j ≠ i) : l.filterMap (ups c i q) = l.filterMap c := by
  induction l with
  | nil => rfl
  | cons a l ih =>
    rw [List.filterMap_cons, List.filterMap_cons, ups_other c q (h a (.head _)), ih (fun j hj => h j (.tail _ hj))]
theorem lst_ups (c : Cm) (n i : Nat) (q : Option Bk) (h : i < n) : lst (ups c i q) n = lst c i ++ (q.toList ++ (List.range' (i + 1) (n - i - 1)).filterMap c) := by
  rw [lst_split _ n i h, ups_same]
  unfold lst
  rw [filterMap_ups c i q (List.range i) (fun j hj => by have := List.mem_range.1 hj; omega), filterMap_ups c i q _ (fun j hj => by have := List.mem_range'_1.1 hj; omega)]
theorem insert_mid (x : Lit × DataW Value) : ∀ (A B : List (Lit × DataW Value)), (∀ a ∈ A, x.1.before a.1 = false) → (∀ b ∈ B, x.1.before b.1 = true) → DataW.insert x (A ++ B) = A ++ x :: B
  | [], [], _, _ => rfl
  | [], b :: B, _, h => by simp [DataW.insert, h b (.head _)]
  | a :: A, B, h1, h2 => by
    simp only [List.cons_append, DataW.insert, h1 a (.head _)]
    rw [insert_mid x A B (fun b hb => h1 b (.tail _ hb)) h2]
    simp
theorem filter_all {α : Type} (f : α → Bool) (l : List α) (h : ∀ a ∈ l, f a = true) : l.filter f = l := List.filter_eq_self.2 h
theorem low_mem {c : Cm} {n i : Nat} (h : COk c n) {p : Lit × DataW Value} (hp : p ∈ (lst c i).map ent) : ∃ m : Nat, p.1 = .int .i64 m ∧ m < i := by
  obtain ⟨q, hq, rfl⟩ := List.mem_map.1 hp
  obtain ⟨j, hj, e⟩ := lst_mem hq
  exact ⟨j, by rw [ent, h.num j q e], hj⟩
theorem high_mem {c : Cm} {n i m : Nat} (h : COk c n) {p : Lit × DataW Value} (hp : p ∈ ((List.range' (i + 1) m).filterMap c).map ent) : ∃ m : Nat, p.1 = .int .i64 m ∧ i < m := by
  obtain ⟨q, hq, rfl⟩ := List.mem_map.1 hp
  obtain ⟨j, hj, e⟩ := List.mem_filterMap.1 hq
  have := List.mem_range'_1.1 hj
  exact ⟨j, by rw [ent, h.num j q e], by omega⟩
theorem same_i64 (a b : Int) : (Lit.int .i64 a).sameKey (.int .i64 b) = decide (a = b) := by simp [Lit.sameKey]
theorem before_i64 (a b : Int) : (Lit.int .i64 a).before (.int .i64 b) = decide (a < b) := by simp [Lit.before]
theorem struck {c : Cm} {n i : Nat} (h : COk c n) (hi : i < n) : ((lst c n).map ent).filter (fun p => !p.1.sameKey (.int .i64 i)) = (lst c i).map ent ++ ((List.range' (i + 1) (n - i - 1)).filterMap c).map ent := by
  rw [lst_split c n i hi, List.map_append, List.map_append, List.filter_append, List.filter_append]
  rw [filter_all _ ((lst c i).map ent) (fun p hp => by obtain ⟨m, e, hm⟩ := low_mem h hp; rw [e, same_i64]; simp; omega)]
  rw [filter_all _ (((List.range' (i + 1) (n - i - 1)).filterMap c).map ent) (fun p hp => by obtain ⟨m, e, hm⟩ := high_mem h hp; rw [e, same_i64]; simp; omega)]
  cases e : c i with
  | none => simp
  | some q => simp [ent, h.num i q e, same_i64]
theorem dat_del {c : Cm} {n i : Nat} (h : COk c n) (hi : i < n) : (dat c n).del (.int .i64 i) = dat (ups c i none) n := by
  show DataW.map (((lst c n).map ent).filter fun p => !p.1.sameKey (.int .i64 i)) = _
  rw [struck h hi, dat, lst_ups c n i none hi]
  simp
theorem dat_put {c : Cm} {n i : Nat} (h : COk c n) (hi : i < n) (q : Bk) (hq : q.n = (i : Int)) : (dat c n).put (.int .i64 i) (.held q.v) = dat (ups c i (some q)) n := by
  show DataW.map (DataW.insert _ (((lst c n).map ent).filter fun p => !p.1.sameKey (.int .i64 i))) = _
  rw [struck h hi, dat, lst_ups c n i (some q) hi, insert_mid]
  · simp [ent, hq]
  · intro p hp
    obtain ⟨m, e, hm⟩ := low_mem h hp
    rw [e, before_i64]; simp; omega
  · intro p hp
    obtain ⟨m, e, hm⟩ := high_mem h hp
    rw [e, before_i64]; simp; omega
theorem dat_find {c : Cm} {n i : Nat} (h : COk c n) : ((lst c n).map ent).find? (fun p => p.1.sameKey (.int .i64 i)) = (c i).map ent := by
  cases e : c i with
  | none =>
    rw [Option.map_none, List.find?_eq_none]
    intro p hp
    obtain ⟨q, hq, rfl⟩ := List.mem_map.1 hp
    obtain ⟨j, hj, ej⟩ := lst_mem hq
    rw [ent, h.num j q ej, same_i64]
    simp
    rintro hh
    have : j = i := by omega
    subst this
    rw [e] at ej; cases ej
  | some q =>
    have hi := h.hi i q e
    rw [lst_split c n i hi, List.map_append, List.find?_append, e]
    rw [List.find?_eq_none.2 (fun p hp => by obtain ⟨m, e, hm⟩ := low_mem h hp; rw [e, same_i64]; simp; omega)]
    simp [ent, h.num i q e, same_i64]
theorem dat_has {c : Cm} {n : Nat} (h : COk c n) (i : Nat) : Maps.has (dat c n) (.int .i64 i) = (c i).isSome := by
  show ((lst c n).map ent).any _ = _
  have := dat_find (i := i) h
  rw [← List.isSome_find?, this]
  cases c i <;> rfl
theorem dat_at {c : Cm} {n : Nat} (h : COk c n) (i : Nat) (z : DataW Value) : (dat c n).atKey (.int .i64 i) z = match c i with | some q => .held q.v | none => z := by
  simp only [dat, DataW.atKey]
  rw [dat_find h]
  cases c i <;> rfl
theorem dat_size (c : Cm) (n : Nat) : Maps.size (dat c n) = (lst c n).length := by simp [dat, Maps.size]
theorem lst_ris {c : Cm} {n : Nat} (h : COk c n) : (lst c n).Pairwise fun p q => p.n < q.n := by
  refine List.Pairwise.filterMap (R := fun a b => a < b) c (fun a b hab p hp q hq => ?_) List.pairwise_lt_range
  rw [h.num a p hp, h.num b q hq]; omega
theorem keys_dat (c : Cm) (n : Nat) : intKeys (dat c n) = (lst c n).map Bk.n := by
  show ((lst c n).map ent).map _ = _
  rw [List.map_map]; rfl
theorem sorted_keys {c : Cm} {n : Nat} (h : COk c n) {ss : List Int} (hp : ss.Perm (intKeys (dat c n))) : ss.mergeSort (fun x y => decide (x ≤ y)) = (lst c n).map Bk.n := by
  rw [keys_dat] at hp
  have s1 : (ss.mergeSort (fun x y => decide (x ≤ y))).Pairwise (fun a b => decide (a ≤ b) = true) := List.pairwise_mergeSort (fun a b c h1 h2 => by simp at *; omega) (fun a b => by simp; omega) ss
  have s2 : ((lst c n).map Bk.n).Pairwise (fun a b => decide (a ≤ b) = true) := by
    rw [List.pairwise_map]
    exact (lst_ris h).imp (fun hab => by simp; omega)
  refine List.Perm.eq_of_pairwise (le := fun a b => decide (a ≤ b) = true) (fun a b _ _ h1 h2 => by simp at h1 h2; omega) s1 s2 ?_
  exact (List.mergeSort_perm _ _).trans hp
theorem lst_len_ups {c : Cm} {n i : Nat} (h : i < n) (q : Bk) : (lst (ups c i (some q)) n).length = (lst c n).length + (if (c i).isSome then 0 else 1) := by
  rw [lst_ups c n i _ h, lst_split c n i h]
  cases c i <;> simp <;> omega
theorem lst_none (n : Nat) : lst (fun _ => none) n = [] := by
  unfold lst
  induction n with
  | zero => rfl
  | succ n ih => rw [List.range_succ, List.filterMap_append, ih]; rfl
end Go.Proofs.YtdheojhfgeabhaaDoor
