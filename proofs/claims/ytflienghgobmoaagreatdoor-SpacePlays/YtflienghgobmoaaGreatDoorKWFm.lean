import Derived.Test.YtflienghgobmoaaGreatDoorKWAp
import Derived.Maps.OwnSet
import Derived.Lib.SlKeysI
import Derived.Shelf.SlIterI.Nil
import Derived.Shelf.SortM.Plain
import Derived.Shelf.SortM.SortNone
import Derived.Ground.GgzProg
import Derived.Ground.SlgmProg
import Derived.Test.YtflienghgobmoaaGreatDoorProg
namespace Go.Proofs.YtflienghgobmoaaGreatDoor
open Go.RowKit Rec

/-- a disk of one's own, in a law's world -/
structure Mine (w0 w : World) (D : Dk) : Prop where
  disk : Disk w D
  far : ∀ k, D.all k → w0.heap.size ≤ k
  bel : Below w0.heap.size w0 w
theorem Mine.on {w0 w w' : World} {D : Dk} (h : Mine w0 w D) (hb : Below w.heap.size w w') : Mine w0 w' D := ⟨h.disk.on hb, h.far, h.bel.trans (hb.mono h.bel.size)⟩
theorem Mine.step {w0 w w' : World} {D E : Dk} (h : Mine w0 w D) (hd : Disk w' E) (hm : Mv w D w' E) (ha : Al w.heap.size D E) : Mine w0 w' E :=
  ⟨hd, fun k hk => (ha k hk).elim (h.far k) (fun e => Nat.le_trans h.bel.size e), h.bel.trans (hm.fr.below _ (fun k hk => h.far k (.inl hk)) h.bel.size)⟩
theorem Mine.done {w0 w w' : World} {D E : Dk} {acts : List WA} (h : Mine w0 w D) (hd : DoneAt w D w' E acts) : Mine w0 w' E := h.step hd.disk hd.mv hd.al
theorem Mine.hasLt {w0 w : World} {D : Dk} (h : Mine w0 w D) : ∀ k, D.has k → k < w.heap.size := fun _ hk => h.disk.hasLt hk
/-- nothing is pending, nothing armed, the log is empty -/
structure Rest (a : AD) (nb : Nat) (l : List Int) : Prop where
  size : a.nb = nb
  las : a.las = l
  pen : a.P = []
  down : a.down = false
  at_ : a.at_ = 0
  len : l.length = 512 * nb
  log : bck l 1 = zs
theorem Rest.full {a : AD} {nb : Nat} {l : List Int} (h : Rest a nb l) : a.full = l := by rw [AD.full_fw, h.pen, h.las]; rfl
theorem Rest.behind {nb : Nat} {a : AD} {l : List Int} (h : Rest a nb l) (hn : 98 ≤ nb) : behind l nb = l := behind_empty h.len hn h.log
/-- behind a commit -/
def done (l : List Int) (nb : Nat) (ns : List Int) (ds : List (List Int)) : List Int := behind (headed l ns ds) nb
def parts (ns : List Int) (ds : List (List Int)) : List (List (Nat × List Int)) := [logW ds, [(1, made ns ds)], homes ns ds, [(1, zs)]]
section
variable {nb : Nat} {ns : List Int} {ds : List (List Int)} {l : List Int}
theorem done_length (hl : l.length = 512 * nb) (ok : ComOk nb ns ds) : (done l nb ns ds).length = 512 * nb := by unfold done; rw [behind_length]; exact (headed_log ok hl).1
theorem done_one (hl : l.length = 512 * nb) (ok : ComOk nb ns ds) : bck (done l nb ns ds) 1 = zs := behind_one _ nb (headed_log ok hl).1 ok.n98
end
theorem Rest.commit {a : AD} {nb : Nat} {l : List Int} {ns : List Int} {ds : List (List Int)} (h : Rest a nb l) (ok : ComOk nb ns ds) :
    a.takeE (commitA ns ds) = 0 ∧ a.take (commitA ns ds) = a.all (parts ns ds) ∧ Rest (a.all (parts ns ds)) nb (done l nb ns ds) := by
  have ht := (take_commit a nb ns ds ok (by rw [h.las]; exact h.len) (by rw [h.las]; exact h.log) h.pen h.down).1 (by rw [h.at_]; omega)
  obtain ⟨e1, e2, e3, _⟩ := ht
  refine ⟨e2, e1, h.size, ?_, rfl, h.down, ?_, done_length h.len ok, done_one h.len ok⟩
  · rw [e1, h.las] at e3; exact e3
  · show (if 0 < a.at_ then a.at_ - _ else a.at_) = 0
    rw [h.at_]; rfl
end Go.Proofs.YtflienghgobmoaaGreatDoor

namespace Go.Proofs.YtflienghgobmoaaGreatDoor
open Go.RowKit Rec

theorem nil_bytes (w : World) : Bytes w none [] := ⟨by simp, by intro i; simp [nth], .inl rfl⟩
end Go.Proofs.YtflienghgobmoaaGreatDoor

namespace Go.Proofs.YtflienghgobmoaaGreatDoor
open Go.RowKit Rec

theorem flatK (f : Bk → List Value) (l : List Bk) (k : Nat) (hk : k < l.length) (j : Nat) (hj : j < 2) (hf : ∀ p, (f p).length = 2 := by intro p; rfl) : (l.flatMap f)[k * 2 + j]? = (f l[k])[j]? := by
  induction l generalizing k with
  | nil => simp at hk
  | cons p l ih =>
    rw [List.flatMap_cons]
    cases k with
    | zero => rw [List.getElem?_append_left (by rw [hf]; omega)]; simp
    | succ k =>
      rw [List.getElem?_append_right (by rw [hf]; omega), hf, show (k + 1) * 2 + j - 2 = k * 2 + j by omega, ih k (by simpa using hk)]; rfl
/-- puts that are handed in -/
structure PtsAt (w : World) (a : Option Addr) (P : List (Int × Int)) : Prop where
  len : P.length ≤ 1000000000000000
  at_ : P = [] ∨ ∃ b off, a = some ⟨b, off, none⟩ ∧ ∀ i q, P[i]? = some q → w.cell? ⟨b, off + i * 2, none⟩ = some (.int .i64 q.1) ∧ w.cell? ⟨b, off + i * 2 + 1, none⟩ = some (.int .u8 q.2) ∧ 0 ≤ q.2 ∧ q.2 < 256
theorem PtsAt.on {w w' : World} {a : Option Addr} {P : List (Int × Int)} (h : PtsAt w a P) (hb : Below w.heap.size w w') : PtsAt w' a P := by
  refine ⟨h.len, ?_⟩
  rcases h.at_ with e | ⟨b, off, e, hc⟩
  · exact .inl e
  · refine .inr ⟨b, off, e, fun i q hq => ?_⟩
    obtain ⟨h1, h2, h3⟩ := hc i q hq
    exact ⟨(hb.cell (block_lt_of_cell h1)).trans h1, (hb.cell (block_lt_of_cell h2)).trans h2, h3⟩
def Bk.cells (q : Bk) : List Value := [.int .i64 q.n, q.v]
/-- blocks such as may be committed, in rows of one's own -/
structure RowsW (w0 w : World) (k : Nat) (v : Value) (L : List Bk) : Prop where
  row : w.ownsRow 0 141 2 v L.length (L.flatMap Bk.cells)
  blk : ∀ q ∈ L, BlkAt w q.g q.x ∧ w0.heap.size ≤ q.g
  num : ∀ q ∈ L, 98 ≤ q.n ∧ q.n < 98 + (k : Int)
  ris : L.Pairwise fun p q => p.n < q.n
  len : L.length ≤ k
  far : ∀ b, v.ownBlock = some b → w0.heap.size ≤ b
  bel : Below w0.heap.size w0 w
theorem RowsW.on {w0 w w' : World} {k : Nat} {v : Value} {L : List Bk} (h : RowsW w0 w k v L) (hb : Below w.heap.size w w') : RowsW w0 w' k v L :=
  ⟨owns_on h.row hb, fun q hq => ⟨(h.blk q hq).1.on hb, (h.blk q hq).2⟩, h.num, h.ris, h.len, h.far, h.bel.trans (hb.mono h.bel.size)⟩
theorem RowsW.up {w0 w : World} {k : Nat} {v : Value} {L : List Bk} (h : RowsW w0 w k v L) : RowsW w0 w (k + 1) v L :=
  ⟨h.row, h.blk, fun q hq => by have := h.num q hq; omega, h.ris, by have := h.len; omega, h.far, h.bel⟩
theorem RowsW.start {w0 : World} : RowsW w0 w0 0 (.slice none 0 0) [] :=
  ⟨⟨rfl, .inl ⟨rfl, rfl⟩⟩, (fun q h => by cases h), (fun q h => by cases h), List.Pairwise.nil, Nat.le_refl _, (fun b h => by cases h), Below.refl _ _⟩
theorem infoK : (Tryz.prog.info? 141).map (fun i => (i.zero, i.size, i.bytes)) = some (some (.agg #[.int .i64 0, .slice none 0 0]), 2, 32) := by kernel_rfl
theorem RowsW.next {w0 wr w1 w' : World} {k g c g2 c2 : Nat} {v : Value} {L : List Bk} {x : List Int} (h : RowsW w0 wr k v L) (hb : Below wr.heap.size wr w1) (hg : wr.heap.size ≤ g) (ho : BlkAt w1 g x)
    (h1 : w'.ownsRow 0 141 2 (.slice (some ⟨g2, 0, none⟩) (L.length + 1) c2) (L.length + 1) (L.flatMap Bk.cells ++ [.int .i64 (98 + (k : Int)), .slice (some ⟨g, 0, none⟩) 512 c])) (h2 : Fr (fun b => v.ownBlock = some b) w1 w') (h3 : v.ownBlock = some g2 ∨ w1.heap.size ≤ g2) :
    RowsW w0 w' (k + 1) (.slice (some ⟨g2, 0, none⟩) (L.length + 1) c2) (L ++ [⟨98 + (k : Int), g, c, x⟩]) := by
  have hA := h.on hb
  have hs : w0.heap.size ≤ wr.heap.size := h.bel.size
  have hs1 : wr.heap.size ≤ w1.heap.size := hb.size
  have hne : ∀ {g : Nat} {x : List Int}, BlkAt w1 g x → ¬ v.ownBlock = some g := fun hx => by
    obtain ⟨cap, y, hy⟩ := hx.own
    exact own_apartB hA.row hy (by decide)
  refine ⟨?_, fun q hq => ?_, fun q hq => ?_, ?_, by rw [List.length_append]; have := h.len; simp; omega, fun b hk => ?_, hA.bel.trans (h2.below _ h.far hA.bel.size)⟩
  · rw [List.flatMap_append, List.length_append]; exact h1
  · rcases List.mem_append.1 hq with hq | hq
    · obtain ⟨a1, a2⟩ := hA.blk q hq
      exact ⟨a1.fr h2 (hne a1), a2⟩
    · simp at hq; subst hq
      exact ⟨ho.fr h2 (hne ho), Nat.le_trans hs hg⟩
  · rcases List.mem_append.1 hq with hq | hq
    · have := h.num q hq; omega
    · simp at hq; subst hq
      show 98 ≤ 98 + (k : Int) ∧ 98 + (k : Int) < 98 + ((k + 1 : Nat) : Int)
      omega
  · refine List.pairwise_append.2 ⟨h.ris, List.pairwise_singleton _ _, fun p hp q hq => ?_⟩
    simp at hq; subst hq
    exact (h.num p hp).2
  · cases hk
    rcases h3 with e | e
    · exact h.far _ e
    · exact Nat.le_trans (Nat.le_trans hs hs1) e
theorem RowsW.blocks {w0 w : World} {k g c : Nat} {L : List Bk} (h : RowsW w0 w k (.slice (some ⟨g, 0, none⟩) L.length c) L) : BlocksAt w g L := by
  refine ⟨fun i q hq => ?_⟩
  have hi : i < L.length := (List.getElem?_eq_some_iff.1 hq).1
  have hq' : L[i] = q := (List.getElem?_eq_some_iff.1 hq).2
  have hf : ∀ j, j < 2 → (L.flatMap Bk.cells)[i * 2 + j]? = q.cells[j]? := fun j hj => by
    rw [← hq']
    exact flatK Bk.cells L i hi j hj (fun _ => rfl)
  have h0 := h.row.cells (g := g) rfl (i * 2 + 0) (.int .i64 q.n) (by rw [hf 0 (by omega)]; rfl)
  have h1 := h.row.cells (g := g) rfl (i * 2 + 1) q.v (by rw [hf 1 (by omega)]; rfl)
  rw [Addr.add_lit] at h0 h1
  simp only [Nat.zero_add, Nat.add_zero] at h0 h1
  exact ⟨h0, h1, (h.blk q (List.mem_of_getElem? hq)).1⟩
theorem pre_nsB (L : List Bk) (h1 : ∀ q ∈ L, 98 ≤ q.n) (h2 : L.Pairwise fun p q => p.n < q.n) (n : Int) (h3 : ∀ q ∈ L, q.n < n) : may (nsB L) n = true := by
  refine decide_eq_true fun i hi => ?_
  have hi' : i < L.length := by simpa [nsB] using hi
  have e : nth (nsB L) i = (L[i]).n := nth_nsB L i _ (List.getElem?_eq_getElem hi')
  refine ⟨?_, by rw [e]; exact h3 _ (List.getElem_mem hi')⟩
  cases i with
  | zero =>
    have := h1 _ (List.getElem_mem hi')
    simp only [pre, e]
    simp
    omega
  | succ i =>
    have hp : pre (nsB L) (i + 1) = nth (nsB L) i := by simp [pre]
    rw [hp, e, nth_nsB L i _ (List.getElem?_eq_getElem (by omega))]
    exact List.pairwise_iff_getElem.1 h2 i (i + 1) (by omega) hi' (by omega)
theorem RowsW.ok {w0 w : World} {v : Value} {L : List Bk} (h : RowsW w0 w 30 v L) (h0 : L ≠ []) : ComOk 128 (nsB L) (dsB L) := by
  have hl := h.len
  have hp : 0 < L.length := by cases L with
    | nil => exact absurd rfl h0
    | cons a l => simp
  refine ⟨by omega, by omega, pre_nsB L (fun q hq => (h.num q hq).1) h.ris _ (fun q hq => by have := h.num q hq; omega), by simp [nsB]; omega, by simp [nsB]; omega, by simp [nsB, dsB], fun b hb => ?_⟩
  simp only [dsB, List.mem_map] at hb
  obtain ⟨q, hq, rfl⟩ := hb
  exact (h.blk q hq).1.len
end Go.Proofs.YtflienghgobmoaaGreatDoor

namespace Go.Proofs.YtflienghgobmoaaGreatDoor
open Go.RowKit Go.Maps Rec

/-- what a transaction holds: a block for each number that is put -/
abbrev Cm := Nat → Option Bk
def ups (c : Cm) (i : Nat) (q : Option Bk) : Cm := fun j => if j = i then q else c j
theorem ups_same (c : Cm) (i : Nat) (q : Option Bk) : ups c i q i = q := by simp [ups]
theorem ups_other (c : Cm) {i j : Nat} (q : Option Bk) (h : j ≠ i) : ups c i q j = c j := by simp [ups, h]
theorem ups_back (c : Cm) (i : Nat) (q : Option Bk) : ups (ups c i q) i (c i) = c := by
  funext j
  by_cases h : j = i
  · subst h; simp [ups]
  · simp [ups, h]
def lst (c : Cm) (n : Nat) : List Bk := (List.range n).filterMap c
def ent (q : Bk) : Lit × DataW Value := (.int .i64 q.n, .held q.v)
def dat (c : Cm) (n : Nat) : DataW Value := .map ((lst c n).map ent)
/-- each stands under its own number -/
structure COk (c : Cm) (n : Nat) : Prop where
  num : ∀ i q, c i = some q → q.n = (i : Int)
  lo : ∀ i q, c i = some q → 98 ≤ i
  hi : ∀ i q, c i = some q → i < n
theorem cok_none (n : Nat) : COk (fun _ => none) n := ⟨(fun _ _ h => by cases h), (fun _ _ h => by cases h), (fun _ _ h => by cases h)⟩
theorem COk.ups {c : Cm} {n i : Nat} (h : COk c n) (q : Option Bk) (h0 : 98 ≤ i) (h1 : i < n) (hq : ∀ x, q = some x → x.n = (i : Int)) : COk (ups c i q) n := by
  refine ⟨fun j x hx => ?_, fun j x hx => ?_, fun j x hx => ?_⟩ <;> by_cases e : j = i
  · subst e; rw [ups_same] at hx; exact hq x hx
  · rw [ups_other _ _ e] at hx; exact h.num j x hx
  · subst e; exact h0
  · rw [ups_other _ _ e] at hx; exact h.lo j x hx
  · subst e; exact h1
  · rw [ups_other _ _ e] at hx; exact h.hi j x hx
theorem lst_mem {c : Cm} {n : Nat} {q : Bk} (h : q ∈ lst c n) : ∃ i, i < n ∧ c i = some q := by
  obtain ⟨i, hi, e⟩ := List.mem_filterMap.1 h
  exact ⟨i, List.mem_range.1 hi, e⟩
theorem lst_split (c : Cm) (n i : Nat) (h : i < n) : lst c n = lst c i ++ ((c i).toList ++ (List.range' (i + 1) (n - i - 1)).filterMap c) := by
  have e : List.range n = List.range i ++ (i :: List.range' (i + 1) (n - i - 1)) := by
    rw [List.range_eq_range', List.range_eq_range']
    have := @List.range'_append_1 0 i (n - i)
    rw [show i + (n - i) = n by omega, Nat.zero_add] at this
    rw [← this]
    congr 1
    obtain ⟨m, hm⟩ : ∃ m, n - i = m + 1 := ⟨n - i - 1, by omega⟩
    rw [hm, List.range'_succ]
    simp
  unfold lst
  rw [e, List.filterMap_append, List.filterMap_cons]
  cases c i <;> rfl
theorem filterMap_ups (c : Cm) (i : Nat) (q : Option Bk) (l : List Nat) (h : ∀ j ∈ l, j ≠ i) : l.filterMap (ups c i q) = l.filterMap c := by
  induction l with
  | nil => rfl
  | cons a l ih =>
    rw [List.filterMap_cons, List.filterMap_cons, ups_other c q (h a (.head _)), ih (fun j hj => h j (.tail _ hj))]
theorem lst_ups (c : Cm) (n i : Nat) (q : Option Bk) (h : i < n) : lst (ups c i q) n = lst c i ++ (q.toList ++ (List.range' (i + 1) (n - i - 1)).filterMap c) := by
  rw [lst_split _ n i h, ups_same]
  unfold lst
  rw [filterMap_ups c i q (List.range i) (fun j hj => by have := List.mem_range.1 hj; omega), filterMap_ups c i q _ (fun j hj => by have := List.mem_range'_1.1 hj; omega)]
theorem insert_mid (x : Lit × DataW Value) : ∀ (A B : List (Lit × DataW Value)), (∀ a ∈ A, x.1.before a.1 = false) → (∀ b ∈ B, x.1.before b.1 = true) → DataW.insert x (A ++ B) = A ++ x :: B
  | [], [], _, _ => rfl
  | [], b :: B, _, h => by simp [DataW.insert, h b (.head _)]
  | a :: A, B, h1, h2 => by
    simp only [List.cons_append, DataW.insert, h1 a (.head _)]
    rw [insert_mid x A B (fun b hb => h1 b (.tail _ hb)) h2]
    simp
theorem filter_all {α : Type} (f : α → Bool) (l : List α) (h : ∀ a ∈ l, f a = true) : l.filter f = l := List.filter_eq_self.2 h
theorem low_mem {c : Cm} {n i : Nat} (h : COk c n) {p : Lit × DataW Value} (hp : p ∈ (lst c i).map ent) : ∃ m : Nat, p.1 = .int .i64 m ∧ m < i := by
  obtain ⟨q, hq, rfl⟩ := List.mem_map.1 hp
  obtain ⟨j, hj, e⟩ := lst_mem hq
  exact ⟨j, by rw [ent, h.num j q e], hj⟩
theorem high_mem {c : Cm} {n i m : Nat} (h : COk c n) {p : Lit × DataW Value} (hp : p ∈ ((List.range' (i + 1) m).filterMap c).map ent) : ∃ m : Nat, p.1 = .int .i64 m ∧ i < m := by
  obtain ⟨q, hq, rfl⟩ := List.mem_map.1 hp
  obtain ⟨j, hj, e⟩ := List.mem_filterMap.1 hq
  have := List.mem_range'_1.1 hj
  exact ⟨j, by rw [ent, h.num j q e], by omega⟩
theorem same_i64 (a b : Int) : (Lit.int .i64 a).sameKey (.int .i64 b) = decide (a = b) := by simp [Lit.sameKey]
theorem before_i64 (a b : Int) : (Lit.int .i64 a).before (.int .i64 b) = decide (a < b) := by simp [Lit.before]
theorem struck {c : Cm} {n i : Nat} (h : COk c n) (hi : i < n) : ((lst c n).map ent).filter (fun p => !p.1.sameKey (.int .i64 i)) = (lst c i).map ent ++ ((List.range' (i + 1) (n - i - 1)).filterMap c).map ent := by
  rw [lst_split c n i hi, List.map_append, List.map_append, List.filter_append, List.filter_append]
  rw [filter_all _ ((lst c i).map ent) (fun p hp => by obtain ⟨m, e, hm⟩ := low_mem h hp; rw [e, same_i64]; simp; omega)]
  rw [filter_all _ (((List.range' (i + 1) (n - i - 1)).filterMap c).map ent) (fun p hp => by obtain ⟨m, e, hm⟩ := high_mem h hp; rw [e, same_i64]; simp; omega)]
  cases e : c i with
  | none => simp
  | some q => simp [ent, h.num i q e, same_i64]
theorem dat_del {c : Cm} {n i : Nat} (h : COk c n) (hi : i < n) : (dat c n).del (.int .i64 i) = dat (ups c i none) n := by
  show DataW.map (((lst c n).map ent).filter fun p => !p.1.sameKey (.int .i64 i)) = _
  rw [struck h hi, dat, lst_ups c n i none hi]
  simp
theorem dat_put {c : Cm} {n i : Nat} (h : COk c n) (hi : i < n) (q : Bk) (hq : q.n = (i : Int)) : (dat c n).put (.int .i64 i) (.held q.v) = dat (ups c i (some q)) n := by
  show DataW.map (DataW.insert _ (((lst c n).map ent).filter fun p => !p.1.sameKey (.int .i64 i))) = _
  rw [struck h hi, dat, lst_ups c n i (some q) hi, insert_mid]
  · simp [ent, hq]
  · intro p hp
    obtain ⟨m, e, hm⟩ := low_mem h hp
    rw [e, before_i64]; simp; omega
  · intro p hp
    obtain ⟨m, e, hm⟩ := high_mem h hp
    rw [e, before_i64]; simp; omega
theorem dat_find {c : Cm} {n i : Nat} (h : COk c n) : ((lst c n).map ent).find? (fun p => p.1.sameKey (.int .i64 i)) = (c i).map ent := by
  cases e : c i with
  | none =>
    rw [Option.map_none, List.find?_eq_none]
    intro p hp
    obtain ⟨q, hq, rfl⟩ := List.mem_map.1 hp
    obtain ⟨j, hj, ej⟩ := lst_mem hq
    rw [ent, h.num j q ej, same_i64]
    simp
    rintro hh
    have : j = i := by omega
    subst this
    rw [e] at ej; cases ej
  | some q =>
    have hi := h.hi i q e
    rw [lst_split c n i hi, List.map_append, List.find?_append, e]
    rw [List.find?_eq_none.2 (fun p hp => by obtain ⟨m, e, hm⟩ := low_mem h hp; rw [e, same_i64]; simp; omega)]
    simp [ent, h.num i q e, same_i64]
theorem dat_has {c : Cm} {n : Nat} (h : COk c n) (i : Nat) : Maps.has (dat c n) (.int .i64 i) = (c i).isSome := by
  show ((lst c n).map ent).any _ = _
  have := dat_find (i := i) h
  rw [← List.isSome_find?, this]
  cases c i <;> rfl
theorem dat_at {c : Cm} {n : Nat} (h : COk c n) (i : Nat) (z : DataW Value) : (dat c n).atKey (.int .i64 i) z = match c i with | some q => .held q.v | none => z := by
  simp only [dat, DataW.atKey]
  rw [dat_find h]
  cases c i <;> rfl
theorem dat_size (c : Cm) (n : Nat) : Maps.size (dat c n) = (lst c n).length := by simp [dat, Maps.size]
theorem lst_ris {c : Cm} {n : Nat} (h : COk c n) : (lst c n).Pairwise fun p q => p.n < q.n := by
  refine List.Pairwise.filterMap (R := fun a b => a < b) c (fun a b hab p hp q hq => ?_) List.pairwise_lt_range
  rw [h.num a p hp, h.num b q hq]; omega
theorem keys_dat (c : Cm) (n : Nat) : intKeys (dat c n) = (lst c n).map Bk.n := by
  show ((lst c n).map ent).map _ = _
  rw [List.map_map]; rfl
theorem sorted_keys {c : Cm} {n : Nat} (h : COk c n) {ss : List Int} (hp : ss.Perm (intKeys (dat c n))) : ss.mergeSort (fun x y => decide (x ≤ y)) = (lst c n).map Bk.n := by
  rw [keys_dat] at hp
  have s1 : (ss.mergeSort (fun x y => decide (x ≤ y))).Pairwise (fun a b => decide (a ≤ b) = true) := List.pairwise_mergeSort (fun a b c h1 h2 => by simp at *; omega) (fun a b => by simp; omega) ss
  have s2 : ((lst c n).map Bk.n).Pairwise (fun a b => decide (a ≤ b) = true) := by
    rw [List.pairwise_map]
    exact (lst_ris h).imp (fun hab => by simp; omega)
  refine List.Perm.eq_of_pairwise (le := fun a b => decide (a ≤ b) = true) (fun a b _ _ h1 h2 => by simp at h1 h2; omega) s1 s2 ?_
  exact (List.mergeSort_perm _ _).trans hp
theorem lst_len_ups {c : Cm} {n i : Nat} (h : i < n) (q : Bk) : (lst (ups c i (some q)) n).length = (lst c n).length + (if (c i).isSome then 0 else 1) := by
  rw [lst_ups c n i _ h, lst_split c n i h]
  cases c i <;> simp <;> omega
theorem lst_none (n : Nat) : lst (fun _ => none) n = [] := by
  unfold lst
  induction n with
  | zero => rfl
  | succ n ih => rw [List.range_succ, List.filterMap_append, ih]; rfl
end Go.Proofs.YtflienghgobmoaaGreatDoor

namespace Go.Proofs.YtflienghgobmoaaGreatDoor
open Go.RowKit Go.Maps Rec

/-- a map's element is told as it is -/
def rel (v : Value) : Option (DataW Value × List MemPlace) := some (.held v, [])
def MapAt (w : World) (b : Nat) (c : Cm) (nb : Nat) : Prop := w.ownsMap Tryz.prog 3 rel b 20000 (dat c nb)
def optV : Option Bk → Value
  | some q => q.v
  | none => .slice none 0 0
theorem keyedI : Keyed Tryz.prog 3 := int_keyed Tryz.underlying3
theorem wf_nat (i : Nat) (hi : i ≤ 16384) : (Lit.int .i64 (i : Int)).wf = true := WalkArith.wf_i64 (by omega)
theorem key_mk (i : Nat) (hi : i ≤ 16384) : keyOf Tryz.prog 3 (.int .i64 (i : Int)) = some (.int .i64 (i : Int)) := keyOf_int_mk Tryz.underlying3 (wf_nat i hi)
theorem zeroBs (w : World) : (zeroValue 22).run Tryz.prog w = .ok (.slice none 0 0) w := by kernel_rfl
theorem MapAt.fr {S : Nat → Prop} {w w' : World} {b nb : Nat} {c : Cm} (h : MapAt w b c nb) (x : Fr S w w') (hb : ¬ S b) : MapAt w' b c nb := by
  obtain ⟨es, clock, h1, h2, h3, h4⟩ := h
  exact ⟨es, clock, x.heap h1 hb, h2, h3, h4⟩
theorem MapAt.on {w w' : World} {b nb : Nat} {c : Cm} (h : MapAt w b c nb) (x : Below w.heap.size w w') : MapAt w' b c nb := h.fr (below_fr x (fun _ => False)) (fun e => e)
theorem MapAt.lt {w : World} {b nb : Nat} {c : Cm} (h : MapAt w b c nb) : b < w.heap.size := by
  obtain ⟨es, clock, h1, h2, h3, h4⟩ := h
  exact heap_lt h1
theorem rel_inv {v u : Value} {ps : List MemPlace} (h : rel v = some (.held u, ps)) : v = u := by
  simp [rel] at h; exact h.1
theorem at_optV {c : Cm} {n : Nat} (h : COk c n) (i : Nat) : (dat c n).atKey (.int .i64 i) (.held (.slice none 0 0)) = .held (optV (c i)) := by
  rw [dat_at h]
  cases c i <;> rfl
theorem MapAt.look {w : World} {b nb : Nat} {c : Cm} (h : MapAt w b c nb) (ok : COk c nb) (i : Nat) (hi : i ≤ 16384) :
    (Instr.lookup 113 (.map (some b)) (.int .i64 (i : Int)) true).run Tryz.prog w = .ok (.tuple #[optV (c i), .bool (c i).isSome]) w := by
  obtain ⟨v, ps, hr, hv⟩ := World.ownsMap.look_ok h keyedI Tryz.underlying113 (zeroBs w) (zd := .held (.slice none 0 0)) (zp := []) rfl (key_mk i hi)
  rw [at_optV ok] at hv
  rw [rel_inv hv, dat_has ok] at hr
  exact hr
theorem MapAt.look1 {w : World} {b nb : Nat} {c : Cm} (h : MapAt w b c nb) (ok : COk c nb) (i : Nat) (hi : i ≤ 16384) :
    (Instr.lookup 113 (.map (some b)) (.int .i64 (i : Int)) false).run Tryz.prog w = .ok (optV (c i)) w := by
  obtain ⟨v, ps, hr, hv⟩ := World.ownsMap.lookup h keyedI Tryz.underlying113 (zeroBs w) (zd := .held (.slice none 0 0)) (zp := []) rfl (key_mk i hi)
  rw [at_optV ok] at hv
  rw [rel_inv hv] at hr
  exact hr
theorem MapAt.len {w : World} {b nb : Nat} {c : Cm} (h : MapAt w b c nb) (ty : TypeId) : (Builtin.len_ #[113] ty #[.map (some b)]).run Tryz.prog w = .ok (.int .i64 ((lst c nb).length : Nat)) w := by
  have := World.ownsMap.len h Tryz.underlying113 ty
  rwa [dat_size] at this
theorem tight {w : World} {b n : Nat} {D : DataW Value} (h : w.ownsMap Tryz.prog 3 rel b n D) (hs : Maps.size D ≤ 20000) : w.ownsMap Tryz.prog 3 rel b 20000 D := by
  obtain ⟨es, clock, h1, h2, h3, h4⟩ := h
  refine ⟨es, clock, h1, h2, ?_, h4⟩
  rw [h4] at hs
  simp only [Maps.size] at hs
  rwa [length_read] at hs
theorem turned_fr {w w' : World} {b : Nat} (h : w.mapTurned w' b) : Fr (fun k => k = b) w w' := by
  obtain ⟨es, clock, es', clock', h1, rfl⟩ := h
  refine ⟨rfl, rfl, rfl, by simp [ChangeMaps.setBlock], fun k hk hS => ?_⟩
  have : k ≠ b := hS
  simp [ChangeMaps.setBlock, Ne.symm this]
theorem MapAt.store {w : World} {b nb i : Nat} {c : Cm} (h : MapAt w b c nb) (ok : COk c nb) (hi : i < nb) (hn : nb ≤ 16384) (q : Bk) (hq : q.n = (i : Int)) (hs : (lst (ups c i (some q)) nb).length ≤ 20000) :
    ∃ w', (Instr.mapUpdate 113 (.map (some b)) (.int .i64 (i : Int)) q.v).run Tryz.prog w = .ok () w' ∧ MapAt w' b (ups c i (some q)) nb ∧ Fr (fun k => k = b) w w' := by
  obtain ⟨w', hr, h1, h2⟩ := World.ownsMap.store h keyedI Tryz.underlying113 (by unfold maxLen; omega) (key_mk i (by omega)) (val := q.v) (d := .held q.v) (ps := []) rfl
  rw [dat_put ok hi q hq] at h1
  exact ⟨w', hr, tight h1 (by rw [dat_size]; exact hs), turned_fr h2⟩
theorem MapAt.drop {w : World} {b nb i : Nat} {c : Cm} (h : MapAt w b c nb) (ok : COk c nb) (hi : i < nb) (hn : nb ≤ 16384) (ty : TypeId) :
    ∃ w', (Builtin.delete_ #[113, 3] ty #[.map (some b), .int .i64 (i : Int)]).run Tryz.prog w = .ok (.tuple #[]) w' ∧ MapAt w' b (ups c i none) nb ∧ Fr (fun k => k = b) w w' := by
  obtain ⟨w', hr, h1, h2⟩ := World.ownsMap.drop h keyedI Tryz.underlying113 (key_mk i (by omega)) ty
  rw [dat_del ok hi] at h1
  exact ⟨w', hr, h1, turned_fr h2⟩

/-- an undo step: where its four variables lie; the number, what stood there -/
structure Un where
  bw : Nat
  bb : Nat
  bt : Nat
  bi : Nat
  i : Nat
  old : Option Bk
def Un.v (u : Un) : Value := .func (.func 78) #[] #[.pointer (some ⟨u.bw, 0, none⟩), .pointer (some ⟨u.bb, 0, none⟩), .pointer (some ⟨u.bt, 0, none⟩), .pointer (some ⟨u.bi, 0, none⟩)]
def Un.all (u : Un) (k : Nat) : Prop := k = u.bw ∨ k = u.bb ∨ k = u.bt ∨ k = u.bi ∨ ∃ q, u.old = some q ∧ q.g = k
structure UnAt (w : World) (t : Nat) (u : Un) : Prop where
  cw : w.cell? ⟨u.bw, 0, none⟩ = some (.bool u.old.isSome)
  cb : w.cell? ⟨u.bb, 0, none⟩ = some (optV u.old)
  ct : w.cell? ⟨u.bt, 0, none⟩ = some (.pointer (some ⟨t, 0, none⟩))
  ci : w.cell? ⟨u.bi, 0, none⟩ = some (.int .i64 (u.i : Int))
  blk : ∀ q, u.old = some q → BlkAt w q.g q.x
theorem UnAt.fr {S : Nat → Prop} {w w' : World} {t : Nat} {u : Un} (h : UnAt w t u) (x : Fr S w w') (hS : ∀ k, u.all k → ¬ S k) : UnAt w' t u :=
  ⟨x.cell h.cw (hS _ (.inl rfl)), x.cell h.cb (hS _ (.inr (.inl rfl))), x.cell h.ct (hS _ (.inr (.inr (.inl rfl)))), x.cell h.ci (hS _ (.inr (.inr (.inr (.inl rfl))))), fun q hq => (h.blk q hq).fr x (hS _ (.inr (.inr (.inr (.inr ⟨q, hq, rfl⟩)))))⟩
theorem UnAt.lt {w : World} {t : Nat} {u : Un} (h : UnAt w t u) {k : Nat} (hk : u.all k) : k < w.heap.size := by
  rcases hk with rfl | rfl | rfl | rfl | ⟨q, hq, rfl⟩
  · exact block_lt_of_cell h.cw
  · exact block_lt_of_cell h.cb
  · exact block_lt_of_cell h.ct
  · exact block_lt_of_cell h.ci
  · exact (h.blk q hq).lt
/-- a transaction -/
structure Tx where
  t : Nat
  d : Nat
  mb : Nat
  nb : Nat
  c : Cm
  uv : Value
  us : List Un
def Tx.has (T : Tx) (k : Nat) : Prop := k = T.t ∨ k = T.mb ∨ T.uv.ownBlock = some k
def Tx.held (T : Tx) (k : Nat) : Prop := (∃ i q, T.c i = some q ∧ q.g = k) ∨ ∃ u, u ∈ T.us ∧ u.all k
def Tx.all (T : Tx) (k : Nat) : Prop := T.has k ∨ T.held k
def Tx.cells (T : Tx) : Array Value := #[.pointer (some ⟨T.d, 0, none⟩), .map (some T.mb), T.uv, .bool false]
structure TxAt (w : World) (T : Tx) : Prop where
  row : w.heap[T.t]? = some (.cells T.cells 116 (0, 0))
  map : MapAt w T.mb T.c T.nb
  ok : COk T.c T.nb
  blk : ∀ i q, T.c i = some q → BlkAt w q.g q.x
  und : w.ownsRow 0 1 1 T.uv T.us.length (T.us.map Un.v)
  una : ∀ u ∈ T.us, UnAt w T.t u
  unb : ∀ u ∈ T.us, 98 ≤ u.i ∧ u.i < T.nb ∧ ∀ q, u.old = some q → q.n = (u.i : Int)
  ap1 : T.t ≠ T.mb
  ap2 : ∀ k, T.uv.ownBlock = some k → k ≠ T.t ∧ k ≠ T.mb
  ap3 : ∀ k, T.held k → ¬ T.has k
  ul : T.us.length ≤ 4000000
  n16 : T.nb ≤ 16384
  cnt : (lst T.c T.nb).length ≤ 96
theorem TxAt.fr {S : Nat → Prop} {w w' : World} {T : Tx} (h : TxAt w T) (x : Fr S w w') (hS : ∀ k, T.all k → ¬ S k) : TxAt w' T where
  row := x.heap h.row (hS _ (.inl (.inl rfl)))
  map := h.map.fr x (hS _ (.inl (.inr (.inl rfl))))
  ok := h.ok
  blk := fun i q hq => (h.blk i q hq).fr x (hS _ (.inr (.inl ⟨i, q, hq, rfl⟩)))
  und := owns_fr h.und x (fun k hk => hS k (.inl (.inr (.inr hk))))
  una := fun u hu => (h.una u hu).fr x (fun k hk => hS k (.inr (.inr ⟨u, hu, hk⟩)))
  unb := h.unb
  ap1 := h.ap1
  ap2 := h.ap2
  ap3 := h.ap3
  ul := h.ul
  n16 := h.n16
  cnt := h.cnt
theorem TxAt.on {w w' : World} {T : Tx} (h : TxAt w T) (x : Below w.heap.size w w') : TxAt w' T := h.fr (below_fr x (fun _ => False)) (fun _ _ e => e)
theorem TxAt.lt {w : World} {T : Tx} (h : TxAt w T) {k : Nat} (hk : T.all k) : k < w.heap.size := by
  rcases hk with (rfl | rfl | hk) | ⟨i, q, hq, rfl⟩ | ⟨u, hu, hk⟩
  · exact heap_lt h.row
  · exact h.map.lt
  · exact owns_block h.und hk
  · exact (h.blk i q hq).lt
  · exact (h.una u hu).lt hk
theorem TxAt.cell {w : World} {T : Tx} (h : TxAt w T) (j : Nat) : w.cell? ⟨T.t, j, none⟩ = T.cells[j]? := cell_of_row _ _ _ _ _ _ h.row
/-- a transaction that is over -/
def OverAt (w : World) (t : Nat) : Prop := w.heap[t]? = some (.cells #[.pointer none, .map none, .slice none 0 0, .bool true] 116 (0, 0))
/-- what a call does to a transaction -/
structure TMv (w : World) (T : Tx) (w' : World) (T' : Tx) : Prop where
  fr : Fr T.has w w'
  al : ∀ k, T'.all k → T.all k ∨ w.heap.size ≤ k
  has : ∀ k, T'.has k → T.has k ∨ w.heap.size ≤ k
  t : T'.t = T.t
  d : T'.d = T.d
  nb : T'.nb = T.nb
theorem TMv.refl (w : World) (T : Tx) : TMv w T w T := ⟨Fr.refl _ _, fun _ h => .inl h, fun _ h => .inl h, rfl, rfl, rfl⟩
theorem TMv.on {w w' : World} {T : Tx} (x : Below w.heap.size w w') : TMv w T w' T := ⟨below_fr x _, fun _ h => .inl h, fun _ h => .inl h, rfl, rfl, rfl⟩
theorem TMv.trans {w w' w'' : World} {T T' T'' : Tx} (x : TMv w T w' T') (y : TMv w' T' w'' T'') : TMv w T w'' T'' :=
  ⟨x.fr.trans y.fr x.has, fun k hk => (y.al k hk).elim (x.al k) (fun e => .inr (Nat.le_trans x.fr.size e)), fun k hk => (y.has k hk).elim (x.has k) (fun e => .inr (Nat.le_trans x.fr.size e)), y.t.trans x.t, y.d.trans x.d, y.nb.trans x.nb⟩
/-- a transaction of one's own -/
structure TMine (w0 w : World) (T : Tx) : Prop where
  at_ : TxAt w T
  far : ∀ k, T.all k → w0.heap.size ≤ k
  bel : Below w0.heap.size w0 w
theorem TMine.on {w0 w w' : World} {T : Tx} (h : TMine w0 w T) (hb : Below w.heap.size w w') : TMine w0 w' T := ⟨h.at_.on hb, h.far, h.bel.trans (hb.mono h.bel.size)⟩
theorem TMine.step {w0 w w' : World} {T T' : Tx} (h : TMine w0 w T) (ht : TxAt w' T') (hm : TMv w T w' T') : TMine w0 w' T' :=
  ⟨ht, fun k hk => (hm.al k hk).elim (h.far k) (fun e => Nat.le_trans h.bel.size e), h.bel.trans (hm.fr.below _ (fun k hk => h.far k (.inl hk)) h.bel.size)⟩
end Go.Proofs.YtflienghgobmoaaGreatDoor

namespace Go.Proofs.YtflienghgobmoaaGreatDoor
open Go.Shelf
def keysA_ren : Go.Shelf.Ren := ⟨fun | 7 => 82 | 10 => 117 | n => n, fun | 23 => 113 | 26 => 3 | 3 => 22 | 28 => 135 | 0 => 0 | 27 => 134 | 33 => 65 | 4 => 4 | n => n, fun | n => n⟩
theorem keysA : Go.Proofs.SlLaysZI.n7 Tryz.prog keysA_ren := {
  mixed := by kernel_rfl
  f7 := ⟨Tryz.f82.name, by decide, Tryz.func82.trans (congrArg some (by kernel_rfl))⟩
  f10 := ⟨Tryz.f117.name, by decide, Tryz.func117.trans (congrArg some (by kernel_rfl))⟩
  t0 := Tryz.underlying0
  a0 := Tryz.isAgg0
  z0 := Tryz.sizeOf0
  v0 := Tryz.zeroValue0
  t4 := Tryz.underlying4
  a4 := Tryz.isAgg4
  z4 := Tryz.sizeOf4
  v4 := Tryz.zeroValue4
  t23 := Tryz.underlying113
  a23 := Tryz.isAgg113
  z23 := Tryz.sizeOf113
  v23 := Tryz.zeroValue113
  t26 := Tryz.underlying3
  a26 := Tryz.isAgg3
  z26 := Tryz.sizeOf3
  v26 := Tryz.zeroValue3
  t27 := Tryz.underlying134
  a27 := Tryz.isAgg134
  z27 := Tryz.sizeOf134
  v27 := Tryz.zeroValue134
  t28 := Tryz.underlying135
  a28 := Tryz.isAgg135
  z28 := Tryz.sizeOf135
  v28 := Tryz.zeroValue135
  t33 := Tryz.underlying65
  a33 := Tryz.isAgg65
  z33 := Tryz.sizeOf65
  v33 := Tryz.zeroValue65 }
def sortedA_ren : Go.Shelf.Ren := ⟨fun | 6 => 81 | 8 => 115 | 9 => 116 | 11 => 148 | 13 => 150 | 12 => 149 | 23 => 176 | 24 => 177 | 14 => 167 | 15 => 168 | 16 => 169 | 17 => 170 | 18 => 171 | 19 => 172 | 20 => 173 | 21 => 174 | 22 => 175 | 25 => 188 | 26 => 189 | 27 => 190 | 28 => 191 | 29 => 192 | 30 => 193 | 31 => 201 | n => n, fun | 26 => 3 | 28 => 135 | 24 => 82 | 0 => 0 | 3 => 3 | 37 => 196 | 48 => 199 | 50 => 146 | 4 => 4 | 40 => 208 | 39 => 207 | 45 => 212 | 5 => 5 | 9 => 9 | 51 => 221 | 55 => 225 | 57 => 231 | 58 => 47 | 33 => 65 | n => n, fun | n => n⟩
theorem sortedA : Go.Proofs.SlLaysZI.n6 Tryz.prog sortedA_ren := {
  mixed := by kernel_rfl
  f6 := ⟨Tryz.f81.name, by decide, Tryz.func81.trans (congrArg some (by kernel_rfl))⟩
  f8 := ⟨Tryz.f115.name, by decide, Tryz.func115.trans (congrArg some (by kernel_rfl))⟩
  f11 := ⟨Tryz.f148.name, by decide, Tryz.func148.trans (congrArg some (by kernel_rfl))⟩
  t0 := Tryz.underlying0
  a0 := Tryz.isAgg0
  z0 := Tryz.sizeOf0
  v0 := Tryz.zeroValue0
  t24 := Tryz.underlying82
  a24 := Tryz.isAgg82
  z24 := Tryz.sizeOf82
  v24 := Tryz.zeroValue82
  t26 := Tryz.underlying3
  a26 := Tryz.isAgg3
  z26 := Tryz.sizeOf3
  v26 := Tryz.zeroValue3
  t28 := Tryz.underlying135
  a28 := Tryz.isAgg135
  z28 := Tryz.sizeOf135
  v28 := Tryz.zeroValue135
  i26 := by kernel_rfl }
def sortA_ren : Go.Shelf.Ren := ⟨fun | 5 => 116 | 8 => 150 | 7 => 149 | 19 => 176 | 20 => 177 | 10 => 167 | 11 => 168 | 12 => 169 | 13 => 170 | 14 => 171 | 15 => 172 | 16 => 173 | 17 => 174 | 18 => 175 | 30 => 188 | 31 => 189 | 32 => 190 | 33 => 191 | 34 => 192 | 35 => 193 | 40 => 201 | n => n, fun | 23 => 82 | 25 => 3 | 3 => 3 | 32 => 196 | 22 => 82 | 0 => 0 | 44 => 199 | 46 => 146 | 4 => 4 | 36 => 208 | 35 => 207 | 41 => 212 | 5 => 5 | 9 => 9 | 53 => 221 | 57 => 225 | 63 => 231 | 64 => 47 | n => n, fun | n => n⟩
theorem sortA : Go.Proofs.SlLaysM.n5 Tryz.prog sortA_ren := {
  mixed := by kernel_rfl
  f5 := ⟨Tryz.f116.name, by decide, Tryz.func116.trans (congrArg some (by kernel_rfl))⟩
  f7 := ⟨Tryz.f149.name, by decide, Tryz.func149.trans (congrArg some (by kernel_rfl))⟩
  f8 := Tryz.func150.trans (congrArg some (by kernel_rfl))
  f10 := ⟨Tryz.f167.name, by decide, Tryz.func167.trans (congrArg some (by kernel_rfl))⟩
  f11 := ⟨Tryz.f168.name, by decide, Tryz.func168.trans (congrArg some (by kernel_rfl))⟩
  f12 := ⟨Tryz.f169.name, by decide, Tryz.func169.trans (congrArg some (by kernel_rfl))⟩
  f13 := ⟨Tryz.f170.name, by decide, Tryz.func170.trans (congrArg some (by kernel_rfl))⟩
  f14 := ⟨Tryz.f171.name, by decide, Tryz.func171.trans (congrArg some (by kernel_rfl))⟩
  f15 := ⟨Tryz.f172.name, by decide, Tryz.func172.trans (congrArg some (by kernel_rfl))⟩
  f16 := ⟨Tryz.f173.name, by decide, Tryz.func173.trans (congrArg some (by kernel_rfl))⟩
  f17 := ⟨Tryz.f174.name, by decide, Tryz.func174.trans (congrArg some (by kernel_rfl))⟩
  f18 := ⟨Tryz.f175.name, by decide, Tryz.func175.trans (congrArg some (by kernel_rfl))⟩
  f19 := Tryz.func176.trans (congrArg some (by kernel_rfl))
  f20 := Tryz.func177.trans (congrArg some (by kernel_rfl))
  f30 := ⟨Tryz.f188.name, by decide, Tryz.func188.trans (congrArg some (by kernel_rfl))⟩
  f31 := Tryz.func189.trans (congrArg some (by kernel_rfl))
  f32 := Tryz.func190.trans (congrArg some (by kernel_rfl))
  f33 := ⟨Tryz.f191.name, by decide, Tryz.func191.trans (congrArg some (by kernel_rfl))⟩
  f34 := ⟨Tryz.f192.name, by decide, Tryz.func192.trans (congrArg some (by kernel_rfl))⟩
  f35 := ⟨Tryz.f193.name, by decide, Tryz.func193.trans (congrArg some (by kernel_rfl))⟩
  f40 := ⟨Tryz.f201.name, by decide, Tryz.func201.trans (congrArg some (by kernel_rfl))⟩
  t0 := Tryz.underlying0
  a0 := Tryz.isAgg0
  z0 := Tryz.sizeOf0
  v0 := Tryz.zeroValue0
  t3 := Tryz.underlying3
  a3 := Tryz.isAgg3
  z3 := Tryz.sizeOf3
  v3 := Tryz.zeroValue3
  t4 := Tryz.underlying4
  a4 := Tryz.isAgg4
  z4 := Tryz.sizeOf4
  v4 := Tryz.zeroValue4
  t5 := Tryz.underlying5
  a5 := Tryz.isAgg5
  z5 := Tryz.sizeOf5
  v5 := Tryz.zeroValue5
  t9 := Tryz.underlying9
  a9 := Tryz.isAgg9
  z9 := Tryz.sizeOf9
  v9 := Tryz.zeroValue9
  t22 := Tryz.underlying82
  a22 := Tryz.isAgg82
  z22 := Tryz.sizeOf82
  v22 := Tryz.zeroValue82
  t23 := Tryz.underlying82
  a23 := Tryz.isAgg82
  z23 := Tryz.sizeOf82
  v23 := Tryz.zeroValue82
  t25 := Tryz.underlying3
  a25 := Tryz.isAgg3
  z25 := Tryz.sizeOf3
  v25 := Tryz.zeroValue3
  t32 := Tryz.underlying196
  a32 := Tryz.isAgg196
  z32 := Tryz.sizeOf196
  v32 := Tryz.zeroValue196
  t35 := Tryz.underlying207
  a35 := Tryz.isAgg207
  z35 := Tryz.sizeOf207
  v35 := Tryz.zeroValue207
  t36 := Tryz.underlying208
  a36 := Tryz.isAgg208
  z36 := Tryz.sizeOf208
  v36 := Tryz.zeroValue208
  t41 := Tryz.underlying212
  a41 := Tryz.isAgg212
  z41 := Tryz.sizeOf212
  v41 := Tryz.zeroValue212
  t44 := Tryz.underlying199
  a44 := Tryz.isAgg199
  z44 := Tryz.sizeOf199
  v44 := Tryz.zeroValue199
  t46 := Tryz.underlying146
  a46 := Tryz.isAgg146
  z46 := Tryz.sizeOf146
  v46 := Tryz.zeroValue146
  t53 := Tryz.underlying221
  a53 := Tryz.isAgg221
  z53 := Tryz.sizeOf221
  v53 := Tryz.zeroValue221
  t57 := Tryz.underlying225
  a57 := Tryz.isAgg225
  z57 := Tryz.sizeOf225
  v57 := Tryz.zeroValue225
  t63 := Tryz.underlying231
  a63 := Tryz.isAgg231
  z63 := Tryz.sizeOf231
  v63 := Tryz.zeroValue231
  t64 := Tryz.underlying47
  a64 := Tryz.isAgg47
  z64 := Tryz.sizeOf47
  v64 := Tryz.zeroValue47 }
end Go.Proofs.YtflienghgobmoaaGreatDoor

