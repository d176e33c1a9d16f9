import Derived.Test.YtgmccpimpbnnpaaDoorKWalM
import Derived.Test.YtgmccpimpbnnpaaDoorKARep
import Derived.Maps.OwnSet
import Derived.Lib.SlKeysI
namespace Go.Proofs.YtgmccpimpbnnpaaDoor
open Go.RowKit Rec
theorem row_logD (F : List Int) (k i : Nat) (hi : i < k) : row (logD F k) i = bck F (2 + i) := by
  simp [row, logD, List.getD, hi]
theorem AD.full_length (a : AD) : a.full.length = a.las.length := by rw [AD.full_fw, fw_length]
theorem Disk.full_length {w : World} {D : Dk} (h : Disk w D) : D.full.length = 512 * D.nb := by
  rw [abs_full, AD.full_length]; exact h.lasl
theorem ReadAt.data {w0 w : World} {F : List Int} {k nb : Nat} {v : Value} {L : List Rb} (h : ReadAt w0 w F 2 k v L) (hl : F.length = 512 * nb) (hn : 98 ≤ nb) (hk : k ≤ 96) (h0 : 0 < k) : ∃ g c, v = .slice (some ⟨g, 0, none⟩) k c ∧ Data w (some ⟨g, 0, none⟩) (logD F k) ∧ w0.heap.size ≤ g := by
  obtain ⟨g, c, rfl⟩ := own_some h.row h0
  refine ⟨g, c, rfl, ⟨by rw [logD_length]; omega, .inr ⟨g, 0, rfl, fun i hi => ?_⟩⟩, h.far g rfl⟩
  rw [logD_length] at hi
  have hi' : i < L.length := by rw [h.len]; exact hi
  obtain ⟨q, hq⟩ : ∃ q, L[i]? = some q := ⟨L[i], List.getElem?_eq_getElem hi'⟩
  obtain ⟨e, ho, _⟩ := h.at_ i q hq
  have hc := h.row.cells (g := g) rfl i q.v (by simp [hq])
  rw [Addr.add_lit] at hc
  refine ⟨some ⟨q.g, 0, none⟩, q.c, ?_, ?_, fun e => by cases e⟩
  · rw [row_logD F k i hi, bck_length F _ nb hl (by omega)]; exact hc
  · rw [row_logD F k i hi, ← e]; exact ho.bytes
structure LogAt (w0 w : World) (F : List Int) (nb : Nat) (v1 v2 : Value) (L : List Rb) : Prop where
  nums : NumsAt w0 w v1 (logN F nb)
  data : ReadAt w0 w F 2 (logN F nb).length v2 L
  bel : Below w0.heap.size w0 w
theorem NumsAt.on {w0 w w' : World} {v : Value} {l : List Int} (h : NumsAt w0 w v l) (hb : Below w.heap.size w w') : NumsAt w0 w' v l := by
  rcases h with h | ⟨g, cap, e, ho, hg⟩
  · exact .inl h
  · exact .inr ⟨g, cap, e, ho.on hb, hg⟩
theorem NumsAt.from {w0 w1 w : World} {v : Value} {l : List Int} (h : NumsAt w1 w v l) (hb : Below w0.heap.size w0 w1) : NumsAt w0 w v l := by
  rcases h with h | ⟨g, cap, e, ho, hg⟩
  · exact .inl h
  · exact .inr ⟨g, cap, e, ho, Nat.le_trans hb.size hg⟩
theorem NumsAt.form {w0 w : World} {v : Value} {l : List Int} (h : NumsAt w0 w v l) : ∃ a c, v = .slice a l.length c := by
  rcases h with ⟨rfl, rfl⟩ | ⟨g, cap, rfl, _⟩
  · exact ⟨none, 0, rfl⟩
  · exact ⟨_, _, rfl⟩
section
variable (w : World) (D : Dk) (h : Disk w D) (hT : TabAt w)
end
end Go.Proofs.YtgmccpimpbnnpaaDoor

namespace Go.Proofs.YtgmccpimpbnnpaaDoor
open Go.RowKit Rec
end Go.Proofs.YtgmccpimpbnnpaaDoor

namespace Go.Proofs.YtgmccpimpbnnpaaDoor
open Go.RowKit Rec
end Go.Proofs.YtgmccpimpbnnpaaDoor

namespace Go.Proofs.YtgmccpimpbnnpaaDoor
open Go.RowKit Rec
end Go.Proofs.YtgmccpimpbnnpaaDoor

namespace Go.Proofs.YtgmccpimpbnnpaaDoor
open Go.RowKit Rec
theorem ReadAt.cell {w0 w : World} {F : List Int} {f k g c : Nat} {L : List Rb} (h : ReadAt w0 w F f k (.slice (some ⟨g, 0, none⟩) k c) L) (i : Nat) (q : Rb) (hq : L[i]? = some q) : w.cell? ⟨g, i, none⟩ = some (.slice (some ⟨q.g, 0, none⟩) 512 q.c) := by
  have hc := h.row.cells (g := g) rfl i q.v (by simp [hq])
  rw [Addr.add_lit] at hc
  rw [Nat.zero_add] at hc
  exact hc
end Go.Proofs.YtgmccpimpbnnpaaDoor

namespace Go.Proofs.YtgmccpimpbnnpaaDoor
open Go.RowKit Rec
end Go.Proofs.YtgmccpimpbnnpaaDoor

namespace Go.Proofs.YtgmccpimpbnnpaaDoor
open Go.RowKit Rec
theorem LogAt.on {w0 w w' : World} {F : List Int} {nb : Nat} {v1 v2 : Value} {L : List Rb} (h : LogAt w0 w F nb v1 v2 L) (hb : Below w.heap.size w w') : LogAt w0 w' F nb v1 v2 L :=
  ⟨h.nums.on hb, h.data.on hb, h.bel.trans (hb.mono h.bel.size)⟩
theorem LogAt.at_ {w0 w : World} {F : List Int} {nb k : Nat} {v1 v2 : Value} {L : List Rb} (h : LogAt w0 w F nb v1 v2 L) (hk : (logN F nb).length = k) (h0 : 0 < k) :
    ∃ gn cn gd cd, v1 = .slice (some ⟨gn, 0, none⟩) k cn ∧ v2 = .slice (some ⟨gd, 0, none⟩) k cd ∧ w0.heap.size ≤ gn ∧ w0.heap.size ≤ gd ∧ ∀ i, i < k → w.cell? ⟨gn, i, none⟩ = some (.int .i64 (nth (logN F nb) i)) ∧ ∃ g c, w.cell? ⟨gd, i, none⟩ = some (.slice (some ⟨g, 0, none⟩) 512 c) ∧ OwnB w g c (bck F (2 + i)) ∧ w0.heap.size ≤ g := by
  have hd := h.data
  rw [hk] at hd
  obtain ⟨gd, cd, rfl⟩ := own_some hd.row h0
  rcases h.nums with ⟨e, _⟩ | ⟨gn, cn, e, ho, hg⟩
  · rw [e] at hk; simp at hk; omega
  · rw [hk] at e
    refine ⟨gn, cn, gd, cd, e, rfl, hg, hd.far gd rfl, fun i hi => ⟨ho.cell i (by rw [hk]; exact hi), ?_⟩⟩
    obtain ⟨q, hq⟩ : ∃ q, L[i]? = some q := ⟨L[i]'(by rw [hd.len]; exact hi), List.getElem?_eq_getElem _⟩
    obtain ⟨e1, e2, e3⟩ := hd.at_ i q hq
    rw [e1] at e2
    exact ⟨q.g, q.c, hd.cell i q hq, e2, e3⟩
end Go.Proofs.YtgmccpimpbnnpaaDoor

namespace Go.Proofs.YtgmccpimpbnnpaaDoor
open Go.RowKit Rec
theorem logN_nat (F : List Int) (nb j : Nat) (hj : j < (logN F nb).length) : ∃ m : Nat, nth (logN F nb) j = (m : Int) ∧ 98 ≤ m ∧ m < nb := by
  have hne : logN F nb ≠ [] := fun e => by rw [e] at hj; simp at hj
  have := pre_bd _ _ (numsL_ok _ _ hne).1 j hj
  refine ⟨(nth (logN F nb) j).toNat, ?_, ?_, ?_⟩
  · have : 0 ≤ nth (logN F nb) j := by have h := this; unfold logN; omega
    omega
  · have h := this; unfold logN; omega
  · have h := this; unfold logN; omega
end Go.Proofs.YtgmccpimpbnnpaaDoor

namespace Go.Proofs.YtgmccpimpbnnpaaDoor
open Go.RowKit Rec
end Go.Proofs.YtgmccpimpbnnpaaDoor

namespace Go.Proofs.YtgmccpimpbnnpaaDoor
open Go.RowKit Rec
end Go.Proofs.YtgmccpimpbnnpaaDoor

namespace Go.Proofs.YtgmccpimpbnnpaaDoor
open Go.RowKit Rec
end Go.Proofs.YtgmccpimpbnnpaaDoor

namespace Go.Proofs.YtgmccpimpbnnpaaDoor
open Go.RowKit Rec
theorem take_append (a : AD) (xs ys : List WA) : (a.takeE xs = 0 → a.take (xs ++ ys) = (a.take xs).take ys ∧ a.takeE (xs ++ ys) = (a.take xs).takeE ys) ∧ (a.takeE xs ≠ 0 → a.take (xs ++ ys) = a.take xs ∧ a.takeE (xs ++ ys) = a.takeE xs) := by
  induction xs generalizing a with
  | nil => exact ⟨fun _ => ⟨rfl, rfl⟩, fun h => absurd rfl h⟩
  | cons t xs ih =>
    simp only [List.cons_append, AD.take, AD.takeE]
    cases hd : a.down with
    | true => simp
    | false =>
      by_cases h1 : a.at_ = 1
      · simp [h1]
      · simp only [Bool.false_eq_true, if_false, if_neg h1]
        exact ih (a.act t)
structure RoomN (a : AD) (n : Nat) : Prop where
  p : a.P.length + n ≤ 4294967296
  t : a.T.length + n ≤ 4294967296
  w : a.wr + n ≤ 4294967296
  f : a.fl + n ≤ 4294967296
  k : a.keep.length ≤ 9223372036854775807
theorem RoomN.room {a : AD} {n : Nat} (h : RoomN a (n + 1)) : RoomD a := ⟨by have := h.p; omega, by have := h.t; omega, by have := h.w; omega, by have := h.f; omega, h.k⟩
theorem RoomN.le {a : AD} {n m : Nat} (h : RoomN a n) (hm : m ≤ n) : RoomN a m := ⟨by have := h.p; omega, by have := h.t; omega, by have := h.w; omega, by have := h.f; omega, h.k⟩
def AD.lastA (a : AD) : WA → AD
  | none => ({ a with fl := a.fl + 1 } : AD).cutW (kpOf a.keep)
  | some p => (a.wrs [p]).cutW (kpOf a.keep)
theorem take_one (a : AD) (t : WA) (h : a.at_ = 1) : a.act t = a.lastA t ∧ True := by
  refine ⟨?_, trivial⟩
  cases t with
  | none =>
    show a.flush = _
    unfold AD.flush
    rw [if_pos h]
    unfold AD.cut
    rw [AD.settle_fw]; rfl
  | some p =>
    show a.write p.1 p.2 = _
    unfold AD.write
    rw [if_pos h]
    unfold AD.cut
    rw [AD.settle_fw]
    rfl
theorem RoomN.act {a : AD} {n : Nat} (h : RoomN a (n + 1)) (t : WA) : RoomN (a.act t) n := by
  have h1 := h.p
  have h2 := h.t
  have h3 := h.w
  have h4 := h.f
  have h5 := h.k
  cases t with
  | none =>
    by_cases c : a.at_ = 1
    · have e : a.act none = (({ a with fl := a.fl + 1 } : AD).cutW (kpOf a.keep)) := (take_one a none c).1
      rw [e]
      exact ⟨by show 0 + n ≤ _; omega, by show a.T.length + n ≤ _; omega, by show a.wr + n ≤ _; omega, by show a.fl + 1 + n ≤ _; omega, h5⟩
    · rw [show a.act none = a.fls from flush_un a c]
      exact ⟨by show 0 + n ≤ _; omega, by show (a.T ++ [actT none]).length + n ≤ _; rw [List.length_append]; simp; omega, by show a.wr + n ≤ _; omega, by show a.fl + 1 + n ≤ _; omega, h5⟩
  | some p =>
    by_cases c : a.at_ = 1
    · have e : a.act (some p) = (a.wrs [p]).cutW (kpOf a.keep) := (take_one a (some p) c).1
      rw [e]
      exact ⟨by show 0 + n ≤ _; omega, by show (a.T ++ [actT (some p)]).length + n ≤ _; rw [List.length_append]; simp; omega, by show a.wr + 1 + n ≤ _; omega, by show a.fl + n ≤ _; omega, h5⟩
    · rw [show a.act (some p) = a.wrs [p] from write_un a _ _ c]
      exact ⟨by show (a.P ++ [p]).length + n ≤ _; rw [List.length_append]; simp; omega, by show (a.T ++ [actT (some p)]).length + n ≤ _; rw [List.length_append]; simp; omega, by show a.wr + 1 + n ≤ _; omega, by show a.fl + n ≤ _; omega, h5⟩
theorem RoomN.take {n : Nat} (xs : List WA) : ∀ {a : AD}, RoomN a (xs.length + n) → RoomN (a.take xs) n := by
  induction xs with
  | nil => intro a h; exact h.le (by omega)
  | cons t xs ih =>
    intro a h
    have h' : RoomN a ((xs.length + n) + 1) := h.le (by simp; omega)
    rw [AD.take]
    split
    · exact h.le (by omega)
    · split
      · exact (h'.act t).le (by omega)
      · exact ih (h'.act t)
end Go.Proofs.YtgmccpimpbnnpaaDoor

namespace Go.Proofs.YtgmccpimpbnnpaaDoor
open Go.RowKit Rec
end Go.Proofs.YtgmccpimpbnnpaaDoor

namespace Go.Proofs.YtgmccpimpbnnpaaDoor
open Go.RowKit Rec
structure DoneAt (w : World) (D : Dk) (wr : World) (E : Dk) (acts : List WA) : Prop where
  disk : Disk wr E
  mv : Mv w D wr E
  al : Al w.heap.size D E
  abs : E.abs = D.abs.take acts
theorem take_more (a : AD) (acts : List WA) (k : Nat) (t : WA) (ht : acts[k]? = some t) (h0 : a.takeE (acts.take k) = 0) : a.take (acts.take (k + 1)) = (a.take (acts.take k)).take [t] ∧ a.takeE (acts.take (k + 1)) = (a.take (acts.take k)).takeE [t] := by
  have e : acts.take (k + 1) = acts.take k ++ [t] := by rw [List.take_add_one, ht]; rfl
  rw [e]
  exact (take_append a (acts.take k) [t]).1 h0
theorem DoneAt.next {w : World} {D : Dk} {wr w' : World} {E E' : Dk} {acts : List WA} {k : Nat} {t : WA} (h : DoneAt w D wr E (acts.take k)) (h0 : D.abs.takeE (acts.take k) = 0) (ht : acts[k]? = some t) (hd : Disk w' E') (hm : Mv wr E w' E') (ha : Al wr.heap.size E E') (he : E'.abs = E.abs.take [t]) : DoneAt w D w' E' (acts.take (k + 1)) :=
  ⟨hd, h.mv.trans hm, al_trans h.al ha h.mv.fr.size, by rw [(take_more _ acts k t ht h0).1, ← h.abs]; exact he⟩
end Go.Proofs.YtgmccpimpbnnpaaDoor

namespace Go.Proofs.YtgmccpimpbnnpaaDoor
open Go.RowKit Rec
structure Bk where
  n : Int
  g : Nat
  c : Nat
  x : List Int
def Bk.v (q : Bk) : Value := .slice (some ⟨q.g, 0, none⟩) 512 q.c
def nsB (L : List Bk) : List Int := L.map Bk.n
def dsB (L : List Bk) : List (List Int) := L.map Bk.x
structure BlocksAt (w : World) (b : Nat) (L : List Bk) : Prop where
  at_ : ∀ (i : Nat) (q : Bk), L[i]? = some q → w.cell? ⟨b, i * 2, none⟩ = some (.int .i64 q.n) ∧ w.cell? ⟨b, i * 2 + 1, none⟩ = some q.v ∧ BlkAt w q.g q.x
theorem BlocksAt.on {w w' : World} {b : Nat} {L : List Bk} (h : BlocksAt w b L) (x : Below w.heap.size w w') : BlocksAt w' b L :=
  ⟨fun i q hq => by
    obtain ⟨h1, h2, h3⟩ := h.at_ i q hq
    exact ⟨(x.cell (block_lt_of_cell h1)).trans h1, (x.cell (block_lt_of_cell h2)).trans h2, h3.on x⟩⟩
structure ApAt (w0 wr : World) (L : List Bk) (j : Nat) (s2 s3 : Value) : Prop where
  nums : wr.ownsRow 0 3 1 s2 j ((nsB (L.take j)).map (Value.int .i64))
  rows : wr.ownsRow 0 52 1 s3 j ((L.take j).map Bk.v)
  far2 : ∀ k, s2.ownBlock = some k → w0.heap.size ≤ k
  far3 : ∀ k, s3.ownBlock = some k → w0.heap.size ≤ k
  bel : Below w0.heap.size w0 wr
theorem ApAt.on {w0 wr w' : World} {L : List Bk} {j : Nat} {s2 s3 : Value} (h : ApAt w0 wr L j s2 s3) (hb : Below wr.heap.size wr w') : ApAt w0 w' L j s2 s3 :=
  ⟨owns_on h.nums hb, owns_on h.rows hb, h.far2, h.far3, h.bel.trans (hb.mono h.bel.size)⟩
theorem ApAt.start {w0 : World} {L : List Bk} : ApAt w0 w0 L 0 (.slice none 0 0) (.slice none 0 0) :=
  ⟨⟨rfl, .inl ⟨rfl, rfl⟩⟩, ⟨rfl, .inl ⟨rfl, rfl⟩⟩, (fun k h => by cases h), (fun k h => by cases h), Below.refl _ _⟩
structure ApMid (w0 wr : World) (L : List Bk) (j : Nat) (s2 s3 : Value) : Prop where
  nums : wr.ownsRow 0 3 1 s2 (j + 1) ((nsB (L.take (j + 1))).map (Value.int .i64))
  rows : wr.ownsRow 0 52 1 s3 j ((L.take j).map Bk.v)
  far2 : ∀ k, s2.ownBlock = some k → w0.heap.size ≤ k
  far3 : ∀ k, s3.ownBlock = some k → w0.heap.size ≤ k
  bel : Below w0.heap.size w0 wr
theorem ApMid.on {w0 wr w' : World} {L : List Bk} {j : Nat} {s2 s3 : Value} (h : ApMid w0 wr L j s2 s3) (hb : Below wr.heap.size wr w') : ApMid w0 w' L j s2 s3 :=
  ⟨owns_on h.nums hb, owns_on h.rows hb, h.far2, h.far3, h.bel.trans (hb.mono h.bel.size)⟩
theorem take_bk {L : List Bk} {j : Nat} {q : Bk} (hq : L[j]? = some q) : L.take (j + 1) = L.take j ++ [q] := by rw [List.take_add_one, hq]; rfl
theorem ApAt.mid {w0 wr w' : World} {L : List Bk} {j g cap : Nat} {s2 s3 : Value} {q : Bk} (h : ApAt w0 wr L j s2 s3) (hq : L[j]? = some q) (ho : w'.ownsRow 0 3 1 (.slice (some ⟨g, 0, none⟩) (j + 1) cap) (j + 1) ((nsB (L.take j) ++ [q.n]).map (Value.int .i64))) (hf : Fr (fun k => s2.ownBlock = some k) wr w') (hg : s2.ownBlock = some g ∨ wr.heap.size ≤ g) :
    ApMid w0 w' L j (.slice (some ⟨g, 0, none⟩) (j + 1) cap) s3 := by
  refine ⟨?_, owns_fr h.rows hf (fun k hk => own_apart h.rows h.nums (by decide) k hk), fun k hk => ?_, h.far3, h.bel.trans (hf.below _ h.far2 h.bel.size)⟩
  · rw [take_bk hq]; unfold nsB at ho ⊢; simpa using ho
  · cases hk
    rcases hg with e | e
    · exact h.far2 _ e
    · exact Nat.le_trans h.bel.size e
theorem ApMid.next {w0 wr w' : World} {L : List Bk} {j g cap : Nat} {s2 s3 : Value} {q : Bk} (h : ApMid w0 wr L j s2 s3) (hq : L[j]? = some q) (ho : w'.ownsRow 0 52 1 (.slice (some ⟨g, 0, none⟩) (j + 1) cap) (j + 1) ((L.take j).map Bk.v ++ [.slice (some ⟨q.g, 0, none⟩) 512 q.c])) (hf : Fr (fun k => s3.ownBlock = some k) wr w') (hg : s3.ownBlock = some g ∨ wr.heap.size ≤ g) :
    ApAt w0 w' L (j + 1) s2 (.slice (some ⟨g, 0, none⟩) (j + 1) cap) := by
  refine ⟨owns_fr h.nums hf (fun k hk => own_apart h.nums h.rows (by decide) k hk), ?_, h.far2, fun k hk => ?_, h.bel.trans (hf.below _ h.far3 h.bel.size)⟩
  · rw [take_bk hq, List.map_append]; exact ho
  · cases hk
    rcases hg with e | e
    · exact h.far3 _ e
    · exact Nat.le_trans h.bel.size e
end Go.Proofs.YtgmccpimpbnnpaaDoor

namespace Go.Proofs.YtgmccpimpbnnpaaDoor
open Go.RowKit Rec
structure Lists (w : World) (D : Dk) (a da k : Nat) (ns : List Int) (ds : List (List Int)) : Prop where
  nums : ∀ i, i < k → w.cell? ⟨a, i, none⟩ = some (.int .i64 (nth ns i)) ∧ 0 ≤ nth ns i ∧ nth ns i < D.nb
  rows : ∀ i, i < k → ∃ g c, w.cell? ⟨da, i, none⟩ = some (.slice (some ⟨g, 0, none⟩) 512 c) ∧ BlkAt w g (row ds i) ∧ ¬ D.has g
  nl : ns.length = k
  dl : ds.length = k
theorem Lists.on {w w' : World} {D : Dk} {a da k : Nat} {ns : List Int} {ds : List (List Int)} (h : Lists w D a da k ns ds) (x : Below w.heap.size w w') : Lists w' D a da k ns ds :=
  ⟨fun i hi => by obtain ⟨h1, h2⟩ := h.nums i hi; exact ⟨(x.cell (block_lt_of_cell h1)).trans h1, h2⟩, fun i hi => by obtain ⟨g, c, h1, h2, h3⟩ := h.rows i hi; exact ⟨g, c, (x.cell (block_lt_of_cell h1)).trans h1, h2.on x, h3⟩, h.nl, h.dl⟩
end Go.Proofs.YtgmccpimpbnnpaaDoor

namespace Go.Proofs.YtgmccpimpbnnpaaDoor
open Go.RowKit Rec
theorem ComOk.may16 {nb : Nat} {ns : List Int} {ds : List (List Int)} (h : ComOk nb ns ds) : may ns 16384 = true :=
  may_mono ns nb 16384 h.ris (fun i hi => by have := pre_bd ns nb h.ris i hi; have := h.n16; omega)
theorem ComOk.make {nb : Nat} {ns : List Int} {ds : List (List Int)} (h : ComOk nb ns ds) : makeE ns ds = 0 := by
  unfold makeE
  rw [if_pos ⟨⟨h.lo, h.hi⟩, h.may16⟩, if_pos]
  unfold blk
  rw [Bool.and_eq_true, decide_eq_true_eq, decide_eq_true_eq]
  exact ⟨h.dl, h.bl⟩
theorem nth_nsB (L : List Bk) (i : Nat) (q : Bk) (h : L[i]? = some q) : nth (nsB L) i = q.n := by
  unfold nth nsB
  simp [List.getD, h]
theorem row_dsB (L : List Bk) (i : Nat) (q : Bk) (h : L[i]? = some q) : row (dsB L) i = q.x := by
  unfold row dsB
  simp [List.getD, h]
theorem ApAt.lists {w w' : World} {D : Dk} {b n : Nat} {L : List Bk} {s2 s3 : Value} (h : ApAt w w' L n s2 s3) (hL : BlocksAt w b L) (hn : L.length = n) (h0 : 0 < n) (ok : ComOk D.nb (nsB L) (dsB L)) (ha : ∀ q ∈ L, ¬ D.has q.g) :
    ∃ a nc da dc, s2 = .slice (some ⟨a, 0, none⟩) n nc ∧ s3 = .slice (some ⟨da, 0, none⟩) n dc ∧ Ints w' (some ⟨a, 0, none⟩) (nsB L) ∧ Data w' (some ⟨da, 0, none⟩) (dsB L) ∧ Lists w' D a da n (nsB L) (dsB L) := by
  obtain ⟨a, nc, rfl⟩ := own_some h.nums h0
  obtain ⟨da, dc, rfl⟩ := own_some h.rows h0
  have ht : L.take n = L := by rw [← hn, List.take_length]
  have h1 := h.nums
  have h2 := h.rows
  rw [ht] at h1 h2
  have hI : Ints w' (some ⟨a, 0, none⟩) (nsB L) := (OwnI.of h1 (by simp [nsB, hn]) (by have := ok.hi; simp [nsB, hn] at this; omega)).ints
  have hB := hL.on h.bel
  have hc : ∀ i q, L[i]? = some q → w'.cell? ⟨da, i, none⟩ = some q.v := fun i q hq => by
    have := h2.cells (g := da) rfl i q.v (by simp [hq])
    rw [Addr.add_lit] at this
    simpa using this
  refine ⟨a, nc, da, dc, rfl, rfl, hI, ⟨by have := ok.hi; have := ok.dl; simp [dsB, nsB] at *; omega, .inr ⟨da, 0, rfl, fun i hi => ?_⟩⟩, ⟨fun i hi => ⟨?_, ?_⟩, fun i hi => ?_, by simp [nsB, hn], by simp [dsB, hn]⟩⟩
  · have hi' : i < L.length := by simpa [dsB] using hi
    obtain ⟨q, hq⟩ : ∃ q, L[i]? = some q := ⟨L[i], List.getElem?_eq_getElem hi'⟩
    have b3 := (hB.at_ i q hq).2.2
    refine ⟨some ⟨q.g, 0, none⟩, q.c, ?_, ?_, fun e => by cases e⟩
    · rw [Nat.zero_add, row_dsB L i q hq, b3.len]; exact hc i q hq
    · rw [row_dsB L i q hq]; exact b3.bytes
  · have := hI.cell (i := i) (by simp [nsB, hn]; exact hi)
    rwa [Nat.zero_add] at this
  · have := pre_bd _ _ ok.ris i (by simp [nsB, hn]; exact hi)
    omega
  · have hi' : i < L.length := by omega
    obtain ⟨q, hq⟩ : ∃ q, L[i]? = some q := ⟨L[i], List.getElem?_eq_getElem hi'⟩
    refine ⟨q.g, q.c, hc i q hq, ?_, ha q (List.mem_of_getElem? hq)⟩
    rw [row_dsB L i q hq]
    exact (hB.at_ i q hq).2.2
theorem DoneAt.from {w w1 : World} {D : Dk} {w' : World} {E : Dk} {acts : List WA} (h : DoneAt w1 D w' E acts) (hb : Below w.heap.size w w1) : DoneAt w D w' E acts :=
  ⟨h.disk, (mv_on w w1 D hb).trans h.mv, fun k hk => (h.al k hk).imp id (fun e => Nat.le_trans hb.size e), h.abs⟩
end Go.Proofs.YtgmccpimpbnnpaaDoor

namespace Go.Proofs.YtgmccpimpbnnpaaDoor
open Go.RowKit Rec
end Go.Proofs.YtgmccpimpbnnpaaDoor

namespace Go.Proofs.YtgmccpimpbnnpaaDoor
open Go.RowKit Rec
theorem DoneAt.set {w w1 w' : World} {D E : Dk} {acts : List WA} (h : DoneAt w1 D w' E acts) (hb : Below w.heap.size w w1) (hD : Disk w D) (p i : Nat) (h1 : w.heap.size ≤ p) (h2 : p < w1.heap.size) (v : Value) : DoneAt w D (w'.setCell ⟨p, i, none⟩ v) E acts := by
  have hF := h.from hb
  refine ⟨h.disk.fr Fr.set (fun k hk e => ?_), ⟨hF.mv.fr.trans Fr.set (fun k hk => .inr (by rw [hk]; exact h1)), hF.mv.has, hF.mv.d, hF.mv.nb⟩, hF.al, h.abs⟩
  subst e
  rcases h.al k hk with e | e
  · have := hD.allLt e; omega
  · omega
theorem logH_length (F : List Int) (nb : Nat) : (logH F nb).length = (logN F nb).length := homes_length _ _ (logD_length _ _)
end Go.Proofs.YtgmccpimpbnnpaaDoor

namespace Go.Proofs.YtgmccpimpbnnpaaDoor
open Go.RowKit Rec
theorem LogAt.lists {w0 w : World} {D : Dk} {F : List Int} {nb k : Nat} {v1 v2 : Value} {L : List Rb} (h : LogAt w0 w F nb v1 v2 L) (hk : (logN F nb).length = k) (h0 : 0 < k) (hl : F.length = 512 * nb) (hnb : 98 ≤ nb) (hD : ∀ b, D.has b → b < w0.heap.size) (hN : D.nb = nb) :
    ∃ gn cn gd cd, v1 = .slice (some ⟨gn, 0, none⟩) k cn ∧ v2 = .slice (some ⟨gd, 0, none⟩) k cd ∧ Lists w D gn gd k (logN F nb) (logD F k) := by
  obtain ⟨gn, cn, gd, cd, e1, e2, h1, h2, hat⟩ := h.at_ hk h0
  have hkl := logN_len F nb
  rw [hk] at hkl
  refine ⟨gn, cn, gd, cd, e1, e2, fun i hi => ?_, fun i hi => ?_, hk, logD_length _ _⟩
  · obtain ⟨m, hm, m1, m2⟩ := logN_nat F nb i (by rw [hk]; exact hi)
    rw [hN]
    refine ⟨(hat i hi).1, ?_, ?_⟩ <;> omega
  · obtain ⟨_, g, c, n2, n3, n4⟩ := hat i hi
    refine ⟨g, c, n2, ?_, fun e => by have := hD g e; omega⟩
    rw [row_logD F k i hi]
    exact BlkAt.of n3 (bck_length F _ nb hl (by omega))
end Go.Proofs.YtgmccpimpbnnpaaDoor

namespace Go.Proofs.YtgmccpimpbnnpaaDoor
open Go.RowKit Rec
end Go.Proofs.YtgmccpimpbnnpaaDoor

namespace Go.Proofs.YtgmccpimpbnnpaaDoor
open Go.RowKit Rec
end Go.Proofs.YtgmccpimpbnnpaaDoor

namespace Go.Proofs.YtgmccpimpbnnpaaDoor
open Go.RowKit Rec
structure Mine (w0 w : World) (D : Dk) : Prop where
  disk : Disk w D
  far : ∀ k, D.all k → w0.heap.size ≤ k
  bel : Below w0.heap.size w0 w
theorem Mine.on {w0 w w' : World} {D : Dk} (h : Mine w0 w D) (hb : Below w.heap.size w w') : Mine w0 w' D := ⟨h.disk.on hb, h.far, h.bel.trans (hb.mono h.bel.size)⟩
theorem Mine.step {w0 w w' : World} {D E : Dk} (h : Mine w0 w D) (hd : Disk w' E) (hm : Mv w D w' E) (ha : Al w.heap.size D E) : Mine w0 w' E :=
  ⟨hd, fun k hk => (ha k hk).elim (h.far k) (fun e => Nat.le_trans h.bel.size e), h.bel.trans (hm.fr.below _ (fun k hk => h.far k (.inl hk)) h.bel.size)⟩
theorem Mine.done {w0 w w' : World} {D E : Dk} {acts : List WA} (h : Mine w0 w D) (hd : DoneAt w D w' E acts) : Mine w0 w' E := h.step hd.disk hd.mv hd.al
theorem Mine.hasLt {w0 w : World} {D : Dk} (h : Mine w0 w D) : ∀ k, D.has k → k < w.heap.size := fun _ hk => h.disk.hasLt hk
theorem Mine.far' {w0 w1 w : World} {D : Dk} (h : Mine w1 w D) (hb : Below w0.heap.size w0 w1) : Mine w0 w D := ⟨h.disk, fun k hk => Nat.le_trans hb.size (h.far k hk), hb.trans (h.bel.mono hb.size)⟩
theorem newDk_all (d L nw capL nb : Nat) (las : List Int) (n : Nat) (h1 : n ≤ d) (h2 : n ≤ L) (h3 : n ≤ nw) : ∀ k, (newDk d L nw capL nb las).all k → n ≤ k := by
  rintro k ((rfl | rfl | rfl | hk | hk) | hk | ⟨p, hp, _⟩ | ⟨p, hp, _⟩)
  · exact h1
  · exact h2
  · exact h3
  · cases hk
  · cases hk
  · cases hk
  · cases hp
  · cases hp
structure Rest (a : AD) (nb : Nat) (l : List Int) : Prop where
  size : a.nb = nb
  las : a.las = l
  pen : a.P = []
  down : a.down = false
  at_ : a.at_ = 0
  len : l.length = 512 * nb
  log : bck l 1 = zs
theorem Rest.full {a : AD} {nb : Nat} {l : List Int} (h : Rest a nb l) : a.full = l := by rw [AD.full_fw, h.pen, h.las]; rfl
theorem Rest.behind {nb : Nat} {a : AD} {l : List Int} (h : Rest a nb l) (hn : 98 ≤ nb) : behind l nb = l := behind_empty h.len hn h.log
def done (l : List Int) (nb : Nat) (ns : List Int) (ds : List (List Int)) : List Int := behind (headed l ns ds) nb
def parts (ns : List Int) (ds : List (List Int)) : List (List (Nat × List Int)) := [logW ds, [(1, made ns ds)], homes ns ds, [(1, zs)]]
section
variable {nb : Nat} {ns : List Int} {ds : List (List Int)} {l : List Int}
theorem done_length (hl : l.length = 512 * nb) (ok : ComOk nb ns ds) : (done l nb ns ds).length = 512 * nb := by unfold done; rw [behind_length]; exact (headed_log ok hl).1
theorem done_one (hl : l.length = 512 * nb) (ok : ComOk nb ns ds) : bck (done l nb ns ds) 1 = zs := behind_one _ nb (headed_log ok hl).1 ok.n98
end
theorem Rest.commit {a : AD} {nb : Nat} {l : List Int} {ns : List Int} {ds : List (List Int)} (h : Rest a nb l) (ok : ComOk nb ns ds) :
    a.takeE (commitA ns ds) = 0 ∧ a.take (commitA ns ds) = a.all (parts ns ds) ∧ Rest (a.all (parts ns ds)) nb (done l nb ns ds) := by
  have ht := (take_commit a nb ns ds ok (by rw [h.las]; exact h.len) (by rw [h.las]; exact h.log) h.pen h.down).1 (by rw [h.at_]; omega)
  obtain ⟨e1, e2, e3, _⟩ := ht
  refine ⟨e2, e1, h.size, ?_, rfl, h.down, ?_, done_length h.len ok, done_one h.len ok⟩
  · rw [e1, h.las] at e3; exact e3
  · show (if 0 < a.at_ then a.at_ - _ else a.at_) = 0
    rw [h.at_]; rfl
end Go.Proofs.YtgmccpimpbnnpaaDoor

namespace Go.Proofs.YtgmccpimpbnnpaaDoor
open Go.RowKit Rec
end Go.Proofs.YtgmccpimpbnnpaaDoor

namespace Go.Proofs.YtgmccpimpbnnpaaDoor
open Go.RowKit Rec
theorem flatK (f : Bk → List Value) (l : List Bk) (k : Nat) (hk : k < l.length) (j : Nat) (hj : j < 2) (hf : ∀ p, (f p).length = 2 := by intro p; rfl) : (l.flatMap f)[k * 2 + j]? = (f l[k])[j]? := by
  induction l generalizing k with
  | nil => simp at hk
  | cons p l ih =>
    rw [List.flatMap_cons]
    cases k with
    | zero => rw [List.getElem?_append_left (by rw [hf]; omega)]; simp
    | succ k =>
      rw [List.getElem?_append_right (by rw [hf]; omega), hf, show (k + 1) * 2 + j - 2 = k * 2 + j by omega, ih k (by simpa using hk)]; rfl
structure PtsAt (w : World) (a : Option Addr) (P : List (Int × Int)) : Prop where
  len : P.length ≤ 1000000000000000
  at_ : P = [] ∨ ∃ b off, a = some ⟨b, off, none⟩ ∧ ∀ i q, P[i]? = some q → w.cell? ⟨b, off + i * 2, none⟩ = some (.int .i64 q.1) ∧ w.cell? ⟨b, off + i * 2 + 1, none⟩ = some (.int .u8 q.2) ∧ 0 ≤ q.2 ∧ q.2 < 256
theorem PtsAt.on {w w' : World} {a : Option Addr} {P : List (Int × Int)} (h : PtsAt w a P) (hb : Below w.heap.size w w') : PtsAt w' a P := by
  refine ⟨h.len, ?_⟩
  rcases h.at_ with e | ⟨b, off, e, hc⟩
  · exact .inl e
  · refine .inr ⟨b, off, e, fun i q hq => ?_⟩
    obtain ⟨h1, h2, h3⟩ := hc i q hq
    exact ⟨(hb.cell (block_lt_of_cell h1)).trans h1, (hb.cell (block_lt_of_cell h2)).trans h2, h3⟩
def Bk.cells (q : Bk) : List Value := [.int .i64 q.n, q.v]
structure RowsAt (w0 w : World) (k : Nat) (v : Value) (L : List Bk) : Prop where
  row : w.ownsRow 0 88 2 v L.length (L.flatMap Bk.cells)
  blk : ∀ q ∈ L, BlkAt w q.g q.x ∧ w0.heap.size ≤ q.g
  num : ∀ q ∈ L, 98 ≤ q.n ∧ q.n < 98 + (k : Int)
  ris : L.Pairwise fun p q => p.n < q.n
  len : L.length ≤ k
  far : ∀ b, v.ownBlock = some b → w0.heap.size ≤ b
  bel : Below w0.heap.size w0 w
theorem RowsAt.on {w0 w w' : World} {k : Nat} {v : Value} {L : List Bk} (h : RowsAt w0 w k v L) (hb : Below w.heap.size w w') : RowsAt w0 w' k v L :=
  ⟨owns_on h.row hb, fun q hq => ⟨(h.blk q hq).1.on hb, (h.blk q hq).2⟩, h.num, h.ris, h.len, h.far, h.bel.trans (hb.mono h.bel.size)⟩
theorem RowsAt.up {w0 w : World} {k : Nat} {v : Value} {L : List Bk} (h : RowsAt w0 w k v L) : RowsAt w0 w (k + 1) v L :=
  ⟨h.row, h.blk, fun q hq => by have := h.num q hq; omega, h.ris, by have := h.len; omega, h.far, h.bel⟩
theorem RowsAt.start {w0 : World} : RowsAt w0 w0 0 (.slice none 0 0) [] :=
  ⟨⟨rfl, .inl ⟨rfl, rfl⟩⟩, (fun q h => by cases h), (fun q h => by cases h), List.Pairwise.nil, Nat.le_refl _, (fun b h => by cases h), Below.refl _ _⟩
theorem RowsAt.next {w0 wr w1 w' : World} {k g c g2 c2 : Nat} {v : Value} {L : List Bk} {x : List Int} (h : RowsAt w0 wr k v L) (hb : Below wr.heap.size wr w1) (hg : wr.heap.size ≤ g) (ho : BlkAt w1 g x)
    (h1 : w'.ownsRow 0 88 2 (.slice (some ⟨g2, 0, none⟩) (L.length + 1) c2) (L.length + 1) (L.flatMap Bk.cells ++ [.int .i64 (98 + (k : Int)), .slice (some ⟨g, 0, none⟩) 512 c])) (h2 : Fr (fun b => v.ownBlock = some b) w1 w') (h3 : v.ownBlock = some g2 ∨ w1.heap.size ≤ g2) :
    RowsAt w0 w' (k + 1) (.slice (some ⟨g2, 0, none⟩) (L.length + 1) c2) (L ++ [⟨98 + (k : Int), g, c, x⟩]) := by
  have hA := h.on hb
  have hs : w0.heap.size ≤ wr.heap.size := h.bel.size
  have hs1 : wr.heap.size ≤ w1.heap.size := hb.size
  have hne : ∀ {g : Nat} {x : List Int}, BlkAt w1 g x → ¬ v.ownBlock = some g := fun hx => by
    obtain ⟨cap, y, hy⟩ := hx.own
    exact own_apartB hA.row hy (by decide)
  refine ⟨?_, fun q hq => ?_, fun q hq => ?_, ?_, by rw [List.length_append]; have := h.len; simp; omega, fun b hk => ?_, hA.bel.trans (h2.below _ h.far hA.bel.size)⟩
  · rw [List.flatMap_append, List.length_append]; exact h1
  · rcases List.mem_append.1 hq with hq | hq
    · obtain ⟨a1, a2⟩ := hA.blk q hq
      exact ⟨a1.fr h2 (hne a1), a2⟩
    · simp at hq; subst hq
      exact ⟨ho.fr h2 (hne ho), Nat.le_trans hs hg⟩
  · rcases List.mem_append.1 hq with hq | hq
    · have := h.num q hq; omega
    · simp at hq; subst hq
      show 98 ≤ 98 + (k : Int) ∧ 98 + (k : Int) < 98 + ((k + 1 : Nat) : Int)
      omega
  · refine List.pairwise_append.2 ⟨h.ris, List.pairwise_singleton _ _, fun p hp q hq => ?_⟩
    simp at hq; subst hq
    exact (h.num p hp).2
  · cases hk
    rcases h3 with e | e
    · exact h.far _ e
    · exact Nat.le_trans (Nat.le_trans hs hs1) e
theorem RowsAt.blocks {w0 w : World} {k g c : Nat} {L : List Bk} (h : RowsAt w0 w k (.slice (some ⟨g, 0, none⟩) L.length c) L) : BlocksAt w g L := by
  refine ⟨fun i q hq => ?_⟩
  have hi : i < L.length := (List.getElem?_eq_some_iff.1 hq).1
  have hq' : L[i] = q := (List.getElem?_eq_some_iff.1 hq).2
  have hf : ∀ j, j < 2 → (L.flatMap Bk.cells)[i * 2 + j]? = q.cells[j]? := fun j hj => by
    rw [← hq']
    exact flatK Bk.cells L i hi j hj (fun _ => rfl)
  have h0 := h.row.cells (g := g) rfl (i * 2 + 0) (.int .i64 q.n) (by rw [hf 0 (by omega)]; rfl)
  have h1 := h.row.cells (g := g) rfl (i * 2 + 1) q.v (by rw [hf 1 (by omega)]; rfl)
  rw [Addr.add_lit] at h0 h1
  simp only [Nat.zero_add, Nat.add_zero] at h0 h1
  exact ⟨h0, h1, (h.blk q (List.mem_of_getElem? hq)).1⟩
theorem pre_nsB (L : List Bk) (h1 : ∀ q ∈ L, 98 ≤ q.n) (h2 : L.Pairwise fun p q => p.n < q.n) (n : Int) (h3 : ∀ q ∈ L, q.n < n) : may (nsB L) n = true := by
  refine decide_eq_true fun i hi => ?_
  have hi' : i < L.length := by simpa [nsB] using hi
  have e : nth (nsB L) i = (L[i]).n := nth_nsB L i _ (List.getElem?_eq_getElem hi')
  refine ⟨?_, by rw [e]; exact h3 _ (List.getElem_mem hi')⟩
  cases i with
  | zero =>
    have := h1 _ (List.getElem_mem hi')
    simp only [pre, e]
    simp
    omega
  | succ i =>
    have hp : pre (nsB L) (i + 1) = nth (nsB L) i := by simp [pre]
    rw [hp, e, nth_nsB L i _ (List.getElem?_eq_getElem (by omega))]
    exact List.pairwise_iff_getElem.1 h2 i (i + 1) (by omega) hi' (by omega)
theorem RowsAt.ok {w0 w : World} {v : Value} {L : List Bk} (h : RowsAt w0 w 30 v L) (h0 : L ≠ []) : ComOk 128 (nsB L) (dsB L) := by
  have hl := h.len
  have hp : 0 < L.length := by cases L with
    | nil => exact absurd rfl h0
    | cons a l => simp
  refine ⟨by omega, by omega, pre_nsB L (fun q hq => (h.num q hq).1) h.ris _ (fun q hq => by have := h.num q hq; omega), by simp [nsB]; omega, by simp [nsB]; omega, by simp [nsB, dsB], fun b hb => ?_⟩
  simp only [dsB, List.mem_map] at hb
  obtain ⟨q, hq, rfl⟩ := hb
  exact (h.blk q hq).1.len
end Go.Proofs.YtgmccpimpbnnpaaDoor

namespace Go.Proofs.YtgmccpimpbnnpaaDoor
open Go.RowKit Go.Maps Rec
abbrev Cm := Nat → Option Bk
def ups (c : Cm) (i : Nat) (q : Option Bk) : Cm := fun j => if j = i then q else c j
theorem ups_same (c : Cm) (i : Nat) (q : Option Bk) : ups c i q i = q := by simp [ups]
theorem ups_other (c : Cm) {i j : Nat} (q : Option Bk) (h : j ≠ i) : ups c i q j = c j := by simp [ups, h]
theorem ups_back (c : Cm) (i : Nat) (q : Option Bk) : ups (ups c i q) i (c i) = c := by
  funext j
  by_cases h : j = i
  · subst h; simp [ups]
  · simp [ups, h]
def lst (c : Cm) (n : Nat) : List Bk := (List.range n).filterMap c
def ent (q : Bk) : Lit × DataW Value := (.int .i64 q.n, .held q.v)
def dat (c : Cm) (n : Nat) : DataW Value := .map ((lst c n).map ent)
structure COk (c : Cm) (n : Nat) : Prop where
  num : ∀ i q, c i = some q → q.n = (i : Int)
  lo : ∀ i q, c i = some q → 98 ≤ i
  hi : ∀ i q, c i = some q → i < n
theorem cok_none (n : Nat) : COk (fun _ => none) n := ⟨(fun _ _ h => by cases h), (fun _ _ h => by cases h), (fun _ _ h => by cases h)⟩
theorem COk.ups {c : Cm} {n i : Nat} (h : COk c n) (q : Option Bk) (h0 : 98 ≤ i) (h1 : i < n) (hq : ∀ x, q = some x → x.n = (i : Int)) : COk (ups c i q) n := by
  refine ⟨fun j x hx => ?_, fun j x hx => ?_, fun j x hx => ?_⟩ <;> by_cases e : j = i
  · subst e; rw [ups_same] at hx; exact hq x hx
  · rw [ups_other _ _ e] at hx; exact h.num j x hx
  · subst e; exact h0
  · rw [ups_other _ _ e] at hx; exact h.lo j x hx
  · subst e; exact h1
  · rw [ups_other _ _ e] at hx; exact h.hi j x hx
theorem lst_mem {c : Cm} {n : Nat} {q : Bk} (h : q ∈ lst c n) : ∃ i, i < n ∧ c i = some q := by
  obtain ⟨i, hi, e⟩ := List.mem_filterMap.1 h
  exact ⟨i, List.mem_range.1 hi, e⟩
theorem lst_split (c : Cm) (n i : Nat) (h : i < n) : lst c n = lst c i ++ ((c i).toList ++ (List.range' (i + 1) (n - i - 1)).filterMap c) := by
  have e : List.range n = List.range i ++ (i :: List.range' (i + 1) (n - i - 1)) := by
    rw [List.range_eq_range', List.range_eq_range']
    have := @List.range'_append_1 0 i (n - i)
    rw [show i + (n - i) = n by omega, Nat.zero_add] at this
    rw [← this]
    congr 1
    obtain ⟨m, hm⟩ : ∃ m, n - i = m + 1 := ⟨n - i - 1, by omega⟩
    rw [hm, List.range'_succ]
    simp
  unfold lst
  rw [e, List.filterMap_append, List.filterMap_cons]
  cases c i <;> rfl
theorem filterMap_ups (c : Cm) (i : Nat) (q : Option Bk) (l : List Nat) (h : ∀ j ∈ l, j ≠ i) : l.filterMap (ups c i q) = l.filterMap c := by
  induction l with
  | nil => rfl
  | cons a l ih =>
    rw [List.filterMap_cons, List.filterMap_cons, ups_other c q (h a (.head _)), ih (fun j hj => h j (.tail _ hj))]
theorem lst_ups (c : Cm) (n i : Nat) (q : Option Bk) (h : i < n) : lst (ups c i q) n = lst c i ++ (q.toList ++ (List.range' (i + 1) (n - i - 1)).filterMap c) := by
  rw [lst_split _ n i h, ups_same]
  unfold lst
  rw [filterMap_ups c i q (List.range i) (fun j hj => by have := List.mem_range.1 hj; omega), filterMap_ups c i q _ (fun j hj => by have := List.mem_range'_1.1 hj; omega)]
theorem insert_mid (x : Lit × DataW Value) : ∀ (A B : List (Lit × DataW Value)), (∀ a ∈ A, x.1.before a.1 = false) → (∀ b ∈ B, x.1.before b.1 = true) → DataW.insert x (A ++ B) = A ++ x :: B
  | [], [], _, _ => rfl
  | [], b :: B, _, h => by simp [DataW.insert, h b (.head _)]
  | a :: A, B, h1, h2 => by
    simp only [List.cons_append, DataW.insert, h1 a (.head _)]
    rw [insert_mid x A B (fun b hb => h1 b (.tail _ hb)) h2]
    simp
theorem filter_all {α : Type} (f : α → Bool) (l : List α) (h : ∀ a ∈ l, f a = true) : l.filter f = l := List.filter_eq_self.2 h
theorem low_mem {c : Cm} {n i : Nat} (h : COk c n) {p : Lit × DataW Value} (hp : p ∈ (lst c i).map ent) : ∃ m : Nat, p.1 = .int .i64 m ∧ m < i := by
  obtain ⟨q, hq, rfl⟩ := List.mem_map.1 hp
  obtain ⟨j, hj, e⟩ := lst_mem hq
  exact ⟨j, by rw [ent, h.num j q e], hj⟩
theorem high_mem {c : Cm} {n i m : Nat} (h : COk c n) {p : Lit × DataW Value} (hp : p ∈ ((List.range' (i + 1) m).filterMap c).map ent) : ∃ m : Nat, p.1 = .int .i64 m ∧ i < m := by
  obtain ⟨q, hq, rfl⟩ := List.mem_map.1 hp
  obtain ⟨j, hj, e⟩ := List.mem_filterMap.1 hq
  have := List.mem_range'_1.1 hj
  exact ⟨j, by rw [ent, h.num j q e], by omega⟩
theorem same_i64 (a b : Int) : (Lit.int .i64 a).sameKey (.int .i64 b) = decide (a = b) := by simp [Lit.sameKey]
theorem before_i64 (a b : Int) : (Lit.int .i64 a).before (.int .i64 b) = decide (a < b) := by simp [Lit.before]
theorem struck {c : Cm} {n i : Nat} (h : COk c n) (hi : i < n) : ((lst c n).map ent).filter (fun p => !p.1.sameKey (.int .i64 i)) = (lst c i).map ent ++ ((List.range' (i + 1) (n - i - 1)).filterMap c).map ent := by
  rw [lst_split c n i hi, List.map_append, List.map_append, List.filter_append, List.filter_append]
  rw [filter_all _ ((lst c i).map ent) (fun p hp => by obtain ⟨m, e, hm⟩ := low_mem h hp; rw [e, same_i64]; simp; omega)]
  rw [filter_all _ (((List.range' (i + 1) (n - i - 1)).filterMap c).map ent) (fun p hp => by obtain ⟨m, e, hm⟩ := high_mem h hp; rw [e, same_i64]; simp; omega)]
  cases e : c i with
  | none => simp
  | some q => simp [ent, h.num i q e, same_i64]
theorem dat_del {c : Cm} {n i : Nat} (h : COk c n) (hi : i < n) : (dat c n).del (.int .i64 i) = dat (ups c i none) n := by
  show DataW.map (((lst c n).map ent).filter fun p => !p.1.sameKey (.int .i64 i)) = _
  rw [struck h hi, dat, lst_ups c n i none hi]
  simp
theorem dat_put {c : Cm} {n i : Nat} (h : COk c n) (hi : i < n) (q : Bk) (hq : q.n = (i : Int)) : (dat c n).put (.int .i64 i) (.held q.v) = dat (ups c i (some q)) n := by
  show DataW.map (DataW.insert _ (((lst c n).map ent).filter fun p => !p.1.sameKey (.int .i64 i))) = _
  rw [struck h hi, dat, lst_ups c n i (some q) hi, insert_mid]
  · simp [ent, hq]
  · intro p hp
    obtain ⟨m, e, hm⟩ := low_mem h hp
    rw [e, before_i64]; simp; omega
  · intro p hp
    obtain ⟨m, e, hm⟩ := high_mem h hp
    rw [e, before_i64]; simp; omega
theorem dat_find {c : Cm} {n i : Nat} (h : COk c n) : ((lst c n).map ent).find? (fun p => p.1.sameKey (.int .i64 i)) = (c i).map ent := by
  cases e : c i with
  | none =>
    rw [Option.map_none, List.find?_eq_none]
    intro p hp
    obtain ⟨q, hq, rfl⟩ := List.mem_map.1 hp
    obtain ⟨j, hj, ej⟩ := lst_mem hq
    rw [ent, h.num j q ej, same_i64]
    simp
    rintro hh
    have : j = i := by omega
    subst this
    rw [e] at ej; cases ej
  | some q =>
    have hi := h.hi i q e
    rw [lst_split c n i hi, List.map_append, List.find?_append, e]
    rw [List.find?_eq_none.2 (fun p hp => by obtain ⟨m, e, hm⟩ := low_mem h hp; rw [e, same_i64]; simp; omega)]
    simp [ent, h.num i q e, same_i64]
theorem dat_has {c : Cm} {n : Nat} (h : COk c n) (i : Nat) : Maps.has (dat c n) (.int .i64 i) = (c i).isSome := by
  show ((lst c n).map ent).any _ = _
  have := dat_find (i := i) h
  rw [← List.isSome_find?, this]
  cases c i <;> rfl
theorem dat_at {c : Cm} {n : Nat} (h : COk c n) (i : Nat) (z : DataW Value) : (dat c n).atKey (.int .i64 i) z = match c i with | some q => .held q.v | none => z := by
  simp only [dat, DataW.atKey]
  rw [dat_find h]
  cases c i <;> rfl
theorem dat_size (c : Cm) (n : Nat) : Maps.size (dat c n) = (lst c n).length := by simp [dat, Maps.size]
theorem lst_len_ups {c : Cm} {n i : Nat} (h : i < n) (q : Bk) : (lst (ups c i (some q)) n).length = (lst c n).length + (if (c i).isSome then 0 else 1) := by
  rw [lst_ups c n i _ h, lst_split c n i h]
  cases c i <;> simp <;> omega
theorem lst_none (n : Nat) : lst (fun _ => none) n = [] := by
  unfold lst
  induction n with
  | zero => rfl
  | succ n ih => rw [List.range_succ, List.filterMap_append, ih]; rfl
end Go.Proofs.YtgmccpimpbnnpaaDoor
