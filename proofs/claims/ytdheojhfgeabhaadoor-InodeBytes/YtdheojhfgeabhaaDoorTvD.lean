import Derived.Test.YtdheojhfgeabhaaDoorKTxF
import Derived.Test.YtdheojhfgeabhaaDoorTxE2
import Derived.Test.YtdheojhfgeabhaaDoorKGeM
import Derived.Test.YtdheojhfgeabhaaDoorKOp11
namespace Go.Proofs.YtdheojhfgeabhaaDoor
open Go.RowKit Go.Maps Rec

/-- what a transaction reads -/
def tv (D : Dk) (T : Tx) (i : Nat) : List Int := match T.c i with | some q => q.x | none => bck D.full i
def nM (n : Nat) : Nat := (n + 4095) / 4096
def nD (n : Nat) : Nat := 98 + nM n + n / 64
theorem gI_nat (n : Nat) : gI (n : Int) = ((98 + nM n : Nat) : Int) := by unfold gI nM; omega
theorem gD_nat (n : Nat) : gD (n : Int) = ((nD n : Nat) : Int) := by unfold gD nD; rw [gI_nat]; omega
theorem nM_bd {n : Nat} (h0 : 128 ≤ n) (h1 : n ≤ 16384) : 1 ≤ nM n ∧ nM n ≤ 4 ∧ n ≤ 4096 * nM n ∧ 98 + nM n < nD n ∧ nD n < n ∧ 4096 * nM n ≤ n + 4095 := by unfold nD nM; omega
/-- a session on a disk with a bitmap -/
structure Spc (w0 w : World) (D : Dk) (T : Tx) (n : Nat) : Prop where
  ses : Ses w0 w D T
  dn : D.down = false
  nb : T.nb = n
  lo : 128 ≤ n
  hi : n ≤ 16384
  ok : ∀ i, i < n → (tv D T i).length = 512 ∧ ∀ j, 0 ≤ nth (tv D T i) j ∧ nth (tv D T i) j < 256
theorem Spc.on {w0 w w' : World} {D : Dk} {T : Tx} {n : Nat} (h : Spc w0 w D T n) (hb : Below w.heap.size w w') : Spc w0 w' D T n := ⟨h.ses.on hb, h.dn, h.nb, h.lo, h.hi, h.ok⟩
theorem Spc.read {w0 w : World} {D : Dk} {T : Tx} {n : Nat} (h : Spc w0 w D T n) (i : Nat) (hi : i < n) :
    Calls Tryd.prog 29 #[.pointer (some ⟨T.t, 0, none⟩), .int .i64 (i : Int)] w fun e w' => ∃ g cap, e = .returned (.tuple #[.slice (some ⟨g, 0, none⟩) 512 cap, .int .i64 0]) ∧ w.heap.size ≤ g ∧ OwnB w' g cap (tv D T i) ∧ Below w.heap.size w w' :=
  tread_any w T D h.ses.tx h.ses.dk.disk h.ses.d h.ses.nb h.dn i (by rw [h.nb]; exact hi)
/-- what a put of a bitmap's block leaves -/
structure WrE (w0 w w' : World) (D : Dk) (T T' : Tx) (n a : Nat) (x : List Int) : Prop where
  mv : TMv w T w' T'
  spc : Spc w0 w' D T' n
  t : T'.t = T.t
  c : ∃ q : Bk, T'.c = ups T.c a (some q) ∧ q.x = x
  u : ∃ u : Un, T'.us = T.us ++ [u] ∧ u.i = a ∧ u.old = T.c a
structure PutE (w0 w w' : World) (D : Dk) (T T' : Tx) (n a : Nat) (x : List Int) (g : Nat) : Prop where
  mv : ∃ w1, Fr (fun k => k = g) w w1 ∧ TMv w1 T w' T'
  spc : Spc w0 w' D T' n
  t : T'.t = T.t
  c : ∃ q : Bk, T'.c = ups T.c a (some q) ∧ q.x = x
  u : ∃ u : Un, T'.us = T.us ++ [u] ∧ u.i = a ∧ u.old = T.c a
theorem tv_ups {D : Dk} {T T' : Tx} {a : Nat} {q : Bk} (hc : T'.c = ups T.c a (some q)) (j : Nat) : tv D T' j = if j = a then q.x else tv D T j := by
  unfold tv
  rw [hc]
  by_cases e : j = a
  · subst e; rw [ups_same, if_pos rfl]
  · rw [ups_other _ _ e, if_neg e]
theorem Spc.write {w0 w : World} {D : Dk} {T : Tx} {n : Nat} (h : Spc w0 w D T n) (a : Nat) (h0 : 98 ≤ a) (h1 : a < n) (p : Addr) (c : Nat) (x : List Int) (hb : Bytes w (some p) x) (hx : x.length = 512) (hr : (T.c a).isSome = true ∨ (lst T.c n).length < 96) (hu : T.us.length + 1 ≤ 1000000) :
    Calls Tryd.prog 30 #[.pointer (some ⟨T.t, 0, none⟩), .int .i64 (a : Int), .slice (some p) 512 c] w fun e w' => e = .returned (.int .i64 0) ∧ ∃ T', WrE w0 w w' D T T' n a x := by
  refine (ses_write w0 w D T h.ses a h0 (by rw [h.nb]; exact h1) p c x hb hx (by rw [h.nb]; exact hr) hu).mono ?_
  rintro e w' ⟨rfl, T', q, u, hs, hm, hq, hn, hc, hus, hi, ho⟩
  refine ⟨rfl, T', hm, ⟨hs, h.dn, hm.nb.trans h.nb, h.lo, h.hi, fun i hi => ?_⟩, hm.t, ⟨q, hc, hq⟩, ⟨u, hus, hi, ho⟩⟩
  rw [tv_ups hc]
  split
  · rw [hq]; exact ⟨hx, hb.wf⟩
  · exact h.ok i hi
theorem Ses.fr {S : Nat → Prop} {w0 w w' : World} {D : Dk} {T : Tx} (h : Ses w0 w D T) (x : Fr S w w') (h0 : ∀ k, S k → w0.heap.size ≤ k) (h1 : ∀ k, T.all k → ¬ S k) (h2 : ∀ k, D.all k → ¬ S k) : Ses w0 w' D T :=
  ⟨⟨h.dk.disk.fr x h2, h.dk.far, h.dk.bel.trans (x.below _ h0 h.dk.bel.size)⟩, h.tx.fr x h1, h.d, h.nb, h.ap1, h.ap2, h.far⟩
/-- a box that is none of the session's may be filled -/
theorem Spc.box {w0 w wb : World} {D : Dk} {T T' : Tx} {n L k : Nat} (hS : Spc w0 w D T n) (h : Spc w0 wb D T' n) (al : ∀ k, T'.all k → T.all k ∨ L ≤ k) (h1 : w.heap.size ≤ k) (h2 : k < L) (v : Value) : Spc w0 (wb.setCell ⟨k, 0, none⟩ v) D T' n := by
  refine ⟨h.ses.fr (Fr.set (g := k)) (fun j hj => ?_) (fun j hj e => ?_) (fun j hj e => ?_), h.dn, h.nb, h.lo, h.hi, h.ok⟩
  · have hj : j = k := hj
    have := hS.ses.bel.size
    omega
  · have e : j = k := e
    rcases al j hj with h9 | h9
    · have := hS.ses.tx.lt h9; omega
    · omega
  · have e : j = k := e
    have := hS.ses.dk.disk.allLt hj
    omega
theorem makeN (m : Nat) (hm : m ≤ 100000000) : ∃ o : Obj, (∀ w : World, (Instr.makeSlice 25 (.int .i64 (m : Int)) (.int .i64 (m : Int))).run Tryd.prog w = .ok (.slice (some ⟨w.heap.size, 0, none⟩) m m) (w.alloc o)) ∧ ∀ w : World, OwnB (w.alloc o) w.heap.size m (zn m) := by
  obtain ⟨i0, hi, hz0, hz1, hz2⟩ := info_parts info5
  refine ⟨.cells (madeCells #[.int .u8 0] m) 5, fun w => run_make_row (P := Tryd.prog) 25 5 i0 _ Tryd.underlying25 hi hz0 hz1 rfl .i64 .i64 m (by rw [hz2]; omega) (by omega) w, fun w => ?_⟩
  refine ⟨⟨_, heap_alloc_new _ _, ?_, ?_⟩, ?_, ?_, ?_, wf_rep m 0 (by omega)⟩
  · rw [← Array.length_toList, made_list, List.length_replicate]
  · rw [made_list, zn_length, zn, List.map_replicate, List.take_replicate, Nat.min_self]
  · rw [zn_length]; omega
  · rw [zn_length]; omega
  · unfold maxLen; omega
def GeoAt (w : World) (p n : Nat) : Prop := w.heap[p]? = some (.cells #[.int .i64 (n : Int), .int .i64 98, .int .i64 (gI n), .int .i64 (gD n), .int .i64 (gC n)] 40 (0, 0))
theorem GeoAt.cells {w : World} {p n : Nat} (h : GeoAt w p n) : w.cell? ⟨p, 0, none⟩ = some (.int .i64 (n : Int)) ∧ w.cell? ⟨p, 1, none⟩ = some (.int .i64 98) ∧ w.cell? ⟨p, 2, none⟩ = some (.int .i64 (gI n)) ∧ w.cell? ⟨p, 3, none⟩ = some (.int .i64 (gD n)) ∧ w.cell? ⟨p, 4, none⟩ = some (.int .i64 (gC n)) := by
  have hc := fun j => cell_of_row _ _ j _ _ _ h
  exact ⟨hc 0, hc 1, hc 2, hc 3, hc 4⟩
theorem GeoAt.on {w w' : World} {p n : Nat} (h : GeoAt w p n) (hb : Below w.heap.size w w') : GeoAt w' p n := (hb.block p (heap_lt h)).trans h
end Go.Proofs.YtdheojhfgeabhaaDoor
