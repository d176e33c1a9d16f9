import Derived.Test.YtdheojhfgeabhaaDoorKWRo
import Derived.Test.YtdheojhfgeabhaaDoorKWLa
namespace Go.Proofs.YtdheojhfgeabhaaDoor
open Go.RowKit Go.Maps Rec

/-- a map's element is told as it is -/
def rel (v : Value) : Option (DataW Value × List MemPlace) := some (.held v, [])
def MapAt (w : World) (b : Nat) (c : Cm) (nb : Nat) : Prop := w.ownsMap Tryd.prog 3 rel b 1000 (dat c nb)
def optV : Option Bk → Value
  | some q => q.v
  | none => .slice none 0 0
theorem keyedI : Keyed Tryd.prog 3 := int_keyed Tryd.underlying3
theorem wf_nat (i : Nat) (hi : i ≤ 16384) : (Lit.int .i64 (i : Int)).wf = true := WalkArith.wf_i64 (by omega)
theorem key_mk (i : Nat) (hi : i ≤ 16384) : keyOf Tryd.prog 3 (.int .i64 (i : Int)) = some (.int .i64 (i : Int)) := keyOf_int_mk Tryd.underlying3 (wf_nat i hi)
theorem zeroBs (w : World) : (zeroValue 25).run Tryd.prog w = .ok (.slice none 0 0) w := by kernel_rfl
theorem MapAt.fr {S : Nat → Prop} {w w' : World} {b nb : Nat} {c : Cm} (h : MapAt w b c nb) (x : Fr S w w') (hb : ¬ S b) : MapAt w' b c nb := by
  obtain ⟨es, clock, h1, h2, h3, h4⟩ := h
  exact ⟨es, clock, x.heap h1 hb, h2, h3, h4⟩
theorem MapAt.on {w w' : World} {b nb : Nat} {c : Cm} (h : MapAt w b c nb) (x : Below w.heap.size w w') : MapAt w' b c nb := h.fr (below_fr x (fun _ => False)) (fun e => e)
theorem MapAt.lt {w : World} {b nb : Nat} {c : Cm} (h : MapAt w b c nb) : b < w.heap.size := by
  obtain ⟨es, clock, h1, h2, h3, h4⟩ := h
  exact heap_lt h1
theorem rel_inv {v u : Value} {ps : List MemPlace} (h : rel v = some (.held u, ps)) : v = u := by
  simp [rel] at h; exact h.1
theorem at_optV {c : Cm} {n : Nat} (h : COk c n) (i : Nat) : (dat c n).atKey (.int .i64 i) (.held (.slice none 0 0)) = .held (optV (c i)) := by
  rw [dat_at h]
  cases c i <;> rfl
theorem MapAt.look {w : World} {b nb : Nat} {c : Cm} (h : MapAt w b c nb) (ok : COk c nb) (i : Nat) (hi : i ≤ 16384) :
    (Instr.lookup 62 (.map (some b)) (.int .i64 (i : Int)) true).run Tryd.prog w = .ok (.tuple #[optV (c i), .bool (c i).isSome]) w := by
  obtain ⟨v, ps, hr, hv⟩ := World.ownsMap.look_ok h keyedI Tryd.underlying62 (zeroBs w) (zd := .held (.slice none 0 0)) (zp := []) rfl (key_mk i hi)
  rw [at_optV ok] at hv
  rw [rel_inv hv, dat_has ok] at hr
  exact hr
theorem MapAt.look1 {w : World} {b nb : Nat} {c : Cm} (h : MapAt w b c nb) (ok : COk c nb) (i : Nat) (hi : i ≤ 16384) :
    (Instr.lookup 62 (.map (some b)) (.int .i64 (i : Int)) false).run Tryd.prog w = .ok (optV (c i)) w := by
  obtain ⟨v, ps, hr, hv⟩ := World.ownsMap.lookup h keyedI Tryd.underlying62 (zeroBs w) (zd := .held (.slice none 0 0)) (zp := []) rfl (key_mk i hi)
  rw [at_optV ok] at hv
  rw [rel_inv hv] at hr
  exact hr
theorem MapAt.len {w : World} {b nb : Nat} {c : Cm} (h : MapAt w b c nb) (ty : TypeId) : (Builtin.len_ #[62] ty #[.map (some b)]).run Tryd.prog w = .ok (.int .i64 ((lst c nb).length : Nat)) w := by
  have := World.ownsMap.len h Tryd.underlying62 ty
  rwa [dat_size] at this
theorem tight {w : World} {b n : Nat} {D : DataW Value} (h : w.ownsMap Tryd.prog 3 rel b n D) (hs : Maps.size D ≤ 1000) : w.ownsMap Tryd.prog 3 rel b 1000 D := by
  obtain ⟨es, clock, h1, h2, h3, h4⟩ := h
  refine ⟨es, clock, h1, h2, ?_, h4⟩
  rw [h4] at hs
  simp only [Maps.size] at hs
  rwa [length_read] at hs
theorem turned_fr {w w' : World} {b : Nat} (h : w.mapTurned w' b) : Fr (fun k => k = b) w w' := by
  obtain ⟨es, clock, es', clock', h1, rfl⟩ := h
  refine ⟨rfl, rfl, rfl, by simp [ChangeMaps.setBlock], fun k hk hS => ?_⟩
  have : k ≠ b := hS
  simp [ChangeMaps.setBlock, Ne.symm this]
theorem MapAt.store {w : World} {b nb i : Nat} {c : Cm} (h : MapAt w b c nb) (ok : COk c nb) (hi : i < nb) (hn : nb ≤ 16384) (q : Bk) (hq : q.n = (i : Int)) (hs : (lst (ups c i (some q)) nb).length ≤ 1000) :
    ∃ w', (Instr.mapUpdate 62 (.map (some b)) (.int .i64 (i : Int)) q.v).run Tryd.prog w = .ok () w' ∧ MapAt w' b (ups c i (some q)) nb ∧ Fr (fun k => k = b) w w' := by
  obtain ⟨w', hr, h1, h2⟩ := World.ownsMap.store h keyedI Tryd.underlying62 (by unfold maxLen; omega) (key_mk i (by omega)) (val := q.v) (d := .held q.v) (ps := []) rfl
  rw [dat_put ok hi q hq] at h1
  exact ⟨w', hr, tight h1 (by rw [dat_size]; exact hs), turned_fr h2⟩
theorem MapAt.drop {w : World} {b nb i : Nat} {c : Cm} (h : MapAt w b c nb) (ok : COk c nb) (hi : i < nb) (hn : nb ≤ 16384) (ty : TypeId) :
    ∃ w', (Builtin.delete_ #[62, 3] ty #[.map (some b), .int .i64 (i : Int)]).run Tryd.prog w = .ok (.tuple #[]) w' ∧ MapAt w' b (ups c i none) nb ∧ Fr (fun k => k = b) w w' := by
  obtain ⟨w', hr, h1, h2⟩ := World.ownsMap.drop h keyedI Tryd.underlying62 (key_mk i (by omega)) ty
  rw [dat_del ok hi] at h1
  exact ⟨w', hr, h1, turned_fr h2⟩

/-- an undo step: where its four variables lie; the number, what stood there -/
structure Un where
  bw : Nat
  bb : Nat
  bt : Nat
  bi : Nat
  i : Nat
  old : Option Bk
def Un.v (u : Un) : Value := .func (.func 46) #[] #[.pointer (some ⟨u.bw, 0, none⟩), .pointer (some ⟨u.bb, 0, none⟩), .pointer (some ⟨u.bt, 0, none⟩), .pointer (some ⟨u.bi, 0, none⟩)]
def Un.all (u : Un) (k : Nat) : Prop := k = u.bw ∨ k = u.bb ∨ k = u.bt ∨ k = u.bi ∨ ∃ q, u.old = some q ∧ q.g = k
structure UnAt (w : World) (t : Nat) (u : Un) : Prop where
  cw : w.cell? ⟨u.bw, 0, none⟩ = some (.bool u.old.isSome)
  cb : w.cell? ⟨u.bb, 0, none⟩ = some (optV u.old)
  ct : w.cell? ⟨u.bt, 0, none⟩ = some (.pointer (some ⟨t, 0, none⟩))
  ci : w.cell? ⟨u.bi, 0, none⟩ = some (.int .i64 (u.i : Int))
  blk : ∀ q, u.old = some q → BlkAt w q.g q.x
theorem UnAt.fr {S : Nat → Prop} {w w' : World} {t : Nat} {u : Un} (h : UnAt w t u) (x : Fr S w w') (hS : ∀ k, u.all k → ¬ S k) : UnAt w' t u :=
  ⟨x.cell h.cw (hS _ (.inl rfl)), x.cell h.cb (hS _ (.inr (.inl rfl))), x.cell h.ct (hS _ (.inr (.inr (.inl rfl)))), x.cell h.ci (hS _ (.inr (.inr (.inr (.inl rfl))))), fun q hq => (h.blk q hq).fr x (hS _ (.inr (.inr (.inr (.inr ⟨q, hq, rfl⟩)))))⟩
theorem UnAt.lt {w : World} {t : Nat} {u : Un} (h : UnAt w t u) {k : Nat} (hk : u.all k) : k < w.heap.size := by
  rcases hk with rfl | rfl | rfl | rfl | ⟨q, hq, rfl⟩
  · exact block_lt_of_cell h.cw
  · exact block_lt_of_cell h.cb
  · exact block_lt_of_cell h.ct
  · exact block_lt_of_cell h.ci
  · exact (h.blk q hq).lt
/-- a transaction -/
structure Tx where
  t : Nat
  d : Nat
  mb : Nat
  nb : Nat
  c : Cm
  uv : Value
  us : List Un
def Tx.has (T : Tx) (k : Nat) : Prop := k = T.t ∨ k = T.mb ∨ T.uv.ownBlock = some k
def Tx.held (T : Tx) (k : Nat) : Prop := (∃ i q, T.c i = some q ∧ q.g = k) ∨ ∃ u, u ∈ T.us ∧ u.all k
def Tx.all (T : Tx) (k : Nat) : Prop := T.has k ∨ T.held k
def Tx.cells (T : Tx) : Array Value := #[.pointer (some ⟨T.d, 0, none⟩), .map (some T.mb), T.uv, .bool false]
structure TxAt (w : World) (T : Tx) : Prop where
  row : w.heap[T.t]? = some (.cells T.cells 65 (0, 0))
  map : MapAt w T.mb T.c T.nb
  ok : COk T.c T.nb
  blk : ∀ i q, T.c i = some q → BlkAt w q.g q.x
  und : w.ownsRow 0 1 1 T.uv T.us.length (T.us.map Un.v)
  una : ∀ u ∈ T.us, UnAt w T.t u
  unb : ∀ u ∈ T.us, 98 ≤ u.i ∧ u.i < T.nb ∧ ∀ q, u.old = some q → q.n = (u.i : Int)
  ap1 : T.t ≠ T.mb
  ap2 : ∀ k, T.uv.ownBlock = some k → k ≠ T.t ∧ k ≠ T.mb
  ap3 : ∀ k, T.held k → ¬ T.has k
  ul : T.us.length ≤ 1000000
  n16 : T.nb ≤ 16384
  cnt : (lst T.c T.nb).length ≤ 96
theorem TxAt.fr {S : Nat → Prop} {w w' : World} {T : Tx} (h : TxAt w T) (x : Fr S w w') (hS : ∀ k, T.all k → ¬ S k) : TxAt w' T where
  row := x.heap h.row (hS _ (.inl (.inl rfl)))
  map := h.map.fr x (hS _ (.inl (.inr (.inl rfl))))
  ok := h.ok
  blk := fun i q hq => (h.blk i q hq).fr x (hS _ (.inr (.inl ⟨i, q, hq, rfl⟩)))
  und := owns_fr h.und x (fun k hk => hS k (.inl (.inr (.inr hk))))
  una := fun u hu => (h.una u hu).fr x (fun k hk => hS k (.inr (.inr ⟨u, hu, hk⟩)))
  unb := h.unb
  ap1 := h.ap1
  ap2 := h.ap2
  ap3 := h.ap3
  ul := h.ul
  n16 := h.n16
  cnt := h.cnt
theorem TxAt.on {w w' : World} {T : Tx} (h : TxAt w T) (x : Below w.heap.size w w') : TxAt w' T := h.fr (below_fr x (fun _ => False)) (fun _ _ e => e)
theorem TxAt.lt {w : World} {T : Tx} (h : TxAt w T) {k : Nat} (hk : T.all k) : k < w.heap.size := by
  rcases hk with (rfl | rfl | hk) | ⟨i, q, hq, rfl⟩ | ⟨u, hu, hk⟩
  · exact heap_lt h.row
  · exact h.map.lt
  · exact owns_block h.und hk
  · exact (h.blk i q hq).lt
  · exact (h.una u hu).lt hk
theorem TxAt.cell {w : World} {T : Tx} (h : TxAt w T) (j : Nat) : w.cell? ⟨T.t, j, none⟩ = T.cells[j]? := cell_of_row _ _ _ _ _ _ h.row
/-- a transaction that is over -/
def OverAt (w : World) (t : Nat) : Prop := w.heap[t]? = some (.cells #[.pointer none, .map none, .slice none 0 0, .bool true] 65 (0, 0))
/-- what a call does to a transaction -/
structure TMv (w : World) (T : Tx) (w' : World) (T' : Tx) : Prop where
  fr : Fr T.has w w'
  al : ∀ k, T'.all k → T.all k ∨ w.heap.size ≤ k
  has : ∀ k, T'.has k → T.has k ∨ w.heap.size ≤ k
  t : T'.t = T.t
  d : T'.d = T.d
  nb : T'.nb = T.nb
theorem TMv.refl (w : World) (T : Tx) : TMv w T w T := ⟨Fr.refl _ _, fun _ h => .inl h, fun _ h => .inl h, rfl, rfl, rfl⟩
theorem TMv.on {w w' : World} {T : Tx} (x : Below w.heap.size w w') : TMv w T w' T := ⟨below_fr x _, fun _ h => .inl h, fun _ h => .inl h, rfl, rfl, rfl⟩
theorem TMv.trans {w w' w'' : World} {T T' T'' : Tx} (x : TMv w T w' T') (y : TMv w' T' w'' T'') : TMv w T w'' T'' :=
  ⟨x.fr.trans y.fr x.has, fun k hk => (y.al k hk).elim (x.al k) (fun e => .inr (Nat.le_trans x.fr.size e)), fun k hk => (y.has k hk).elim (x.has k) (fun e => .inr (Nat.le_trans x.fr.size e)), y.t.trans x.t, y.d.trans x.d, y.nb.trans x.nb⟩
/-- a transaction of one's own -/
structure TMine (w0 w : World) (T : Tx) : Prop where
  at_ : TxAt w T
  far : ∀ k, T.all k → w0.heap.size ≤ k
  bel : Below w0.heap.size w0 w
theorem TMine.on {w0 w w' : World} {T : Tx} (h : TMine w0 w T) (hb : Below w.heap.size w w') : TMine w0 w' T := ⟨h.at_.on hb, h.far, h.bel.trans (hb.mono h.bel.size)⟩
theorem TMine.step {w0 w w' : World} {T T' : Tx} (h : TMine w0 w T) (ht : TxAt w' T') (hm : TMv w T w' T') : TMine w0 w' T' :=
  ⟨ht, fun k hk => (hm.al k hk).elim (h.far k) (fun e => Nat.le_trans h.bel.size e), h.bel.trans (hm.fr.below _ (fun k hk => h.far k (.inl hk)) h.bel.size)⟩
end Go.Proofs.YtdheojhfgeabhaaDoor
