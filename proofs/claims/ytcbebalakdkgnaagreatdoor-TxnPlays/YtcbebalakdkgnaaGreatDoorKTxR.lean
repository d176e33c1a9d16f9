import Derived.Test.YtcbebalakdkgnaaGreatDoorKWRe
import Derived.Shelf.SlIterI.Nil
import Derived.Shelf.SortM.Plain
import Derived.Shelf.SortM.SortNone
import Derived.Ground.GgzProg
import Derived.Ground.SlgmProg
import Derived.Test.YtcbebalakdkgnaaGreatDoorProg
import Derived.Test.YtcbebalakdkgnaaGreatDoorKAMake
namespace Go.Proofs.YtcbebalakdkgnaaGreatDoor
open Go.RowKit Go.Maps Rec

/-- a map's element is told as it is -/
def rel (v : Value) : Option (DataW Value × List MemPlace) := some (.held v, [])
def MapAt (w : World) (b : Nat) (c : Cm) (nb : Nat) : Prop := w.ownsMap Tryz.prog 3 rel b 20000 (dat c nb)
def optV : Option Bk → Value
  | some q => q.v
  | none => .slice none 0 0
theorem keyedI : Keyed Tryz.prog 3 := int_keyed Tryz.underlying3
theorem wf_nat (i : Nat) (hi : i ≤ 16384) : (Lit.int .i64 (i : Int)).wf = true := WalkArith.wf_i64 (by omega)
theorem key_mk (i : Nat) (hi : i ≤ 16384) : keyOf Tryz.prog 3 (.int .i64 (i : Int)) = some (.int .i64 (i : Int)) := keyOf_int_mk Tryz.underlying3 (wf_nat i hi)
theorem zeroBs (w : World) : (zeroValue 42).run Tryz.prog w = .ok (.slice none 0 0) w := by kernel_rfl
theorem MapAt.fr {S : Nat → Prop} {w w' : World} {b nb : Nat} {c : Cm} (h : MapAt w b c nb) (x : Fr S w w') (hb : ¬ S b) : MapAt w' b c nb := by
  obtain ⟨es, clock, h1, h2, h3, h4⟩ := h
  exact ⟨es, clock, x.heap h1 hb, h2, h3, h4⟩
theorem MapAt.on {w w' : World} {b nb : Nat} {c : Cm} (h : MapAt w b c nb) (x : Below w.heap.size w w') : MapAt w' b c nb := h.fr (below_fr x (fun _ => False)) (fun e => e)
theorem MapAt.lt {w : World} {b nb : Nat} {c : Cm} (h : MapAt w b c nb) : b < w.heap.size := by
  obtain ⟨es, clock, h1, h2, h3, h4⟩ := h
  exact heap_lt h1
theorem rel_inv {v u : Value} {ps : List MemPlace} (h : rel v = some (.held u, ps)) : v = u := by
  simp [rel] at h; exact h.1
theorem at_optV {c : Cm} {n : Nat} (h : COk c n) (i : Nat) : (dat c n).atKey (.int .i64 i) (.held (.slice none 0 0)) = .held (optV (c i)) := by
  rw [dat_at h]
  cases c i <;> rfl
theorem MapAt.look {w : World} {b nb : Nat} {c : Cm} (h : MapAt w b c nb) (ok : COk c nb) (i : Nat) (hi : i ≤ 16384) :
    (Instr.lookup 73 (.map (some b)) (.int .i64 (i : Int)) true).run Tryz.prog w = .ok (.tuple #[optV (c i), .bool (c i).isSome]) w := by
  obtain ⟨v, ps, hr, hv⟩ := World.ownsMap.look_ok h keyedI Tryz.underlying73 (zeroBs w) (zd := .held (.slice none 0 0)) (zp := []) rfl (key_mk i hi)
  rw [at_optV ok] at hv
  rw [rel_inv hv, dat_has ok] at hr
  exact hr
theorem MapAt.look1 {w : World} {b nb : Nat} {c : Cm} (h : MapAt w b c nb) (ok : COk c nb) (i : Nat) (hi : i ≤ 16384) :
    (Instr.lookup 73 (.map (some b)) (.int .i64 (i : Int)) false).run Tryz.prog w = .ok (optV (c i)) w := by
  obtain ⟨v, ps, hr, hv⟩ := World.ownsMap.lookup h keyedI Tryz.underlying73 (zeroBs w) (zd := .held (.slice none 0 0)) (zp := []) rfl (key_mk i hi)
  rw [at_optV ok] at hv
  rw [rel_inv hv] at hr
  exact hr
theorem MapAt.len {w : World} {b nb : Nat} {c : Cm} (h : MapAt w b c nb) (ty : TypeId) : (Builtin.len_ #[73] ty #[.map (some b)]).run Tryz.prog w = .ok (.int .i64 ((lst c nb).length : Nat)) w := by
  have := World.ownsMap.len h Tryz.underlying73 ty
  rwa [dat_size] at this
theorem tight {w : World} {b n : Nat} {D : DataW Value} (h : w.ownsMap Tryz.prog 3 rel b n D) (hs : Maps.size D ≤ 20000) : w.ownsMap Tryz.prog 3 rel b 20000 D := by
  obtain ⟨es, clock, h1, h2, h3, h4⟩ := h
  refine ⟨es, clock, h1, h2, ?_, h4⟩
  rw [h4] at hs
  simp only [Maps.size] at hs
  rwa [length_read] at hs
theorem turned_fr {w w' : World} {b : Nat} (h : w.mapTurned w' b) : Fr (fun k => k = b) w w' := by
  obtain ⟨es, clock, es', clock', h1, rfl⟩ := h
  refine ⟨rfl, rfl, rfl, by simp [ChangeMaps.setBlock], fun k hk hS => ?_⟩
  have : k ≠ b := hS
  simp [ChangeMaps.setBlock, Ne.symm this]
theorem MapAt.store {w : World} {b nb i : Nat} {c : Cm} (h : MapAt w b c nb) (ok : COk c nb) (hi : i < nb) (hn : nb ≤ 16384) (q : Bk) (hq : q.n = (i : Int)) (hs : (lst (ups c i (some q)) nb).length ≤ 20000) :
    ∃ w', (Instr.mapUpdate 73 (.map (some b)) (.int .i64 (i : Int)) q.v).run Tryz.prog w = .ok () w' ∧ MapAt w' b (ups c i (some q)) nb ∧ Fr (fun k => k = b) w w' := by
  obtain ⟨w', hr, h1, h2⟩ := World.ownsMap.store h keyedI Tryz.underlying73 (by unfold maxLen; omega) (key_mk i (by omega)) (val := q.v) (d := .held q.v) (ps := []) rfl
  rw [dat_put ok hi q hq] at h1
  exact ⟨w', hr, tight h1 (by rw [dat_size]; exact hs), turned_fr h2⟩
theorem MapAt.drop {w : World} {b nb i : Nat} {c : Cm} (h : MapAt w b c nb) (ok : COk c nb) (hi : i < nb) (hn : nb ≤ 16384) (ty : TypeId) :
    ∃ w', (Builtin.delete_ #[73, 3] ty #[.map (some b), .int .i64 (i : Int)]).run Tryz.prog w = .ok (.tuple #[]) w' ∧ MapAt w' b (ups c i none) nb ∧ Fr (fun k => k = b) w w' := by
  obtain ⟨w', hr, h1, h2⟩ := World.ownsMap.drop h keyedI Tryz.underlying73 (key_mk i (by omega)) ty
  rw [dat_del ok hi] at h1
  exact ⟨w', hr, h1, turned_fr h2⟩

/-- an undo step: where its four variables lie; the number, what stood there -/
structure Un where
  bw : Nat
  bb : Nat
  bt : Nat
  bi : Nat
  i : Nat
  old : Option Bk
def Un.v (u : Un) : Value := .func (.func 64) #[] #[.pointer (some ⟨u.bw, 0, none⟩), .pointer (some ⟨u.bb, 0, none⟩), .pointer (some ⟨u.bt, 0, none⟩), .pointer (some ⟨u.bi, 0, none⟩)]
def Un.all (u : Un) (k : Nat) : Prop := k = u.bw ∨ k = u.bb ∨ k = u.bt ∨ k = u.bi ∨ ∃ q, u.old = some q ∧ q.g = k
structure UnAt (w : World) (t : Nat) (u : Un) : Prop where
  cw : w.cell? ⟨u.bw, 0, none⟩ = some (.bool u.old.isSome)
  cb : w.cell? ⟨u.bb, 0, none⟩ = some (optV u.old)
  ct : w.cell? ⟨u.bt, 0, none⟩ = some (.pointer (some ⟨t, 0, none⟩))
  ci : w.cell? ⟨u.bi, 0, none⟩ = some (.int .i64 (u.i : Int))
  blk : ∀ q, u.old = some q → BlkAt w q.g q.x
theorem UnAt.fr {S : Nat → Prop} {w w' : World} {t : Nat} {u : Un} (h : UnAt w t u) (x : Fr S w w') (hS : ∀ k, u.all k → ¬ S k) : UnAt w' t u :=
  ⟨x.cell h.cw (hS _ (.inl rfl)), x.cell h.cb (hS _ (.inr (.inl rfl))), x.cell h.ct (hS _ (.inr (.inr (.inl rfl)))), x.cell h.ci (hS _ (.inr (.inr (.inr (.inl rfl))))), fun q hq => (h.blk q hq).fr x (hS _ (.inr (.inr (.inr (.inr ⟨q, hq, rfl⟩)))))⟩
theorem UnAt.lt {w : World} {t : Nat} {u : Un} (h : UnAt w t u) {k : Nat} (hk : u.all k) : k < w.heap.size := by
  rcases hk with rfl | rfl | rfl | rfl | ⟨q, hq, rfl⟩
  · exact block_lt_of_cell h.cw
  · exact block_lt_of_cell h.cb
  · exact block_lt_of_cell h.ct
  · exact block_lt_of_cell h.ci
  · exact (h.blk q hq).lt
/-- a transaction -/
structure Tx where
  t : Nat
  d : Nat
  mb : Nat
  nb : Nat
  c : Cm
  uv : Value
  us : List Un
def Tx.has (T : Tx) (k : Nat) : Prop := k = T.t ∨ k = T.mb ∨ T.uv.ownBlock = some k
def Tx.held (T : Tx) (k : Nat) : Prop := (∃ i q, T.c i = some q ∧ q.g = k) ∨ ∃ u, u ∈ T.us ∧ u.all k
def Tx.all (T : Tx) (k : Nat) : Prop := T.has k ∨ T.held k
def Tx.cells (T : Tx) : Array Value := #[.pointer (some ⟨T.d, 0, none⟩), .map (some T.mb), T.uv, .bool false]
structure TxAt (w : World) (T : Tx) : Prop where
  row : w.heap[T.t]? = some (.cells T.cells 76 (0, 0))
  map : MapAt w T.mb T.c T.nb
  ok : COk T.c T.nb
  blk : ∀ i q, T.c i = some q → BlkAt w q.g q.x
  und : w.ownsRow 0 1 1 T.uv T.us.length (T.us.map Un.v)
  una : ∀ u ∈ T.us, UnAt w T.t u
  unb : ∀ u ∈ T.us, 98 ≤ u.i ∧ u.i < T.nb ∧ ∀ q, u.old = some q → q.n = (u.i : Int)
  ap1 : T.t ≠ T.mb
  ap2 : ∀ k, T.uv.ownBlock = some k → k ≠ T.t ∧ k ≠ T.mb
  ap3 : ∀ k, T.held k → ¬ T.has k
  ul : T.us.length ≤ 4000000
  n16 : T.nb ≤ 16384
  cnt : (lst T.c T.nb).length ≤ 96
theorem TxAt.fr {S : Nat → Prop} {w w' : World} {T : Tx} (h : TxAt w T) (x : Fr S w w') (hS : ∀ k, T.all k → ¬ S k) : TxAt w' T where
  row := x.heap h.row (hS _ (.inl (.inl rfl)))
  map := h.map.fr x (hS _ (.inl (.inr (.inl rfl))))
  ok := h.ok
  blk := fun i q hq => (h.blk i q hq).fr x (hS _ (.inr (.inl ⟨i, q, hq, rfl⟩)))
  und := owns_fr h.und x (fun k hk => hS k (.inl (.inr (.inr hk))))
  una := fun u hu => (h.una u hu).fr x (fun k hk => hS k (.inr (.inr ⟨u, hu, hk⟩)))
  unb := h.unb
  ap1 := h.ap1
  ap2 := h.ap2
  ap3 := h.ap3
  ul := h.ul
  n16 := h.n16
  cnt := h.cnt
theorem TxAt.on {w w' : World} {T : Tx} (h : TxAt w T) (x : Below w.heap.size w w') : TxAt w' T := h.fr (below_fr x (fun _ => False)) (fun _ _ e => e)
theorem TxAt.lt {w : World} {T : Tx} (h : TxAt w T) {k : Nat} (hk : T.all k) : k < w.heap.size := by
  rcases hk with (rfl | rfl | hk) | ⟨i, q, hq, rfl⟩ | ⟨u, hu, hk⟩
  · exact heap_lt h.row
  · exact h.map.lt
  · exact owns_block h.und hk
  · exact (h.blk i q hq).lt
  · exact (h.una u hu).lt hk
theorem TxAt.cell {w : World} {T : Tx} (h : TxAt w T) (j : Nat) : w.cell? ⟨T.t, j, none⟩ = T.cells[j]? := cell_of_row _ _ _ _ _ _ h.row
/-- a transaction that is over -/
def OverAt (w : World) (t : Nat) : Prop := w.heap[t]? = some (.cells #[.pointer none, .map none, .slice none 0 0, .bool true] 76 (0, 0))
/-- what a call does to a transaction -/
structure TMv (w : World) (T : Tx) (w' : World) (T' : Tx) : Prop where
  fr : Fr T.has w w'
  al : ∀ k, T'.all k → T.all k ∨ w.heap.size ≤ k
  has : ∀ k, T'.has k → T.has k ∨ w.heap.size ≤ k
  t : T'.t = T.t
  d : T'.d = T.d
  nb : T'.nb = T.nb
theorem TMv.refl (w : World) (T : Tx) : TMv w T w T := ⟨Fr.refl _ _, fun _ h => .inl h, fun _ h => .inl h, rfl, rfl, rfl⟩
theorem TMv.on {w w' : World} {T : Tx} (x : Below w.heap.size w w') : TMv w T w' T := ⟨below_fr x _, fun _ h => .inl h, fun _ h => .inl h, rfl, rfl, rfl⟩
theorem TMv.trans {w w' w'' : World} {T T' T'' : Tx} (x : TMv w T w' T') (y : TMv w' T' w'' T'') : TMv w T w'' T'' :=
  ⟨x.fr.trans y.fr x.has, fun k hk => (y.al k hk).elim (x.al k) (fun e => .inr (Nat.le_trans x.fr.size e)), fun k hk => (y.has k hk).elim (x.has k) (fun e => .inr (Nat.le_trans x.fr.size e)), y.t.trans x.t, y.d.trans x.d, y.nb.trans x.nb⟩
/-- a transaction of one's own -/
structure TMine (w0 w : World) (T : Tx) : Prop where
  at_ : TxAt w T
  far : ∀ k, T.all k → w0.heap.size ≤ k
  bel : Below w0.heap.size w0 w
theorem TMine.on {w0 w w' : World} {T : Tx} (h : TMine w0 w T) (hb : Below w.heap.size w w') : TMine w0 w' T := ⟨h.at_.on hb, h.far, h.bel.trans (hb.mono h.bel.size)⟩
theorem TMine.step {w0 w w' : World} {T T' : Tx} (h : TMine w0 w T) (ht : TxAt w' T') (hm : TMv w T w' T') : TMine w0 w' T' :=
  ⟨ht, fun k hk => (hm.al k hk).elim (h.far k) (fun e => Nat.le_trans h.bel.size e), h.bel.trans (hm.fr.below _ (fun k hk => h.far k (.inl hk)) h.bel.size)⟩
end Go.Proofs.YtcbebalakdkgnaaGreatDoor

namespace Go.Proofs.YtcbebalakdkgnaaGreatDoor
open Go.Shelf
def keysA_ren : Go.Shelf.Ren := ⟨fun | 7 => 61 | 10 => 85 | n => n, fun | 23 => 73 | 26 => 3 | 3 => 42 | 28 => 111 | 0 => 0 | 27 => 110 | 33 => 57 | 4 => 4 | n => n, fun | n => n⟩
theorem keysA : Go.Proofs.SlLaysZI.n7 Tryz.prog keysA_ren := {
  mixed := by kernel_rfl
  f7 := ⟨Tryz.f61.name, by decide, Tryz.func61.trans (congrArg some (by kernel_rfl))⟩
  f10 := ⟨Tryz.f85.name, by decide, Tryz.func85.trans (congrArg some (by kernel_rfl))⟩
  t0 := Tryz.underlying0
  a0 := Tryz.isAgg0
  z0 := Tryz.sizeOf0
  v0 := Tryz.zeroValue0
  t4 := Tryz.underlying4
  a4 := Tryz.isAgg4
  z4 := Tryz.sizeOf4
  v4 := Tryz.zeroValue4
  t23 := Tryz.underlying73
  a23 := Tryz.isAgg73
  z23 := Tryz.sizeOf73
  v23 := Tryz.zeroValue73
  t26 := Tryz.underlying3
  a26 := Tryz.isAgg3
  z26 := Tryz.sizeOf3
  v26 := Tryz.zeroValue3
  t27 := Tryz.underlying110
  a27 := Tryz.isAgg110
  z27 := Tryz.sizeOf110
  v27 := Tryz.zeroValue110
  t28 := Tryz.underlying111
  a28 := Tryz.isAgg111
  z28 := Tryz.sizeOf111
  v28 := Tryz.zeroValue111
  t33 := Tryz.underlying57
  a33 := Tryz.isAgg57
  z33 := Tryz.sizeOf57
  v33 := Tryz.zeroValue57 }
def sortedA_ren : Go.Shelf.Ren := ⟨fun | 6 => 60 | 8 => 83 | 9 => 84 | 11 => 101 | 13 => 103 | 12 => 102 | 23 => 130 | 24 => 131 | 14 => 121 | 15 => 122 | 16 => 123 | 17 => 124 | 18 => 125 | 19 => 126 | 20 => 127 | 21 => 128 | 22 => 129 | 25 => 144 | 26 => 145 | 27 => 146 | 28 => 147 | 29 => 148 | 30 => 149 | 31 => 158 | n => n, fun | 26 => 3 | 28 => 111 | 24 => 70 | 0 => 0 | 3 => 3 | 37 => 148 | 48 => 136 | 50 => 153 | 4 => 4 | 40 => 165 | 39 => 164 | 45 => 158 | 5 => 5 | 9 => 9 | 51 => 184 | 55 => 188 | 57 => 195 | 58 => 47 | 33 => 57 | n => n, fun | n => n⟩
theorem sortedA : Go.Proofs.SlLaysZI.n6 Tryz.prog sortedA_ren := {
  mixed := by kernel_rfl
  f6 := ⟨Tryz.f60.name, by decide, Tryz.func60.trans (congrArg some (by kernel_rfl))⟩
  f8 := ⟨Tryz.f83.name, by decide, Tryz.func83.trans (congrArg some (by kernel_rfl))⟩
  f11 := ⟨Tryz.f101.name, by decide, Tryz.func101.trans (congrArg some (by kernel_rfl))⟩
  t0 := Tryz.underlying0
  a0 := Tryz.isAgg0
  z0 := Tryz.sizeOf0
  v0 := Tryz.zeroValue0
  t24 := Tryz.underlying70
  a24 := Tryz.isAgg70
  z24 := Tryz.sizeOf70
  v24 := Tryz.zeroValue70
  t26 := Tryz.underlying3
  a26 := Tryz.isAgg3
  z26 := Tryz.sizeOf3
  v26 := Tryz.zeroValue3
  t28 := Tryz.underlying111
  a28 := Tryz.isAgg111
  z28 := Tryz.sizeOf111
  v28 := Tryz.zeroValue111
  i26 := by kernel_rfl }
def sortA_ren : Go.Shelf.Ren := ⟨fun | 5 => 84 | 8 => 103 | 7 => 102 | 19 => 130 | 20 => 131 | 10 => 121 | 11 => 122 | 12 => 123 | 13 => 124 | 14 => 125 | 15 => 126 | 16 => 127 | 17 => 128 | 18 => 129 | 30 => 144 | 31 => 145 | 32 => 146 | 33 => 147 | 34 => 148 | 35 => 149 | 40 => 158 | n => n, fun | 23 => 70 | 25 => 3 | 3 => 3 | 32 => 148 | 22 => 70 | 0 => 0 | 44 => 136 | 46 => 153 | 4 => 4 | 36 => 165 | 35 => 164 | 41 => 158 | 5 => 5 | 9 => 9 | 53 => 184 | 57 => 188 | 63 => 195 | 64 => 47 | n => n, fun | n => n⟩
theorem sortA : Go.Proofs.SlLaysM.n5 Tryz.prog sortA_ren := {
  mixed := by kernel_rfl
  f5 := ⟨Tryz.f84.name, by decide, Tryz.func84.trans (congrArg some (by kernel_rfl))⟩
  f7 := ⟨Tryz.f102.name, by decide, Tryz.func102.trans (congrArg some (by kernel_rfl))⟩
  f8 := Tryz.func103.trans (congrArg some (by kernel_rfl))
  f10 := ⟨Tryz.f121.name, by decide, Tryz.func121.trans (congrArg some (by kernel_rfl))⟩
  f11 := ⟨Tryz.f122.name, by decide, Tryz.func122.trans (congrArg some (by kernel_rfl))⟩
  f12 := ⟨Tryz.f123.name, by decide, Tryz.func123.trans (congrArg some (by kernel_rfl))⟩
  f13 := ⟨Tryz.f124.name, by decide, Tryz.func124.trans (congrArg some (by kernel_rfl))⟩
  f14 := ⟨Tryz.f125.name, by decide, Tryz.func125.trans (congrArg some (by kernel_rfl))⟩
  f15 := ⟨Tryz.f126.name, by decide, Tryz.func126.trans (congrArg some (by kernel_rfl))⟩
  f16 := ⟨Tryz.f127.name, by decide, Tryz.func127.trans (congrArg some (by kernel_rfl))⟩
  f17 := ⟨Tryz.f128.name, by decide, Tryz.func128.trans (congrArg some (by kernel_rfl))⟩
  f18 := ⟨Tryz.f129.name, by decide, Tryz.func129.trans (congrArg some (by kernel_rfl))⟩
  f19 := Tryz.func130.trans (congrArg some (by kernel_rfl))
  f20 := Tryz.func131.trans (congrArg some (by kernel_rfl))
  f30 := ⟨Tryz.f144.name, by decide, Tryz.func144.trans (congrArg some (by kernel_rfl))⟩
  f31 := Tryz.func145.trans (congrArg some (by kernel_rfl))
  f32 := Tryz.func146.trans (congrArg some (by kernel_rfl))
  f33 := ⟨Tryz.f147.name, by decide, Tryz.func147.trans (congrArg some (by kernel_rfl))⟩
  f34 := ⟨Tryz.f148.name, by decide, Tryz.func148.trans (congrArg some (by kernel_rfl))⟩
  f35 := ⟨Tryz.f149.name, by decide, Tryz.func149.trans (congrArg some (by kernel_rfl))⟩
  f40 := ⟨Tryz.f158.name, by decide, Tryz.func158.trans (congrArg some (by kernel_rfl))⟩
  t0 := Tryz.underlying0
  a0 := Tryz.isAgg0
  z0 := Tryz.sizeOf0
  v0 := Tryz.zeroValue0
  t3 := Tryz.underlying3
  a3 := Tryz.isAgg3
  z3 := Tryz.sizeOf3
  v3 := Tryz.zeroValue3
  t4 := Tryz.underlying4
  a4 := Tryz.isAgg4
  z4 := Tryz.sizeOf4
  v4 := Tryz.zeroValue4
  t5 := Tryz.underlying5
  a5 := Tryz.isAgg5
  z5 := Tryz.sizeOf5
  v5 := Tryz.zeroValue5
  t9 := Tryz.underlying9
  a9 := Tryz.isAgg9
  z9 := Tryz.sizeOf9
  v9 := Tryz.zeroValue9
  t22 := Tryz.underlying70
  a22 := Tryz.isAgg70
  z22 := Tryz.sizeOf70
  v22 := Tryz.zeroValue70
  t23 := Tryz.underlying70
  a23 := Tryz.isAgg70
  z23 := Tryz.sizeOf70
  v23 := Tryz.zeroValue70
  t25 := Tryz.underlying3
  a25 := Tryz.isAgg3
  z25 := Tryz.sizeOf3
  v25 := Tryz.zeroValue3
  t32 := Tryz.underlying148
  a32 := Tryz.isAgg148
  z32 := Tryz.sizeOf148
  v32 := Tryz.zeroValue148
  t35 := Tryz.underlying164
  a35 := Tryz.isAgg164
  z35 := Tryz.sizeOf164
  v35 := Tryz.zeroValue164
  t36 := Tryz.underlying165
  a36 := Tryz.isAgg165
  z36 := Tryz.sizeOf165
  v36 := Tryz.zeroValue165
  t41 := Tryz.underlying158
  a41 := Tryz.isAgg158
  z41 := Tryz.sizeOf158
  v41 := Tryz.zeroValue158
  t44 := Tryz.underlying136
  a44 := Tryz.isAgg136
  z44 := Tryz.sizeOf136
  v44 := Tryz.zeroValue136
  t46 := Tryz.underlying153
  a46 := Tryz.isAgg153
  z46 := Tryz.sizeOf153
  v46 := Tryz.zeroValue153
  t53 := Tryz.underlying184
  a53 := Tryz.isAgg184
  z53 := Tryz.sizeOf184
  v53 := Tryz.zeroValue184
  t57 := Tryz.underlying188
  a57 := Tryz.isAgg188
  z57 := Tryz.sizeOf188
  v57 := Tryz.zeroValue188
  t63 := Tryz.underlying195
  a63 := Tryz.isAgg195
  z63 := Tryz.sizeOf195
  v63 := Tryz.zeroValue195
  t64 := Tryz.underlying47
  a64 := Tryz.isAgg47
  z64 := Tryz.sizeOf47
  v64 := Tryz.zeroValue47 }
end Go.Proofs.YtcbebalakdkgnaaGreatDoor


namespace Go.Proofs.YtcbebalakdkgnaaGreatDoor
open Go.RowKit Go.Maps Go.Sort Go.Shelf Rec

theorem sortsA (m : Nat) : AnyZI.SortsIn Tryz.prog sortedA_ren Fence.wide m :=
  ⟨fun blk off cap ss W hH hblk hsz => callsIn_wide.2 (AnyM.slices_Sort_int sortA blk off cap ss W hH hblk hsz),
   fun p cap W => callsIn_wide.2 (AnyM.slices_Sort_int_none sortA p cap W)⟩
theorem written_any (w : World) (T : Tx) (h : TxAt w T) :
    Calls Tryz.prog 35 #[.pointer (some ⟨T.t, 0, none⟩)] w fun e w' => ∃ v : Value, e = .returned v ∧ w'.ownsRow w.heap.size 3 1 v (lst T.c T.nb).length (((lst T.c T.nb).map Bk.n).map (Value.int .i64)) ∧ (v = .slice none 0 0 ↔ lst T.c T.nb = []) ∧ Below w.heap.size w w' := by
  refine (callsIn_wide (n := 6)).1 ?_
  have hbl := h.map.lt
  have hcnt := h.cnt
  have hc1 : w.cell? ⟨T.t, 1, none⟩ = some (.map (some T.mb)) := h.cell 1
  have HT : Hid (TxAt w T) := h
  have hsz : Maps.size (dat T.c T.nb) = (lst T.c T.nb).length := dat_size _ _
  have hseq : SeqGives Fence.wide 2 Tryz.prog 85 #[.pointer (some ⟨w.heap.size, 0, none⟩)] encZ (fun ss => ss.Perm (intKeys (dat T.c T.nb))) (Maps.size (dat T.c T.nb)) (w.alloc (.cells #[.map (some T.mb)] 73)) :=
    AnyZI.keys_gives (ρ := keysA_ren) { keysA with } Fence.wide _ trivial rfl (by omega) w.heap.size T.mb 20000 (dat T.c T.nb) _ (by simp) (by simp) (by
      obtain ⟨es, clock, hb, Ft, hs, hD⟩ := h.map
      exact ⟨es, clock, (Below.heap_alloc _ _ T.mb hbl).trans hb, Ft, hs, hD⟩)
  have cK : ∀ mb W, CallsIn Fence.wide 5 Tryz.prog 61 #[.map mb] W fun e w' => e = .returned (.func (.func 85) #[] #[.pointer (some ⟨W.heap.size, 0, none⟩)]) ∧ w' = W.alloc (.cells #[.map mb] 73) := fun mb W => AnyZI.keys_in keysA Fence.wide 5 trivial rfl mb W
  have cS := AnyZI.sorted_in sortedA Fence.wide 5 trivial trivial trivial trivial rfl (by omega) (sortsA _) (enters_of Tryz.func84 (by kernel_rfl) rfl) 85 #[.pointer (some ⟨w.heap.size, 0, none⟩)] trivial (enters_of Tryz.func85 (by kernel_rfl) rfl) _ _ (by rw [hsz]; unfold maxLen; omega) (by rw [hsz]; omega) _ hseq
  change CallsIn _ _ Tryz.prog 60 _ _ _ at cS
  have hfK : Fence.wide.fn 61 := trivial
  have hfS : Fence.wide.fn 60 := trivial
  clear hsz hcnt hbl h hseq
  refine callsIn_of_wp Tryz.func35 rfl trivial ?_ rfl
  simp only [Tryz.ntmps35, List.size_toArray, List.length_cons, List.length_nil, Nat.reduceAdd, Nat.reduceSub, Array.replicate_succ, Array.replicate_zero, List.push_toArray, List.append_toArray, List.nil_append, List.cons_append]
  gi_wp2_with (first
    | (gi_at_call 61; refine (cK _ _).mono ?_; rintro e w' ⟨rfl, rfl⟩)
    | (gi_at_call 60; refine cS.mono ?_; rintro e w' ⟨v, ss, rfl, hS, hrow, hnil, hb⟩))
  go_ret
  have e1 := sorted_keys HT.out.ok hS
  have e2 : ss.length = (lst T.c T.nb).length := by
    have := hS.length_eq
    rw [keys_dat] at this
    simpa using this
  rw [e1, e2] at hrow
  refine ⟨v, rfl, ownsRow_base_a hrow (by simp), hnil.trans ⟨fun e => ?_, fun e => ?_⟩, ((Below.refl _ w).alloc (Nat.le_refl _) _).trans (hb.mono (by simp))⟩
  · rw [e] at e2; exact List.eq_nil_of_length_eq_zero e2.symm
  · rw [e] at e2; exact List.eq_nil_of_length_eq_zero e2
end Go.Proofs.YtcbebalakdkgnaaGreatDoor

namespace Go.Proofs.YtcbebalakdkgnaaGreatDoor
open Go.RowKit Go.Maps Rec

def touchT (nb : Nat) (i first : Int) : Int := if i < first ∨ (nb : Int) ≤ i then 31 else 0
theorem touchT_ok {nb i first : Nat} (h0 : first ≤ i) (h1 : i < nb) : touchT nb (i : Int) (first : Int) = 0 := by
  unfold touchT
  rw [if_neg (by omega)]
set_option maxRecDepth 100000 in
set_option maxHeartbeats 4000000 in
theorem mayTouch_any (w : World) (T : Tx) (D : Dk) (h : TxAt w T) (hD : Disk w D) (hd : D.d = T.d) (hn : D.nb = T.nb) (i first : Int) :
    Calls Tryz.prog 56 #[.pointer (some ⟨T.t, 0, none⟩), .int .i64 i, .int .i64 first] w fun e w' => e = .returned (.int .i64 (touchT T.nb i first)) ∧ w = w' := by
  have hc3 : w.cell? ⟨T.t, 3, none⟩ = some (.bool false) := h.cell 3
  have hc0 : w.cell? ⟨T.t, 0, none⟩ = some (.pointer (some ⟨D.d, 0, none⟩)) := by rw [hd]; exact h.cell 0
  have HB : Hid (Calls Tryz.prog 68 #[.pointer (some ⟨D.d, 0, none⟩)] w fun e w' => e = .returned (.int .i64 T.nb) ∧ w = w') := by
    have := blocks_any w D hD
    rw [hn] at this
    exact this
  clear h hD hd hn
  go_enter Tryz.func56, Tryz.ntmps56
  by_cases h1 : i < first
  · go_wp2
    go_ret
    exact ⟨by unfold touchT; rw [if_pos (.inl h1)]; rfl, rfl⟩
  · have h1' : first ≤ i := by omega
    by_cases h2 : (T.nb : Int) ≤ i
    · go_wp2_with (go_at_call 68; refine HB.out.mono ?_; rintro e w' ⟨rfl, rfl⟩)
      go_ret
      exact ⟨by unfold touchT; rw [if_pos (.inr h2)]; rfl, rfl⟩
    · have h2' : i < (T.nb : Int) := by omega
      go_wp2_with (go_at_call 68; refine HB.out.mono ?_; rintro e w' ⟨rfl, rfl⟩)
      go_ret
      exact ⟨by unfold touchT; rw [if_neg (by omega)]; rfl, rfl⟩
theorem touch_over (w : World) (t : Nat) (h : OverAt w t) (i first : Int) :
    Calls Tryz.prog 56 #[.pointer (some ⟨t, 0, none⟩), .int .i64 i, .int .i64 first] w fun e w' => e = .returned (.int .i64 61) ∧ w = w' := by
  have hc3 : w.cell? ⟨t, 3, none⟩ = some (.bool true) := cell_of_row _ _ _ _ _ _ h
  go_enter Tryz.func56, Tryz.ntmps56
  go_wp2
  go_ret
  exact ⟨rfl, rfl⟩
set_option maxRecDepth 100000 in
theorem over_no (w : World) (T : Tx) (h : TxAt w T) : Calls Tryz.prog 11 #[.pointer (some ⟨T.t, 0, none⟩)] w fun e w' => e = .returned (.bool false) ∧ w = w' := by
  have hc3 : w.cell? ⟨T.t, 3, none⟩ = some (.bool false) := h.cell 3
  clear h
  go_enter Tryz.func11, Tryz.ntmps11
  go_wp2
  go_ret
  exact ⟨rfl, rfl⟩
theorem over_yes (w : World) (t : Nat) (h : OverAt w t) : Calls Tryz.prog 11 #[.pointer (some ⟨t, 0, none⟩)] w fun e w' => e = .returned (.bool true) ∧ w = w' := by
  have hc3 : w.cell? ⟨t, 3, none⟩ = some (.bool true) := cell_of_row _ _ _ _ _ _ h
  clear h
  go_enter Tryz.func11, Tryz.ntmps11
  go_wp2
  go_ret
  exact ⟨rfl, rfl⟩
set_option maxRecDepth 100000 in
theorem read_over (w : World) (t : Nat) (h : OverAt w t) (i : Int) : Calls Tryz.prog 32 #[.pointer (some ⟨t, 0, none⟩), .int .i64 i] w fun e w' => e = .returned (.tuple #[.slice none 0 0, .int .i64 61]) ∧ w = w' := by
  have HT : Hid (Calls Tryz.prog 56 #[.pointer (some ⟨t, 0, none⟩), .int .i64 i, .int .i64 0] w fun e w' => e = .returned (.int .i64 61) ∧ w = w') := touch_over w t h i 0
  clear h
  go_enter Tryz.func32, Tryz.ntmps32
  go_wp2_with (go_at_call 56; refine HT.out.mono ?_; rintro e w' ⟨rfl, rfl⟩)
  go_ret2
  exact ⟨rfl, rfl⟩
set_option maxRecDepth 100000 in
set_option maxHeartbeats 4000000 in
theorem tread_any (w : World) (T : Tx) (D : Dk) (h : TxAt w T) (hD : Disk w D) (hd : D.d = T.d) (hn : D.nb = T.nb) (hdn : D.down = false) (i : Nat) (hi : i < T.nb) :
    Calls Tryz.prog 32 #[.pointer (some ⟨T.t, 0, none⟩), .int .i64 (i : Int)] w fun e w' => ∃ g cap, e = .returned (.tuple #[.slice (some ⟨g, 0, none⟩) 512 cap, .int .i64 0]) ∧ w.heap.size ≤ g ∧ OwnB w' g cap (match T.c i with | some q => q.x | none => bck D.full i) ∧ Below w.heap.size w w' := by
  have HT : Hid (Calls Tryz.prog 56 #[.pointer (some ⟨T.t, 0, none⟩), .int .i64 (i : Int), .int .i64 0] w fun e w' => e = .returned (.int .i64 0) ∧ w = w') := by
    have := mayTouch_any w T D h hD hd hn (i : Int) 0
    rw [show touchT T.nb (i : Int) 0 = 0 from touchT_ok (first := 0) (Nat.zero_le _) hi] at this
    exact this
  have hc1 : w.cell? ⟨T.t, 1, none⟩ = some (.map (some T.mb)) := h.cell 1
  have hc0 : w.cell? ⟨T.t, 0, none⟩ = some (.pointer (some ⟨D.d, 0, none⟩)) := by rw [hd]; exact h.cell 0
  have hlk := h.map.look h.ok i (by have := h.n16; omega)
  have HR : Hid (Calls Tryz.prog 57 #[.pointer (some ⟨D.d, 0, none⟩), .int .i64 i] w fun e w' => ∃ g cap, e = .returned (.tuple #[.slice (some ⟨g, 0, none⟩) 512 cap, .int .i64 0]) ∧ w.heap.size ≤ g ∧ OwnB w' g cap (bck D.full i) ∧ Below w.heap.size w w') := read_yes w D hD i (by omega) hdn
  clear hdn hd hn hi
  cases hci : T.c i with
  | none =>
    rw [hci] at hlk
    have hlk' : (Instr.lookup 73 (.map (some T.mb)) (.int .i64 (i : Int)) true).run Tryz.prog w = .ok (.tuple #[.slice none 0 0, .bool false]) w := hlk
    clear h hD hlk hci
    go_enter Tryz.func32, Tryz.ntmps32
    go_wp2_with (first
      | (go_at_call 56; refine HT.out.mono ?_; rintro e w' ⟨rfl, rfl⟩)
      | (go_at_call 57; refine HR.out.mono ?_; rintro e w' ⟨g, cap, rfl, h1, h2, h3⟩; have H3 : Hid (w.heap.size ≤ g ∧ OwnB w' g cap (bck D.full i) ∧ Below w.heap.size w w') := ⟨h1, h2, h3⟩; clear h1 h2 h3))
    go_ret2
    exact ⟨g, cap, rfl, H3.out.1, H3.out.2.1, H3.out.2.2⟩
  | some q =>
    rw [hci] at hlk
    have hlk' : (Instr.lookup 73 (.map (some T.mb)) (.int .i64 (i : Int)) true).run Tryz.prog w = .ok (.tuple #[.slice (some ⟨q.g, 0, none⟩) 512 q.c, .bool true]) w := hlk
    have HC : Hid (Calls Tryz.prog 39 #[.slice (some ⟨q.g, 0, none⟩) 512 q.c] w fun e w' => ∃ g cap, e = .returned (.slice (some ⟨g, 0, none⟩) 512 cap) ∧ w.heap.size ≤ g ∧ OwnB w' g cap q.x ∧ Below w.heap.size w w') := bclone_any w ⟨q.g, 0, none⟩ 512 q.c q.x (h.blk i q hci).bytes (h.blk i q hci).len (by omega)
    clear h hD hlk hci HR
    go_enter Tryz.func32, Tryz.ntmps32
    go_wp2_with (first
      | (go_at_call 56; refine HT.out.mono ?_; rintro e w' ⟨rfl, rfl⟩)
      | (go_at_call 39; refine HC.out.mono ?_; rintro e w' ⟨g, cap, rfl, h1, h2, h3⟩; have H3 : Hid (w.heap.size ≤ g ∧ OwnB w' g cap q.x ∧ Below w.heap.size w w') := ⟨h1, h2, h3⟩; clear h1 h2 h3))
    go_ret2
    exact ⟨g, cap, rfl, H3.out.1, H3.out.2.1, H3.out.2.2⟩
set_option maxRecDepth 100000 in
theorem mark_any (w : World) (T : Tx) (h : TxAt w T) : Calls Tryz.prog 21 #[.pointer (some ⟨T.t, 0, none⟩)] w fun e w' => e = .returned (.tuple #[.int .i64 (T.us.length : Nat), .int .i64 0]) ∧ Below w.heap.size w w' := by
  have hc3 : w.cell? ⟨T.t, 3, none⟩ = some (.bool false) := h.cell 3
  obtain ⟨a, c, hv, _⟩ := owns_slice h.und
  have hc2 : w.cell? ⟨T.t, 2, none⟩ = some (.slice a T.us.length c) := by rw [← hv]; exact h.cell 2
  clear h
  go_enter Tryz.func21, Tryz.ntmps21
  go_wp2
  go_ret2
  exact ⟨rfl, by repeat (first | exact Below.refl _ _ | apply Below.drew)⟩
theorem over_row (w : World) (t : Nat) (cs : Array Value) (hs : cs.size = 4) (h : w.heap[t]? = some (.cells cs 76 (0, 0))) :
    OverAt ((((w.setCell ⟨t, 0, none⟩ (.pointer none)).setCell ⟨t, 1, none⟩ (.map none)).setCell ⟨t, 2, none⟩ (.slice none 0 0)).setCell ⟨t, 3, none⟩ (.bool true)) t ∧ Fr (fun k => k = t) w ((((w.setCell ⟨t, 0, none⟩ (.pointer none)).setCell ⟨t, 1, none⟩ (.map none)).setCell ⟨t, 2, none⟩ (.slice none 0 0)).setCell ⟨t, 3, none⟩ (.bool true)) := by
  obtain ⟨l⟩ := cs
  obtain ⟨a, b, c, d, rfl⟩ : ∃ a b c d, l = [a, b, c, d] := by
    simp at hs
    match l, hs with
    | [a, b, c, d], _ => exact ⟨a, b, c, d, rfl⟩
  have h1 := heap_setCell_same w t 0 _ _ (.pointer none) h
  have h2 := heap_setCell_same _ t 1 _ _ (.map none) h1
  have h3 := heap_setCell_same _ t 2 _ _ (.slice none 0 0) h2
  have h4 := heap_setCell_same _ t 3 _ _ (.bool true) h3
  refine ⟨?_, ((Fr.set.trans Fr.set fun _ hk => .inl hk).trans Fr.set fun _ hk => .inl hk).trans Fr.set fun k hk => .inl hk⟩
  unfold OverAt
  rw [h4]
  rfl
set_option maxRecDepth 100000 in
theorem abort_any (w : World) (t : Nat) (cs : Array Value) (hs : cs.size = 4) (h : w.heap[t]? = some (.cells cs 76 (0, 0))) : Calls Tryz.prog 27 #[.pointer (some ⟨t, 0, none⟩)] w fun e w' => e = .returned (.tuple #[]) ∧ OverAt w' t ∧ Fr (fun k => k = t) w w' := by
  have hO := over_row w t cs hs h
  have hf : ∀ j, w.frozen? ⟨t, j, none⟩ = false := fun j => frozen_of_row _ _ _ _ _ h
  have hc : ∀ j, w.cell? ⟨t, j, none⟩ = cs[j]? := fun j => cell_of_row _ _ _ _ _ _ h
  go_enter Tryz.func27, Tryz.ntmps27
  go_wp2
  go_end0
  exact ⟨rfl, hO.1, hO.2⟩
theorem begin_any (w : World) (d nb : Nat) (hn : nb ≤ 16384) : Calls Tryz.prog 18 #[.pointer (some ⟨d, 0, none⟩)] w fun e w' => ∃ T, e = .returned (.pointer (some ⟨T.t, 0, none⟩)) ∧ TMine w w' T ∧ T.d = d ∧ T.nb = nb ∧ T.c = (fun _ => none) ∧ T.us = [] := by
  have hmm := @run_makeMap Tryz.prog
  go_enter Tryz.func18, Tryz.ntmps18
  go_wp2
  go_ret
  have hm : MapAt ((w.alloc (.map #[] 0)).alloc (.cells #[.pointer (some ⟨d, 0, none⟩), .map (some w.heap.size), .slice none 0 0, .bool false] 76)) w.heap.size (fun _ => none) nb := by
    have := ((World.ownsMap_made w Tryz.prog 3 rel).mono (Nat.zero_le 20000)).alloc (.cells #[.pointer (some ⟨d, 0, none⟩), .map (some w.heap.size), .slice none 0 0, .bool false] 76)
    unfold MapAt dat
    rw [lst_none]
    exact this
  refine ⟨⟨w.heap.size + 1, d, w.heap.size, nb, fun _ => none, .slice none 0 0, []⟩, ?_, ⟨⟨?_, hm, cok_none nb, (fun i q hq => by cases hq), ⟨rfl, .inl ⟨rfl, rfl⟩⟩, (fun u hu => by cases hu), (fun u hu => by cases hu), by simp, (fun k hk => by cases hk), ?_, by simp, hn, by simp [lst_none]⟩, ?_, ?_⟩, rfl, rfl, rfl, rfl⟩
  · simp
  · show _[w.heap.size + 1]? = _
    rw [show w.heap.size + 1 = (w.alloc (.map #[] 0)).heap.size from by simp]
    exact heap_alloc_new _ _
  · rintro k (⟨i, q, hq, _⟩ | ⟨u, hu, _⟩)
    · cases hq
    · cases hu
  · rintro k ((rfl | rfl | hk) | ⟨i, q, hq, _⟩ | ⟨u, hu, _⟩)
    · show w.heap.size ≤ w.heap.size + 1; omega
    · exact Nat.le_refl _
    · cases hk
    · cases hq
    · cases hu
  · exact ((Below.refl _ w).alloc (Nat.le_refl _) _).alloc (by simp) _
end Go.Proofs.YtcbebalakdkgnaaGreatDoor
