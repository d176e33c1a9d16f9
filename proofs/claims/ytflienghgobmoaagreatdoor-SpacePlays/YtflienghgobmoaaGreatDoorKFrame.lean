import Derived.Test.YtflienghgobmoaaGreatDoorCards
import Derived.Test.YtflienghgobmoaaGreatDoorTie
import Derived.Test.YtflienghgobmoaaGreatDoorKMathR
import Derived.WalkKit
import Derived.ProofKit
import Derived.OpenShut
import Derived.ShutString
import Derived.ChangeOld
import Derived.Below
import Derived.Deep.DeepHandedRow
import Derived.Lib.LaidTab
import Derived.Lib.BytesEntry
import Derived.Lib.IndexLaws
import Derived.Laws.BitsAllLaws
import Derived.Deep.DeepCutAuto
import Derived.Lib.LazyBuf
import Derived.Lib.BufferWrite
import Derived.Lib.SliceRun
namespace Go.Proofs.YtflienghgobmoaaGreatDoor
open Go.ChangeShapes Go.WideShapes Go.ChangeAt Go.RowKit Rec

/-- all arguments read as they did -/
theorem trodAll_stays {H : Type} {enc : TypeId × Value → H} {P : Program} (hl : laidOutB P = true) {W W' : World} (hb : Below W.heap.size W W') :
    ∀ (ts : List TypeId) (vs : List Value) (ds : List (DataW H)) (ps : List MemPlace), (∀ t ∈ ts, P.readableRec t = true ∧ t < P.types.size) →
      DataW.TrodAll enc P W 0 (fun _ => true) true ts vs ds ps → DataW.TrodAll enc P W' 0 (fun b => decide (b < W.heap.size)) true ts vs ds ps
  | [], [], [], _, _, h => h
  | t :: ts, v :: vs, d :: ds, ps, hr, h => by
    obtain ⟨p, q, h1, h2, e⟩ := h
    have lt : ∀ x ∈ p, x.block < W.heap.size := by obtain ⟨m, hm⟩ := h1; exact DataW.trod_lt m _ _ _ hm
    have ht := hr t (List.mem_cons_self ..)
    exact ⟨p, q, Below.trod hl ht.1 ht.2 h1 hb lt, trodAll_stays hl hb ts vs ds q (fun t' h' => hr t' (List.mem_cons_of_mem _ h')) h2, e⟩
  | [], _ :: _, _, _, _, h => by simp [DataW.TrodAll] at h
  | [], [], _ :: _, _, _, h => by simp [DataW.TrodAll] at h
  | _ :: _, [], _, _, _, h => by simp [DataW.TrodAll] at h
  | _ :: _, _ :: _, [], _, _, h => by simp [DataW.TrodAll] at h

theorem own : ownKnob Tryz.prog.godebug = none := by kernel_rfl
theorem laidOut : laidOutB Tryz.prog = true := by kernel_rfl
/-- 200 -/
theorem gHal : Tryz.prog.globalNamed "bole/sum.halves" = some 1 := by kernel_rfl
theorem gHalType : (Tryz.prog.globals[1]?).map (·.type) = some 236 := by kernel_rfl
theorem gWid : Tryz.prog.globalNamed "bole/rec.widths" = some 0 := by kernel_rfl
theorem gWidType : (Tryz.prog.globals[0]?).map (·.type) = some 202 := by kernel_rfl
theorem cellsHal : Tryz.prog.cellsOf 236 = 16 := by kernel_rfl
theorem cellsWid : Tryz.prog.cellsOf 202 = 4 := by kernel_rfl
theorem cellsU : Tryz.prog.cellsOf 199 = 1 := by kernel_rfl
theorem cellsN : Tryz.prog.cellsOf 3 = 1 := by kernel_rfl
def tabInts : List Int := [0, 498536548, 997073096, 651767980, 1994146192, 1802195444, 1303535960, 1342533948, 3988292384, 4027552580, 3604390888, 3412177804, 2607071920, 2262029012, 2685067896, 3183342108]
theorem laid_tail {P : Program} {x : String × DataW Unit} {rest : List (String × DataW Unit)} {W : World} (h : laidMet P (x :: rest) W) : laidMet P rest W := by
  obtain ⟨ps, ⟨g, t, cs, fuel, p, q, _, _, _, _, hq, rfl⟩, hn, hc⟩ := h
  exact ⟨q, hq, (List.nodup_append.1 hn).2.1, fun b off hm => hc b off (List.mem_append_right _ hm)⟩
/-- what the rows' list gives: the tables' cells hold their numbers -/
theorem tabAt_of_laid {W : World} (h : laidMetH Tryz.prog [("bole/sum.halves", Rows.laid_bole_sum_halves), ("bole/rec.widths", Rows.laid_bole_rec_widths)] W) : TabAt W := by
  have h : laidMet Tryz.prog [("bole/sum.halves", Rows.laid_bole_sum_halves), ("bole/rec.widths", Rows.laid_bole_rec_widths)] W := h
  have t1 : Lib.TabIs Tryz.prog W "bole/sum.halves" .u32 tabInts := Lib.tabIs_of_head (rest := [("bole/rec.widths", Rows.laid_bole_rec_widths)]) gHal gHalType Tryz.underlying236 Tryz.underlying199 cellsU cellsHal h
  have t2 : Lib.TabIs Tryz.prog W "bole/rec.widths" .i64 [1, 2, 4, 8] := Lib.tabIs_of_head (rest := []) gWid gWidType Tryz.underlying202 Tryz.underlying3 cellsN cellsWid (laid_tail h)
  refine ⟨fun i hi => t2.cell gWid i hi, fun i hi => ?_⟩
  have h1 := t1.cell gHal i (by simpa [tabInts] using hi)
  rw [h1]
  have e : ∀ i, i < 16 → tabInts.getD i 0 = ((Crc.tab.getD i 0 : Nat) : Int) := by decide +kernel
  rw [e i hi]
/-- a world for the witnesses: the settled one, the tables holding what their initialisers lay -/
def lay0 : Obj → Obj
  | .cells _ t frozen => .cells #[.int .i64 1, .int .i64 2, .int .i64 4, .int .i64 8] t frozen
  | o => o
def lay1 : Obj → Obj
  | .cells _ t frozen => .cells (tabInts.map (Value.int .u32)).toArray t frozen
  | o => o
/-- 200 -/
def laidWorldOf (P : Program) (os : Os) : World :=
  { World.holding P os ⟨#[], #[], []⟩ with heap := ((World.holding P os ⟨#[], #[], []⟩).heap.modify 0 lay0).modify 1 lay1 }
end Go.Proofs.YtflienghgobmoaaGreatDoor

namespace Go.Proofs.YtflienghgobmoaaGreatDoor
open Go.RowKit Rec

/-- all rows but S's are kept -/
structure Fr (S : Nat → Prop) (w w' : World) : Prop where
  os : w'.os = w.os
  tape : w'.tape = w.tape
  output : w'.output = w.output
  size : w.heap.size ≤ w'.heap.size
  block : ∀ k, k < w.heap.size → ¬ S k → w'.heap[k]? = w.heap[k]?
theorem Fr.refl (S : Nat → Prop) (w : World) : Fr S w w := ⟨rfl, rfl, rfl, Nat.le_refl _, fun _ _ _ => rfl⟩
theorem Fr.trans {S T : Nat → Prop} {a b c : World} (x : Fr S a b) (y : Fr T b c) (h : ∀ k, T k → S k ∨ a.heap.size ≤ k) : Fr S a c :=
  ⟨y.os.trans x.os, y.tape.trans x.tape, y.output.trans x.output, Nat.le_trans x.size y.size, fun k hk hS => (y.block k (Nat.lt_of_lt_of_le hk x.size) (fun t => (h k t).elim hS (fun g => by omega))).trans (x.block k hk hS)⟩
theorem Fr.mono {S T : Nat → Prop} {a b : World} (x : Fr S a b) (h : ∀ k, S k → T k) : Fr T a b := ⟨x.os, x.tape, x.output, x.size, fun k hk hT => x.block k hk (fun s => hT (h k s))⟩
theorem Fr.below {S : Nat → Prop} {w w' : World} (x : Fr S w w') (B : Nat) (h : ∀ k, S k → B ≤ k) (hB : B ≤ w.heap.size) : Below B w w' :=
  ⟨x.os, x.tape, x.output, x.size, fun k hk => x.block k (by omega) (fun s => by have := h k s; omega)⟩
theorem below_fr {w w' : World} (x : Below w.heap.size w w') (S : Nat → Prop) : Fr S w w' := ⟨x.os, x.tape, x.output, x.size, fun k hk _ => x.block k hk⟩
theorem grown_fr {w w' : World} {r : Option Nat} (x : w.grownBy w' r) : Fr (fun k => r = some k) w w' := ⟨x.os, x.tape, x.output, x.size, fun k hk h => x.block k hk (fun e => h e.symm)⟩
theorem Fr.cell {S : Nat → Prop} {w w' : World} (x : Fr S w w') {p : Addr} {v : Value} (hc : w.cell? p = some v) (h : ¬ S p.block) : w'.cell? p = some v :=
  (World.cell?_of_block (x.block p.block (block_lt_of_cell hc) h)).trans hc
theorem Fr.heap {S : Nat → Prop} {w w' : World} (x : Fr S w w') {k : Nat} {o : Obj} (hc : w.heap[k]? = some o) (h : ¬ S k) : w'.heap[k]? = some o :=
  (x.block k (heap_lt hc) h).trans hc
theorem Fr.set {w : World} {g k : Nat} {v : Value} : Fr (fun i => i = g) w (w.setCell ⟨g, k, none⟩ v) :=
  ⟨rfl, rfl, rfl, by simp [World.setCell], fun i _ hr => Below.heap_setCell w ⟨g, k, none⟩ v i hr⟩
theorem fr_alloc (S : Nat → Prop) (w : World) (o : Obj) : Fr S w (w.alloc o) := below_fr ((Below.refl _ w).alloc (Nat.le_refl _) o) S

/-- where a slice lies -/
theorem owns_block {w : World} {B e size n : Nat} {v : Value} {xs : List Value} (h : w.ownsRow B e size v n xs) {k : Nat} (hk : v.ownBlock = some k) : k < w.heap.size := by
  rcases h.2 with ⟨rfl, _⟩ | ⟨g, cap, cur, rfl, _, hg, _⟩
  · cases hk
  · cases hk; exact heap_lt hg
theorem owns_fr {S : Nat → Prop} {w w' : World} {B e size n : Nat} {v : Value} {xs : List Value} (h : w.ownsRow B e size v n xs) (x : Fr S w w') (hk : ∀ k, v.ownBlock = some k → ¬ S k) : w'.ownsRow B e size v n xs := by
  refine ⟨h.1, ?_⟩
  rcases h.2 with h2 | ⟨g, cap, cur, rfl, h1, hg, h3⟩
  · exact .inl h2
  · exact .inr ⟨g, cap, cur, rfl, h1, x.heap hg (hk g rfl), h3⟩

/-- where an append lays its row -/
theorem own_block {w : World} {B : Nat} {v : Value} {k : Nat} {ts : List Value} (t ty e : TypeId) (i0 : TypeInfo) (z : Value) (size bytes : Nat) (ht : Tryz.prog.underlying t = some (.slice e)) (hi : Tryz.prog.info? e = some i0) (hz : i0.zero = some z) (hsize : i0.size = size) (hby : i0.bytes = bytes)
    (hown : w.ownsRow B e size v k ts) (ad : Addr) (m c : Nat) (news : List Value) (hl : news.length = m * size) (hnews : ∀ j u, news[j]? = some u → w.cell? (ad.add j) = some u) (h1 : ∀ u ∈ news, u.oneCell' = true) (hm : 0 < m) (h63 : k + m ≤ maxLen) (h47 : (k + m) * bytes ≤ 140737488355328)
    {v' : Value} {w' : World} (hr : (Builtin.append_ #[t, t] ty #[v, .slice (some ad) m c]).run Tryz.prog w = .ok v' w') : ∃ g cap, v' = .slice (some ⟨g, 0, none⟩) (k + m) cap ∧ (v.ownBlock = some g ∨ w.heap.size ≤ g) := by
  subst hsize hby
  have h63' : k + m ≤ 9223372036854775807 := h63
  rcases hown.2 with ⟨rfl, rfl⟩ | ⟨g, cap, cur, rfl, hbg, hg, hnc, hcm, hcs, htake⟩
  · have h := run_append_nil (P := Tryz.prog) w t ty e i0 z ht hi hz ad m c news hl hnews hm (by omega) (by rw [Nat.zero_add] at h47; omega)
    rw [h] at hr
    cases hr
    exact ⟨_, _, by rw [Nat.zero_add], .inr (Nat.le_refl _)⟩
  · by_cases hroom : k + m ≤ cap
    · have h := run_append_room (P := Tryz.prog) w t ty e i0 ht hi g k cap cur hg ad m c news hl hnews h1 hroom (by rw [hl, hcs, ← Nat.add_mul]; exact Nat.mul_le_mul_right _ hroom)
      rw [h] at hr
      cases hr
      exact ⟨_, _, rfl, .inl rfl⟩
    · have h := run_append_grow (P := Tryz.prog) w t ty e i0 z ht hi hz ⟨g, 0, none⟩ k cap ts hown.1 (hown.cells (g := g) rfl) ad m c news hl hnews (by omega) (by omega) (growslice_fits (by omega) h47)
      rw [h] at hr
      cases hr
      exact ⟨_, _, rfl, .inr (Nat.le_refl _)⟩
theorem run_own {w : World} (t ty : TypeId) (e : TypeId) (i0 : TypeInfo) (z : Value) (size bytes : Nat) (ht : Tryz.prog.underlying t = some (.slice e)) (hi : Tryz.prog.info? e = some i0) (hz : i0.zero = some z)
    (hsize : i0.size = size) (hby : i0.bytes = bytes) (hzs : z.cells.size = size) (hsz : 0 < size) (v : Value) (k : Nat) (xs : List Value) (hown : w.ownsRow 0 e size v k xs)
    (ad : Addr) (m c : Nat) (news : List Value) (hm : 0 < m) (hl : news.length = m * size) (hnews : ∀ j u, news[j]? = some u → w.cell? (ad.add j) = some u) (h1 : ∀ u ∈ news, u.oneCell' = true) (h63 : k + m ≤ maxLen) (h47 : (k + m) * bytes ≤ 140737488355328) :
    ∃ g cap w', (Builtin.append_ #[t, t] ty #[v, .slice (some ad) m c]).run Tryz.prog w = .ok (.slice (some ⟨g, 0, none⟩) (k + m) cap) w' ∧ w'.ownsRow 0 e size (.slice (some ⟨g, 0, none⟩) (k + m) cap) (k + m) (xs ++ news) ∧ Fr (fun k => v.ownBlock = some k) w w' ∧ (v.ownBlock = some g ∨ w.heap.size ≤ g) := by
  obtain ⟨v', w', hr, h2, h3, _⟩ := run_append_own (P := Tryz.prog) w 0 t ty e i0 z size bytes ht hi hz hsize hby hzs hsz v k xs hown ad m c news hl hnews h1 h63 h47 (Nat.zero_le _)
  obtain ⟨g, cap, rfl, hgb⟩ := own_block t ty e i0 z size bytes ht hi hz hsize hby hown ad m c news hl hnews h1 hm h63 h47 hr
  exact ⟨g, cap, w', hr, h2, grown_fr h3, hgb⟩
/-- 'append(s, x...)', s nil or a row of one's own -/
theorem wp_own {ops : Array Oper} {rest : List Oper} {o : Oper} {a : Act} {Q : Exit → Act → World → Prop} {w : World} (hgd : o.guard = none) (s x : Operand) (t : TypeId)
    (ho : o.op = .call { callee := .builtin .append, args := #[s, x], argTypes := #[t, t] }) (e : TypeId) (i0 : TypeInfo) (z : Value) (size bytes : Nat) (ht : Tryz.prog.underlying t = some (.slice e)) (hi : Tryz.prog.info? e = some i0) (hz : i0.zero = some z)
    (hsize : i0.size = size) (hby : i0.bytes = bytes) (hzs : z.cells.size = size) (hsz : 0 < size) (v : Value) (k : Nat) (xs : List Value) (hs : a.eval s = v) (hown : w.ownsRow 0 e size v k xs)
    (ad : Addr) (m c : Nat) (news : List Value) (hx : a.eval x = .slice (some ad) m c) (hm : 0 < m) (hl : news.length = m * size) (hnews : ∀ j u, news[j]? = some u → w.cell? (ad.add j) = some u) (h1 : ∀ u ∈ news, u.oneCell' = true) (h63 : k + m ≤ maxLen) (h47 : (k + m) * bytes ≤ 140737488355328)
    (h : ∀ g cap w', w'.ownsRow 0 e size (.slice (some ⟨g, 0, none⟩) (k + m) cap) (k + m) (xs ++ news) → Fr (fun k => v.ownBlock = some k) w w' → (v.ownBlock = some g ∨ w.heap.size ≤ g) → wpList Tryz.prog ops Q rest (a.put o.dst (.slice (some ⟨g, 0, none⟩) (k + m) cap)) w') :
    wpList Tryz.prog ops Q (o :: rest) a w := by
  obtain ⟨g, cap, w', hr, h2, h3, hgb⟩ := run_own t o.type e i0 z size bytes ht hi hz hsize hby hzs hsz v k xs hown ad m c news hm hl hnews h1 h63 h47
  refine wpList_plain hgd fun K hK => ?_
  unfold Oper.wp execOp
  simp only [ho, resolve, invoke, builtin, Sem.run_bind, Sem.run_pure, Result.andThen_ok, List.map_toArray, List.map_cons, List.map_nil, hs, hx, hr]
  exact hK _ _ (h g cap w' h2 h3 hgb)
/-- the same, as a step of a region that draws -/
theorem step_own {ops : Array Oper} {o : Oper} {a : Act} {w : World} {K : Act → World → Prop} {Q : Exit → Act → World → Prop} {E : Prop} (hgd : o.guard = none) (s x : Operand) (t : TypeId)
    (ho : o.op = .call { callee := .builtin .append, args := #[s, x], argTypes := #[t, t] }) (e : TypeId) (i0 : TypeInfo) (z : Value) (size bytes : Nat) (ht : Tryz.prog.underlying t = some (.slice e)) (hi : Tryz.prog.info? e = some i0) (hz : i0.zero = some z)
    (hsize : i0.size = size) (hby : i0.bytes = bytes) (hzs : z.cells.size = size) (hsz : 0 < size) (v : Value) (k : Nat) (xs : List Value) (hs : a.eval s = v) (hown : w.ownsRow 0 e size v k xs)
    (ad : Addr) (m c : Nat) (news : List Value) (hx : a.eval x = .slice (some ad) m c) (hm : 0 < m) (hl : news.length = m * size) (hnews : ∀ j u, news[j]? = some u → w.cell? (ad.add j) = some u) (h1 : ∀ u ∈ news, u.oneCell' = true) (h63 : k + m ≤ maxLen) (h47 : (k + m) * bytes ≤ 140737488355328)
    (h : ∀ g cap w', w'.ownsRow 0 e size (.slice (some ⟨g, 0, none⟩) (k + m) cap) (k + m) (xs ++ news) → Fr (fun k => v.ownBlock = some k) w w' → (v.ownBlock = some g ∨ w.heap.size ≤ g) → K (a.put o.dst (.slice (some ⟨g, 0, none⟩) (k + m) cap)) w') :
    if Region.wanted o (yielded ops a.tmps) = true then Oper.wp Tryz.prog o a w K Q else E := by
  have hw : Region.wanted o (yielded ops a.tmps) = true := by simp [Region.wanted, hgd]
  rw [if_pos hw]
  obtain ⟨g, cap, w', hr, h2, h3, hgb⟩ := run_own t o.type e i0 z size bytes ht hi hz hsize hby hzs hsz v k xs hown ad m c news hm hl hnews h1 h63 h47
  unfold Oper.wp
  simp only [execOp, ho, resolve, invoke, builtin, Sem.run_bind, Sem.run_pure, Result.andThen_ok, List.map_toArray, List.map_cons, List.map_nil, hs, hx, hr]
  exact h g cap w' h2 h3 hgb
end Go.Proofs.YtflienghgobmoaaGreatDoor

namespace Go.Proofs.YtflienghgobmoaaGreatDoor
open Go.RowKit Rec

theorem isW_cases {n : Int} (h : isW n = true) : n = 1 ∨ n = 2 ∨ n = 4 ∨ n = 8 := by simp [isW] at h; omega
set_option maxRecDepth 100000 in
set_option maxHeartbeats 400000 in
theorem isWidth_any (w : World) (n : Int) (hT : TabAt w) : Calls Tryz.prog 130 #[.int .i64 n] w fun e w' => e = .returned (.bool (isW n)) ∧ w = w' := by
  have c0 := hT.wid 0 (by omega)
  have c1 := hT.wid 1 (by omega)
  have c2 := hT.wid 2 (by omega)
  have c3 := hT.wid 3 (by omega)
  simp only [nth, List.getD] at c0 c1 c2 c3
  clear hT
  have i0 : ∀ w, (Instr.index 202 (.agg #[.int .i64 1, .int .i64 2, .int .i64 4, .int .i64 8]) (.int .i64 0)).run Tryz.prog w = .ok (.int .i64 1) w := fun _ => by kernel_rfl
  have i1 : ∀ w, (Instr.index 202 (.agg #[.int .i64 1, .int .i64 2, .int .i64 4, .int .i64 8]) (.int .i64 1)).run Tryz.prog w = .ok (.int .i64 2) w := fun _ => by kernel_rfl
  have i2 : ∀ w, (Instr.index 202 (.agg #[.int .i64 1, .int .i64 2, .int .i64 4, .int .i64 8]) (.int .i64 2)).run Tryz.prog w = .ok (.int .i64 4) w := fun _ => by kernel_rfl
  have i3 : ∀ w, (Instr.index 202 (.agg #[.int .i64 1, .int .i64 2, .int .i64 4, .int .i64 8]) (.int .i64 3)).run Tryz.prog w = .ok (.int .i64 8) w := fun _ => by kernel_rfl
  go_enter Tryz.func130, Tryz.ntmps130
  go_wp2
  go_loop [6] (fun i => ∃ k : Nat, k ≤ 4 ∧ i = .int .i64 k ∧ ∀ j, j < k → n ≠ nth [1, 2, 4, 8] j) (fun i => 4 - (intOf i).toNat)
  case atStart => exact ⟨0, Nat.zero_le _, rfl, fun j hj => absurd hj (by omega)⟩
  case round =>
    obtain ⟨k, hk, rfl, hne⟩ := hrel
    have hkk : k = 0 ∨ k = 1 ∨ k = 2 ∨ k = 3 ∨ k = 4 := by omega
    have HN : Hid (∀ j, j < k → n ≠ nth [1, 2, 4, 8] j) := hne
    clear hne hk
    rcases hkk with rfl | rfl | rfl | rfl | rfl
    case' inl => have hd : n = 1 ∨ n ≠ 1 := by omega
    case' inr.inl => have hd : n = 2 ∨ n ≠ 2 := by omega
    case' inr.inr.inl => have hd : n = 4 ∨ n ≠ 4 := by omega
    case' inr.inr.inr.inl => have hd : n = 8 ∨ n ≠ 8 := by omega
    case' inr.inr.inr.inr =>
      have h0 := HN.out 0 (by omega)
      have h1 := HN.out 1 (by omega)
      have h2 := HN.out 2 (by omega)
      have h3 := HN.out 3 (by omega)
      have H' : isW n = false := by simp [nth] at h0 h1 h2 h3; simp [isW, h0, h1, h2, h3]
      have H : Hid (isW n = false) := H'
      clear H'
      clear h0 h1 h2 h3
      go_wp2
      go_ret
      exact ⟨by rw [H.out]; rfl, rfl⟩
    all_goals
      rcases hd with rfl | he
      · go_wp2
        go_ret
        exact ⟨rfl, rfl⟩
      · go_wp2
        go_round
        case rel => exact ⟨_, by omega, by go_num, fun j hj => (Nat.lt_succ_iff_lt_or_eq.1 hj).elim (fun h => HN.out j h) (fun h => by subst h; exact he)⟩
        case measure => simp [intOf]

set_option maxRecDepth 100000 in
set_option maxHeartbeats 400000 in
theorem lie_any (w : World) (a : Option Addr) (len c : Nat) (at_ n : Int) (hl : len ≤ 1000000000000000) (_h0 : 0 ≤ n) (ha : at_ ≤ 9223372036854775807) :
    Calls Tryz.prog 132 #[.slice a len c, .int .i64 at_, .int .i64 n] w fun e w' => e = .returned (.bool (lies len at_ n)) ∧ w = w' := by
  by_cases h : 0 ≤ at_
  · go_enter Tryz.func132, Tryz.ntmps132
    go_wp2
    go_ret
    refine ⟨?_, rfl⟩
    show Ending.returned (.bool (decide (n ≤ ↑len - at_))) = _
    have : decide (n ≤ ↑len - at_) = lies len at_ n := by unfold lies; exact decide_eq_decide.2 (by omega)
    rw [this]
  · go_enter Tryz.func132, Tryz.ntmps132
    go_wp2
    go_ret
    refine ⟨?_, rfl⟩
    have e : lies len at_ n = false := by unfold lies; exact decide_eq_false (by omega)
    rw [e]; rfl

set_option maxRecDepth 100000 in
set_option maxHeartbeats 400000 in
theorem hasWidth_any (w : World) (v n : Int) (hw : isW n = true) (h0 : 0 ≤ v) (h1 : v < 18446744073709551616) : Calls Tryz.prog 131 #[.int .u64 v, .int .i64 n] w fun e w' => e = .returned (.bool (has v n)) ∧ w = w' := by
  rcases isW_cases hw with rfl | rfl | rfl | rfl
  all_goals
    go_enter Tryz.func131, Tryz.ntmps131
    go_wp2
    go_ret
    refine ⟨?_, rfl⟩
  · show Ending.returned (.bool (v / 256 == 0)) = _
    have e : (v / 256 == 0) = has v 1 := by rw [Bool.eq_iff_iff]; simp [has]; omega
    rw [e]
  · show Ending.returned (.bool (v / 65536 == 0)) = _
    have e : (v / 65536 == 0) = has v 2 := by rw [Bool.eq_iff_iff]; simp [has]; omega
    rw [e]
  · show Ending.returned (.bool (v / 4294967296 == 0)) = _
    have e : (v / 4294967296 == 0) = has v 4 := by rw [Bool.eq_iff_iff]; simp [has]; omega
    rw [e]
  · show Ending.returned (.bool (v / 18446744073709551616 == 0)) = _
    have e : (v / 18446744073709551616 == 0) = has v 8 := by rw [Bool.eq_iff_iff]; simp [has]; omega
    rw [e]

set_option maxRecDepth 100000 in
set_option maxHeartbeats 400000 in
theorem sindex_lite (w : World) (s : ByteArray) : Calls Tryz.prog 205 #[.string s, .int .u8 0] w fun e w' => e = .returned (.int .i64 (Lib.indexByte s.data.toList (0 : Int).toNat.toUInt8)) ∧ w = w' := by
  go_enter Tryz.func205, Tryz.ntmps205
  go_wp2
  rw [run_callFunc_extern Tryz.func207 (by kernel_rfl) (by kernel_rfl) (by kernel_rfl) (e := Extern.BytealgIndexByte.indexByte) (by kernel_rfl), Lib.run_indexByteString]
  simp only [Result.andThen]
  rw [Oper.upon_value]
  go_wp2
  go_ret
  exact ⟨rfl, rfl⟩
theorem sfound (s : ByteArray) : (0 ≤ Lib.indexByte s.data.toList (0 : Int).toNat.toUInt8) ↔ ∃ i, i < s.size ∧ nth (sb s) i = 0 := by
  have key : ∀ k, s.data.toList[k]? = some (0 : Int).toNat.toUInt8 ↔ k < s.size ∧ nth (sb s) k = 0 := by
    intro k
    by_cases h : k < s.size
    · have h' : k < s.data.size := h
      rw [sb_nth s k h, Array.getElem?_toList, Array.getElem?_eq_getElem h', Option.some.injEq]
      constructor
      · intro e; exact ⟨h, by show ((s.data[k]).toNat : Int) = 0; rw [e]; rfl⟩
      · rintro ⟨_, e⟩
        have e' : ((s.data[k]).toNat : Int) = 0 := e
        exact UInt8.toNat.inj (by show _ = 0; omega)
    · rw [List.getElem?_eq_none (by rw [Array.length_toList]; exact Nat.le_of_not_lt h)]
      constructor
      · intro e; cases e
      · intro e; exact absurd e.1 h
  have hge := Lib.indexByte_ge s.data.toList (0 : Int).toNat.toUInt8
  generalize hr : Lib.indexByte s.data.toList (0 : Int).toNat.toUInt8 = r at *
  by_cases h : r = -1
  · subst h
    have hn := Lib.indexByte_none hr
    exact ⟨fun e => absurd e (by omega), fun ⟨i, hi⟩ => absurd ((key i).2 hi) (hn i)⟩
  · obtain ⟨o, rfl⟩ : ∃ o : Nat, r = o := ⟨r.toNat, by omega⟩
    have ⟨h1, _⟩ := Lib.indexByte_some hr
    exact ⟨fun _ => ⟨o, (key o).1 h1⟩, fun _ => by omega⟩
set_option maxRecDepth 100000 in
set_option maxHeartbeats 400000 in
theorem sindex_any (w : World) (s : ByteArray) : Calls Tryz.prog 198 #[.string s, .int .u8 0] w fun e w' => ∃ r : Int, (0 ≤ r ↔ ∃ i, i < s.size ∧ nth (sb s) i = 0) ∧ e = .returned (.int .i64 r) ∧ w = w' := by
  have hf := sfound s
  generalize hr : Lib.indexByte s.data.toList (0 : Int).toNat.toUInt8 = r at hf
  have HR : Hid (Lib.indexByte s.data.toList (0 : Int).toNat.toUInt8 = r) := hr
  have HF : Hid (0 ≤ r ↔ ∃ i, i < s.size ∧ nth (sb s) i = 0) := hf
  clear hr hf
  go_enter Tryz.func198, Tryz.ntmps198
  go_wp2_with (go_at_call 205; refine (sindex_lite _ _).mono ?_; rintro e w' ⟨rfl, rfl⟩; rw [HR.out])
  go_ret
  exact ⟨r, HF.out, rfl, rfl⟩
end Go.Proofs.YtflienghgobmoaaGreatDoor

namespace Go.Proofs.YtflienghgobmoaaGreatDoor
open Go.RowKit Rec

end Go.Proofs.YtflienghgobmoaaGreatDoor

namespace Go.Proofs.YtflienghgobmoaaGreatDoor
open Go.RowKit Rec

theorem OwnB.ovs {w : World} {g cap : Nat} {L : List Int} {A k : Nat} {f : Nat → Int} (h : OwnB w g cap (ov L A k f)) (hk : A + k < L.length) (hf : 0 ≤ f k ∧ f k < 256) :
    OwnB (w.setCell ⟨g, A + k, none⟩ (.int .u8 (f k))) g cap (ov L A (k + 1) f) := by
  have := h.set (A + k) (f k) (by rw [ov_length]; exact hk) hf
  rwa [ov_set _ _ _ _ hk] at this

set_option maxRecDepth 100000 in
set_option maxHeartbeats 1000000 in
theorem put_in (w : World) (g cap n c A W : Nat) (v : Int) (L : List Int) (hO : OwnB w g cap L) (hn : n ≤ L.length) (_hc : n ≤ c) (hT : TabAt w) (hv : 0 ≤ v ∧ v < 18446744073709551616) (hw : isW W = true) (hh : has v W = true) (hA : A + W ≤ n) :
    Calls Tryz.prog 90 #[.slice (some ⟨g, 0, none⟩) n c, .int .i64 A, .int .i64 W, .int .u64 v] w fun e w' => e = .returned (.int .i64 0) ∧ OwnB w' g cap (ov L A W (dig v)) ∧ w.grownBy w' (some g) := by
  have hlen := hO.len
  have hWc := isW_cases hw
  have HW : Hid (isW W = true) := hw
  have HH : Hid (has v W = true) := hh
  have HT : Hid (TabAt w) := hT
  have HO : Hid (OwnB w g cap L) := hO
  have hl : Hid (lies n A W = true) := by unfold lies; exact decide_eq_true (by omega)
  clear hO hT hw hh
  have hW1 : 1 ≤ W ∧ W ≤ 8 := by omega
  clear hWc
  go_enter Tryz.func90, Tryz.ntmps90
  go_wp2_with (go_at_call 130; refine (isWidth_any _ _ HT.out).mono ?_; rintro e w' ⟨rfl, rfl⟩; rw [HW.out])
  go_wp2_with (go_at_call 131; refine (hasWidth_any _ _ _ HW.out hv.1 hv.2).mono ?_; rintro e w' ⟨rfl, rfl⟩; rw [HH.out])
  go_wp2_with (go_at_call 132; refine (lie_any _ _ _ _ _ _ (by omega) (by omega) (by omega)).mono ?_; rintro e w' ⟨rfl, rfl⟩; rw [hl.out])
  rename World => w0
  go_loopw [25] (fun i wr => ∃ k : Nat, k ≤ W ∧ i = .int .i64 k ∧ OwnB wr g cap (ov L A k (dig v)) ∧ w0.grownBy wr (some g)) (fun i _ => W - (intOf i).toNat)
  case atStart => exact ⟨0, Nat.zero_le _, rfl, by rw [ov_zero]; exact HO.out, grown_refl _ _⟩
  case round =>
    obtain ⟨k, hk, rfl, how, hgr⟩ := hrel
    have HP : Hid (OwnB wr g cap (ov L A k (dig v))) := how
    have HG : Hid (w0.grownBy wr (some g)) := hgr
    clear how hgr
    by_cases hlt : k < W
    · have d := HP.out.cell (A + k) (by rw [ov_length]; omega)
      have f := HP.out.frozen (A + k)
      have HQ : Hid (OwnB (wr.setCell ⟨g, A + k, none⟩ (.int .u8 (v / 256 ^ k % 256))) g cap (ov L A (k + 1) (dig v))) := HP.out.ovs (by omega) (dig_bd v k)
      clear HP
      have hkk : k = 0 ∨ k = 1 ∨ k = 2 ∨ k = 3 ∨ k = 4 ∨ k = 5 ∨ k = 6 ∨ k = 7 := by omega
      rcases hkk with rfl | rfl | rfl | rfl | rfl | rfl | rfl | rfl
      case' inl => simp only [Nat.add_zero] at d f HQ
      all_goals
        go_wp2
        have e := HQ.out
        simp only [Int.reducePow, Int.pow_zero, Int.ediv_one] at e
        first
          | exact ⟨⟨_, hlt, rfl, e, grown_trans HG.out grown_set⟩, by simp [intOf]; omega⟩
          | (rw [Int.emod_eq_of_lt (by omega) (by omega)] at e
             exact ⟨⟨_, hlt, rfl, e, grown_trans HG.out grown_set⟩, by simp [intOf]; omega⟩)
    · go_wp2
      obtain rfl : k = W := by omega
      go_ret
      exact ⟨rfl, HP.out, HG.out⟩
end Go.Proofs.YtflienghgobmoaaGreatDoor

namespace Go.Proofs.YtflienghgobmoaaGreatDoor
open Go.RowKit Rec

/-- n bytes from A on -/
def fld (l : List Int) (A N : Nat) : List Int := (l.drop A).take N
theorem fld_length (l : List Int) (A N : Nat) (h : A + N ≤ l.length) : (fld l A N).length = N := by unfold fld; rw [List.length_take, List.length_drop]; omega
theorem nth_fld (l : List Int) (A N i : Nat) (h : i < N) : nth (fld l A N) i = nth l (A + i) := by unfold fld; rw [nth_take _ _ _ h, nth_drop]
theorem wf_fld {l : List Int} (h : ∀ i, 0 ≤ nth l i ∧ nth l i < 256) (A N : Nat) : ∀ i, 0 ≤ nth (fld l A N) i ∧ nth (fld l A N) i < 256 := wf_take (wf_drop h A) N
theorem Bytes.field {w : World} {b off A N : Nat} {l : List Int} (h : Bytes w (some ⟨b, off, none⟩) l) (hA : A + N ≤ l.length) (B : Nat) (hB : B = off + A ∨ N = 0) : Bytes w (some ⟨b, B, none⟩) (fld l A N) := by
  have hl := h.len
  refine ⟨by rw [fld_length l A N hA]; omega, wf_fld h.wf A N, ?_⟩
  rcases hB with rfl | rfl
  · refine .inr ⟨b, off + A, rfl, fun i hi => ?_⟩
    rw [fld_length l A N hA] at hi
    rw [nth_fld _ _ _ _ hi, Nat.add_assoc]; exact h.cell (by omega)
  · exact .inl (by simp [fld])

end Go.Proofs.YtflienghgobmoaaGreatDoor

namespace Go.Proofs.YtflienghgobmoaaGreatDoor
open Go.RowKit Rec

end Go.Proofs.YtflienghgobmoaaGreatDoor

namespace Go.Proofs.YtflienghgobmoaaGreatDoor
open Go.RowKit Rec

theorem OwnB.cells {g cap : Nat} : ∀ (m : List Int) (w : World) (off : Nat) (L : List Int), OwnB w g cap L → off + m.length ≤ L.length → (∀ i, 0 ≤ nth m i ∧ nth m i < 256) →
    OwnB (w.setCells g off (m.map (Value.int .u8))) g cap (ov L off m.length (nth m)) ∧ w.grownBy (w.setCells g off (m.map (Value.int .u8))) (some g)
  | [], w, off, L, h, _, _ => ⟨by rw [List.length_nil, ov_zero]; exact h, grown_refl _ _⟩
  | c :: t, w, off, L, h, hl, hw => by
    rw [List.length_cons] at hl
    have hc := hw 0
    have h1 := h.set off c (by omega) hc
    have hw' : ∀ i, 0 ≤ nth t i ∧ nth t i < 256 := fun i => hw (i + 1)
    have ⟨h2, h3⟩ := OwnB.cells t _ (off + 1) _ h1 (by rw [List.length_set]; omega) hw'
    refine ⟨?_, grown_trans grown_set h3⟩
    have e1 : L.set off c = ov L off 1 (nth (c :: t)) := by
      have := ov_set L off 0 (nth (c :: t)) (by omega)
      rw [ov_zero] at this
      exact this
    rw [e1] at h2
    rw [ov_ov L off 1 t.length (nth (c :: t)) (nth t) (nth (c :: t)) (fun _ _ => rfl) (fun i _ => by rw [Nat.add_comm]; rfl)] at h2
    rw [List.length_cons, Nat.add_comm]
    exact h2

theorem zero5 (w : World) : (zeroValue 5).run Tryz.prog w = .ok (.int .u8 0) w := by kernel_rfl
theorem sizeOf5 (w : World) : (Go.sizeOf 5).run Tryz.prog w = .ok 1 w := by kernel_rfl
theorem sb_cells (s : ByteArray) : (s.data.toList.map fun x => Value.int .u8 (x.toNat : Int)) = (sb s).map (Value.int .u8) := by unfold sb; rw [List.map_map]; rfl

theorem scopy_run {w : World} {g cap off B k c : Nat} {L : List Int} {t : ByteArray} (ty : TypeId) (hO : OwnB w g cap L) (hB : B = off ∨ k = 0) (hle : t.size ≤ k) (hfit : off + t.size ≤ L.length) :
    ∃ w', (Builtin.copy_ #[22, 9] ty #[.slice (some ⟨g, B, none⟩) k c, .string t]).run Tryz.prog w = .ok (.int .i64 t.size) w' ∧ OwnB w' g cap (ov L off t.size (nth (sb t))) ∧ w.grownBy w' (some g) := by
  by_cases h0 : t.size = 0
  · refine ⟨w, ?_, by rw [h0, ov_zero]; exact hO, grown_refl _ _⟩
    rw [Lib.run_copy_empty_string (P := Tryz.prog) w 22 9 ty 5 _ k c t Tryz.underlying22 (by kernel_rfl) h0, h0]; rfl
  · obtain rfl : B = off := by omega
    have ⟨h1, h2⟩ := OwnB.cells (sb t) w B L hO (by rw [sb_length]; exact hfit) (sb_bd t)
    rw [sb_length] at h1
    refine ⟨_, ?_, h1, h2⟩
    rw [run_copy_string (P := Tryz.prog) w 22 9 ty 5 g B k c t Tryz.underlying22 sizeOf5 hle (fun j hj => by rw [hO.cell (B + j) (by omega)]; rfl) (fun j hj => hO.frozen _), sb_cells]; rfl
theorem clear_run {w : World} {g cap off B k c : Nat} {L : List Int} (ty : TypeId) (hO : OwnB w g cap L) (hB : B = off ∨ k = 0) (hfit : off + k ≤ L.length) :
    ∃ w', (Builtin.clear_ #[22] ty #[.slice (some ⟨g, B, none⟩) k c]).run Tryz.prog w = .ok (.tuple #[]) w' ∧ OwnB w' g cap (ov L off k (fun _ => 0)) ∧ w.grownBy w' (some g) := by
  by_cases h0 : k = 0
  · subst h0
    exact ⟨w, by simp [Builtin.clear_, run_underlying Tryz.underlying22], by rw [ov_zero]; exact hO, grown_refl _ _⟩
  · obtain rfl : B = off := by omega
    have e : List.replicate k (Value.int .u8 0) = (List.replicate k (0 : Int)).map (Value.int .u8) := by rw [List.map_replicate]
    have hz : ∀ i, nth (List.replicate k (0 : Int)) i = 0 := fun i => by
      by_cases hi : i < k
      · simp [nth, List.getD, hi]
      · exact nth_out _ _ (by rw [List.length_replicate]; omega)
    have ⟨h1, h2⟩ := OwnB.cells (List.replicate k 0) w B L hO (by rw [List.length_replicate]; exact hfit) (fun i => by rw [hz]; omega)
    rw [List.length_replicate, show nth (List.replicate k (0 : Int)) = fun _ => 0 from funext hz] at h1
    refine ⟨_, ?_, h1, h2⟩
    rw [Lib.run_clear_slice (P := Tryz.prog) w 22 5 ty (.int .u8 0) Tryz.underlying22 zero5 rfl rfl g B k c (by omega) (fun j hj => by rw [hO.cell (B + j) (by omega)]; rfl) (fun j hj => hO.frozen _), e]

set_option maxRecDepth 100000 in
set_option maxHeartbeats 1000000 in
theorem ptx_in (w : World) (g cap n c A N : Nat) (s : ByteArray) (L : List Int) (hO : OwnB w g cap L) (hn : n ≤ L.length) (hc : n ≤ c) (hA : A + N ≤ n) (hs : s.size ≤ N) (hz : ¬ ∃ i, i < s.size ∧ nth (sb s) i = 0) :
    Calls Tryz.prog 181 #[.slice (some ⟨g, 0, none⟩) n c, .int .i64 A, .int .i64 N, .string s] w fun e w' => e = .returned (.int .i64 0) ∧ OwnB w' g cap (ov L A N (nth (sb s))) ∧ w.grownBy w' (some g) := by
  have hlen := hO.len
  have HO : Hid (OwnB w g cap L) := hO
  have HZ : Hid (¬ ∃ i, i < s.size ∧ nth (sb s) i = 0) := hz
  have hl : Hid (lies n A N = true) := by unfold lies; exact decide_eq_true (by omega)
  have HE : Hid (ov (ov L A s.size (nth (sb s))) (A + s.size) (N - s.size) (fun _ => 0) = ov L A N (nth (sb s))) := by
    show _ = _
    rw [ov_ov L A s.size (N - s.size) (nth (sb s)) (fun _ => 0) (nth (sb s)) (fun _ _ => rfl) (fun i _ => (nth_out _ _ (by rw [sb_length]; omega)).symm)]
    congr 1; omega
  clear hO hz
  go_enter Tryz.func181, Tryz.ntmps181
  go_wp2_with (go_at_call 198; refine (sindex_any _ _).mono ?_; rintro e w' ⟨r1, hr, rfl, rfl⟩; replace hr : ¬ 0 ≤ r1 := fun h => HZ.out (hr.1 h))
  go_wp2_with (go_at_call 132; refine (lie_any _ _ _ _ _ _ (by omega) (by omega) (by omega)).mono ?_; rintro e w' ⟨rfl, rfl⟩; rw [hl.out])
  case' inl => obtain ⟨w2, hr2, ho2, hg2⟩ := scopy_run (off := A) (B := 0) (k := N) (c := 0) (t := s) 3 HO.out (by omega) hs (by omega)
  case' inl => have hs0 : s.size = 0 := by omega
  case' inr => obtain ⟨w2, hr2, ho2, hg2⟩ := scopy_run (off := A) (B := A) (k := N) (c := c - A) (t := s) 3 HO.out (by omega) hs (by omega)
  all_goals
    rw [hr2]
    have HO2 : Hid (OwnB w2 g cap (ov L A s.size (nth (sb s)))) := ho2
    have HG2 : Hid (World.grownBy _ w2 (some g)) := hg2
    clear ho2 hg2 hr2
    simp only [Result.andThen]
    rw [Oper.upon_value]
    go_wp2
  all_goals first
    | (obtain ⟨w3, hr3, ho3, hg3⟩ := clear_run (off := A + s.size) (B := A) (k := N - s.size) (c := 0) 0 HO2.out (by omega) (by rw [ov_length]; omega)
       rw [hr3, Result.andThen_ok, Oper.upon_value]
       rw [HE.out] at ho3
       have HO3 : Hid (OwnB w3 g cap (ov L A N (nth (sb s)))) := ho3
       have HG3 : Hid (World.grownBy w2 w3 (some g)) := hg3
       clear ho3 hg3 hr3
       go_wp2
       go_ret
       exact ⟨rfl, HO3.out, grown_trans HG2.out HG3.out⟩)
    | (obtain ⟨w3, hr3, ho3, hg3⟩ := clear_run (off := A + s.size) (B := A + s.size) (k := N - s.size) (c := c - A - s.size) 0 HO2.out (by omega) (by rw [ov_length]; omega)
       rw [hr3, Result.andThen_ok, Oper.upon_value]
       rw [HE.out] at ho3
       have HO3 : Hid (OwnB w3 g cap (ov L A N (nth (sb s)))) := ho3
       have HG3 : Hid (World.grownBy w2 w3 (some g)) := hg3
       clear ho3 hg3 hr3
       go_wp2
       go_ret
       exact ⟨rfl, HO3.out, grown_trans HG2.out HG3.out⟩)
    | (obtain ⟨w3, hr3, ho3, hg3⟩ := clear_run (off := A + s.size) (B := 0) (k := N - s.size) (c := 0) 0 HO2.out (by omega) (by rw [ov_length]; omega)
       rw [hr3, Result.andThen_ok, Oper.upon_value]
       rw [HE.out] at ho3
       have HO3 : Hid (OwnB w3 g cap (ov L A N (nth (sb s)))) := ho3
       have HG3 : Hid (World.grownBy w2 w3 (some g)) := hg3
       clear ho3 hg3 hr3
       go_wp2
       go_ret
       exact ⟨rfl, HO3.out, grown_trans HG2.out HG3.out⟩)
    | (obtain ⟨w3, hr3, ho3, hg3⟩ := clear_run (off := A + s.size) (B := 0) (k := N) (c := 0) 0 HO2.out (by omega) (by rw [ov_length]; omega)
       rw [hr3, Result.andThen_ok, Oper.upon_value]
       rw [show ov (ov L A s.size (nth (sb s))) (A + s.size) N (fun _ => 0) = ov (ov L A s.size (nth (sb s))) (A + s.size) (N - s.size) (fun _ => 0) by rw [hs0, Nat.sub_zero], HE.out] at ho3
       have HO3 : Hid (OwnB w3 g cap (ov L A N (nth (sb s)))) := ho3
       have HG3 : Hid (World.grownBy w2 w3 (some g)) := hg3
       clear ho3 hg3 hr3
       go_wp2
       go_ret
       exact ⟨rfl, HO3.out, grown_trans HG2.out HG3.out⟩)
end Go.Proofs.YtflienghgobmoaaGreatDoor
