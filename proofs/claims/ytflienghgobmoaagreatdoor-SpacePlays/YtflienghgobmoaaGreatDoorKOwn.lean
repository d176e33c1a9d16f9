import Derived.Test.YtflienghgobmoaaGreatDoorKMathR
import Derived.Lib.BytesEntry
import Derived.Lib.IndexLaws
import Derived.Laws.BitsAllLaws
namespace Go.Proofs.YtflienghgobmoaaGreatDoor
open Go.RowKit Rec

/-- all rows but S's are kept -/
structure Fr (S : Nat → Prop) (w w' : World) : Prop where
  os : w'.os = w.os
  tape : w'.tape = w.tape
  output : w'.output = w.output
  size : w.heap.size ≤ w'.heap.size
  block : ∀ k, k < w.heap.size → ¬ S k → w'.heap[k]? = w.heap[k]?
theorem Fr.refl (S : Nat → Prop) (w : World) : Fr S w w := ⟨rfl, rfl, rfl, Nat.le_refl _, fun _ _ _ => rfl⟩
theorem Fr.trans {S T : Nat → Prop} {a b c : World} (x : Fr S a b) (y : Fr T b c) (h : ∀ k, T k → S k ∨ a.heap.size ≤ k) : Fr S a c :=
  ⟨y.os.trans x.os, y.tape.trans x.tape, y.output.trans x.output, Nat.le_trans x.size y.size, fun k hk hS => (y.block k (Nat.lt_of_lt_of_le hk x.size) (fun t => (h k t).elim hS (fun g => by omega))).trans (x.block k hk hS)⟩
theorem Fr.mono {S T : Nat → Prop} {a b : World} (x : Fr S a b) (h : ∀ k, S k → T k) : Fr T a b := ⟨x.os, x.tape, x.output, x.size, fun k hk hT => x.block k hk (fun s => hT (h k s))⟩
theorem Fr.below {S : Nat → Prop} {w w' : World} (x : Fr S w w') (B : Nat) (h : ∀ k, S k → B ≤ k) (hB : B ≤ w.heap.size) : Below B w w' :=
  ⟨x.os, x.tape, x.output, x.size, fun k hk => x.block k (by omega) (fun s => by have := h k s; omega)⟩
theorem below_fr {w w' : World} (x : Below w.heap.size w w') (S : Nat → Prop) : Fr S w w' := ⟨x.os, x.tape, x.output, x.size, fun k hk _ => x.block k hk⟩
theorem grown_fr {w w' : World} {r : Option Nat} (x : w.grownBy w' r) : Fr (fun k => r = some k) w w' := ⟨x.os, x.tape, x.output, x.size, fun k hk h => x.block k hk (fun e => h e.symm)⟩
theorem Fr.cell {S : Nat → Prop} {w w' : World} (x : Fr S w w') {p : Addr} {v : Value} (hc : w.cell? p = some v) (h : ¬ S p.block) : w'.cell? p = some v :=
  (World.cell?_of_block (x.block p.block (block_lt_of_cell hc) h)).trans hc
theorem Fr.heap {S : Nat → Prop} {w w' : World} (x : Fr S w w') {k : Nat} {o : Obj} (hc : w.heap[k]? = some o) (h : ¬ S k) : w'.heap[k]? = some o :=
  (x.block k (heap_lt hc) h).trans hc
theorem Fr.set {w : World} {g k : Nat} {v : Value} : Fr (fun i => i = g) w (w.setCell ⟨g, k, none⟩ v) :=
  ⟨rfl, rfl, rfl, by simp [World.setCell], fun i _ hr => Below.heap_setCell w ⟨g, k, none⟩ v i hr⟩
theorem fr_alloc (S : Nat → Prop) (w : World) (o : Obj) : Fr S w (w.alloc o) := below_fr ((Below.refl _ w).alloc (Nat.le_refl _) o) S

/-- where a slice lies -/
theorem owns_block {w : World} {B e size n : Nat} {v : Value} {xs : List Value} (h : w.ownsRow B e size v n xs) {k : Nat} (hk : v.ownBlock = some k) : k < w.heap.size := by
  rcases h.2 with ⟨rfl, _⟩ | ⟨g, cap, cur, rfl, _, hg, _⟩
  · cases hk
  · cases hk; exact heap_lt hg
theorem owns_fr {S : Nat → Prop} {w w' : World} {B e size n : Nat} {v : Value} {xs : List Value} (h : w.ownsRow B e size v n xs) (x : Fr S w w') (hk : ∀ k, v.ownBlock = some k → ¬ S k) : w'.ownsRow B e size v n xs := by
  refine ⟨h.1, ?_⟩
  rcases h.2 with h2 | ⟨g, cap, cur, rfl, h1, hg, h3⟩
  · exact .inl h2
  · exact .inr ⟨g, cap, cur, rfl, h1, x.heap hg (hk g rfl), h3⟩

/-- where an append lays its row -/
theorem own_block {w : World} {B : Nat} {v : Value} {k : Nat} {ts : List Value} (t ty e : TypeId) (i0 : TypeInfo) (z : Value) (size bytes : Nat) (ht : Tryz.prog.underlying t = some (.slice e)) (hi : Tryz.prog.info? e = some i0) (hz : i0.zero = some z) (hsize : i0.size = size) (hby : i0.bytes = bytes)
    (hown : w.ownsRow B e size v k ts) (ad : Addr) (m c : Nat) (news : List Value) (hl : news.length = m * size) (hnews : ∀ j u, news[j]? = some u → w.cell? (ad.add j) = some u) (h1 : ∀ u ∈ news, u.oneCell' = true) (hm : 0 < m) (h63 : k + m ≤ maxLen) (h47 : (k + m) * bytes ≤ 140737488355328)
    {v' : Value} {w' : World} (hr : (Builtin.append_ #[t, t] ty #[v, .slice (some ad) m c]).run Tryz.prog w = .ok v' w') : ∃ g cap, v' = .slice (some ⟨g, 0, none⟩) (k + m) cap ∧ (v.ownBlock = some g ∨ w.heap.size ≤ g) := by
  subst hsize hby
  have h63' : k + m ≤ 9223372036854775807 := h63
  rcases hown.2 with ⟨rfl, rfl⟩ | ⟨g, cap, cur, rfl, hbg, hg, hnc, hcm, hcs, htake⟩
  · have h := run_append_nil (P := Tryz.prog) w t ty e i0 z ht hi hz ad m c news hl hnews hm (by omega) (by rw [Nat.zero_add] at h47; omega)
    rw [h] at hr
    cases hr
    exact ⟨_, _, by rw [Nat.zero_add], .inr (Nat.le_refl _)⟩
  · by_cases hroom : k + m ≤ cap
    · have h := run_append_room (P := Tryz.prog) w t ty e i0 ht hi g k cap cur hg ad m c news hl hnews h1 hroom (by rw [hl, hcs, ← Nat.add_mul]; exact Nat.mul_le_mul_right _ hroom)
      rw [h] at hr
      cases hr
      exact ⟨_, _, rfl, .inl rfl⟩
    · have h := run_append_grow (P := Tryz.prog) w t ty e i0 z ht hi hz ⟨g, 0, none⟩ k cap ts hown.1 (hown.cells (g := g) rfl) ad m c news hl hnews (by omega) (by omega) (growslice_fits (by omega) h47)
      rw [h] at hr
      cases hr
      exact ⟨_, _, rfl, .inr (Nat.le_refl _)⟩
theorem run_own {w : World} (t ty : TypeId) (e : TypeId) (i0 : TypeInfo) (z : Value) (size bytes : Nat) (ht : Tryz.prog.underlying t = some (.slice e)) (hi : Tryz.prog.info? e = some i0) (hz : i0.zero = some z)
    (hsize : i0.size = size) (hby : i0.bytes = bytes) (hzs : z.cells.size = size) (hsz : 0 < size) (v : Value) (k : Nat) (xs : List Value) (hown : w.ownsRow 0 e size v k xs)
    (ad : Addr) (m c : Nat) (news : List Value) (hm : 0 < m) (hl : news.length = m * size) (hnews : ∀ j u, news[j]? = some u → w.cell? (ad.add j) = some u) (h1 : ∀ u ∈ news, u.oneCell' = true) (h63 : k + m ≤ maxLen) (h47 : (k + m) * bytes ≤ 140737488355328) :
    ∃ g cap w', (Builtin.append_ #[t, t] ty #[v, .slice (some ad) m c]).run Tryz.prog w = .ok (.slice (some ⟨g, 0, none⟩) (k + m) cap) w' ∧ w'.ownsRow 0 e size (.slice (some ⟨g, 0, none⟩) (k + m) cap) (k + m) (xs ++ news) ∧ Fr (fun k => v.ownBlock = some k) w w' ∧ (v.ownBlock = some g ∨ w.heap.size ≤ g) := by
  obtain ⟨v', w', hr, h2, h3, _⟩ := run_append_own (P := Tryz.prog) w 0 t ty e i0 z size bytes ht hi hz hsize hby hzs hsz v k xs hown ad m c news hl hnews h1 h63 h47 (Nat.zero_le _)
  obtain ⟨g, cap, rfl, hgb⟩ := own_block t ty e i0 z size bytes ht hi hz hsize hby hown ad m c news hl hnews h1 hm h63 h47 hr
  exact ⟨g, cap, w', hr, h2, grown_fr h3, hgb⟩
/-- 'append(s, x...)', s nil or a row of one's own -/
theorem wp_own {ops : Array Oper} {rest : List Oper} {o : Oper} {a : Act} {Q : Exit → Act → World → Prop} {w : World} (hgd : o.guard = none) (s x : Operand) (t : TypeId)
    (ho : o.op = .call { callee := .builtin .append, args := #[s, x], argTypes := #[t, t] }) (e : TypeId) (i0 : TypeInfo) (z : Value) (size bytes : Nat) (ht : Tryz.prog.underlying t = some (.slice e)) (hi : Tryz.prog.info? e = some i0) (hz : i0.zero = some z)
    (hsize : i0.size = size) (hby : i0.bytes = bytes) (hzs : z.cells.size = size) (hsz : 0 < size) (v : Value) (k : Nat) (xs : List Value) (hs : a.eval s = v) (hown : w.ownsRow 0 e size v k xs)
    (ad : Addr) (m c : Nat) (news : List Value) (hx : a.eval x = .slice (some ad) m c) (hm : 0 < m) (hl : news.length = m * size) (hnews : ∀ j u, news[j]? = some u → w.cell? (ad.add j) = some u) (h1 : ∀ u ∈ news, u.oneCell' = true) (h63 : k + m ≤ maxLen) (h47 : (k + m) * bytes ≤ 140737488355328)
    (h : ∀ g cap w', w'.ownsRow 0 e size (.slice (some ⟨g, 0, none⟩) (k + m) cap) (k + m) (xs ++ news) → Fr (fun k => v.ownBlock = some k) w w' → (v.ownBlock = some g ∨ w.heap.size ≤ g) → wpList Tryz.prog ops Q rest (a.put o.dst (.slice (some ⟨g, 0, none⟩) (k + m) cap)) w') :
    wpList Tryz.prog ops Q (o :: rest) a w := by
  obtain ⟨g, cap, w', hr, h2, h3, hgb⟩ := run_own t o.type e i0 z size bytes ht hi hz hsize hby hzs hsz v k xs hown ad m c news hm hl hnews h1 h63 h47
  refine wpList_plain hgd fun K hK => ?_
  unfold Oper.wp execOp
  simp only [ho, resolve, invoke, builtin, Sem.run_bind, Sem.run_pure, Result.andThen_ok, List.map_toArray, List.map_cons, List.map_nil, hs, hx, hr]
  exact hK _ _ (h g cap w' h2 h3 hgb)
/-- the same, as a step of a region that draws -/
theorem step_own {ops : Array Oper} {o : Oper} {a : Act} {w : World} {K : Act → World → Prop} {Q : Exit → Act → World → Prop} {E : Prop} (hgd : o.guard = none) (s x : Operand) (t : TypeId)
    (ho : o.op = .call { callee := .builtin .append, args := #[s, x], argTypes := #[t, t] }) (e : TypeId) (i0 : TypeInfo) (z : Value) (size bytes : Nat) (ht : Tryz.prog.underlying t = some (.slice e)) (hi : Tryz.prog.info? e = some i0) (hz : i0.zero = some z)
    (hsize : i0.size = size) (hby : i0.bytes = bytes) (hzs : z.cells.size = size) (hsz : 0 < size) (v : Value) (k : Nat) (xs : List Value) (hs : a.eval s = v) (hown : w.ownsRow 0 e size v k xs)
    (ad : Addr) (m c : Nat) (news : List Value) (hx : a.eval x = .slice (some ad) m c) (hm : 0 < m) (hl : news.length = m * size) (hnews : ∀ j u, news[j]? = some u → w.cell? (ad.add j) = some u) (h1 : ∀ u ∈ news, u.oneCell' = true) (h63 : k + m ≤ maxLen) (h47 : (k + m) * bytes ≤ 140737488355328)
    (h : ∀ g cap w', w'.ownsRow 0 e size (.slice (some ⟨g, 0, none⟩) (k + m) cap) (k + m) (xs ++ news) → Fr (fun k => v.ownBlock = some k) w w' → (v.ownBlock = some g ∨ w.heap.size ≤ g) → K (a.put o.dst (.slice (some ⟨g, 0, none⟩) (k + m) cap)) w') :
    if Region.wanted o (yielded ops a.tmps) = true then Oper.wp Tryz.prog o a w K Q else E := by
  have hw : Region.wanted o (yielded ops a.tmps) = true := by simp [Region.wanted, hgd]
  rw [if_pos hw]
  obtain ⟨g, cap, w', hr, h2, h3, hgb⟩ := run_own t o.type e i0 z size bytes ht hi hz hsize hby hzs hsz v k xs hown ad m c news hm hl hnews h1 h63 h47
  unfold Oper.wp
  simp only [execOp, ho, resolve, invoke, builtin, Sem.run_bind, Sem.run_pure, Result.andThen_ok, List.map_toArray, List.map_cons, List.map_nil, hs, hx, hr]
  exact h g cap w' h2 h3 hgb
end Go.Proofs.YtflienghgobmoaaGreatDoor

namespace Go.Proofs.YtflienghgobmoaaGreatDoor
open Go.RowKit Rec

theorem isW_cases {n : Int} (h : isW n = true) : n = 1 ∨ n = 2 ∨ n = 4 ∨ n = 8 := by simp [isW] at h; omega
set_option maxRecDepth 100000 in
set_option maxHeartbeats 400000 in
theorem isWidth_any (w : World) (n : Int) (hT : TabAt w) : Calls Tryz.prog 130 #[.int .i64 n] w fun e w' => e = .returned (.bool (isW n)) ∧ w = w' := by
  have c0 := hT.wid 0 (by omega)
  have c1 := hT.wid 1 (by omega)
  have c2 := hT.wid 2 (by omega)
  have c3 := hT.wid 3 (by omega)
  simp only [nth, List.getD] at c0 c1 c2 c3
  clear hT
  have i0 : ∀ w, (Instr.index 202 (.agg #[.int .i64 1, .int .i64 2, .int .i64 4, .int .i64 8]) (.int .i64 0)).run Tryz.prog w = .ok (.int .i64 1) w := fun _ => by kernel_rfl
  have i1 : ∀ w, (Instr.index 202 (.agg #[.int .i64 1, .int .i64 2, .int .i64 4, .int .i64 8]) (.int .i64 1)).run Tryz.prog w = .ok (.int .i64 2) w := fun _ => by kernel_rfl
  have i2 : ∀ w, (Instr.index 202 (.agg #[.int .i64 1, .int .i64 2, .int .i64 4, .int .i64 8]) (.int .i64 2)).run Tryz.prog w = .ok (.int .i64 4) w := fun _ => by kernel_rfl
  have i3 : ∀ w, (Instr.index 202 (.agg #[.int .i64 1, .int .i64 2, .int .i64 4, .int .i64 8]) (.int .i64 3)).run Tryz.prog w = .ok (.int .i64 8) w := fun _ => by kernel_rfl
  go_enter Tryz.func130, Tryz.ntmps130
  go_wp2
  go_loop [6] (fun i => ∃ k : Nat, k ≤ 4 ∧ i = .int .i64 k ∧ ∀ j, j < k → n ≠ nth [1, 2, 4, 8] j) (fun i => 4 - (intOf i).toNat)
  case atStart => exact ⟨0, Nat.zero_le _, rfl, fun j hj => absurd hj (by omega)⟩
  case round =>
    obtain ⟨k, hk, rfl, hne⟩ := hrel
    have hkk : k = 0 ∨ k = 1 ∨ k = 2 ∨ k = 3 ∨ k = 4 := by omega
    have HN : Hid (∀ j, j < k → n ≠ nth [1, 2, 4, 8] j) := hne
    clear hne hk
    rcases hkk with rfl | rfl | rfl | rfl | rfl
    case' inl => have hd : n = 1 ∨ n ≠ 1 := by omega
    case' inr.inl => have hd : n = 2 ∨ n ≠ 2 := by omega
    case' inr.inr.inl => have hd : n = 4 ∨ n ≠ 4 := by omega
    case' inr.inr.inr.inl => have hd : n = 8 ∨ n ≠ 8 := by omega
    case' inr.inr.inr.inr =>
      have h0 := HN.out 0 (by omega)
      have h1 := HN.out 1 (by omega)
      have h2 := HN.out 2 (by omega)
      have h3 := HN.out 3 (by omega)
      have H' : isW n = false := by simp [nth] at h0 h1 h2 h3; simp [isW, h0, h1, h2, h3]
      have H : Hid (isW n = false) := H'
      clear H'
      clear h0 h1 h2 h3
      go_wp2
      go_ret
      exact ⟨by rw [H.out]; rfl, rfl⟩
    all_goals
      rcases hd with rfl | he
      · go_wp2
        go_ret
        exact ⟨rfl, rfl⟩
      · go_wp2
        go_round
        case rel => exact ⟨_, by omega, by go_num, fun j hj => (Nat.lt_succ_iff_lt_or_eq.1 hj).elim (fun h => HN.out j h) (fun h => by subst h; exact he)⟩
        case measure => simp [intOf]

set_option maxRecDepth 100000 in
set_option maxHeartbeats 400000 in
theorem lie_any (w : World) (a : Option Addr) (len c : Nat) (at_ n : Int) (hl : len ≤ 1000000000000000) (_h0 : 0 ≤ n) (ha : at_ ≤ 9223372036854775807) :
    Calls Tryz.prog 132 #[.slice a len c, .int .i64 at_, .int .i64 n] w fun e w' => e = .returned (.bool (lies len at_ n)) ∧ w = w' := by
  by_cases h : 0 ≤ at_
  · go_enter Tryz.func132, Tryz.ntmps132
    go_wp2
    go_ret
    refine ⟨?_, rfl⟩
    show Ending.returned (.bool (decide (n ≤ ↑len - at_))) = _
    have : decide (n ≤ ↑len - at_) = lies len at_ n := by unfold lies; exact decide_eq_decide.2 (by omega)
    rw [this]
  · go_enter Tryz.func132, Tryz.ntmps132
    go_wp2
    go_ret
    refine ⟨?_, rfl⟩
    have e : lies len at_ n = false := by unfold lies; exact decide_eq_false (by omega)
    rw [e]; rfl

set_option maxRecDepth 100000 in
set_option maxHeartbeats 400000 in
theorem hasWidth_any (w : World) (v n : Int) (hw : isW n = true) (h0 : 0 ≤ v) (h1 : v < 18446744073709551616) : Calls Tryz.prog 131 #[.int .u64 v, .int .i64 n] w fun e w' => e = .returned (.bool (has v n)) ∧ w = w' := by
  rcases isW_cases hw with rfl | rfl | rfl | rfl
  all_goals
    go_enter Tryz.func131, Tryz.ntmps131
    go_wp2
    go_ret
    refine ⟨?_, rfl⟩
  · show Ending.returned (.bool (v / 256 == 0)) = _
    have e : (v / 256 == 0) = has v 1 := by rw [Bool.eq_iff_iff]; simp [has]; omega
    rw [e]
  · show Ending.returned (.bool (v / 65536 == 0)) = _
    have e : (v / 65536 == 0) = has v 2 := by rw [Bool.eq_iff_iff]; simp [has]; omega
    rw [e]
  · show Ending.returned (.bool (v / 4294967296 == 0)) = _
    have e : (v / 4294967296 == 0) = has v 4 := by rw [Bool.eq_iff_iff]; simp [has]; omega
    rw [e]
  · show Ending.returned (.bool (v / 18446744073709551616 == 0)) = _
    have e : (v / 18446744073709551616 == 0) = has v 8 := by rw [Bool.eq_iff_iff]; simp [has]; omega
    rw [e]

set_option maxRecDepth 100000 in
set_option maxHeartbeats 400000 in
theorem sindex_lite (w : World) (s : ByteArray) : Calls Tryz.prog 205 #[.string s, .int .u8 0] w fun e w' => e = .returned (.int .i64 (Lib.indexByte s.data.toList (0 : Int).toNat.toUInt8)) ∧ w = w' := by
  go_enter Tryz.func205, Tryz.ntmps205
  go_wp2
  rw [run_callFunc_extern Tryz.func207 (by kernel_rfl) (by kernel_rfl) (by kernel_rfl) (e := Extern.BytealgIndexByte.indexByte) (by kernel_rfl), Lib.run_indexByteString]
  simp only [Result.andThen]
  rw [Oper.upon_value]
  go_wp2
  go_ret
  exact ⟨rfl, rfl⟩
theorem sfound (s : ByteArray) : (0 ≤ Lib.indexByte s.data.toList (0 : Int).toNat.toUInt8) ↔ ∃ i, i < s.size ∧ nth (sb s) i = 0 := by
  have key : ∀ k, s.data.toList[k]? = some (0 : Int).toNat.toUInt8 ↔ k < s.size ∧ nth (sb s) k = 0 := by
    intro k
    by_cases h : k < s.size
    · have h' : k < s.data.size := h
      rw [sb_nth s k h, Array.getElem?_toList, Array.getElem?_eq_getElem h', Option.some.injEq]
      constructor
      · intro e; exact ⟨h, by show ((s.data[k]).toNat : Int) = 0; rw [e]; rfl⟩
      · rintro ⟨_, e⟩
        have e' : ((s.data[k]).toNat : Int) = 0 := e
        exact UInt8.toNat.inj (by show _ = 0; omega)
    · rw [List.getElem?_eq_none (by rw [Array.length_toList]; exact Nat.le_of_not_lt h)]
      constructor
      · intro e; cases e
      · intro e; exact absurd e.1 h
  have hge := Lib.indexByte_ge s.data.toList (0 : Int).toNat.toUInt8
  generalize hr : Lib.indexByte s.data.toList (0 : Int).toNat.toUInt8 = r at *
  by_cases h : r = -1
  · subst h
    have hn := Lib.indexByte_none hr
    exact ⟨fun e => absurd e (by omega), fun ⟨i, hi⟩ => absurd ((key i).2 hi) (hn i)⟩
  · obtain ⟨o, rfl⟩ : ∃ o : Nat, r = o := ⟨r.toNat, by omega⟩
    have ⟨h1, _⟩ := Lib.indexByte_some hr
    exact ⟨fun _ => ⟨o, (key o).1 h1⟩, fun _ => by omega⟩
set_option maxRecDepth 100000 in
set_option maxHeartbeats 400000 in
theorem sindex_any (w : World) (s : ByteArray) : Calls Tryz.prog 198 #[.string s, .int .u8 0] w fun e w' => ∃ r : Int, (0 ≤ r ↔ ∃ i, i < s.size ∧ nth (sb s) i = 0) ∧ e = .returned (.int .i64 r) ∧ w = w' := by
  have hf := sfound s
  generalize hr : Lib.indexByte s.data.toList (0 : Int).toNat.toUInt8 = r at hf
  have HR : Hid (Lib.indexByte s.data.toList (0 : Int).toNat.toUInt8 = r) := hr
  have HF : Hid (0 ≤ r ↔ ∃ i, i < s.size ∧ nth (sb s) i = 0) := hf
  clear hr hf
  go_enter Tryz.func198, Tryz.ntmps198
  go_wp2_with (go_at_call 205; refine (sindex_lite _ _).mono ?_; rintro e w' ⟨rfl, rfl⟩; rw [HR.out])
  go_ret
  exact ⟨r, HF.out, rfl, rfl⟩
end Go.Proofs.YtflienghgobmoaaGreatDoor

namespace Go.Proofs.YtflienghgobmoaaGreatDoor
open Go.RowKit Rec

end Go.Proofs.YtflienghgobmoaaGreatDoor

namespace Go.Proofs.YtflienghgobmoaaGreatDoor
open Go.RowKit Rec

theorem OwnB.ovs {w : World} {g cap : Nat} {L : List Int} {A k : Nat} {f : Nat → Int} (h : OwnB w g cap (ov L A k f)) (hk : A + k < L.length) (hf : 0 ≤ f k ∧ f k < 256) :
    OwnB (w.setCell ⟨g, A + k, none⟩ (.int .u8 (f k))) g cap (ov L A (k + 1) f) := by
  have := h.set (A + k) (f k) (by rw [ov_length]; exact hk) hf
  rwa [ov_set _ _ _ _ hk] at this

set_option maxRecDepth 100000 in
set_option maxHeartbeats 1000000 in
theorem put_in (w : World) (g cap n c A W : Nat) (v : Int) (L : List Int) (hO : OwnB w g cap L) (hn : n ≤ L.length) (_hc : n ≤ c) (hT : TabAt w) (hv : 0 ≤ v ∧ v < 18446744073709551616) (hw : isW W = true) (hh : has v W = true) (hA : A + W ≤ n) :
    Calls Tryz.prog 90 #[.slice (some ⟨g, 0, none⟩) n c, .int .i64 A, .int .i64 W, .int .u64 v] w fun e w' => e = .returned (.int .i64 0) ∧ OwnB w' g cap (ov L A W (dig v)) ∧ w.grownBy w' (some g) := by
  have hlen := hO.len
  have hWc := isW_cases hw
  have HW : Hid (isW W = true) := hw
  have HH : Hid (has v W = true) := hh
  have HT : Hid (TabAt w) := hT
  have HO : Hid (OwnB w g cap L) := hO
  have hl : Hid (lies n A W = true) := by unfold lies; exact decide_eq_true (by omega)
  clear hO hT hw hh
  have hW1 : 1 ≤ W ∧ W ≤ 8 := by omega
  clear hWc
  go_enter Tryz.func90, Tryz.ntmps90
  go_wp2_with (go_at_call 130; refine (isWidth_any _ _ HT.out).mono ?_; rintro e w' ⟨rfl, rfl⟩; rw [HW.out])
  go_wp2_with (go_at_call 131; refine (hasWidth_any _ _ _ HW.out hv.1 hv.2).mono ?_; rintro e w' ⟨rfl, rfl⟩; rw [HH.out])
  go_wp2_with (go_at_call 132; refine (lie_any _ _ _ _ _ _ (by omega) (by omega) (by omega)).mono ?_; rintro e w' ⟨rfl, rfl⟩; rw [hl.out])
  rename World => w0
  go_loopw [25] (fun i wr => ∃ k : Nat, k ≤ W ∧ i = .int .i64 k ∧ OwnB wr g cap (ov L A k (dig v)) ∧ w0.grownBy wr (some g)) (fun i _ => W - (intOf i).toNat)
  case atStart => exact ⟨0, Nat.zero_le _, rfl, by rw [ov_zero]; exact HO.out, grown_refl _ _⟩
  case round =>
    obtain ⟨k, hk, rfl, how, hgr⟩ := hrel
    have HP : Hid (OwnB wr g cap (ov L A k (dig v))) := how
    have HG : Hid (w0.grownBy wr (some g)) := hgr
    clear how hgr
    by_cases hlt : k < W
    · have d := HP.out.cell (A + k) (by rw [ov_length]; omega)
      have f := HP.out.frozen (A + k)
      have HQ : Hid (OwnB (wr.setCell ⟨g, A + k, none⟩ (.int .u8 (v / 256 ^ k % 256))) g cap (ov L A (k + 1) (dig v))) := HP.out.ovs (by omega) (dig_bd v k)
      clear HP
      have hkk : k = 0 ∨ k = 1 ∨ k = 2 ∨ k = 3 ∨ k = 4 ∨ k = 5 ∨ k = 6 ∨ k = 7 := by omega
      rcases hkk with rfl | rfl | rfl | rfl | rfl | rfl | rfl | rfl
      case' inl => simp only [Nat.add_zero] at d f HQ
      all_goals
        go_wp2
        have e := HQ.out
        simp only [Int.reducePow, Int.pow_zero, Int.ediv_one] at e
        first
          | exact ⟨⟨_, hlt, rfl, e, grown_trans HG.out grown_set⟩, by simp [intOf]; omega⟩
          | (rw [Int.emod_eq_of_lt (by omega) (by omega)] at e
             exact ⟨⟨_, hlt, rfl, e, grown_trans HG.out grown_set⟩, by simp [intOf]; omega⟩)
    · go_wp2
      obtain rfl : k = W := by omega
      go_ret
      exact ⟨rfl, HP.out, HG.out⟩
end Go.Proofs.YtflienghgobmoaaGreatDoor

namespace Go.Proofs.YtflienghgobmoaaGreatDoor
open Go.RowKit Rec

/-- n bytes from A on -/
def fld (l : List Int) (A N : Nat) : List Int := (l.drop A).take N
theorem fld_length (l : List Int) (A N : Nat) (h : A + N ≤ l.length) : (fld l A N).length = N := by unfold fld; rw [List.length_take, List.length_drop]; omega
theorem nth_fld (l : List Int) (A N i : Nat) (h : i < N) : nth (fld l A N) i = nth l (A + i) := by unfold fld; rw [nth_take _ _ _ h, nth_drop]
theorem wf_fld {l : List Int} (h : ∀ i, 0 ≤ nth l i ∧ nth l i < 256) (A N : Nat) : ∀ i, 0 ≤ nth (fld l A N) i ∧ nth (fld l A N) i < 256 := wf_take (wf_drop h A) N
theorem Bytes.field {w : World} {b off A N : Nat} {l : List Int} (h : Bytes w (some ⟨b, off, none⟩) l) (hA : A + N ≤ l.length) (B : Nat) (hB : B = off + A ∨ N = 0) : Bytes w (some ⟨b, B, none⟩) (fld l A N) := by
  have hl := h.len
  refine ⟨by rw [fld_length l A N hA]; omega, wf_fld h.wf A N, ?_⟩
  rcases hB with rfl | rfl
  · refine .inr ⟨b, off + A, rfl, fun i hi => ?_⟩
    rw [fld_length l A N hA] at hi
    rw [nth_fld _ _ _ _ hi, Nat.add_assoc]; exact h.cell (by omega)
  · exact .inl (by simp [fld])

end Go.Proofs.YtflienghgobmoaaGreatDoor

namespace Go.Proofs.YtflienghgobmoaaGreatDoor
open Rec

/-- bit i: 1 or 0 -/
def bn (l : List Int) (i : Nat) : Int := nth l (i / 8) / 2 ^ (i % 8) % 2
/-- is bit i on? -/
def bt (l : List Int) (i : Nat) : Bool := bn l i == 1
/-- a byte with its bit k put on or off -/
def byt (x : Int) (k : Nat) (on : Bool) : Int := x - x / 2 ^ k % 2 * 2 ^ k + (if on then 2 ^ k else 0)
/-- the bytes with bit i put on or off -/
def bput (l : List Int) (i : Nat) (on : Bool) : List Int := l.set (i / 8) (byt (nth l (i / 8)) (i % 8) on)
/-- how many of the n bits from a on are on -/
def cn (l : List Int) (a : Nat) : Nat → Int
  | 0 => 0
  | n + 1 => cn l a n + bn l (a + n)
/-- how many bits are off just ahead of i -/
def offs (l : List Int) : Nat → Nat
  | 0 => 0
  | i + 1 => if bn l i = 0 then offs l i + 1 else 0
/-- the rows that have come to an end ahead of n -/
def rows (l : List Int) : Nat → List (Nat × Nat)
  | 0 => []
  | n + 1 => rows l n ++ (if bn l n = 1 ∧ 0 < offs l n then [(n - offs l n, offs l n)] else [])
/-- the rows of the first n bits, the one under way with them -/
def rowsE (l : List Int) (n : Nat) : List (Nat × Nat) := rows l n ++ (if 0 < offs l n then [(n - offs l n, offs l n)] else [])
/-- all rows -/
def runs (l : List Int) : List (Nat × Nat) := rowsE l (8 * l.length)

theorem bn_or (l : List Int) (i : Nat) : bn l i = 0 ∨ bn l i = 1 := by unfold bn; omega
theorem bn_bd (l : List Int) (i : Nat) : 0 ≤ bn l i ∧ bn l i ≤ 1 := by unfold bn; omega
theorem bt_iff (l : List Int) (i : Nat) : bt l i = true ↔ bn l i = 1 := by simp [bt]
theorem bt_not (l : List Int) (i : Nat) : bt l i = false ↔ bn l i = 0 := by
  have := bn_or l i
  simp [bt]; omega
theorem pow2 (k : Nat) (h : k < 8) : (2 : Int) ^ k = 1 ∨ (2 : Int) ^ k = 2 ∨ (2 : Int) ^ k = 4 ∨ (2 : Int) ^ k = 8 ∨ (2 : Int) ^ k = 16 ∨ (2 : Int) ^ k = 32 ∨ (2 : Int) ^ k = 64 ∨ (2 : Int) ^ k = 128 := by
  have : ∀ k, k < 8 → ((2 : Int) ^ k = 1 ∨ (2 : Int) ^ k = 2 ∨ (2 : Int) ^ k = 4 ∨ (2 : Int) ^ k = 8 ∨ (2 : Int) ^ k = 16 ∨ (2 : Int) ^ k = 32 ∨ (2 : Int) ^ k = 64 ∨ (2 : Int) ^ k = 128) := by decide
  exact this k h
theorem byt_bd (x : Int) (k : Nat) (on : Bool) (hk : k < 8) (hx : 0 ≤ x ∧ x < 256) : 0 ≤ byt x k on ∧ byt x k on < 256 := by
  unfold byt
  cases on <;> simp only [if_true, Bool.false_eq_true, if_false]
  all_goals
    rcases pow2 k hk with e | e | e | e | e | e | e | e <;> rw [e] <;> omega
theorem byt_bit (k j : Nat) (hk : k < 8) (hj : j < 8) (x : Int) (on : Bool) (hx : 0 ≤ x ∧ x < 256) : byt x k on / 2 ^ j % 2 = if j = k then (if on then 1 else 0) else x / 2 ^ j % 2 := by
  have H : ∀ k, k < 8 → ∀ j, j < 8 → ∀ x, x < 256 → ∀ on : Bool, byt (x : Nat) k on / 2 ^ j % 2 = if j = k then (if on then 1 else 0) else ((x : Nat) : Int) / 2 ^ j % 2 := by decide +kernel
  obtain ⟨n, rfl⟩ := Int.eq_ofNat_of_zero_le hx.1
  exact H k hk j hj n (by omega) on
theorem bput_length (l : List Int) (i : Nat) (on : Bool) : (bput l i on).length = l.length := by simp [bput]
theorem bn_bput (l : List Int) (i j : Nat) (on : Bool) (hl : ∀ i, 0 ≤ nth l i ∧ nth l i < 256) (hi : i / 8 < l.length) : bn (bput l i on) j = if j = i then (if on then 1 else 0) else bn l j := by
  unfold bn
  rw [bput, nth_set _ _ _ _ hi]
  by_cases e : j / 8 = i / 8
  · rw [if_pos e, byt_bit _ _ (by omega) (by omega) _ _ (hl _), e]
    by_cases e2 : j = i
    · subst e2; simp
    · rw [if_neg e2, if_neg (by omega)]
  · rw [if_neg e, if_neg (by intro h; subst h; exact e rfl)]
theorem cn_bd (l : List Int) (a n : Nat) : 0 ≤ cn l a n ∧ cn l a n ≤ n := by
  induction n with
  | zero => simp [cn]
  | succ n ih => have := bn_bd l (a + n); rw [cn]; omega
theorem offs_le (l : List Int) (n : Nat) : offs l n ≤ n := by
  induction n with
  | zero => simp [offs]
  | succ n ih => rw [offs]; split <;> omega
/-- the bits just ahead that are off, and the one ahead of them that is on -/
theorem offs_off (l : List Int) (n : Nat) : (∀ j, n - offs l n ≤ j → j < n → bn l j = 0) ∧ (offs l n < n → bn l (n - offs l n - 1) = 1) := by
  induction n with
  | zero => exact ⟨fun j h1 h2 => by omega, fun h => by simp [offs] at h⟩
  | succ n ih =>
    have hle := offs_le l n
    rw [offs]
    by_cases c : bn l n = 0
    · rw [if_pos c]
      refine ⟨fun j h1 h2 => ?_, fun h => ?_⟩
      · by_cases e : j = n
        · subst e; exact c
        · exact ih.1 j (by omega) (by omega)
      · have := ih.2 (by omega)
        rw [show n + 1 - (offs l n + 1) - 1 = n - offs l n - 1 by omega]; exact this
    · rw [if_neg c]
      refine ⟨fun j h1 h2 => by omega, fun h => ?_⟩
      have := bn_or l n
      show bn l (n + 1 - 0 - 1) = 1
      rw [show n + 1 - 0 - 1 = n by omega]; omega
theorem offs_cong {l m : List Int} {n : Nat} (h : ∀ j, j < n → bn l j = bn m j) : offs l n = offs m n := by
  induction n with
  | zero => rfl
  | succ n ih => rw [offs, offs, ih (fun j hj => h j (by omega)), h n (by omega)]
theorem rows_cong {l m : List Int} {n : Nat} (h : ∀ j, j < n → bn l j = bn m j) : rows l n = rows m n := by
  induction n with
  | zero => rfl
  | succ n ih => rw [rows, rows, ih (fun j hj => h j (by omega)), h n (by omega), offs_cong (fun j hj => h j (by omega))]
theorem bn_app {l m : List Int} {j : Nat} (h : j < 8 * l.length) : bn (l ++ m) j = bn l j := by
  unfold bn
  rw [show nth (l ++ m) (j / 8) = nth l (j / 8) by simp [nth, List.getD, List.getElem?_append, show j / 8 < l.length by omega]]
theorem bn_255 {l : List Int} {j : Nat} (h : 8 * l.length ≤ j) (h2 : j < 8 * l.length + 8) : bn (l ++ [255]) j = 1 := by
  unfold bn
  rw [show nth (l ++ [255]) (j / 8) = 255 by simp [nth, List.getD, List.getElem?_append, show ¬ j / 8 < l.length by omega, show j / 8 - l.length = 0 by omega]]
  rcases pow2 (j % 8) (by omega) with e | e | e | e | e | e | e | e <;> rw [e] <;> omega
/-- with a byte of bits that are on behind the others all rows come to an end -/
theorem rows_all (l : List Int) (k : Nat) (h1 : 1 ≤ k) (h8 : k ≤ 8) : rows (l ++ [255]) (8 * l.length + k) = runs l ∧ offs (l ++ [255]) (8 * l.length + k) = 0 := by
  induction k with
  | zero => omega
  | succ k ih =>
    have hb : bn (l ++ [255]) (8 * l.length + k) = 1 := bn_255 (by omega) (by omega)
    rw [← Nat.add_assoc, rows, offs, hb]
    by_cases c : k = 0
    · subst c
      rw [Nat.add_zero, rows_cong (m := l) (fun j hj => bn_app hj), offs_cong (m := l) (fun j hj => bn_app hj)]
      unfold runs rowsE
      simp
    · have := ih (by omega) (by omega)
      rw [this.1, this.2]
      simp
/-- one row of l: where it begins and how long it is; 'e': no row is known to end behind it -/
structure IsRow (l : List Int) (at_ k : Nat) : Prop where
  pos : 0 < k
  top : at_ + k ≤ 8 * l.length
  off : ∀ j, at_ ≤ j → j < at_ + k → bn l j = 0
  pre : 0 < at_ → bn l (at_ - 1) = 1
  post : at_ + k < 8 * l.length → bn l (at_ + k) = 1
/-- how long rows are together -/
def tot : List (Nat × Nat) → Nat
  | [] => 0
  | p :: r => p.2 + tot r
theorem tot_app (a b : List (Nat × Nat)) : tot (a ++ b) = tot a + tot b := by
  induction a with
  | nil => simp [tot]
  | cons p a ih => simp [tot, ih]; omega
/-- where the last row ends -/
def endOf : List (Nat × Nat) → Nat
  | [] => 0
  | [p] => p.1 + p.2
  | _ :: r => endOf r
theorem endOf_snoc (a : List (Nat × Nat)) (p : Nat × Nat) : endOf (a ++ [p]) = p.1 + p.2 := by
  induction a with
  | nil => rfl
  | cons q a ih =>
    cases a with
    | nil => rfl
    | cons r a => simpa [endOf] using ih
theorem rows_tot (l : List Int) (n : Nat) : (tot (rows l n) : Int) + offs l n + cn l 0 n = n ∧ endOf (rows l n) ≤ n - offs l n := by
  induction n with
  | zero => simp [rows, tot, offs, cn, endOf]
  | succ n ih =>
    have hle := offs_le l n
    obtain ⟨h1, h2⟩ := ih
    rw [rows, offs, cn, Nat.zero_add]
    rcases bn_or l n with c | c
    · rw [if_neg (by omega), if_pos c, List.append_nil, c]
      exact ⟨by omega, by omega⟩
    · rw [if_neg (show ¬ bn l n = 0 by omega), c]
      by_cases d : 0 < offs l n
      · rw [if_pos ⟨rfl, d⟩, tot_app, endOf_snoc]
        simp only [tot]
        exact ⟨by omega, by omega⟩
      · rw [if_neg (by omega), List.append_nil]
        exact ⟨by omega, by omega⟩
theorem snoc_prefix {α : Type} {pre : List α} {p : α} {a : List α} {q : α} (h : pre ++ [p] <+: a ++ [q]) : pre ++ [p] <+: a ∨ (pre = a ∧ p = q) := by
  obtain ⟨t, ht⟩ := h
  rcases List.eq_nil_or_concat t with rfl | ⟨t', x, rfl⟩
  · rw [List.append_nil] at ht
    exact .inr ((List.append_inj' ht rfl).imp id (fun e => by simpa using e))
  · left
    have : (pre ++ [p] ++ t') ++ [x] = a ++ [q] := by rw [← ht]; simp
    exact ⟨t', (List.append_inj' this rfl).1⟩
theorem runs_tot (l : List Int) : (tot (runs l) : Int) + cn l 0 (8 * l.length) = 8 * l.length := by
  have h := (rows_tot l (8 * l.length)).1
  unfold runs rowsE
  rw [tot_app]
  by_cases c : 0 < offs l (8 * l.length)
  · rw [if_pos c]; simp only [tot]; omega
  · rw [if_neg c]; simp only [tot]; omega
theorem rows_row (l : List Int) (n : Nat) (hn : n ≤ 8 * l.length) (p : Nat × Nat) (h : p ∈ rows l n) : IsRow l p.1 p.2 := by
  induction n with
  | zero => simp [rows] at h
  | succ n ih =>
    rw [rows, List.mem_append] at h
    rcases h with h | h
    · exact ih (by omega) h
    · split at h
      case isTrue hc =>
        obtain rfl : p = _ := by simpa using h
        have hle := offs_le l n
        have ho := offs_off l n
        refine ⟨hc.2, ?_, fun j h1 h2 => ho.1 j h1 ?_, fun h0 => ?_, fun _ => ?_⟩
        · show n - offs l n + offs l n ≤ _
          omega
        · have h2 : j < n - offs l n + offs l n := h2
          omega
        · have h0 : 0 < n - offs l n := h0
          exact ho.2 (by omega)
        · show bn l (n - offs l n + offs l n) = 1
          rw [Nat.sub_add_cancel hle]; exact hc.1
      case isFalse => simp at h
theorem runs_row {l : List Int} {p : Nat × Nat} (h : p ∈ runs l) : IsRow l p.1 p.2 := by
  unfold runs rowsE at h
  rw [List.mem_append] at h
  rcases h with h | h
  · exact rows_row l _ (Nat.le_refl _) p h
  · split at h
    case isTrue hc =>
      obtain rfl : p = _ := by simpa using h
      have hle := offs_le l (8 * l.length)
      have ho := offs_off l (8 * l.length)
      refine ⟨hc, ?_, fun j h1 h2 => ho.1 j h1 ?_, fun h0 => ?_, fun h0 => ?_⟩
      · show 8 * l.length - offs l (8 * l.length) + offs l (8 * l.length) ≤ _
        omega
      · have h2 : j < 8 * l.length - offs l (8 * l.length) + offs l (8 * l.length) := h2
        omega
      · have h0 : 0 < 8 * l.length - offs l (8 * l.length) := h0
        exact ho.2 (by omega)
      · have h0 : 8 * l.length - offs l (8 * l.length) + offs l (8 * l.length) < 8 * l.length := h0
        omega
    case isFalse => simp at h
theorem rows_mono (l : List Int) (n m : Nat) (h : n ≤ m) : rows l n <+: rows l m := by
  induction m with
  | zero => obtain rfl : n = 0 := by omega
            exact List.prefix_refl _
  | succ m ih =>
    by_cases e : n = m + 1
    · subst e; exact List.prefix_refl _
    · rw [rows]
      exact (ih (by omega)).trans (List.prefix_append _ _)
theorem runs_len (l : List Int) : (runs l).length ≤ 8 * l.length := by
  have h := (rows_tot (l ++ [255]) (8 * l.length + 1)).1
  have h2 := rows_all l 1 (by omega) (by omega)
  have h3 : ∀ a : List (Nat × Nat), (∀ p ∈ a, 0 < p.2) → a.length ≤ tot a := by
    intro a
    induction a with
    | nil => intro _; simp
    | cons p a ih =>
      intro h
      have := h p (.head _)
      have := ih (fun q hq => h q (.tail _ hq))
      simp [tot]; omega
  have h4 := h3 (runs l) (fun p hp => (runs_row hp).pos)
  have h5 := runs_tot l
  have h6 := cn_bd l 0 (8 * l.length)
  omega
end Go.Proofs.YtflienghgobmoaaGreatDoor
