import Derived.Test.YtpbpblpbjkegfaaRows
import Derived.Test.YtpbpblpbjkegfaaMem
import Derived.WalkKit
import Derived.ProofKit
import Derived.OpenShut
import Derived.ShutString
import Derived.ChangeOld
import Derived.Below
import Derived.Deep.DeepHandedRow
import Derived.Lib.BytesEntry
import Derived.Lib.IndexLaws
import Derived.Laws.BitsAllLaws
namespace Go.Proofs.Ytpbpblpbjkegfaa
open Go.ChangeShapes Go.WideShapes Go.ChangeAt Go.RowKit

/-- all arguments read as they did -/
theorem trodAll_stays {H : Type} {enc : TypeId × Value → H} {P : Program} (hl : laidOutB P = true) {W W' : World} (hb : Below W.heap.size W W') :
    ∀ (ts : List TypeId) (vs : List Value) (ds : List (DataW H)) (ps : List MemPlace), (∀ t ∈ ts, P.readableRec t = true ∧ t < P.types.size) →
      DataW.TrodAll enc P W 0 (fun _ => true) true ts vs ds ps → DataW.TrodAll enc P W' 0 (fun b => decide (b < W.heap.size)) true ts vs ds ps
  | [], [], [], _, _, h => h
  | t :: ts, v :: vs, d :: ds, ps, hr, h => by
    obtain ⟨p, q, h1, h2, e⟩ := h
    have lt : ∀ x ∈ p, x.block < W.heap.size := by obtain ⟨m, hm⟩ := h1; exact DataW.trod_lt m _ _ _ hm
    have ht := hr t (List.mem_cons_self ..)
    exact ⟨p, q, Below.trod hl ht.1 ht.2 h1 hb lt, trodAll_stays hl hb ts vs ds q (fun t' h' => hr t' (List.mem_cons_of_mem _ h')) h2, e⟩
  | [], _ :: _, _, _, _, h => by simp [DataW.TrodAll] at h
  | [], [], _ :: _, _, _, h => by simp [DataW.TrodAll] at h
  | _ :: _, [], _, _, _, h => by simp [DataW.TrodAll] at h
  | _ :: _, _ :: _, [], _, _, h => by simp [DataW.TrodAll] at h

theorem own : ownKnob Try.prog.godebug = none := by kernel_rfl
theorem laidOut : laidOutB Try.prog = true := by kernel_rfl
end Go.Proofs.Ytpbpblpbjkegfaa

namespace Go.Proofs.Ytpbpblpbjkegfaa
open Go.RowKit Rec

/-- all rows but S's are kept -/
structure Fr (S : Nat → Prop) (w w' : World) : Prop where
  os : w'.os = w.os
  tape : w'.tape = w.tape
  output : w'.output = w.output
  size : w.heap.size ≤ w'.heap.size
  block : ∀ k, k < w.heap.size → ¬ S k → w'.heap[k]? = w.heap[k]?
theorem Fr.refl (S : Nat → Prop) (w : World) : Fr S w w := ⟨rfl, rfl, rfl, Nat.le_refl _, fun _ _ _ => rfl⟩
theorem Fr.trans {S T : Nat → Prop} {a b c : World} (x : Fr S a b) (y : Fr T b c) (h : ∀ k, T k → S k ∨ a.heap.size ≤ k) : Fr S a c :=
  ⟨y.os.trans x.os, y.tape.trans x.tape, y.output.trans x.output, Nat.le_trans x.size y.size, fun k hk hS => (y.block k (Nat.lt_of_lt_of_le hk x.size) (fun t => (h k t).elim hS (fun g => by omega))).trans (x.block k hk hS)⟩
theorem Fr.mono {S T : Nat → Prop} {a b : World} (x : Fr S a b) (h : ∀ k, S k → T k) : Fr T a b := ⟨x.os, x.tape, x.output, x.size, fun k hk hT => x.block k hk (fun s => hT (h k s))⟩
theorem Fr.below {S : Nat → Prop} {w w' : World} (x : Fr S w w') (B : Nat) (h : ∀ k, S k → B ≤ k) (hB : B ≤ w.heap.size) : Below B w w' :=
  ⟨x.os, x.tape, x.output, x.size, fun k hk => x.block k (by omega) (fun s => by have := h k s; omega)⟩
theorem below_fr {w w' : World} (x : Below w.heap.size w w') (S : Nat → Prop) : Fr S w w' := ⟨x.os, x.tape, x.output, x.size, fun k hk _ => x.block k hk⟩
theorem grown_fr {w w' : World} {r : Option Nat} (x : w.grownBy w' r) : Fr (fun k => r = some k) w w' := ⟨x.os, x.tape, x.output, x.size, fun k hk h => x.block k hk (fun e => h e.symm)⟩
theorem Fr.cell {S : Nat → Prop} {w w' : World} (x : Fr S w w') {p : Addr} {v : Value} (hc : w.cell? p = some v) (h : ¬ S p.block) : w'.cell? p = some v :=
  (World.cell?_of_block (x.block p.block (block_lt_of_cell hc) h)).trans hc
theorem Fr.heap {S : Nat → Prop} {w w' : World} (x : Fr S w w') {k : Nat} {o : Obj} (hc : w.heap[k]? = some o) (h : ¬ S k) : w'.heap[k]? = some o :=
  (x.block k (heap_lt hc) h).trans hc
theorem Fr.set {w : World} {g k : Nat} {v : Value} : Fr (fun i => i = g) w (w.setCell ⟨g, k, none⟩ v) :=
  ⟨rfl, rfl, rfl, by simp [World.setCell], fun i _ hr => Below.heap_setCell w ⟨g, k, none⟩ v i hr⟩
theorem fr_alloc (S : Nat → Prop) (w : World) (o : Obj) : Fr S w (w.alloc o) := below_fr ((Below.refl _ w).alloc (Nat.le_refl _) o) S

/-- where a slice lies -/
theorem owns_block {w : World} {B e size n : Nat} {v : Value} {xs : List Value} (h : w.ownsRow B e size v n xs) {k : Nat} (hk : v.ownBlock = some k) : k < w.heap.size := by
  rcases h.2 with ⟨rfl, _⟩ | ⟨g, cap, cur, rfl, _, hg, _⟩
  · cases hk
  · cases hk; exact heap_lt hg
theorem owns_fr {S : Nat → Prop} {w w' : World} {B e size n : Nat} {v : Value} {xs : List Value} (h : w.ownsRow B e size v n xs) (x : Fr S w w') (hk : ∀ k, v.ownBlock = some k → ¬ S k) : w'.ownsRow B e size v n xs := by
  refine ⟨h.1, ?_⟩
  rcases h.2 with h2 | ⟨g, cap, cur, rfl, h1, hg, h3⟩
  · exact .inl h2
  · exact .inr ⟨g, cap, cur, rfl, h1, x.heap hg (hk g rfl), h3⟩

/-- where an append lays its row -/
theorem own_block {w : World} {B : Nat} {v : Value} {k : Nat} {ts : List Value} (t ty e : TypeId) (i0 : TypeInfo) (z : Value) (size bytes : Nat) (ht : Try.prog.underlying t = some (.slice e)) (hi : Try.prog.info? e = some i0) (hz : i0.zero = some z) (hsize : i0.size = size) (hby : i0.bytes = bytes)
    (hown : w.ownsRow B e size v k ts) (ad : Addr) (m c : Nat) (news : List Value) (hl : news.length = m * size) (hnews : ∀ j u, news[j]? = some u → w.cell? (ad.add j) = some u) (h1 : ∀ u ∈ news, u.oneCell' = true) (hm : 0 < m) (h63 : k + m ≤ maxLen) (h47 : (k + m) * bytes ≤ 140737488355328)
    {v' : Value} {w' : World} (hr : (Builtin.append_ #[t, t] ty #[v, .slice (some ad) m c]).run Try.prog w = .ok v' w') : ∃ g cap, v' = .slice (some ⟨g, 0, none⟩) (k + m) cap ∧ (v.ownBlock = some g ∨ w.heap.size ≤ g) := by
  subst hsize hby
  have h63' : k + m ≤ 9223372036854775807 := h63
  rcases hown.2 with ⟨rfl, rfl⟩ | ⟨g, cap, cur, rfl, hbg, hg, hnc, hcm, hcs, htake⟩
  · have h := run_append_nil (P := Try.prog) w t ty e i0 z ht hi hz ad m c news hl hnews hm (by omega) (by rw [Nat.zero_add] at h47; omega)
    rw [h] at hr
    cases hr
    exact ⟨_, _, by rw [Nat.zero_add], .inr (Nat.le_refl _)⟩
  · by_cases hroom : k + m ≤ cap
    · have h := run_append_room (P := Try.prog) w t ty e i0 ht hi g k cap cur hg ad m c news hl hnews h1 hroom (by rw [hl, hcs, ← Nat.add_mul]; exact Nat.mul_le_mul_right _ hroom)
      rw [h] at hr
      cases hr
      exact ⟨_, _, rfl, .inl rfl⟩
    · have h := run_append_grow (P := Try.prog) w t ty e i0 z ht hi hz ⟨g, 0, none⟩ k cap ts hown.1 (hown.cells (g := g) rfl) ad m c news hl hnews (by omega) (by omega) (growslice_fits (by omega) h47)
      rw [h] at hr
      cases hr
      exact ⟨_, _, rfl, .inr (Nat.le_refl _)⟩
theorem run_own {w : World} (t ty : TypeId) (e : TypeId) (i0 : TypeInfo) (z : Value) (size bytes : Nat) (ht : Try.prog.underlying t = some (.slice e)) (hi : Try.prog.info? e = some i0) (hz : i0.zero = some z)
    (hsize : i0.size = size) (hby : i0.bytes = bytes) (hzs : z.cells.size = size) (hsz : 0 < size) (v : Value) (k : Nat) (xs : List Value) (hown : w.ownsRow 0 e size v k xs)
    (ad : Addr) (m c : Nat) (news : List Value) (hm : 0 < m) (hl : news.length = m * size) (hnews : ∀ j u, news[j]? = some u → w.cell? (ad.add j) = some u) (h1 : ∀ u ∈ news, u.oneCell' = true) (h63 : k + m ≤ maxLen) (h47 : (k + m) * bytes ≤ 140737488355328) :
    ∃ g cap w', (Builtin.append_ #[t, t] ty #[v, .slice (some ad) m c]).run Try.prog w = .ok (.slice (some ⟨g, 0, none⟩) (k + m) cap) w' ∧ w'.ownsRow 0 e size (.slice (some ⟨g, 0, none⟩) (k + m) cap) (k + m) (xs ++ news) ∧ Fr (fun k => v.ownBlock = some k) w w' ∧ (v.ownBlock = some g ∨ w.heap.size ≤ g) := by
  obtain ⟨v', w', hr, h2, h3, _⟩ := run_append_own (P := Try.prog) w 0 t ty e i0 z size bytes ht hi hz hsize hby hzs hsz v k xs hown ad m c news hl hnews h1 h63 h47 (Nat.zero_le _)
  obtain ⟨g, cap, rfl, hgb⟩ := own_block t ty e i0 z size bytes ht hi hz hsize hby hown ad m c news hl hnews h1 hm h63 h47 hr
  exact ⟨g, cap, w', hr, h2, grown_fr h3, hgb⟩
/-- 'append(s, x...)', s nil or a row of one's own -/
theorem wp_own {ops : Array Oper} {rest : List Oper} {o : Oper} {a : Act} {Q : Exit → Act → World → Prop} {w : World} (hgd : o.guard = none) (s x : Operand) (t : TypeId)
    (ho : o.op = .call { callee := .builtin .append, args := #[s, x], argTypes := #[t, t] }) (e : TypeId) (i0 : TypeInfo) (z : Value) (size bytes : Nat) (ht : Try.prog.underlying t = some (.slice e)) (hi : Try.prog.info? e = some i0) (hz : i0.zero = some z)
    (hsize : i0.size = size) (hby : i0.bytes = bytes) (hzs : z.cells.size = size) (hsz : 0 < size) (v : Value) (k : Nat) (xs : List Value) (hs : a.eval s = v) (hown : w.ownsRow 0 e size v k xs)
    (ad : Addr) (m c : Nat) (news : List Value) (hx : a.eval x = .slice (some ad) m c) (hm : 0 < m) (hl : news.length = m * size) (hnews : ∀ j u, news[j]? = some u → w.cell? (ad.add j) = some u) (h1 : ∀ u ∈ news, u.oneCell' = true) (h63 : k + m ≤ maxLen) (h47 : (k + m) * bytes ≤ 140737488355328)
    (h : ∀ g cap w', w'.ownsRow 0 e size (.slice (some ⟨g, 0, none⟩) (k + m) cap) (k + m) (xs ++ news) → Fr (fun k => v.ownBlock = some k) w w' → (v.ownBlock = some g ∨ w.heap.size ≤ g) → wpList Try.prog ops Q rest (a.put o.dst (.slice (some ⟨g, 0, none⟩) (k + m) cap)) w') :
    wpList Try.prog ops Q (o :: rest) a w := by
  obtain ⟨g, cap, w', hr, h2, h3, hgb⟩ := run_own t o.type e i0 z size bytes ht hi hz hsize hby hzs hsz v k xs hown ad m c news hm hl hnews h1 h63 h47
  refine wpList_plain hgd fun K hK => ?_
  unfold Oper.wp execOp
  simp only [ho, resolve, invoke, builtin, Sem.run_bind, Sem.run_pure, Result.andThen_ok, List.map_toArray, List.map_cons, List.map_nil, hs, hx, hr]
  exact hK _ _ (h g cap w' h2 h3 hgb)
/-- the same, as a step of a region that draws -/
theorem step_own {ops : Array Oper} {o : Oper} {a : Act} {w : World} {K : Act → World → Prop} {Q : Exit → Act → World → Prop} {E : Prop} (hgd : o.guard = none) (s x : Operand) (t : TypeId)
    (ho : o.op = .call { callee := .builtin .append, args := #[s, x], argTypes := #[t, t] }) (e : TypeId) (i0 : TypeInfo) (z : Value) (size bytes : Nat) (ht : Try.prog.underlying t = some (.slice e)) (hi : Try.prog.info? e = some i0) (hz : i0.zero = some z)
    (hsize : i0.size = size) (hby : i0.bytes = bytes) (hzs : z.cells.size = size) (hsz : 0 < size) (v : Value) (k : Nat) (xs : List Value) (hs : a.eval s = v) (hown : w.ownsRow 0 e size v k xs)
    (ad : Addr) (m c : Nat) (news : List Value) (hx : a.eval x = .slice (some ad) m c) (hm : 0 < m) (hl : news.length = m * size) (hnews : ∀ j u, news[j]? = some u → w.cell? (ad.add j) = some u) (h1 : ∀ u ∈ news, u.oneCell' = true) (h63 : k + m ≤ maxLen) (h47 : (k + m) * bytes ≤ 140737488355328)
    (h : ∀ g cap w', w'.ownsRow 0 e size (.slice (some ⟨g, 0, none⟩) (k + m) cap) (k + m) (xs ++ news) → Fr (fun k => v.ownBlock = some k) w w' → (v.ownBlock = some g ∨ w.heap.size ≤ g) → K (a.put o.dst (.slice (some ⟨g, 0, none⟩) (k + m) cap)) w') :
    if Region.wanted o (yielded ops a.tmps) = true then Oper.wp Try.prog o a w K Q else E := by
  have hw : Region.wanted o (yielded ops a.tmps) = true := by simp [Region.wanted, hgd]
  rw [if_pos hw]
  obtain ⟨g, cap, w', hr, h2, h3, hgb⟩ := run_own t o.type e i0 z size bytes ht hi hz hsize hby hzs hsz v k xs hown ad m c news hm hl hnews h1 h63 h47
  unfold Oper.wp
  simp only [execOp, ho, resolve, invoke, builtin, Sem.run_bind, Sem.run_pure, Result.andThen_ok, List.map_toArray, List.map_cons, List.map_nil, hs, hx, hr]
  exact h g cap w' h2 h3 hgb
end Go.Proofs.Ytpbpblpbjkegfaa

namespace Go.Proofs.Ytpbpblpbjkegfaa
open Go.RowKit Rec

theorem isW_cases {n : Int} (h : isW n = true) : n = 1 ∨ n = 2 ∨ n = 4 ∨ n = 8 := by simp [isW] at h; omega
theorem isW_not {n : Int} (h : isW n = false) : n ≠ 1 ∧ n ≠ 2 ∧ n ≠ 4 ∧ n ≠ 8 := by simp [isW] at h; omega

/-- 'bytes.IndexByte(b, 0)' -/
def Found (l : List Int) (n : Nat) (r : Int) : Prop := (r = -1 ∧ fz l 0 n = n) ∨ (r = fz l 0 n ∧ fz l 0 n < n)
theorem byte_zero {c : Int} (h : 0 ≤ c ∧ c < 256) : UInt8.ofNat c.toNat = (0 : Int).toNat.toUInt8 ↔ c = 0 := by
  constructor
  · intro e
    have := congrArg UInt8.toNat e
    simp at this
    omega
  · rintro rfl; rfl
theorem at_byte (l : List Int) (k : Nat) (hw : ∀ i, 0 ≤ nth l i ∧ nth l i < 256) : (Lib.bytesOf l)[k]? = some (0 : Int).toNat.toUInt8 ↔ k < l.length ∧ nth l k = 0 := by
  unfold Lib.bytesOf
  rw [List.getElem?_map]
  by_cases h : k < l.length
  · have e : l[k]? = some (nth l k) := by simp [nth, List.getD, h]
    rw [e]
    simp only [Option.map_some, Option.some.injEq]
    rw [byte_zero (hw k)]
    exact ⟨fun x => ⟨h, x⟩, fun x => x.2⟩
  · rw [List.getElem?_eq_none (by omega)]
    constructor
    · intro e; cases e
    · intro e; exact absurd e.1 h
theorem found_of (l : List Int) (n : Nat) (hn : l.length = n) (hw : ∀ i, 0 ≤ nth l i ∧ nth l i < 256) : Found l n (Lib.indexByte (Lib.bytesOf l) (0 : Int).toNat.toUInt8) := by
  have hge := Lib.indexByte_ge (Lib.bytesOf l) (0 : Int).toNat.toUInt8
  generalize hr : Lib.indexByte (Lib.bytesOf l) (0 : Int).toNat.toUInt8 = r at *
  by_cases h : r = -1
  · subst h
    have := Lib.indexByte_none hr
    refine .inl ⟨rfl, fz_eq _ _ _ _ (Nat.le_refl _) (fun i hi => ?_) (fun h => absurd h (by omega))⟩
    rw [Nat.zero_add]
    intro e
    exact this i ((at_byte l i hw).2 ⟨by omega, e⟩)
  · obtain ⟨o, rfl⟩ : ∃ o : Nat, r = o := ⟨r.toNat, by omega⟩
    have ⟨h1, h2⟩ := Lib.indexByte_some hr
    have h1 := (at_byte l o hw).1 h1
    have e : fz l 0 n = o := by
      refine fz_eq _ _ _ _ (by omega) (fun i hi => ?_) (fun _ => by rw [Nat.zero_add]; exact h1.2)
      rw [Nat.zero_add]
      intro e
      exact h2 i hi ((at_byte l i hw).2 ⟨by omega, e⟩)
    exact .inr ⟨by rw [e], by omega⟩

/-- has a string a zero byte? -/
def hasZ (s : ByteArray) : Bool := decide (∃ i, i < s.size ∧ nth (sb s) i = 0)
theorem sfound (s : ByteArray) : (0 ≤ Lib.indexByte s.data.toList (0 : Int).toNat.toUInt8) ↔ ∃ i, i < s.size ∧ nth (sb s) i = 0 := by
  have key : ∀ k, s.data.toList[k]? = some (0 : Int).toNat.toUInt8 ↔ k < s.size ∧ nth (sb s) k = 0 := by
    intro k
    by_cases h : k < s.size
    · have h' : k < s.data.size := h
      rw [sb_nth s k h, Array.getElem?_toList, Array.getElem?_eq_getElem h', Option.some.injEq]
      constructor
      · intro e; exact ⟨h, by show ((s.data[k]).toNat : Int) = 0; rw [e]; rfl⟩
      · rintro ⟨_, e⟩
        have e' : ((s.data[k]).toNat : Int) = 0 := e
        exact UInt8.toNat.inj (by show _ = 0; omega)
    · rw [List.getElem?_eq_none (by rw [Array.length_toList]; exact Nat.le_of_not_lt h)]
      constructor
      · intro e; cases e
      · intro e; exact absurd e.1 h
  have hge := Lib.indexByte_ge s.data.toList (0 : Int).toNat.toUInt8
  generalize hr : Lib.indexByte s.data.toList (0 : Int).toNat.toUInt8 = r at *
  by_cases h : r = -1
  · subst h
    have hn := Lib.indexByte_none hr
    exact ⟨fun e => absurd e (by omega), fun ⟨i, hi⟩ => absurd ((key i).2 hi) (hn i)⟩
  · obtain ⟨o, rfl⟩ : ∃ o : Nat, r = o := ⟨r.toNat, by omega⟩
    have ⟨h1, _⟩ := Lib.indexByte_some hr
    exact ⟨fun _ => ⟨o, (key o).1 h1⟩, fun _ => by omega⟩
end Go.Proofs.Ytpbpblpbjkegfaa

namespace Go.Proofs.Ytpbpblpbjkegfaa
open Go.RowKit Rec

/-- a byte laid above a number that ends below it -/
theorem or_add (v c : Int) (k : Nat) (hk : k < 8) (hv : 0 ≤ v ∧ v < 256 ^ k) (hc : 0 ≤ c ∧ c < 256) : bits .or .u64 v (c * 256 ^ k) = v + c * 256 ^ k := by
  obtain ⟨V, rfl⟩ := Int.eq_ofNat_of_zero_le hv.1
  obtain ⟨C, rfl⟩ := Int.eq_ofNat_of_zero_le hc.1
  have e : (256 : Int) ^ k = ((2 ^ (8 * k) : Nat) : Int) := by rw [Nat.pow_mul]; simp
  rw [e] at hv ⊢
  have hV : V < 2 ^ (8 * k) := by omega
  have hC : C < 256 := by omega
  have hp : 2 ^ (8 * k) ≤ 2 ^ 56 := Nat.pow_le_pow_right (by decide) (by omega)
  have hm : C * 2 ^ (8 * k) ≤ 255 * 2 ^ (8 * k) := Nat.mul_le_mul_right _ (by omega)
  have := u64_or_nat V (C * 2 ^ (8 * k)) (by omega) (by omega)
  rw [← Int.natCast_mul, this, ← Int.natCast_add]
  have h2 := Nat.shiftLeft_add_eq_or_of_lt hV C
  rw [Nat.shiftLeft_eq] at h2
  rw [Nat.or_comm, ← h2, Nat.add_comm]

end Go.Proofs.Ytpbpblpbjkegfaa

namespace Go.Proofs.Ytpbpblpbjkegfaa
open Go.RowKit Rec

theorem OwnB.ovs {w : World} {g cap : Nat} {L : List Int} {A k : Nat} {f : Nat → Int} (h : OwnB w g cap (ov L A k f)) (hk : A + k < L.length) (hf : 0 ≤ f k ∧ f k < 256) :
    OwnB (w.setCell ⟨g, A + k, none⟩ (.int .u8 (f k))) g cap (ov L A (k + 1) f) := by
  have := h.set (A + k) (f k) (by rw [ov_length]; exact hk) hf
  rwa [ov_set _ _ _ _ hk] at this

end Go.Proofs.Ytpbpblpbjkegfaa
