import Derived.Test.YtklffjagdhbjcaaDoorBurst
import Derived.Deep.RegionWith
import Derived.Deep.RegionLaw
import Derived.Laws.CopyOwn
import Derived.Deep.DeepCutAuto
namespace Go.Proofs.YtklffjagdhbjcaaDoor
open Go.RowKit
open Crc (W)

/-- places in memory -/
structure Ints (w : World) (a : Option Addr) (l : List Int) : Prop where
  len : l.length ≤ 1000000000000000
  wf : ∀ i, -9223372036854775808 ≤ nth l i ∧ nth l i ≤ 9223372036854775807
  at_ : l = [] ∨ ∃ b off, a = some ⟨b, off, none⟩ ∧ ∀ i, i < l.length → w.cell? ⟨b, off + i, none⟩ = some (.int .i64 (nth l i))
theorem Ints.on {w w' : World} {a : Option Addr} {l : List Int} (h : Ints w a l) (hb : Below w.heap.size w w') : Ints w' a l := by
  refine ⟨h.len, h.wf, ?_⟩
  rcases h.at_ with e | ⟨b, off, rfl, hc⟩
  · exact .inl e
  · refine .inr ⟨b, off, rfl, fun i hi => ?_⟩
    rw [hb.cell (p := ⟨b, off + i, none⟩) (block_lt_of_cell (hc i hi))]; exact hc i hi

structure TRel (w wr : World) (g cap n : Nat) (own : List Int) : Prop where
  mine : OwnB wr g cap own
  len : own.length = n
  below : Below w.heap.size w wr

theorem wrap_small {x : Int} {k : Nat} (h : x = k) (h2 : k < 9223372036854775808) : IntKind.i64.wrap x = (k : Int) := by
  rw [IntKind.wrap_i64]; omega
theorem nth_take (l : List Int) (k i : Nat) (h : i < k) : nth (l.take k) i = nth l i := by simp [nth, List.getD, h]
theorem nth_drop (l : List Int) (k i : Nat) : nth (l.drop k) i = nth l (k + i) := by simp [nth, List.getD]
theorem wf_take {l : List Int} {a b : Int} (h : ∀ i, a ≤ nth l i ∧ nth l i < b) (k : Nat) (h0 : a ≤ 0 ∧ 0 < b) : ∀ i, a ≤ nth (l.take k) i ∧ nth (l.take k) i < b := by
  intro i
  by_cases hi : i < k
  · rw [nth_take l k i hi]; exact h i
  · have : nth (l.take k) i = 0 := by simp [nth, List.getD, List.getElem?_take, hi]
    rw [this]; exact h0
theorem Bytes.take {w : World} {a : Option Addr} {l : List Int} (h : Bytes w a l) (k : Nat) : Bytes w a (l.take k) := by
  refine ⟨by have := h.len; rw [List.length_take]; omega, wf_take h.wf k (by omega), ?_⟩
  rcases h.at_ with e | ⟨b, off, e, hc⟩
  · exact .inl (by rw [e, List.take_nil])
  · refine .inr ⟨b, off, e, fun i hi => ?_⟩
    rw [List.length_take] at hi
    rw [nth_take l k i (by omega)]; exact hc i (by omega)
theorem cut_bytes {w : World} {g cap A mm : Nat} {own : List Int} {P1 : Option Addr} (h : OwnB w g cap own) (hm : A + mm ≤ own.length) (hP : (if cap = A then some (⟨g, 0, none⟩ : Addr) else some ⟨g, A, none⟩) = P1) :
    Bytes w.drew P1 ((own.drop A).take mm) := by
  have hr := h.room
  refine ⟨by have := h.len; rw [List.length_take, List.length_drop]; omega, wf_take (fun i => by rw [nth_drop]; exact h.wf _) mm (by omega), ?_⟩
  by_cases hc : cap = A
  · exact .inl (by rw [List.drop_eq_nil_of_le (by omega), List.take_nil])
  · rw [if_neg hc] at hP
    refine .inr ⟨g, A, hP.symm, fun i hi => ?_⟩
    rw [List.length_take, List.length_drop] at hi
    rw [nth_take _ _ _ (by omega), nth_drop]
    have := h.cell (A + i) (by omega)
    simpa using this
theorem TRel.on {w wr w' : World} {g cap n : Nat} {own : List Int} (h : TRel w wr g cap n own) (hb : Below wr.heap.size wr w') : TRel w w' g cap n own :=
  ⟨h.mine.below hb h.mine.lt, h.len, chain h.below hb⟩
theorem size5 : (Tryd.prog.info? 5).map (·.size) = some 1 := by kernel_rfl
theorem copy_pos {w : World} {g cap A mm : Nat} {ms : List Int} {cs : List Value} {P1 a2 : Option Addr} (hP : (if cap = A then some (⟨g, 0, none⟩ : Addr) else some ⟨g, A, none⟩) = P1) (hle : A + mm ≤ cap) (hcs : cs = (ms.take mm).map (Value.int .u8))
    (hB : Bytes w a2 (ms.take mm)) (hm : cs.length = mm) :
    0 < cs.length → P1 = some ⟨g, A, none⟩ ∧ ∃ ad, a2 = some ad ∧ ∀ j v, cs[j]? = some v → w.drew.cell? (ad.add j) = some v := by
  intro h0
  rw [if_neg (by omega)] at hP
  refine ⟨hP.symm, ?_⟩
  have hl : (ms.take mm).length = mm := by rw [hcs, List.length_map] at hm; exact hm
  rcases hB.at_ with e | ⟨b, off, e, hc⟩
  · rw [e] at hl; simp at hl; omega
  · refine ⟨_, e, fun j v hj => ?_⟩
    have hlt : j < (ms.take mm).length := by
      by_cases hlt : j < cs.length
      · omega
      · rw [List.getElem?_eq_none (by omega)] at hj; cases hj
    have e2 := nth_cell (ms.take mm) j hlt
    rw [hcs] at hj
    have e3 : ((ms.take mm).map (Value.int .u8))[j]? = some (.int .u8 (nth (ms.take mm) j)) := by simpa using e2
    rw [e3] at hj
    cases hj
    rw [Addr.add_lit]
    exact hc j hlt
theorem copied {w wc w4 : World} {g cap n A mm : Nat} {own own' ms : List Int} {L cs : List Value} (h : TRel w wc g cap n own) (hA : A + mm ≤ n) (hm : mm ≤ ms.length) (hw : ∀ i, 0 ≤ nth ms i ∧ nth ms i < 256)
    (how : own' = own.take A ++ ms.take mm ++ own.drop (A + mm)) (hcs : cs = (ms.take mm).map (Value.int .u8)) (hL : L.take own.length = own.map (Value.int .u8)) (hsz : L.length = cap)
    (hg : w4.heap[g]? = some (.cells (splice L A cs).toArray 5 (0, 0))) (hb : Below w.heap.size w w4) : TRel w w4 g cap n own' := by
  have hn := h.len
  have hroom := h.mine.room
  have hlen' : own'.length = n := by rw [how]; simp; omega
  have hcl : cs.length = mm := by rw [hcs, List.length_map, List.length_take]; omega
  refine ⟨⟨⟨(splice L A cs).toArray, hg, ?_, ?_⟩, by rw [hlen', ← hn]; exact h.mine.len, by omega, ?_⟩, hlen', hb⟩
  · show (splice L A cs).length = cap
    rw [length_splice _ _ _ (by omega)]; exact hsz
  · show (splice L A cs).take own'.length = own'.map (Value.int .u8)
    have hLA : L.take A = (own.take A).map (Value.int .u8) := by
      rw [List.map_take, ← hL, List.take_take, Nat.min_eq_left (by omega)]
    have hLD : (L.drop (A + mm)).take (n - (A + mm)) = (own.drop (A + mm)).map (Value.int .u8) := by
      rw [List.map_drop, ← hL, List.drop_take, hn]
    have hLl : (L.take A).length = A := by rw [List.length_take]; omega
    rw [hlen', how]
    unfold splice
    rw [hcl, List.map_append, List.map_append, ← hLA, ← hcs, ← hLD]
    rw [List.take_append, hLl, List.take_append, hcl, List.take_of_length_le (l := L.take A) (by omega), List.take_of_length_le (l := cs) (by omega), List.append_assoc, Nat.sub_sub]
  · rw [how]
    apply nth_wf
    intro c hc
    have mem : ∀ (l : List Int), (∀ i, 0 ≤ nth l i ∧ nth l i < 256) → ∀ c ∈ l, 0 ≤ c ∧ c < 256 := by
      intro l hl c hc
      obtain ⟨i, hi, rfl⟩ := List.getElem_of_mem hc
      have := hl i
      simpa [nth, List.getD, hi] using this
    rw [List.mem_append, List.mem_append] at hc
    rcases hc with (hc | hc) | hc
    · exact mem own h.mine.wf c (List.mem_of_mem_take hc)
    · exact mem ms hw c (List.mem_of_mem_take hc)
    · exact mem own h.mine.wf c (List.mem_of_mem_drop hc)
theorem turn_list (own ms : List Int) (n A mm : Nat) (hn : own.length = n) (hA : A + mm ≤ n) (hm : mm ≤ ms.length) :
    Crc.crc own ^^^ Crc.pw Crc.e8 ((n : Int) - (A : Int) - (mm : Nat)).toNat (Crc.crc ((own.drop A).take mm) ^^^ Crc.crc (ms.take mm)) = Crc.crc (own.take A ++ ms.take mm ++ own.drop (A + mm)) := by
  have e : own = own.take A ++ (own.drop A).take mm ++ own.drop (A + mm) := by
    rw [List.append_assoc, ← List.drop_drop, List.take_append_drop, List.take_append_drop]
  have hl : (own.drop (A + mm)).length = ((n : Int) - (A : Int) - (mm : Nat)).toNat := by rw [List.length_drop]; omega
  have := Crc.turn (own.take A) ((own.drop A).take mm) (ms.take mm) (own.drop (A + mm)) (by rw [List.length_take, List.length_take, List.length_drop]; omega)
  rw [← e, hl] at this
  exact this

end Go.Proofs.YtklffjagdhbjcaaDoor
