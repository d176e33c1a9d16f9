import Derived.Test.YtaaeahpmnfifiaaDoorSnQ
import Derived.Deep.RegionHeld3
namespace Go.Proofs.YtaaeahpmnfifiaaDoor
open Go.RowKit Rec Sc
theorem wp_bcopy {ops : Array Oper} {rest : List Oper} {o : Oper} {a : Act} {Q : Exit → Act → World → Prop} {w7 : World} (hgd : o.guard = none) (s x : Operand)
    (ho : o.op = .call { callee := .builtin .append, args := #[s, x], argTypes := #[25, 25] }) (hs : a.eval s = .slice (some ⟨w7.heap.size, 0, none⟩) 0 0)
    (ad : Addr) (m c : Nat) (y : List Int) (hx : a.eval x = .slice (some ad) m c) (hl : y.length = m) (hb : Bytes w7 (some ad) y) (h47 : m ≤ 140737488355328)
    (h : ∀ g cap w', OwnB w' g cap y → Below w7.heap.size w7 w' → w7.heap.size ≤ g → m ≤ cap → wpList Tryd.prog ops Q rest (a.put o.dst (.slice (some ⟨g, 0, none⟩) m cap)) w') :
    wpList Tryd.prog ops Q (o :: rest) a (w7.alloc (.cells #[] 5)) := by
  have hA : Below w7.heap.size w7 (w7.alloc (.cells #[] 5)) := (Below.refl _ _).alloc (Nat.le_refl _) _
  have hE : OwnB (w7.alloc (.cells #[] 5)) w7.heap.size 0 [] := own_empty (heap_alloc_new _ _)
  refine wp_app hgd s x ho w7.heap.size w7.heap.size 0 0 [] y rfl hs hE (Nat.le_refl _) hA.size (some ad) m c hx hl (hb.on hA) (fun h => by cases h) (by omega) ?_
  intro g cap w2 hg ho' hgr
  rw [List.nil_append] at ho'
  rw [Nat.zero_add]
  exact h g cap w2 ho' (hA.grown hgr hA.size (by intro k hk; cases hk; exact Nat.le_refl _)) hg (by have := ho'.room; omega)
/-- the boxes of the law's arguments -/
structure Bx (w : World) (P : Nat) (c : CT) (b : ET) : Prop where
  c : w.heap[P]? = some (.cells #[.int .i64 c.1, .int .i64 c.2.1, .int .i64 c.2.2.1, .string c.2.2.2] 30 (0, 0))
  b : w.heap[P + 1]? = some (.cells #[.int .i64 b.1, .string b.2.1, .int .i64 b.2.2] 27 (0, 0))
theorem Bx.on {w w' : World} {P : Nat} {c : CT} {b : ET} (h : Bx w P c b) (hb : Below w.heap.size w w') : Bx w' P c b :=
  ⟨(hb.block _ (heap_lt h.c)).trans h.c, (hb.block _ (heap_lt h.b)).trans h.b⟩
theorem Bx.grown {w w' : World} {P q : Nat} {c : CT} {b : ET} (h : Bx w P c b) (hg : w.grownBy w' (some q)) (h0 : q ≠ P) (h1 : q ≠ P + 1) : Bx w' P c b :=
  ⟨(hg.block _ (heap_lt h.c) (fun e => h0 (by cases e; rfl))).trans h.c, (hg.block _ (heap_lt h.b) (fun e => h1 (by cases e; rfl))).trans h.b⟩
/-- what can't be -/
def noL (p : Int) (nm : ByteArray) (b : ET) : List ET :=
  [(-1 - b.1 % 1073741824, ⟨#[97]⟩, 1), (16 + b.1 % 1073741824, ⟨#[97]⟩, 1), (p, nm, 0), (p, nm, -1 - b.2.2 % 1073741824), (p, nm, 4294967296 + b.2.2 % 1073741824), (p, ⟨#[]⟩, 1), (p, ⟨#[46]⟩, 1), (p, ⟨#[46, 46]⟩, 1), (p, ⟨#[97, 47]⟩ ++ b.2.1, 1), (p, b.2.1 ++ ⟨#[0]⟩, 1), (p, ⟨#[49, 50, 51, 52, 53, 54, 55, 56, 57, 48, 49, 50, 51, 52, 53, 54, 55, 56, 57, 48, 49, 50, 51, 52, 53, 54, 55, 56]⟩, 1)]
theorem name_slash {s : ByteArray} (h : (47 : UInt8) ∈ s.data.toList) : Pa.name s.data.toList = false := by
  have : Pa.noPart s.data.toList = true := by
    cases e : Pa.noPart s.data.toList with
    | true => rfl
    | false => exact absurd h ((Pa.noPart_iff _).1 e).2.2.1
  simp [Pa.name, this]
theorem name_zero {s : ByteArray} (h : (0 : UInt8) ∈ s.data.toList) : Pa.name s.data.toList = false := by
  have : Pa.noPart s.data.toList = true := by
    cases e : Pa.noPart s.data.toList with
    | true => rfl
    | false => exact absurd h ((Pa.noPart_iff _).1 e).2.2.2
  simp [Pa.name, this]
theorem mst_place {p : Int} (h : plc p = false) (s : ByteArray) (i : Int) : mst p s i = false := by simp [mst, h]
theorem mst_low {i : Int} (h : ¬ 1 ≤ i) (p : Int) (s : ByteArray) : mst p s i = false := by
  have : decide (1 ≤ i) = false := decide_eq_false h
  simp only [mst, this, Bool.false_and, Bool.and_false]
theorem mst_high {i : Int} (h : ¬ i ≤ 4294967295) (p : Int) (s : ByteArray) : mst p s i = false := by
  have : decide (i ≤ 4294967295) = false := decide_eq_false h
  simp only [mst, this, Bool.false_and, Bool.and_false]
theorem mst_name {s : ByteArray} (h : Pa.name s.data.toList = false) (p i : Int) : mst p s i = false := by simp [mst, h]
theorem plc_neg {p : Int} (h : ¬ (0 ≤ p ∧ p < 16)) : plc p = false := by
  unfold plc
  rw [← Bool.decide_and]
  exact decide_eq_false h
theorem noL_no (p : Int) (nm : ByteArray) (b : ET) (hb : b.2.1.size ≤ 1000000000000000) (hnm : nm.size ≤ 1000000000000000) : ∀ q, q ∈ noL p nm b → mst q.1 q.2.1 q.2.2 = false ∧ q.2.1.size ≤ 9223372036854775807 := by
  have m1 : 0 ≤ b.1 % 1073741824 := by omega
  have m2 : 0 ≤ b.2.2 % 1073741824 := by omega
  have e1 : (⟨#[97, 47]⟩ ++ b.2.1 : ByteArray).size = 2 + b.2.1.size := by rw [ByteArray.size_append]; rfl
  have e2 : (b.2.1 ++ ⟨#[0]⟩ : ByteArray).size = b.2.1.size + 1 := by rw [ByteArray.size_append]; rfl
  intro q hq
  simp only [noL, List.mem_cons, List.not_mem_nil, or_false] at hq
  rcases hq with rfl | rfl | rfl | rfl | rfl | rfl | rfl | rfl | rfl | rfl | rfl <;> dsimp only
  · exact ⟨mst_place (plc_neg (by omega)) _ _, by decide⟩
  · exact ⟨mst_place (plc_neg (by omega)) _ _, by decide⟩
  · exact ⟨mst_low (by decide) _ _, by show nm.size ≤ _; omega⟩
  · exact ⟨mst_low (by show ¬ 1 ≤ -1 - b.2.2 % 1073741824; omega) _ _, by show nm.size ≤ _; omega⟩
  · exact ⟨mst_high (by show ¬ 4294967296 + b.2.2 % 1073741824 ≤ 4294967295; omega) _ _, by show nm.size ≤ _; omega⟩
  · exact ⟨mst_name (by decide) _ _, by decide⟩
  · exact ⟨mst_name (by decide) _ _, by decide⟩
  · exact ⟨mst_name (by decide) _ _, by decide⟩
  · exact ⟨mst_name (name_slash (by simp)) _ _, by show (⟨#[97, 47]⟩ ++ b.2.1 : ByteArray).size ≤ _; omega⟩
  · exact ⟨mst_name (name_zero (by simp)) _ _, by show (b.2.1 ++ ⟨#[0]⟩ : ByteArray).size ≤ _; omega⟩
  · exact ⟨mst_name (by decide) _ _, by decide⟩
end Go.Proofs.YtaaeahpmnfifiaaDoor
