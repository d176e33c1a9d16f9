import Derived.Test.YtipbflmonhlnjaaRows
import Derived.WalkKit
import Derived.WalkLawsBesides
import Derived.WalkSmall
import Derived.Laws.AppendOwnNone
import Derived.Laws.CopyOwn
import Derived.Laws.BytesArg
import Derived.Deep.QuietTactic
import Derived.BigQuiet
namespace Rec

/-- one of a row's numbers -/
def nth (l : List Int) (k : Nat) : Int := l.getD k 0
/-- do n bytes from 'at' on lie in so many? -/
def lies (size at_ n : Int) : Bool := decide (0 ≤ at_ ∧ at_ + n ≤ size)
/-- n bytes from 'at' on are f's -/
def ov (l : List Int) (at_ n : Nat) (f : Nat → Int) : List Int := (List.range l.length).map fun i => if at_ ≤ i ∧ i < at_ + n then f (i - at_) else nth l i
/-- a number's bytes -/
def dig (v : Int) (k : Nat) : Int := v / 256 ^ k % 256
/-- has a number that width? -/
def has (v n : Int) : Bool := decide (v < 256 ^ n.toNat)

theorem ext_nth {a b : List Int} (hl : a.length = b.length) (h : ∀ i, i < a.length → nth a i = nth b i) : a = b := by
  apply List.ext_getElem hl
  intro i h1 h2
  have := h i h1
  simpa [nth, List.getD, h1, h2] using this
theorem nth_set (l : List Int) (k i : Nat) (c : Int) (hk : k < l.length) : nth (l.set k c) i = if i = k then c else nth l i := by
  unfold nth
  simp only [List.getD, List.getElem?_set]
  by_cases h : k = i
  · subst h; simp [hk]
  · have : ¬ i = k := fun e => h e.symm
    simp [h, this]
theorem ov_length (l : List Int) (at_ n : Nat) (f : Nat → Int) : (ov l at_ n f).length = l.length := by simp [ov]
theorem nth_out (l : List Int) (i : Nat) (h : l.length ≤ i) : nth l i = 0 := by simp [nth, List.getD, h]
theorem nth_ov (l : List Int) (at_ n : Nat) (f : Nat → Int) (i : Nat) (hi : i < l.length) : nth (ov l at_ n f) i = if at_ ≤ i ∧ i < at_ + n then f (i - at_) else nth l i := by
  show (ov l at_ n f).getD i 0 = _
  rw [List.getD, ov, List.getElem?_map, List.getElem?_range hi]; rfl
theorem ov_zero (l : List Int) (at_ : Nat) (f : Nat → Int) : ov l at_ 0 f = l := by
  refine ext_nth (ov_length _ _ _ _) fun i hi => ?_
  rw [ov_length] at hi
  rw [nth_ov _ _ _ _ _ hi, if_neg (by omega)]
theorem ov_set (l : List Int) (at_ k : Nat) (f : Nat → Int) (h : at_ + k < l.length) : (ov l at_ k f).set (at_ + k) (f k) = ov l at_ (k + 1) f := by
  refine ext_nth (by simp [ov_length]) fun i hi => ?_
  have hi' : i < l.length := by simpa [ov_length] using hi
  rw [nth_set _ _ _ _ (by rw [ov_length]; exact h), nth_ov _ _ _ _ _ hi', nth_ov _ _ _ _ _ hi']
  by_cases e : i = at_ + k
  · subst e; rw [if_pos rfl, if_pos (by omega), Nat.add_sub_cancel_left]
  · rw [if_neg e]
    by_cases h2 : at_ ≤ i ∧ i < at_ + k
    · rw [if_pos h2, if_pos (by omega)]
    · rw [if_neg h2, if_neg (by omega)]
theorem ov_ov (l : List Int) (at_ m n : Nat) (f g h : Nat → Int) (h1 : ∀ i, i < m → f i = h i) (h2 : ∀ i, i < n → g i = h (m + i)) :
    ov (ov l at_ m f) (at_ + m) n g = ov l at_ (m + n) h := by
  refine ext_nth (by simp [ov_length]) fun i hi => ?_
  have hi' : i < l.length := by simpa [ov_length] using hi
  rw [nth_ov _ _ _ _ _ (by rw [ov_length]; exact hi'), nth_ov _ _ _ _ _ hi', nth_ov _ _ _ _ _ hi']
  by_cases c1 : at_ + m ≤ i ∧ i < at_ + m + n
  · rw [if_pos c1, if_pos (by omega), h2 _ (by omega)]; congr 1; omega
  · rw [if_neg c1]
    by_cases c2 : at_ ≤ i ∧ i < at_ + m
    · rw [if_pos c2, if_pos (by omega), h1 _ (by omega)]
    · rw [if_neg c2, if_neg (by omega)]
theorem wf_ov (l : List Int) (at_ n : Nat) (f : Nat → Int) (hl : ∀ i, 0 ≤ nth l i ∧ nth l i < 256) (hf : ∀ i, i < n → 0 ≤ f i ∧ f i < 256) (i : Nat) : 0 ≤ nth (ov l at_ n f) i ∧ nth (ov l at_ n f) i < 256 := by
  by_cases hi : i < l.length
  · rw [nth_ov _ _ _ _ _ hi]
    split
    · exact hf _ (by omega)
    · exact hl i
  · rw [nth_out _ _ (by rw [ov_length]; omega)]; omega
/-- how many bytes from 'at' on stand ahead of the first zero, of n -/
def fz (l : List Int) (at_ : Nat) : Nat → Nat
  | 0 => 0
  | n + 1 => if fz l at_ n = n ∧ nth l (at_ + n) ≠ 0 then n + 1 else fz l at_ n
/-- are n bytes from 'at' on zero? -/
def zr (l : List Int) (at_ n : Nat) : Bool := decide (∀ i, i < n → nth l (at_ + i) = 0)
/-- do but zeros stand behind the first zero? -/
def cl (l : List Int) (at_ n : Nat) : Bool := zr l (at_ + fz l at_ n) (n - fz l at_ n)
end Rec

namespace Go.Proofs.Ytipbflmonhlnjaa.Crc

abbrev W := BitVec 32

def pl (w : W) : W := if w.getLsbD 0 = true then (w >>> 1) ^^^ 0xEDB88320#32 else w >>> 1
def Lin (f : W → W) : Prop := ∀ a b, f (a ^^^ b) = f a ^^^ f b

def pw (f : W → W) : Nat → W → W
  | 0, w => w
  | n + 1, w => pw f n (f w)

theorem Lin.pw {f : W → W} (h : Lin f) : ∀ n, Lin (pw f n)
  | 0 => fun _ _ => rfl
  | n + 1 => fun a b => by
    show Crc.pw f n (f (a ^^^ b)) = Crc.pw f n (f a) ^^^ Crc.pw f n (f b)
    rw [h, Lin.pw h n]
theorem Lin.zero {f : W → W} (h : Lin f) : f 0#32 = 0#32 := by
  have := h 0#32 0#32
  rw [BitVec.xor_self, BitVec.xor_self] at this
  exact this

def e8 (w : W) : W := pw pl 8 w
/-- what is done to a word, by what is done to its first k bits -/
def app (z : Nat → W) (w : W) : Nat → W
  | 0 => 0#32
  | k + 1 => app z w k ^^^ (if w.getLsbD k = true then z k else 0#32)
/-- bytes over a word -/
def fold (w : W) (l : List Int) : W := l.foldl (fun w c => e8 (w ^^^ BitVec.ofInt 32 c)) w
def ones : W := 4294967295#32
def crc (l : List Int) : W := fold ones l ^^^ ones
end Go.Proofs.Ytipbflmonhlnjaa.Crc
namespace Go.Proofs.Ytipbflmonhlnjaa.Crc

end Go.Proofs.Ytipbflmonhlnjaa.Crc

namespace Go.Proofs.Ytipbflmonhlnjaa
open Rec

/-- the header's first eight bytes -/
def mag : List Int := [66, 79, 76, 69, 76, 79, 71, 49]
/-- the number ahead of one -/
def pre (ns : List Int) (i : Nat) : Int := if i = 0 then 97 else nth ns (i - 1)
/-- may these numbers be, on a disk of n blocks? -/
def may (ns : List Int) (n : Int) : Bool := decide (∀ i, i < ns.length → pre ns i < nth ns i ∧ nth ns i < n)
/-- a header's byte -/
def hb (ns : List Int) (s : Int) (i : Nat) : Int :=
  if i < 8 then nth mag i else if i < 10 then dig ns.length (i - 8) else if i < 12 then 0 else if i < 16 then dig s (i - 12)
  else if i < 16 + 4 * ns.length then dig (nth ns ((i - 16) / 4)) ((i - 16) % 4) else 0
/-- a header -/
def hd (ns : List Int) (s : Int) : List Int := (List.range 512).map (hb ns s)
/-- a header with only some of its numbers -/
def hp (ns : List Int) (j : Nat) : List Int := (List.range 512).map fun i => if i < 16 + 4 * j then hb ns 0 i else 0
/-- 512 zeros -/
def zs : List Int := List.replicate 512 0
/-- so many blocks? -/
def blk (ds : List (List Int)) (k : Nat) : Bool := decide (ds.length = k) && decide (∀ b, b ∈ ds → b.length = 512)
/-- the sum of a header with these blocks -/
def sumV (h : List Int) (ds : List (List Int)) : Int := ((Crc.crc (ov h 12 4 (fun _ => 0) ++ ds.flatten)).toNat : Int)
/-- P4.1: the header -/
def made (ns : List Int) (ds : List (List Int)) : List Int := hd ns (sumV (hd ns 0) ds)

end Go.Proofs.Ytipbflmonhlnjaa

namespace Go.Proofs.Ytipbflmonhlnjaa
open Go.RowKit Rec

/-- bytes in memory -/
structure Bytes (w : World) (a : Option Addr) (l : List Int) : Prop where
  len : l.length ≤ 1000000000000000
  wf : ∀ i, 0 ≤ nth l i ∧ nth l i < 256
  at_ : l = [] ∨ ∃ b off, a = some ⟨b, off, none⟩ ∧ ∀ i, i < l.length → w.cell? ⟨b, off + i, none⟩ = some (.int .u8 (nth l i))
theorem Bytes.cell {w : World} {b off i : Nat} {l : List Int} (h : Bytes w (some ⟨b, off, none⟩) l) (hi : i < l.length) : w.cell? ⟨b, off + i, none⟩ = some (.int .u8 (nth l i)) := by
  rcases h.at_ with e | ⟨b', off', e, hc⟩
  · subst e; exact absurd hi (by simp)
  · cases e; exact hc i hi
theorem heap_lt {w : World} {B : Nat} {o : Obj} (h : w.heap[B]? = some o) : B < w.heap.size := by
  by_cases hb : B < w.heap.size
  · exact hb
  · rw [Array.getElem?_eq_none (by omega)] at h; exact absurd h (by simp)
theorem nth_cell (l : List Int) (k : Nat) (h : k < l.length) : ((l.map (Value.int .u8)).toArray)[k]? = some (.int .u8 (nth l k)) := by
  simp [nth, List.getD, h]
theorem nth_cellL (l : List Int) (k : Nat) (h : k < l.length) : (l.map (Value.int .u8))[k]? = some (.int .u8 (nth l k)) := by
  simp [nth, List.getD, h]
theorem grown_trans {a b c : World} {r : Option Nat} (h : a.grownBy b r) (k : b.grownBy c r) : a.grownBy c r :=
  ⟨k.os.trans h.os, k.tape.trans h.tape, k.output.trans h.output, Nat.le_trans h.size k.size, fun i hi hr => (k.block i (Nat.lt_of_lt_of_le hi h.size) hr).trans (h.block i hi hr)⟩
theorem grown_refl (w : World) (r : Option Nat) : w.grownBy w r := ⟨rfl, rfl, rfl, Nat.le_refl _, fun _ _ _ => rfl⟩
/-- bytes in a row of one's own -/
structure OwnB (w : World) (g cap : Nat) (l : List Int) : Prop where
  row : ∃ cur : Array Value, w.heap[g]? = some (.cells cur 5 (0, 0)) ∧ cur.size = cap ∧ cur.toList.take l.length = l.map (Value.int .u8)
  len : l.length ≤ 1000000000000000
  room : l.length ≤ cap
  top : cap ≤ maxLen
  wf : ∀ i, 0 ≤ nth l i ∧ nth l i < 256

theorem OwnB.cell {w : World} {g cap : Nat} {l : List Int} (h : OwnB w g cap l) (i : Nat) (hi : i < l.length) : w.cell? ⟨g, i, none⟩ = some (.int .u8 (nth l i)) := by
  obtain ⟨cur, hg, _, ht⟩ := h.row
  rw [cell_of_row _ _ _ _ _ _ hg, ← nth_cell l i hi, ← ht]
  simp [hi]
theorem OwnB.frozen {w : World} {g cap : Nat} {l : List Int} (h : OwnB w g cap l) (i : Nat) : w.frozen? ⟨g, i, none⟩ = false := by
  obtain ⟨cur, hg, _, _⟩ := h.row
  exact frozen_of_row _ _ _ _ _ hg
theorem OwnB.bytes {w : World} {g cap : Nat} {l : List Int} (h : OwnB w g cap l) : Bytes w (some ⟨g, 0, none⟩) l :=
  ⟨h.len, h.wf, .inr ⟨g, 0, rfl, fun i hi => by rw [Nat.zero_add]; exact h.cell i hi⟩⟩
theorem OwnB.lt {w : World} {g cap : Nat} {l : List Int} (h : OwnB w g cap l) : g < w.heap.size := by
  obtain ⟨cur, hg, _, _⟩ := h.row
  exact heap_lt hg
theorem OwnB.below {B : Nat} {w w' : World} {g cap : Nat} {l : List Int} (h : OwnB w g cap l) (hb : Below B w w') (hB : g < B) : OwnB w' g cap l := by
  obtain ⟨cur, hg, h2, h3⟩ := h.row
  exact ⟨⟨cur, by rw [hb.block g hB]; exact hg, h2, h3⟩, h.len, h.room, h.top, h.wf⟩
theorem OwnB.on {w w' : World} {g cap : Nat} {l : List Int} (h : OwnB w g cap l) (hb : Below w.heap.size w w') : OwnB w' g cap l := h.below hb h.lt
theorem OwnB.grown {r : Option Nat} {w w' : World} {g cap : Nat} {l : List Int} (h : OwnB w g cap l) (hb : w.grownBy w' r) (hr : some g ≠ r) : OwnB w' g cap l := by
  obtain ⟨cur, hg, h2, h3⟩ := h.row
  exact ⟨⟨cur, by rw [hb.block g h.lt hr]; exact hg, h2, h3⟩, h.len, h.room, h.top, h.wf⟩
theorem grown_set {w : World} {g k : Nat} {v : Value} : w.grownBy (w.setCell ⟨g, k, none⟩ v) (some g) :=
  ⟨rfl, rfl, rfl, by simp [World.setCell], fun i _ hr => Below.heap_setCell w ⟨g, k, none⟩ v i (fun e => hr (by rw [e]))⟩
theorem OwnB.set {w : World} {g cap : Nat} {l : List Int} (h : OwnB w g cap l) (k : Nat) (c : Int) (hk : k < l.length) (hc : 0 ≤ c ∧ c < 256) :
    OwnB (w.setCell ⟨g, k, none⟩ (.int .u8 c)) g cap (l.set k c) := by
  obtain ⟨cur, hg, h2, h3⟩ := h.row
  refine ⟨⟨cur.setIfInBounds k (.int .u8 c), heap_setCell_same _ _ _ _ _ _ hg, by simp [h2], ?_⟩, by simpa using h.len, by simpa using h.room, h.top, fun i => ?_⟩
  · rw [List.length_set, Array.toList_setIfInBounds, List.take_set, h3, List.map_set]
  · rw [nth_set l k i c hk]
    split
    · exact hc
    · exact h.wf i
theorem Bytes.below {B : Nat} {w w' : World} {a : Option Addr} {l : List Int} (h : Bytes w a l) (hb : Below B w w') (hB : ∀ p, a = some p → p.block < B) : Bytes w' a l := by
  refine ⟨h.len, h.wf, ?_⟩
  rcases h.at_ with e | ⟨b, off, rfl, hc⟩
  · exact .inl e
  · refine .inr ⟨b, off, rfl, fun i hi => ?_⟩
    have := hB _ rfl
    rw [hb.cell (p := ⟨b, off + i, none⟩) this]; exact hc i hi
theorem Bytes.on {w w' : World} {a : Option Addr} {l : List Int} (h : Bytes w a l) (hb : Below w.heap.size w w') : Bytes w' a l := by
  refine ⟨h.len, h.wf, ?_⟩
  rcases h.at_ with e | ⟨b, off, rfl, hc⟩
  · exact .inl e
  · exact .inr ⟨b, off, rfl, fun i hi => by rw [hb.cell (block_lt_of_cell (hc i hi))]; exact hc i hi⟩
theorem nth_take (l : List Int) (k i : Nat) (h : i < k) : nth (l.take k) i = nth l i := by simp [nth, List.getD, h]
theorem nth_drop (l : List Int) (k i : Nat) : nth (l.drop k) i = nth l (k + i) := by simp [nth, List.getD]
theorem wf_drop {l : List Int} (h : ∀ i, 0 ≤ nth l i ∧ nth l i < 256) (k : Nat) : ∀ i, 0 ≤ nth (l.drop k) i ∧ nth (l.drop k) i < 256 := fun i => by rw [nth_drop]; exact h _
theorem wf_take {l : List Int} (h : ∀ i, 0 ≤ nth l i ∧ nth l i < 256) (k : Nat) : ∀ i, 0 ≤ nth (l.take k) i ∧ nth (l.take k) i < 256 := by
  intro i
  by_cases hi : i < k
  · rw [nth_take l k i hi]; exact h i
  · rw [nth_out _ _ (by rw [List.length_take]; omega)]; omega
theorem wf_two {l m : List Int} (h : ∀ i, 0 ≤ nth l i ∧ nth l i < 256) (k : ∀ i, 0 ≤ nth m i ∧ nth m i < 256) : ∀ i, 0 ≤ nth (l ++ m) i ∧ nth (l ++ m) i < 256 := by
  intro i
  unfold nth at *
  by_cases hi : i < l.length
  · have : (l ++ m).getD i 0 = l.getD i 0 := by simp [List.getD, List.getElem?_append, hi]
    rw [this]; exact h i
  · have : (l ++ m).getD i 0 = m.getD (i - l.length) 0 := by simp [List.getD, List.getElem?_append, hi]
    rw [this]; exact k _
theorem wf_list {l : List Int} (h : l.all (fun c => decide (0 ≤ c ∧ c < 256)) = true) : ∀ i, 0 ≤ nth l i ∧ nth l i < 256 := by
  intro i
  by_cases hi : i < l.length
  · have e : nth l i = l[i] := by simp [nth, List.getD, hi]
    rw [e]
    have := List.all_eq_true.1 h l[i] (List.getElem_mem hi)
    simpa using this
  · rw [nth_out _ _ (by omega)]; omega
theorem Bytes.take {w : World} {a : Option Addr} {l : List Int} (h : Bytes w a l) (k : Nat) : Bytes w a (l.take k) := by
  refine ⟨by have := h.len; rw [List.length_take]; omega, wf_take h.wf k, ?_⟩
  rcases h.at_ with e | ⟨b, off, rfl, hc⟩
  · exact .inl (by rw [e]; simp)
  · refine .inr ⟨b, off, rfl, fun i hi => ?_⟩
    rw [List.length_take] at hi
    rw [nth_take _ _ _ (by omega)]; exact hc i (by omega)

theorem info5 : (Try.prog.info? 5).map (fun i => (i.zero, i.size, i.bytes)) = some (some (.int .u8 0), 1, 1) := by kernel_rfl
theorem cells_u8 (l : List Int) : ∀ u ∈ l.map (Value.int .u8), u.oneCell' = true := by
  intro u hu
  obtain ⟨c, _, rfl⟩ := List.mem_map.1 hu
  rfl
theorem Bytes.news {w : World} {p : Addr} {l : List Int} (hb : Bytes w (some p) l) : ∀ j u, (l.map (Value.int .u8))[j]? = some u → w.cell? (p.add j) = some u := by
  intro j u hj
  rcases hb.at_ with e | ⟨b, off, e, hc⟩
  · subst e; simp at hj
  · cases e
    have hlt : j < l.length := by
      by_cases hlt : j < l.length
      · exact hlt
      · rw [List.getElem?_eq_none (by simp; omega)] at hj; cases hj
    rw [nth_cellL l j hlt] at hj
    cases hj
    rw [Addr.add_lit, ← hc j hlt]
theorem Bytes.nil {w : World} {l : List Int} (hb : Bytes w none l) : l = [] := by
  rcases hb.at_ with e | ⟨_, _, e, _⟩
  · exact e
  · cases e
theorem owns_of {w : World} {B g cap : Nat} {l : List Int} (h : OwnB w g cap l) (hg : B ≤ g) : w.ownsRow B 5 1 (.slice (some ⟨g, 0, none⟩) l.length cap) l.length (l.map (Value.int .u8)) := by
  obtain ⟨cur, h1, h2, h3⟩ := h.row
  exact ⟨by simp, .inr ⟨g, cap, cur, rfl, hg, h1, h.room, h.top, by omega, by simpa using h3⟩⟩
/-- 'append(s, x...)', s a row of one's own -/
theorem wp_app {ops : Array Oper} {rest : List Oper} {o : Oper} {a : Act} {Q : Exit → Act → World → Prop} {w : World} (hgd : o.guard = none) (s x : Operand)
    (ho : o.op = .call { callee := .builtin .append, args := #[s, x], argTypes := #[22, 22] }) (B g k cap : Nat) (l m : List Int) (hk : l.length = k) (hs : a.eval s = .slice (some ⟨g, 0, none⟩) k cap) (hown : OwnB w g cap l) (hg : B ≤ g) (hB : B ≤ w.heap.size)
    (ad : Option Addr) (n c : Nat) (hx : a.eval x = .slice ad n c) (hn : m.length = n) (hb : Bytes w ad m) (hz : ad = none → c = 0) (h47 : k + n ≤ 140737488355328)
    (h : ∀ g' cap' w', B ≤ g' → OwnB w' g' cap' (l ++ m) → w.grownBy w' (some g) → wpList Try.prog ops Q rest (a.put o.dst (.slice (some ⟨g', 0, none⟩) (k + n) cap')) w') :
    wpList Try.prog ops Q (o :: rest) a w := by
  subst hn hk
  obtain ⟨i0, hi, hz0, hz1, hz2⟩ := info_parts info5
  have hown' := owns_of (B := B) hown hg
  cases ad with
  | none =>
    have hm := hb.nil
    subst hm
    have hc := hz rfl
    subst hc
    refine wpList_append_own_none hgd s x 22 ho B 5 i0 1 Try.underlying22 hi _ _ _ hs hown' hx ?_
    exact h g cap w hg (by simpa using hown) (grown_refl _ _)
  | some p =>
    refine wpList_append_own _ hgd s x 22 ho B 5 i0 (.int .u8 0) 1 1 Try.underlying22 hi hz0 hz1 hz2 rfl (by decide) _ _ _ hs hown' p m.length c (m.map (Value.int .u8)) hx (by simp) hb.news (cells_u8 m) ?_ (by omega) hB ?_
    · unfold maxLen; omega
    · intro v' w' ho' hg' hnil
      rw [← List.map_append] at ho'
      rcases ho'.2 with ⟨hv, h0⟩ | ⟨g', cap', cur, hv, hgB, hgr, hcap, hcm, hsz, htk⟩
      · have := (hnil.1 hv).1
        cases this
      · subst hv
        refine h _ _ _ hgB ⟨⟨cur, hgr, by simpa using hsz, by simpa using htk⟩, by rw [List.length_append]; omega, by simpa using hcap, hcm, wf_two hown.wf hb.wf⟩ hg'
/-- an empty row of one's own -/
theorem own_empty {w : World} {g : Nat} (h : w.heap[g]? = some (.cells #[] 5 (0, 0))) : OwnB w g 0 [] :=
  ⟨⟨#[], h, rfl, rfl⟩, by simp, by simp, by unfold maxLen; omega, by intro i; simp [nth]⟩
end Go.Proofs.Ytipbflmonhlnjaa
