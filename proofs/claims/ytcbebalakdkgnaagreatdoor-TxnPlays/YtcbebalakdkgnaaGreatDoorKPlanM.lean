import Derived.Test.YtcbebalakdkgnaaGreatDoorKMake
import Derived.BigRegion
import Derived.OwnWalk
import Derived.Deep.OwnRows
namespace Go.Proofs.YtcbebalakdkgnaaGreatDoor
open Go.RowKit Rec

/-- where a plan's numbers stand -/
def atP (st : List Int) : Nat → Int
  | 0 => 97
  | j + 1 => atP st j + 1 + nth st j % 18446744073709551616 % 160
def nsP (st : List Int) (j : Nat) : List Int := (List.range j).map fun i => atP st (i + 1)
/-- the bytes of its blocks -/
def byteP (sd : List Int) (i k : Nat) : Int := if sd.length = 0 then 0 else (nth sd ((k + i) % sd.length) + i) % 256
def blkP (sd : List Int) (i : Nat) : List Int := (List.range 512).map (byteP sd i)
theorem blkP_length (sd : List Int) (i : Nat) : (blkP sd i).length = 512 := by unfold blkP; rw [List.length_map, List.length_range]
def dsP (sd : List Int) (j : Nat) : List (List Int) := (List.range j).map (blkP sd)
theorem dsP_succ (sd : List Int) (j : Nat) : dsP sd (j + 1) = dsP sd j ++ [blkP sd j] := by
  unfold dsP; rw [List.range_succ, List.map_append]; rfl
/-- a plan's memory -/
structure PlanAt (w : World) (sa : Option Addr) (sn : Nat) (ba : Option Addr) (bn : Nat) (st sd : List Int) : Prop where
  sl : st.length = sn
  ints : Ints w sa st
  wf : ∀ i, -9223372036854775808 ≤ nth st i ∧ nth st i ≤ 9223372036854775807
  bl : sd.length = bn
  bytes : Bytes w ba sd
theorem PlanAt.on {w w' : World} {sa ba : Option Addr} {sn bn : Nat} {st sd : List Int} (h : PlanAt w sa sn ba bn st sd) (hb : Below w.heap.size w w') : PlanAt w' sa sn ba bn st sd := ⟨h.sl, h.ints.on hb, h.wf, h.bl, h.bytes.on hb⟩

theorem info22 : (Tryz.prog.info? 42).map (fun i => (i.zero, i.size, i.bytes)) = some (some (.slice none 0 0), 1, 24) := by kernel_rfl
/-- append of numbers to nil or one's own -/
theorem wp_iown {ops : Array Oper} {rest : List Oper} {o : Oper} {a : Act} {Q : Exit → Act → World → Prop} {w : World} (hgd : o.guard = none) (s x : Operand)
    (ho : o.op = .call { callee := .builtin .append, args := #[s, x], argTypes := #[70, 70] }) (v : Value) (k : Nat) (l : List Int) (hs : a.eval s = v) (hown : w.ownsRow 0 3 1 v k (l.map (Value.int .i64)))
    (ad : Addr) (m c : Nat) (y : List Int) (hx : a.eval x = .slice (some ad) m c) (hm : 0 < m) (hl : y.length = m) (hb : ∀ j, j < y.length → w.cell? (ad.add j) = some (.int .i64 (nth y j))) (h47 : k + m ≤ 17592186044416)
    (h : ∀ g cap w', w'.ownsRow 0 3 1 (.slice (some ⟨g, 0, none⟩) (k + m) cap) (k + m) ((l ++ y).map (Value.int .i64)) → Fr (fun k => v.ownBlock = some k) w w' → (v.ownBlock = some g ∨ w.heap.size ≤ g) → wpList Tryz.prog ops Q rest (a.put o.dst (.slice (some ⟨g, 0, none⟩) (k + m) cap)) w') :
    wpList Tryz.prog ops Q (o :: rest) a w := by
  obtain ⟨i0, hi, hz0, hz1, hz2⟩ := info_parts info3
  refine wp_own hgd s x 70 ho 3 i0 _ 1 8 Tryz.underlying70 hi hz0 hz1 hz2 rfl (by decide) v k _ hs hown ad m c (y.map (Value.int .i64)) hx hm (by rw [List.length_map, hl, Nat.mul_one]) ?_ ?_ (by unfold maxLen; omega) (by omega) ?_
  · intro j u hj
    have hlt : j < y.length := by
      by_cases hlt : j < y.length
      · exact hlt
      · rw [List.getElem?_eq_none (by simp; omega)] at hj; cases hj
    have e : (y.map (Value.int .i64))[j]? = some (.int .i64 (nth y j)) := by simp [nth, List.getD, hlt]
    rw [e] at hj
    cases hj
    exact hb j hlt
  · intro u hu
    obtain ⟨c, _, rfl⟩ := List.mem_map.1 hu
    rfl
  intro g cap w' h1 h2 h3
  rw [← List.map_append] at h1
  exact h g cap w' h1 h2 h3
/-- append of slices to nil or one's own -/
theorem wp_sown {ops : Array Oper} {rest : List Oper} {o : Oper} {a : Act} {Q : Exit → Act → World → Prop} {w : World} (hgd : o.guard = none) (s x : Operand)
    (ho : o.op = .call { callee := .builtin .append, args := #[s, x], argTypes := #[117, 117] }) (v : Value) (k : Nat) (l : List Value) (hs : a.eval s = v) (hown : w.ownsRow 0 42 1 v k l)
    (ad : Addr) (m c : Nat) (y : List Value) (hx : a.eval x = .slice (some ad) m c) (hm : 0 < m) (hl : y.length = m) (hb : ∀ j u, y[j]? = some u → w.cell? (ad.add j) = some u) (h1c : ∀ u ∈ y, u.oneCell' = true) (h47 : k + m ≤ 5864062014805)
    (h : ∀ g cap w', w'.ownsRow 0 42 1 (.slice (some ⟨g, 0, none⟩) (k + m) cap) (k + m) (l ++ y) → Fr (fun k => v.ownBlock = some k) w w' → (v.ownBlock = some g ∨ w.heap.size ≤ g) → wpList Tryz.prog ops Q rest (a.put o.dst (.slice (some ⟨g, 0, none⟩) (k + m) cap)) w') :
    wpList Tryz.prog ops Q (o :: rest) a w := by
  obtain ⟨i0, hi, hz0, hz1, hz2⟩ := info_parts info22
  exact wp_own hgd s x 117 ho 42 i0 _ 1 24 Tryz.underlying117 hi hz0 hz1 hz2 rfl (by decide) v k _ hs hown ad m c y hx hm (by rw [hl, Nat.mul_one]) hb h1c (by unfold maxLen; omega) (by omega) h
/-- rows of different kinds are different rows -/
theorem own_type {w : World} {B e size n : Nat} {v : Value} {xs : List Value} (h : w.ownsRow B e size v n xs) {k : Nat} (hk : v.ownBlock = some k) : ∃ cur, w.heap[k]? = some (.cells cur e (0, 0)) := by
  rcases h.2 with ⟨rfl, _⟩ | ⟨g, cap, cur, rfl, _, hg, _⟩
  · cases hk
  · cases hk; exact ⟨cur, hg⟩
theorem own_apart {w : World} {B B' e e' size size' n n' : Nat} {v v' : Value} {xs xs' : List Value} (h : w.ownsRow B e size v n xs) (h' : w.ownsRow B' e' size' v' n' xs') (hne : e ≠ e') (k : Nat) (hk : v.ownBlock = some k) : ¬ v'.ownBlock = some k := by
  intro hk'
  obtain ⟨c1, h1⟩ := own_type h hk
  obtain ⟨c2, h2⟩ := own_type h' hk'
  rw [h1] at h2
  cases h2
  exact hne rfl
theorem own_apartB {w : World} {B e size n g cap : Nat} {v : Value} {xs : List Value} {l : List Int} (h : w.ownsRow B e size v n xs) (h' : OwnB w g cap l) (hne : e ≠ 5) : ¬ v.ownBlock = some g := by
  intro hk
  obtain ⟨c1, h1⟩ := own_type h hk
  obtain ⟨cur, h2, _, _⟩ := h'.row
  rw [h1] at h2
  cases h2
  exact hne rfl
/-- slices of bytes, and what they hold -/
structure SlAt (w : World) (vs : List Value) (ds : List (List Int)) : Prop where
  len : vs.length = ds.length
  at_ : ∀ i, i < ds.length → ∃ b off c, vs[i]? = some (.slice (some ⟨b, off, none⟩) (row ds i).length c) ∧ Bytes w (some ⟨b, off, none⟩) (row ds i)
theorem SlAt.on {w w' : World} {vs : List Value} {ds : List (List Int)} (h : SlAt w vs ds) (hb : Below w.heap.size w w') : SlAt w' vs ds :=
  ⟨h.len, fun i hi => by obtain ⟨b, off, c, h1, h2⟩ := h.at_ i hi; exact ⟨b, off, c, h1, h2.on hb⟩⟩
theorem row_append (ds es : List (List Int)) (i : Nat) : row (ds ++ es) i = if i < ds.length then row ds i else row es (i - ds.length) := by
  unfold row
  by_cases h : i < ds.length
  · rw [if_pos h]; simp [List.getD, List.getElem?_append, h]
  · rw [if_neg h]; simp [List.getD, List.getElem?_append, h]
theorem SlAt.append {w : World} {vs us : List Value} {ds es : List (List Int)} (h : SlAt w vs ds) (k : SlAt w us es) : SlAt w (vs ++ us) (ds ++ es) := by
  refine ⟨by rw [List.length_append, List.length_append, h.len, k.len], fun i hi => ?_⟩
  rw [List.length_append] at hi
  rw [row_append]
  by_cases hlt : i < ds.length
  · rw [if_pos hlt, List.getElem?_append_left (by rw [h.len]; exact hlt)]; exact h.at_ i hlt
  · rw [if_neg hlt, List.getElem?_append_right (by rw [h.len]; omega), h.len]; exact k.at_ _ (by omega)
theorem SlAt.single {w : World} {b off c n : Nat} {l : List Int} (h : Bytes w (some ⟨b, off, none⟩) l) (hn : l.length = n) : SlAt w [.slice (some ⟨b, off, none⟩) n c] [l] :=
  ⟨rfl, fun i hi => by
    have : i = 0 := by simpa using hi
    subst this
    subst hn
    exact ⟨b, off, c, rfl, h⟩⟩
theorem SlAt.data {w : World} {g n cap : Nat} {vs : List Value} {ds : List (List Int)} (h : SlAt w vs ds) (ho : w.ownsRow 0 42 1 (.slice (some ⟨g, 0, none⟩) n cap) n vs) (hl : ds.length ≤ 1000000000000000) : Data w (some ⟨g, 0, none⟩) ds := by
  refine ⟨hl, .inr ⟨g, 0, rfl, fun i hi => ?_⟩⟩
  obtain ⟨b, off, c, h1, h2⟩ := h.at_ i hi
  refine ⟨_, c, ?_, h2, fun e => (nomatch e)⟩
  have := ho.cells (g := g) rfl i _ h1
  rw [Addr.add_lit] at this
  exact this
end Go.Proofs.YtcbebalakdkgnaaGreatDoor

namespace Go.Proofs.YtcbebalakdkgnaaGreatDoor
open Go.RowKit Rec

/-- what stands behind j rounds -/
structure MadeAt (w0 wr : World) (st sd : List Int) (j : Nat) (s5 s6 : Value) : Prop where
  nums : wr.ownsRow 0 3 1 s5 j ((nsP st j).map (Value.int .i64))
  rows : ∃ vs, wr.ownsRow 0 42 1 s6 j vs ∧ SlAt wr vs (dsP sd j) ∧ ∀ u ∈ vs, ∀ k, u.ownBlock = some k → w0.heap.size ≤ k ∧ ∃ cap l, OwnB wr k cap l
  far5 : ∀ k, s5.ownBlock = some k → w0.heap.size ≤ k
  far6 : ∀ k, s6.ownBlock = some k → w0.heap.size ≤ k
  bel : Below w0.heap.size w0 wr
theorem SlAt.fr {S : Nat → Prop} {w w' : World} {vs : List Value} {ds : List (List Int)} (h : SlAt w vs ds) (x : Fr S w w') (hS : ∀ u ∈ vs, ∀ k, u.ownBlock = some k → ¬ S k) : SlAt w' vs ds := by
  refine ⟨h.len, fun i hi => ?_⟩
  obtain ⟨b, off, c, h1, h2⟩ := h.at_ i hi
  refine ⟨b, off, c, h1, h2.len, h2.wf, ?_⟩
  rcases h2.at_ with e | ⟨b', off', e, hc⟩
  · exact .inl e
  · cases e
    refine .inr ⟨b, off, rfl, fun m hm => x.cell (hc m hm) (hS _ (List.mem_of_getElem? h1) b rfl)⟩
theorem MadeAt.start {w0 : World} {st sd : List Int} : MadeAt w0 w0 st sd 0 (.slice none 0 0) (.slice none 0 0) :=
  ⟨⟨rfl, .inl ⟨rfl, rfl⟩⟩, ⟨[], ⟨rfl, .inl ⟨rfl, rfl⟩⟩, ⟨rfl, fun i hi => absurd hi (by simp [dsP])⟩, fun u hu => by simp at hu⟩, (fun k h => by cases h), (fun k h => by cases h), Below.refl _ _⟩
/-- one number more, then a block of one's own, then it too -/
structure MidAt (w0 wr : World) (st sd : List Int) (j : Nat) (s5 s6 : Value) : Prop where
  nums : wr.ownsRow 0 3 1 s5 (j + 1) ((nsP st (j + 1)).map (Value.int .i64))
  rows : ∃ vs, wr.ownsRow 0 42 1 s6 j vs ∧ SlAt wr vs (dsP sd j) ∧ ∀ u ∈ vs, ∀ k, u.ownBlock = some k → w0.heap.size ≤ k ∧ ∃ cap l, OwnB wr k cap l
  far5 : ∀ k, s5.ownBlock = some k → w0.heap.size ≤ k
  far6 : ∀ k, s6.ownBlock = some k → w0.heap.size ≤ k
  bel : Below w0.heap.size w0 wr
theorem owns_on {w w' : World} {e size n : Nat} {v : Value} {xs : List Value} (h : w.ownsRow 0 e size v n xs) (hb : Below w.heap.size w w') : w'.ownsRow 0 e size v n xs := owns_fr h (below_fr hb (fun _ => False)) (fun _ _ e => e)
theorem MidAt.on {w0 wr w' : World} {st sd : List Int} {j : Nat} {s5 s6 : Value} (h : MidAt w0 wr st sd j s5 s6) (hb : Below wr.heap.size wr w') : MidAt w0 w' st sd j s5 s6 := by
  obtain ⟨vs, h1, h2, h3⟩ := h.rows
  exact ⟨owns_on h.nums hb, ⟨vs, owns_on h1 hb, h2.on hb, fun u hu k hk => by obtain ⟨a, c, l, b⟩ := h3 u hu k hk; exact ⟨a, c, l, b.on hb⟩⟩, h.far5, h.far6, h.bel.trans (hb.mono h.bel.size)⟩
theorem MadeAt.on {w0 wr w' : World} {st sd : List Int} {j : Nat} {s5 s6 : Value} (h : MadeAt w0 wr st sd j s5 s6) (hb : Below wr.heap.size wr w') : MadeAt w0 w' st sd j s5 s6 := by
  obtain ⟨vs, h1, h2, h3⟩ := h.rows
  exact ⟨owns_on h.nums hb, ⟨vs, owns_on h1 hb, h2.on hb, fun u hu k hk => by obtain ⟨a, c, l, b⟩ := h3 u hu k hk; exact ⟨a, c, l, b.on hb⟩⟩, h.far5, h.far6, h.bel.trans (hb.mono h.bel.size)⟩
theorem MadeAt.mid {w0 wr w' : World} {st sd : List Int} {j g cap : Nat} {s5 s6 : Value} (h : MadeAt w0 wr st sd j s5 s6) (ho : w'.ownsRow 0 3 1 (.slice (some ⟨g, 0, none⟩) (j + 1) cap) (j + 1) ((nsP st (j + 1)).map (Value.int .i64))) (hf : Fr (fun k => s5.ownBlock = some k) wr w') (hg : s5.ownBlock = some g ∨ wr.heap.size ≤ g) :
    MidAt w0 w' st sd j (.slice (some ⟨g, 0, none⟩) (j + 1) cap) s6 := by
  obtain ⟨vs, h1, h2, h3⟩ := h.rows
  refine ⟨ho, ⟨vs, owns_fr h1 hf (fun k hk => own_apart h1 h.nums (by decide) k hk), h2.fr hf (fun u hu k hk => ?_), fun u hu k hk => ?_⟩, fun k hk => ?_, h.far6, h.bel.trans (hf.below _ h.far5 h.bel.size)⟩
  · obtain ⟨_, cap, l, b⟩ := h3 u hu k hk
    exact own_apartB h.nums b (by decide)
  · obtain ⟨a, cap, l, b⟩ := h3 u hu k hk
    exact ⟨a, cap, l, b.fr hf (own_apartB h.nums b (by decide))⟩
  · cases hk
    rcases hg with e | e
    · exact h.far5 _ e
    · exact Nat.le_trans h.bel.size e
theorem MidAt.next {w0 wr w' : World} {st sd : List Int} {j g cap gb c : Nat} {s5 s6 : Value} {vs : List Value} (h : MidAt w0 wr st sd j s5 s6) (hr : wr.ownsRow 0 42 1 s6 j vs) (hs : SlAt wr vs (dsP sd j)) (hv : ∀ u ∈ vs, ∀ k, u.ownBlock = some k → w0.heap.size ≤ k ∧ ∃ cap l, OwnB wr k cap l)
    (hb : OwnB wr gb c (blkP sd j)) (hbg : w0.heap.size ≤ gb)
    (ho : w'.ownsRow 0 42 1 (.slice (some ⟨g, 0, none⟩) (j + 1) cap) (j + 1) (vs ++ [.slice (some ⟨gb, 0, none⟩) 512 c])) (hf : Fr (fun k => s6.ownBlock = some k) wr w') (hg : s6.ownBlock = some g ∨ wr.heap.size ≤ g) :
    MadeAt w0 w' st sd (j + 1) s5 (.slice (some ⟨g, 0, none⟩) (j + 1) cap) := by
  have hb' : OwnB w' gb c (blkP sd j) := hb.fr hf (own_apartB hr hb (by decide))
  have hv' : ∀ u ∈ vs ++ [.slice (some ⟨gb, 0, none⟩) 512 c], ∀ k, u.ownBlock = some k → w0.heap.size ≤ k ∧ ∃ cap l, OwnB w' k cap l := by
    intro u hu k hk
    rcases List.mem_append.1 hu with e | e
    · obtain ⟨a, cap, l, b⟩ := hv u e k hk
      exact ⟨a, cap, l, b.fr hf (own_apartB hr b (by decide))⟩
    · simp at e; subst e; cases hk; exact ⟨hbg, _, _, hb'⟩
  refine ⟨owns_fr h.nums hf (fun k hk => own_apart h.nums hr (by decide) k hk), ⟨_, ho, ?_, hv'⟩, h.far5, fun k hk => ?_, h.bel.trans (hf.below _ h.far6 h.bel.size)⟩
  · rw [dsP_succ]
    refine SlAt.append (hs.fr hf (fun u hu k hk => ?_)) (SlAt.single hb'.bytes (blkP_length sd j))
    obtain ⟨_, cap, l, b⟩ := hv u hu k hk
    exact own_apartB hr b (by decide)
  · cases hk
    rcases hg with e | e
    · exact h.far6 _ e
    · exact Nat.le_trans h.bel.size e
theorem own_form {w : World} {B e size n : Nat} {v : Value} {xs : List Value} (h : w.ownsRow B e size v n xs) : ∃ a c, v = .slice a n c := by
  rcases h.2 with ⟨rfl, rfl⟩ | ⟨g, cap, cur, rfl, _⟩
  · exact ⟨_, _, rfl⟩
  · exact ⟨_, _, rfl⟩
theorem own_some {w : World} {B e size n : Nat} {v : Value} {xs : List Value} (h : w.ownsRow B e size v n xs) (hn : 0 < n) : ∃ g c, v = .slice (some ⟨g, 0, none⟩) n c := by
  rcases h.2 with ⟨rfl, rfl⟩ | ⟨g, cap, cur, rfl, _⟩
  · omega
  · exact ⟨_, _, rfl⟩
end Go.Proofs.YtcbebalakdkgnaaGreatDoor

namespace Go.Proofs.YtcbebalakdkgnaaGreatDoor
open Go.RowKit Rec

end Go.Proofs.YtcbebalakdkgnaaGreatDoor

namespace Go.Proofs.YtcbebalakdkgnaaGreatDoor
open Go.RowKit Rec

/-- the numbers rise -/
theorem rises (ns : List Int) (n : Int) (hm : may ns n = true) : ∀ d i, i + d < ns.length → nth ns i ≤ nth ns (i + d)
  | 0, _, _ => Int.le_refl _
  | d + 1, i, h => by
    have a := rises ns n hm d i (by omega)
    have b := (of_decide_eq_true hm) (i + d + 1) h
    simp only [pre] at b
    rw [if_neg (by omega), Nat.add_sub_cancel] at b
    show nth ns i ≤ nth ns (i + d + 1)
    omega
end Go.Proofs.YtcbebalakdkgnaaGreatDoor

namespace Go.Proofs.YtcbebalakdkgnaaGreatDoor
open Go.RowKit Rec

theorem may_mono (ns : List Int) (n m : Int) (h : may ns n = true) (hl : ∀ i, i < ns.length → nth ns i < m) : may ns m = true := may_true (fun i hi => ⟨((of_decide_eq_true h) i hi).1, hl i hi⟩)
theorem may_last (ns : List Int) (n m : Int) (h : may ns n = true) (h1 : 1 ≤ ns.length) : may ns m = decide (nth ns (ns.length - 1) < m) := by
  by_cases hm : nth ns (ns.length - 1) < m
  · rw [decide_eq_true hm]
    refine may_mono ns n m h (fun i hi => ?_)
    have := rises ns n h (ns.length - 1 - i) i (by omega)
    rw [show i + (ns.length - 1 - i) = ns.length - 1 by omega] at this
    omega
  · rw [decide_eq_false hm]
    exact may_false (ns.length - 1) (by omega) (fun e => hm e.2)
theorem made_length (ns : List Int) (ds : List (List Int)) : (made ns ds).length = 512 := hd_length _ _
/-- all but the first -/
theorem Data.tail {w : World} {b off : Nat} {ds : List (List Int)} (h : Data w (Option.some ⟨b, off, none⟩) ds) : Data w (Option.some ⟨b, off + 1, none⟩) (ds.drop 1) := by
  refine ⟨by have := h.len; rw [List.length_drop]; omega, .inr ⟨b, off + 1, rfl, fun i hi => ?_⟩⟩
  rw [List.length_drop] at hi
  have e : row (ds.drop 1) i = row ds (i + 1) := by simp [row, List.getD]
  rw [e]
  have := h.cell (i := i + 1) (by omega)
  rw [show off + 1 + i = off + (i + 1) by omega]
  exact this
/-- one slice more -/
theorem news1 (w : World) (v : Value) : ∀ j u, [v][j]? = some u → (w.alloc (.cells #[v] 42)).cell? ((⟨w.heap.size, 0, none⟩ : Addr).add j) = some u := fun m u hm => by
  have : m = 0 := by
    by_cases h : m = 0
    · exact h
    · rw [List.getElem?_eq_none (by simp; omega)] at hm; cases hm
  subst this
  cases hm
  rw [Addr.add_lit, cell_of_row _ _ _ _ _ _ (heap_alloc_new _ _)]; rfl
end Go.Proofs.YtcbebalakdkgnaaGreatDoor

namespace Go.Proofs.YtcbebalakdkgnaaGreatDoor
open Go.RowKit Rec

/-- numbers and blocks that may be -/
structure Fit (ns : List Int) (ds : List (List Int)) (K : Nat) : Prop where
  nl : ns.length = K
  dl : ds.length = K
  k1 : 1 ≤ K
  k96 : K ≤ 96
  may : may ns 16384 = true
  rows : ∀ i, i < K → (row ds i).length = 512
theorem Fit.blk {ns : List Int} {ds : List (List Int)} {K : Nat} (h : Fit ns ds K) : Go.Proofs.YtcbebalakdkgnaaGreatDoor.blk ds K = true := by
  unfold Go.Proofs.YtcbebalakdkgnaaGreatDoor.blk
  rw [decide_eq_true h.dl, decide_eq_true ((mem_row _).2 (fun i hi => h.rows i (by rw [← h.dl]; exact hi)))]; rfl
theorem Fit.numsE {ns : List Int} {ds : List (List Int)} {K : Nat} (h : Fit ns ds K) (n : Int) : Go.Proofs.YtcbebalakdkgnaaGreatDoor.numsE (made ns ds) n = if nth ns (K - 1) < n then 0 else 41 := by
  unfold made
  rw [numsE_hd ns _ n (by rw [h.nl]; exact h.k1) (by rw [h.nl]; exact h.k96) (fun i hi => by have := pre_bd ns _ h.may i hi; omega), may_last ns 16384 n h.may (by rw [h.nl]; exact h.k1), h.nl]
  by_cases e : nth ns (K - 1) < n
  · rw [decide_eq_true e, if_pos rfl, if_pos e]
  · rw [decide_eq_false e, if_neg e]; rfl
theorem Fit.numsL {ns : List Int} {ds : List (List Int)} {K : Nat} (h : Fit ns ds K) (n : Int) : Go.Proofs.YtcbebalakdkgnaaGreatDoor.numsL (made ns ds) n = if nth ns (K - 1) < n then ns else [] := by
  unfold made
  rw [numsL_hd ns _ n (by rw [h.nl]; exact h.k1) (by rw [h.nl]; exact h.k96) (fun i hi => by have := pre_bd ns _ h.may i hi; omega), may_last ns 16384 n h.may (by rw [h.nl]; exact h.k1), h.nl]
  by_cases e : nth ns (K - 1) < n
  · rw [decide_eq_true e, if_pos rfl, if_pos e]
  · rw [decide_eq_false e, if_neg e]; rfl
/-- Make of what may be -/
theorem Fit.make {ns : List Int} {ds : List (List Int)} {K : Nat} (h : Fit ns ds K) (w : World) (g cap dg doff dc : Nat) (hI : OwnI w g cap ns) (hD : Data w (some ⟨dg, doff, none⟩) ds) (hT : TabAt w) :
    Calls Tryz.prog 86 #[.slice (some ⟨g, 0, none⟩) K cap, .slice (some ⟨dg, doff, none⟩) K dc] w fun e w' => ∃ g, e = .returned (.tuple #[.slice (some ⟨g, 0, none⟩) 512 512, .int .i64 0]) ∧ OwnB w' g 512 (made ns ds) ∧ w.heap.size ≤ g ∧ Below w.heap.size w w' :=
  make_ok w g 0 K cap dg doff dc ns ds h.nl hI.ints hD hT h.k1 h.k96 h.may h.blk
end Go.Proofs.YtcbebalakdkgnaaGreatDoor

namespace Rec
/-- a block laid over -/
def wr (l : List Int) (b : Nat) (x : List Int) : List Int := ov l (512 * b) 512 (nth x)
theorem wr_length (l : List Int) (b : Nat) (x : List Int) : (wr l b x).length = l.length := ov_length _ _ _ _
theorem nth_wr (l : List Int) (b : Nat) (x : List Int) (i : Nat) (hi : i < l.length) : nth (wr l b x) i = if i / 512 = b then nth x (i % 512) else nth l i := by
  rw [wr, nth_ov _ _ _ _ _ hi]
  by_cases h : i / 512 = b
  · rw [if_pos (by omega), if_pos h]; congr 1; omega
  · rw [if_neg (by omega), if_neg h]
/-- those that are kept are laid over, in their order -/
def lay (kp : Nat → Bool) (f : Nat → Nat) (x : Nat → List Int) (l : List Int) : Nat → List Int
  | 0 => l
  | k + 1 => if kp k then wr (lay kp f x l k) (f k) (x k) else lay kp f x l k
theorem lay_length (kp : Nat → Bool) (f : Nat → Nat) (x : Nat → List Int) (l : List Int) (k : Nat) : (lay kp f x l k).length = l.length := by
  induction k with
  | zero => rfl
  | succ k ih => rw [lay]; split; rw [wr_length, ih]; exact ih
/-- numbers made zero -/
def nz (f : Nat → Nat) (l : List Int) : Nat → List Int
  | 0 => l
  | k + 1 => (nz f l k).set (f k) 0
theorem nz_length (f : Nat → Nat) (l : List Int) (k : Nat) : (nz f l k).length = l.length := by
  induction k with
  | zero => rfl
  | succ k ih => rw [nz, List.length_set, ih]
/-- how many there are up to the last of them that is b; 0 if none is -/
def lst (f : Nat → Nat) (b : Nat) : Nat → Nat
  | 0 => 0
  | k + 1 => if f k = b then k + 1 else lst f b k
theorem lst_le (f : Nat → Nat) (b k : Nat) : lst f b k ≤ k := by
  induction k with
  | zero => exact Nat.le_refl _
  | succ k ih => rw [lst]; split <;> omega
theorem lst_congr {f f' : Nat → Nat} (b n : Nat) (h : ∀ k, k < n → f k = f' k) : lst f b n = lst f' b n := by
  induction n with
  | zero => rfl
  | succ n ih => rw [lst, lst, ih (fun k hk => h k (by omega)), h n (by omega)]
/-- the list of these -/
def newest (f : Nat → Nat) (N n : Nat) : List Int := (List.range N).map fun b => (lst f b n : Int)
theorem newest_length (f : Nat → Nat) (N n : Nat) : (newest f N n).length = N := by simp [newest]
theorem nth_newest (f : Nat → Nat) (N n b : Nat) (h : b < N) : nth (newest f N n) b = (lst f b n : Int) := by simp [newest, nth, List.getD, h]
theorem newest_set (f : Nat → Nat) (N n : Nat) (h : f n < N) : (newest f N n).set (f n) ((n : Int) + 1) = newest f N (n + 1) := by
  refine ext_nth (by simp [newest_length]) fun i hi => ?_
  rw [List.length_set, newest_length] at hi
  rw [nth_set _ _ _ _ (by rw [newest_length]; exact h), nth_newest _ _ _ _ hi, nth_newest _ _ _ _ hi, lst]
  by_cases e : i = f n
  · rw [if_pos e, if_pos e.symm]; rfl
  · rw [if_neg e, if_neg (fun x => e x.symm)]
theorem newest_zero (f : Nat → Nat) (N : Nat) : newest f N 0 = List.replicate N 0 := by
  refine ext_nth (by simp [newest_length]) fun i hi => ?_
  rw [newest_length] at hi
  rw [nth_newest _ _ _ _ hi]
  simp [lst, nth, List.getD, hi]
theorem newest_congr {f f' : Nat → Nat} (N n : Nat) (h : ∀ k, k < n → f k = f' k) : newest f N n = newest f' N n := by
  unfold newest
  apply List.map_congr_left
  intro b _
  rw [lst_congr b n h]
theorem nth_nz (f : Nat → Nat) (l : List Int) (k i : Nat) (hf : ∀ j, j < k → f j < l.length) : nth (nz f l k) i = if lst f i k = 0 then nth l i else 0 := by
  induction k with
  | zero => simp [nz, lst]
  | succ k ih =>
    rw [nz, nth_set _ _ _ _ (by rw [nz_length]; exact hf k (by omega)), ih (fun j hj => hf j (by omega)), lst]
    by_cases e : i = f k
    · simp [e]
    · have e' : ¬ f k = i := fun x => e x.symm
      simp only [if_neg e, if_neg e']
theorem nz_newest (f : Nat → Nat) (N n : Nat) (hf : ∀ j, j < n → f j < N) : nz f (newest f N n) n = List.replicate N 0 := by
  refine ext_nth (by simp [nz_length, newest_length]) fun i hi => ?_
  rw [nz_length, newest_length] at hi
  rw [nth_nz _ _ _ _ (by simpa [newest_length] using hf), nth_newest _ _ _ _ hi]
  have e : nth (List.replicate N 0) i = 0 := by simp [nth, List.getD, hi]
  rw [e]
  split <;> omega
/-- a block as all writes left it: the last one's bytes, or what lasts -/
theorem nth_lay_all (f : Nat → Nat) (x : Nat → List Int) (l : List Int) (n i : Nat) (hi : i < l.length) :
    nth (lay (fun _ => true) f x l n) i = if lst f (i / 512) n = 0 then nth l i else nth (x (lst f (i / 512) n - 1)) (i % 512) := by
  induction n with
  | zero => simp [lay, lst]
  | succ n ih =>
    rw [lay, if_pos rfl, nth_wr _ _ _ _ (by rw [lay_length]; exact hi), lst]
    by_cases e : i / 512 = f n
    · simp [e]
    · have e' : ¬ f n = i / 512 := fun h => e h.symm
      simp only [if_neg e, if_neg e']; exact ih
/-- block b's bytes -/
def bck (l : List Int) (b : Nat) : List Int := (l.drop (512 * b)).take 512
end Rec

namespace Go.Proofs.YtcbebalakdkgnaaGreatDoor
open Go.RowKit Rec

/-- a pending write: its block, where its bytes lie, its bytes -/
structure It where
  b : Nat
  g : Nat
  cap : Nat
  x : List Int
def It.cells (p : It) : List Value := [.int .i64 p.b, .slice (some ⟨p.g, 0, none⟩) 512 p.cap]
/-- an act of the tape -/
structure Ac where
  kind : Int
  b : Int
  v : Value
  x : List Int
def Ac.cells (p : Ac) : List Value := [.int .i64 p.kind, .int .i64 p.b, p.v]
/-- a disk: where it lies and what it holds -/
structure Dk where
  d : Nat
  L : Nat
  nw : Nat
  capL : Nat
  capN : Nat
  nb : Nat
  las : List Int
  pv : Value
  pen : List It
  tv : Value
  tap : List Ac
  wr : Nat
  fl : Nat
  at_ : Int
  kv : Value
  keep : List Bool
  down : Bool
def Dk.f (D : Dk) (k : Nat) : Nat := (D.pen.map It.b).getD k 0
def Dk.X (D : Dk) (k : Nat) : List Int := (D.pen.map It.x).getD k []
/-- its rows that may change -/
def Dk.has (D : Dk) (k : Nat) : Prop := k = D.d ∨ k = D.L ∨ k = D.nw ∨ D.pv.ownBlock = some k ∨ D.tv.ownBlock = some k
def Dk.cells (D : Dk) : Array Value := #[.slice (some ⟨D.L, 0, none⟩) (512 * D.nb) D.capL, D.pv, .slice (some ⟨D.nw, 0, none⟩) D.nb D.capN, D.tv, .int .i64 D.wr, .int .i64 D.fl, .int .i64 D.at_, D.kv, .bool D.down]
/-- bools in memory -/
def Bools (w : World) (v : Value) (l : List Bool) : Prop := ∃ a c, v = .slice a l.length c ∧ (l = [] ∨ ∃ b off, a = some ⟨b, off, none⟩ ∧ ∀ i x, l[i]? = some x → w.cell? ⟨b, off + i, none⟩ = some (.bool x))
def AcOk (w : World) (D : Dk) (a : Ac) : Prop :=
  (a.kind = 1 ∧ 0 ≤ a.b ∧ a.b < D.nb ∧ a.x.length = 512 ∧ ∃ g cap, a.v = .slice (some ⟨g, 0, none⟩) 512 cap ∧ OwnB w g cap a.x ∧ ¬ D.has g) ∨ (a.kind = 2 ∧ a.b = 0 ∧ a.v = .slice none 0 0 ∧ a.x = [])
structure Apart (D : Dk) : Prop where
  dL : D.d ≠ D.L
  dn : D.d ≠ D.nw
  Ln : D.L ≠ D.nw
  p : ∀ k, D.pv.ownBlock = some k → k ≠ D.d ∧ k ≠ D.L ∧ k ≠ D.nw ∧ D.tv.ownBlock ≠ some k
  t : ∀ k, D.tv.ownBlock = some k → k ≠ D.d ∧ k ≠ D.L ∧ k ≠ D.nw ∧ D.pv.ownBlock ≠ some k
structure Disk (w : World) (D : Dk) : Prop where
  row : w.heap[D.d]? = some (.cells D.cells 72 (0, 0))
  las : OwnB w D.L D.capL D.las
  lasl : D.las.length = 512 * D.nb
  nb0 : 1 ≤ D.nb
  nb1 : D.nb ≤ 16384
  nws : w.ownsRow 0 3 1 (.slice (some ⟨D.nw, 0, none⟩) D.nb D.capN) D.nb ((newest D.f D.nb D.pen.length).map (Value.int .i64))
  pen : w.ownsRow 0 132 2 D.pv D.pen.length (D.pen.flatMap It.cells)
  penb : ∀ p ∈ D.pen, p.b < D.nb ∧ p.x.length = 512 ∧ OwnB w p.g p.cap p.x ∧ ¬ D.has p.g
  tap : w.ownsRow 0 114 3 D.tv D.tap.length (D.tap.flatMap Ac.cells)
  tapb : ∀ a ∈ D.tap, AcOk w D a
  kee : Bools w D.kv D.keep
  keb : ∀ k, D.kv.ownBlock = some k → ¬ D.has k
  kel : ∀ k, D.kv.ownBlock = some k → k < w.heap.size
  ap : Apart D
  dn : D.down = true → D.pen = []
  pl : D.pen.length ≤ 3518437208800
  tl : D.tap.length ≤ 3518437208800
  wrs : D.wr ≤ 3518437208800
  fls : D.fl ≤ 3518437208800
  at1 : D.at_ ≤ 9223372036854775807

theorem Disk.cell {w : World} {D : Dk} (h : Disk w D) (j : Nat) : w.cell? ⟨D.d, j, none⟩ = D.cells[j]? := cell_of_row _ _ _ _ _ _ h.row
theorem Disk.lt {w : World} {D : Dk} (h : Disk w D) : D.d < w.heap.size := heap_lt h.row
theorem Disk.hasLt {w : World} {D : Dk} (h : Disk w D) {k : Nat} (hk : D.has k) : k < w.heap.size := by
  rcases hk with rfl | rfl | rfl | hk | hk
  · exact heap_lt h.row
  · exact h.las.lt
  · exact owns_block h.nws rfl
  · exact owns_block h.pen hk
  · exact owns_block h.tap hk
theorem Bools.lt {w : World} {v : Value} {l : List Bool} (h : Bools w v l) (hl : l ≠ []) {k : Nat} (hk : v.ownBlock = some k) : k < w.heap.size := by
  obtain ⟨a, c, rfl, hb⟩ := h
  obtain ⟨b, off, rfl, hc⟩ := hb.resolve_left hl
  cases hk
  cases l with
  | nil => exact absurd rfl hl
  | cons x l => exact block_lt_of_cell (hc 0 x rfl)
theorem Bools.fr {S : Nat → Prop} {w w' : World} {v : Value} {l : List Bool} (h : Bools w v l) (x : Fr S w w') (hk : l ≠ [] → ∀ k, v.ownBlock = some k → ¬ S k) : Bools w' v l := by
  obtain ⟨a, c, rfl, hl⟩ := h
  refine ⟨a, c, rfl, ?_⟩
  rcases hl with rfl | ⟨b, off, rfl, hc⟩
  · exact .inl rfl
  · exact .inr ⟨b, off, rfl, fun i y hy => x.cell (hc i y hy) (hk (fun e => by rw [e] at hy; simp at hy) b rfl)⟩
theorem AcOk.fr {S : Nat → Prop} {w w' : World} {D : Dk} {a : Ac} (h : AcOk w D a) (x : Fr S w w') (hS : ∀ g cap, a.v = .slice (some ⟨g, 0, none⟩) 512 cap → ¬ S g) : AcOk w' D a := by
  rcases h with ⟨h1, h2, h3, h4, g, cap, h5, h6, h7⟩ | h
  · exact .inl ⟨h1, h2, h3, h4, g, cap, h5, h6.fr x (hS g cap h5), h7⟩
  · exact .inr h
/-- all its rows -/
def Dk.all (D : Dk) (k : Nat) : Prop := D.has k ∨ D.kv.ownBlock = some k ∨ (∃ p ∈ D.pen, p.g = k) ∨ (∃ a ∈ D.tap, a.v.ownBlock = some k)
/-- what is done elsewhere leaves a disk as it is -/
theorem Disk.fr {S : Nat → Prop} {w w' : World} {D : Dk} (h : Disk w D) (x : Fr S w w') (hS : ∀ k, D.all k → ¬ S k) : Disk w' D where
  row := x.heap h.row (hS _ (.inl (.inl rfl)))
  las := h.las.fr x (hS _ (.inl (.inr (.inl rfl))))
  lasl := h.lasl
  nb0 := h.nb0
  nb1 := h.nb1
  nws := owns_fr h.nws x (fun k hk => by cases hk; exact hS _ (.inl (.inr (.inr (.inl rfl)))))
  pen := owns_fr h.pen x (fun k hk => hS _ (.inl (.inr (.inr (.inr (.inl hk))))))
  penb := fun p hp => ⟨(h.penb p hp).1, (h.penb p hp).2.1, (h.penb p hp).2.2.1.fr x (hS _ (.inr (.inr (.inl ⟨p, hp, rfl⟩)))), (h.penb p hp).2.2.2⟩
  tap := owns_fr h.tap x (fun k hk => hS _ (.inl (.inr (.inr (.inr (.inr hk))))))
  tapb := fun a ha => (h.tapb a ha).fr x (fun g cap hv => hS _ (.inr (.inr (.inr ⟨a, ha, by rw [hv]; rfl⟩))))
  kee := h.kee.fr x (fun _ k hk => hS _ (.inr (.inl hk)))
  keb := h.keb
  kel := fun k hk => Nat.lt_of_lt_of_le (h.kel k hk) x.size
  ap := h.ap
  dn := h.dn
  pl := h.pl
  tl := h.tl
  wrs := h.wrs
  fls := h.fls
  at1 := h.at1
theorem Disk.allLt {w : World} {D : Dk} (h : Disk w D) {k : Nat} (hk : D.all k) : k < w.heap.size := by
  rcases hk with hk | hk | ⟨p, hp, rfl⟩ | ⟨a, ha, hk⟩
  · exact h.hasLt hk
  · exact h.kel k hk
  · exact (h.penb p hp).2.2.1.lt
  · rcases h.tapb a ha with ⟨_, _, _, _, g, cap, h5, h6, _⟩ | ⟨_, _, h5, _⟩
    · rw [h5] at hk; cases hk; exact h6.lt
    · rw [h5] at hk; cases hk
theorem Disk.on {w w' : World} {D : Dk} (h : Disk w D) (x : Below w.heap.size w w') : Disk w' D :=
  h.fr (below_fr x (fun k => w.heap.size ≤ k)) (fun _ hk => Nat.not_le.2 (h.allLt hk))
end Go.Proofs.YtcbebalakdkgnaaGreatDoor

namespace Go.Proofs.YtcbebalakdkgnaaGreatDoor
open Go.RowKit Rec

def zsA (m : Nat) : List Int := List.replicate m 0
theorem zsA_length (m : Nat) : (zsA m).length = m := by simp [zsA]
theorem tmod_split (v : Int) (n : Nat) : v % n = (v.tmod n) % n := by
  have e := Int.mul_tdiv_add_tmod v n
  have e2 := Int.add_mul_emod_self_left (v.tmod n) n (v.tdiv n)
  rw [Int.add_comm, e] at e2
  exact e2
theorem tmod_pos (v : Int) (n : Nat) (h0 : 0 < n) (h : 0 ≤ v.tmod n) : v.tmod n = v % n := by
  rw [tmod_split, Int.emod_eq_of_lt h]
  have := Int.tmod_lt_of_pos v (b := n) (by omega)
  exact this
theorem tmod_neg (v : Int) (n : Nat) (h0 : 0 < n) (h : v.tmod n < 0) : v.tmod n + n = v % n := by
  have h2 : -(n : Int) < v.tmod n := by
    have := Int.tmod_lt_of_pos (-v) (b := n) (by omega)
    rw [Int.neg_tmod] at this
    omega
  rw [tmod_split, ← Int.add_emod_right, Int.emod_eq_of_lt (by omega) (by omega)]
set_option maxRecDepth 100000 in
set_option maxHeartbeats 800000 in
theorem lblock_any (w : World) (x : Int) (hx : 0 ≤ x ∧ x < 256) :
    Calls Tryz.prog 42 #[.int .u8 x] w fun e w' => e = .returned (.slice (some ⟨w.heap.size, 0, none⟩) 512 512) ∧ OwnB w' w.heap.size 512 (one x) ∧ Below w.heap.size w w' := by
  go_enter Tryz.func42, Tryz.ntmps42
  go_wp2_with (at_make; refine wp_makeB rfl _ _ rfl _ _ _ _ 512 rfl rfl rfl rfl (by omega) ?_; intro w1 ho hb; have HO : Hid (OwnB w1 w.heap.size 512 (zsA 512)) := ho; have HB : Hid (Below w.heap.size w w1) := hb; clear ho hb)
  go_loopw [4, 8, 9, 10, 11, 12, 13, 14, 15] (fun _ i _ _ _ _ _ _ _ wr => ∃ k : Nat, k ≤ 512 ∧ i = .int .i64 k ∧ OwnB wr w.heap.size 512 (ov (zsA 512) 0 k (fun _ => x)) ∧ Below w.heap.size w wr) (fun _ i _ _ _ _ _ _ _ _ => 512 - (intOf i).toNat)
  case atStart => exact ⟨0, Nat.zero_le _, rfl, by rw [ov_zero]; exact HO.out, HB.out⟩
  case round =>
    obtain ⟨k, hk, rfl, how, hgr⟩ := hrel
    have HP : Hid (OwnB wr w.heap.size 512 (ov (zsA 512) 0 k (fun _ => x))) := how
    have HG : Hid (Below w.heap.size w wr) := hgr
    clear how hgr HO HB
    by_cases hlt : k < 512
    · have d := HP.out.cell k (by rw [ov_length, zsA_length]; exact hlt)
      have f := HP.out.frozen k
      have HQ : Hid (OwnB (wr.setCell ⟨w.heap.size, k, none⟩ (.int .u8 x)) w.heap.size 512 (ov (zsA 512) 0 (k + 1) (fun _ => x))) := by
        have e := HP.out.set k x (by rw [ov_length, zsA_length]; exact hlt) hx
        have e2 := ov_set (zsA 512) 0 k (fun _ => x) (by rw [zsA_length]; omega)
        rw [Nat.zero_add] at e2
        rwa [e2] at e
      go_wp2
      exact ⟨⟨_, hlt, rfl, HQ.out, HG.out.grown grown_set HG.out.size (by intro k hk; cases hk; exact Nat.le_refl _)⟩, by simp [intOf]; omega⟩
    · go_wp2
      obtain rfl : k = 512 := by omega
      go_ret
      refine ⟨rfl, ?_, HG.out⟩
      have e : ov (zsA 512) 0 512 (fun _ => x) = one x := ext_nth (by rw [ov_length, zsA_length, one, List.length_replicate]) fun i hi => by
        rw [ov_length, zsA_length] at hi
        rw [nth_ov _ _ _ _ _ (by rw [zsA_length]; exact hi), if_pos (by omega), one, nth_rep _ _ _ hi]
      rw [← e]; exact HP.out
end Go.Proofs.YtcbebalakdkgnaaGreatDoor
