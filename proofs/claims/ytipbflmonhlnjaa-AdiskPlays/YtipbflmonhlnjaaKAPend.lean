import Derived.Test.YtipbflmonhlnjaaKAStep
namespace Go.Proofs.Ytipbflmonhlnjaa
open Go.RowKit Rec

theorem alloc_size (w : World) (o : Obj) : (w.alloc o).heap.size = w.heap.size + 1 := Array.size_push _
theorem wp_make0 {ops : Array Oper} {rest : List Oper} {o : Oper} {a : Act} {Q : Exit → Act → World → Prop} {w : World} (hg : o.guard = none) (l c : Operand) (hop : o.op = Op.makeSlice 75 l c)
    (kl kc : IntKind) (C : Int) (n : Nat) (hl : a.eval l = .int kl 0) (hc : a.eval c = .int kc C) (hC : C = (n : Int)) (hn : n ≤ 3518437208800)
    (hK : ∀ w', w'.ownsRow 0 3 1 (.slice (some ⟨w.heap.size, 0, none⟩) 0 n) 0 [] → Below w.heap.size w w' → wpList Try.prog ops Q rest (a.put o.dst (.slice (some ⟨w.heap.size, 0, none⟩) 0 n)) w') :
    wpList Try.prog ops Q (o :: rest) a w := by
  obtain ⟨i0, hi, hz0, hz1, hz2⟩ := info_parts info3
  refine wpList_make_own w hg l c 75 hop 0 3 i0 _ 1 Try.underlying75 hi hz0 hz1 kl kc C n hl hc hC (by rw [hz2]; omega) (by unfold maxLen; omega) (Nat.zero_le _) ?_
  intro w' h1 h2
  exact hK w' h1 ⟨h2.os, h2.tape, h2.output, h2.size, fun k hk => h2.block k hk (by simp)⟩
set_option maxRecDepth 100000 in
set_option maxHeartbeats 1600000 in
theorem pending_any (w : World) (D : Dk) (h : Disk w D) : Calls Try.prog 37 #[.pointer (some ⟨D.d, 0, none⟩)] w fun e w' => ∃ g c, e = .returned (.slice (some ⟨g, 0, none⟩) D.pen.length c) ∧ w.heap.size ≤ g ∧ w'.ownsRow 0 3 1 (.slice (some ⟨g, 0, none⟩) D.pen.length c) D.pen.length (D.pen.map (fun p => Value.int .i64 p.b)) ∧ Below w.heap.size w w' := by
  obtain ⟨pa, pc, hv, hpc, hga, hcc⟩ := owns_slice h.pen
  have C1 : w.cell? ⟨D.d, 1, none⟩ = some (.slice pa D.pen.length pc) := by rw [← hv]; exact h.cell 1
  have hpl := h.pl
  have HD : Hid (Disk w D) := h
  have HV : Hid (D.pv = .slice pa D.pen.length pc ∧ (D.pen.length = 0 ∨ ∃ g, pa = some ⟨g, 0, none⟩)) := ⟨hv, hga⟩
  obtain ⟨i1, j1, j2, j3, j4⟩ := info_parts info3
  clear h hcc hv hga
  go_enter Try.func37, Try.ntmps37
  go_wp2_with (at_make; refine wp_make0 rfl _ _ rfl _ _ _ D.pen.length rfl rfl (by rfl) hpl ?_; intro w1 ho hb; have HO : Hid (w1.ownsRow 0 3 1 (.slice (some ⟨w.heap.size, 0, none⟩) 0 D.pen.length) 0 []) := ho; have HB : Hid (Below w.heap.size w w1) := hb; have C1' : w1.cell? ⟨D.d, 1, none⟩ = some (.slice pa D.pen.length pc) := (below_fr hb (fun _ => False)).cell C1 (fun e => e); clear ho hb)
  clear C1 C1'
  go_loopw [3, 5, 17, 18, 19, 20, 21, 22, 23, 24, 25, 26] (fun b _ i _ _ _ _ _ _ _ _ _ wr => ∃ k g c : Nat, k ≤ D.pen.length ∧ i = .int .i64 k ∧ b = .slice (some ⟨g, 0, none⟩) k c ∧ w.heap.size ≤ g ∧ wr.ownsRow 0 3 1 (.slice (some ⟨g, 0, none⟩) k c) k ((D.pen.take k).map (fun p => Value.int .i64 p.b)) ∧ Below w.heap.size w wr) (fun _ _ i _ _ _ _ _ _ _ _ _ _ => D.pen.length - (intOf i).toNat)
  case atStart => exact ⟨0, _, _, Nat.zero_le _, rfl, rfl, Nat.le_refl _, by simpa using HO.out, HB.out⟩
  case round =>
    obtain ⟨k, g, c, hk, rfl, rfl, hg, ho, hb⟩ := hrel
    have HO2 : Hid (wr.ownsRow 0 3 1 (.slice (some ⟨g, 0, none⟩) k c) k ((D.pen.take k).map (fun p => Value.int .i64 p.b))) := ho
    have HB2 : Hid (Below w.heap.size w wr) := hb
    clear ho hb HO HB
    by_cases hlt : k < D.pen.length
    · obtain ⟨p, hpk, hp, hfk, hxk, c1, c2⟩ := penX D k hlt
      have hd2 := HD.out.on HB2.out
      obtain ⟨pa', pc', hv', _, _, hcc⟩ := owns_slice hd2.pen
      rw [HV.out.1] at hv'
      cases hv'
      obtain ⟨gp, rfl⟩ := HV.out.2.resolve_left (by omega)
      have d1 := (hcc gp 0 rfl).2.1 _ _ c1
      have d2 := (hcc gp 0 rfl).2.1 _ _ c2
      have HP : Hid ((D.pen.take k).map (fun p => Value.int .i64 p.b) ++ [Value.int .i64 p.b] = (D.pen.take (k + 1)).map (fun p => Value.int .i64 p.b)) := by
        show _ = _
        rw [List.take_add_one, hpk, List.map_append]; rfl
      clear hcc c1 c2 hp hfk hxk hpk hd2
      have HA : Hid (Below wr.heap.size wr ((wr.alloc (.cells #[.int .i64 p.b, .slice (some ⟨p.g, 0, none⟩) 512 p.cap] 99)).alloc (.cells #[.int .i64 p.b] 3))) := ((Below.refl _ _).alloc (Nat.le_refl _) _).alloc (by simp) _
      have hrow := heap_alloc_new (wr.alloc (.cells #[.int .i64 p.b, .slice (some ⟨p.g, 0, none⟩) 512 p.cap] 99)) (.cells #[.int .i64 p.b] 3)
      rw [alloc_size] at hrow
      have HN : Hid (∀ j u, [Value.int .i64 p.b][j]? = some u → ((wr.alloc (.cells #[.int .i64 p.b, .slice (some ⟨p.g, 0, none⟩) 512 p.cap] 99)).alloc (.cells #[.int .i64 p.b] 3)).cell? ((⟨wr.heap.size + 1, 0, none⟩ : Addr).add j) = some u) := news_of hrow _ rfl
      have HW : Hid (((wr.alloc (.cells #[.int .i64 p.b, .slice (some ⟨p.g, 0, none⟩) 512 p.cap] 99)).alloc (.cells #[.int .i64 p.b] 3)).ownsRow 0 3 1 (.slice (some ⟨g, 0, none⟩) k c) k ((D.pen.take k).map (fun p => Value.int .i64 p.b))) := owns_fr HO2.out (below_fr HA.out (fun j => wr.heap.size ≤ j)) (fun j hj => by cases hj; exact Nat.not_le.2 (owns_block HO2.out rfl))
      clear hrow
      go_wp2_with (at_builtin; refine wp_own rfl (.tmp 21) (.tmp 24) 75 rfl 3 i1 _ 1 8 Try.underlying75 j1 j2 j3 j4 rfl (by decide) (.slice (some ⟨g, 0, none⟩) k c) k ((D.pen.take k).map (fun p => Value.int .i64 p.b)) rfl HW.out ⟨wr.heap.size + 1, 0, none⟩ 1 1 [Value.int .i64 p.b] rfl (by decide) rfl HN.out (by intro u hu; simp at hu; subst hu; rfl) (by unfold maxLen; omega) (by omega) ?_; intro g' c' w3 ho hf hgp; have HZ : Hid (w3.ownsRow 0 3 1 (.slice (some ⟨g', 0, none⟩) (k + 1) c') (k + 1) ((D.pen.take (k + 1)).map (fun p => Value.int .i64 p.b)) ∧ w.heap.size ≤ g' ∧ Below w.heap.size w w3) := ⟨by rw [← HP.out]; exact ho, hgp.elim (fun e => by cases e; exact hg) (fun e => Nat.le_trans HB2.out.size (Nat.le_trans HA.out.size e)), (HB2.out.trans (HA.out.mono HB2.out.size)).trans (hf.below w.heap.size (fun j hj => by cases hj; exact hg) (Nat.le_trans HB2.out.size HA.out.size))⟩; clear ho hf hgp)
      exact ⟨⟨_, _, _, hlt, rfl, rfl, HZ.out.2.1, HZ.out.1, HZ.out.2.2⟩, by simp [intOf]; omega⟩
    · obtain rfl : k = D.pen.length := by omega
      go_wp2
      go_ret
      exact ⟨_, _, rfl, hg, by simpa using HO2.out, HB2.out⟩
end Go.Proofs.Ytipbflmonhlnjaa

namespace Go.Proofs.Ytipbflmonhlnjaa
open Go.RowKit Rec

/-- what a put does -/
def AD.do (a : AD) (b x : Int) (fl : Bool) : AD := if fl then a.flush else a.write (b % a.nb).toNat (one x)
end Go.Proofs.Ytipbflmonhlnjaa

namespace Go.Proofs.Ytipbflmonhlnjaa
open Go.RowKit Rec

/-- block i full of i -/
def frs (m : Nat) : List Int := (List.range m).flatMap (fun i : Nat => one (i : Int))
end Go.Proofs.Ytipbflmonhlnjaa

namespace Go.Proofs.Ytipbflmonhlnjaa
open Go.RowKit Rec

structure PutR where
  b : Int
  x : Int
  fl : Bool
structure PutAt (w : World) (b off : Nat) (q : PutR) : Prop where
  f0 : w.cell? ⟨b, off, none⟩ = some (.int .i64 q.b)
  f1 : w.cell? ⟨b, off + 1, none⟩ = some (.int .u8 q.x)
  f2 : w.cell? ⟨b, off + 2, none⟩ = some (.bool q.fl)
structure Puts (w : World) (a0 : Option Addr) (L : List PutR) : Prop where
  at_ : L = [] ∨ ∃ b off, a0 = some ⟨b, off, none⟩ ∧ ∀ i q, L[i]? = some q → PutAt w b (off + i * 3) q
  each : ∀ q ∈ L, 0 ≤ q.x ∧ q.x < 256
  len : L.length ≤ 9223372036854775807
theorem Puts.on {w w' : World} {a0 : Option Addr} {L : List PutR} (h : Puts w a0 L) (x : Below w.heap.size w w') : Puts w' a0 L := by
  refine ⟨?_, h.each, h.len⟩
  rcases h.at_ with e | ⟨b, off, e, hc⟩
  · exact .inl e
  · have f := below_fr x (fun _ => False)
    exact .inr ⟨b, off, e, fun i q hq => ⟨f.cell (hc i q hq).f0 (fun e => e), f.cell (hc i q hq).f1 (fun e => e), f.cell (hc i q hq).f2 (fun e => e)⟩⟩
theorem Bools.on {w w' : World} {v : Value} {l : List Bool} (h : Bools w v l) (x : Below w.heap.size w w') : Bools w' v l := by
  obtain ⟨a, c, rfl, hl⟩ := h
  refine ⟨a, c, rfl, ?_⟩
  rcases hl with rfl | ⟨b, off, rfl, hc⟩
  · exact .inl rfl
  · exact .inr ⟨b, off, rfl, fun i y hy => (below_fr x (fun _ => False)).cell (hc i y hy) (fun e => e)⟩
/-- behind k writes, nothing armed -/
structure ChI (a : AD) (m : Nat) (L : List PutR) (k : Nat) : Prop where
  nb : a.nb = m
  las : a.las = frs m
  P : a.P = (L.take k).map (fun q => ((q.b % (m : Int)).toNat, one q.x))
  T : a.T.length = k
  wr : a.wr = k
  fl : a.fl = 0
  at_ : a.at_ = 0
  keep : a.keep = []
  down : a.down = false
theorem ChI.next {a : AD} {m k : Nat} {L : List PutR} {q : PutR} (h : ChI a m L k) (hq : L[k]? = some q) : ChI (a.do q.b q.x false) m L (k + 1) ∧ a.stepE = 0 := by
  have h1 : ¬ a.at_ = 1 := by rw [h.at_]; decide
  have h0 : ¬ (0 : Int) < a.at_ := by rw [h.at_]; decide
  have e : a.do q.b q.x false = { a with P := a.P ++ [((q.b % (m : Int)).toNat, one q.x)], T := a.T ++ [(1, (((q.b % (m : Int)).toNat : Nat) : Int), one q.x)], wr := a.wr + 1 } := by
    show AD.write _ _ _ = _
    unfold AD.write
    rw [if_neg h1, h.nb]
    show AD.tick _ = _
    unfold AD.tick
    exact if_neg h0
  refine ⟨?_, by unfold AD.stepE; rw [if_neg h1]⟩
  rw [e]
  refine ⟨h.nb, h.las, ?_, ?_, ?_, h.fl, h.at_, h.keep, h.down⟩
  · show a.P ++ _ = _
    rw [h.P, List.take_add_one, hq, List.map_append]; rfl
  · show (a.T ++ _).length = _
    rw [List.length_append, h.T]; rfl
  · show a.wr + 1 = _
    rw [h.wr]
theorem ChI.room {a : AD} {m k : Nat} {L : List PutR} (h : ChI a m L k) (hk : k ≤ 200) : RoomD a := by
  refine ⟨?_, by rw [h.T]; omega, by rw [h.wr]; omega, by rw [h.fl]; omega, by rw [h.keep]; simp⟩
  rw [h.P, List.length_map, List.length_take]; omega
theorem blk_wr (l : List Int) (n b j : Nat) (x : List Int) (hl : l.length = 512 * n) (hj : j < n) (hx : x.length = 512) : bck (wr l b x) j = if j = b then x else bck l j := by
  have e1 : (wr l b x).length = 512 * n := by rw [wr_length, hl]
  have e2 := blk_length e1 hj
  by_cases h : j = b
  · rw [if_pos h]
    refine ext_nth (by rw [e2, hx]) fun i hi => ?_
    rw [e2] at hi
    rw [nth_blk e1 hj i hi, nth_wr _ _ _ _ (by rw [hl]; omega), if_pos (by omega), show (512 * j + i) % 512 = i by omega]
  · rw [if_neg h]
    refine ext_nth (by rw [e2, blk_length hl hj]) fun i hi => ?_
    rw [e2] at hi
    rw [nth_blk e1 hj i hi, nth_blk hl hj i hi, nth_wr _ _ _ _ (by rw [hl]; omega), if_neg (by omega)]
end Go.Proofs.Ytipbflmonhlnjaa

namespace Go.Proofs.Ytipbflmonhlnjaa
open Go.RowKit Rec

/-- nothing armed, so many steps -/
structure LaI (a : AD) (m k : Nat) : Prop where
  nb : a.nb = m
  len : a.las.length = 512 * m
  P : a.P.length ≤ k
  T : a.T.length ≤ k
  wr : a.wr ≤ k
  fl : a.fl ≤ k
  at_ : a.at_ = 0
  keep : a.keep = []
  down : a.down = false
theorem LaI.room {a : AD} {m k : Nat} (h : LaI a m k) (hk : k ≤ 200) : RoomD a :=
  ⟨by have := h.P; omega, by have := h.T; omega, by have := h.wr; omega, by have := h.fl; omega, by rw [h.keep]; simp⟩
theorem LaI.step {a : AD} {m k : Nat} (h : LaI a m k) : a.stepE = 0 := by unfold AD.stepE; rw [if_neg (by rw [h.at_]; decide)]
theorem do_f {a : AD} (b x : Int) (h : a.at_ = 0) : a.do b x true = { a with fl := a.fl + 1, T := a.T ++ [(2, 0, [])], las := a.full, P := [] } := by
  show AD.flush _ = _
  unfold AD.flush
  rw [if_neg (by rw [h]; decide)]
  have e : AD.tick { a with fl := a.fl + 1 } = { a with fl := a.fl + 1 } := by
    unfold AD.tick
    exact if_neg (by show ¬ (0 : Int) < a.at_; rw [h]; decide)
  simp only [e]
  rfl
theorem LaI.next_f {a : AD} {m k : Nat} (h : LaI a m k) (b x : Int) : LaI (a.do b x true) m (k + 1) ∧ (a.do b x true).las = a.full ∧ (a.do b x true).full = a.full := by
  refine ⟨?_, ?_, ?_⟩
  · rw [do_f b x h.at_]
    exact ⟨h.nb, by show a.full.length = _; unfold AD.full; rw [lay_length]; exact h.len, by show 0 ≤ _; omega, by show (a.T ++ _).length ≤ _; have := h.T; simp; omega, by show a.wr ≤ _; have := h.wr; omega, by show a.fl + 1 ≤ _; have := h.fl; omega, h.at_, h.keep, h.down⟩
  · rw [do_f b x h.at_]
  · rw [do_f b x h.at_]; rfl
theorem bools_of {w : World} {v : Value} {l : List Bool} (h : w.ownsRow 0 4 1 v l.length (l.map Value.bool)) : Bools w v l := by
  obtain ⟨a, c, rfl, _, hg, hc⟩ := owns_slice h
  refine ⟨a, c, rfl, ?_⟩
  rcases hg with h0 | ⟨g, rfl⟩
  · exact .inl (List.eq_nil_of_length_eq_zero h0)
  · refine .inr ⟨g, 0, rfl, fun i x hx => ?_⟩
    rw [Nat.zero_add]
    exact (hc g 0 rfl).2.1 i _ (by rw [List.getElem?_map, hx]; rfl)
end Go.Proofs.Ytipbflmonhlnjaa

namespace Go.Proofs.Ytipbflmonhlnjaa
open Go.RowKit Rec

/-- an act among the arguments -/
structure ActR where
  kind : Int
  b : Int
  a : Option Addr
  c : Nat
  x : List Int
def ActR.cells (q : ActR) : List Value := [.int .i64 q.kind, .int .i64 q.b, .slice q.a q.x.length q.c]
structure ActAt (w : World) (b off : Nat) (q : ActR) : Prop where
  f0 : w.cell? ⟨b, off, none⟩ = some (.int .i64 q.kind)
  f1 : w.cell? ⟨b, off + 1, none⟩ = some (.int .i64 q.b)
  f2 : w.cell? ⟨b, off + 2, none⟩ = some (.slice q.a q.x.length q.c)
structure Acts (w : World) (a0 : Option Addr) (L : List ActR) : Prop where
  at_ : L = [] ∨ ∃ b off, a0 = some ⟨b, off, none⟩ ∧ ∀ i q, L[i]? = some q → ActAt w b (off + i * 3) q
  each : ∀ q ∈ L, Bytes w q.a q.x
  len : L.length ≤ 3518437208780
theorem Acts.on {w w' : World} {a0 : Option Addr} {L : List ActR} (h : Acts w a0 L) (x : Below w.heap.size w w') : Acts w' a0 L := by
  refine ⟨?_, fun q hq => (h.each q hq).on x, h.len⟩
  rcases h.at_ with e | ⟨b, off, e, hc⟩
  · exact .inl e
  · have f := below_fr x (fun _ => False)
    exact .inr ⟨b, off, e, fun i q hq => ⟨f.cell (hc i q hq).f0 (fun e => e), f.cell (hc i q hq).f1 (fun e => e), f.cell (hc i q hq).f2 (fun e => e)⟩⟩
/-- what is wrong with an act -/
def actE (nb : Nat) (q : ActR) : Int := if q.kind = 1 then (if 0 ≤ q.b ∧ q.b < nb then (if q.x.length = 512 then 0 else 32) else 31) else if q.kind = 2 then 0 else 1
def AD.take (a : AD) (q : ActR) : AD := if q.kind = 1 then a.write q.b.toNat q.x else a.flush
/-- behind so many acts -/
def AD.takes (a : AD) (L : List ActR) : Nat → AD
  | 0 => a
  | k + 1 => (a.takes L k).take (L.getD k ⟨0, 0, none, 0, []⟩)
theorem LaI.take {a : AD} {m k : Nat} (h : LaI a m k) (q : ActR) (_ : actE m q = 0) : LaI (a.take q) m (k + 1) := by
  unfold AD.take
  split
  · unfold AD.write
    rw [if_neg (by rw [h.at_]; decide)]
    show LaI (AD.tick _) _ _
    unfold AD.tick
    rw [if_neg (by show ¬ (0 : Int) < a.at_; rw [h.at_]; decide)]
    exact ⟨h.nb, h.len, by show (a.P ++ _).length ≤ _; have := h.P; simp; omega, by show (a.T ++ _).length ≤ _; have := h.T; simp; omega, by show a.wr + 1 ≤ _; have := h.wr; omega, by show a.fl ≤ _; have := h.fl; omega, h.at_, h.keep, h.down⟩
  · exact (h.next_f 0 0).1
def AD0 (nb : Nat) (l : List Int) : AD := ⟨nb, l, [], [], 0, 0, 0, [], false⟩
/-- what lasts of an image behind acts -/
def aft (nb : Nat) (l : List Int) (L : List ActR) (keep : List Bool) : List Int := (((AD0 nb l).takes L L.length).cut (kpOf keep)).las
structure AfW (w wr : World) (d nb : Nat) (l : List Int) (L : List ActR) (k : Nat) (D : Dk) : Prop where
  disk : Disk wr D
  ab : D.abs = (AD0 nb l).takes L k
  la : LaI D.abs nb k
  dd : D.d = d
  core : ∀ j, D.has j → w.heap.size ≤ j
  bel : Below w.heap.size w wr
theorem AfW.on {w wr wx : World} {d nb k : Nat} {l : List Int} {L : List ActR} {D : Dk} (h : AfW w wr d nb l L k D) (x : Below wr.heap.size wr wx) : AfW w wx d nb l L k D :=
  ⟨h.disk.on x, h.ab, h.la, h.dd, h.core, h.bel.trans (x.mono h.bel.size)⟩
end Go.Proofs.Ytipbflmonhlnjaa

namespace Go.Proofs.Ytipbflmonhlnjaa
open Go.RowKit Rec

/-- act number i -/
def actN (L : List ActR) (i : Nat) : ActR := L.getD i ⟨0, 0, none, 0, []⟩
/-- how many writes stand just ahead of act i -/
def numA (L : List ActR) : Nat → Nat
  | 0 => 0
  | i + 1 => if (actN L i).kind = 1 then numA L i + 1 else 0
/-- does write i last? -/
def lastsB (L : List ActR) (i : Nat) (keep : List Bool) : Bool := decide (∃ j, j < L.length ∧ i < j ∧ (actN L j).kind = 2) || kpOf keep (numA L i)
/-- the document's image behind i acts -/
def lft (l : List Int) (L : List ActR) (keep : List Bool) : Nat → List Int
  | 0 => l
  | i + 1 => if (actN L i).kind = 1 ∧ lastsB L i keep = true then wr (lft l L keep i) (actN L i).b.toNat (actN L i).x else lft l L keep i
/-- all writes -/
def alw (l : List Int) (L : List ActR) : Nat → List Int
  | 0 => l
  | i + 1 => if (actN L i).kind = 1 then wr (alw l L i) (actN L i).b.toNat (actN L i).x else alw l L i
/-- what is pending behind i acts -/
def pnd (L : List ActR) : Nat → List (Nat × List Int)
  | 0 => []
  | i + 1 => if (actN L i).kind = 1 then pnd L i ++ [((actN L i).b.toNat, (actN L i).x)] else []
/-- what has lasted behind i acts -/
def lsf (l : List Int) (L : List ActR) : Nat → List Int
  | 0 => l
  | i + 1 => if (actN L i).kind = 1 then lsf l L i else lay (fun _ => true) (fun k => ((pnd L i).getD k (0, [])).1) (fun k => ((pnd L i).getD k (0, [])).2) (lsf l L i) (pnd L i).length
theorem lay_cong {kp kp' : Nat → Bool} {f f' : Nat → Nat} {X X' : Nat → List Int} {l : List Int} {n : Nat} (h : ∀ k, k < n → kp k = kp' k ∧ f k = f' k ∧ X k = X' k) : lay kp f X l n = lay kp' f' X' l n := by
  induction n with
  | zero => rfl
  | succ n ih => rw [lay, lay, ih (fun k hk => h k (by omega)), (h n (by omega)).1, (h n (by omega)).2.1, (h n (by omega)).2.2]
theorem takes_shape (nb : Nat) (l : List Int) (L : List ActR) (k : Nat) : ((AD0 nb l).takes L k).las = lsf l L k ∧ ((AD0 nb l).takes L k).P = pnd L k ∧ ((AD0 nb l).takes L k).at_ = 0 := by
  induction k with
  | zero => exact ⟨rfl, rfl, rfl⟩
  | succ k ih =>
    obtain ⟨h1, h2, h3⟩ := ih
    have e : (AD0 nb l).takes L (k + 1) = ((AD0 nb l).takes L k).take (actN L k) := rfl
    rw [e]
    generalize (AD0 nb l).takes L k = A at *
    unfold AD.take
    rw [lsf, pnd]
    by_cases c : (actN L k).kind = 1
    · rw [if_pos c, if_pos c, if_pos c]
      have : A.write (actN L k).b.toNat (actN L k).x = { A with P := A.P ++ [((actN L k).b.toNat, (actN L k).x)], T := A.T ++ [(1, ((actN L k).b.toNat : Int), (actN L k).x)], wr := A.wr + 1 } := by
        unfold AD.write
        simp only [h3]
        simp [AD.tick]
      rw [this]
      exact ⟨h1, by rw [h2], h3⟩
    · rw [if_neg c, if_neg c, if_neg c]
      have : A.flush = ({ A with fl := A.fl + 1, T := A.T ++ [(2, 0, [])] } : AD).settle (fun _ => true) := by
        unfold AD.flush
        simp only [h3]
        simp [AD.tick]
      rw [this]
      refine ⟨?_, rfl, h3⟩
      show lay (fun _ => true) _ _ A.las A.P.length = _
      rw [h1, h2]
      refine lay_cong fun k _ => ⟨rfl, ?_, ?_⟩
      · simp [AD.f]
      · simp [AD.X]
theorem lay_snoc (kp : Nat → Bool) (P : List (Nat × List Int)) (p : Nat × List Int) (l : List Int) (h : kp P.length = true) : lay kp (fun k => ((P ++ [p]).getD k (0, [])).1) (fun k => ((P ++ [p]).getD k (0, [])).2) l (P ++ [p]).length = wr (lay kp (fun k => (P.getD k (0, [])).1) (fun k => (P.getD k (0, [])).2) l P.length) p.1 p.2 := by
  rw [List.length_append, List.length_singleton, lay, if_pos h]
  congr 1
  · refine lay_cong fun k hk => ⟨rfl, ?_, ?_⟩ <;> simp [List.getD, List.getElem?_append, hk]
  · simp [List.getD]
  · simp [List.getD]
theorem lsf_alw (l : List Int) (L : List ActR) (k : Nat) : lay (fun _ => true) (fun i => ((pnd L k).getD i (0, [])).1) (fun i => ((pnd L k).getD i (0, [])).2) (lsf l L k) (pnd L k).length = alw l L k := by
  induction k with
  | zero => rfl
  | succ k ih =>
    rw [pnd, lsf, alw]
    by_cases c : (actN L k).kind = 1
    · rw [if_pos c, if_pos c, if_pos c, lay_snoc _ _ _ _ rfl, ih]
    · rw [if_neg c, if_neg c, if_neg c, ← ih]; rfl
/-- behind the last flush -/
theorem last_flush (L : List ActR) (n : Nat) : ∃ m, m ≤ n ∧ (∀ i, m ≤ i → i < n → (actN L i).kind = 1) ∧ (m = 0 ∨ ¬ (actN L (m - 1)).kind = 1) := by
  induction n with
  | zero => exact ⟨0, Nat.le_refl _, fun i h1 h2 => by omega, .inl rfl⟩
  | succ n ih =>
    by_cases c : (actN L n).kind = 1
    · obtain ⟨m, h1, h2, h3⟩ := ih
      refine ⟨m, by omega, fun i hi hj => ?_, h3⟩
      by_cases e : i = n
      · subst e; exact c
      · exact h2 i hi (by omega)
    · exact ⟨n + 1, Nat.le_refl _, fun i h1 h2 => by omega, .inr c⟩
theorem behind_last (l : List Int) (L : List ActR) (m : Nat) (h3 : m = 0 ∨ ¬ (actN L (m - 1)).kind = 1) (t : Nat) (h2 : ∀ i, m ≤ i → i < m + t → (actN L i).kind = 1) :
    lsf l L (m + t) = alw l L m ∧ (pnd L (m + t)).length = t ∧ numA L (m + t) = t ∧ ∀ k, k < t → (pnd L (m + t)).getD k (0, []) = ((actN L (m + k)).b.toNat, (actN L (m + k)).x) := by
  induction t with
  | zero =>
    rw [Nat.add_zero]
    rcases h3 with rfl | h3
    · exact ⟨rfl, rfl, rfl, fun k hk => by omega⟩
    · cases m with
      | zero => exact ⟨rfl, rfl, rfl, fun k hk => by omega⟩
      | succ m =>
        rw [Nat.add_sub_cancel] at h3
        rw [lsf, pnd, numA, alw, if_neg h3, if_neg h3, if_neg h3, if_neg h3]
        exact ⟨lsf_alw l L m, rfl, rfl, fun k hk => by omega⟩
  | succ t ih =>
    have ih := ih (fun i h1 h2' => h2 i h1 (by omega))
    have c := h2 (m + t) (by omega) (by omega)
    rw [← Nat.add_assoc, lsf, pnd, numA, if_pos c, if_pos c, if_pos c]
    refine ⟨ih.1, by rw [List.length_append, ih.2.1]; rfl, by rw [ih.2.2.1], fun k hk => ?_⟩
    by_cases e : k = t
    · subst e
      simp [List.getD, ih.2.1]
    · have := ih.2.2.2 k (by omega)
      rw [← this]
      simp [List.getD, List.getElem?_append, ih.2.1, show k < t by omega]
/-- the document's image is what the disk leaves -/
theorem aft_lft (nb : Nat) (l : List Int) (L : List ActR) (keep : List Bool) (hk : ∀ i, i < L.length → (actN L i).kind = 1 ∨ (actN L i).kind = 2) : aft nb l L keep = lft l L keep L.length := by
  obtain ⟨m, hm, h2, h3⟩ := last_flush L L.length
  obtain ⟨t, ht⟩ : ∃ t, L.length = m + t := ⟨L.length - m, by omega⟩
  have hs := takes_shape nb l L L.length
  have hb := behind_last l L m h3 t (fun i h1 h4 => h2 i h1 (by omega))
  have hlow : ∀ i, i ≤ m → lft l L keep i = alw l L i := by
    intro i
    induction i with
    | zero => intro _; rfl
    | succ i ih =>
      intro hi
      rw [lft, alw, ih (by omega)]
      by_cases c : (actN L i).kind = 1
      · have hla : lastsB L i keep = true := by
          unfold lastsB
          rw [Bool.or_eq_true, decide_eq_true_eq]
          left
          rcases h3 with h3 | h3
          · omega
          · have hne : i ≠ m - 1 := fun e => h3 (by rw [← e]; exact c)
            refine ⟨m - 1, by omega, by omega, ?_⟩
            rcases hk (m - 1) (by omega) with h | h
            · exact absurd h h3
            · exact h
        rw [if_pos ⟨c, hla⟩, if_pos c]
      · rw [if_neg (fun h => c h.1), if_neg c]
  have hhigh : ∀ s, s ≤ t → lft l L keep (m + s) = lay (kpOf keep) (fun k => (actN L (m + k)).b.toNat) (fun k => (actN L (m + k)).x) (alw l L m) s := by
    intro s
    induction s with
    | zero => intro _; exact hlow m (Nat.le_refl _)
    | succ s ih =>
      intro hs'
      have c := h2 (m + s) (by omega) (by omega)
      have hnum := (behind_last l L m h3 s (fun i h1 h4 => h2 i h1 (by omega))).2.2.1
      have hla : lastsB L (m + s) keep = kpOf keep s := by
        unfold lastsB
        rw [hnum]
        have : ¬ ∃ j, j < L.length ∧ m + s < j ∧ (actN L j).kind = 2 := by
          rintro ⟨j, j1, j2, j3⟩
          have := h2 j (by omega) j1
          omega
        rw [decide_eq_false this, Bool.false_or]
      rw [← Nat.add_assoc, lft, lay, ih (by omega), hla]
      by_cases d : kpOf keep s = true
      · rw [if_pos ⟨c, d⟩, if_pos d]
      · rw [if_neg (fun h => d h.2), if_neg d]
  unfold aft AD.cut AD.settle
  show lay (kpOf keep) _ _ ((AD0 nb l).takes L L.length).las ((AD0 nb l).takes L L.length).P.length = _
  rw [hs.1, hs.2.1, ht, hb.1, hb.2.1, hhigh t (Nat.le_refl _)]
  refine lay_cong fun k hk' => ⟨rfl, ?_, ?_⟩
  · show (((AD0 nb l).takes L (m + t)).P.getD k (0, [])).1 = _
    rw [← ht, hs.2.1, ht, hb.2.2.2 k hk']
  · show (((AD0 nb l).takes L (m + t)).P.getD k (0, [])).2 = _
    rw [← ht, hs.2.1, ht, hb.2.2.2 k hk']
end Go.Proofs.Ytipbflmonhlnjaa
