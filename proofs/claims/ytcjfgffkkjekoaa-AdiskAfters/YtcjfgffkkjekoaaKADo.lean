import Derived.Test.YtcjfgffkkjekoaaKAStep
import Derived.Deep.CutBlock
import Derived.Deep.RegionHeld3
import Derived.Test.YtcjfgffkkjekoaaKOp9
namespace Go.Proofs.Ytcjfgffkkjekoaa
open Go.RowKit Rec

/-- what a put does -/
def AD.do (a : AD) (b x : Int) (fl : Bool) : AD := if fl then a.flush else a.write (b % a.nb).toNat (one x)
end Go.Proofs.Ytcjfgffkkjekoaa

namespace Go.Proofs.Ytcjfgffkkjekoaa
open Go.RowKit Rec

/-- block i full of i -/
def frs (m : Nat) : List Int := (List.range m).flatMap (fun i : Nat => one (i : Int))
theorem frs_succ (m : Nat) : frs (m + 1) = frs m ++ one (m : Int) := by
  unfold frs
  rw [List.range_succ, List.flatMap_append]; simp
theorem frs_length (m : Nat) : (frs m).length = 512 * m := by
  induction m with
  | zero => rfl
  | succ m ih => rw [frs_succ, List.length_append, ih, one_length]; omega
theorem nth_frs (m i : Nat) (h : i < 512 * m) : nth (frs m) i = ((i / 512 : Nat) : Int) := by
  induction m with
  | zero => omega
  | succ m ih =>
    rw [frs_succ, nth_app, frs_length]
    by_cases h2 : i < 512 * m
    · rw [if_pos h2]; exact ih h2
    · rw [if_neg h2, one, nth_rep _ _ _ (by omega), show i / 512 = m by omega]
theorem wf_frs (m : Nat) (hm : m ≤ 256) : ∀ i, 0 ≤ nth (frs m) i ∧ nth (frs m) i < 256 := fun i => by
  by_cases h : i < 512 * m
  · rw [nth_frs m i h]; omega
  · rw [nth_out _ _ (by rw [frs_length]; omega)]; omega
theorem blk_frs (m i : Nat) (hi : i < m) : bck (frs m) i = one (i : Int) := by
  refine ext_nth (by rw [blk_length (frs_length m) hi, one_length]) fun j hj => ?_
  rw [blk_length (frs_length m) hi] at hj
  rw [nth_blk (frs_length m) hi j hj, nth_frs m _ (by omega), one, nth_rep _ _ _ hj, show (512 * i + j) / 512 = i by omega]
end Go.Proofs.Ytcjfgffkkjekoaa

namespace Go.Proofs.Ytcjfgffkkjekoaa
open Go.RowKit Rec

structure PutR where
  b : Int
  x : Int
  fl : Bool
structure PutAt (w : World) (b off : Nat) (q : PutR) : Prop where
  f0 : w.cell? ⟨b, off, none⟩ = some (.int .i64 q.b)
  f1 : w.cell? ⟨b, off + 1, none⟩ = some (.int .u8 q.x)
  f2 : w.cell? ⟨b, off + 2, none⟩ = some (.bool q.fl)
structure Puts (w : World) (a0 : Option Addr) (L : List PutR) : Prop where
  at_ : L = [] ∨ ∃ b off, a0 = some ⟨b, off, none⟩ ∧ ∀ i q, L[i]? = some q → PutAt w b (off + i * 3) q
  each : ∀ q ∈ L, 0 ≤ q.x ∧ q.x < 256
  len : L.length ≤ 9223372036854775807
theorem Puts.on {w w' : World} {a0 : Option Addr} {L : List PutR} (h : Puts w a0 L) (x : Below w.heap.size w w') : Puts w' a0 L := by
  refine ⟨?_, h.each, h.len⟩
  rcases h.at_ with e | ⟨b, off, e, hc⟩
  · exact .inl e
  · have f := below_fr x (fun _ => False)
    exact .inr ⟨b, off, e, fun i q hq => ⟨f.cell (hc i q hq).f0 (fun e => e), f.cell (hc i q hq).f1 (fun e => e), f.cell (hc i q hq).f2 (fun e => e)⟩⟩
theorem Bools.on {w w' : World} {v : Value} {l : List Bool} (h : Bools w v l) (x : Below w.heap.size w w') : Bools w' v l := by
  obtain ⟨a, c, rfl, hl⟩ := h
  refine ⟨a, c, rfl, ?_⟩
  rcases hl with rfl | ⟨b, off, rfl, hc⟩
  · exact .inl rfl
  · exact .inr ⟨b, off, rfl, fun i y hy => (below_fr x (fun _ => False)).cell (hc i y hy) (fun e => e)⟩
/-- behind k writes, nothing armed -/
structure ChI (a : AD) (m : Nat) (L : List PutR) (k : Nat) : Prop where
  nb : a.nb = m
  las : a.las = frs m
  P : a.P = (L.take k).map (fun q => ((q.b % (m : Int)).toNat, one q.x))
  T : a.T.length = k
  wr : a.wr = k
  fl : a.fl = 0
  at_ : a.at_ = 0
  keep : a.keep = []
  down : a.down = false
theorem ChI.next {a : AD} {m k : Nat} {L : List PutR} {q : PutR} (h : ChI a m L k) (hq : L[k]? = some q) : ChI (a.do q.b q.x false) m L (k + 1) ∧ a.stepE = 0 := by
  have h1 : ¬ a.at_ = 1 := by rw [h.at_]; decide
  have h0 : ¬ (0 : Int) < a.at_ := by rw [h.at_]; decide
  have e : a.do q.b q.x false = { a with P := a.P ++ [((q.b % (m : Int)).toNat, one q.x)], T := a.T ++ [(1, (((q.b % (m : Int)).toNat : Nat) : Int), one q.x)], wr := a.wr + 1 } := by
    show AD.write _ _ _ = _
    unfold AD.write
    rw [if_neg h1, h.nb]
    show AD.tick _ = _
    unfold AD.tick
    exact if_neg h0
  refine ⟨?_, by unfold AD.stepE; rw [if_neg h1]⟩
  rw [e]
  refine ⟨h.nb, h.las, ?_, ?_, ?_, h.fl, h.at_, h.keep, h.down⟩
  · show a.P ++ _ = _
    rw [h.P, List.take_add_one, hq, List.map_append]; rfl
  · show (a.T ++ _).length = _
    rw [List.length_append, h.T]; rfl
  · show a.wr + 1 = _
    rw [h.wr]
theorem ChI.room {a : AD} {m k : Nat} {L : List PutR} (h : ChI a m L k) (hk : k ≤ 200) : RoomD a := by
  refine ⟨?_, by rw [h.T]; omega, by rw [h.wr]; omega, by rw [h.fl]; omega, by rw [h.keep]; simp⟩
  rw [h.P, List.length_map, List.length_take]; omega
/-- what is to last -/
def wantL (m : Nat) (L : List PutR) (keep : List Bool) : Nat → List Int
  | 0 => (List.range m).map (fun i : Nat => (i : Int))
  | k + 1 => if kpOf keep k then (wantL m L keep k).set (((L.getD k ⟨0, 0, false⟩).b % (m : Int)).toNat) (L.getD k ⟨0, 0, false⟩).x else wantL m L keep k
theorem wantL_length (m : Nat) (L : List PutR) (keep : List Bool) (k : Nat) : (wantL m L keep k).length = m := by
  induction k with
  | zero => simp [wantL]
  | succ k ih => rw [wantL]; split; rw [List.length_set, ih]; exact ih
theorem blk_wr (l : List Int) (n b j : Nat) (x : List Int) (hl : l.length = 512 * n) (hj : j < n) (hx : x.length = 512) : bck (wr l b x) j = if j = b then x else bck l j := by
  have e1 : (wr l b x).length = 512 * n := by rw [wr_length, hl]
  have e2 := blk_length e1 hj
  by_cases h : j = b
  · rw [if_pos h]
    refine ext_nth (by rw [e2, hx]) fun i hi => ?_
    rw [e2] at hi
    rw [nth_blk e1 hj i hi, nth_wr _ _ _ _ (by rw [hl]; omega), if_pos (by omega), show (512 * j + i) % 512 = i by omega]
  · rw [if_neg h]
    refine ext_nth (by rw [e2, blk_length hl hj]) fun i hi => ?_
    rw [e2] at hi
    rw [nth_blk e1 hj i hi, nth_blk hl hj i hi, nth_wr _ _ _ _ (by rw [hl]; omega), if_neg (by omega)]
theorem chosen_math (m : Nat) (L : List PutR) (keep : List Bool) (hm : 0 < m) (f : Nat → Nat) (X : Nat → List Int) (k : Nat) (hk : ∀ i, i < k → f i = ((L.getD i ⟨0, 0, false⟩).b % (m : Int)).toNat ∧ X i = one (L.getD i ⟨0, 0, false⟩).x) (j : Nat) (hj : j < m) :
    bck (lay (kpOf keep) f X (frs m) k) j = one (nth (wantL m L keep k) j) := by
  induction k with
  | zero =>
    rw [lay, blk_frs m j hj]
    simp [wantL, nth, List.getD, hj]
  | succ k ih =>
    have ih := ih (fun i hi => hk i (by omega))
    obtain ⟨h1, h2⟩ := hk k (by omega)
    rw [lay, wantL]
    by_cases hkp : kpOf keep k = true
    · rw [if_pos hkp, if_pos hkp, blk_wr _ m _ _ _ (by rw [lay_length, frs_length]) hj (by rw [h2, one_length]), h1, h2, nth_set _ _ _ _ (by
        rw [wantL_length]
        have := Int.emod_lt_of_pos (L.getD k ⟨0, 0, false⟩).b (b := (m : Int)) (by omega)
        have := Int.emod_nonneg (L.getD k ⟨0, 0, false⟩).b (b := (m : Int)) (by omega)
        omega)]
      split
      · rfl
      · exact ih
    · rw [if_neg hkp, if_neg hkp]; exact ih
theorem wantL_wf (m : Nat) (L : List PutR) (keep : List Bool) (hm : m ≤ 9) (hL : ∀ q ∈ L, 0 ≤ q.x ∧ q.x < 256) (k : Nat) : ∀ i, 0 ≤ nth (wantL m L keep k) i ∧ nth (wantL m L keep k) i < 256 := by
  induction k with
  | zero =>
    intro i
    by_cases h : i < m
    · have : nth (wantL m L keep 0) i = (i : Int) := by simp [wantL, nth, List.getD, h]
      rw [this]; omega
    · rw [nth_out _ _ (by rw [wantL_length]; omega)]; omega
  | succ k ih =>
    intro i
    rw [wantL]
    split
    · by_cases h2 : (((L.getD k ⟨0, 0, false⟩).b % (m : Int)).toNat) < (wantL m L keep k).length
      · rw [nth_set _ _ _ _ h2]
        split
        · by_cases h3 : k < L.length
          · have e : L.getD k ⟨0, 0, false⟩ = L[k] := by simp [List.getD, h3]
            rw [e]; exact hL _ (List.getElem_mem h3)
          · have e : L.getD k ⟨0, 0, false⟩ = ⟨0, 0, false⟩ := by simp [List.getD, Nat.le_of_not_lt h3]
            rw [e]; exact ⟨Int.le_refl _, by decide⟩
        · exact ih i
      · rw [List.set_eq_of_length_le (by omega)]; exact ih i
    · exact ih i
end Go.Proofs.Ytcjfgffkkjekoaa

namespace Go.Proofs.Ytcjfgffkkjekoaa
open Go.RowKit Rec

/-- nothing armed, so many steps -/
structure LaI (a : AD) (m k : Nat) : Prop where
  nb : a.nb = m
  len : a.las.length = 512 * m
  P : a.P.length ≤ k
  T : a.T.length ≤ k
  wr : a.wr ≤ k
  fl : a.fl ≤ k
  at_ : a.at_ = 0
  keep : a.keep = []
  down : a.down = false
theorem LaI.room {a : AD} {m k : Nat} (h : LaI a m k) (hk : k ≤ 200) : RoomD a :=
  ⟨by have := h.P; omega, by have := h.T; omega, by have := h.wr; omega, by have := h.fl; omega, by rw [h.keep]; simp⟩
theorem LaI.step {a : AD} {m k : Nat} (h : LaI a m k) : a.stepE = 0 := by unfold AD.stepE; rw [if_neg (by rw [h.at_]; decide)]
theorem do_w {a : AD} (b x : Int) (h : a.at_ = 0) : a.do b x false = { a with P := a.P ++ [((b % (a.nb : Int)).toNat, one x)], T := a.T ++ [(1, (((b % (a.nb : Int)).toNat : Nat) : Int), one x)], wr := a.wr + 1 } := by
  show AD.write _ _ _ = _
  unfold AD.write
  rw [if_neg (by rw [h]; decide)]
  show AD.tick _ = _
  unfold AD.tick
  exact if_neg (by show ¬ (0 : Int) < a.at_; rw [h]; decide)
theorem do_f {a : AD} (b x : Int) (h : a.at_ = 0) : a.do b x true = { a with fl := a.fl + 1, T := a.T ++ [(2, 0, [])], las := a.full, P := [] } := by
  show AD.flush _ = _
  unfold AD.flush
  rw [if_neg (by rw [h]; decide)]
  have e : AD.tick { a with fl := a.fl + 1 } = { a with fl := a.fl + 1 } := by
    unfold AD.tick
    exact if_neg (by show ¬ (0 : Int) < a.at_; rw [h]; decide)
  simp only [e]
  rfl
theorem full_w {a : AD} (b x : Int) (h : a.at_ = 0) : (a.do b x false).full = wr a.full (b % (a.nb : Int)).toNat (one x) := by
  rw [do_w b x h]
  unfold AD.full
  show lay _ _ _ a.las (a.P ++ [_]).length = _
  rw [List.length_append, List.length_singleton, lay, if_pos rfl]
  have e1 : ∀ k, k < a.P.length → (AD.f { a with P := a.P ++ [((b % (a.nb : Int)).toNat, one x)], T := a.T ++ [(1, (((b % (a.nb : Int)).toNat : Nat) : Int), one x)], wr := a.wr + 1 } k = a.f k) ∧ (AD.X { a with P := a.P ++ [((b % (a.nb : Int)).toNat, one x)], T := a.T ++ [(1, (((b % (a.nb : Int)).toNat : Nat) : Int), one x)], wr := a.wr + 1 } k = a.X k) := fun k hk => by
    simp [AD.f, AD.X, List.getD, List.getElem?_append, hk]
  rw [lay_congr (kp' := fun _ => true) (f' := a.f) (x' := a.X) a.las a.P.length (fun k hk => ⟨rfl, (e1 k hk).1, (e1 k hk).2⟩)]
  congr 1
  · simp [AD.f, List.getD]
  · simp [AD.X, List.getD]
theorem LaI.next_w {a : AD} {m k : Nat} (h : LaI a m k) (b x : Int) : LaI (a.do b x false) m (k + 1) ∧ (a.do b x false).las = a.las ∧ (a.do b x false).full = Rec.wr a.full (b % (m : Int)).toNat (one x) := by
  refine ⟨?_, ?_, ?_⟩
  · rw [do_w b x h.at_]
    exact ⟨h.nb, h.len, by show (a.P ++ _).length ≤ _; have := h.P; simp; omega, by show (a.T ++ _).length ≤ _; have := h.T; simp; omega, by show a.wr + 1 ≤ _; have := h.wr; omega, by show a.fl ≤ _; have := h.fl; omega, h.at_, h.keep, h.down⟩
  · rw [do_w b x h.at_]
  · rw [full_w b x h.at_, h.nb]
theorem LaI.next_f {a : AD} {m k : Nat} (h : LaI a m k) (b x : Int) : LaI (a.do b x true) m (k + 1) ∧ (a.do b x true).las = a.full ∧ (a.do b x true).full = a.full := by
  refine ⟨?_, ?_, ?_⟩
  · rw [do_f b x h.at_]
    exact ⟨h.nb, by show a.full.length = _; unfold AD.full; rw [lay_length]; exact h.len, by show 0 ≤ _; omega, by show (a.T ++ _).length ≤ _; have := h.T; simp; omega, by show a.wr ≤ _; have := h.wr; omega, by show a.fl + 1 ≤ _; have := h.fl; omega, h.at_, h.keep, h.down⟩
  · rw [do_f b x h.at_]
  · rw [do_f b x h.at_]; rfl
theorem lay_none (f : Nat → Nat) (x : Nat → List Int) (l : List Int) (kp : Nat → Bool) (n : Nat) (h : ∀ k, k < n → kp k = false) : lay kp f x l n = l := by
  induction n with
  | zero => rfl
  | succ n ih => rw [lay, if_neg (by rw [h n (by omega)]; decide), ih (fun k hk => h k (by omega))]
theorem cut_all {a : AD} (all : Bool) : (a.cut (kpOf (List.replicate a.P.length all))).las = if all then a.full else a.las := by
  show lay _ a.f a.X a.las a.P.length = _
  cases all with
  | true =>
    rw [if_pos rfl]
    exact lay_congr _ _ (fun k hk => ⟨by simp [kpOf, List.getD, hk], rfl, rfl⟩)
  | false =>
    rw [if_neg (by decide)]
    exact lay_none _ _ _ _ _ (fun k hk => by simp [kpOf, List.getD, hk])
theorem bools_of {w : World} {v : Value} {l : List Bool} (h : w.ownsRow 0 4 1 v l.length (l.map Value.bool)) : Bools w v l := by
  obtain ⟨a, c, rfl, _, hg, hc⟩ := owns_slice h
  refine ⟨a, c, rfl, ?_⟩
  rcases hg with h0 | ⟨g, rfl⟩
  · exact .inl (List.eq_nil_of_length_eq_zero h0)
  · refine .inr ⟨g, 0, rfl, fun i x hx => ?_⟩
    rw [Nat.zero_add]
    exact (hc g 0 rfl).2.1 i _ (by rw [List.getElem?_map, hx]; rfl)
end Go.Proofs.Ytcjfgffkkjekoaa

namespace Go.Proofs.Ytcjfgffkkjekoaa
open Go.RowKit Rec

/-- an act among the arguments -/
structure ActR where
  kind : Int
  b : Int
  a : Option Addr
  c : Nat
  x : List Int
def ActR.cells (q : ActR) : List Value := [.int .i64 q.kind, .int .i64 q.b, .slice q.a q.x.length q.c]
structure ActAt (w : World) (b off : Nat) (q : ActR) : Prop where
  f0 : w.cell? ⟨b, off, none⟩ = some (.int .i64 q.kind)
  f1 : w.cell? ⟨b, off + 1, none⟩ = some (.int .i64 q.b)
  f2 : w.cell? ⟨b, off + 2, none⟩ = some (.slice q.a q.x.length q.c)
structure Acts (w : World) (a0 : Option Addr) (L : List ActR) : Prop where
  at_ : L = [] ∨ ∃ b off, a0 = some ⟨b, off, none⟩ ∧ ∀ i q, L[i]? = some q → ActAt w b (off + i * 3) q
  each : ∀ q ∈ L, Bytes w q.a q.x
  len : L.length ≤ 3518437208780
theorem Acts.on {w w' : World} {a0 : Option Addr} {L : List ActR} (h : Acts w a0 L) (x : Below w.heap.size w w') : Acts w' a0 L := by
  refine ⟨?_, fun q hq => (h.each q hq).on x, h.len⟩
  rcases h.at_ with e | ⟨b, off, e, hc⟩
  · exact .inl e
  · have f := below_fr x (fun _ => False)
    exact .inr ⟨b, off, e, fun i q hq => ⟨f.cell (hc i q hq).f0 (fun e => e), f.cell (hc i q hq).f1 (fun e => e), f.cell (hc i q hq).f2 (fun e => e)⟩⟩
/-- what is wrong with an act -/
def actE (nb : Nat) (q : ActR) : Int := if q.kind = 1 then (if 0 ≤ q.b ∧ q.b < nb then (if q.x.length = 512 then 0 else 32) else 31) else if q.kind = 2 then 0 else 1
def AD.take (a : AD) (q : ActR) : AD := if q.kind = 1 then a.write q.b.toNat q.x else a.flush
/-- behind so many acts -/
def AD.takes (a : AD) (L : List ActR) : Nat → AD
  | 0 => a
  | k + 1 => (a.takes L k).take (L.getD k ⟨0, 0, none, 0, []⟩)
theorem LaI.take {a : AD} {m k : Nat} (h : LaI a m k) (q : ActR) (_ : actE m q = 0) : LaI (a.take q) m (k + 1) := by
  unfold AD.take
  split
  · unfold AD.write
    rw [if_neg (by rw [h.at_]; decide)]
    show LaI (AD.tick _) _ _
    unfold AD.tick
    rw [if_neg (by show ¬ (0 : Int) < a.at_; rw [h.at_]; decide)]
    exact ⟨h.nb, h.len, by show (a.P ++ _).length ≤ _; have := h.P; simp; omega, by show (a.T ++ _).length ≤ _; have := h.T; simp; omega, by show a.wr + 1 ≤ _; have := h.wr; omega, by show a.fl ≤ _; have := h.fl; omega, h.at_, h.keep, h.down⟩
  · exact (h.next_f 0 0).1
theorem LaI.room' {a : AD} {m k : Nat} (h : LaI a m k) (hk : k ≤ 3518437208780) : RoomD a :=
  ⟨by have := h.P; omega, by have := h.T; omega, by have := h.wr; omega, by have := h.fl; omega, by rw [h.keep]; simp⟩
set_option maxRecDepth 100000 in
set_option maxHeartbeats 1600000 in
theorem take_ok (w : World) (D : Dk) (h : Disk w D) (q : ActR) (m k : Nat) (hl : LaI D.abs m k) (hk : k ≤ 3518437208780) (he : actE m q = 0) (hb : Bytes w q.a q.x) (hh : q.x ≠ [] → ∀ p, q.a = some p → ¬ D.has p.block) :
    Calls Try.prog 15 #[.pointer (some ⟨D.d, 0, none⟩), .agg #[.int .i64 q.kind, .int .i64 q.b, .slice q.a q.x.length q.c]] w fun e w' => e = .returned (.int .i64 0) ∧ ∃ D', Disk w' D' ∧ Mv w D w' D' ∧ Al w.heap.size D D' ∧ D'.abs = D.abs.take q := by
  have HD : Hid (Disk w D) := h
  have hst := hl.step
  have hdn : D.down = false := hl.down
  have HA : Hid (Below w.heap.size w (w.alloc (.cells #[.int .i64 q.kind, .int .i64 q.b, .slice q.a q.x.length q.c] 36))) := (Below.refl _ _).alloc (Nat.le_refl _) _
  have HR := heap_alloc_new w (.cells #[.int .i64 q.kind, .int .i64 q.b, .slice q.a q.x.length q.c] 36)
  have HC : Hid (∀ j, (w.alloc (.cells #[.int .i64 q.kind, .int .i64 q.b, .slice q.a q.x.length q.c] 36)).cell? ⟨w.heap.size, j, none⟩ = (#[Value.int .i64 q.kind, .int .i64 q.b, .slice q.a q.x.length q.c])[j]?) := fun j => cell_of_row _ _ _ _ _ _ HR
  have HL : Hid (LaI D.abs m k) := hl
  have HBy : Hid (Bytes w q.a q.x) := hb
  clear h HR hl hb
  have hnb : D.nb = m := HL.out.nb
  unfold actE at he
  go_enter Try.func15, Try.ntmps15
  go_upto_region 1 with fail
  generalize w.alloc (.cells #[.int .i64 q.kind, .int .i64 q.b, .slice q.a q.x.length q.c] 36) = wa at *
  have S0 : wa.cell? ⟨w.heap.size, 0, none⟩ = some (.int .i64 q.kind) := HC.out 0
  have S1 : wa.cell? ⟨w.heap.size, 1, none⟩ = some (.int .i64 q.b) := HC.out 1
  have S2 : wa.cell? ⟨w.heap.size, 2, none⟩ = some (.slice q.a q.x.length q.c) := HC.out 2
  by_cases h1 : q.kind = 1
  · rw [if_pos h1] at he
    by_cases hb2 : 0 ≤ q.b ∧ q.b < m
    · rw [if_pos hb2] at he
      by_cases hx : q.x.length = 512
      · obtain ⟨i, hi⟩ := Int.eq_ofNat_of_zero_le hb2.1
        have him : i < D.nb := by omega
        obtain ⟨p, hp⟩ : ∃ p, q.a = some p := by
          cases hq : q.a with
          | none => rw [hq] at HBy; have := HBy.out.nil; rw [this] at hx; simp at hx
          | some p => exact ⟨p, rfl⟩
        rw [hp] at HBy
        have HZ : Hid (Calls Try.prog 22 #[.pointer (some ⟨D.d, 0, none⟩), .int .i64 q.b, .slice q.a q.x.length q.c] wa fun e w' => e = .returned (.int .i64 0) ∧ ∃ D', Disk w' D' ∧ Mv w D w' D' ∧ Al w.heap.size D D' ∧ D'.abs = D.abs.take q) := by
          rw [hi, hp, hx]
          refine (write_yes wa D (HD.out.on HA.out) i p q.c q.x him hdn (HBy.out.on HA.out) hx (HL.out.room' hk) (hh (by intro e; rw [e] at hx; simp at hx) p hp)).mono ?_
          rintro e w' ⟨rfl, D', z1, z2, z3, z4⟩
          refine ⟨by rw [hst], D', z1, (mv_on _ _ _ HA.out).trans z2, fun k hk => (z3 k hk).imp id (Nat.le_trans HA.out.size), ?_⟩
          rw [z4, AD.take, if_pos h1, hi]; rfl
        clear he hb2 hst hi hp hx him HBy hh HL HC HD HA
        rw [h1] at S0
        go_wp2_with (go_at_call 22; refine HZ.out.mono ?_; rintro e w1 ⟨rfl, hz⟩; have H1 : Hid (∃ D', Disk w1 D' ∧ Mv w D w1 D' ∧ Al w.heap.size D D' ∧ D'.abs = D.abs.take q) := hz; clear hz)
        go_ret
        exact ⟨rfl, H1.out⟩
      · rw [if_neg hx] at he; cases he
    · rw [if_neg hb2] at he; cases he
  · rw [if_neg h1] at he
    by_cases h2 : q.kind = 2
    · have HZ : Hid (Calls Try.prog 23 #[.pointer (some ⟨D.d, 0, none⟩)] wa fun e w' => e = .returned (.int .i64 0) ∧ ∃ D', Disk w' D' ∧ Mv w D w' D' ∧ Al w.heap.size D D' ∧ D'.abs = D.abs.take q) := by
        refine (flush_yes wa D (HD.out.on HA.out) hdn (HL.out.room' hk)).mono ?_
        rintro e w' ⟨rfl, D', z1, z2, z3, z4⟩
        refine ⟨by rw [hst], D', z1, (mv_on _ _ _ HA.out).trans z2, fun k hk => (z3 k hk).imp id (Nat.le_trans HA.out.size), ?_⟩
        rw [z4, AD.take, if_neg h1]
      clear he hst HBy hh HL HC HD HA
      rw [h2] at S0
      go_wp2_with (go_at_call 23; refine HZ.out.mono ?_; rintro e w1 ⟨rfl, hz⟩; have H1 : Hid (∃ D', Disk w1 D' ∧ Mv w D w1 D' ∧ Al w.heap.size D D' ∧ D'.abs = D.abs.take q) := hz; clear hz)
      go_ret
      exact ⟨rfl, H1.out⟩
    · rw [if_neg h2] at he; cases he
def AD0 (nb : Nat) (l : List Int) : AD := ⟨nb, l, [], [], 0, 0, 0, [], false⟩
/-- what lasts of an image behind acts -/
def aft (nb : Nat) (l : List Int) (L : List ActR) (keep : List Bool) : List Int := (((AD0 nb l).takes L L.length).cut (kpOf keep)).las
structure AfW (w wr : World) (d nb : Nat) (l : List Int) (L : List ActR) (k : Nat) (D : Dk) : Prop where
  disk : Disk wr D
  ab : D.abs = (AD0 nb l).takes L k
  la : LaI D.abs nb k
  dd : D.d = d
  core : ∀ j, D.has j → w.heap.size ≤ j
  bel : Below w.heap.size w wr
theorem AfW.on {w wr wx : World} {d nb k : Nat} {l : List Int} {L : List ActR} {D : Dk} (h : AfW w wr d nb l L k D) (x : Below wr.heap.size wr wx) : AfW w wx d nb l L k D :=
  ⟨h.disk.on x, h.ab, h.la, h.dd, h.core, h.bel.trans (x.mono h.bel.size)⟩
set_option maxRecDepth 100000 in
set_option maxHeartbeats 1600000 in
theorem after_ok (w : World) (p : Addr) (c nb : Nat) (l : List Int) (a0 : Option Addr) (ac : Nat) (L : List ActR) (kv : Value) (keep : List Bool) (hb : Bytes w (some p) l) (hl : l.length = 512 * nb) (h0 : 1 ≤ nb) (h1 : nb ≤ 16384)
    (hA : Acts w a0 L) (hE : ∀ q ∈ L, actE nb q = 0) (hK : Bools w kv keep) (hkl : keep.length ≤ 9223372036854775807) :
    Calls Try.prog 8 #[.slice (some p) (512 * nb : Nat) c, .slice a0 L.length ac, kv] w fun e w' => ∃ g cap, e = .returned (.tuple #[.slice (some ⟨g, 0, none⟩) (512 * nb : Nat) cap, .int .i64 0]) ∧ w.heap.size ≤ g ∧ OwnB w' g cap (aft nb l L keep) ∧ Below w.heap.size w w' := by
  have hll := hA.len
  have HB : Hid (Bytes w (some p) l) := hb
  have HL : Hid (l.length = 512 * nb) := hl
  have HA : Hid (Acts w a0 L ∧ ∀ q ∈ L, actE nb q = 0) := ⟨hA, hE⟩
  have HK : Hid (Bools w kv keep) := hK
  clear hb hl hA hE
  obtain ⟨ka, kc, rfl, hkk⟩ := hK
  clear hkk
  go_enter Try.func8, Try.ntmps8
  go_wp2_with (go_at_call 14; refine (open_yes _ p c nb l HB.out HL.out h0 h1).mono ?_; rintro e w1 ⟨d, nw, L0, capL, rfl, q1, q2, q3, hD, hb1⟩; have HW : Hid (AfW w w1 d nb l L 0 (newDk d L0 nw capL nb l)) := ⟨hD, rfl, ⟨rfl, HL.out, Nat.le_refl _, Nat.le_refl _, Nat.le_refl _, Nat.le_refl _, rfl, rfl, rfl⟩, rfl, (by rintro j (e | e | e | e | e) <;> first | (cases e; done) | (have e : j = d := e; omega) | (have e : j = L0 := e; omega) | (have e : j = nw := e; omega)), hb1⟩; clear hD hb1)
  go_loopw [11, 12, 23, 24, 25, 26, 27, 28, 29, 30, 31, 32, 33] (fun _ _ i _ _ _ _ _ _ _ _ _ _ wr => ∃ k : Nat, k ≤ L.length ∧ i = .int .i64 k ∧ ∃ D, AfW w wr d nb l L k D) (fun _ _ i _ _ _ _ _ _ _ _ _ _ _ => L.length - (intOf i).toNat)
  case atStart => exact ⟨0, Nat.zero_le _, rfl, _, HW.out⟩
  case round =>
    obtain ⟨k, hk, rfl, D, hW⟩ := hrel
    have hdd := hW.dd
    subst hdd
    clear HW
    have HW : Hid (AfW w wr D.d nb l L k D) := hW
    clear hW
    by_cases hlt : k < L.length
    · have hPr := HA.out.1.on HW.out.bel
      obtain ⟨b, off, rfl, hc⟩ := hPr.at_.resolve_left (by intro e; rw [e] at hlt; simp at hlt)
      obtain ⟨q, hq⟩ : ∃ q, L[k]? = some q := ⟨L[k], by simp [hlt]⟩
      have hqm := List.mem_of_getElem? hq
      obtain ⟨c0, c1, c2⟩ := hc k q hq
      have hqe := HA.out.2 q hqm
      have HAl : Hid (Below wr.heap.size wr (wr.alloc (.cells #[.int .i64 q.kind, .int .i64 q.b, .slice q.a q.x.length q.c] 36))) := (Below.refl _ _).alloc (Nat.le_refl _) _
      have HG : Hid (L.getD k ⟨0, 0, none, 0, []⟩ = q) := by show _ = _; simp [List.getD, hq]
      have HT : Hid (Calls Try.prog 15 #[.pointer (some ⟨D.d, 0, none⟩), .agg #[.int .i64 q.kind, .int .i64 q.b, .slice q.a q.x.length q.c]] (wr.alloc (.cells #[.int .i64 q.kind, .int .i64 q.b, .slice q.a q.x.length q.c] 36)) fun e w' => e = .returned (.int .i64 0) ∧ ∃ D', AfW w w' D.d nb l L (k + 1) D') := by
        have hx := HW.out.on HAl.out
        refine (take_ok _ D hx.disk q nb k hx.la (by omega) hqe ((HA.out.1.each q hqm).on hx.bel) (fun hne p hp e => ?_)).mono ?_
        · have h1 := hx.core _ e
          have h2 := HA.out.1.each q hqm
          rw [hp] at h2
          rcases h2.at_ with e2 | ⟨b', off', e2, hc'⟩
          · exact hne e2
          · cases e2
            have := block_lt_of_cell (hc' 0 (by cases hqx : q.x with | nil => exact absurd hqx hne | cons _ _ => simp))
            have h1 : w.heap.size ≤ b' := h1
            have this : b' < w.heap.size := this
            omega
        · rintro e w' ⟨rfl, D', z1, z2, _, z4⟩
          refine ⟨rfl, D', z1, ?_, by rw [z4]; exact hx.la.take q hqe, z2.d, (z2.below w.heap.size hx.bel.size hx.core).2, hx.bel.trans (z2.below w.heap.size hx.bel.size hx.core).1⟩
          rw [z4, hx.ab, AD.takes, HG.out]
      clear hPr hc hq hqm hqe
      go_wp2_with (go_at_call 15; refine HT.out.mono ?_; rintro e w2 ⟨rfl, hz⟩; have H2 : Hid (∃ D', AfW w w2 D.d nb l L (k + 1) D') := hz; clear hz)
      exact ⟨⟨k + 1, hlt, rfl, H2.out⟩, by simp [intOf]; omega⟩
    · obtain rfl : k = L.length := by omega
      have HM : Hid (D.nb = nb) := HW.out.la.nb
      go_wp2_with (go_at_call 16; refine (crash_any _ D HW.out.disk _ keep (HK.out.on HW.out.bel) (fun hl j hj e => absurd (HW.out.core j e) (Nat.not_le.2 (HK.out.lt hl hj))) hkl).mono ?_; rintro e w2 ⟨rfl, hd2, hm2⟩; have H2 : Hid (Disk w2 (D.cut (kpOf keep)) ∧ Below w.heap.size w w2) := ⟨hd2, HW.out.bel.trans (hm2.below _ HW.out.bel.size HW.out.core).1⟩; have C0 : w2.cell? ⟨D.d, 0, none⟩ = some (.slice (some ⟨D.L, 0, none⟩) (512 * nb) D.capL) := (by rw [← HM.out]; exact hd2.cell 0); clear hd2 hm2)
      go_ret2
      refine ⟨D.L, D.capL, rfl, HW.out.core _ (.inr (.inl rfl)), ?_, H2.out.2⟩
      have e : aft nb l L keep = (D.cut (kpOf keep)).las := by
        unfold aft
        rw [← HW.out.ab, ← abs_cut]; rfl
      rw [e]; exact H2.out.1.las
end Go.Proofs.Ytcjfgffkkjekoaa

namespace Go.Proofs.Ytcjfgffkkjekoaa
open Go.RowKit Rec

/-- act number i -/
def actN (L : List ActR) (i : Nat) : ActR := L.getD i ⟨0, 0, none, 0, []⟩
/-- how many writes stand just ahead of act i -/
def numA (L : List ActR) : Nat → Nat
  | 0 => 0
  | i + 1 => if (actN L i).kind = 1 then numA L i + 1 else 0
/-- does write i last? -/
def lastsB (L : List ActR) (i : Nat) (keep : List Bool) : Bool := decide (∃ j, j < L.length ∧ i < j ∧ (actN L j).kind = 2) || kpOf keep (numA L i)
/-- the document's image behind i acts -/
def lft (l : List Int) (L : List ActR) (keep : List Bool) : Nat → List Int
  | 0 => l
  | i + 1 => if (actN L i).kind = 1 ∧ lastsB L i keep = true then wr (lft l L keep i) (actN L i).b.toNat (actN L i).x else lft l L keep i
/-- all writes -/
def alw (l : List Int) (L : List ActR) : Nat → List Int
  | 0 => l
  | i + 1 => if (actN L i).kind = 1 then wr (alw l L i) (actN L i).b.toNat (actN L i).x else alw l L i
/-- what is pending behind i acts -/
def pnd (L : List ActR) : Nat → List (Nat × List Int)
  | 0 => []
  | i + 1 => if (actN L i).kind = 1 then pnd L i ++ [((actN L i).b.toNat, (actN L i).x)] else []
/-- what has lasted behind i acts -/
def lsf (l : List Int) (L : List ActR) : Nat → List Int
  | 0 => l
  | i + 1 => if (actN L i).kind = 1 then lsf l L i else lay (fun _ => true) (fun k => ((pnd L i).getD k (0, [])).1) (fun k => ((pnd L i).getD k (0, [])).2) (lsf l L i) (pnd L i).length
theorem lay_cong {kp kp' : Nat → Bool} {f f' : Nat → Nat} {X X' : Nat → List Int} {l : List Int} {n : Nat} (h : ∀ k, k < n → kp k = kp' k ∧ f k = f' k ∧ X k = X' k) : lay kp f X l n = lay kp' f' X' l n := by
  induction n with
  | zero => rfl
  | succ n ih => rw [lay, lay, ih (fun k hk => h k (by omega)), (h n (by omega)).1, (h n (by omega)).2.1, (h n (by omega)).2.2]
theorem takes_shape (nb : Nat) (l : List Int) (L : List ActR) (k : Nat) : ((AD0 nb l).takes L k).las = lsf l L k ∧ ((AD0 nb l).takes L k).P = pnd L k ∧ ((AD0 nb l).takes L k).at_ = 0 := by
  induction k with
  | zero => exact ⟨rfl, rfl, rfl⟩
  | succ k ih =>
    obtain ⟨h1, h2, h3⟩ := ih
    have e : (AD0 nb l).takes L (k + 1) = ((AD0 nb l).takes L k).take (actN L k) := rfl
    rw [e]
    generalize (AD0 nb l).takes L k = A at *
    unfold AD.take
    rw [lsf, pnd]
    by_cases c : (actN L k).kind = 1
    · rw [if_pos c, if_pos c, if_pos c]
      have : A.write (actN L k).b.toNat (actN L k).x = { A with P := A.P ++ [((actN L k).b.toNat, (actN L k).x)], T := A.T ++ [(1, ((actN L k).b.toNat : Int), (actN L k).x)], wr := A.wr + 1 } := by
        unfold AD.write
        simp only [h3]
        simp [AD.tick]
      rw [this]
      exact ⟨h1, by rw [h2], h3⟩
    · rw [if_neg c, if_neg c, if_neg c]
      have : A.flush = ({ A with fl := A.fl + 1, T := A.T ++ [(2, 0, [])] } : AD).settle (fun _ => true) := by
        unfold AD.flush
        simp only [h3]
        simp [AD.tick]
      rw [this]
      refine ⟨?_, rfl, h3⟩
      show lay (fun _ => true) _ _ A.las A.P.length = _
      rw [h1, h2]
      refine lay_cong fun k _ => ⟨rfl, ?_, ?_⟩
      · simp [AD.f]
      · simp [AD.X]
theorem lay_snoc (kp : Nat → Bool) (P : List (Nat × List Int)) (p : Nat × List Int) (l : List Int) (h : kp P.length = true) : lay kp (fun k => ((P ++ [p]).getD k (0, [])).1) (fun k => ((P ++ [p]).getD k (0, [])).2) l (P ++ [p]).length = wr (lay kp (fun k => (P.getD k (0, [])).1) (fun k => (P.getD k (0, [])).2) l P.length) p.1 p.2 := by
  rw [List.length_append, List.length_singleton, lay, if_pos h]
  congr 1
  · refine lay_cong fun k hk => ⟨rfl, ?_, ?_⟩ <;> simp [List.getD, List.getElem?_append, hk]
  · simp [List.getD]
  · simp [List.getD]
theorem lsf_alw (l : List Int) (L : List ActR) (k : Nat) : lay (fun _ => true) (fun i => ((pnd L k).getD i (0, [])).1) (fun i => ((pnd L k).getD i (0, [])).2) (lsf l L k) (pnd L k).length = alw l L k := by
  induction k with
  | zero => rfl
  | succ k ih =>
    rw [pnd, lsf, alw]
    by_cases c : (actN L k).kind = 1
    · rw [if_pos c, if_pos c, if_pos c, lay_snoc _ _ _ _ rfl, ih]
    · rw [if_neg c, if_neg c, if_neg c, ← ih]; rfl
/-- behind the last flush -/
theorem last_flush (L : List ActR) (n : Nat) : ∃ m, m ≤ n ∧ (∀ i, m ≤ i → i < n → (actN L i).kind = 1) ∧ (m = 0 ∨ ¬ (actN L (m - 1)).kind = 1) := by
  induction n with
  | zero => exact ⟨0, Nat.le_refl _, fun i h1 h2 => by omega, .inl rfl⟩
  | succ n ih =>
    by_cases c : (actN L n).kind = 1
    · obtain ⟨m, h1, h2, h3⟩ := ih
      refine ⟨m, by omega, fun i hi hj => ?_, h3⟩
      by_cases e : i = n
      · subst e; exact c
      · exact h2 i hi (by omega)
    · exact ⟨n + 1, Nat.le_refl _, fun i h1 h2 => by omega, .inr c⟩
theorem behind_last (l : List Int) (L : List ActR) (m : Nat) (h3 : m = 0 ∨ ¬ (actN L (m - 1)).kind = 1) (t : Nat) (h2 : ∀ i, m ≤ i → i < m + t → (actN L i).kind = 1) :
    lsf l L (m + t) = alw l L m ∧ (pnd L (m + t)).length = t ∧ numA L (m + t) = t ∧ ∀ k, k < t → (pnd L (m + t)).getD k (0, []) = ((actN L (m + k)).b.toNat, (actN L (m + k)).x) := by
  induction t with
  | zero =>
    rw [Nat.add_zero]
    rcases h3 with rfl | h3
    · exact ⟨rfl, rfl, rfl, fun k hk => by omega⟩
    · cases m with
      | zero => exact ⟨rfl, rfl, rfl, fun k hk => by omega⟩
      | succ m =>
        rw [Nat.add_sub_cancel] at h3
        rw [lsf, pnd, numA, alw, if_neg h3, if_neg h3, if_neg h3, if_neg h3]
        exact ⟨lsf_alw l L m, rfl, rfl, fun k hk => by omega⟩
  | succ t ih =>
    have ih := ih (fun i h1 h2' => h2 i h1 (by omega))
    have c := h2 (m + t) (by omega) (by omega)
    rw [← Nat.add_assoc, lsf, pnd, numA, if_pos c, if_pos c, if_pos c]
    refine ⟨ih.1, by rw [List.length_append, ih.2.1]; rfl, by rw [ih.2.2.1], fun k hk => ?_⟩
    by_cases e : k = t
    · subst e
      simp [List.getD, ih.2.1]
    · have := ih.2.2.2 k (by omega)
      rw [← this]
      simp [List.getD, List.getElem?_append, ih.2.1, show k < t by omega]
/-- the document's image is what the disk leaves -/
theorem aft_lft (nb : Nat) (l : List Int) (L : List ActR) (keep : List Bool) (hk : ∀ i, i < L.length → (actN L i).kind = 1 ∨ (actN L i).kind = 2) : aft nb l L keep = lft l L keep L.length := by
  obtain ⟨m, hm, h2, h3⟩ := last_flush L L.length
  obtain ⟨t, ht⟩ : ∃ t, L.length = m + t := ⟨L.length - m, by omega⟩
  have hs := takes_shape nb l L L.length
  have hb := behind_last l L m h3 t (fun i h1 h4 => h2 i h1 (by omega))
  have hlow : ∀ i, i ≤ m → lft l L keep i = alw l L i := by
    intro i
    induction i with
    | zero => intro _; rfl
    | succ i ih =>
      intro hi
      rw [lft, alw, ih (by omega)]
      by_cases c : (actN L i).kind = 1
      · have hla : lastsB L i keep = true := by
          unfold lastsB
          rw [Bool.or_eq_true, decide_eq_true_eq]
          left
          rcases h3 with h3 | h3
          · omega
          · have hne : i ≠ m - 1 := fun e => h3 (by rw [← e]; exact c)
            refine ⟨m - 1, by omega, by omega, ?_⟩
            rcases hk (m - 1) (by omega) with h | h
            · exact absurd h h3
            · exact h
        rw [if_pos ⟨c, hla⟩, if_pos c]
      · rw [if_neg (fun h => c h.1), if_neg c]
  have hhigh : ∀ s, s ≤ t → lft l L keep (m + s) = lay (kpOf keep) (fun k => (actN L (m + k)).b.toNat) (fun k => (actN L (m + k)).x) (alw l L m) s := by
    intro s
    induction s with
    | zero => intro _; exact hlow m (Nat.le_refl _)
    | succ s ih =>
      intro hs'
      have c := h2 (m + s) (by omega) (by omega)
      have hnum := (behind_last l L m h3 s (fun i h1 h4 => h2 i h1 (by omega))).2.2.1
      have hla : lastsB L (m + s) keep = kpOf keep s := by
        unfold lastsB
        rw [hnum]
        have : ¬ ∃ j, j < L.length ∧ m + s < j ∧ (actN L j).kind = 2 := by
          rintro ⟨j, j1, j2, j3⟩
          have := h2 j (by omega) j1
          omega
        rw [decide_eq_false this, Bool.false_or]
      rw [← Nat.add_assoc, lft, lay, ih (by omega), hla]
      by_cases d : kpOf keep s = true
      · rw [if_pos ⟨c, d⟩, if_pos d]
      · rw [if_neg (fun h => d h.2), if_neg d]
  unfold aft AD.cut AD.settle
  show lay (kpOf keep) _ _ ((AD0 nb l).takes L L.length).las ((AD0 nb l).takes L L.length).P.length = _
  rw [hs.1, hs.2.1, ht, hb.1, hb.2.1, hhigh t (Nat.le_refl _)]
  refine lay_cong fun k hk' => ⟨rfl, ?_, ?_⟩
  · show (((AD0 nb l).takes L (m + t)).P.getD k (0, [])).1 = _
    rw [← ht, hs.2.1, ht, hb.2.2.2 k hk']
  · show (((AD0 nb l).takes L (m + t)).P.getD k (0, [])).2 = _
    rw [← ht, hs.2.1, ht, hb.2.2.2 k hk']
end Go.Proofs.Ytcjfgffkkjekoaa

namespace Go.Proofs.Ytcjfgffkkjekoaa
open Go.RowKit Rec

theorem mark_news {w : World} {b : Nat} {t : TypeId} (h : w.heap[b]? = some (.cells #[.int .u8 165] t (0, 0))) : Bytes w (some ⟨b, 0, none⟩) [165] := by
  refine ⟨by simp, fun i => ?_, .inr ⟨b, 0, rfl, fun i hi => ?_⟩⟩
  · cases i with
    | zero => simp [nth]
    | succ i => simp [nth]
  · have : i = 0 := by simp at hi; omega
    subst this
    rw [cell_of_row _ _ _ _ _ _ h]; rfl
/-- what 'lent' hands back -/
def Lent (w : World) (n : Nat) (l : List Int) (e : Ending) (w' : World) : Prop := ∃ g cap, e = .returned (.tuple #[.slice (some ⟨g, 0, none⟩) n cap, .slice (some ⟨g, 0, none⟩) (n + 1) cap]) ∧ w.heap.size ≤ g ∧ OwnB w' g cap (l ++ [165]) ∧ Below w.heap.size w w'
set_option maxRecDepth 100000 in
set_option maxHeartbeats 800000 in
theorem lent_any (w : World) (a : Option Addr) (n c : Nat) (l : List Int) (hb : Bytes w a l) (hl : l.length = n) (hn : a = none → c = 0) (h47 : n ≤ 140737488351232) : Calls Try.prog 5 #[.slice a n c] w (Lent w n l) := by
  obtain ⟨i0, hi, hz0, hz1, hz2⟩ := info_parts info5
  have HB : Hid (Bytes w a l) := hb
  have HL : Hid (l.length = n) := hl
  have HE : Hid (w.ownsRow w.heap.size 5 1 (.slice none 0 0) 0 []) := ⟨rfl, .inl ⟨rfl, rfl⟩⟩
  have HRest : Hid (∀ v1 w1, w1.ownsRow w.heap.size 5 1 v1 n (l.map (Value.int .u8)) → Below w.heap.size w w1 → (w1.ownsRow 0 5 1 v1 n (l.map (Value.int .u8)) ∧ ∀ k, v1.ownBlock = some k → w.heap.size ≤ k)) := fun v1 w1 ho _ => by
    rcases ho.2 with ⟨rfl, h0⟩ | ⟨g, cap, cur, rfl, h2, h3⟩
    · exact ⟨⟨ho.1, .inl ⟨rfl, h0⟩⟩, fun k hk => by cases hk⟩
    · exact ⟨⟨ho.1, .inr ⟨g, cap, cur, rfl, Nat.zero_le _, h3⟩⟩, fun k hk => by cases hk; exact h2⟩
  clear hb hl
  go_enter Try.func5, Try.ntmps5
  cases a with
  | none =>
    have hl0 : l = [] := HB.out.nil
    have hn0 : n = 0 := by have := HL.out; rw [hl0] at this; simpa using this.symm
    subst hl0 hn0
    have hc0 := hn rfl
    subst hc0
    have HA : Hid (Below w.heap.size w (w.alloc (.cells #[.int .u8 165] 5))) := (Below.refl _ _).alloc (Nat.le_refl _) _
    have HM : Hid (Bytes (w.alloc (.cells #[.int .u8 165] 5)) (some ⟨w.heap.size, 0, none⟩) [165]) := mark_news (heap_alloc_new w _)
    go_upto_region 4 with (first
      | (at_builtin; refine wpList_append_own_none rfl (.tmp 5) (.tmp 6) 22 rfl w.heap.size 5 i0 1 Try.underlying22 hi (.slice none 0 0) 0 [] rfl HE.out rfl ?_)
      | (at_builtin; refine wp_bown rfl (.tmp 8) (.tmp 9) rfl (.slice none 0 0) 0 [] rfl ⟨rfl, .inl ⟨rfl, rfl⟩⟩ ⟨w.heap.size, 0, none⟩ 1 1 [165] rfl (by decide) rfl HM.out (by omega) ?_; intro g cap w2 ho hf hg; have H2 : Hid (w.heap.size ≤ g ∧ OwnB w2 g cap ([] ++ [165]) ∧ Below w.heap.size w w2) := ⟨hg.elim (fun e => by cases e) (fun e => Nat.le_trans HA.out.size e), ownB_of ho (by rfl) (by omega) (wf_list (by decide)), HA.out.trans (hf.below _ (fun j hj => by cases hj) HA.out.size)⟩; clear ho hf hg))
    go_wp2
    go_ret2
    exact ⟨_, _, rfl, H2.out⟩
  | some p =>
    have HN : Hid (∀ j u, (l.map (Value.int .u8))[j]? = some u → w.cell? (p.add j) = some u) := HB.out.news
    go_upto_region 3 with (at_builtin; refine wpList_append_own _ rfl (.tmp 5) (.tmp 6) 22 rfl w.heap.size 5 i0 _ 1 1 Try.underlying22 hi hz0 hz1 hz2 rfl (by decide) (.slice none 0 0) 0 [] rfl HE.out p n c (l.map (Value.int .u8)) rfl (by rw [List.length_map, HL.out]; omega) HN.out (cells_u8 l) (by unfold maxLen; omega) (by omega) (Nat.le_refl _) ?_; intro v1 w1 ho hg hn1; have H1 : Hid ((w1.ownsRow 0 5 1 v1 n (l.map (Value.int .u8)) ∧ ∀ k, v1.ownBlock = some k → w.heap.size ≤ k) ∧ Below w.heap.size w w1) := (by have hbb : Below w.heap.size w w1 := (Below.refl _ w).grown hg (Nat.le_refl _) (by intro k hk; cases hk); rw [Nat.zero_add, List.nil_append] at ho; exact ⟨HRest.out v1 w1 ho hbb, hbb⟩); clear ho hg hn1)
    have HA : Hid (Below w1.heap.size w1 (w1.alloc (.cells #[.int .u8 165] 5))) := (Below.refl _ _).alloc (Nat.le_refl _) _
    have HM : Hid (Bytes (w1.alloc (.cells #[.int .u8 165] 5)) (some ⟨w1.heap.size, 0, none⟩) [165]) := mark_news (heap_alloc_new w1 _)
    have HO1 : Hid ((w1.alloc (.cells #[.int .u8 165] 5)).ownsRow 0 5 1 v1 n (l.map (Value.int .u8))) := owns_fr H1.out.1.1 (below_fr HA.out (fun k => w1.heap.size ≤ k)) (fun k hk => Nat.not_le.2 (owns_block H1.out.1.1 hk))
    go_upto_region 4 with (at_builtin; refine wp_bown rfl (.tmp 8) (.tmp 9) rfl v1 n l rfl HO1.out ⟨w1.heap.size, 0, none⟩ 1 1 [165] rfl (by decide) rfl HM.out (by omega) ?_; intro g cap w2 ho hf hg; have H2 : Hid (w.heap.size ≤ g ∧ OwnB w2 g cap (l ++ [165]) ∧ Below w.heap.size w w2) := ⟨hg.elim (H1.out.1.2 g) (fun e => Nat.le_trans H1.out.2.size (Nat.le_trans HA.out.size e)), ownB_of ho (by rw [List.length_append, HL.out]; rfl) (by omega) (wf_two HB.out.wf (wf_list (by decide))), (H1.out.2.trans (HA.out.mono H1.out.2.size)).trans (hf.below _ H1.out.1.2 (Nat.le_trans H1.out.2.size HA.out.size))⟩; clear ho hf hg)
    have hcap : n + 1 ≤ cap := by have := H2.out.2.1.room; rw [List.length_append, HL.out] at this; exact this
    go_wp2
    go_ret2
    exact ⟨_, _, rfl, H2.out⟩
end Go.Proofs.Ytcjfgffkkjekoaa

namespace Go.Proofs.Ytcjfgffkkjekoaa
open Go.RowKit Rec

set_option maxRecDepth 100000 in
set_option maxHeartbeats 1600000 in
theorem kept_any (w : World) (g cap n c : Nat) (a : Option Addr) (l : List Int) (hO : OwnB w g cap (l ++ [165])) (hb : Bytes w a l) (hl : l.length = n) (h47 : n ≤ 140737488351232) :
    Calls Try.prog 9 #[.slice (some ⟨g, 0, none⟩) (n + 1) cap, .slice a n c] w fun e w' => e = .returned (.bool true) ∧ Fr (fun k => k = g) w w' := by
  have hcap : n + 1 ≤ cap := by have := hO.room; rw [List.length_append, hl] at this; exact this
  have HO : Hid (OwnB w g cap (l ++ [165])) := hO
  have HL : Hid (l.length = n) := hl
  have HD : Hid (Below w.heap.size w w.drew) := (Below.refl _ w).drew
  have e1 : ∀ k, (convert 22 9 (.slice (some ⟨g, 0, none⟩) n k)).run Try.prog w.drew = .ok (.string (strOfNums l)) w.drew := fun k => by
    have z := (hO.on HD.out).bytes.take n
    have e : (l ++ [165]).take n = l := by rw [← hl]; exact List.take_left
    rw [e] at z
    exact str_opt z hl
  have e2 : (convert 22 9 (.slice a n c)).run Try.prog w.drew = .ok (.string (strOfNums l)) w.drew := str_opt (hb.on HD.out) hl
  have hc : w.cell? ⟨g, n, none⟩ = some (.int .u8 165) := by
    have z := hO.cell n (by rw [List.length_append, hl]; simp)
    rw [z]
    have : nth (l ++ [165]) n = 165 := by rw [nth_app, if_neg (by omega), hl, Nat.sub_self]; rfl
    rw [this]
  clear hO hb hl
  go_enter Try.func9, Try.ntmps9
  go_wp2
  go_region
  all_goals
    go_wp2
    go_loopw [6, 25, 26, 27, 28, 29, 30, 31, 32, 33, 34, 35, 36] (fun _ i _ _ _ _ _ _ _ _ _ _ _ wr => ∃ k : Nat, k ≤ n + 1 ∧ i = .int .i64 k ∧ Fr (fun k => k = g) w wr ∧ ∃ M : List Int, M.length = n + 1 ∧ OwnB wr g cap M) (fun _ i _ _ _ _ _ _ _ _ _ _ _ _ => n + 1 - (intOf i).toNat)
    case atStart => exact ⟨0, Nat.zero_le _, rfl, below_fr HD.out _, _, by rw [List.length_append, HL.out]; rfl, HO.out.on HD.out⟩
    case round =>
      obtain ⟨k, hk, rfl, hf, M, hM, hOM⟩ := hrel
      have HF : Hid (Fr (fun k => k = g) w wr) := hf
      have HM : Hid (M.length = n + 1 ∧ OwnB wr g cap M) := ⟨hM, hOM⟩
      clear hf hM hOM e1 e2 hc
      by_cases hlt : k < n + 1
      · have d := HM.out.2.cell k (by rw [HM.out.1]; exact hlt)
        have f := HM.out.2.frozen k
        have hw := HM.out.2.wf k
        generalize nth M k = y at *
        go_wp2
        exact ⟨⟨k + 1, hlt, rfl, HF.out.trans Fr.set (fun _ e => .inl e), _, by rw [List.length_set]; exact HM.out.1, HM.out.2.set k _ (by rw [HM.out.1]; exact hlt) (by omega)⟩, by simp [intOf]; omega⟩
      · go_wp2
        go_ret
        exact ⟨rfl, HF.out⟩
set_option maxRecDepth 100000 in
set_option maxHeartbeats 800000 in
theorem copied_any (w : World) (p : Addr) (n c : Nat) (l : List Int) (hb : Bytes w (some p) l) (hl : l.length = n) (h0 : 0 < n) (h47 : n ≤ 140737488351232) :
    Calls Try.prog 17 #[.slice (some p) n c] w fun e w' => ∃ g cap, e = .returned (.slice (some ⟨g, 0, none⟩) n cap) ∧ w.heap.size ≤ g ∧ OwnB w' g cap l ∧ Below w.heap.size w w' := by
  have HB : Hid (Bytes w (some p) l) := hb
  have HL : Hid (l.length = n) := hl
  clear hb hl
  go_enter Try.func17, Try.ntmps17
  go_wp2_with (at_builtin; refine wp_bown rfl (.tmp 4) (.tmp 5) rfl (.slice none 0 0) 0 [] rfl ⟨rfl, .inl ⟨rfl, rfl⟩⟩ p n c l rfl h0 HL.out HB.out (by omega) ?_; intro g cap w2 ho hf hg; have H2 : Hid (w.heap.size ≤ g ∧ OwnB w2 g cap l ∧ Below w.heap.size w w2) := ⟨hg.elim (fun e => by cases e) id, ownB_of (n := n) (by simpa using ho) HL.out (by omega) HB.out.wf, hf.below _ (fun j hj => by cases hj) (Nat.le_refl _)⟩; clear ho hf hg)
  go_ret
  exact ⟨_, _, by first | rfl | (rw [Nat.zero_add]; rfl), H2.out⟩
/-- the reference's disk, new -/
def RefAt (w : World) (r g cap nb : Nat) : Prop := w.heap[r]? = some (.cells #[.slice (some ⟨g, 0, none⟩) (512 * nb) cap, .slice none 0 0, .slice none 0 0, .int .i64 0, .bool false, .int .i64 0, .int .i64 0] 58 (0, 0))
set_option maxRecDepth 100000 in
set_option maxHeartbeats 800000 in
theorem of_no (w : World) (a : Option Addr) (n c : Nat) (hn : n ≤ 9223372036854775807) (h : n % 512 ≠ 0 ∨ isz ((n / 512 : Nat) : Int) = false) : Calls Try.prog 11 #[.slice a n c] w fun e w' => e = .returned (.tuple #[.pointer none, .int .i64 32]) ∧ w = w' := by
  by_cases h0 : n = 0
  · subst h0
    clear h
    go_enter Try.func11, Try.ntmps11
    go_wp2
    go_ret2
    exact ⟨rfl, rfl⟩
  · have h0' : ¬ (n : Int) = 0 := by omega
    by_cases hm : n % 512 = 0
    · have hs := h.resolve_left (fun x => x hm)
      have hbig : 16384 < (n : Int) / 512 := by
        unfold isz at hs
        simp at hs
        omega
      have hm' : (n : Int) % 512 = 0 := by omega
      clear h hs hm
      go_enter Try.func11, Try.ntmps11
      go_wp2
      go_ret2
      exact ⟨rfl, rfl⟩
    · have hm' : ¬ (n : Int) % 512 = 0 := by omega
      clear h
      go_enter Try.func11, Try.ntmps11
      go_wp2
      go_ret2
      exact ⟨rfl, rfl⟩
set_option maxRecDepth 100000 in
set_option maxHeartbeats 800000 in
theorem of_yes (w : World) (p : Addr) (c nb : Nat) (l : List Int) (hb : Bytes w (some p) l) (hn : l.length = 512 * nb) (h0 : 1 ≤ nb) (h1 : nb ≤ 16384) :
    Calls Try.prog 11 #[.slice (some p) (512 * nb : Nat) c] w fun e w' => ∃ r g cap, e = .returned (.tuple #[.pointer (some ⟨r, 0, none⟩), .int .i64 0]) ∧ w.heap.size ≤ r ∧ RefAt w' r g cap nb ∧ Below w.heap.size w w' := by
  have HI : Hid (Bytes w (some p) l) := hb
  have HN : Hid (l.length = 512 * nb) := hn
  clear hb hn
  have hz : ((512 * (nb : Int)) == 0) = false := by rw [beq_eq_false_iff_ne]; omega
  have hz2 : ¬ 512 * (nb : Int) = 0 := by omega
  go_enter Try.func11, Try.ntmps11
  go_wp2_with (go_at_call 17; refine (copied_any _ p (512 * nb) c l HI.out HN.out (by omega) (by omega)).mono ?_; rintro e w1 ⟨g, cap, rfl, hg, ho, hb⟩; have H1 : Hid (Below w.heap.size w w1) := hb; clear hg ho hb)
  go_ret2
  exact ⟨_, _, _, rfl, H1.out.size, heap_alloc_new w1 _, H1.out.alloc H1.out.size _⟩
end Go.Proofs.Ytcjfgffkkjekoaa

namespace Go.Proofs.Ytcjfgffkkjekoaa
open Go.RowKit Rec

/-- the document's word on an act -/
theorem rfault_any (w : World) (nb : Nat) (q : ActR) (_ : nb ≤ 16384) (hx : q.x.length ≤ 1000000000000000) : Calls Try.prog 12 #[.int .i64 (nb : Int), .agg #[.int .i64 q.kind, .int .i64 q.b, .slice q.a q.x.length q.c]] w fun e w' => e = .returned (.int .i64 (actE nb q)) ∧ Below w.heap.size w w' := by
  obtain ⟨kd, b, a, c, x⟩ := q
  dsimp only at hx ⊢
  obtain ⟨n, hn⟩ : ∃ n, x.length = n := ⟨_, rfl⟩
  have hE : actE nb ⟨kd, b, a, c, x⟩ = if kd = 1 then (if 0 ≤ b ∧ b < nb then (if n = 512 then 0 else 32) else 31) else if kd = 2 then 0 else 1 := by rw [← hn]; rfl
  rw [hE]
  rw [hn] at hx ⊢
  clear hE hn
  have HW : Hid (Below w.heap.size w (w.alloc (.cells #[.int .i64 kd, .int .i64 b, .slice a n c] 36))) := (Below.refl _ _).alloc (Nat.le_refl _) _
  go_enter Try.func12, Try.ntmps12
  by_cases k2 : kd = 2
  · subst k2
    go_wp2
    go_ret
    exact ⟨rfl, HW.out⟩
  · have e2 : (kd == 2) = false := beq_eq_false_iff_ne.2 k2
    by_cases k1 : kd = 1
    · subst k1
      clear k2
      by_cases b0 : b < 0
      · go_wp2
        go_ret
        refine ⟨?_, HW.out⟩
        first | rfl | (rw [if_pos rfl, if_neg (by omega)]; rfl)
      · by_cases b1 : (nb : Int) ≤ b
        · go_wp2
          go_ret
          refine ⟨?_, HW.out⟩
          first | rfl | (rw [if_pos rfl, if_neg (by omega)]; rfl)
        · by_cases h5 : n = 512
          · subst h5
            go_wp2
            go_ret
            refine ⟨?_, HW.out⟩
            first | rfl | (rw [if_pos rfl, if_pos (by omega), if_pos rfl]; rfl)
          · have h5' : ((n : Int) == 512) = false := beq_eq_false_iff_ne.2 (by omega)
            go_wp2
            go_ret
            refine ⟨?_, HW.out⟩
            first | rfl | (rw [if_pos rfl, if_pos (by omega), if_neg h5]; rfl)
    · have e1 : (kd == 1) = false := beq_eq_false_iff_ne.2 k1
      go_wp2
      go_ret
      refine ⟨?_, HW.out⟩
      first | rfl | (rw [if_neg k1, if_neg k2]; rfl)
theorem actN_some {L : List ActR} {i : Nat} (h : i < L.length) : L[i]? = some (actN L i) := by
  unfold actN
  rw [List.getD, List.getElem?_eq_getElem h]; rfl
theorem Acts.cellsAt {w : World} {a0 : Option Addr} {L : List ActR} (h : Acts w a0 L) (h0 : 0 < L.length) : ∃ b off, a0 = some ⟨b, off, none⟩ ∧ ∀ i, i < L.length → ActAt w b (off + i * 3) (actN L i) := by
  rcases h.at_ with e | ⟨b, off, e, hc⟩
  · rw [e] at h0; simp at h0
  · exact ⟨b, off, e, fun i hi => hc i _ (actN_some hi)⟩
set_option maxRecDepth 100000 in
set_option maxHeartbeats 2000000 in
/-- does it last? -/
theorem rlasts_any (w : World) (a0 : Option Addr) (n c : Nat) (L : List ActR) (hA : Acts w a0 L) (hn : L.length = n) (i : Nat) (hi : i < n) (ka : Option Addr) (kn kc : Nat) (keep : List Bool) (hk : Bools w (.slice ka kn kc) keep) (hkn : keep.length = kn) (hkb : kn ≤ 1000000000000000) :
    Calls Try.prog 18 #[.slice a0 n c, .int .i64 (i : Int), .slice ka kn kc] w fun e w' => e = .returned (.bool (lastsB L i keep)) ∧ w = w' := by
  have hn4 : n ≤ 3518437208780 := by rw [← hn]; exact hA.len
  obtain ⟨b, off, rfl, hc⟩ := hA.cellsAt (by omega)
  have HC : Hid (∀ i, i < n → ActAt w b (off + i * 3) (actN L i)) := fun j hj => hc j (by omega)
  have HL : Hid (L.length = n) := hn
  have HK : Hid (Bools w (.slice ka kn kc) keep ∧ keep.length = kn) := ⟨hk, hkn⟩
  clear hA hc hn hk hkn
  go_enter Try.func18, Try.ntmps18
  go_wp2
  go_loop [7] (fun s => ∃ j : Nat, s = .int .i64 (j : Int) ∧ i < j ∧ j ≤ n ∧ ∀ q, i < q → q < j → ¬ (actN L q).kind = 2) (fun s => n - (intOf s).toNat)
  case atStart => exact ⟨i + 1, by go_num, by omega, by omega, fun q h1 h2 => by omega⟩
  case round =>
    obtain ⟨j, rfl, hij, hj, hno⟩ := hrel
    have HNo : Hid (∀ q, i < q → q < j → ¬ (actN L q).kind = 2) := hno
    clear hno
    by_cases hlt : j < n
    · have hlt' : (j : Int) < (n : Int) := by omega
      have hf := (HC.out j hlt).f0
      by_cases k2 : (actN L j).kind = 2
      · rw [k2] at hf
        go_wp2
        go_ret
        refine ⟨?_, rfl⟩
        have : lastsB L i keep = true := by
          unfold lastsB
          rw [decide_eq_true (⟨j, by rw [HL.out]; exact hlt, hij, k2⟩ : ∃ j, j < L.length ∧ i < j ∧ (actN L j).kind = 2), Bool.true_or]
        rw [this]; rfl
      · obtain ⟨kd, hkd⟩ : ∃ kd, (actN L j).kind = kd := ⟨_, rfl⟩
        rw [hkd] at hf
        have e2 : (kd == 2) = false := beq_eq_false_iff_ne.2 (by rw [← hkd]; exact k2)
        have HK2 : Hid (¬ (actN L j).kind = 2) := k2
        clear hkd k2
        go_wp2
        go_round
        case rel => exact ⟨j + 1, by go_num, by omega, by omega, fun q h1 h2 => by
          by_cases e : q = j
          · subst e; exact HK2.out
          · exact HNo.out q h1 (by omega)⟩
        case measure => simp [intOf]; omega
    · have hlt' : ¬ ((j : Int) < (n : Int)) := by omega
      have HE : Hid (lastsB L i keep = kpOf keep (numA L i)) := by
        show _ = _
        unfold lastsB
        have : ¬ ∃ j, j < L.length ∧ i < j ∧ (actN L j).kind = 2 := by
          rintro ⟨q, q1, q2, q3⟩
          rw [HL.out] at q1
          exact HNo.out q q2 (by omega) q3
        rw [decide_eq_false this, Bool.false_or]
      go_wp2
      go_loop [8, 9] (fun s8 s9 => ∃ (z u : Nat), u ≤ i ∧ s9 = .int .i64 ((u : Int) - 1) ∧ s8 = .int .i64 (z : Int) ∧ z + u = i ∧ numA L i = z + numA L u) (fun _ s => (intOf s + 1).toNat)
      case atStart => exact ⟨0, i, Nat.le_refl _, rfl, rfl, by omega, by omega⟩
      case round =>
        obtain ⟨z, u, hu, rfl, rfl, hzu, hnum⟩ := hrel
        have HM : Hid (numA L i = z + numA L u) := hnum
        clear hnum
        cases u with
        | zero =>
          have HZ : Hid (numA L i = z) := HM.out
          have hu0 : ((0 : Nat) : Int) - 1 = -1 := by omega
          rw [hu0]
          by_cases hzk : z < kn
          · have hzk' : (z : Int) < (kn : Int) := by omega
            obtain ⟨kb, ko, rfl, hkc⟩ : ∃ kb ko, ka = some ⟨kb, ko, none⟩ ∧ w.cell? ⟨kb, ko + z, none⟩ = some (.bool (kpOf keep z)) := by
              obtain ⟨a', c', e, h | ⟨kb, ko, e2, hc⟩⟩ := HK.out.1
              · have := HK.out.2; rw [h] at this; simp at this; omega
              · cases e
                refine ⟨kb, ko, e2, hc z _ ?_⟩
                rw [List.getElem?_eq_getElem (by rw [HK.out.2]; exact hzk)]
                simp [kpOf, List.getD, List.getElem?_eq_getElem (show z < keep.length by rw [HK.out.2]; exact hzk)]
            obtain ⟨bb, hbb⟩ : ∃ bb, kpOf keep z = bb := ⟨_, rfl⟩
            rw [hbb] at hkc
            go_wp2
            go_ret
            exact ⟨by rw [HE.out, HZ.out, hbb]; rfl, rfl⟩
          · have hzk' : ¬ ((z : Int) < (kn : Int)) := by omega
            have hbb : kpOf keep z = false := by simp [kpOf, List.getD, List.getElem?_eq_none (show keep.length ≤ z by rw [HK.out.2]; omega)]
            go_wp2
            go_ret
            exact ⟨by rw [HE.out, HZ.out, hbb]; rfl, rfl⟩
        | succ u =>
          have hu1 : ((u + 1 : Nat) : Int) - 1 = (u : Int) := by omega
          have hu2 : (0 : Int) ≤ (u : Int) := by omega
          rw [hu1]
          have hf := (HC.out u (by omega)).f0
          by_cases k1 : (actN L u).kind = 1
          · rw [k1] at hf
            have HM2 : Hid (numA L i = (z + 1) + numA L u) := by
              show _ = _
              rw [HM.out, numA, if_pos k1]; omega
            go_wp2
            go_round
            case rel => exact ⟨z + 1, u, by omega, by go_num, by go_num, by omega, HM2.out⟩
            case measure => simp [intOf]
          · obtain ⟨kd, hkd⟩ : ∃ kd, (actN L u).kind = kd := ⟨_, rfl⟩
            rw [hkd] at hf
            have e1 : (kd == 1) = false := beq_eq_false_iff_ne.2 (by rw [← hkd]; exact k1)
            have HZ : Hid (numA L i = z) := by
              show _ = _
              rw [HM.out, numA, if_neg k1]; rfl
            clear hkd k1
            by_cases hzk : z < kn
            · have hzk' : (z : Int) < (kn : Int) := by omega
              obtain ⟨kb, ko, rfl, hkc⟩ : ∃ kb ko, ka = some ⟨kb, ko, none⟩ ∧ w.cell? ⟨kb, ko + z, none⟩ = some (.bool (kpOf keep z)) := by
                obtain ⟨a', c', e, h | ⟨kb, ko, e2, hc⟩⟩ := HK.out.1
                · have := HK.out.2; rw [h] at this; simp at this; omega
                · cases e
                  refine ⟨kb, ko, e2, hc z _ ?_⟩
                  rw [List.getElem?_eq_getElem (by rw [HK.out.2]; exact hzk)]
                  simp [kpOf, List.getD, List.getElem?_eq_getElem (show z < keep.length by rw [HK.out.2]; exact hzk)]
              obtain ⟨bb, hbb⟩ : ∃ bb, kpOf keep z = bb := ⟨_, rfl⟩
              rw [hbb] at hkc
              go_wp2
              go_ret
              exact ⟨by rw [HE.out, HZ.out, hbb]; rfl, rfl⟩
            · have hzk' : ¬ ((z : Int) < (kn : Int)) := by omega
              have hbb : kpOf keep z = false := by simp [kpOf, List.getD, List.getElem?_eq_none (show keep.length ≤ z by rw [HK.out.2]; omega)]
              go_wp2
              go_ret
              exact ⟨by rw [HE.out, HZ.out, hbb]; rfl, rfl⟩
set_option maxRecDepth 100000 in
set_option maxHeartbeats 4000000 in
/-- the document's image -/
theorem rleft_any (w : World) (p : Addr) (ic nb : Nat) (l : List Int) (hb : Bytes w (some p) l) (hl : l.length = 512 * nb) (h0 : 1 ≤ nb) (h1 : nb ≤ 16384) (a0 : Option Addr) (n c : Nat) (L : List ActR) (hA : Acts w a0 L) (hn : L.length = n) (hok : ∀ q ∈ L, actE nb q = 0)
    (ka : Option Addr) (kn kc : Nat) (keep : List Bool) (hk : Bools w (.slice ka kn kc) keep) (hkn : keep.length = kn) (hkb : kn ≤ 1000000000000000) :
    Calls Try.prog 13 #[.slice (some p) (512 * nb : Nat) ic, .slice a0 n c, .slice ka kn kc] w fun e w' => ∃ g cap, e = .returned (.slice (some ⟨g, 0, none⟩) (512 * nb : Nat) cap) ∧ w.heap.size ≤ g ∧ OwnB w' g cap (lft l L keep n) ∧ Below w.heap.size w w' := by
  have hn4 : n ≤ 3518437208780 := by rw [← hn]; exact hA.len
  have cC := copied_any w p (512 * nb) ic l hb hl (by omega) (by omega)
  obtain ⟨N, hN⟩ : ∃ N, 512 * nb = N := ⟨_, rfl⟩
  rw [hN] at cC hl ⊢
  have HA : Hid (Acts w a0 L ∧ L.length = n ∧ (∀ q ∈ L, actE nb q = 0) ∧ Bools w (.slice ka kn kc) keep ∧ keep.length = kn ∧ l.length = N ∧ 512 * nb = N) := ⟨hA, hn, hok, hk, hkn, hl, hN⟩
  have hNb : N ≤ 8388608 := by omega
  clear hb hl hA hn hok hk hkn hN
  go_enter Try.func13, Try.ntmps13
  go_upto_region 2 with (go_at_call 17; refine cC.mono ?_; rintro e w1 ⟨g, cap, rfl, hg, ho, hb1⟩; have H1 : Hid (w.heap.size ≤ g ∧ OwnB w1 g cap l ∧ Below w.heap.size w w1) := ⟨hg, ho, hb1⟩; clear hg ho hb1)
  go_wp2
  go_loopw [8] (fun s wr => ∃ i : Nat, s = .int .i64 (i : Int) ∧ i ≤ n ∧ OwnB wr g cap (lft l L keep i) ∧ (lft l L keep i).length = N ∧ Below w.heap.size w wr) (fun s _ => n - (intOf s).toNat)
  case atStart => exact ⟨0, rfl, Nat.zero_le _, H1.out.2.1, HA.out.2.2.2.2.2.1, H1.out.2.2⟩
  case round =>
    obtain ⟨i, rfl, hi, hox, hlx, hbw⟩ := hrel
    have HR : Hid (OwnB wr g cap (lft l L keep i) ∧ (lft l L keep i).length = N ∧ Below w.heap.size w wr) := ⟨hox, hlx, hbw⟩
    clear hox hlx hbw
    by_cases hlt : i < n
    · have hlt' : (i : Int) < (n : Int) := by omega
      obtain ⟨b, off, rfl, hc⟩ := (HA.out.1.on HR.out.2.2).cellsAt (by rw [HA.out.2.1]; omega)
      have hq := hc i (by rw [HA.out.2.1]; exact hlt)
      have hmem : actN L i ∈ L := List.mem_of_getElem? (actN_some (by rw [HA.out.2.1]; exact hlt))
      have he := HA.out.2.2.1 _ hmem
      have hby := (HA.out.1.on HR.out.2.2).each _ hmem
      obtain ⟨q, hqe⟩ : ∃ q, actN L i = q := ⟨_, rfl⟩
      rw [hqe] at hq he hby
      have HQ : Hid (actN L i = q) := hqe
      clear hc hmem hqe
      have f0 := hq.f0
      have f1 := hq.f1
      have f2 := hq.f2
      clear hq
      obtain ⟨kd, qb, qa, qc, qx⟩ := q
      dsimp only at f0 f1 f2 hby
      have HW2 : Hid (Below w.heap.size w (wr.alloc (.cells #[.int .i64 kd, .int .i64 qb, .slice qa qx.length qc] 36)) ∧ OwnB (wr.alloc (.cells #[.int .i64 kd, .int .i64 qb, .slice qa qx.length qc] 36)) g cap (lft l L keep i)) := ⟨HR.out.2.2.alloc HR.out.2.2.size _, HR.out.1.on ((Below.refl _ _).alloc (Nat.le_refl _) _)⟩
      by_cases k1 : kd = 1
      · subst k1
        obtain ⟨hqb, hqx⟩ : (0 ≤ qb ∧ qb < (nb : Int)) ∧ qx.length = 512 := by
          unfold actE at he
          dsimp only at he
          rw [if_pos rfl] at he
          by_cases h1 : 0 ≤ qb ∧ qb < (nb : Int)
          · rw [if_pos h1] at he
            by_cases h2 : qx.length = 512
            · exact ⟨h1, h2⟩
            · rw [if_neg h2] at he; omega
          · rw [if_neg h1] at he; omega
        obtain ⟨bn, rfl⟩ : ∃ bn : Nat, qb = (bn : Int) := ⟨qb.toNat, by omega⟩
        obtain ⟨wq, hwq⟩ : ∃ wq, wr.alloc (.cells #[.int .i64 1, .int .i64 (bn : Int), .slice qa qx.length qc] 36) = wq := ⟨_, rfl⟩
        obtain ⟨B2, hB2⟩ : ∃ B2, wr.heap.size = B2 := ⟨_, rfl⟩
        rw [hwq] at HW2
        have hrow : wq.heap[B2]? = some (.cells #[.int .i64 1, .int .i64 (bn : Int), .slice qa 512 qc] 36 (0, 0)) := by rw [← hwq, ← hB2, hqx]; exact heap_alloc_new _ _
        have HRow : Hid (wq.heap[B2]? = some (.cells #[.int .i64 1, .int .i64 (bn : Int), .slice qa 512 qc] 36 (0, 0)) ∧ g ≠ B2) := ⟨hrow, by have := HR.out.1.lt; omega⟩
        have g0 : wq.cell? ⟨B2, 0, none⟩ = some (.int .i64 1) := by rw [cell_of_row _ _ _ _ _ _ hrow]; rfl
        have HBy : Hid (Bytes w qa qx ∨ True) := .inr trivial
        have hbyq : Bytes wq qa qx := by rw [← hwq]; exact hby.on ((Below.refl _ _).alloc (Nat.le_refl _) _)
        have hqlt : ∀ p, qa = some p → p.block < w.heap.size := fun p hp => by
          have hm : actN L i ∈ L := List.mem_of_getElem? (actN_some (by rw [HA.out.2.1]; exact hlt))
          have h1 := HA.out.1.each _ hm
          rw [HQ.out] at h1
          rcases h1.at_ with e | ⟨b', o', e, hc⟩
          · have e : qx = [] := e
            rw [e] at hqx; simp at hqx
          · have e : qa = some ⟨b', o', none⟩ := e
            rw [hp] at e
            cases e
            exact block_lt_of_cell (hc 0 (by show 0 < qx.length; omega))
        have HBq : Hid (∀ wx, Below w.heap.size w wx → Bytes wx qa qx) := fun wx hx => by
          have hm : actN L i ∈ L := List.mem_of_getElem? (actN_some (by rw [HA.out.2.1]; exact hlt))
          have h1 := HA.out.1.each _ hm
          rw [HQ.out] at h1
          exact h1.on hx
        have cLa := rlasts_any wq (some ⟨b, off, none⟩) n c L (HA.out.1.on HW2.out.1) HA.out.2.1 i hlt ka kn kc keep (by
          obtain ⟨a', c', e, h⟩ := HA.out.2.2.2.1
          refine ⟨a', c', e, h.imp id ?_⟩
          rintro ⟨kb, ko, e2, hc⟩
          exact ⟨kb, ko, e2, fun j x hj => (below_fr HW2.out.1 (fun _ => False)).cell (hc j x hj) (fun e => e)⟩) HA.out.2.2.2.2.1 hkb
        rw [hqx] at f2
        clear hby hbyq hqlt HBy hrow he
        obtain ⟨ok, hoke⟩ : ∃ ok, lastsB L i keep = ok := ⟨_, rfl⟩
        rw [hoke] at cLa
        have HK2 : Hid (lastsB L i keep = ok ∧ qx.length = 512) := ⟨hoke, hqx⟩
        rw [hqx] at hwq
        clear hoke hqx
        cases ok with
        | false =>
          have HX : Hid (lft l L keep (i + 1) = lft l L keep i) := by
            show _ = _
            rw [lft, if_neg (fun h => by rw [HK2.out.1] at h; exact absurd h.2 (by decide))]
          go_wp2_with (go_at_call 18; refine cLa.mono ?_; rintro e w' ⟨rfl, rfl⟩)
          go_loopw [11] (fun s w2 => s = .int .i64 0 ∧ wq = w2) (fun _ _ => 0)
          case atStart => exact ⟨rfl, rfl⟩
          case round =>
            obtain ⟨rfl, rfl⟩ := hrel
            go_wp2
            go_round
            case rel => exact ⟨i + 1, by go_num, by omega, by rw [HX.out]; exact HW2.out.2, by rw [HX.out]; exact HR.out.2.1, HW2.out.1⟩
            case measure => simp [intOf]; omega
        | true =>
          obtain ⟨X, hX⟩ : ∃ X, lft l L keep i = X := ⟨_, rfl⟩
          have HX : Hid (lft l L keep (i + 1) = ov X (512 * bn) 512 (nth qx) ∧ X.length = N) := by
            refine ⟨?_, by rw [← hX]; exact HR.out.2.1⟩
            rw [lft, if_pos ⟨by rw [HQ.out], HK2.out.1⟩, HQ.out, hX]
            rfl
          have hbN : 512 * bn + 512 ≤ N := by have := HA.out.2.2.2.2.2.2; omega
          rw [hX] at HW2
          clear hX
          go_wp2_with (go_at_call 18; refine cLa.mono ?_; rintro e w' ⟨rfl, rfl⟩)
          go_loopw [11] (fun s w2 => ∃ k : Nat, s = .int .i64 (k : Int) ∧ k ≤ 512 ∧ OwnB w2 g cap (ov X (512 * bn) k (nth qx)) ∧ Below w.heap.size w w2 ∧ w2.heap[B2]? = some (.cells #[.int .i64 1, .int .i64 (bn : Int), .slice qa 512 qc] 36 (0, 0))) (fun s _ => 512 - (intOf s).toNat)
          case atStart => exact ⟨0, rfl, by omega, by rw [ov_zero]; exact HW2.out.2, HW2.out.1, HRow.out.1⟩
          case round =>
            obtain ⟨k, rfl, hk5, hox, hbx, hrx⟩ := hrel
            have HI : Hid (OwnB wr g cap (ov X (512 * bn) k (nth qx)) ∧ Below w.heap.size w wr ∧ wr.heap[B2]? = some (.cells #[.int .i64 1, .int .i64 (bn : Int), .slice qa 512 qc] 36 (0, 0))) := ⟨hox, hbx, hrx⟩
            have m1 : wr.cell? ⟨B2, 1, none⟩ = some (.int .i64 (bn : Int)) := by rw [cell_of_row _ _ _ _ _ _ hrx]; rfl
            have m2 : wr.cell? ⟨B2, 2, none⟩ = some (.slice qa 512 qc) := by rw [cell_of_row _ _ _ _ _ _ hrx]; rfl
            clear hox hbx hrx
            by_cases hk : k < 512
            · have hk' : (k : Int) < 512 := by omega
              obtain ⟨vb, vo, rfl, hcv⟩ : ∃ vb vo, qa = some ⟨vb, vo, none⟩ ∧ wr.cell? ⟨vb, vo + k, none⟩ = some (.int .u8 (nth qx k)) := by
                rcases (HBq.out wr HI.out.2.1).at_ with e | ⟨vb, vo, e, hc⟩
                · have := HK2.out.2; rw [e] at this; simp at this
                · exact ⟨vb, vo, e, hc k (by rw [HK2.out.2]; exact hk)⟩
              have hvb := (HBq.out wr HI.out.2.1).wf k
              have hct := HI.out.1.cell (512 * bn + k) (by rw [ov_length, HX.out.2]; omega)
              have hft := HI.out.1.frozen (512 * bn + k)
              obtain ⟨T, hT⟩ : ∃ T, 512 * bn + k = T := ⟨_, rfl⟩
              rw [hT] at hct hft
              have hTi : (bn : Int) * 512 + (k : Int) = (T : Int) := by omega
              have hwb : IntKind.i64.wrap ((bn : Int) * 512) = (bn : Int) * 512 := by rw [IntKind.wrap_i64]; omega
              have hwT : IntKind.i64.wrap (T : Int) = (T : Int) := by rw [IntKind.wrap_i64]; omega
              have hTN : T < N := by omega
              have hTN' : (T : Int) < (N : Int) := by omega
              obtain ⟨v, hv⟩ : ∃ v, nth qx k = v := ⟨_, rfl⟩
              obtain ⟨u, hu⟩ : ∃ u, nth (ov X (512 * bn) k (nth qx)) T = u := ⟨_, rfl⟩
              rw [hv] at hcv hvb
              rw [hu] at hct
              have HV : Hid (nth qx k = v ∧ 512 * bn + k = T) := ⟨hv, hT⟩
              clear hv hu hT
              go_upto_region 11 with (fail)
              go_region_with (fail)
              all_goals (try go_wp2)
              all_goals
                have o2 := (HI.out.1.set T v (by rw [ov_length, HX.out.2]; exact hTN) hvb)
                rw [← HV.out.2, ← HV.out.1, ov_set _ _ _ _ (by rw [HX.out.2]; omega), HV.out.2, HV.out.1] at o2
                have d1 : ∀ W : World, Below W.heap.size W W.drew := fun W => (Below.refl _ _).drew
                refine ⟨⟨k + 1, by go_num, by omega, o2.on (d1 _), ((HI.out.2.1.setCell (p := ⟨g, T, none⟩) H1.out.1 _)).drew, ?_⟩, by simp [intOf]; omega⟩
                exact (Below.heap_setCell wr ⟨g, T, none⟩ (.int .u8 v) B2 (fun e => HRow.out.2 e.symm)).trans HI.out.2.2
            · have hk' : ¬ ((k : Int) < 512) := by omega
              obtain rfl : k = 512 := by omega
              go_wp2
              go_round
              case rel => exact ⟨i + 1, by go_num, by omega, by rw [HX.out.1]; exact HI.out.1, by rw [HX.out.1, ov_length]; exact HX.out.2, HI.out.2.1⟩
              case measure => simp [intOf]; omega
      · have e1 : (kd == 1) = false := beq_eq_false_iff_ne.2 k1
        have HX : Hid (lft l L keep (i + 1) = lft l L keep i) := by
          show _ = _
          rw [lft, HQ.out, if_neg (fun h => k1 h.1)]
        go_wp2
        go_round
        case rel => exact ⟨i + 1, by go_num, by omega, by rw [HX.out]; exact HW2.out.2, by rw [HX.out]; exact HR.out.2.1, HW2.out.1⟩
        case measure => simp [intOf]; omega
    · have hlt' : ¬ ((i : Int) < (n : Int)) := by omega
      obtain rfl : i = n := by omega
      go_wp2
      go_ret
      exact ⟨g, cap, rfl, H1.out.1, HR.out.1, HR.out.2.2⟩
/-- the first act that may not be -/
def firstE (nb : Nat) (L : List ActR) : Nat → Int
  | 0 => 0
  | k + 1 => if firstE nb L k = 0 then actE nb (actN L k) else firstE nb L k
theorem firstE_zero (nb : Nat) (L : List ActR) (k : Nat) : firstE nb L k = 0 ↔ ∀ i, i < k → actE nb (actN L i) = 0 := by
  induction k with
  | zero => exact ⟨fun _ i hi => by omega, fun _ => rfl⟩
  | succ k ih =>
    rw [firstE]
    by_cases c : firstE nb L k = 0
    · rw [if_pos c]
      refine ⟨fun h i hi => ?_, fun h => h k (by omega)⟩
      by_cases e : i = k
      · subst e; exact h
      · exact ih.1 c i (by omega)
    · rw [if_neg c]
      exact ⟨fun h => absurd h c, fun h => absurd (ih.2 (fun i hi => h i (by omega))) c⟩
theorem firstE_stays (nb : Nat) (L : List ActR) (k m : Nat) (h : firstE nb L k ≠ 0) (hm : k ≤ m) : firstE nb L m = firstE nb L k := by
  induction m with
  | zero => obtain rfl : k = 0 := by omega
            rfl
  | succ m ih =>
    by_cases e : k = m + 1
    · subst e; rfl
    · have := ih (by omega)
      rw [firstE, if_neg (by rw [this]; exact h), this]
end Go.Proofs.Ytcjfgffkkjekoaa

namespace Go.Proofs.Ytcjfgffkkjekoaa
open Go.RowKit Rec

theorem rafter_bad (w : World) (a : Option Addr) (n c : Nat) (hn : n ≤ 9223372036854775807) (h : n % 512 ≠ 0 ∨ isz ((n / 512 : Nat) : Int) = false) (a0 : Option Addr) (m mc : Nat) (ka : Option Addr) (kn kc : Nat) :
    Calls Try.prog 4 #[.slice a n c, .slice a0 m mc, .slice ka kn kc] w fun e w' => e = .returned (.tuple #[.slice none 0 0, .int .i64 32]) ∧ w = w' := by
  have cO := of_no w a n c hn h
  clear h
  go_enter Try.func4, Try.ntmps4
  go_wp2_with (go_at_call 11; refine cO.mono ?_; rintro e w' ⟨rfl, rfl⟩)
  go_ret2
  exact ⟨rfl, rfl⟩
set_option maxRecDepth 100000 in
set_option maxHeartbeats 4000000 in
theorem rafter_any (w : World) (p : Addr) (ic nb : Nat) (l : List Int) (hb : Bytes w (some p) l) (hl : l.length = 512 * nb) (h0 : 1 ≤ nb) (h1 : nb ≤ 16384) (a0 : Option Addr) (n c : Nat) (L : List ActR) (hA : Acts w a0 L) (hn : L.length = n)
    (ka : Option Addr) (kn kc : Nat) (keep : List Bool) (hk : Bools w (.slice ka kn kc) keep) (hkn : keep.length = kn) (hkb : kn ≤ 1000000000000000) :
    Calls Try.prog 4 #[.slice (some p) (512 * nb : Nat) ic, .slice a0 n c, .slice ka kn kc] w fun e w' => Below w.heap.size w w' ∧ ((firstE nb L n ≠ 0 ∧ e = .returned (.tuple #[.slice none 0 0, .int .i64 (firstE nb L n)])) ∨ (firstE nb L n = 0 ∧ ∃ g cap, e = .returned (.tuple #[.slice (some ⟨g, 0, none⟩) (512 * nb : Nat) cap, .int .i64 0]) ∧ w.heap.size ≤ g ∧ OwnB w' g cap (lft l L keep n))) := by
  have hn4 : n ≤ 3518437208780 := by rw [← hn]; exact hA.len
  have cO := of_yes w p ic nb l hb hl h0 h1
  obtain ⟨N, hN⟩ : ∃ N, 512 * nb = N := ⟨_, rfl⟩
  have hNq : (N : Int) / 512 = (nb : Int) := by omega
  have hNb : N ≤ 8388608 := by omega
  have HA : Hid (Acts w a0 L ∧ L.length = n ∧ Bools w (.slice ka kn kc) keep ∧ keep.length = kn ∧ l.length = 512 * nb ∧ 512 * nb = N ∧ Bytes w (some p) l) := ⟨hA, hn, hk, hkn, hl, hN, hb⟩
  rw [hN] at cO ⊢
  clear hb hl hA hn hk hkn hN
  go_enter Try.func4, Try.ntmps4
  go_upto_region 4 with (go_at_call 11; refine cO.mono ?_; rintro e w1 ⟨r, g1, cap1, rfl, _, hR1, hb1⟩; have H1 : Hid (Below w.heap.size w w1) := hb1; clear hR1 hb1)
  go_wp2
  go_loopw [10] (fun s wr => ∃ i : Nat, s = .int .i64 (i : Int) ∧ i ≤ n ∧ firstE nb L i = 0 ∧ Below w.heap.size w wr) (fun s _ => n - (intOf s).toNat)
  case atStart => exact ⟨0, rfl, Nat.zero_le _, rfl, H1.out⟩
  case round =>
    obtain ⟨i, rfl, hi, hf, hbw⟩ := hrel
    have HR : Hid (firstE nb L i = 0 ∧ Below w.heap.size w wr) := ⟨hf, hbw⟩
    clear hf hbw
    by_cases hlt : i < n
    · have hlt' : (i : Int) < (n : Int) := by omega
      obtain ⟨b, off, rfl, hc⟩ := (HA.out.1.on HR.out.2).cellsAt (by rw [HA.out.2.1]; omega)
      have hq := hc i (by rw [HA.out.2.1]; exact hlt)
      have hmem : actN L i ∈ L := List.mem_of_getElem? (actN_some (by rw [HA.out.2.1]; exact hlt))
      have hxl := (HA.out.1.each _ hmem).len
      have HS : Hid (firstE nb L (i + 1) = actE nb (actN L i)) := by
        show _ = _
        rw [firstE, if_pos HR.out.1]
      obtain ⟨q, hqe⟩ : ∃ q, actN L i = q := ⟨_, rfl⟩
      rw [hqe] at hq hxl HS
      have cF := fun W => rfault_any W nb q h1 hxl
      have f0 := hq.f0
      have f1 := hq.f1
      have f2 := hq.f2
      clear hq hc hmem hqe
      obtain ⟨e, he⟩ : ∃ e, actE nb q = e := ⟨_, rfl⟩
      rw [he] at cF HS
      clear he
      by_cases e0 : e = 0
      · subst e0
        go_wp2_with (go_at_call 12; refine (cF _).mono ?_; rintro e w2 ⟨rfl, hb2⟩; have H2 : Hid (Below wr.heap.size wr w2) := hb2; clear hb2)
        go_round
        case rel => exact ⟨i + 1, by go_num, by omega, HS.out, HR.out.2.trans (H2.out.mono HR.out.2.size)⟩
        case measure => simp [intOf]; omega
      · have e0' : (e == 0) = false := beq_eq_false_iff_ne.2 e0
        have HF : Hid (firstE nb L n = e ∧ ¬ e = 0) := ⟨by rw [firstE_stays nb L (i + 1) n (by rw [HS.out]; exact e0) (by omega)]; exact HS.out, e0⟩
        clear e0
        go_wp2_with (go_at_call 12; refine (cF _).mono ?_; rintro e w2 ⟨rfl, hb2⟩; have H2 : Hid (Below wr.heap.size wr w2) := hb2; clear hb2)
        go_ret2
        exact ⟨HR.out.2.trans (H2.out.mono HR.out.2.size), .inl ⟨by rw [HF.out.1]; exact HF.out.2, by rw [HF.out.1]; rfl⟩⟩
    · have hlt' : ¬ ((i : Int) < (n : Int)) := by omega
      obtain rfl : i = n := by omega
      have cL := rleft_any wr p ic nb l (HA.out.2.2.2.2.2.2.on HR.out.2) HA.out.2.2.2.2.1 h0 h1 a0 i c L (HA.out.1.on HR.out.2) HA.out.2.1 (fun q hq => by
        obtain ⟨j, hj, rfl⟩ := List.getElem_of_mem hq
        have h2 := (firstE_zero nb L i).1 HR.out.1 j (by rw [← HA.out.2.1]; exact hj)
        have h3 := actN_some hj
        rw [List.getElem?_eq_getElem hj] at h3
        rw [Option.some.inj h3]; exact h2) ka kn kc keep (by
        obtain ⟨a', c', e, h⟩ := HA.out.2.2.1
        refine ⟨a', c', e, h.imp id ?_⟩
        rintro ⟨kb, ko, e2, hc⟩
        exact ⟨kb, ko, e2, fun j x hj => (below_fr HR.out.2 (fun _ => False)).cell (hc j x hj) (fun e => e)⟩) HA.out.2.2.2.1 hkb
      rw [HA.out.2.2.2.2.2.1] at cL
      go_wp2_with (go_at_call 13; refine cL.mono ?_; rintro e w2 ⟨g, cap, rfl, hg, ho, hb2⟩; have H2 : Hid (wr.heap.size ≤ g ∧ OwnB w2 g cap (lft l L keep i) ∧ Below wr.heap.size wr w2) := ⟨hg, ho, hb2⟩; clear hg ho hb2)
      go_ret2
      exact ⟨HR.out.2.trans (H2.out.2.2.mono HR.out.2.size), .inr ⟨HR.out.1, g, cap, rfl, Nat.le_trans HR.out.2.size H2.out.1, H2.out.2.1⟩⟩
end Go.Proofs.Ytcjfgffkkjekoaa

namespace Go.Proofs.Ytcjfgffkkjekoaa
open Go.RowKit Rec

set_option maxRecDepth 100000 in
set_option maxHeartbeats 1600000 in
/-- an act that may not be -/
theorem take_err (w : World) (D : Dk) (h : Disk w D) (q : ActR) (m : Nat) (hnb : D.nb = m) (hdn : D.down = false) (he : actE m q ≠ 0) :
    Calls Try.prog 15 #[.pointer (some ⟨D.d, 0, none⟩), .agg #[.int .i64 q.kind, .int .i64 q.b, .slice q.a q.x.length q.c]] w fun e w' => e = .returned (.int .i64 (actE m q)) ∧ Below w.heap.size w w' := by
  obtain ⟨wa, hwa⟩ : ∃ wa, w.alloc (.cells #[.int .i64 q.kind, .int .i64 q.b, .slice q.a q.x.length q.c] 36) = wa := ⟨_, rfl⟩
  have hbw : Below w.heap.size w wa := by rw [← hwa]; exact (Below.refl _ _).alloc (Nat.le_refl _) _
  have hrow : wa.heap[w.heap.size]? = some (.cells #[.int .i64 q.kind, .int .i64 q.b, .slice q.a q.x.length q.c] 36 (0, 0)) := by rw [← hwa]; exact heap_alloc_new _ _
  have S0 : wa.cell? ⟨w.heap.size, 0, none⟩ = some (.int .i64 q.kind) := by rw [cell_of_row _ _ _ _ _ _ hrow]; rfl
  have S1 : wa.cell? ⟨w.heap.size, 1, none⟩ = some (.int .i64 q.b) := by rw [cell_of_row _ _ _ _ _ _ hrow]; rfl
  have S2 : wa.cell? ⟨w.heap.size, 2, none⟩ = some (.slice q.a q.x.length q.c) := by rw [cell_of_row _ _ _ _ _ _ hrow]; rfl
  have HD : Hid (Disk wa D ∧ Below w.heap.size w wa) := ⟨h.on hbw, hbw⟩
  clear h hbw hrow
  obtain ⟨kd, b, a, c, x⟩ := q
  dsimp only at S0 S1 S2 hwa ⊢
  have hE : actE m ⟨kd, b, a, c, x⟩ = if kd = 1 then (if 0 ≤ b ∧ b < m then (if x.length = 512 then 0 else 32) else 31) else if kd = 2 then 0 else 1 := rfl
  rw [hE] at he ⊢
  clear hE
  have htE : touchE D b = if 0 ≤ b ∧ b < (m : Int) then 0 else 31 := by rw [abs_touch]; unfold AD.touchE; show (if D.down = true then _ else if 0 ≤ b ∧ b < (D.nb : Int) then _ else _) = _; rw [hdn, hnb]; rfl
  go_enter Try.func15, Try.ntmps15
  by_cases k1 : kd = 1
  · subst k1
    rw [if_pos rfl] at he ⊢
    by_cases hb2 : 0 ≤ b ∧ b < (m : Int)
    · rw [if_pos hb2] at he htE ⊢
      by_cases hx5 : x.length = 512
      · rw [if_pos hx5] at he; exact absurd rfl he
      · rw [if_neg hx5]
        have cW := write_size wa D HD.out.1 b a x.length c htE hx5
        clear he hb2 htE
        go_wp2_with (go_at_call 22; refine cW.mono ?_; rintro e w' ⟨rfl, rfl⟩)
        go_ret
        exact ⟨rfl, HD.out.2⟩
    · rw [if_neg hb2] at htE ⊢
      have cW := write_no wa D HD.out.1 b a x.length c (by rw [htE]; decide)
      rw [htE] at cW
      clear he hb2 htE
      go_wp2_with (go_at_call 22; refine cW.mono ?_; rintro e w' ⟨rfl, rfl⟩)
      go_ret
      exact ⟨rfl, HD.out.2⟩
  · rw [if_neg k1] at he ⊢
    by_cases k2 : kd = 2
    · rw [if_pos k2] at he; exact absurd rfl he
    · rw [if_neg k2]
      have e1 : (kd == 1) = false := beq_eq_false_iff_ne.2 k1
      have e2 : (kd == 2) = false := beq_eq_false_iff_ne.2 k2
      clear he htE
      go_wp2
      go_ret
      exact ⟨rfl, HD.out.2⟩
set_option maxRecDepth 100000 in
set_option maxHeartbeats 4000000 in
theorem after_err (w : World) (p : Addr) (c nb : Nat) (l : List Int) (a0 : Option Addr) (ac : Nat) (L : List ActR) (kv : Value) (keep : List Bool) (hb : Bytes w (some p) l) (hl : l.length = 512 * nb) (h0 : 1 ≤ nb) (h1 : nb ≤ 16384)
    (hA : Acts w a0 L) (hF : firstE nb L L.length ≠ 0) (hK : Bools w kv keep) :
    Calls Try.prog 8 #[.slice (some p) (512 * nb : Nat) c, .slice a0 L.length ac, kv] w fun e w' => e = .returned (.tuple #[.slice none 0 0, .int .i64 (firstE nb L L.length)]) ∧ Below w.heap.size w w' := by
  have hll := hA.len
  have HB : Hid (Bytes w (some p) l) := hb
  have HL : Hid (l.length = 512 * nb) := hl
  have HA : Hid (Acts w a0 L ∧ firstE nb L L.length ≠ 0) := ⟨hA, hF⟩
  clear hb hl hA hF
  obtain ⟨ka, kc, rfl, hkk⟩ := hK
  clear hkk
  go_enter Try.func8, Try.ntmps8
  go_wp2_with (go_at_call 14; refine (open_yes _ p c nb l HB.out HL.out h0 h1).mono ?_; rintro e w1 ⟨d, nw, L0, capL, rfl, q1, q2, q3, hD, hb1⟩; have HW : Hid (AfW w w1 d nb l L 0 (newDk d L0 nw capL nb l)) := ⟨hD, rfl, ⟨rfl, HL.out, Nat.le_refl _, Nat.le_refl _, Nat.le_refl _, Nat.le_refl _, rfl, rfl, rfl⟩, rfl, (by rintro j (e | e | e | e | e) <;> first | (cases e; done) | (have e : j = d := e; omega) | (have e : j = L0 := e; omega) | (have e : j = nw := e; omega)), hb1⟩; clear hD hb1)
  go_loopw [11, 12, 23, 24, 25, 26, 27, 28, 29, 30, 31, 32, 33] (fun _ _ i _ _ _ _ _ _ _ _ _ _ wr => ∃ k : Nat, k ≤ L.length ∧ i = .int .i64 k ∧ firstE nb L k = 0 ∧ ∃ D, AfW w wr d nb l L k D) (fun _ _ i _ _ _ _ _ _ _ _ _ _ _ => L.length - (intOf i).toNat)
  case atStart => exact ⟨0, Nat.zero_le _, rfl, rfl, _, HW.out⟩
  case round =>
    obtain ⟨k, hk, rfl, hfk, D, hW⟩ := hrel
    have HFk : Hid (firstE nb L k = 0) := hfk
    clear hfk
    have hdd := hW.dd
    subst hdd
    clear HW
    have HW : Hid (AfW w wr D.d nb l L k D) := hW
    clear hW
    by_cases hlt : k < L.length
    · have hPr := HA.out.1.on HW.out.bel
      obtain ⟨b, off, rfl, hc⟩ := hPr.at_.resolve_left (by intro e; rw [e] at hlt; simp at hlt)
      obtain ⟨q, hq⟩ : ∃ q, L[k]? = some q := ⟨L[k], by simp [hlt]⟩
      have hqm := List.mem_of_getElem? hq
      obtain ⟨c0, c1, c2⟩ := hc k q hq
      have HGq : Hid (actN L k = q) := by show _ = _; simp [actN, List.getD, hq]
      by_cases hqe : actE nb q = 0
      · have HF1 : Hid (firstE nb L (k + 1) = 0) := by show _ = _; rw [firstE, if_pos HFk.out, HGq.out]; exact hqe
        have HAl : Hid (Below wr.heap.size wr (wr.alloc (.cells #[.int .i64 q.kind, .int .i64 q.b, .slice q.a q.x.length q.c] 36))) := (Below.refl _ _).alloc (Nat.le_refl _) _
        have HG : Hid (L.getD k ⟨0, 0, none, 0, []⟩ = q) := by show _ = _; simp [List.getD, hq]
        have HT : Hid (Calls Try.prog 15 #[.pointer (some ⟨D.d, 0, none⟩), .agg #[.int .i64 q.kind, .int .i64 q.b, .slice q.a q.x.length q.c]] (wr.alloc (.cells #[.int .i64 q.kind, .int .i64 q.b, .slice q.a q.x.length q.c] 36)) fun e w' => e = .returned (.int .i64 0) ∧ ∃ D', AfW w w' D.d nb l L (k + 1) D') := by
          have hx := HW.out.on HAl.out
          refine (take_ok _ D hx.disk q nb k hx.la (by omega) hqe ((HA.out.1.each q hqm).on hx.bel) (fun hne p hp e => ?_)).mono ?_
          · have h1 := hx.core _ e
            have h2 := HA.out.1.each q hqm
            rw [hp] at h2
            rcases h2.at_ with e2 | ⟨b', off', e2, hc'⟩
            · exact hne e2
            · cases e2
              have := block_lt_of_cell (hc' 0 (by cases hqx : q.x with | nil => exact absurd hqx hne | cons _ _ => simp))
              have h1 : w.heap.size ≤ b' := h1
              have this : b' < w.heap.size := this
              omega
          · rintro e w' ⟨rfl, D', z1, z2, _, z4⟩
            refine ⟨rfl, D', z1, ?_, by rw [z4]; exact hx.la.take q hqe, z2.d, (z2.below w.heap.size hx.bel.size hx.core).2, hx.bel.trans (z2.below w.heap.size hx.bel.size hx.core).1⟩
            rw [z4, hx.ab, AD.takes, HG.out]
        clear hPr hc hq hqm hqe
        go_wp2_with (go_at_call 15; refine HT.out.mono ?_; rintro e w2 ⟨rfl, hz⟩; have H2 : Hid (∃ D', AfW w w2 D.d nb l L (k + 1) D') := hz; clear hz)
        exact ⟨⟨k + 1, hlt, rfl, HF1.out, H2.out⟩, by simp [intOf]; omega⟩
      · have HAl : Hid (Below wr.heap.size wr (wr.alloc (.cells #[.int .i64 q.kind, .int .i64 q.b, .slice q.a q.x.length q.c] 36))) := (Below.refl _ _).alloc (Nat.le_refl _) _
        have HFn : Hid (firstE nb L L.length = actE nb q) := by
          have h2 : firstE nb L (k + 1) = actE nb q := by rw [firstE, if_pos HFk.out, HGq.out]
          show _ = _
          rw [firstE_stays nb L (k + 1) L.length (by rw [h2]; exact hqe) (by omega), h2]
        have hx := HW.out.on HAl.out
        have cT := take_err _ D hx.disk q nb hx.la.nb hx.la.down hqe
        have HBx : Hid (Below w.heap.size w (wr.alloc (.cells #[.int .i64 q.kind, .int .i64 q.b, .slice q.a q.x.length q.c] 36))) := hx.bel
        obtain ⟨e, hee⟩ : ∃ e, actE nb q = e := ⟨_, rfl⟩
        rw [hee] at cT hqe HFn
        have e0' : (e == 0) = false := beq_eq_false_iff_ne.2 hqe
        clear hPr hc hq hqm hx hee hqe
        go_wp2_with (go_at_call 15; refine cT.mono ?_; rintro e2 w2 ⟨rfl, hb2⟩; have H2 : Hid (Below w.heap.size w w2) := HBx.out.trans (hb2.mono HBx.out.size); clear hb2)
        go_ret2
        exact ⟨by rw [HFn.out]; rfl, H2.out⟩
    · exfalso
      obtain rfl : k = L.length := by omega
      exact HA.out.2 HFk.out
theorem after_bad (w : World) (a : Option Addr) (n c : Nat) (hn : n ≤ 9223372036854775807) (h : n % 512 ≠ 0 ∨ isz ((n / 512 : Nat) : Int) = false) (a0 : Option Addr) (m mc : Nat) (ka : Option Addr) (kn kc : Nat) :
    Calls Try.prog 8 #[.slice a n c, .slice a0 m mc, .slice ka kn kc] w fun e w' => e = .returned (.tuple #[.slice none 0 0, .int .i64 32]) ∧ w = w' := by
  have cO := open_no w a n c hn h
  clear h
  go_enter Try.func8, Try.ntmps8
  go_wp2_with (go_at_call 14; refine cO.mono ?_; rintro e w' ⟨rfl, rfl⟩)
  go_ret2
  exact ⟨rfl, rfl⟩
/-- what After answers: the image, or nothing and an error -/
def aftE (nb : Nat) (n : Nat) (L : List ActR) : Int := if n % 512 = 0 ∧ isz ((n / 512 : Nat) : Int) = true then firstE nb L L.length else 32
end Go.Proofs.Ytcjfgffkkjekoaa

namespace Go.Proofs.Ytcjfgffkkjekoaa
open Go.RowKit Rec

theorem infoBo : (Try.prog.info? 4).map (fun i => (i.zero, i.size, i.bytes)) = some (some (.bool false), 1, 1) := by kernel_rfl
/-- bools in a row of one's own -/
def OwnZ (w : World) (g cap : Nat) (l : List Bool) : Prop := w.ownsRow 0 4 1 (.slice (some ⟨g, 0, none⟩) l.length cap) l.length (l.map Value.bool)
theorem OwnZ.cell {w : World} {g cap : Nat} {l : List Bool} (h : OwnZ w g cap l) (i : Nat) (hi : i < l.length) : w.cell? ⟨g, i, none⟩ = some (.bool (l.getD i false)) := by
  rcases h.2 with ⟨e, _⟩ | ⟨g', cap', cur, e, _, hg, _, _, _, h5⟩
  · cases e
  · cases e
    rw [cell_of_row _ _ _ _ _ _ hg]
    have h6 : (l.map Value.bool)[i]? = cur.toList[i]? := by rw [← h5, List.getElem?_take, if_pos (by omega)]
    have h7 : cur[i]? = cur.toList[i]? := by simp
    rw [h7, ← h6]
    simp [List.getD, hi]
theorem OwnZ.on {w w' : World} {g cap : Nat} {l : List Bool} (h : OwnZ w g cap l) (hb : Below w.heap.size w w') : OwnZ w' g cap l := owns_fr h (below_fr hb (fun _ => False)) (fun _ _ h => h)
set_option maxRecDepth 100000 in
set_option maxHeartbeats 800000 in
theorem marks_any (w : World) (ka : Option Addr) (kn kc : Nat) (keep : List Bool) (hk : Bools w (.slice ka kn kc) keep) (hkn : keep.length = kn) (hz : ka = none → kc = 0) (h47 : kn ≤ 140737488351232) :
    Calls Try.prog 7 #[.slice ka kn kc] w fun e w' => ∃ g cap, e = .returned (.tuple #[.slice (some ⟨g, 0, none⟩) kn cap, .slice (some ⟨g, 0, none⟩) (kn + 1) cap]) ∧ kn + 1 ≤ cap ∧ w.heap.size ≤ g ∧ OwnZ w' g cap (keep ++ [true]) ∧ Below w.heap.size w w' := by
  obtain ⟨i0, hi, hz0, hz1, hz2⟩ := info_parts infoBo
  have hroom : ∀ (w' : World) (g cap : Nat), OwnZ w' g cap (keep ++ [true]) → kn + 1 ≤ cap := fun w' g cap h => by
    rcases h.2 with ⟨e, _⟩ | ⟨g', cap', cur, e, _, hg, hcap, _⟩
    · cases e
    · cases e
      rw [List.length_append, hkn] at hcap
      exact hcap
  have HK : Hid (Bools w (.slice ka kn kc) keep ∧ keep.length = kn) := ⟨hk, hkn⟩
  have HRo : Hid (∀ (w' : World) (g cap : Nat), OwnZ w' g cap (keep ++ [true]) → kn + 1 ≤ cap) := hroom
  clear hk hkn hroom
  go_enter Try.func7, Try.ntmps7
  by_cases h0 : kn = 0
  · subst h0
    have he : keep = [] := List.eq_nil_of_length_eq_zero HK.out.2
    subst he
    have HE : Hid (w.ownsRow 0 4 1 (.slice none 0 0) 0 []) := ⟨rfl, .inl ⟨rfl, rfl⟩⟩
    have HE2 : Hid (w.ownsRow w.heap.size 4 1 (.slice none 0 0) 0 []) := ⟨rfl, .inl ⟨rfl, rfl⟩⟩
    cases ka with
    | none =>
      have hc0 := hz rfl
      subst hc0
      go_upto_region 3 with (at_builtin; refine wpList_append_own_none rfl (.tmp 5) (.tmp 6) 24 rfl w.heap.size 4 i0 1 Try.underlying24 hi (.slice none 0 0) 0 [] rfl HE2.out rfl ?_)
      go_upto_region 4 with (at_builtin; refine wp_own rfl (.tmp 8) (.tmp 9) 24 rfl 4 i0 _ 1 1 Try.underlying24 hi hz0 hz1 hz2 rfl (by decide) (.slice none 0 0) 0 [] rfl (owns_fr HE.out (fr_alloc (fun _ => False) w _) (fun _ _ h => h)) ⟨w.heap.size, 0, none⟩ 1 1 [.bool true] rfl (by decide) rfl (fun i u hu => by match i, hu with | 0, hu => (cases hu; show World.cell? _ ⟨w.heap.size, 0 + 0, none⟩ = _; rw [cell_of_row _ _ _ _ _ _ (heap_alloc_new w _)]; rfl)) (by simp [Value.oneCell']) (by unfold maxLen; omega) (by omega) ?_; intro g3 cap3 w3 ho hf hg; have H3 : Hid (w.heap.size ≤ g3 ∧ OwnZ w3 g3 cap3 ([] ++ [true]) ∧ Below w.heap.size w w3) := ⟨(by rcases hg with h | h; (cases h); (simp at h; omega)), (by unfold OwnZ; simpa using ho), ((Below.refl _ _).alloc (Nat.le_refl _) _).trans (hf.below _ (fun k e => by cases e) (by simp))⟩; clear ho hf hg)
      have hr := HRo.out _ _ _ H3.out.2.1
      go_wp2
      go_ret2
      exact ⟨_, _, rfl, hr, H3.out⟩
    | some p =>
      go_upto_region 3 with (at_builtin; refine wpList_append_own _ rfl (.tmp 5) (.tmp 6) 24 rfl w.heap.size 4 i0 _ 1 1 Try.underlying24 hi hz0 hz1 hz2 rfl (by decide) (.slice none 0 0) 0 [] rfl HE2.out p 0 kc [] rfl rfl (fun j u hj => by simp at hj) (fun u hu => by cases hu) (by unfold maxLen; omega) (by omega) (Nat.le_refl _) ?_; intro v1 w2 ho hg hnil; obtain rfl := hnil.2 ⟨rfl, rfl⟩; have H2 : Hid (w2.ownsRow 0 4 1 (.slice none 0 0) 0 [] ∧ Below w.heap.size w w2) := ⟨⟨rfl, .inl ⟨rfl, rfl⟩⟩, ⟨hg.os, hg.tape, hg.output, hg.size, fun k hk => hg.block k hk (by simp [Value.ownBlock])⟩⟩; clear ho hg hnil)
      go_upto_region 4 with (at_builtin; refine wp_own rfl (.tmp 8) (.tmp 9) 24 rfl 4 i0 _ 1 1 Try.underlying24 hi hz0 hz1 hz2 rfl (by decide) (.slice none 0 0) 0 [] rfl (owns_fr H2.out.1 (fr_alloc (fun _ => False) w2 _) (fun _ _ h => h)) ⟨w2.heap.size, 0, none⟩ 1 1 [.bool true] rfl (by decide) rfl (fun i u hu => by match i, hu with | 0, hu => (cases hu; show World.cell? _ ⟨w2.heap.size, 0 + 0, none⟩ = _; rw [cell_of_row _ _ _ _ _ _ (heap_alloc_new w2 _)]; rfl)) (by simp [Value.oneCell']) (by unfold maxLen; omega) (by omega) ?_; intro g3 cap3 w3 ho hf hg; have H3 : Hid (w.heap.size ≤ g3 ∧ OwnZ w3 g3 cap3 ([] ++ [true]) ∧ Below w.heap.size w w3) := ⟨(by rcases hg with h | h; (cases h); (have := H2.out.2.size; simp at h; omega)), (by unfold OwnZ; simpa using ho), (H2.out.2.alloc H2.out.2.size _).trans (hf.below _ (fun k e => by cases e) (Nat.le_trans H2.out.2.size (by simp)))⟩; clear ho hf hg)
      have hr := HRo.out _ _ _ H3.out.2.1
      go_wp2
      go_ret2
      exact ⟨_, _, rfl, hr, H3.out⟩
  · obtain ⟨kb, ko, rfl, hc⟩ : ∃ kb ko, ka = some ⟨kb, ko, none⟩ ∧ ∀ i x, keep[i]? = some x → w.cell? ⟨kb, ko + i, none⟩ = some (.bool x) := by
      obtain ⟨a', c', e, h | ⟨kb, ko, e2, hc⟩⟩ := HK.out.1
      · have := HK.out.2; rw [h] at this; simp at this; omega
      · cases e; exact ⟨kb, ko, e2, hc⟩
    have HN : Hid (∀ j u, (keep.map Value.bool)[j]? = some u → w.cell? ((⟨kb, ko, none⟩ : Addr).add j) = some u) := fun j u hj => by
      rw [List.getElem?_map] at hj
      rw [Addr.add_lit]
      cases hq : keep[j]? with
      | none => rw [hq] at hj; cases hj
      | some x => rw [hq] at hj; cases hj; exact hc j x hq
    clear hc
    go_upto_region 3 with (at_builtin; refine wp_own rfl (.tmp 5) (.tmp 6) 24 rfl 4 i0 _ 1 1 Try.underlying24 hi hz0 hz1 hz2 rfl (by decide) (.slice none 0 0) 0 [] rfl ⟨rfl, .inl ⟨rfl, rfl⟩⟩ ⟨kb, ko, none⟩ kn kc (keep.map Value.bool) rfl (by omega) (by rw [List.length_map, HK.out.2, Nat.mul_one]) HN.out (by intro u hu; obtain ⟨x, _, rfl⟩ := List.mem_map.1 hu; rfl) (by unfold maxLen; omega) (by omega) ?_; intro g cap w2 ho hf hg; have H2 : Hid (w.heap.size ≤ g ∧ w2.ownsRow 0 4 1 (.slice (some ⟨g, 0, none⟩) kn cap) kn (keep.map Value.bool) ∧ Below w.heap.size w w2) := ⟨hg.elim (fun e => by cases e) id, (by simpa using ho), hf.below _ (fun k e => by cases e) (Nat.le_refl _)⟩; clear ho hf hg)
    go_upto_region 4 with (at_builtin; refine wp_own rfl (.tmp 8) (.tmp 9) 24 rfl 4 i0 _ 1 1 Try.underlying24 hi hz0 hz1 hz2 rfl (by decide) (.slice (some ⟨g, 0, none⟩) kn cap) kn (keep.map Value.bool) rfl (owns_fr H2.out.2.1 (fr_alloc (fun _ => False) w2 _) (fun _ _ h => h)) ⟨w2.heap.size, 0, none⟩ 1 1 [.bool true] rfl (by decide) rfl (fun i u hu => by match i, hu with | 0, hu => (cases hu; show World.cell? _ ⟨w2.heap.size, 0 + 0, none⟩ = _; rw [cell_of_row _ _ _ _ _ _ (heap_alloc_new w2 _)]; rfl)) (by simp [Value.oneCell']) (by unfold maxLen; omega) (by omega) ?_; intro g3 cap3 w3 ho hf hg; have H3 : Hid (w.heap.size ≤ g3 ∧ OwnZ w3 g3 cap3 (keep ++ [true]) ∧ Below w.heap.size w w3) := ⟨(by rcases hg with h | h; (cases h; exact H2.out.1); (have := H2.out.2.2.size; simp at h; omega)), (by unfold OwnZ; rw [List.length_append, HK.out.2, List.map_append]; exact ho), (H2.out.2.2.alloc H2.out.2.2.size _).trans (hf.below _ (fun k e => by cases e; exact H2.out.1) (Nat.le_trans H2.out.2.2.size (by simp)))⟩; clear ho hf hg)
    have hr := HRo.out _ _ _ H3.out.2.1
    have hr' : kn ≤ cap3 := by omega
    go_wp2
    go_ret2
    exact ⟨_, _, rfl, hr, H3.out⟩
theorem OwnZ.frozen {w : World} {g cap : Nat} {l : List Bool} (h : OwnZ w g cap l) (i : Nat) : w.frozen? ⟨g, i, none⟩ = false := by
  rcases h.2 with ⟨e, _⟩ | ⟨g', cap', cur, e, _, hg, _⟩
  · cases e
  · cases e; exact frozen_of_row _ _ _ _ _ hg
theorem OwnZ.set {w : World} {g cap : Nat} {l : List Bool} (h : OwnZ w g cap l) (i : Nat) (b : Bool) : OwnZ (w.setCell ⟨g, i, none⟩ (.bool b)) g cap (l.set i b) := by
  have h1 := owns_set h i (.bool b)
  unfold OwnZ
  rw [List.length_set, List.map_set]
  exact h1
set_option maxRecDepth 100000 in
set_option maxHeartbeats 1600000 in
theorem unmarked_any (w : World) (g cap : Nat) (ka : Option Addr) (kn kc : Nat) (keep : List Bool) (hO : OwnZ w g cap (keep ++ [true])) (hk : Bools w (.slice ka kn kc) keep) (hkn : keep.length = kn) (h47 : kn ≤ 140737488351232) :
    Calls Try.prog 10 #[.slice (some ⟨g, 0, none⟩) (kn + 1) cap, .slice ka kn kc] w fun e w' => e = .returned (.bool true) ∧ ∃ m : List Bool, m.length = kn + 1 ∧ OwnZ w' g cap m ∧ Fr (fun k => k = g) w w' := by
  have hlen : (keep ++ [true]).length = kn + 1 := by rw [List.length_append, hkn]; rfl
  have hlast : w.cell? ⟨g, kn, none⟩ = some (.bool true) := by
    rw [hO.cell kn (by omega), ← hkn]; simp [List.getD]
  have HO : Hid (OwnZ w g cap (keep ++ [true]) ∧ Bools w (.slice ka kn kc) keep ∧ keep.length = kn ∧ (keep ++ [true]).length = kn + 1) := ⟨hO, hk, hkn, hlen⟩
  clear hO hk hkn hlen
  go_enter Try.func10, Try.ntmps10
  go_wp2
  go_loopw [5, 15] (fun s5 s15 wr => ∃ j : Nat, s5 = .bool true ∧ s15 = .int .i64 (j : Int) ∧ j ≤ kn ∧ ∃ m, wr = w.drewN m) (fun _ s _ => kn - (intOf s).toNat)
  case atStart => exact ⟨0, rfl, rfl, Nat.zero_le _, 0, rfl⟩
  case round =>
    obtain ⟨j, rfl, rfl, hj, m, rfl⟩ := hrel
    by_cases hlt : j < kn
    · have hlt' : (j : Int) < (kn : Int) := by omega
      have hlt2 : (j : Int) < (kn : Int) + 1 := by omega
      obtain ⟨kb, ko, rfl, hc⟩ : ∃ kb ko, ka = some ⟨kb, ko, none⟩ ∧ w.cell? ⟨kb, ko + j, none⟩ = some (.bool (keep.getD j false)) := by
        obtain ⟨a', c', e, h | ⟨kb, ko, e2, hc⟩⟩ := HO.out.2.1
        · have := HO.out.2.2.1; rw [h] at this; simp at this; omega
        · cases e
          refine ⟨kb, ko, e2, hc j _ ?_⟩
          have hl : j < keep.length := by rw [HO.out.2.2.1]; exact hlt
          simp [List.getD, hl]
      have hcg := HO.out.1.cell j (by rw [HO.out.2.2.2]; omega)
      rw [show (keep ++ [true]).getD j false = keep.getD j false by
        have hl : j < keep.length := by rw [HO.out.2.2.1]; exact hlt
        simp [List.getD, List.getElem?_append, hl]] at hcg
      obtain ⟨bb, hbb⟩ : ∃ bb, keep.getD j false = bb := ⟨_, rfl⟩
      rw [hbb] at hc hcg
      clear hbb
      have hjk : j < kn + 1 := by omega
      go_upto_region 5 with (fail)
      go_quiet (fail)
      (try go_wp2)
      go_round
      case rel => exact ⟨j + 1, rfl, by go_num, by omega, _, rfl⟩
      case measure => simp [intOf]; omega
    · have hlt' : ¬ ((j : Int) < (kn : Int)) := by omega
      go_wp2
      go_loopw [33] (fun s wr => ∃ (q : Nat) (b : List Bool), s = .int .i64 (q : Int) ∧ q ≤ kn + 1 ∧ b.length = kn + 1 ∧ OwnZ wr g cap b ∧ Fr (fun k => k = g) w wr) (fun s _ => kn + 1 - (intOf s).toNat)
      case atStart => exact ⟨0, keep ++ [true], rfl, by omega, HO.out.2.2.2, HO.out.1.on ⟨rfl, rfl, rfl, Nat.le_refl _, fun _ _ => rfl⟩, ⟨rfl, rfl, rfl, Nat.le_refl _, fun _ _ _ => rfl⟩⟩
      case round =>
        obtain ⟨q, b, rfl, hq, hbl, hob, hfb⟩ := hrel
        have HI : Hid (b.length = kn + 1 ∧ OwnZ wr g cap b ∧ Fr (fun k => k = g) w wr) := ⟨hbl, hob, hfb⟩
        clear hbl hob hfb
        by_cases hq2 : q < kn + 1
        · have hq3 : (q : Int) < (kn : Int) + 1 := by omega
          have hc := HI.out.2.1.cell q (by rw [HI.out.1]; exact hq2)
          have hf := HI.out.2.1.frozen q
          obtain ⟨bb, hbb⟩ : ∃ bb, b.getD q false = bb := ⟨_, rfl⟩
          rw [hbb] at hc
          clear hbb
          go_wp2
          go_round
          case rel => exact ⟨q + 1, b.set q (!bb), by go_num, by omega, by rw [List.length_set]; exact HI.out.1, HI.out.2.1.set q _, HI.out.2.2.trans Fr.set (fun _ h => .inl h)⟩
          case measure => simp [intOf]; omega
        · have hq3 : ¬ ((q : Int) < (kn : Int) + 1) := by omega
          go_wp2
          go_ret
          exact ⟨rfl, b, HI.out⟩
end Go.Proofs.Ytcjfgffkkjekoaa

namespace Go.Proofs.Ytcjfgffkkjekoaa
open Go.RowKit Rec

/-- a function with another value at one place -/
def up {α : Type} (f : Nat → α) (n : Nat) (v : α) : Nat → α := fun i => if i = n then v else f i
theorem up_at {α : Type} (f : Nat → α) (n : Nat) (v : α) : up f n v n = v := if_pos rfl
theorem up_off {α : Type} (f : Nat → α) {n i : Nat} (v : α) (h : i ≠ n) : up f n v i = f i := if_neg h
def k512 (_ : Nat) : Nat := 512
/-- the slices of a row of rows -/
def hdrs (n : Nat) (g c : Nat → Nat) (C : Nat → List Int) : List Value := (List.range n).map fun i => .slice (some ⟨g i, 0, none⟩) (C i).length (c i)
theorem hdrs_len (n : Nat) (g c : Nat → Nat) (C : Nat → List Int) : (hdrs n g c C).length = n := by simp [hdrs]
theorem hdrs_at (n : Nat) (g c : Nat → Nat) (C : Nat → List Int) (i : Nat) (h : i < n) : (hdrs n g c C)[i]? = some (.slice (some ⟨g i, 0, none⟩) (C i).length (c i)) := by
  simp [hdrs, h]
theorem hdrs_up (n : Nat) (g c : Nat → Nat) (C : Nat → List Int) (gn cn : Nat) (ln : List Int) : hdrs n g c C ++ [.slice (some ⟨gn, 0, none⟩) ln.length cn] = hdrs (n + 1) (up g n gn) (up c n cn) (up C n ln) := by
  unfold hdrs
  rw [List.range_succ, List.map_append]
  congr 1
  · refine List.map_congr_left fun i hi => ?_
    have hne : i ≠ n := by have := List.mem_range.1 hi; omega
    rw [up_off g gn hne, up_off c cn hne, up_off C ln hne]
  · simp [up_at]
theorem hdrs_set (n : Nat) (g c : Nat → Nat) (C : Nat → List Int) (k : Nat) (l : List Int) (h : l.length = (C k).length) : hdrs n g c (up C k l) = hdrs n g c C := by
  unfold hdrs
  refine List.map_congr_left fun i _ => ?_
  by_cases e : i = k
  · subst e; rw [up_at, h]
  · rw [up_off C l e]
/-- a row of rows of bytes, all one's own -/
structure RowsAt (w0 wr : World) (s : Value) (n : Nat) (g c : Nat → Nat) (C : Nat → List Int) : Prop where
  own : wr.ownsRow 0 22 1 s n (hdrs n g c C)
  top : ∀ k, s.ownBlock = some k → w0.heap.size ≤ k
  els : ∀ i, i < n → OwnB wr (g i) (c i) (C i) ∧ w0.heap.size ≤ g i
  apart : ∀ i j, i < n → j < n → g i = g j → i = j
theorem rows_none (w0 wr : World) (g c : Nat → Nat) (C : Nat → List Int) : RowsAt w0 wr (.slice none 0 0) 0 g c C :=
  ⟨World.ownsRow_nil _ _ _ _, (fun k h => by cases h), (fun i h => by omega), (fun i j h => by omega)⟩
theorem ownB_fr {S : Nat → Prop} {w w' : World} {g cap : Nat} {l : List Int} (h : OwnB w g cap l) (x : Fr S w w') (hg : ¬ S g) : OwnB w' g cap l := by
  obtain ⟨cur, h1, h2⟩ := h.row
  exact ⟨⟨cur, x.heap h1 hg, h2⟩, h.len, h.room, h.top, h.wf⟩
theorem own_apart7 {w : World} {B e size n g cap : Nat} {v : Value} {xs : List Value} {l : List Int} (h : w.ownsRow B e size v n xs) (h' : OwnB w g cap l) (hne : e ≠ 5) : ¬ v.ownBlock = some g := by
  intro hk
  rcases h.2 with ⟨hv, _⟩ | ⟨g', cap', cur, hv, _, hg, _⟩
  · rw [hv] at hk; cases hk
  · rw [hv] at hk
    have e1 : g' = g := Option.some.inj hk
    subst e1
    obtain ⟨cur', h1, _⟩ := h'.row
    rw [hg] at h1
    injection h1 with h1
    injection h1 with _ h2 _
    exact hne h2
theorem RowsAt.fr {w0 wr wq : World} {s : Value} {n : Nat} {g c : Nat → Nat} {C : Nat → List Int} {S : Nat → Prop} (h : RowsAt w0 wr s n g c C) (x : Fr S wr wq) (h1 : ∀ k, s.ownBlock = some k → ¬ S k) (h2 : ∀ i, i < n → ¬ S (g i)) : RowsAt w0 wq s n g c C :=
  ⟨owns_fr h.own x h1, h.top, fun i hi => ⟨ownB_fr (h.els i hi).1 x (h2 i hi), (h.els i hi).2⟩, h.apart⟩
theorem RowsAt.on {w0 wr wq : World} {s : Value} {n : Nat} {g c : Nat → Nat} {C : Nat → List Int} (h : RowsAt w0 wr s n g c C) (hb : Below wr.heap.size wr wq) : RowsAt w0 wq s n g c C :=
  h.fr (below_fr hb (fun _ => False)) (fun _ _ e => e) (fun _ _ e => e)
/-- one byte of one row is written -/
theorem RowsAt.set {w0 wr : World} {s : Value} {n : Nat} {g c : Nat → Nat} {C : Nat → List Int} (h : RowsAt w0 wr s n g c C) (i : Nat) (hi : i < n) (k : Nat) (v : Int) (hk : k < (C i).length) (hv : 0 ≤ v ∧ v < 256) :
    RowsAt w0 (wr.setCell ⟨g i, k, none⟩ (.int .u8 v)) s n g c (up C i ((C i).set k v)) := by
  refine ⟨?_, h.top, fun j hj => ?_, h.apart⟩
  · rw [hdrs_set _ _ _ _ _ _ (by rw [List.length_set])]
    exact owns_fr h.own Fr.set fun q hq e => own_apart7 h.own (h.els i hi).1 (by decide) (e ▸ hq)
  · by_cases e : j = i
    · subst e
      rw [up_at]
      exact ⟨(h.els j hj).1.set k v hk hv, (h.els j hj).2⟩
    · rw [up_off C _ e]
      exact ⟨ownB_fr (h.els j hj).1 Fr.set (fun e' => e (h.apart j i hj hi e')), (h.els j hj).2⟩
theorem RowsAt.is {w0 wr : World} {b n cap : Nat} {g c : Nat → Nat} {C : Nat → List Int} (h : RowsAt w0 wr (.slice (some ⟨b, 0, none⟩) n cap) n g c C) (i : Nat) (hi : i < n) : wr.cell? ⟨b, i, none⟩ = some (.slice (some ⟨g i, 0, none⟩) (C i).length (c i)) := by
  rcases h.own.2 with ⟨hv, _⟩ | ⟨g', cap', cur, hv, _, hg, _, _, _, h5⟩
  · cases hv
  · cases hv
    rw [cell_of_row _ _ _ _ _ _ hg]
    have := hdrs_at n g c C i hi
    rw [Nat.mul_one] at h5
    rw [← h5, List.getElem?_take, if_pos hi] at this
    simpa using this
theorem info28 : (Try.prog.info? 22).map (fun i => (i.zero, i.size, i.bytes)) = some (some (.slice none 0 0), 1, 24) := by kernel_rfl
/-- append of one row to a row of rows -/
theorem wp_rows7 {ops : Array Oper} {rest : List Oper} {o : Oper} {a : Act} {Q : Exit → Act → World → Prop} {wx : World} (hgd : o.guard = none) (s x : Operand)
    (ho : o.op = .call { callee := .builtin .append, args := #[s, x], argTypes := #[30, 30] }) (w0 : World) (v : Value) (n : Nat) (g c : Nat → Nat) (C : Nat → List Int) (hs : a.eval s = v) (hx : a.eval x = .slice (some ⟨wx.heap.size, 0, none⟩) 1 1)
    (gn cn m : Nat) (ln : List Int) (hm : ln.length = m) (hR : RowsAt w0 wx v n g c C) (hO : OwnB wx gn cn ln) (hg : w0.heap.size ≤ gn) (hne : ∀ i, i < n → g i ≠ gn) (hB : w0.heap.size ≤ wx.heap.size) (hn : n ≤ 3518437208780)
    (h : ∀ b cap w', RowsAt w0 w' (.slice (some ⟨b, 0, none⟩) (n + 1) cap) (n + 1) (up g n gn) (up c n cn) (up C n ln) → Fr (fun k => v.ownBlock = some k) wx w' → (v.ownBlock = some b ∨ wx.heap.size ≤ b) → wpList Try.prog ops Q rest (a.put o.dst (.slice (some ⟨b, 0, none⟩) (n + 1) cap)) w') :
    wpList Try.prog ops Q (o :: rest) a (wx.alloc (.cells #[.slice (some ⟨gn, 0, none⟩) m cn] 22)) := by
  subst hm
  obtain ⟨i0, hi, hz0, hz1, hz2⟩ := info_parts info28
  have hal : Below wx.heap.size wx (wx.alloc (.cells #[.slice (some ⟨gn, 0, none⟩) ln.length cn] 22)) := (Below.refl _ _).alloc (Nat.le_refl _) _
  have hR' := hR.on hal
  refine wp_own hgd s x 30 ho 22 i0 _ 1 24 Try.underlying30 hi hz0 hz1 hz2 rfl (by decide) v n _ hs hR'.own ⟨wx.heap.size, 0, none⟩ 1 1 [.slice (some ⟨gn, 0, none⟩) ln.length cn] hx (by decide) rfl (fun j u hj => ?_) (fun u hu => ?_) (by unfold maxLen; omega) (by omega) ?_
  · cases j with
    | zero => cases hj; rw [Addr.add_lit]; rw [cell_of_row _ _ _ _ _ _ (heap_alloc_new _ _)]; rfl
    | succ j => simp at hj
  · rw [List.mem_singleton.1 hu]; rfl
  · intro b cap w' h1 h2 h3
    have hfr : Fr (fun k => v.ownBlock = some k) wx w' := (below_fr hal (fun k => v.ownBlock = some k)).trans h2 (fun k hk => .inl hk)
    have hOx := hO.on hal
    refine h b cap w' ⟨?_, fun k hk => ?_, fun i hi => ?_, fun i j hi hj => ?_⟩ hfr ?_
    · rw [← hdrs_up]; exact h1
    · have : b = k := Option.some.inj hk
      subst this
      rcases h3 with h3 | h3
      · exact hR.top _ h3
      · exact Nat.le_trans hB (Nat.le_trans hal.size h3)
    · by_cases e : i = n
      · subst e
        rw [up_at, up_at, up_at]
        exact ⟨ownB_fr hOx h2 (own_apart7 hR'.own hOx (by decide)), hg⟩
      · rw [up_off g _ e, up_off c _ e, up_off C _ e]
        have := hR'.els i (by omega)
        exact ⟨ownB_fr this.1 h2 (own_apart7 hR'.own this.1 (by decide)), this.2⟩
    · by_cases e : i = n
      · by_cases e' : j = n
        · omega
        · subst e
          rw [up_at, up_off g _ e']
          intro z; exact absurd z.symm (hne j (by omega))
      · by_cases e' : j = n
        · subst e'
          rw [up_at, up_off g _ e]
          intro z; exact absurd z (hne i (by omega))
        · rw [up_off g _ e, up_off g _ e']
          exact hR.apart i j (by omega) (by omega)
    · rcases h3 with h3 | h3
      · exact .inl h3
      · exact .inr (Nat.le_trans hal.size h3)
/-- the copies of the first k acts: their row and their bytes -/
def actC (L : List ActR) (g c : Nat → Nat) (k : Nat) : List Value := (List.range k).flatMap fun i => [.int .i64 (actN L i).kind, .int .i64 (actN L i).b, .slice (some ⟨g i, 0, none⟩) (actN L i).x.length (c i)]
theorem actC_succ (L : List ActR) (g c : Nat → Nat) (k gn cn : Nat) : actC L g c k ++ [.int .i64 (actN L k).kind, .int .i64 (actN L k).b, .slice (some ⟨gn, 0, none⟩) (actN L k).x.length cn] = actC L (up g k gn) (up c k cn) (k + 1) := by
  unfold actC
  rw [List.range_succ, List.flatMap_append, List.flatMap_singleton, up_at, up_at]
  congr 1
  have h : ∀ (l : List Nat), (∀ i ∈ l, i < k) → l.flatMap (fun i => [Value.int .i64 (actN L i).kind, .int .i64 (actN L i).b, .slice (some ⟨g i, 0, none⟩) (actN L i).x.length (c i)]) = l.flatMap fun i => [.int .i64 (actN L i).kind, .int .i64 (actN L i).b, .slice (some ⟨up g k gn i, 0, none⟩) (actN L i).x.length (up c k cn i)] := by
    intro l
    induction l with
    | nil => intro _; rfl
    | cons i l ih =>
      intro hl
      have hlt : i < k := hl i (.head _)
      rw [List.flatMap_cons, List.flatMap_cons, ih (fun j hj => hl j (.tail _ hj)), up_off g gn (show i ≠ k by omega), up_off c cn (show i ≠ k by omega)]
  exact h _ (fun i hi => List.mem_range.1 hi)
theorem actC_len (L : List ActR) (g c : Nat → Nat) (k : Nat) : (actC L g c k).length = k * 3 := by
  induction k with
  | zero => rfl
  | succ k ih =>
    unfold actC at ih ⊢
    rw [List.range_succ, List.flatMap_append, List.length_append, ih]
    simp; omega
theorem own_apartX {w : World} {B e size n p : Nat} {v : Value} {xs : List Value} {cs : Array Value} {t : Nat} {f : Nat × Nat} (h : w.ownsRow B e size v n xs) (h' : w.heap[p]? = some (.cells cs t f)) (hne : e ≠ t) : ¬ v.ownBlock = some p := by
  intro hk
  rcases h.2 with ⟨hv, _⟩ | ⟨g', cap', cur, hv, _, hg, _⟩
  · rw [hv] at hk; cases hk
  · rw [hv] at hk
    have e1 : g' = p := Option.some.inj hk
    subst e1
    rw [hg] at h'
    injection h' with h1
    injection h1 with _ h2 _
    exact hne h2
theorem own_apartO {w : World} {B B' e e' size size' n n' : Nat} {v v' : Value} {xs xs' : List Value} (h : w.ownsRow B e size v n xs) (h' : w.ownsRow B' e' size' v' n' xs') (hne : e ≠ e') (k : Nat) (hk : v.ownBlock = some k) : ¬ v'.ownBlock = some k := by
  rcases h.2 with ⟨hv, _⟩ | ⟨g', cap', cur, hv, _, hg, _⟩
  · rw [hv] at hk; cases hk
  · rw [hv] at hk
    have e1 : g' = k := Option.some.inj hk
    subst e1
    exact own_apartX h' hg (fun e => hne e.symm)
theorem info36 : (Try.prog.info? 36).map (fun i => (i.zero, i.size, i.bytes)) = some (some (.agg #[.int .i64 0, .int .i64 0, .slice none 0 0]), 3, 40) := by kernel_rfl
/-- copies under way -/
structure CpS (w wr : World) (L : List ActR) (k : Nat) (v4 v5 : Value) (g c : Nat → Nat) : Prop where
  own : wr.ownsRow 0 36 3 v4 k (actC L g c k)
  top : ∀ q, v4.ownBlock = some q → w.heap.size ≤ q
  rows : RowsAt w wr v5 k g c (fun i => (actN L i).x ++ [165])
  bel : Below w.heap.size w wr
theorem RowsAt.cong {w0 wr : World} {s : Value} {n : Nat} {g c : Nat → Nat} {C C' : Nat → List Int} (h : RowsAt w0 wr s n g c C) (e : ∀ i, i < n → C i = C' i) : RowsAt w0 wr s n g c C' := by
  have hh : hdrs n g c C = hdrs n g c C' := by
    unfold hdrs
    refine List.map_congr_left fun i hi => ?_
    rw [e i (List.mem_range.1 hi)]
  exact ⟨hh ▸ h.own, h.top, fun i hi => by rw [← e i hi]; exact h.els i hi, h.apart⟩
theorem copies_step {w w2 w3 : World} {L : List ActR} {k : Nat} {v4 v5 : Value} {g c : Nat → Nat} {g1 cap1 b4 c4 xl : Nat} {kd qb : Int} {qa : Option Addr} {qc : Nat} {qx : List Int} {o : Obj} (hS : CpS w w2 L k v4 v5 g c) (hO : OwnB w2 g1 cap1 (qx ++ [165])) (hQ : actN L k = ⟨kd, qb, qa, qc, qx⟩) (hxl : qx.length = xl)
    (ho : w3.ownsRow 0 36 3 (.slice (some ⟨b4, 0, none⟩) (k + 1) c4) (k + 1) (actC L g c k ++ [.int .i64 kd, .int .i64 qb, .slice (some ⟨g1, 0, none⟩) xl cap1])) (hf : Fr (fun q => v4.ownBlock = some q) (w2.alloc o) w3) (hg : v4.ownBlock = some b4 ∨ (w2.alloc o).heap.size ≤ b4) :
    w3.ownsRow 0 36 3 (.slice (some ⟨b4, 0, none⟩) (k + 1) c4) (k + 1) (actC L (up g k g1) (up c k cap1) (k + 1)) ∧ RowsAt w w3 v5 k g c (fun i => (actN L i).x ++ [165]) ∧ OwnB w3 g1 cap1 (qx ++ [165]) ∧ Below w.heap.size w w3 ∧ w.heap.size ≤ b4 := by
  have hal : Below w2.heap.size w2 (w2.alloc o) := (Below.refl _ _).alloc (Nat.le_refl _) _
  have own2 : (w2.alloc o).ownsRow 0 36 3 v4 k (actC L g c k) := owns_fr hS.own (below_fr hal (fun _ => False)) (fun _ _ h => h)
  have rows2 := hS.rows.on hal
  refine ⟨?_, rows2.fr hf (fun q hq e => own_apartO rows2.own own2 (by decide) q hq e) (fun i hi e => own_apart7 own2 (rows2.els i hi).1 (by decide) e), ownB_fr (hO.on hal) hf (fun e => own_apart7 own2 (hO.on hal) (by decide) e), (hS.bel.alloc hS.bel.size _).trans (hf.below _ (fun q hq => hS.top q hq) (Nat.le_trans hS.bel.size hal.size)), ?_⟩
  · rw [← actC_succ, hQ, hxl]; exact ho
  · rcases hg with h | h
    · exact hS.top _ h
    · have := hS.bel.size; have := hal.size; omega
theorem copies_last {w w2 w3 : World} {L : List ActR} {k : Nat} {v4 v5 : Value} {g c : Nat → Nat} {b4 : Nat} {o : Obj} (hS : CpS w w2 L k v4 v5 g c) (hf : Fr (fun q => v4.ownBlock = some q) (w2.alloc o) w3) (hg : v4.ownBlock = some b4 ∨ (w2.alloc o).heap.size ≤ b4) :
    RowsAt w w3 v5 k g c (fun i => (actN L i).x ++ [165]) ∧ Below w.heap.size w w3 ∧ w.heap.size ≤ b4 := by
  have hal : Below w2.heap.size w2 (w2.alloc o) := (Below.refl _ _).alloc (Nat.le_refl _) _
  have own2 : (w2.alloc o).ownsRow 0 36 3 v4 k (actC L g c k) := owns_fr hS.own (below_fr hal (fun _ => False)) (fun _ _ h => h)
  have rows2 := hS.rows.on hal
  refine ⟨rows2.fr hf (fun q hq e => own_apartO rows2.own own2 (by decide) q hq e) (fun i hi e => own_apart7 own2 (rows2.els i hi).1 (by decide) e), (hS.bel.alloc hS.bel.size _).trans (hf.below _ (fun q hq => hS.top q hq) (Nat.le_trans hS.bel.size hal.size)), ?_⟩
  rcases hg with h | h
  · exact hS.top _ h
  · have := hS.bel.size; have := hal.size; omega
theorem copies_step2 {w w3 w4 : World} {L : List ActR} {k : Nat} {v5 v6 : Value} {g c : Nat → Nat} {g1 cap1 b4 c4 : Nat} {kd qb : Int} {qa : Option Addr} {qc : Nat} {qx : List Int}
    (ho : w3.ownsRow 0 36 3 (.slice (some ⟨b4, 0, none⟩) (k + 1) c4) (k + 1) (actC L (up g k g1) (up c k cap1) (k + 1))) (hr : RowsAt w w3 v5 k g c (fun i => (actN L i).x ++ [165])) (hb : Below w.heap.size w w3) (hg4 : w.heap.size ≤ b4) (hQ : actN L k = ⟨kd, qb, qa, qc, qx⟩)
    (hr5 : RowsAt w w4 v6 (k + 1) (up g k g1) (up c k cap1) (up (fun i => (actN L i).x ++ [165]) k (qx ++ [165]))) (hf5 : Fr (fun q => v5.ownBlock = some q) w3 w4) :
    CpS w w4 L (k + 1) (.slice (some ⟨b4, 0, none⟩) (k + 1) c4) v6 (up g k g1) (up c k cap1) := by
  refine ⟨owns_fr ho hf5 (fun q hq e => own_apartO ho hr.own (by decide) q hq e), (fun q hq => by cases hq; exact hg4), hr5.cong (fun i hi => ?_), hb.trans (hf5.below _ (fun q hq => hr.top q hq) hb.size)⟩
  by_cases e : i = k
  · subst e; rw [up_at, hQ]
  · rw [up_off _ _ e]
set_option maxRecDepth 100000 in
set_option maxHeartbeats 4000000 in
theorem copies_any (w : World) (a0 : Option Addr) (n ac : Nat) (L : List ActR) (hA : Acts w a0 L) (hn : L.length = n) (hc : ∀ q ∈ L, q.a = none → q.c = 0) (h47 : ∀ q ∈ L, q.x.length ≤ 140737488351232) :
    Calls Try.prog 6 #[.slice a0 n ac] w fun e w' => ∃ b4 c4 v5 g c, e = .returned (.tuple #[.slice (some ⟨b4, 0, none⟩) n c4, v5]) ∧ n + 1 ≤ c4 ∧ w.heap.size ≤ b4 ∧ w'.ownsRow 0 36 3 (.slice (some ⟨b4, 0, none⟩) (n + 1) c4) (n + 1) (actC L g c n ++ [.int .i64 (-99), .int .i64 0, .slice none 0 0]) ∧ RowsAt w w' v5 n g c (fun i => (actN L i).x ++ [165]) ∧ Below w.heap.size w w' := by
  have hn4 : n ≤ 3518437208780 := by rw [← hn]; exact hA.len
  obtain ⟨i0, hi0, hz0, hz1, hz2⟩ := info_parts info36
  have HA : Hid (Acts w a0 L ∧ L.length = n ∧ (∀ q ∈ L, q.a = none → q.c = 0) ∧ ∀ q ∈ L, q.x.length ≤ 140737488351232) := ⟨hA, hn, hc, h47⟩
  clear hA hn hc h47
  go_enter Try.func6, Try.ntmps6
  go_wp2
  go_loopw [4, 5, 12] (fun s4 s5 s12 wr => ∃ (k : Nat) (v4 v5 : Value) (g c : Nat → Nat), k ≤ n ∧ s12 = .int .i64 (k : Int) ∧ v4 = s4 ∧ v5 = s5 ∧ CpS w wr L k v4 v5 g c) (fun _ _ s _ => n - (intOf s).toNat)
  case atStart => exact ⟨0, _, _, fun _ => 0, fun _ => 0, Nat.zero_le _, rfl, rfl, rfl, ⟨World.ownsRow_nil _ _ _ _, (fun q h => by cases h), rows_none _ _ _ _ _, Below.refl _ _⟩⟩
  case round =>
    obtain ⟨k, v4, v5, g, c, hk, rfl, rfl, rfl, hS⟩ := hrel
    have HS : Hid (CpS w wr L k v4 v5 g c) := hS
    clear hS
    by_cases hlt : k < n
    · have hlt' : (k : Int) < (n : Int) := by omega
      obtain ⟨b, off, rfl, hcs⟩ := (HA.out.1.on HS.out.bel).cellsAt (by rw [HA.out.2.1]; omega)
      have hq := hcs k (by rw [HA.out.2.1]; exact hlt)
      have hmem : actN L k ∈ L := List.mem_of_getElem? (actN_some (by rw [HA.out.2.1]; exact hlt))
      have hby := HA.out.1.each _ hmem
      have hqc := HA.out.2.2.1 _ hmem
      have hq47 := HA.out.2.2.2 _ hmem
      obtain ⟨q, hqe⟩ : ∃ q, actN L k = q := ⟨_, rfl⟩
      have HQ : Hid (actN L k = q) := hqe
      rw [hqe] at hq hby hqc hq47
      have f0 := hq.f0
      have f1 := hq.f1
      have f2 := hq.f2
      clear hcs hq hmem hqe
      obtain ⟨kd, qb, qa, qc, qx⟩ := q
      dsimp only at f0 f1 f2 hby hqc hq47
      obtain ⟨xl, hxl⟩ : ∃ xl, qx.length = xl := ⟨_, rfl⟩
      rw [hxl] at f2 hq47
      obtain ⟨wA, hwA⟩ : ∃ wA, wr.alloc (.cells #[.int .i64 kd, .int .i64 qb, .slice qa xl qc] 36) = wA := ⟨_, rfl⟩
      obtain ⟨Bx, hBx⟩ : ∃ Bx, wr.heap.size = Bx := ⟨_, rfl⟩
      have hbA : Below wr.heap.size wr wA := by rw [← hwA]; exact (Below.refl _ _).alloc (Nat.le_refl _) _
      have hrow : wA.heap[Bx]? = some (.cells #[.int .i64 kd, .int .i64 qb, .slice qa xl qc] 36 (0, 0)) := by rw [← hwA, ← hBx]; exact heap_alloc_new _ _
      have g2 : wA.cell? ⟨Bx, 2, none⟩ = some (.slice qa xl qc) := by rw [cell_of_row _ _ _ _ _ _ hrow]; rfl
      have hwwA : Below w.heap.size w wA := HS.out.bel.trans (hbA.mono HS.out.bel.size)
      have cLt := lent_any wA qa xl qc qx (hby.on hwwA) hxl hqc hq47
      have HAA : Hid (Below wr.heap.size wr wA ∧ Below w.heap.size w wA ∧ wA.heap[Bx]? = some (.cells #[.int .i64 kd, .int .i64 qb, .slice qa xl qc] 36 (0, 0)) ∧ qx.length = xl ∧ Bx < wA.heap.size) := ⟨hbA, hwwA, hrow, hxl, heap_lt hrow⟩
      clear hby hqc hbA hrow hwwA hxl
      go_upto_region 7 with (go_at_call 5; refine cLt.mono ?_; rintro e w2 ⟨g1, cap1, rfl, hg1, ho1, hb1⟩; have h0 : w2.cell? ⟨Bx, 0, none⟩ = some (.int .i64 kd) := (by rw [cell_of_row _ _ _ _ _ _ ((hb1.block Bx HAA.out.2.2.2.2).trans HAA.out.2.2.1)]; rfl); have h1 : w2.cell? ⟨Bx, 1, none⟩ = some (.int .i64 qb) := (by rw [cell_of_row _ _ _ _ _ _ ((hb1.block Bx HAA.out.2.2.2.2).trans HAA.out.2.2.1)]; rfl); have H2 : Hid (wA.heap.size ≤ g1 ∧ OwnB w2 g1 cap1 (qx ++ [165]) ∧ Below wA.heap.size wA w2) := ⟨hg1, ho1, hb1⟩; clear hg1 ho1 hb1)
      clear cLt g2
      have HB2 : Hid (Below wr.heap.size wr w2 ∧ Below w.heap.size w w2 ∧ w.heap.size ≤ g1) := by
        have b1 : Below wr.heap.size wr w2 := HAA.out.1.trans (H2.out.2.2.mono HAA.out.1.size)
        exact ⟨b1, HS.out.bel.trans (b1.mono HS.out.bel.size), by have := HAA.out.2.1.size; have := H2.out.1; omega⟩
      have HS2 : Hid (CpS w w2 L k v4 v5 g c) := ⟨owns_fr HS.out.own (below_fr HB2.out.1 (fun _ => False)) (fun _ _ h => h), HS.out.top, HS.out.rows.on HB2.out.1, HB2.out.2.1⟩
      have hg1n : ∀ i, i < k → g i ≠ g1 := fun i hi e => by
        have h3 := (HS.out.rows.els i hi).1.lt
        have h4 := HAA.out.1.size
        have h5 := H2.out.1
        omega
      clear HS
      have nA8 : (36 : Nat) ≠ 5 := by decide
      have nAr : (36 : Nat) ≠ 22 := by decide
      go_upto_region 8 with (at_builtin; refine wp_own rfl (.tmp 22) (.tmp 29) 23 rfl 36 i0 _ 3 40 Try.underlying23 hi0 hz0 hz1 hz2 rfl (by decide) v4 k (actC L g c k) rfl (owns_fr HS2.out.own (fr_alloc (fun _ => False) w2 _) (fun _ _ h => h)) ⟨w2.heap.size, 0, none⟩ 1 1 [.int .i64 kd, .int .i64 qb, .slice (some ⟨g1, 0, none⟩) xl cap1] rfl (by decide) rfl (fun i u hu => by match i, hu with | 0, hu => (cases hu; show World.cell? _ ⟨w2.heap.size, 0 + 0, none⟩ = _; rw [cell_of_row _ _ _ _ _ _ (heap_alloc_new w2 _)]; rfl) | 1, hu => (cases hu; show World.cell? _ ⟨w2.heap.size, 0 + 1, none⟩ = _; rw [cell_of_row _ _ _ _ _ _ (heap_alloc_new w2 _)]; rfl) | 2, hu => (cases hu; show World.cell? _ ⟨w2.heap.size, 0 + 2, none⟩ = _; rw [cell_of_row _ _ _ _ _ _ (heap_alloc_new w2 _)]; rfl)) (by simp [Value.oneCell']) (by unfold maxLen; omega) (by omega) ?_; intro b4 c4 w3 ho hf hg; have H3 : Hid (w3.ownsRow 0 36 3 (.slice (some ⟨b4, 0, none⟩) (k + 1) c4) (k + 1) (actC L (up g k g1) (up c k cap1) (k + 1)) ∧ RowsAt w w3 v5 k g c (fun i => (actN L i).x ++ [165]) ∧ OwnB w3 g1 cap1 (qx ++ [165]) ∧ Below w.heap.size w w3 ∧ w.heap.size ≤ b4) := copies_step HS2.out H2.out.2.1 HQ.out HAA.out.2.2.2.1 ho hf hg; clear ho hf hg)
      go_upto_region 9 with (at_builtin; refine wp_rows7 rfl (.tmp 31) (.tmp 33) rfl w v5 k g c (fun i => (actN L i).x ++ [165]) rfl rfl g1 cap1 (xl + 1) (qx ++ [165]) (by rw [List.length_append, HAA.out.2.2.2.1]; rfl) H3.out.2.1 H3.out.2.2.1 HB2.out.2.2 hg1n H3.out.2.2.2.1.size (by omega) ?_; intro b5 c5 w4 hr5 hf5 hg5; have H5 : Hid (RowsAt w w4 (.slice (some ⟨b5, 0, none⟩) (k + 1) c5) (k + 1) (up g k g1) (up c k cap1) (up (fun i => (actN L i).x ++ [165]) k (qx ++ [165])) ∧ Fr (fun q => v5.ownBlock = some q) w3 w4) := ⟨hr5, hf5⟩; clear hr5 hf5 hg5)
      have H4 : Hid (CpS w w4 L (k + 1) (.slice (some ⟨b4, 0, none⟩) (k + 1) c4) (.slice (some ⟨b5, 0, none⟩) (k + 1) c5) (up g k g1) (up c k cap1)) := copies_step2 H3.out.1 H3.out.2.1 H3.out.2.2.2.1 H3.out.2.2.2.2 HQ.out H5.out.1 H5.out.2
      clear H5
      go_wp2
      go_round
      case rel => exact ⟨k + 1, _, _, up g k g1, up c k cap1, by omega, by go_num, rfl, rfl, H4.out⟩
      case measure => simp [intOf]; omega
    · have hlt' : ¬ ((k : Int) < (n : Int)) := by omega
      obtain rfl : k = n := by omega
      have hcapO : ∀ (w' : World) (b4 c4 : Nat) (xs : List Value), w'.ownsRow 0 36 3 (.slice (some ⟨b4, 0, none⟩) (k + 1) c4) (k + 1) xs → k + 1 ≤ c4 := fun w' b4 c4 xs h => by
        rcases h.2 with ⟨e, _⟩ | ⟨g', cap', cur, e, _, _, hcap, _⟩
        · cases e
        · cases e; exact hcap
      have HCap : Hid (∀ (w' : World) (b4 c4 : Nat) (xs : List Value), w'.ownsRow 0 36 3 (.slice (some ⟨b4, 0, none⟩) (k + 1) c4) (k + 1) xs → k + 1 ≤ c4) := hcapO
      clear hcapO
      go_upto_region 11 with (at_builtin; refine wp_own rfl (.tmp 36) (.tmp 38) 23 rfl 36 i0 _ 3 40 Try.underlying23 hi0 hz0 hz1 hz2 rfl (by decide) v4 k (actC L g c k) rfl (owns_fr HS.out.own (fr_alloc (fun _ => False) wr _) (fun _ _ h => h)) ⟨wr.heap.size, 0, none⟩ 1 1 [.int .i64 (-99), .int .i64 0, .slice none 0 0] rfl (by decide) rfl (fun i u hu => by match i, hu with | 0, hu => (cases hu; show World.cell? _ ⟨wr.heap.size, 0 + 0, none⟩ = _; rw [cell_of_row _ _ _ _ _ _ (heap_alloc_new wr _)]; rfl) | 1, hu => (cases hu; show World.cell? _ ⟨wr.heap.size, 0 + 1, none⟩ = _; rw [cell_of_row _ _ _ _ _ _ (heap_alloc_new wr _)]; rfl) | 2, hu => (cases hu; show World.cell? _ ⟨wr.heap.size, 0 + 2, none⟩ = _; rw [cell_of_row _ _ _ _ _ _ (heap_alloc_new wr _)]; rfl)) (by simp [Value.oneCell']) (by unfold maxLen; omega) (by omega) ?_; intro b4 c4 w3 ho hf hg; have H3 : Hid (w3.ownsRow 0 36 3 (.slice (some ⟨b4, 0, none⟩) (k + 1) c4) (k + 1) (actC L g c k ++ [.int .i64 (-99), .int .i64 0, .slice none 0 0]) ∧ RowsAt w w3 v5 k g c (fun i => (actN L i).x ++ [165]) ∧ Below w.heap.size w w3 ∧ w.heap.size ≤ b4) := ⟨ho, copies_last HS.out hf hg⟩; clear ho hf hg)
      have hr := HCap.out _ _ _ _ H3.out.1
      have hr' : k ≤ c4 := by omega
      go_wp2
      go_ret2
      first
        | exact ⟨b4, c4, v5, g, c, rfl, hr, H3.out.2.2.2, H3.out.1, H3.out.2.1, H3.out.2.2.1⟩
        | exact ⟨b4, c4, v5, rfl, hr, H3.out.2.2.2, g, c, H3.out.1, H3.out.2.1, H3.out.2.2.1⟩
end Go.Proofs.Ytcjfgffkkjekoaa

namespace Go.Proofs.Ytcjfgffkkjekoaa
open Go.RowKit Rec
theorem lft_length (l : List Int) (L : List ActR) (keep : List Bool) (i : Nat) : (lft l L keep i).length = l.length := by
  induction i with
  | zero => rfl
  | succ i ih =>
    show (if (actN L i).kind = 1 ∧ lastsB L i keep = true then wr (lft l L keep i) (actN L i).b.toNat (actN L i).x else lft l L keep i).length = _
    split
    · rw [wr_length]; exact ih
    · exact ih
/-- the image or nothing -/
def imgU (n : Nat) (l : List Int) (L : List ActR) (keep : List Bool) : List Int := if aftE (n / 512) n L = 0 then lft l L keep L.length else []
/-- bytes in a row of one's own, or none -/
def RwA (B : Nat) (w : World) (a : Option Addr) (cap : Nat) (R : List Int) : Prop := (R = [] ∧ a = none ∧ cap = 0) ∨ ∃ g, a = some ⟨g, 0, none⟩ ∧ OwnB w g cap R ∧ B ≤ g
theorem RwA.bytes {B : Nat} {w : World} {a : Option Addr} {cap : Nat} {R : List Int} (h : RwA B w a cap R) : Bytes w a R := by
  rcases h with ⟨rfl, rfl, _⟩ | ⟨g, rfl, h, _⟩
  · exact ⟨by simp, fun i => by simp [nth], .inl rfl⟩
  · exact h.bytes
theorem RwA.on {B : Nat} {w w' : World} {a : Option Addr} {cap : Nat} {R : List Int} (h : RwA B w a cap R) (hb : Below w.heap.size w w') : RwA B w' a cap R := by
  rcases h with h | ⟨g, e, h, hB⟩
  · exact .inl h
  · exact .inr ⟨g, e, h.on hb, hB⟩
theorem RwA.owns {B : Nat} {w : World} {a : Option Addr} {cap : Nat} {R : List Int} (h : RwA B w a cap R) : w.ownsRow 0 5 1 (.slice a R.length cap) R.length (R.map (Value.int .u8)) := by
  rcases h with ⟨rfl, rfl, rfl⟩ | ⟨g, rfl, h, _⟩
  · exact ⟨rfl, .inl ⟨rfl, rfl⟩⟩
  · exact owns_of (B := 0) h (Nat.zero_le _)
theorem RwA.far {B : Nat} {w : World} {a : Option Addr} {cap n : Nat} {R : List Int} (h : RwA B w a cap R) {b : Nat} (hb : (Value.slice a n cap).ownBlock = some b) : B ≤ b := by
  rcases h with ⟨_, rfl, _⟩ | ⟨g, rfl, _, hB⟩
  · cases hb
  · cases hb; exact hB
theorem good_size {n : Nat} (h : n % 512 = 0 ∧ isz ((n / 512 : Nat) : Int) = true) : n = 512 * (n / 512) ∧ 1 ≤ n / 512 ∧ n / 512 ≤ 16384 := by
  have h2 := h.2
  unfold isz at h2
  simp only [Bool.and_eq_true, decide_eq_true_eq] at h2
  omega
theorem bad_size {n : Nat} (h : ¬ (n % 512 = 0 ∧ isz ((n / 512 : Nat) : Int) = true)) : n % 512 ≠ 0 ∨ isz ((n / 512 : Nat) : Int) = false := by
  by_cases h1 : n % 512 = 0
  · right
    cases h2 : isz ((n / 512 : Nat) : Int)
    · rfl
    · exact absurd ⟨h1, h2⟩ h
  · exact .inl h1
theorem afterU (w : World) (a : Option Addr) (n c : Nat) (l : List Int) (a0 : Option Addr) (m ac : Nat) (L : List ActR) (ka : Option Addr) (kn kc : Nat) (keep : List Bool) (hb : Bytes w a l) (hl : l.length = n) (hA : Acts w a0 L) (hm : L.length = m) (hK : Bools w (.slice ka kn kc) keep) (hkn : keep.length = kn) (hkb : kn ≤ 1000000000000000) :
    Calls Try.prog 8 #[.slice a n c, .slice a0 m ac, .slice ka kn kc] w fun e w' => ∃ v cap, e = .returned (.tuple #[.slice v (imgU n l L keep).length cap, .int .i64 (aftE (n / 512) n L)]) ∧ RwA w.heap.size w' v cap (imgU n l L keep) ∧ Below w.heap.size w w' := by
  subst hm
  have hlen := hb.len
  by_cases hg : n % 512 = 0 ∧ isz ((n / 512 : Nat) : Int) = true
  · obtain ⟨e1, h0, h1⟩ := good_size hg
    have ha : aftE (n / 512) n L = firstE (n / 512) L L.length := by unfold aftE; rw [if_pos hg]
    obtain ⟨p, rfl⟩ : ∃ p, a = some p := by
      rcases hb.at_ with e | ⟨b, o, e, _⟩
      · subst e; simp at hl; omega
      · exact ⟨_, e⟩
    by_cases hf : firstE (n / 512) L L.length = 0
    · have hi : imgU n l L keep = lft l L keep L.length := by unfold imgU; rw [ha, if_pos hf]
      have hz := (firstE_zero (n / 512) L L.length).1 hf
      have hE : ∀ q ∈ L, actE (n / 512) q = 0 := fun q hq => by
        obtain ⟨i, hi, e⟩ := List.getElem_of_mem hq
        have h3 := actN_some hi
        rw [List.getElem?_eq_getElem hi, e] at h3
        rw [Option.some.inj h3]; exact hz i hi
      have hk : ∀ i, i < L.length → (actN L i).kind = 1 ∨ (actN L i).kind = 2 := fun i hi => by
        have h3 := hz i hi
        unfold actE at h3
        by_cases c1 : (actN L i).kind = 1
        · exact .inl c1
        · rw [if_neg c1] at h3
          by_cases c2 : (actN L i).kind = 2
          · exact .inr c2
          · rw [if_neg c2] at h3; cases h3
      have hc := after_ok w p c (n / 512) l a0 ac L (.slice ka kn kc) keep hb (by omega) h0 h1 hA hE hK (by omega)
      rw [← e1] at hc
      refine hc.mono ?_
      rintro e w' ⟨g, cap, rfl, h3, h4, h5⟩
      rw [aft_lft _ _ _ _ hk] at h4
      rw [ha, hf, hi, lft_length, hl]
      exact ⟨_, cap, rfl, .inr ⟨g, rfl, h4, h3⟩, h5⟩
    · have hi : imgU n l L keep = [] := by unfold imgU; rw [ha, if_neg hf]
      have hc := after_err w p c (n / 512) l a0 ac L (.slice ka kn kc) keep hb (by omega) h0 h1 hA hf hK
      rw [← e1] at hc
      refine hc.mono ?_
      rintro e w' ⟨rfl, h5⟩
      rw [ha, hi]
      exact ⟨none, 0, rfl, .inl ⟨rfl, rfl, rfl⟩, h5⟩
  · have ha : aftE (n / 512) n L = 32 := by unfold aftE; rw [if_neg hg]
    have hi : imgU n l L keep = [] := by unfold imgU; rw [ha, if_neg (by decide)]
    refine (after_bad w a n c (by omega) (bad_size hg) a0 L.length ac ka kn kc).mono ?_
    rintro e w' ⟨rfl, rfl⟩
    rw [ha, hi]
    exact ⟨none, 0, rfl, .inl ⟨rfl, rfl, rfl⟩, Below.refl _ _⟩
theorem rafterU (w : World) (a : Option Addr) (n c : Nat) (l : List Int) (a0 : Option Addr) (m ac : Nat) (L : List ActR) (ka : Option Addr) (kn kc : Nat) (keep : List Bool) (hb : Bytes w a l) (hl : l.length = n) (hA : Acts w a0 L) (hm : L.length = m) (hK : Bools w (.slice ka kn kc) keep) (hkn : keep.length = kn) (hkb : kn ≤ 1000000000000000) :
    Calls Try.prog 4 #[.slice a n c, .slice a0 m ac, .slice ka kn kc] w fun e w' => ∃ v cap, e = .returned (.tuple #[.slice v (imgU n l L keep).length cap, .int .i64 (aftE (n / 512) n L)]) ∧ RwA w.heap.size w' v cap (imgU n l L keep) ∧ Below w.heap.size w w' := by
  subst hm
  have hlen := hb.len
  by_cases hg : n % 512 = 0 ∧ isz ((n / 512 : Nat) : Int) = true
  · obtain ⟨e1, h0, h1⟩ := good_size hg
    have ha : aftE (n / 512) n L = firstE (n / 512) L L.length := by unfold aftE; rw [if_pos hg]
    obtain ⟨p, rfl⟩ : ∃ p, a = some p := by
      rcases hb.at_ with e | ⟨b, o, e, _⟩
      · subst e; simp at hl; omega
      · exact ⟨_, e⟩
    have hc := rafter_any w p c (n / 512) l hb (by omega) h0 h1 a0 L.length ac L hA rfl ka kn kc keep hK hkn hkb
    rw [← e1] at hc
    refine hc.mono ?_
    rintro e w' ⟨h5, ⟨hf, rfl⟩ | ⟨hf, g, cap, rfl, h3, h4⟩⟩
    · have hi : imgU n l L keep = [] := by unfold imgU; rw [ha, if_neg hf]
      rw [ha, hi]
      exact ⟨none, 0, rfl, .inl ⟨rfl, rfl, rfl⟩, h5⟩
    · have hi : imgU n l L keep = lft l L keep L.length := by unfold imgU; rw [ha, if_pos hf]
      rw [ha, hf, hi, lft_length, hl]
      exact ⟨_, cap, rfl, .inr ⟨g, rfl, h4, h3⟩, h5⟩
  · have ha : aftE (n / 512) n L = 32 := by unfold aftE; rw [if_neg hg]
    have hi : imgU n l L keep = [] := by unfold imgU; rw [ha, if_neg (by decide)]
    refine (rafter_bad w a n c (by omega) (bad_size hg) a0 L.length ac ka kn kc).mono ?_
    rintro e w' ⟨rfl, rfl⟩
    rw [ha, hi]
    exact ⟨none, 0, rfl, .inl ⟨rfl, rfl, rfl⟩, Below.refl _ _⟩
/-- acts alike tell alike -/
theorem lft_cong {l : List Int} {L M : List ActR} {keep : List Bool} (hl : L.length = M.length) (h : ∀ i, i < L.length → (actN L i).kind = (actN M i).kind ∧ (actN L i).b = (actN M i).b ∧ (actN L i).x = (actN M i).x) (k : Nat) (hk : k ≤ L.length) : lft l L keep k = lft l M keep k ∧ numA L k = numA M k := by
  induction k with
  | zero => exact ⟨rfl, rfl⟩
  | succ k ih =>
    obtain ⟨i1, i2⟩ := ih (by omega)
    obtain ⟨e1, e2, e3⟩ := h k (by omega)
    have el : lastsB L k keep = lastsB M k keep := by
      unfold lastsB
      rw [i2]
      congr 1
      apply decide_eq_decide.2
      constructor
      · rintro ⟨j, j1, j2, j3⟩; exact ⟨j, by omega, j2, by rw [← (h j j1).1]; exact j3⟩
      · rintro ⟨j, j1, j2, j3⟩; exact ⟨j, by omega, j2, by rw [(h j (by omega)).1]; exact j3⟩
    constructor
    · show (if (actN L k).kind = 1 ∧ lastsB L k keep = true then wr (lft l L keep k) (actN L k).b.toNat (actN L k).x else lft l L keep k) = (if (actN M k).kind = 1 ∧ lastsB M k keep = true then wr (lft l M keep k) (actN M k).b.toNat (actN M k).x else lft l M keep k)
      rw [e1, e2, e3, el, i1]
    · show (if (actN L k).kind = 1 then numA L k + 1 else 0) = (if (actN M k).kind = 1 then numA M k + 1 else 0)
      rw [e1, i2]
theorem firstE_cong {nb : Nat} {L M : List ActR} (h : ∀ i, i < L.length → (actN L i).kind = (actN M i).kind ∧ (actN L i).b = (actN M i).b ∧ (actN L i).x = (actN M i).x) (k : Nat) (hk : k ≤ L.length) : firstE nb L k = firstE nb M k := by
  induction k with
  | zero => rfl
  | succ k ih =>
    obtain ⟨e1, e2, e3⟩ := h k (by omega)
    have ea : actE nb (actN L k) = actE nb (actN M k) := by unfold actE; rw [e1, e2, e3]
    simp only [firstE]
    rw [ih (by omega), ea]
theorem img_cong {n : Nat} {l : List Int} {L M : List ActR} {keep : List Bool} (hl : L.length = M.length) (h : ∀ i, i < L.length → (actN L i).kind = (actN M i).kind ∧ (actN L i).b = (actN M i).b ∧ (actN L i).x = (actN M i).x) : imgU n l L keep = imgU n l M keep ∧ aftE (n / 512) n L = aftE (n / 512) n M := by
  have e : aftE (n / 512) n L = aftE (n / 512) n M := by unfold aftE; rw [firstE_cong h _ (Nat.le_refl _), hl]
  refine ⟨?_, e⟩
  unfold imgU
  rw [e, (lft_cong hl h L.length (Nat.le_refl _)).1, hl]
end Go.Proofs.Ytcjfgffkkjekoaa

namespace Go.Proofs.Ytcjfgffkkjekoaa
open Go.RowKit Rec
set_option maxRecDepth 100000 in
set_option maxHeartbeats 1600000 in
theorem kept_own (w : World) (g cap n c : Nat) (a : Option Addr) (l : List Int) (hO : OwnB w g cap (l ++ [165])) (hb : Bytes w a l) (hl : l.length = n) (h47 : n ≤ 140737488351232) :
    Calls Try.prog 9 #[.slice (some ⟨g, 0, none⟩) (n + 1) cap, .slice a n c] w fun e w' => e = .returned (.bool true) ∧ Fr (fun k => k = g) w w' ∧ ∃ M : List Int, M.length = n + 1 ∧ OwnB w' g cap M := by
  have hcap : n + 1 ≤ cap := by have := hO.room; rw [List.length_append, hl] at this; exact this
  have HO : Hid (OwnB w g cap (l ++ [165])) := hO
  have HL : Hid (l.length = n) := hl
  have HD : Hid (Below w.heap.size w w.drew) := (Below.refl _ w).drew
  have e1 : ∀ k, (convert 22 9 (.slice (some ⟨g, 0, none⟩) n k)).run Try.prog w.drew = .ok (.string (strOfNums l)) w.drew := fun k => by
    have z := (hO.on HD.out).bytes.take n
    have e : (l ++ [165]).take n = l := by rw [← hl]; exact List.take_left
    rw [e] at z
    exact str_opt z hl
  have e2 : (convert 22 9 (.slice a n c)).run Try.prog w.drew = .ok (.string (strOfNums l)) w.drew := str_opt (hb.on HD.out) hl
  have hc : w.cell? ⟨g, n, none⟩ = some (.int .u8 165) := by
    have z := hO.cell n (by rw [List.length_append, hl]; simp)
    rw [z]
    have : nth (l ++ [165]) n = 165 := by rw [nth_app, if_neg (by omega), hl, Nat.sub_self]; rfl
    rw [this]
  clear hO hb hl
  go_enter Try.func9, Try.ntmps9
  go_wp2
  go_region
  all_goals
    go_wp2
    go_loopw [6, 25, 26, 27, 28, 29, 30, 31, 32, 33, 34, 35, 36] (fun _ i _ _ _ _ _ _ _ _ _ _ _ wr => ∃ k : Nat, k ≤ n + 1 ∧ i = .int .i64 k ∧ Fr (fun k => k = g) w wr ∧ ∃ M : List Int, M.length = n + 1 ∧ OwnB wr g cap M) (fun _ i _ _ _ _ _ _ _ _ _ _ _ _ => n + 1 - (intOf i).toNat)
    case atStart => exact ⟨0, Nat.zero_le _, rfl, below_fr HD.out _, _, by rw [List.length_append, HL.out]; rfl, HO.out.on HD.out⟩
    case round =>
      obtain ⟨k, hk, rfl, hf, M, hM, hOM⟩ := hrel
      have HF : Hid (Fr (fun k => k = g) w wr) := hf
      have HM : Hid (M.length = n + 1 ∧ OwnB wr g cap M) := ⟨hM, hOM⟩
      clear hf hM hOM e1 e2 hc
      by_cases hlt : k < n + 1
      · have d := HM.out.2.cell k (by rw [HM.out.1]; exact hlt)
        have f := HM.out.2.frozen k
        have hw := HM.out.2.wf k
        generalize nth M k = y at *
        go_wp2
        exact ⟨⟨k + 1, hlt, rfl, HF.out.trans Fr.set (fun _ e => .inl e), _, by rw [List.length_set]; exact HM.out.1, HM.out.2.set k _ (by rw [HM.out.1]; exact hlt) (by omega)⟩, by simp [intOf]; omega⟩
      · go_wp2
        go_ret
        exact ⟨rfl, HF.out, M, HM.out⟩
theorem fm3 (l : List Nat) (f0 f1 f2 : Nat → Value) (i a : Nat) (h : l[i]? = some a) : (l.flatMap fun q => [f0 q, f1 q, f2 q])[i * 3]? = some (f0 a) ∧ (l.flatMap fun q => [f0 q, f1 q, f2 q])[i * 3 + 1]? = some (f1 a) ∧ (l.flatMap fun q => [f0 q, f1 q, f2 q])[i * 3 + 2]? = some (f2 a) := by
  induction l generalizing i with
  | nil => simp at h
  | cons q l ih =>
    cases i with
    | zero => cases h; exact ⟨rfl, rfl, rfl⟩
    | succ i =>
      have := ih i (by simpa using h)
      have e : (i + 1) * 3 = i * 3 + 3 := by omega
      rw [e]
      exact this
/-- the copied acts, with what lies in them now -/
def LC (L : List ActR) (g c : Nat → Nat) (X : Nat → List Int) : List ActR := (List.range L.length).map fun i => ⟨(actN L i).kind, (actN L i).b, some ⟨g i, 0, none⟩, c i, X i⟩
theorem LC_len (L : List ActR) (g c : Nat → Nat) (X : Nat → List Int) : (LC L g c X).length = L.length := by simp [LC]
theorem LC_get (L : List ActR) (g c : Nat → Nat) (X : Nat → List Int) {i : Nat} (hi : i < L.length) : (LC L g c X)[i]? = some ⟨(actN L i).kind, (actN L i).b, some ⟨g i, 0, none⟩, c i, X i⟩ := by simp [LC, hi]
theorem LC_at (L : List ActR) (g c : Nat → Nat) (X : Nat → List Int) {i : Nat} (hi : i < L.length) : actN (LC L g c X) i = ⟨(actN L i).kind, (actN L i).b, some ⟨g i, 0, none⟩, c i, X i⟩ := by
  have h := actN_some (L := LC L g c X) (i := i) (by rw [LC_len]; exact hi)
  rw [LC_get L g c X hi] at h
  exact (Option.some.inj h).symm
/-- the cells of the copies -/
structure CpC (w : World) (L : List ActR) (n b4 : Nat) (g c : Nat → Nat) : Prop where
  act : ∀ i, i < n → w.cell? ⟨b4, i * 3, none⟩ = some (.int .i64 (actN L i).kind) ∧ w.cell? ⟨b4, i * 3 + 1, none⟩ = some (.int .i64 (actN L i).b) ∧ w.cell? ⟨b4, i * 3 + 2, none⟩ = some (.slice (some ⟨g i, 0, none⟩) (actN L i).x.length (c i))
  last : w.cell? ⟨b4, n * 3, none⟩ = some (.int .i64 (-99))
theorem cp_cells {w : World} {L : List ActR} {n b4 c4 : Nat} {g c : Nat → Nat} (h : w.ownsRow 0 36 3 (.slice (some ⟨b4, 0, none⟩) (n + 1) c4) (n + 1) (actC L g c n ++ [.int .i64 (-99), .int .i64 0, .slice none 0 0])) : CpC w L n b4 g c := by
  have hc := fun j u hj => World.ownsRow.cells h (g := b4) rfl j u hj
  have hl := actC_len L g c n
  have t : ∀ j u, (actC L g c n ++ [.int .i64 (-99), .int .i64 0, .slice none 0 0])[j]? = some u → w.cell? ⟨b4, j, none⟩ = some u := fun j u hj => by
    have := hc j u hj
    rw [Addr.add_lit, Nat.zero_add] at this
    exact this
  have t2 : ∀ j u, j < n * 3 → (actC L g c n)[j]? = some u → w.cell? ⟨b4, j, none⟩ = some u := fun j u hjn hj => t j u (by rw [List.getElem?_append_left (by rw [hl]; exact hjn)]; exact hj)
  refine ⟨fun i hi => ?_, ?_⟩
  · obtain ⟨e0, e1, e2⟩ := fm3 (List.range n) (fun i => .int .i64 (actN L i).kind) (fun i => .int .i64 (actN L i).b) (fun i => .slice (some ⟨g i, 0, none⟩) (actN L i).x.length (c i)) i i (by simp [hi])
    exact ⟨t2 _ _ (by omega) e0, t2 _ _ (by omega) e1, t2 _ _ (by omega) e2⟩
  · refine t _ _ ?_
    rw [List.getElem?_append_right (by rw [hl]; exact Nat.le_refl _), hl, Nat.sub_self]
    rfl
theorem CpC.fr {S : Nat → Prop} {w w' : World} {L : List ActR} {n b4 : Nat} {g c : Nat → Nat} (h : CpC w L n b4 g c) (x : Fr S w w') (hS : ¬ S b4) : CpC w' L n b4 g c :=
  ⟨fun i hi => ⟨x.cell (h.act i hi).1 hS, x.cell (h.act i hi).2.1 hS, x.cell (h.act i hi).2.2 hS⟩, x.cell h.last hS⟩
theorem LC_acts {w0 wr : World} {v5 : Value} {L : List ActR} {n b4 : Nat} {g c : Nat → Nat} {C : Nat → List Int} (hn : L.length = n) (hn4 : n ≤ 3518437208780) (hC : CpC wr L n b4 g c) (hR : RowsAt w0 wr v5 n g c C) (hl : ∀ i, i < n → (C i).length = (actN L i).x.length + 1) : Acts wr (some ⟨b4, 0, none⟩) (LC L g c (fun i => (C i).take (actN L i).x.length)) := by
  have hlt : ∀ i, i < n → ((C i).take (actN L i).x.length).length = (actN L i).x.length := fun i hi => by rw [List.length_take, hl i hi]; omega
  refine ⟨.inr ⟨b4, 0, rfl, fun i q hq => ?_⟩, fun q hq => ?_, by rw [LC_len, hn]; exact hn4⟩
  · have hi : i < n := by have := (List.getElem?_eq_some_iff.1 hq).1; rw [LC_len, hn] at this; exact this
    rw [LC_get L g c _ (by rw [hn]; exact hi)] at hq
    cases hq
    obtain ⟨e0, e1, e2⟩ := hC.act i hi
    rw [Nat.zero_add]
    refine ⟨e0, e1, ?_⟩
    show wr.cell? ⟨b4, i * 3 + 2, none⟩ = some (.slice (some ⟨g i, 0, none⟩) ((C i).take (actN L i).x.length).length (c i))
    rw [hlt i hi]; exact e2
  · obtain ⟨i, hi, rfl⟩ := List.getElem_of_mem hq
    have hi' : i < n := by rw [LC_len, hn] at hi; exact hi
    have h1 := LC_get L g c (fun i => (C i).take (actN L i).x.length) (i := i) (by rw [hn]; exact hi')
    rw [List.getElem?_eq_getElem hi] at h1
    rw [Option.some.inj h1]
    exact (hR.els i hi').1.bytes.take _
end Go.Proofs.Ytcjfgffkkjekoaa

namespace Go.Proofs.Ytcjfgffkkjekoaa
open Go.RowKit Rec
theorem OwnZ.bools {w : World} {g cap kn : Nat} {M : List Bool} (h : OwnZ w g cap M) (hk : kn ≤ M.length) : Bools w (.slice (some ⟨g, 0, none⟩) kn cap) (M.take kn) := by
  refine ⟨_, cap, by rw [List.length_take, Nat.min_eq_left hk], .inr ⟨g, 0, rfl, fun i x hi => ?_⟩⟩
  have hil := (List.getElem?_eq_some_iff.1 hi).1
  rw [List.length_take] at hil
  rw [Nat.zero_add, h.cell i (by omega)]
  rw [List.getElem?_take, if_pos (by omega)] at hi
  rw [List.getD_eq_getElem?_getD, hi]; rfl
theorem OwnZ.fr {S : Nat → Prop} {w w' : World} {g cap : Nat} {l : List Bool} (h : OwnZ w g cap l) (x : Fr S w w') (hg : ¬ S g) : OwnZ w' g cap l := owns_fr h x (fun k hk e => by cases hk; exact hg e)
/-- all that was handed in, copied -/
structure AfS (w2 wr : World) (L : List ActR) (m b4 : Nat) (v5 : Value) (g c : Nat → Nat) (C : Nat → List Int) (gx cx : Nat) (X : List Int) (gk ck : Nat) (K : List Bool) : Prop where
  cp : CpC wr L m b4 g c
  rows : RowsAt w2 wr v5 m g c C
  len : ∀ i, i < m → (C i).length = (actN L i).x.length + 1
  x : OwnB wr gx cx X
  k : OwnZ wr gk ck K
/-- and where it lies -/
structure AfG (w2 w3 w4 : World) (m b4 : Nat) (v5 : Value) (g : Nat → Nat) (gx gk : Nat) : Prop where
  b : w2.heap.size ≤ b4 ∧ b4 < w3.heap.size
  r : ∀ q, v5.ownBlock = some q → q < w3.heap.size ∧ q ≠ b4
  e : ∀ i, i < m → g i < w3.heap.size ∧ g i ≠ b4 ∧ v5.ownBlock ≠ some (g i)
  x : gx < w2.heap.size
  k : w3.heap.size ≤ gk ∧ gk < w4.heap.size
theorem AfS.fr {S : Nat → Prop} {w2 w3 w4 wr w' : World} {L : List ActR} {m b4 : Nat} {v5 : Value} {g c : Nat → Nat} {C : Nat → List Int} {gx cx : Nat} {X : List Int} {gk ck : Nat} {K : List Bool} (h : AfS w2 wr L m b4 v5 g c C gx cx X gk ck K) (G : AfG w2 w3 w4 m b4 v5 g gx gk) (h3 : w3.heap.size ≤ w4.heap.size) (x : Fr S wr w') (hS : ∀ k, S k → w4.heap.size ≤ k) : AfS w2 w' L m b4 v5 g c C gx cx X gk ck K := by
  have hb := G.b
  have hx := G.x
  have hk := G.k
  refine ⟨h.cp.fr x (fun e => by have := hS _ e; omega), h.rows.fr x (fun q hq e => by have := hS _ e; have := (G.r q hq).1; omega) (fun i hi e => by have := hS _ e; have := (G.e i hi).1; omega), h.len, ownB_fr h.x x (fun e => by have := hS _ e; omega), h.k.fr x (fun e => by have := hS _ e; omega)⟩
theorem AfS.on {w2 wr w' : World} {L : List ActR} {m b4 : Nat} {v5 : Value} {g c : Nat → Nat} {C : Nat → List Int} {gx cx : Nat} {X : List Int} {gk ck : Nat} {K : List Bool} (h : AfS w2 wr L m b4 v5 g c C gx cx X gk ck K) (hb : Below wr.heap.size wr w') : AfS w2 w' L m b4 v5 g c C gx cx X gk ck K :=
  ⟨h.cp.fr (below_fr hb (fun _ => False)) (fun e => e), h.rows.on hb, h.len, h.x.on hb, h.k.on hb⟩
theorem AfS.put {w2 w3 w4 wr w' : World} {L : List ActR} {m b4 k : Nat} {v5 : Value} {g c : Nat → Nat} {C : Nat → List Int} {gx cx : Nat} {X : List Int} {gk ck : Nat} {K : List Bool} {M : List Int} (h : AfS w2 wr L m b4 v5 g c C gx cx X gk ck K) (G : AfG w2 w3 w4 m b4 v5 g gx gk) (hk : k < m) (x : Fr (fun b => b = g k) wr w') (hM : OwnB w' (g k) (c k) M) (hl : M.length = (actN L k).x.length + 1) : AfS w2 w' L m b4 v5 g c (up C k M) gx cx X gk ck K := by
  have he := G.e k hk
  have hg := (h.rows.els k hk).2
  have hx := G.x
  have hkk := G.k
  have hlen : M.length = (C k).length := by rw [hl, h.len k hk]
  refine ⟨h.cp.fr x (fun e => he.2.1 e.symm), ⟨?_, h.rows.top, fun j hj => ?_, h.rows.apart⟩, fun i hi => ?_, ownB_fr h.x x (fun e => by omega), h.k.fr x (fun e => by omega)⟩
  · rw [hdrs_set _ _ _ _ _ _ hlen]
    exact owns_fr h.rows.own x (fun q hq e => he.2.2 (by rw [hq, e]))
  · by_cases e : j = k
    · subst e; rw [up_at]; exact ⟨hM, hg⟩
    · rw [up_off C _ e]; exact ⟨ownB_fr (h.rows.els j hj).1 x (fun e' => e (h.rows.apart j k hj hk e')), (h.rows.els j hj).2⟩
  · by_cases e : i = k
    · subst e; rw [up_at]; exact hl
    · rw [up_off C _ e]; exact h.len i hi
theorem AfS.putX {w2 w3 w4 wr w' : World} {L : List ActR} {m b4 : Nat} {v5 : Value} {g c : Nat → Nat} {C : Nat → List Int} {gx cx : Nat} {X : List Int} {gk ck : Nat} {K : List Bool} {M : List Int} (h : AfS w2 wr L m b4 v5 g c C gx cx X gk ck K) (G : AfG w2 w3 w4 m b4 v5 g gx gk) (h23 : w2.heap.size ≤ w3.heap.size) (x : Fr (fun b => b = gx) wr w') (hM : OwnB w' gx cx M) : AfS w2 w' L m b4 v5 g c C gx cx M gk ck K := by
  have hx := G.x
  have hb := G.b
  have hkk := G.k
  exact ⟨h.cp.fr x (fun e => by omega), h.rows.fr x (fun q hq e => by have := h.rows.top q hq; omega) (fun i hi e => by have := (h.rows.els i hi).2; omega), h.len, hM, h.k.fr x (fun e => by omega)⟩
theorem AfS.putK {w2 w3 w4 wr w' : World} {L : List ActR} {m b4 : Nat} {v5 : Value} {g c : Nat → Nat} {C : Nat → List Int} {gx cx : Nat} {X : List Int} {gk ck : Nat} {K : List Bool} {M : List Bool} (h : AfS w2 wr L m b4 v5 g c C gx cx X gk ck K) (G : AfG w2 w3 w4 m b4 v5 g gx gk) (h23 : w2.heap.size ≤ w3.heap.size) (x : Fr (fun b => b = gk) wr w') (hM : OwnZ w' gk ck M) : AfS w2 w' L m b4 v5 g c C gx cx X gk ck M := by
  have hx := G.x
  have hb := G.b
  have hkk := G.k
  exact ⟨h.cp.fr x (fun e => by omega), h.rows.fr x (fun q hq e => by have := (G.r q hq).1; omega) (fun i hi e => by have := (G.e i hi).1; omega), h.len, ownB_fr h.x x (fun e => by omega), hM⟩
end Go.Proofs.Ytcjfgffkkjekoaa

namespace Go.Proofs.Ytcjfgffkkjekoaa
open Go.RowKit Rec
set_option maxRecDepth 100000 in
set_option maxHeartbeats 8000000 in
theorem afters_any (w : World) (a : Option Addr) (n c : Nat) (l : List Int) (hb : Bytes w a l) (hl : l.length = n) (hz : a = none → c = 0) (h47 : n ≤ 140737488351232) (a0 : Option Addr) (m ac : Nat) (L : List ActR) (hA : Acts w a0 L) (hm : L.length = m) (hqc : ∀ q ∈ L, q.a = none → q.c = 0) (hq47 : ∀ q ∈ L, q.x.length ≤ 140737488351232)
    (ka : Option Addr) (kn kc : Nat) (keep : List Bool) (hK : Bools w (.slice ka kn kc) keep) (hkn : keep.length = kn) (hkz : ka = none → kc = 0) (hk47 : kn ≤ 140737488351232) :
    Calls Try.prog 3 #[.slice a n c, .slice a0 m ac, .slice ka kn kc] w fun e w' => e = .returned (.bool true) ∧ Below w.heap.size w w' := by
  have hm4 : m ≤ 3518437208780 := by rw [← hm]; exact hA.len
  have H0 : Hid (Bytes w a l ∧ l.length = n ∧ Acts w a0 L ∧ L.length = m ∧ Bools w (.slice ka kn kc) keep ∧ keep.length = kn ∧ ∀ q ∈ L, q.x.length ≤ 140737488351232) := ⟨hb, hl, hA, hm, hK, hkn, hq47⟩
  obtain ⟨IM, hIM⟩ : ∃ IM, imgU n l L keep = IM := ⟨_, rfl⟩
  obtain ⟨E, hE⟩ : ∃ E, aftE (n / 512) n L = E := ⟨_, rfl⟩
  have hI47 : IM.length ≤ 140737488351232 := by
    rw [← hIM]; unfold imgU
    split
    · rw [lft_length, hl]; exact h47
    · simp
  have CR : Hid (Calls Try.prog 4 #[.slice a n c, .slice a0 m ac, .slice ka kn kc] w fun e w' => ∃ v cap, e = .returned (.tuple #[.slice v IM.length cap, .int .i64 E]) ∧ RwA w.heap.size w' v cap IM ∧ Below w.heap.size w w') := by
    rw [← hIM, ← hE]; exact rafterU w a n c l a0 m ac L ka kn kc keep hb hl hA hm hK hkn (by omega)
  have CL : Hid (∀ wx, Below w.heap.size w wx → Calls Try.prog 5 #[.slice a n c] wx (Lent wx n l)) := fun wx h => lent_any wx a n c l (hb.on h) hl hz h47
  have CC : Hid (∀ wx, Below w.heap.size w wx → Calls Try.prog 6 #[.slice a0 m ac] wx fun e w' => ∃ b4 c4 v5 g c, e = .returned (.tuple #[.slice (some ⟨b4, 0, none⟩) m c4, v5]) ∧ m + 1 ≤ c4 ∧ wx.heap.size ≤ b4 ∧ w'.ownsRow 0 36 3 (.slice (some ⟨b4, 0, none⟩) (m + 1) c4) (m + 1) (actC L g c m ++ [.int .i64 (-99), .int .i64 0, .slice none 0 0]) ∧ RowsAt wx w' v5 m g c (fun i => (actN L i).x ++ [165]) ∧ Below wx.heap.size wx w') := fun wx h => copies_any wx a0 m ac L (hA.on h) hm hqc hq47
  have CM : Hid (∀ wx, Below w.heap.size w wx → Calls Try.prog 7 #[.slice ka kn kc] wx fun e w' => ∃ g cap, e = .returned (.tuple #[.slice (some ⟨g, 0, none⟩) kn cap, .slice (some ⟨g, 0, none⟩) (kn + 1) cap]) ∧ kn + 1 ≤ cap ∧ wx.heap.size ≤ g ∧ OwnZ w' g cap (keep ++ [true]) ∧ Below wx.heap.size wx w') := fun wx h => marks_any wx ka kn kc keep (hK.on h) hkn hkz hk47
  clear hb hl hA hm hK hkn hqc hq47 hz hkz
  have K0 : Hid True := trivial
  go_enter Try.func3, Try.ntmps3
  go_upto_region 5 with (first
    | (go_at_call 4; refine CR.out.mono ?_; rintro e w1 ⟨v1, c1, rfl, h1, h2⟩
       have H1 : Hid (RwA w.heap.size w1 v1 c1 IM ∧ Below w.heap.size w w1) := ⟨h1, h2⟩
       clear h1 h2)
    | (go_at_call 5; refine (CL.out _ H1.out.2).mono ?_; rintro e w2 ⟨gx, cx, rfl, h1, h2, h3⟩
       have H2 : Hid (w1.heap.size ≤ gx ∧ OwnB w2 gx cx (l ++ [165]) ∧ Below w1.heap.size w1 w2 ∧ Below w.heap.size w w2) := ⟨h1, h2, h3, H1.out.2.trans (h3.mono H1.out.2.size)⟩
       clear h1 h2 h3)
    | (go_at_call 6; refine (CC.out _ H2.out.2.2.2).mono ?_; rintro e w3 ⟨b4, c4, v5, g, cc, rfl, hc4, h2, h3, h4, h5⟩
       have H3 : Hid (w2.heap.size ≤ b4 ∧ w3.ownsRow 0 36 3 (.slice (some ⟨b4, 0, none⟩) (m + 1) c4) (m + 1) (actC L g cc m ++ [.int .i64 (-99), .int .i64 0, .slice none 0 0]) ∧ RowsAt w2 w3 v5 m g cc (fun i => (actN L i).x ++ [165]) ∧ Below w2.heap.size w2 w3 ∧ Below w.heap.size w w3) := ⟨h2, h3, h4, h5, H2.out.2.2.2.trans (h5.mono H2.out.2.2.2.size)⟩
       clear h2 h3 h4 h5)
    | (go_at_call 7; refine (CM.out _ H3.out.2.2.2.2).mono ?_; rintro e w4 ⟨gk, ck, rfl, hck, h2, h3, h4⟩
       have H4 : Hid (w3.heap.size ≤ gk ∧ OwnZ w4 gk ck (keep ++ [true]) ∧ Below w3.heap.size w3 w4 ∧ Below w.heap.size w w4) := ⟨h2, h3, h4, H3.out.2.2.2.2.trans (h4.mono H3.out.2.2.2.2.size)⟩
       clear h2 h3 h4))
  clear CR CL CC CM
  have HS : Hid (AfS w2 w4 L m b4 v5 g cc (fun i => (actN L i).x ++ [165]) gx cx (l ++ [165]) gk ck (keep ++ [true]) ∧ AfG w2 w3 w4 m b4 v5 g gx gk ∧ w3.heap.size ≤ w4.heap.size) := by
    have b34 := H4.out.2.2.1
    have b23 := H3.out.2.2.2.1
    have hbl : b4 < w3.heap.size := owns_block H3.out.2.1 rfl
    refine ⟨⟨(cp_cells H3.out.2.1).fr (below_fr b34 (fun _ => False)) (fun e => e), H3.out.2.2.1.on b34, fun i _ => by simp, (H2.out.2.1.on b23).on b34, H4.out.2.1⟩, ⟨⟨H3.out.1, hbl⟩, fun q hq => ⟨owns_block H3.out.2.2.1.own hq, fun e => own_apartO H3.out.2.2.1.own H3.out.2.1 (by decide) q hq (by rw [e]; rfl)⟩, fun i hi => ⟨(H3.out.2.2.1.els i hi).1.lt, fun e => own_apart7 H3.out.2.1 (H3.out.2.2.1.els i hi).1 (by decide) (by rw [e]; rfl), own_apart7 H3.out.2.2.1.own (H3.out.2.2.1.els i hi).1 (by decide)⟩, H2.out.2.1.lt, ⟨H4.out.1, owns_block H4.out.2.1 rfl⟩⟩, b34.size⟩
  have HW2 : Hid (w.heap.size ≤ w2.heap.size ∧ w2.heap.size ≤ w3.heap.size) := ⟨H2.out.2.2.2.size, H3.out.2.2.2.1.size⟩
  have HGX : Hid (w.heap.size ≤ gx) := Nat.le_trans H1.out.2.size H2.out.1
  have HA : Hid (∀ wx, Below w4.heap.size w4 wx → Calls Try.prog 8 #[.slice (some ⟨gx, 0, none⟩) n cx, .slice (some ⟨b4, 0, none⟩) m c4, .slice (some ⟨gk, 0, none⟩) kn ck] wx fun e w' => ∃ v cap, e = .returned (.tuple #[.slice v IM.length cap, .int .i64 E]) ∧ RwA wx.heap.size w' v cap IM ∧ Below wx.heap.size wx w') := fun wx hb => by
    have h := HS.out.1.on hb
    have hx : Bytes wx (some ⟨gx, 0, none⟩) l := by
      have h1 := h.x.bytes.take l.length
      rw [List.take_left] at h1; exact h1
    have hact := LC_acts H0.out.2.2.2.1 hm4 h.cp h.rows h.len
    have hkk : Bools wx (.slice (some ⟨gk, 0, none⟩) kn ck) keep := by
      have h1 := h.k.bools (kn := kn) (by rw [List.length_append, H0.out.2.2.2.2.2.1]; omega)
      rw [List.take_left' H0.out.2.2.2.2.2.1] at h1; exact h1
    have hcg := img_cong (n := n) (l := l) (L := L) (M := LC L g cc (fun i => ((actN L i).x ++ [165]).take (actN L i).x.length)) (keep := keep) (LC_len _ _ _ _).symm (fun i hi => by rw [LC_at L g cc _ hi]; exact ⟨rfl, rfl, List.take_left.symm⟩)
    have hq := afterU wx (some ⟨gx, 0, none⟩) n cx l (some ⟨b4, 0, none⟩) m c4 _ (some ⟨gk, 0, none⟩) kn ck keep hx H0.out.2.1 hact (by rw [LC_len]; exact H0.out.2.2.2.1) hkk H0.out.2.2.2.2.2.1 (by omega)
    rw [← hcg.1, ← hcg.2, hIM, hE] at hq
    exact hq
  have KK : Hid (RwA w.heap.size w4 v1 c1 IM ∧ Below w.heap.size w w4) := ⟨((H1.out.1.on H2.out.2.2.1).on H3.out.2.2.2.1).on H4.out.2.2.1, H4.out.2.2.2⟩
  clear H1 H2 H3 H4 hIM hE
  go_upto_region 7 with (first
    | (go_at_call 8; have hh := K0.out; clear hh; refine (HA.out _ (Below.refl _ _)).mono ?_; rintro e w5 ⟨v6, c6, rfl, h1, h2⟩
       have H5 : Hid (RwA w4.heap.size w5 v6 c6 IM ∧ Below w4.heap.size w4 w5) := ⟨h1, h2⟩
       clear h1 h2 K0)
    | (go_at_call 8; refine (HA.out _ H5.out.2).mono ?_; rintro e w6 ⟨v7, c7, rfl, h1, h2⟩
       have H6 : Hid (RwA w4.heap.size w6 v6 c6 IM ∧ RwA w5.heap.size w6 v7 c7 IM ∧ Below w4.heap.size w4 w6 ∧ ∀ b, (Value.slice v6 IM.length c6).ownBlock = some b → b < w5.heap.size) := ⟨H5.out.1.on h2, h1, H5.out.2.trans (h2.mono H5.out.2.size), fun b e => owns_block H5.out.1.owns e⟩
       clear h1 h2))
  clear HA H5
  have cv1 : (convert 22 9 (.slice v1 IM.length c1)).run Try.prog w6 = .ok (.string (strOfNums IM)) w6 := str_opt (KK.out.1.on H6.out.2.2.1).bytes rfl
  have cv6 : (convert 22 9 (.slice v6 IM.length c6)).run Try.prog w6 = .ok (.string (strOfNums IM)) w6 := str_opt H6.out.1.bytes rfl
  have cv7 : (convert 22 9 (.slice v7 IM.length c7)).run Try.prog w6 = .ok (.string (strOfNums IM)) w6 := str_opt H6.out.2.1.bytes rfl
  obtain ⟨SI, hSI⟩ : ∃ SI, strOfNums IM = SI := ⟨_, rfl⟩
  rw [hSI] at cv1 cv6 cv7
  go_upto_region 9 with fail
  clear cv1 cv6 cv7
  go_upto_block 0 with fail
  go_cut [] (fun wx => ∃ Y : List Int, Y.length = IM.length ∧ RwA w4.heap.size wx v6 c6 Y ∧ Fr (fun b => (Value.slice v6 IM.length c6).ownBlock = some b) w6 wx)
  case first => as_aux_lemma =>
    go_wp2
    go_loopw [83] (fun s83 wr => ∃ (k : Nat) (Y : List Int), s83 = .int .i64 (k : Int) ∧ k ≤ IM.length ∧ Y.length = IM.length ∧ RwA w4.heap.size wr v6 c6 Y ∧ Fr (fun b => (Value.slice v6 IM.length c6).ownBlock = some b) w6 wr) (fun s83 _ => IM.length - (intOf s83).toNat)
    case atStart => exact ⟨0, IM, rfl, Nat.zero_le _, rfl, H6.out.1, Fr.refl _ _⟩
    case round =>
      obtain ⟨k, Y, rfl, hk, hY, hI⟩ := hrel
      have HI : Hid (RwA w4.heap.size wr v6 c6 Y ∧ Fr (fun b => (Value.slice v6 IM.length c6).ownBlock = some b) w6 wr) := hI
      clear hI
      by_cases hlt : k < IM.length
      · have hlt' : (k : Int) < (IM.length : Int) := by omega
        obtain ⟨g6, rfl, hO, hg⟩ : ∃ g, v6 = some ⟨g, 0, none⟩ ∧ OwnB wr g c6 Y ∧ w4.heap.size ≤ g := by
          rcases HI.out.1 with ⟨e, _⟩ | h
          · rw [e] at hY; simp at hY; omega
          · exact h
        have e0 := hO.cell k (by omega)
        have e1 := hO.frozen k
        have HO : Hid (OwnB wr g6 c6 Y) := hO
        clear hO
        go_wp2
        go_round
        case rel => exact ⟨k + 1, Y.set k 91, by go_num, by omega, by rw [List.length_set]; exact hY, .inr ⟨g6, rfl, HO.out.set k 91 (by omega) (by decide), hg⟩, HI.out.2.trans Fr.set (fun b e => .inl (by rw [e]; rfl))⟩
        case measure => simp [intOf]; omega
      · have hlt' : ¬ (k : Int) < (IM.length : Int) := by omega
        go_wp2
        go_meet
        case rel => exact ⟨Y, hY, HI.out⟩
  case rest =>
  obtain ⟨Y, hY, hcut⟩ := hcut
  obtain ⟨w7, hw7⟩ : ∃ w7, wc = w7 := ⟨_, rfl⟩
  rw [hw7] at hcut ⊢
  have H7 : Hid (RwA w4.heap.size w7 v6 c6 Y ∧ Fr (fun b => (Value.slice v6 IM.length c6).ownBlock = some b) w6 w7) := hcut
  have HO7 : Hid (w7.ownsRow 0 5 1 (.slice v6 IM.length c6) IM.length (Y.map (Value.int .u8))) := by have h := hcut.1.owns; rw [hY] at h; exact h
  clear hcut hw7
  obtain ⟨i0, hi0, hi1, hi2, hi3⟩ := info_parts info5
  have ha7 : Below w7.heap.size w7 (w7.alloc (.cells #[.int .u8 91, .int .u8 91] 5)) := (Below.refl _ _).alloc (Nat.le_refl _) _
  go_upto_region 15 with (at_builtin; refine wp_own rfl (.tmp 90) (.tmp 91) 22 rfl 5 i0 _ 1 1 Try.underlying22 hi0 hi1 hi2 hi3 rfl (by decide) (.slice v6 IM.length c6) IM.length (Y.map (Value.int .u8)) rfl (owns_fr HO7.out (below_fr ha7 (fun _ => False)) (fun _ _ e => e)) ⟨w7.heap.size, 0, none⟩ 2 2 [.int .u8 91, .int .u8 91] rfl (by decide) rfl (fun j u hj => by match j, hj with | 0, hj => cases hj; rw [Addr.add_lit, cell_of_row _ _ _ _ _ _ (heap_alloc_new w7 _)]; rfl | 1, hj => cases hj; rw [Addr.add_lit, cell_of_row _ _ _ _ _ _ (heap_alloc_new w7 _)]; rfl) (by intro u hu; simp at hu; rw [hu]; rfl) (by unfold maxLen; omega) (by omega) ?_
                          intro g8 c8 w8 h1 h2 h3
                          have H8 : Hid (Fr (fun b => (Value.slice v6 IM.length c6).ownBlock = some b) w6 w8) := (H7.out.2.trans (below_fr ha7 (fun _ => False)) (fun _ e => e.elim)).trans h2 (fun b e => .inl e)
                          clear h1 h2 h3 ha7)
  have hfar : ∀ b, (Value.slice v6 IM.length c6).ownBlock = some b → w4.heap.size ≤ b := fun b e => H6.out.1.far e
  have HT : Hid (AfS w2 w8 L m b4 v5 g cc (fun i => (actN L i).x ++ [165]) gx cx (l ++ [165]) gk ck (keep ++ [true]) ∧ RwA w.heap.size w8 v1 c1 IM ∧ RwA w5.heap.size w8 v7 c7 IM ∧ Below w.heap.size w w8) := by
    have hk := KK.out.2.size
    refine ⟨(HS.out.1.on H6.out.2.2.1).fr HS.out.2.1 HS.out.2.2 H8.out hfar, ?_, ?_, ?_⟩
    · rcases KK.out.1 with h | ⟨q, e, h, h2⟩
      · exact .inl h
      · exact .inr ⟨q, e, ownB_fr (h.on H6.out.2.2.1) H8.out (fun e2 => by have := hfar _ e2; have := h.lt; omega), h2⟩
    · rcases H6.out.2.1 with h | ⟨q, e, h, h2⟩
      · exact .inl h
      · exact .inr ⟨q, e, ownB_fr h H8.out (fun e2 => by have := H6.out.2.2.2 _ e2; omega), h2⟩
    · exact (KK.out.2.trans (H6.out.2.2.1.mono hk)).trans (H8.out.below _ (fun b e => Nat.le_trans hk (hfar b e)) (Nat.le_trans hk H6.out.2.2.1.size))
  have cv1 : (convert 22 9 (.slice v1 IM.length c1)).run Try.prog w8 = .ok (.string SI) w8 := by rw [← hSI]; exact str_opt HT.out.2.1.bytes rfl
  have cv7 : (convert 22 9 (.slice v7 IM.length c7)).run Try.prog w8 = .ok (.string SI) w8 := by rw [← hSI]; exact str_opt HT.out.2.2.1.bytes rfl
  have d9 := HT.out.1.cp.last
  have hc4' : (m : Int) + 1 ≤ (c4 : Int) := by omega
  go_upto_region 17 with fail
  clear cv1 cv7 d9 HO7 H7 H8 H6 KK hSI hfar
  go_upto_block 2 with fail
  go_cut [] (fun wx => ∃ C : Nat → List Int, AfS w2 wx L m b4 v5 g cc C gx cx (l ++ [165]) gk ck (keep ++ [true]) ∧ Below w.heap.size w wx)
  case first => as_aux_lemma =>
    go_wp2
    go_loopw [113] (fun s113 wr => ∃ (k : Nat) (C : Nat → List Int), s113 = .int .i64 (k : Int) ∧ k ≤ m ∧ AfS w2 wr L m b4 v5 g cc C gx cx (l ++ [165]) gk ck (keep ++ [true]) ∧ (∀ i, k ≤ i → i < m → C i = (actN L i).x ++ [165]) ∧ Below w.heap.size w wr) (fun s113 _ => m - (intOf s113).toNat)
    case atStart => exact ⟨0, _, rfl, Nat.zero_le _, HT.out.1, fun i _ _ => rfl, HT.out.2.2.2⟩
    case round =>
      obtain ⟨k, C, rfl, hk, hI⟩ := hrel
      have HI : Hid (AfS w2 wr L m b4 v5 g cc C gx cx (l ++ [165]) gk ck (keep ++ [true]) ∧ (∀ i, k ≤ i → i < m → C i = (actN L i).x ++ [165]) ∧ Below w.heap.size w wr) := hI
      clear hI
      by_cases hlt : k < m
      · have hlt' : (k : Int) < (m : Int) := by omega
        obtain ⟨b, off, rfl, hcs⟩ := H0.out.2.2.1.cellsAt (by rw [H0.out.2.2.2.1]; omega)
        have hq := hcs k (by rw [H0.out.2.2.2.1]; exact hlt)
        have hmem : actN L k ∈ L := List.mem_of_getElem? (actN_some (by rw [H0.out.2.2.2.1]; exact hlt))
        have hby := (H0.out.2.2.1.each _ hmem).on HI.out.2.2
        have hq47 := H0.out.2.2.2.2.2.2 _ hmem
        have hbw : b < w.heap.size := block_lt_of_cell hq.f0
        have x0 := (HI.out.2.2.cell hbw).trans hq.f0
        have x1 := (HI.out.2.2.cell hbw).trans hq.f1
        have x2 := (HI.out.2.2.cell hbw).trans hq.f2
        obtain ⟨y0, y1, y2⟩ := HI.out.1.cp.act k hlt
        have hO := (HI.out.1.rows.els k hlt).1
        rw [HI.out.2.1 k (Nat.le_refl _) hlt] at hO
        obtain ⟨rb, cv, rfl⟩ : ∃ rb cv, v5 = .slice (some ⟨rb, 0, none⟩) m cv := by
          rcases HI.out.1.rows.own.2 with ⟨_, e⟩ | ⟨rb, cv, cur, e, _⟩
          · omega
          · exact ⟨rb, cv, e⟩
        have z0 := HI.out.1.rows.is k hlt
        rw [HI.out.1.len k hlt] at z0
        have he := HS.out.2.1.e k hlt
        have hgk := (HI.out.1.rows.els k hlt).2
        have hg : b4 ≠ g k ∧ rb ≠ g k ∧ b ≠ g k := ⟨fun e => he.2.1 e.symm, fun e => he.2.2 (by rw [← e]; rfl), by have := HW2.out.1; omega⟩
        have HKp : Hid (∀ wx, Below wr.heap.size wr wx → Calls Try.prog 9 #[.slice (some ⟨g k, 0, none⟩) ((actN L k).x.length + 1) (cc k), .slice (actN L k).a (actN L k).x.length (actN L k).c] wx fun e w' => e = .returned (.bool true) ∧ Fr (fun b => b = g k) wr w' ∧ ∃ M : List Int, M.length = (actN L k).x.length + 1 ∧ OwnB w' (g k) (cc k) M) := fun wx hb => by
          refine (kept_own wx (g k) (cc k) _ (actN L k).c (actN L k).a (actN L k).x (hO.on hb) (hby.on hb) rfl hq47).mono ?_
          rintro e w' ⟨rfl, hf, hM⟩
          exact ⟨rfl, (below_fr hb (fun b => b = g k)).trans hf (fun b e => .inl e), hM⟩
        clear hcs hq hmem hby hO he hgk y2
        obtain ⟨q, hqe⟩ : ∃ q, actN L k = q := ⟨_, rfl⟩
        have HQ : Hid (actN L k = q) := hqe
        rw [hqe] at x0 x1 x2 y0 y1 z0 HKp hq47
        clear hqe
        obtain ⟨kd, qb, qa, qc, qx⟩ := q
        dsimp only at x0 x1 x2 y0 y1 z0 HKp hq47
        obtain ⟨xl, hxl⟩ : ∃ xl, qx.length = xl := ⟨_, rfl⟩
        rw [hxl] at x2 z0 HKp hq47
        have HG : Hid (b4 ≠ g k ∧ rb ≠ g k ∧ b ≠ g k) := hg
        obtain ⟨gi, hgi⟩ : ∃ gi, g k = gi := ⟨_, rfl⟩
        obtain ⟨ci, hci⟩ : ∃ ci, cc k = ci := ⟨_, rfl⟩
        rw [hgi, hci] at HKp z0
        rw [hgi] at HG
        clear hg hbw
        have HD : Hid (Below wr.heap.size wr wr.drew) := (Below.refl _ _).drew
        go_upto_region 20 with fail
        go_region_held3 (fun w' => w'.cell? ⟨b4, k * 3, none⟩ = some (.int .i64 kd) ∧ w'.cell? ⟨b, off + k * 3, none⟩ = some (.int .i64 kd) ∧ w'.cell? ⟨b4, k * 3 + 1, none⟩ = some (.int .i64 qb) ∧ w'.cell? ⟨b, off + k * 3 + 1, none⟩ = some (.int .i64 qb) ∧ w'.cell? ⟨rb, k, none⟩ = some (.slice (some ⟨gi, 0, none⟩) (xl + 1) ci) ∧ w'.cell? ⟨b, off + k * 3 + 2, none⟩ = some (.slice qa xl qc)) (first | assumption | exact hS1 | go_keep)
          (first
            | (go_at_call 9; refine (HKp.out _ (by first | exact HD.out | exact Below.refl _ _)).mono ?_; rintro e u1 ⟨rfl, hf, M, hM, hOM⟩
               have hS1 : u1.cell? ⟨b4, k * 3, none⟩ = some (.int .i64 kd) ∧ u1.cell? ⟨b, off + k * 3, none⟩ = some (.int .i64 kd) ∧ u1.cell? ⟨b4, k * 3 + 1, none⟩ = some (.int .i64 qb) ∧ u1.cell? ⟨b, off + k * 3 + 1, none⟩ = some (.int .i64 qb) ∧ u1.cell? ⟨rb, k, none⟩ = some (.slice (some ⟨gi, 0, none⟩) (xl + 1) ci) ∧ u1.cell? ⟨b, off + k * 3 + 2, none⟩ = some (.slice qa xl qc) := ⟨hf.cell y0 HG.out.1, hf.cell x0 HG.out.2.2, hf.cell y1 HG.out.1, hf.cell x1 HG.out.2.2, hf.cell z0 HG.out.2.1, hf.cell x2 HG.out.2.2⟩
               have H1 : Hid (Fr (fun b => b = gi) wr u1 ∧ M.length = xl + 1 ∧ OwnB u1 gi ci M) := ⟨hf, hM, hOM⟩
               clear hf hM hOM HKp))
        all_goals
          have H2 : Hid (AfS w2 u1 L m b4 (.slice (some ⟨rb, 0, none⟩) m cv) g cc (up C k M) gx cx (l ++ [165]) gk ck (keep ++ [true]) ∧ Below w.heap.size w u1) := by
            have hf : Fr (fun b => b = g k) wr u1 := by rw [hgi]; exact H1.out.1
            have hgk := (HI.out.1.rows.els k hlt).2
            exact ⟨HI.out.1.put HS.out.2.1 hlt hf (by rw [hgi, hci]; exact H1.out.2.2) (by rw [HQ.out]; exact H1.out.2.1.trans (by rw [← hxl])), HI.out.2.2.trans (hf.below _ (fun b e => by have := HW2.out.1; have e : b = g k := e; omega) HI.out.2.2.size)⟩
          clear hS1 x0 x1 x2 y0 y1 z0
          go_wp2
          go_round
          case rel => exact ⟨k + 1, up C k M, by go_num, by omega, H2.out.1, fun i hi him => by rw [up_off C _ (by omega)]; exact HI.out.2.1 i (by omega) him, H2.out.2⟩
          case measure => simp [intOf]; omega
      · have hlt' : ¬ (k : Int) < (m : Int) := by omega
        obtain rfl : k = m := by omega
        go_wp2
        go_meet
        case rel => exact ⟨C, HI.out.1, HI.out.2.2⟩
  case rest =>
  obtain ⟨C, hcut⟩ := hcut
  obtain ⟨w9, hw9⟩ : ∃ w9, wc = w9 := ⟨_, rfl⟩
  rw [hw9] at hcut ⊢
  have H9 : Hid (AfS w2 w9 L m b4 v5 g cc C gx cx (l ++ [165]) gk ck (keep ++ [true]) ∧ Below w.heap.size w w9) := hcut
  clear hcut hw9 HT
  have C1 : Hid (Calls Try.prog 9 #[.slice (some ⟨gx, 0, none⟩) (n + 1) cx, .slice a n c] w9 fun e w' => e = .returned (.bool true) ∧ Fr (fun k => k = gx) w9 w' ∧ ∃ M : List Int, M.length = n + 1 ∧ OwnB w' gx cx M) := kept_own w9 gx cx n c a l H9.out.1.x (H0.out.1.on H9.out.2) H0.out.2.1 h47
  have hgx : w.heap.size ≤ gx := HGX.out
  have K1 : Hid True := trivial
  go_upto_region 25 with (first
    | (go_at_call 9; refine C1.out.mono ?_; rintro e u1 ⟨rfl, hf, X', hX', hOX⟩
       have G1 : Hid (AfS w2 u1 L m b4 v5 g cc C gx cx X' gk ck (keep ++ [true]) ∧ X'.length = n + 1 ∧ Below w.heap.size w u1) := ⟨H9.out.1.putX HS.out.2.1 HW2.out.2 hf hOX, hX', H9.out.2.trans (hf.below _ (fun b e => by have e : b = gx := e; omega) H9.out.2.size)⟩
       clear hf hX' hOX)
    | (go_at_call 10; refine (unmarked_any u1 gk ck ka kn kc keep G1.out.1.k (H0.out.2.2.2.2.1.on G1.out.2.2) H0.out.2.2.2.2.2.1 hk47).mono ?_; rintro e u2 ⟨rfl, K', hK', hOK, hf⟩
       have G2 : Hid (AfS w2 u2 L m b4 v5 g cc C gx cx X' gk ck K' ∧ X'.length = n + 1 ∧ K'.length = kn + 1 ∧ Below w.heap.size w u2) := ⟨G1.out.1.putK HS.out.2.1 HW2.out.2 hf hOK, G1.out.2.1, hK', G1.out.2.2.trans (hf.below _ (fun b e => by have e : b = gk := e; have := HS.out.2.1.k; have := HW2.out; omega) G1.out.2.2.size)⟩
       clear hf hK' hOK))
  clear C1 H9 G1
  obtain ⟨I2, hI2⟩ : ∃ I2, imgU n (X'.take n) (LC L g cc (fun i => (C i).take (actN L i).x.length)) (K'.take kn) = I2 := ⟨_, rfl⟩
  obtain ⟨E2, hE2⟩ : ∃ E2, aftE (n / 512) n (LC L g cc (fun i => (C i).take (actN L i).x.length)) = E2 := ⟨_, rfl⟩
  have HIn : Hid (∀ wx, Below u2.heap.size u2 wx → Bytes wx (some ⟨gx, 0, none⟩) (X'.take n) ∧ Acts wx (some ⟨b4, 0, none⟩) (LC L g cc (fun i => (C i).take (actN L i).x.length)) ∧ Bools wx (.slice (some ⟨gk, 0, none⟩) kn ck) (K'.take kn)) := fun wx hb => by
    have h := G2.out.1.on hb
    exact ⟨h.x.bytes.take n, LC_acts H0.out.2.2.2.1 hm4 h.cp h.rows h.len, h.k.bools (by rw [G2.out.2.2.1]; omega)⟩
  have hXn : (X'.take n).length = n := by rw [List.length_take, G2.out.2.1]; omega
  have hKn : (K'.take kn).length = kn := by rw [List.length_take, G2.out.2.2.1]; omega
  have hLn : (LC L g cc (fun i => (C i).take (actN L i).x.length)).length = m := by rw [LC_len]; exact H0.out.2.2.2.1
  have CA : Hid (Calls Try.prog 8 #[.slice (some ⟨gx, 0, none⟩) n cx, .slice (some ⟨b4, 0, none⟩) m c4, .slice (some ⟨gk, 0, none⟩) kn ck] u2 fun e w' => ∃ v cap, e = .returned (.tuple #[.slice v I2.length cap, .int .i64 E2]) ∧ RwA u2.heap.size w' v cap I2 ∧ Below u2.heap.size u2 w') := by
    obtain ⟨i1, i2, i3⟩ := HIn.out u2 (Below.refl _ _)
    rw [← hI2, ← hE2]
    exact afterU u2 _ n cx _ _ m c4 _ _ kn ck _ i1 hXn i2 hLn i3 hKn (by omega)
  have CB : Hid (∀ wx, Below u2.heap.size u2 wx → Calls Try.prog 4 #[.slice (some ⟨gx, 0, none⟩) n cx, .slice (some ⟨b4, 0, none⟩) m c4, .slice (some ⟨gk, 0, none⟩) kn ck] wx fun e w' => ∃ v cap, e = .returned (.tuple #[.slice v I2.length cap, .int .i64 E2]) ∧ RwA wx.heap.size w' v cap I2 ∧ Below wx.heap.size wx w') := fun wx hb => by
    obtain ⟨i1, i2, i3⟩ := HIn.out wx hb
    rw [← hI2, ← hE2]
    exact rafterU wx _ n cx _ _ m c4 _ _ kn ck _ i1 hXn i2 hLn i3 hKn (by omega)
  clear hI2 hE2 hXn hKn hLn HIn
  go_upto_region 27 with (first
    | (go_at_call 8; refine CA.out.mono ?_; rintro e u3 ⟨p1, d1, rfl, h1, h2⟩
       have G3 : Hid (RwA u2.heap.size u3 p1 d1 I2 ∧ Below u2.heap.size u2 u3) := ⟨h1, h2⟩
       clear h1 h2)
    | (go_at_call 4; refine (CB.out _ G3.out.2).mono ?_; rintro e u4 ⟨p2, d2, rfl, h1, h2⟩
       have G4 : Hid (RwA u2.heap.size u4 p1 d1 I2 ∧ RwA u3.heap.size u4 p2 d2 I2 ∧ Below u2.heap.size u2 u4) := ⟨G3.out.1.on h2, h1, G3.out.2.trans (h2.mono G3.out.2.size)⟩
       clear h1 h2))
  have cv1 : (convert 22 9 (.slice p1 I2.length d1)).run Try.prog u4 = .ok (.string (strOfNums I2)) u4 := str_opt G4.out.1.bytes rfl
  have cv2 : (convert 22 9 (.slice p2 I2.length d2)).run Try.prog u4 = .ok (.string (strOfNums I2)) u4 := str_opt G4.out.2.1.bytes rfl
  obtain ⟨S2, hS2⟩ : ∃ S2, strOfNums I2 = S2 := ⟨_, rfl⟩
  rw [hS2] at cv1 cv2
  go_wp2
  go_ret
  exact ⟨by simp, G2.out.2.2.2.trans (G4.out.2.2.mono G2.out.2.2.2.size)⟩
end Go.Proofs.Ytcjfgffkkjekoaa

namespace Go.Proofs.Ytcjfgffkkjekoaa
open Rec Go.ChangeShapes Go.WideShapes Go.ChangeAt Go.RowKit
theorem weightsAll_mem {H : Type} (P : Program) (e : TypeId) : ∀ (l : List (DataW H)) (d : DataW H), d ∈ l → ∀ n ∈ d.weights P e, n ∈ DataW.weightsAll P e l
  | x :: r, d, hd, n, hn => by
    rw [DataW.weightsAll]
    rcases List.mem_cons.1 hd with rfl | h
    · exact List.mem_append_left _ hn
    · exact List.mem_append_right _ (weightsAll_mem P e r d h n hn)
theorem recs_list {R : Type} (sz : Nat) (cells : R → List Value) (ok : R → Prop) (W : World) (x : Addr) (len : Nat) (hex : ∀ i, i < len → ∃ q : R, ok q ∧ ∀ j, j < sz → W.cell? ((x.add (i * sz)).add j) = (cells q)[j]?) :
    ∀ k, k ≤ len → ∃ L : List R, L.length = k ∧ (∀ q ∈ L, ok q) ∧ ∀ i q, L[i]? = some q → ∀ j, j < sz → W.cell? ((x.add (i * sz)).add j) = (cells q)[j]?
  | 0, _ => ⟨[], rfl, fun q h => by simp at h, fun i q h => by simp at h⟩
  | k + 1, hk => by
    obtain ⟨L, hl, h1, h2⟩ := recs_list sz cells ok W x len hex k (by omega)
    obtain ⟨q, q1, q2⟩ := hex k (by omega)
    refine ⟨L ++ [q], by simp [hl], fun r hr => ?_, fun i r hr => ?_⟩
    · rcases List.mem_append.1 hr with h | h
      · exact h1 r h
      · simp at h; subst h; exact q1
    · by_cases hi : i < L.length
      · rw [List.getElem?_append_left hi] at hr; exact h2 i r hr
      · rw [List.getElem?_append_right (by omega)] at hr
        have : i - L.length = 0 := by
          by_cases h : i - L.length = 0
          · exact h
          · rw [List.getElem?_eq_none (by simp; omega)] at hr; cases hr
        rw [this] at hr
        simp at hr
        subst hr
        have e : i = k := by omega
        rw [e]; exact q2
theorem list3a {α : Type} (l : List α) (h : l.length = 3) : ∃ a b c, l = [a, b, c] := by
  match l, h with
  | [a, b, c], _ => exact ⟨a, b, c, rfl⟩
theorem cellsA : Try.prog.cellsOf 36 = 3 := by kernel_rfl
theorem cellsBy : Try.prog.cellsOf 22 = 1 := by kernel_rfl
theorem cellsB : Try.prog.cellsOf 4 = 1 := by kernel_rfl
theorem bytesA : Try.prog.bytesOf 36 = 40 := by kernel_rfl
theorem bytesB : Try.prog.bytesOf 4 = 1 := by kernel_rfl
def ActOk (W : World) (q : ActR) : Prop := Bytes W q.a q.x ∧ (q.a = none → q.c = 0) ∧ q.x.length ≤ 140737488351232
/-- one act -/
theorem open_act {H : Type} {enc : TypeId × Value → H} {W : World} {cs : List Value} {D : DataW H} {Pl : List MemPlace} {fuel : Nat}
    (hf : DataW.trod enc Try.prog W 0 (fun _ => true) true fuel 36 cs = some (D, Pl)) (hz : ∀ n ∈ D.weights Try.prog 36, n ≤ reachBytes) :
    ∃ q : ActR, ActOk W q ∧ cs = [.int .i64 q.kind, .int .i64 q.b, .slice q.a q.x.length q.c] := by
  obtain ⟨xs, m, hm, hx, hlen, hxl, hel⟩ := DataW.trod_struct Try.underlying36 hf
  rw [cellsA] at hlen
  obtain ⟨v0, v1, v2, rfl⟩ := list3a cs hlen
  obtain ⟨x0, x1, x2, rfl⟩ := list3a xs hxl
  have e0 := hel 0 _ rfl
  have e1 := hel 1 _ rfl
  have e2 := hel 2 _ rfl
  clear hel
  simp [cellsN, cellsBy] at e0 e1 e2
  obtain ⟨kd, z0, _, _⟩ := DataW.trod_int Try.underlying3 e0
  obtain ⟨b, z1, _, _⟩ := DataW.trod_int Try.underlying3 e1
  have h2 : ∃ a len cap, [v2] = [Value.slice a len cap] := by
    rcases open_ints Try.underlying22 Try.underlying5 cells5 e2 with ⟨hcs, _⟩ | ⟨x, l, c, zs, hcs, _⟩
    · exact ⟨_, _, _, hcs⟩
    · exact ⟨_, _, _, hcs⟩
  obtain ⟨a2, n2, c2, h2⟩ := h2
  simp at z0 z1 h2
  subst z0 z1 h2
  have hD : D = .agg [x0.1, x1.1, x2.1] := (Prod.mk.inj hx).1
  subst hD
  have w2 : ∀ n ∈ x2.1.weights Try.prog 22, n ≤ reachBytes := fun n hn => hz n (by
    simp only [DataW.weights, Try.underlying36, List.map_cons, List.map_nil, DataW.weightsEach]
    exact List.mem_append_right _ (List.mem_append_right _ (List.mem_append_left _ hn)))
  obtain ⟨bs, t1, t2, t3, t4⟩ := open_bytes e2 w2
  exact ⟨⟨kd, b, a2, c2, bs⟩, ⟨t2, t3, by show bs.length ≤ _; omega⟩, by show _ = [Value.int .i64 kd, .int .i64 b, .slice a2 bs.length c2]; rw [t1]⟩
/-- a []Act among the arguments -/
theorem open_acts {H : Type} {enc : TypeId × Value → H} {W : World} {a : Option Addr} {len cap : Nat} {d : DataW H} {p : List MemPlace} {fuel : Nat}
    (hf : DataW.trod enc Try.prog W 0 (fun _ => true) true fuel 23 [.slice a len cap] = some (d, p)) (hz : ∀ n ∈ d.weights Try.prog 23, n ≤ reachBytes) :
    ∃ L : List ActR, L.length = len ∧ Acts W a L ∧ (∀ q ∈ L, q.a = none → q.c = 0) ∧ ∀ q ∈ L, q.x.length ≤ 140737488351232 := by
  rcases Deep.open_slice Try.underlying23 hf with ⟨hcs, _⟩ | ⟨x, len', cap', m, n, D, Pl, hcs, _, hl, hm, hmm, hx, hel⟩
  · simp at hcs
    obtain ⟨rfl, rfl, rfl⟩ := hcs
    exact ⟨[], rfl, ⟨.inl rfl, fun q h => by simp at h, by simp⟩, fun q h => by simp at h, fun q h => by simp at h⟩
  · simp only [List.cons.injEq, Value.slice.injEq, and_true] at hcs
    obtain ⟨rfl, rfl, rfl⟩ := hcs
    simp only [Prod.mk.injEq] at hx
    obtain ⟨rfl, _⟩ := hx
    simp only [if_true] at hmm
    subst hmm
    have hlen : len ≤ 3518437208780 := by
      have h2 := hz ((((List.range len).map D).length + ((List.range (m - len)).map fun j => D (len + j)).length) * Try.prog.bytesOf 36) (by simp [DataW.weights, Try.underlying23])
      rw [bytesA] at h2
      simp [reachBytes] at h2
      omega
    have hw : ∀ i, i < len → ∀ k ∈ (D i).weights Try.prog 36, k ≤ reachBytes := by
      intro i hi k hk
      refine hz k ?_
      have := weightsAll_mem Try.prog 36 ((List.range len).map D) (D i) (List.mem_map.2 ⟨i, List.mem_range.2 hi, rfl⟩) k hk
      simp only [DataW.weights, Try.underlying23]
      exact List.mem_cons_of_mem _ (List.mem_append_left _ this)
    have hex : ∀ i, i < len → ∃ q : ActR, ActOk W q ∧ ∀ j, j < 3 → W.cell? ((x.add (i * 3)).add j) = [Value.int .i64 q.kind, .int .i64 q.b, .slice q.a q.x.length q.c][j]? := by
      intro i hi
      obtain ⟨cs', hc1, hc2⟩ := hel i (by omega)
      rw [cellsA] at hc1
      obtain ⟨q, q1, rfl⟩ := open_act hc2 (hw i hi)
      obtain ⟨_, _, hcell⟩ := World.cells?_some hc1
      exact ⟨q, q1, hcell⟩
    obtain ⟨L, hL, h1, h2⟩ := recs_list 3 (fun q : ActR => [Value.int .i64 q.kind, .int .i64 q.b, .slice q.a q.x.length q.c]) (ActOk W) W x len hex len (Nat.le_refl _)
    refine ⟨L, hL, ⟨?_, fun q hq => (h1 q hq).1, by omega⟩, fun q hq => (h1 q hq).2.1, fun q hq => (h1 q hq).2.2⟩
    by_cases h0 : len = 0
    · exact .inl (List.eq_nil_of_length_eq_zero (by omega))
    · obtain ⟨q, _, q1⟩ := hex 0 (by omega)
      have c0 := q1 0 (by omega)
      obtain ⟨b, off, spot⟩ := x
      have hspot : spot = none := by
        have := World.cell?_spot (w := W) (show W.cell? _ = some _ from c0)
        simpa [Addr.add] using this
      subst hspot
      refine .inr ⟨b, off, rfl, fun i q hq => ?_⟩
      have hh := h2 i q hq
      have ad : ∀ j, ((⟨b, off, none⟩ : Addr).add (i * 3)).add j = ⟨b, off + i * 3 + j, none⟩ := fun j => by rw [Addr.add_lit, Addr.add_lit]
      refine ⟨?_, ?_, ?_⟩
      · have := hh 0 (by omega); rw [ad] at this; exact this
      · have := hh 1 (by omega); rw [ad] at this; exact this
      · have := hh 2 (by omega); rw [ad] at this; exact this
theorem open_bools {H : Type} {enc : TypeId × Value → H} {W : World} {a : Option Addr} {len cap : Nat} {d : DataW H} {p : List MemPlace} {fuel : Nat}
    (hf : DataW.trod enc Try.prog W 0 (fun _ => true) true fuel 24 [.slice a len cap] = some (d, p)) (hz : ∀ n ∈ d.weights Try.prog 24, n ≤ reachBytes) :
    ∃ L : List Bool, L.length = len ∧ len ≤ cap ∧ len ≤ 140737488351232 ∧ (a = none → cap = 0) ∧ Bools W (.slice a len cap) L := by
  rcases Deep.open_slice Try.underlying24 hf with ⟨hcs, _⟩ | ⟨x, len', cap', m, n, D, Pl, hcs, _, hl, hm, hmm, hx, hel⟩
  · simp at hcs
    obtain ⟨rfl, rfl, rfl⟩ := hcs
    exact ⟨[], rfl, Nat.le_refl _, by omega, fun _ => rfl, _, _, rfl, .inl rfl⟩
  · simp only [List.cons.injEq, Value.slice.injEq, and_true] at hcs
    obtain ⟨rfl, rfl, rfl⟩ := hcs
    simp only [Prod.mk.injEq] at hx
    obtain ⟨rfl, _⟩ := hx
    simp only [if_true] at hmm
    subst hmm
    have hlen : len ≤ 140737488351232 := by
      have h2 := hz ((((List.range len).map D).length + ((List.range (m - len)).map fun j => D (len + j)).length) * Try.prog.bytesOf 4) (by simp [DataW.weights, Try.underlying24])
      rw [bytesB] at h2
      simp [reachBytes] at h2
      omega
    have hex : ∀ i, i < len → ∃ q : Bool, True ∧ ∀ j, j < 1 → W.cell? ((x.add (i * 1)).add j) = [Value.bool q][j]? := by
      intro i hi
      obtain ⟨cs', hc1, hc2⟩ := hel i (by omega)
      rw [cellsB] at hc1
      obtain ⟨q, rfl, _⟩ := DataW.trod_bool Try.underlying4 hc2
      obtain ⟨_, _, hcell⟩ := World.cells?_some hc1
      exact ⟨q, trivial, hcell⟩
    obtain ⟨L, hL, _, h2⟩ := recs_list 1 (fun q : Bool => [Value.bool q]) (fun _ => True) W x len hex len (Nat.le_refl _)
    refine ⟨L, hL, hl, hlen, fun h => (nomatch h), ⟨_, _, by rw [hL], ?_⟩⟩
    by_cases h0 : len = 0
    · exact .inl (List.eq_nil_of_length_eq_zero (by omega))
    · obtain ⟨q, _, q1⟩ := hex 0 (by omega)
      have c0 := q1 0 (by omega)
      obtain ⟨b, off, spot⟩ := x
      have hspot : spot = none := by
        have := World.cell?_spot (w := W) (show W.cell? _ = some _ from c0)
        simpa [Addr.add] using this
      subst hspot
      refine .inr ⟨b, off, rfl, fun i q hq => ?_⟩
      have hh := h2 i q hq 0 (by omega)
      rw [Addr.add_lit, Addr.add_lit, Nat.mul_one] at hh
      exact hh
end Go.Proofs.Ytcjfgffkkjekoaa
