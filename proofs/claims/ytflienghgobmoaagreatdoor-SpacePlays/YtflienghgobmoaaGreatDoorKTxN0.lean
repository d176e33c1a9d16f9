import Derived.Test.YtflienghgobmoaaGreatDoorKALasts
import Derived.Test.YtflienghgobmoaaGreatDoorKTxBm
namespace Go.Proofs.YtflienghgobmoaaGreatDoor
open Go.RowKit Go.Maps Go.Sort Go.Shelf Rec

theorem written_over (w : World) (t : Nat) (h : OverAt w t) :
    Calls Tryz.prog 38 #[.pointer (some ⟨t, 0, none⟩)] w fun e w' => e = .returned (.slice none 0 0) ∧ Below w.heap.size w w' := by
  refine (callsIn_wide (n := 6)).1 ?_
  have hc1 : w.cell? ⟨t, 1, none⟩ = some (.map none) := cell_of_row _ _ _ _ _ _ h
  have hseq : SeqGives Fence.wide 2 Tryz.prog 117 #[.pointer (some ⟨w.heap.size, 0, none⟩)] encZ (fun ss : List Int => ss = []) 0 (w.alloc (.cells #[.map none] 113)) :=
    AnyZI.keys_gives_nil (ρ := keysA_ren) { keysA with } Fence.wide _ trivial rfl w.heap.size _ (by simp) (by simp)
  have cK : ∀ mb W, CallsIn Fence.wide 5 Tryz.prog 82 #[.map mb] W fun e w' => e = .returned (.func (.func 117) #[] #[.pointer (some ⟨W.heap.size, 0, none⟩)]) ∧ w' = W.alloc (.cells #[.map mb] 113) := fun mb W => AnyZI.keys_in keysA Fence.wide 5 trivial rfl mb W
  have cS := AnyZI.sorted_in sortedA Fence.wide 5 trivial trivial trivial trivial rfl (by omega) (sortsA _) (enters_of Tryz.func116 (by kernel_rfl) rfl) 117 #[.pointer (some ⟨w.heap.size, 0, none⟩)] trivial (enters_of Tryz.func117 (by kernel_rfl) rfl) _ 0 (Nat.zero_le _) (by omega) _ hseq
  change CallsIn _ _ Tryz.prog 81 _ _ _ at cS
  have hfK : Fence.wide.fn 82 := trivial
  have hfS : Fence.wide.fn 81 := trivial
  clear hseq h
  refine callsIn_of_wp Tryz.func38 rfl trivial ?_ rfl
  simp only [Tryz.ntmps38, List.size_toArray, List.length_cons, List.length_nil, Nat.reduceAdd, Nat.reduceSub, Array.replicate_succ, Array.replicate_zero, List.push_toArray, List.append_toArray, List.nil_append, List.cons_append]
  gi_wp2_with (first
    | (gi_at_call 82; refine (cK _ _).mono ?_; rintro e w' ⟨rfl, rfl⟩)
    | (gi_at_call 81; refine cS.mono ?_; rintro e w' ⟨v, ss, rfl, rfl, hrow, hnil, hb⟩; obtain rfl : v = .slice none 0 0 := hnil.2 rfl))
  go_ret
  exact ⟨rfl, ((Below.refl _ w).alloc (Nat.le_refl _) _).trans (hb.mono (by simp))⟩
/-- numbers in memory -/
def IntsAt (w : World) (v : Value) (l : List Int) : Prop := ∃ a c, v = .slice a l.length c ∧ (l = [] ∨ ∃ g, a = some ⟨g, 0, none⟩ ∧ ∀ j x, l[j]? = some x → w.cell? ⟨g, j, none⟩ = some (.int .i64 x))
theorem IntsAt.on {w w' : World} {v : Value} {l : List Int} (h : IntsAt w v l) (hb : Below w.heap.size w w') : IntsAt w' v l := by
  obtain ⟨a, c, rfl, hl⟩ := h
  refine ⟨a, c, rfl, hl.imp id ?_⟩
  rintro ⟨g, rfl, hc⟩
  exact ⟨g, rfl, fun j x hx => (hb.cell (block_lt_of_cell (hc j x hx))).trans (hc j x hx)⟩
theorem Cnt.val {c : Cm} {now : Nat → Int} {is : Nat → Bool} (h : Cnt (fun _ => none) c now is) (i : Nat) (h0 : 98 ≤ i) (h1 : i < 118) : valC c (fr6 118) i = one (now i) := by
  obtain ⟨_, a, b⟩ := h i h0 h1
  cases e : is i with
  | true =>
    obtain ⟨q, hq, hx⟩ := a e
    rw [valC_some hq, hx]
  | false =>
    obtain ⟨hq, hx⟩ := b e
    rw [valC_none hq, bck_fr6 _ _ h1, hx, v6, if_neg (by omega)]
theorem Cnt.is {c : Cm} {now : Nat → Int} {is : Nat → Bool} (h : Cnt (fun _ => none) c now is) (i : Nat) (h0 : 98 ≤ i) (h1 : i < 118) : is i = (c i).isSome := by
  obtain ⟨_, a, b⟩ := h i h0 h1
  cases e : is i with
  | true => obtain ⟨q, hq, hx⟩ := a e; rw [hq]; rfl
  | false => rw [(b e).1]; rfl
end Go.Proofs.YtflienghgobmoaaGreatDoor

namespace Go.Proofs.YtflienghgobmoaaGreatDoor
open Go.RowKit Go.Maps Rec

theorem IntsAt.fr {S : Nat → Prop} {w w' : World} {v : Value} {l : List Int} (h : IntsAt w v l) (x : Fr S w w') (hS : ∀ g, v.ownBlock = some g → ¬ S g) : IntsAt w' v l := by
  obtain ⟨a, c, rfl, hl⟩ := h
  refine ⟨a, c, rfl, hl.imp id ?_⟩
  rintro ⟨g, rfl, hc⟩
  exact ⟨g, rfl, fun j y hy => x.cell (hc j y hy) (hS g rfl)⟩
/-- a round of TxnBack -/
structure Rn (w0 w : World) (D : Dk) (T : Tx) (A B : Nat) (now : Nat → Int) (is : Nat → Bool) (v : Value) (l : List Int) : Prop where
  ses : Ses w0 w D T
  rw : Rw w A B now is
  nA : ¬ T.all A ∧ ¬ D.all A
  nB : ¬ T.all B ∧ ¬ D.all B
  ints : IntsAt w v l
  nL : ∀ g, v.ownBlock = some g → ¬ T.all g ∧ g < w.heap.size
theorem Rn.on {w0 w w' : World} {D : Dk} {T : Tx} {A B : Nat} {now : Nat → Int} {is : Nat → Bool} {v : Value} {l : List Int} (h : Rn w0 w D T A B now is v l) (hb : Below w.heap.size w w') : Rn w0 w' D T A B now is v l :=
  ⟨h.ses.on hb, h.rw.on hb, h.nA, h.nB, h.ints.on hb, fun g hg => ⟨(h.nL g hg).1, Nat.lt_of_lt_of_le (h.nL g hg).2 hb.size⟩⟩
theorem Rn.mv {w0 w w' : World} {D : Dk} {T T' : Tx} {A B : Nat} {now : Nat → Int} {is : Nat → Bool} {v : Value} {l : List Int} (h : Rn w0 w D T A B now is v l) (s : Ses w0 w' D T') (hm : TMv w T w' T') : Rn w0 w' D T' A B now is v l := by
  have hA := h.rw.ltA
  have hB := h.rw.ltB
  refine ⟨s, h.rw.fr hm.fr (fun e => h.nA.1 (.inl e)) (fun e => h.nB.1 (.inl e)), ⟨fun e => ?_, h.nA.2⟩, ⟨fun e => ?_, h.nB.2⟩, h.ints.fr hm.fr (fun g hg e => (h.nL g hg).1 (.inl e)), fun g hg => ⟨fun e => ?_, Nat.lt_of_lt_of_le (h.nL g hg).2 hm.fr.size⟩⟩
  · rcases hm.al _ e with e | e
    · exact h.nA.1 e
    · omega
  · rcases hm.al _ e with e | e
    · exact h.nB.1 e
    · omega
  · have h2 := h.nL g hg
    rcases hm.al _ e with e | e
    · exact h2.1 e
    · omega
end Go.Proofs.YtflienghgobmoaaGreatDoor

namespace Go.Proofs.YtflienghgobmoaaGreatDoor
open Go.RowKit Rec

/-- an act among the arguments -/
structure ActR where
  kind : Int
  b : Int
  a : Option Addr
  c : Nat
  x : List Int
def ActR.cells (q : ActR) : List Value := [.int .i64 q.kind, .int .i64 q.b, .slice q.a q.x.length q.c]
structure ActAt (w : World) (b off : Nat) (q : ActR) : Prop where
  f0 : w.cell? ⟨b, off, none⟩ = some (.int .i64 q.kind)
  f1 : w.cell? ⟨b, off + 1, none⟩ = some (.int .i64 q.b)
  f2 : w.cell? ⟨b, off + 2, none⟩ = some (.slice q.a q.x.length q.c)
structure Acts (w : World) (a0 : Option Addr) (L : List ActR) : Prop where
  at_ : L = [] ∨ ∃ b off, a0 = some ⟨b, off, none⟩ ∧ ∀ i q, L[i]? = some q → ActAt w b (off + i * 3) q
  each : ∀ q ∈ L, Bytes w q.a q.x
  len : L.length ≤ 3518437208780
theorem Acts.on {w w' : World} {a0 : Option Addr} {L : List ActR} (h : Acts w a0 L) (x : Below w.heap.size w w') : Acts w' a0 L := by
  refine ⟨?_, fun q hq => (h.each q hq).on x, h.len⟩
  rcases h.at_ with e | ⟨b, off, e, hc⟩
  · exact .inl e
  · have f := below_fr x (fun _ => False)
    exact .inr ⟨b, off, e, fun i q hq => ⟨f.cell (hc i q hq).f0 (fun e => e), f.cell (hc i q hq).f1 (fun e => e), f.cell (hc i q hq).f2 (fun e => e)⟩⟩
/-- what is wrong with an act -/
def actE (nb : Nat) (q : ActR) : Int := if q.kind = 1 then (if 0 ≤ q.b ∧ q.b < nb then (if q.x.length = 512 then 0 else 32) else 31) else if q.kind = 2 then 0 else 1
def AD.tk1 (a : AD) (q : ActR) : AD := if q.kind = 1 then a.write q.b.toNat q.x else a.flush
/-- behind so many acts -/
def AD.takes (a : AD) (L : List ActR) : Nat → AD
  | 0 => a
  | k + 1 => (a.takes L k).tk1 (L.getD k ⟨0, 0, none, 0, []⟩)
theorem LaI.take {a : AD} {m k : Nat} (h : LaI a m k) (q : ActR) (_ : actE m q = 0) : LaI (a.tk1 q) m (k + 1) := by
  unfold AD.tk1
  split
  · unfold AD.write
    rw [if_neg (by rw [h.at_]; decide)]
    show LaI (AD.tick _) _ _
    unfold AD.tick
    rw [if_neg (by show ¬ (0 : Int) < a.at_; rw [h.at_]; decide)]
    exact ⟨h.nb, h.len, by show (a.P ++ _).length ≤ _; have := h.P; simp; omega, by show (a.T ++ _).length ≤ _; have := h.T; simp; omega, by show a.wr + 1 ≤ _; have := h.wr; omega, by show a.fl ≤ _; have := h.fl; omega, h.at_, h.keep, h.down⟩
  · exact (h.next_f 0 0).1
def AD0 (nb : Nat) (l : List Int) : AD := ⟨nb, l, [], [], 0, 0, 0, [], false⟩
/-- what lasts of an image behind acts -/
def aft (nb : Nat) (l : List Int) (L : List ActR) (keep : List Bool) : List Int := (((AD0 nb l).takes L L.length).cut (kpOf keep)).las
structure AfW (w wr : World) (d nb : Nat) (l : List Int) (L : List ActR) (k : Nat) (D : Dk) : Prop where
  disk : Disk wr D
  ab : D.abs = (AD0 nb l).takes L k
  la : LaI D.abs nb k
  dd : D.d = d
  core : ∀ j, D.has j → w.heap.size ≤ j
  bel : Below w.heap.size w wr
theorem AfW.on {w wr wx : World} {d nb k : Nat} {l : List Int} {L : List ActR} {D : Dk} (h : AfW w wr d nb l L k D) (x : Below wr.heap.size wr wx) : AfW w wx d nb l L k D :=
  ⟨h.disk.on x, h.ab, h.la, h.dd, h.core, h.bel.trans (x.mono h.bel.size)⟩
end Go.Proofs.YtflienghgobmoaaGreatDoor

namespace Go.Proofs.YtflienghgobmoaaGreatDoor
open Go.RowKit Rec

/-- act number i -/
def actN (L : List ActR) (i : Nat) : ActR := L.getD i ⟨0, 0, none, 0, []⟩
/-- how many writes stand just ahead of act i -/
def numA (L : List ActR) : Nat → Nat
  | 0 => 0
  | i + 1 => if (actN L i).kind = 1 then numA L i + 1 else 0
/-- does write i last? -/
def lastsB (L : List ActR) (i : Nat) (keep : List Bool) : Bool := decide (∃ j, j < L.length ∧ i < j ∧ (actN L j).kind = 2) || kpOf keep (numA L i)
/-- the document's image behind i acts -/
def lft (l : List Int) (L : List ActR) (keep : List Bool) : Nat → List Int
  | 0 => l
  | i + 1 => if (actN L i).kind = 1 ∧ lastsB L i keep = true then wr (lft l L keep i) (actN L i).b.toNat (actN L i).x else lft l L keep i
/-- all writes -/
def alw (l : List Int) (L : List ActR) : Nat → List Int
  | 0 => l
  | i + 1 => if (actN L i).kind = 1 then wr (alw l L i) (actN L i).b.toNat (actN L i).x else alw l L i
/-- what is pending behind i acts -/
def pnd (L : List ActR) : Nat → List (Nat × List Int)
  | 0 => []
  | i + 1 => if (actN L i).kind = 1 then pnd L i ++ [((actN L i).b.toNat, (actN L i).x)] else []
/-- what has lasted behind i acts -/
def lsf (l : List Int) (L : List ActR) : Nat → List Int
  | 0 => l
  | i + 1 => if (actN L i).kind = 1 then lsf l L i else lay (fun _ => true) (fun k => ((pnd L i).getD k (0, [])).1) (fun k => ((pnd L i).getD k (0, [])).2) (lsf l L i) (pnd L i).length
theorem lay_cong {kp kp' : Nat → Bool} {f f' : Nat → Nat} {X X' : Nat → List Int} {l : List Int} {n : Nat} (h : ∀ k, k < n → kp k = kp' k ∧ f k = f' k ∧ X k = X' k) : lay kp f X l n = lay kp' f' X' l n := by
  induction n with
  | zero => rfl
  | succ n ih => rw [lay, lay, ih (fun k hk => h k (by omega)), (h n (by omega)).1, (h n (by omega)).2.1, (h n (by omega)).2.2]
theorem takes_shape (nb : Nat) (l : List Int) (L : List ActR) (k : Nat) : ((AD0 nb l).takes L k).las = lsf l L k ∧ ((AD0 nb l).takes L k).P = pnd L k ∧ ((AD0 nb l).takes L k).at_ = 0 := by
  induction k with
  | zero => exact ⟨rfl, rfl, rfl⟩
  | succ k ih =>
    obtain ⟨h1, h2, h3⟩ := ih
    have e : (AD0 nb l).takes L (k + 1) = ((AD0 nb l).takes L k).tk1 (actN L k) := rfl
    rw [e]
    generalize (AD0 nb l).takes L k = A at *
    unfold AD.tk1
    rw [lsf, pnd]
    by_cases c : (actN L k).kind = 1
    · rw [if_pos c, if_pos c, if_pos c]
      have : A.write (actN L k).b.toNat (actN L k).x = { A with P := A.P ++ [((actN L k).b.toNat, (actN L k).x)], T := A.T ++ [(1, ((actN L k).b.toNat : Int), (actN L k).x)], wr := A.wr + 1 } := by
        unfold AD.write
        simp only [h3]
        simp [AD.tick]
      rw [this]
      exact ⟨h1, by rw [h2], h3⟩
    · rw [if_neg c, if_neg c, if_neg c]
      have : A.flush = ({ A with fl := A.fl + 1, T := A.T ++ [(2, 0, [])] } : AD).settle (fun _ => true) := by
        unfold AD.flush
        simp only [h3]
        simp [AD.tick]
      rw [this]
      refine ⟨?_, rfl, h3⟩
      show lay (fun _ => true) _ _ A.las A.P.length = _
      rw [h1, h2]
      refine lay_cong fun k _ => ⟨rfl, ?_, ?_⟩
      · simp [AD.f]
      · simp [AD.X]
theorem lay_snoc (kp : Nat → Bool) (P : List (Nat × List Int)) (p : Nat × List Int) (l : List Int) (h : kp P.length = true) : lay kp (fun k => ((P ++ [p]).getD k (0, [])).1) (fun k => ((P ++ [p]).getD k (0, [])).2) l (P ++ [p]).length = wr (lay kp (fun k => (P.getD k (0, [])).1) (fun k => (P.getD k (0, [])).2) l P.length) p.1 p.2 := by
  rw [List.length_append, List.length_singleton, lay, if_pos h]
  congr 1
  · refine lay_cong fun k hk => ⟨rfl, ?_, ?_⟩ <;> simp [List.getD, List.getElem?_append, hk]
  · simp [List.getD]
  · simp [List.getD]
theorem lsf_alw (l : List Int) (L : List ActR) (k : Nat) : lay (fun _ => true) (fun i => ((pnd L k).getD i (0, [])).1) (fun i => ((pnd L k).getD i (0, [])).2) (lsf l L k) (pnd L k).length = alw l L k := by
  induction k with
  | zero => rfl
  | succ k ih =>
    rw [pnd, lsf, alw]
    by_cases c : (actN L k).kind = 1
    · rw [if_pos c, if_pos c, if_pos c, lay_snoc _ _ _ _ rfl, ih]
    · rw [if_neg c, if_neg c, if_neg c, ← ih]; rfl
/-- behind the last flush -/
theorem last_flush (L : List ActR) (n : Nat) : ∃ m, m ≤ n ∧ (∀ i, m ≤ i → i < n → (actN L i).kind = 1) ∧ (m = 0 ∨ ¬ (actN L (m - 1)).kind = 1) := by
  induction n with
  | zero => exact ⟨0, Nat.le_refl _, fun i h1 h2 => by omega, .inl rfl⟩
  | succ n ih =>
    by_cases c : (actN L n).kind = 1
    · obtain ⟨m, h1, h2, h3⟩ := ih
      refine ⟨m, by omega, fun i hi hj => ?_, h3⟩
      by_cases e : i = n
      · subst e; exact c
      · exact h2 i hi (by omega)
    · exact ⟨n + 1, Nat.le_refl _, fun i h1 h2 => by omega, .inr c⟩
theorem behind_last (l : List Int) (L : List ActR) (m : Nat) (h3 : m = 0 ∨ ¬ (actN L (m - 1)).kind = 1) (t : Nat) (h2 : ∀ i, m ≤ i → i < m + t → (actN L i).kind = 1) :
    lsf l L (m + t) = alw l L m ∧ (pnd L (m + t)).length = t ∧ numA L (m + t) = t ∧ ∀ k, k < t → (pnd L (m + t)).getD k (0, []) = ((actN L (m + k)).b.toNat, (actN L (m + k)).x) := by
  induction t with
  | zero =>
    rw [Nat.add_zero]
    rcases h3 with rfl | h3
    · exact ⟨rfl, rfl, rfl, fun k hk => by omega⟩
    · cases m with
      | zero => exact ⟨rfl, rfl, rfl, fun k hk => by omega⟩
      | succ m =>
        rw [Nat.add_sub_cancel] at h3
        rw [lsf, pnd, numA, alw, if_neg h3, if_neg h3, if_neg h3, if_neg h3]
        exact ⟨lsf_alw l L m, rfl, rfl, fun k hk => by omega⟩
  | succ t ih =>
    have ih := ih (fun i h1 h2' => h2 i h1 (by omega))
    have c := h2 (m + t) (by omega) (by omega)
    rw [← Nat.add_assoc, lsf, pnd, numA, if_pos c, if_pos c, if_pos c]
    refine ⟨ih.1, by rw [List.length_append, ih.2.1]; rfl, by rw [ih.2.2.1], fun k hk => ?_⟩
    by_cases e : k = t
    · subst e
      simp [List.getD, ih.2.1]
    · have := ih.2.2.2 k (by omega)
      rw [← this]
      simp [List.getD, List.getElem?_append, ih.2.1, show k < t by omega]
/-- the document's image is what the disk leaves -/
theorem aft_lft (nb : Nat) (l : List Int) (L : List ActR) (keep : List Bool) (hk : ∀ i, i < L.length → (actN L i).kind = 1 ∨ (actN L i).kind = 2) : aft nb l L keep = lft l L keep L.length := by
  obtain ⟨m, hm, h2, h3⟩ := last_flush L L.length
  obtain ⟨t, ht⟩ : ∃ t, L.length = m + t := ⟨L.length - m, by omega⟩
  have hs := takes_shape nb l L L.length
  have hb := behind_last l L m h3 t (fun i h1 h4 => h2 i h1 (by omega))
  have hlow : ∀ i, i ≤ m → lft l L keep i = alw l L i := by
    intro i
    induction i with
    | zero => intro _; rfl
    | succ i ih =>
      intro hi
      rw [lft, alw, ih (by omega)]
      by_cases c : (actN L i).kind = 1
      · have hla : lastsB L i keep = true := by
          unfold lastsB
          rw [Bool.or_eq_true, decide_eq_true_eq]
          left
          rcases h3 with h3 | h3
          · omega
          · have hne : i ≠ m - 1 := fun e => h3 (by rw [← e]; exact c)
            refine ⟨m - 1, by omega, by omega, ?_⟩
            rcases hk (m - 1) (by omega) with h | h
            · exact absurd h h3
            · exact h
        rw [if_pos ⟨c, hla⟩, if_pos c]
      · rw [if_neg (fun h => c h.1), if_neg c]
  have hhigh : ∀ s, s ≤ t → lft l L keep (m + s) = lay (kpOf keep) (fun k => (actN L (m + k)).b.toNat) (fun k => (actN L (m + k)).x) (alw l L m) s := by
    intro s
    induction s with
    | zero => intro _; exact hlow m (Nat.le_refl _)
    | succ s ih =>
      intro hs'
      have c := h2 (m + s) (by omega) (by omega)
      have hnum := (behind_last l L m h3 s (fun i h1 h4 => h2 i h1 (by omega))).2.2.1
      have hla : lastsB L (m + s) keep = kpOf keep s := by
        unfold lastsB
        rw [hnum]
        have : ¬ ∃ j, j < L.length ∧ m + s < j ∧ (actN L j).kind = 2 := by
          rintro ⟨j, j1, j2, j3⟩
          have := h2 j (by omega) j1
          omega
        rw [decide_eq_false this, Bool.false_or]
      rw [← Nat.add_assoc, lft, lay, ih (by omega), hla]
      by_cases d : kpOf keep s = true
      · rw [if_pos ⟨c, d⟩, if_pos d]
      · rw [if_neg (fun h => d h.2), if_neg d]
  unfold aft AD.cut AD.settle
  show lay (kpOf keep) _ _ ((AD0 nb l).takes L L.length).las ((AD0 nb l).takes L L.length).P.length = _
  rw [hs.1, hs.2.1, ht, hb.1, hb.2.1, hhigh t (Nat.le_refl _)]
  refine lay_cong fun k hk' => ⟨rfl, ?_, ?_⟩
  · show (((AD0 nb l).takes L (m + t)).P.getD k (0, [])).1 = _
    rw [← ht, hs.2.1, ht, hb.2.2.2 k hk']
  · show (((AD0 nb l).takes L (m + t)).P.getD k (0, [])).2 = _
    rw [← ht, hs.2.1, ht, hb.2.2.2 k hk']
end Go.Proofs.YtflienghgobmoaaGreatDoor

namespace Go.Proofs.YtflienghgobmoaaGreatDoor
open Go.RowKit Rec

end Go.Proofs.YtflienghgobmoaaGreatDoor

namespace Go.Proofs.YtflienghgobmoaaGreatDoor
open Go.RowKit Rec

set_option maxRecDepth 100000 in
set_option maxHeartbeats 800000 in
theorem copied_any (w : World) (p : Addr) (n c : Nat) (l : List Int) (hb : Bytes w (some p) l) (hl : l.length = n) (h0 : 0 < n) (h47 : n ≤ 140737488351232) :
    Calls Tryz.prog 20 #[.slice (some p) n c] w fun e w' => ∃ g cap, e = .returned (.slice (some ⟨g, 0, none⟩) n cap) ∧ w.heap.size ≤ g ∧ OwnB w' g cap l ∧ Below w.heap.size w w' := by
  have HB : Hid (Bytes w (some p) l) := hb
  have HL : Hid (l.length = n) := hl
  clear hb hl
  go_enter Tryz.func20, Tryz.ntmps20
  go_wp2_with (at_builtin; refine wp_bown rfl (.tmp 4) (.tmp 5) rfl (.slice none 0 0) 0 [] rfl ⟨rfl, .inl ⟨rfl, rfl⟩⟩ p n c l rfl h0 HL.out HB.out (by omega) ?_; intro g cap w2 ho hf hg; have H2 : Hid (w.heap.size ≤ g ∧ OwnB w2 g cap l ∧ Below w.heap.size w w2) := ⟨hg.elim (fun e => by cases e) id, ownB_of (n := n) (by simpa using ho) HL.out (by omega) HB.out.wf, hf.below _ (fun j hj => by cases hj) (Nat.le_refl _)⟩; clear ho hf hg)
  go_ret
  exact ⟨_, _, by first | rfl | (rw [Nat.zero_add]; rfl), H2.out⟩
end Go.Proofs.YtflienghgobmoaaGreatDoor

namespace Go.Proofs.YtflienghgobmoaaGreatDoor
open Go.RowKit Rec

/-- the document's word on an act -/
theorem rfault_any (w : World) (nb : Nat) (q : ActR) (_ : nb ≤ 16384) (hx : q.x.length ≤ 1000000000000000) : Calls Tryz.prog 159 #[.int .i64 (nb : Int), .agg #[.int .i64 q.kind, .int .i64 q.b, .slice q.a q.x.length q.c]] w fun e w' => e = .returned (.int .i64 (actE nb q)) ∧ Below w.heap.size w w' := by
  obtain ⟨kd, b, a, c, x⟩ := q
  dsimp only at hx ⊢
  obtain ⟨n, hn⟩ : ∃ n, x.length = n := ⟨_, rfl⟩
  have hE : actE nb ⟨kd, b, a, c, x⟩ = if kd = 1 then (if 0 ≤ b ∧ b < nb then (if n = 512 then 0 else 32) else 31) else if kd = 2 then 0 else 1 := by rw [← hn]; rfl
  rw [hE]
  rw [hn] at hx ⊢
  clear hE hn
  have HW : Hid (Below w.heap.size w (w.alloc (.cells #[.int .i64 kd, .int .i64 b, .slice a n c] 177))) := (Below.refl _ _).alloc (Nat.le_refl _) _
  go_enter Tryz.func159, Tryz.ntmps159
  by_cases k2 : kd = 2
  · subst k2
    go_wp2
    go_ret
    exact ⟨rfl, HW.out⟩
  · have e2 : (kd == 2) = false := beq_eq_false_iff_ne.2 k2
    by_cases k1 : kd = 1
    · subst k1
      clear k2
      by_cases b0 : b < 0
      · go_wp2
        go_ret
        refine ⟨?_, HW.out⟩
        first | rfl | (rw [if_pos rfl, if_neg (by omega)]; rfl)
      · by_cases b1 : (nb : Int) ≤ b
        · go_wp2
          go_ret
          refine ⟨?_, HW.out⟩
          first | rfl | (rw [if_pos rfl, if_neg (by omega)]; rfl)
        · by_cases h5 : n = 512
          · subst h5
            go_wp2
            go_ret
            refine ⟨?_, HW.out⟩
            first | rfl | (rw [if_pos rfl, if_pos (by omega), if_pos rfl]; rfl)
          · have h5' : ((n : Int) == 512) = false := beq_eq_false_iff_ne.2 (by omega)
            go_wp2
            go_ret
            refine ⟨?_, HW.out⟩
            first | rfl | (rw [if_pos rfl, if_pos (by omega), if_neg h5]; rfl)
    · have e1 : (kd == 1) = false := beq_eq_false_iff_ne.2 k1
      go_wp2
      go_ret
      refine ⟨?_, HW.out⟩
      first | rfl | (rw [if_neg k1, if_neg k2]; rfl)
theorem actN_some {L : List ActR} {i : Nat} (h : i < L.length) : L[i]? = some (actN L i) := by
  unfold actN
  rw [List.getD, List.getElem?_eq_getElem h]; rfl
theorem Acts.cellsAt {w : World} {a0 : Option Addr} {L : List ActR} (h : Acts w a0 L) (h0 : 0 < L.length) : ∃ b off, a0 = some ⟨b, off, none⟩ ∧ ∀ i, i < L.length → ActAt w b (off + i * 3) (actN L i) := by
  rcases h.at_ with e | ⟨b, off, e, hc⟩
  · rw [e] at h0; simp at h0
  · exact ⟨b, off, e, fun i hi => hc i _ (actN_some hi)⟩
end Go.Proofs.YtflienghgobmoaaGreatDoor

namespace Go.Proofs.YtflienghgobmoaaGreatDoor
open Go.RowKit Rec

end Go.Proofs.YtflienghgobmoaaGreatDoor

namespace Go.Proofs.YtflienghgobmoaaGreatDoor
open Go.RowKit Rec

end Go.Proofs.YtflienghgobmoaaGreatDoor

namespace Go.Proofs.YtflienghgobmoaaGreatDoor
open Go.RowKit Rec

theorem infoBo : (Tryz.prog.info? 4).map (fun i => (i.zero, i.size, i.bytes)) = some (some (.bool false), 1, 1) := by kernel_rfl
/-- bools in a row of one's own -/
def OwnZ (w : World) (g cap : Nat) (l : List Bool) : Prop := w.ownsRow 0 4 1 (.slice (some ⟨g, 0, none⟩) l.length cap) l.length (l.map Value.bool)
theorem OwnZ.cell {w : World} {g cap : Nat} {l : List Bool} (h : OwnZ w g cap l) (i : Nat) (hi : i < l.length) : w.cell? ⟨g, i, none⟩ = some (.bool (l.getD i false)) := by
  rcases h.2 with ⟨e, _⟩ | ⟨g', cap', cur, e, _, hg, _, _, _, h5⟩
  · cases e
  · cases e
    rw [cell_of_row _ _ _ _ _ _ hg]
    have h6 : (l.map Value.bool)[i]? = cur.toList[i]? := by rw [← h5, List.getElem?_take, if_pos (by omega)]
    have h7 : cur[i]? = cur.toList[i]? := by simp
    rw [h7, ← h6]
    simp [List.getD, hi]
theorem OwnZ.on {w w' : World} {g cap : Nat} {l : List Bool} (h : OwnZ w g cap l) (hb : Below w.heap.size w w') : OwnZ w' g cap l := owns_fr h (below_fr hb (fun _ => False)) (fun _ _ h => h)
theorem OwnZ.frozen {w : World} {g cap : Nat} {l : List Bool} (h : OwnZ w g cap l) (i : Nat) : w.frozen? ⟨g, i, none⟩ = false := by
  rcases h.2 with ⟨e, _⟩ | ⟨g', cap', cur, e, _, hg, _⟩
  · cases e
  · cases e; exact frozen_of_row _ _ _ _ _ hg
theorem OwnZ.set {w : World} {g cap : Nat} {l : List Bool} (h : OwnZ w g cap l) (i : Nat) (b : Bool) : OwnZ (w.setCell ⟨g, i, none⟩ (.bool b)) g cap (l.set i b) := by
  have h1 := owns_set h i (.bool b)
  unfold OwnZ
  rw [List.length_set, List.map_set]
  exact h1
end Go.Proofs.YtflienghgobmoaaGreatDoor

namespace Go.Proofs.YtflienghgobmoaaGreatDoor
open Go.RowKit Rec

/-- a function with another value at one place -/
def up {α : Type} (f : Nat → α) (n : Nat) (v : α) : Nat → α := fun i => if i = n then v else f i
theorem up_at {α : Type} (f : Nat → α) (n : Nat) (v : α) : up f n v n = v := if_pos rfl
theorem up_off {α : Type} (f : Nat → α) {n i : Nat} (v : α) (h : i ≠ n) : up f n v i = f i := if_neg h
/-- the slices of a row of rows -/
def hdrs (n : Nat) (g c : Nat → Nat) (C : Nat → List Int) : List Value := (List.range n).map fun i => .slice (some ⟨g i, 0, none⟩) (C i).length (c i)
theorem hdrs_at (n : Nat) (g c : Nat → Nat) (C : Nat → List Int) (i : Nat) (h : i < n) : (hdrs n g c C)[i]? = some (.slice (some ⟨g i, 0, none⟩) (C i).length (c i)) := by
  simp [hdrs, h]
theorem hdrs_set (n : Nat) (g c : Nat → Nat) (C : Nat → List Int) (k : Nat) (l : List Int) (h : l.length = (C k).length) : hdrs n g c (up C k l) = hdrs n g c C := by
  unfold hdrs
  refine List.map_congr_left fun i _ => ?_
  by_cases e : i = k
  · subst e; rw [up_at, h]
  · rw [up_off C l e]
/-- a row of rows of bytes, all one's own -/
structure RowsAt (w0 wr : World) (s : Value) (n : Nat) (g c : Nat → Nat) (C : Nat → List Int) : Prop where
  own : wr.ownsRow 0 22 1 s n (hdrs n g c C)
  top : ∀ k, s.ownBlock = some k → w0.heap.size ≤ k
  els : ∀ i, i < n → OwnB wr (g i) (c i) (C i) ∧ w0.heap.size ≤ g i
  apart : ∀ i j, i < n → j < n → g i = g j → i = j
theorem ownB_fr {S : Nat → Prop} {w w' : World} {g cap : Nat} {l : List Int} (h : OwnB w g cap l) (x : Fr S w w') (hg : ¬ S g) : OwnB w' g cap l := by
  obtain ⟨cur, h1, h2⟩ := h.row
  exact ⟨⟨cur, x.heap h1 hg, h2⟩, h.len, h.room, h.top, h.wf⟩
theorem own_apart7 {w : World} {B e size n g cap : Nat} {v : Value} {xs : List Value} {l : List Int} (h : w.ownsRow B e size v n xs) (h' : OwnB w g cap l) (hne : e ≠ 5) : ¬ v.ownBlock = some g := by
  intro hk
  rcases h.2 with ⟨hv, _⟩ | ⟨g', cap', cur, hv, _, hg, _⟩
  · rw [hv] at hk; cases hk
  · rw [hv] at hk
    have e1 : g' = g := Option.some.inj hk
    subst e1
    obtain ⟨cur', h1, _⟩ := h'.row
    rw [hg] at h1
    injection h1 with h1
    injection h1 with _ h2 _
    exact hne h2
theorem RowsAt.fr {w0 wr wq : World} {s : Value} {n : Nat} {g c : Nat → Nat} {C : Nat → List Int} {S : Nat → Prop} (h : RowsAt w0 wr s n g c C) (x : Fr S wr wq) (h1 : ∀ k, s.ownBlock = some k → ¬ S k) (h2 : ∀ i, i < n → ¬ S (g i)) : RowsAt w0 wq s n g c C :=
  ⟨owns_fr h.own x h1, h.top, fun i hi => ⟨ownB_fr (h.els i hi).1 x (h2 i hi), (h.els i hi).2⟩, h.apart⟩
theorem RowsAt.on {w0 wr wq : World} {s : Value} {n : Nat} {g c : Nat → Nat} {C : Nat → List Int} (h : RowsAt w0 wr s n g c C) (hb : Below wr.heap.size wr wq) : RowsAt w0 wq s n g c C :=
  h.fr (below_fr hb (fun _ => False)) (fun _ _ e => e) (fun _ _ e => e)
/-- one byte of one row is written -/
theorem RowsAt.set {w0 wr : World} {s : Value} {n : Nat} {g c : Nat → Nat} {C : Nat → List Int} (h : RowsAt w0 wr s n g c C) (i : Nat) (hi : i < n) (k : Nat) (v : Int) (hk : k < (C i).length) (hv : 0 ≤ v ∧ v < 256) :
    RowsAt w0 (wr.setCell ⟨g i, k, none⟩ (.int .u8 v)) s n g c (up C i ((C i).set k v)) := by
  refine ⟨?_, h.top, fun j hj => ?_, h.apart⟩
  · rw [hdrs_set _ _ _ _ _ _ (by rw [List.length_set])]
    exact owns_fr h.own Fr.set fun q hq e => own_apart7 h.own (h.els i hi).1 (by decide) (e ▸ hq)
  · by_cases e : j = i
    · subst e
      rw [up_at]
      exact ⟨(h.els j hj).1.set k v hk hv, (h.els j hj).2⟩
    · rw [up_off C _ e]
      exact ⟨ownB_fr (h.els j hj).1 Fr.set (fun e' => e (h.apart j i hj hi e')), (h.els j hj).2⟩
theorem RowsAt.is {w0 wr : World} {b n cap : Nat} {g c : Nat → Nat} {C : Nat → List Int} (h : RowsAt w0 wr (.slice (some ⟨b, 0, none⟩) n cap) n g c C) (i : Nat) (hi : i < n) : wr.cell? ⟨b, i, none⟩ = some (.slice (some ⟨g i, 0, none⟩) (C i).length (c i)) := by
  rcases h.own.2 with ⟨hv, _⟩ | ⟨g', cap', cur, hv, _, hg, _, _, _, h5⟩
  · cases hv
  · cases hv
    rw [cell_of_row _ _ _ _ _ _ hg]
    have := hdrs_at n g c C i hi
    rw [Nat.mul_one] at h5
    rw [← h5, List.getElem?_take, if_pos hi] at this
    simpa using this
theorem own_apartX {w : World} {B e size n p : Nat} {v : Value} {xs : List Value} {cs : Array Value} {t : Nat} {f : Nat × Nat} (h : w.ownsRow B e size v n xs) (h' : w.heap[p]? = some (.cells cs t f)) (hne : e ≠ t) : ¬ v.ownBlock = some p := by
  intro hk
  rcases h.2 with ⟨hv, _⟩ | ⟨g', cap', cur, hv, _, hg, _⟩
  · rw [hv] at hk; cases hk
  · rw [hv] at hk
    have e1 : g' = p := Option.some.inj hk
    subst e1
    rw [hg] at h'
    injection h' with h1
    injection h1 with _ h2 _
    exact hne h2
theorem own_apartO {w : World} {B B' e e' size size' n n' : Nat} {v v' : Value} {xs xs' : List Value} (h : w.ownsRow B e size v n xs) (h' : w.ownsRow B' e' size' v' n' xs') (hne : e ≠ e') (k : Nat) (hk : v.ownBlock = some k) : ¬ v'.ownBlock = some k := by
  rcases h.2 with ⟨hv, _⟩ | ⟨g', cap', cur, hv, _, hg, _⟩
  · rw [hv] at hk; cases hk
  · rw [hv] at hk
    have e1 : g' = k := Option.some.inj hk
    subst e1
    exact own_apartX h' hg (fun e => hne e.symm)
theorem info36 : (Tryz.prog.info? 177).map (fun i => (i.zero, i.size, i.bytes)) = some (some (.agg #[.int .i64 0, .int .i64 0, .slice none 0 0]), 3, 40) := by kernel_rfl
theorem RowsAt.cong {w0 wr : World} {s : Value} {n : Nat} {g c : Nat → Nat} {C C' : Nat → List Int} (h : RowsAt w0 wr s n g c C) (e : ∀ i, i < n → C i = C' i) : RowsAt w0 wr s n g c C' := by
  have hh : hdrs n g c C = hdrs n g c C' := by
    unfold hdrs
    refine List.map_congr_left fun i hi => ?_
    rw [e i (List.mem_range.1 hi)]
  exact ⟨hh ▸ h.own, h.top, fun i hi => by rw [← e i hi]; exact h.els i hi, h.apart⟩
end Go.Proofs.YtflienghgobmoaaGreatDoor

namespace Go.Proofs.YtflienghgobmoaaGreatDoor
open Go.RowKit Rec
/-- bytes in a row of one's own, or none -/
def RwA (B : Nat) (w : World) (a : Option Addr) (cap : Nat) (R : List Int) : Prop := (R = [] ∧ a = none ∧ cap = 0) ∨ ∃ g, a = some ⟨g, 0, none⟩ ∧ OwnB w g cap R ∧ B ≤ g
theorem RwA.bytes {B : Nat} {w : World} {a : Option Addr} {cap : Nat} {R : List Int} (h : RwA B w a cap R) : Bytes w a R := by
  rcases h with ⟨rfl, rfl, _⟩ | ⟨g, rfl, h, _⟩
  · exact ⟨by simp, fun i => by simp [nth], .inl rfl⟩
  · exact h.bytes
theorem RwA.on {B : Nat} {w w' : World} {a : Option Addr} {cap : Nat} {R : List Int} (h : RwA B w a cap R) (hb : Below w.heap.size w w') : RwA B w' a cap R := by
  rcases h with h | ⟨g, e, h, hB⟩
  · exact .inl h
  · exact .inr ⟨g, e, h.on hb, hB⟩
theorem RwA.owns {B : Nat} {w : World} {a : Option Addr} {cap : Nat} {R : List Int} (h : RwA B w a cap R) : w.ownsRow 0 5 1 (.slice a R.length cap) R.length (R.map (Value.int .u8)) := by
  rcases h with ⟨rfl, rfl, rfl⟩ | ⟨g, rfl, h, _⟩
  · exact ⟨rfl, .inl ⟨rfl, rfl⟩⟩
  · exact owns_of (B := 0) h (Nat.zero_le _)
theorem RwA.far {B : Nat} {w : World} {a : Option Addr} {cap n : Nat} {R : List Int} (h : RwA B w a cap R) {b : Nat} (hb : (Value.slice a n cap).ownBlock = some b) : B ≤ b := by
  rcases h with ⟨_, rfl, _⟩ | ⟨g, rfl, _, hB⟩
  · cases hb
  · cases hb; exact hB
end Go.Proofs.YtflienghgobmoaaGreatDoor
