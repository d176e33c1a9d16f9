import Derived.Test.YtaaeahpmnfifiaaDoorSnO
import Derived.Laws.BitsAllLaws
namespace Go.Proofs.YtaaeahpmnfifiaaDoor
open Go.RowKit Rec Sc
theorem xor_byte (c y : Int) (hc : 0 ≤ c ∧ c < 256) (hy : 0 ≤ y ∧ y < 256) (h0 : y ≠ 0) : (0 ≤ bits .xor .u8 c y ∧ bits .xor .u8 c y < 256) ∧ bits .xor .u8 c y ≠ c := by
  obtain ⟨C, rfl⟩ := Int.eq_ofNat_of_zero_le hc.1
  obtain ⟨Y, rfl⟩ := Int.eq_ofNat_of_zero_le hy.1
  have hC : C < 2 ^ 8 := by omega
  have hY : Y < 2 ^ 8 := by omega
  have hlt : C ^^^ Y < 2 ^ 8 := Nat.xor_lt_two_pow hC hY
  rw [u8_xor_nat C Y (by omega) (by omega)]
  refine ⟨by omega, fun e => h0 ?_⟩
  have e : C ^^^ Y = C := by omega
  have : C ^^^ (C ^^^ Y) = C ^^^ C := by rw [e]
  rw [← Nat.xor_assoc, Nat.xor_self, Nat.zero_xor] at this
  rw [this]; rfl
/-- a told cell is one of the block's -/
theorem told_at {f : Nat → Option Ent} {q : ET} (h : q ∈ (vL f).filter tk) : ∃ k e, k < 16 ∧ f k = some e ∧ q = ((k : Int), e.nm, e.ino) := by
  obtain ⟨h1, h2⟩ := List.mem_filter.1 h
  obtain ⟨k, hk, rfl⟩ := List.mem_map.1 h1
  have hk := List.mem_range.1 hk
  cases e : f k with
  | none => simp [tk, fr, vE, e] at h2
  | some x => exact ⟨k, x, hk, e, by simp [vE, e]⟩
theorem told_mem {f : Nat → Option Ent} {k : Nat} {e : Ent} (hk : k < 16) (h : f k = some e) (hg : Sc.good e) : ((k : Int), e.nm, e.ino) ∈ (vL f).filter tk := by
  have h0 : ¬ e.ino = 0 := by have := hg.2.1; omega
  refine List.mem_filter.2 ⟨List.mem_map.2 ⟨k, List.mem_range.2 hk, by simp [vE, h]⟩, by simp [tk, fr, h0]⟩
theorem told_inj {L M : List Int} {f g : Nat → Option Ent} (hL : Bk L f) (hM : Bk M g) (h : (vL f).filter tk = (vL g).filter tk) : L = M := by
  have key : ∀ {L : List Int} {f g : Nat → Option Ent}, Bk L f → (∀ q, q ∈ (vL f).filter tk → q ∈ (vL g).filter tk) → ∀ k, k < 16 → ∀ e, f k = some e → g k = some e := by
    intro L f g hL hs k hk e he
    obtain ⟨k', e', hk', he', hq⟩ := told_at (hs _ (told_mem hk he (hL.ok k hk e he)))
    simp only [Prod.mk.injEq] at hq
    obtain ⟨h1, h2, h3⟩ := hq
    have : k' = k := by omega
    subst this
    rw [he']
    cases e; cases e'
    simp only at h2 h3
    rw [h2, h3]
  refine hL.inj hM (fun k hk => ?_)
  cases e : f k with
  | some x => exact (key hL (fun q hq => by rw [← h]; exact hq) k hk x e).symm
  | none =>
    cases e2 : g k with
    | none => rfl
    | some y => have := key hM (fun q hq => by rw [h]; exact hq) k hk y e2; rw [e] at this; cases this
/-- of the cells those that a list has -/
def fT (f : Nat → Option Ent) (xs : List ET) (k : Nat) : Option Ent := if xs.any (fun q => decide (q.1 = (k : Int))) then f k else none
theorem fT_nil (f : Nat → Option Ent) : fT f [] = fun _ => none := by funext k; simp [fT]
theorem fT_succ {f : Nat → Option Ent} {xs : List ET} {i p : Nat} {e : Ent} (hi : xs[i]? = some ((p : Int), e.nm, e.ino)) (he : f p = some e) : upd (fT f (xs.take i)) p (some e) = fT f (xs.take (i + 1)) := by
  funext k
  rw [List.take_add_one, hi]
  unfold upd fT
  by_cases h : k = p
  · subst h
    rw [if_pos rfl, if_pos (by simp), he]
  · rw [if_neg h, List.any_append]
    have h2 : decide ((p : Int) = (k : Int)) = false := decide_eq_false (by omega)
    simp only [Option.toList_some, List.any_cons, List.any_nil, h2, Bool.or_false]
theorem fT_all {L : List Int} {f : Nat → Option Ent} (h : Bk L f) {k : Nat} (hk : k < 16) : fT f ((vL f).filter tk) k = f k := by
  unfold fT
  cases e : f k with
  | none => simp
  | some x =>
    rw [if_pos]
    exact List.any_eq_true.2 ⟨_, told_mem hk e (h.ok k hk x e), by simp⟩
/-- while what was told is put again -/
structure FmI (w wr : World) (P q b1 c1 : Nat) (L : List Int) (a : Option Addr) (T : List ET) (f : Nat → Option Ent) (x0 x1 : Int) (i : Nat) : Prop where
  bel : Below w.heap.size w wr
  box : wr.heap[P]? = some (.cells #[.int .i64 x0, .int .u8 x1] 45 (0, 0))
  by_ : Bytes wr a L
  got : OwnE wr b1 c1 T
  ag : ∃ M, OwnB wr q 512 M ∧ Bk M (fT f (T.take i))
  q0 : w.heap.size ≤ q
  qP : q ≠ P
  qb : q ≠ b1
  qa : ∀ p, a = some p → p.block ≠ q
theorem Bytes.grown2 {w w' : World} {a : Option Addr} {L : List Int} {q : Nat} (h : Bytes w a L) (hg : w.grownBy w' (some q)) (ha : ∀ p, a = some p → p.block ≠ q) : Bytes w' a L := by
  refine ⟨h.len, h.wf, ?_⟩
  rcases h.at_ with e | ⟨b, off, rfl, hc⟩
  · exact .inl e
  · exact .inr ⟨b, off, rfl, fun i hi => hg.cell (hc i hi) (fun e => ha _ rfl (by cases e; rfl))⟩
theorem FmI.put {w wr : World} {P q b1 c1 : Nat} {L : List Int} {a : Option Addr} {T : List ET} {f : Nat → Option Ent} {x0 x1 : Int} {i : Nat} (H : FmI w wr P q b1 c1 L a T f x0 x1 i) (hT : TabAt w) (p : Nat) (e : Ent) (hp : p < 16) (he : f p = some e) (hg : Sc.good e) (hi : T[i]? = some ((p : Int), e.nm, e.ino)) :
    Calls Tryd.prog 10 #[.slice (some ⟨q, 0, none⟩) 512 512, eV p e.nm e.ino] wr fun r w' => r = .returned (.int .i64 0) ∧ FmI w w' P q b1 c1 L a T f x0 x1 (i + 1) := by
  obtain ⟨M, h1, h2⟩ := H.ag
  have hq0 : q ≠ 0 := by have := H.q0; have := hT.size; omega
  refine (sput_ok wr q 512 512 M p e hp h1 (by rw [h2.len]; omega) (by omega) (hT.on H.bel) hq0 hg).mono ?_
  rintro r w' ⟨rfl, o1, o2⟩
  refine ⟨rfl, ⟨H.bel.grown o2 H.bel.size (fun j e => by cases e; exact H.q0), (o2.block P (heap_lt H.box) (fun e => H.qP (by cases e; rfl))).trans H.box, H.by_.grown2 o2 H.qa, H.got.keep (o2.block b1 H.got.lt (fun e => H.qb (by cases e; rfl))), ⟨_, o1, ?_⟩, H.q0, H.qP, H.qb, H.qa⟩⟩
  rw [← fT_succ hi he]
  exact h2.set hp (o := some e) (fun e' h => by cases h; exact hg)
/-- the second half's state -/
structure FnI (w wr : World) (P q : Nat) (f : Nat → Option Ent) (x0 x1 : Int) : Prop where
  bel : Below w.heap.size w wr
  box : wr.heap[P]? = some (.cells #[.int .i64 x0, .int .u8 x1] 45 (0, 0))
  ag : ∃ M, OwnB wr q 512 M ∧ Bk M f
  q0 : w.heap.size ≤ q
  qP : q ≠ P
theorem FnI.on {w wr wx : World} {P q : Nat} {f : Nat → Option Ent} {x0 x1 : Int} (H : FnI w wr P q f x0 x1) (hb : Below wr.heap.size wr wx) : FnI w wx P q f x0 x1 := by
  obtain ⟨M, h1, h2⟩ := H.ag
  exact ⟨H.bel.trans (hb.mono H.bel.size), (hb.block P (heap_lt H.box)).trans H.box, ⟨M, h1.on hb, h2⟩, H.q0, H.qP⟩
theorem FnI.put {w wr : World} {P q : Nat} {f : Nat → Option Ent} {x0 x1 : Int} (H : FnI w wr P q f x0 x1) (hT : TabAt w) (p : Nat) (e : Ent) (hp : p < 16) (hg : Sc.good e) :
    Calls Tryd.prog 10 #[.slice (some ⟨q, 0, none⟩) 512 512, eV p e.nm e.ino] wr fun r w' => r = .returned (.int .i64 0) ∧ FnI w w' P q (upd f p (some e)) x0 x1 := by
  obtain ⟨M, h1, h2⟩ := H.ag
  have hq0 : q ≠ 0 := by have := H.q0; have := hT.size; omega
  refine (sput_ok wr q 512 512 M p e hp h1 (by rw [h2.len]; omega) (by omega) (hT.on H.bel) hq0 hg).mono ?_
  rintro r w' ⟨rfl, o1, o2⟩
  exact ⟨rfl, ⟨H.bel.grown o2 H.bel.size (fun j e => by cases e; exact H.q0), (o2.block P (heap_lt H.box) (fun e => H.qP (by cases e; rfl))).trans H.box, ⟨_, o1, h2.set hp (o := some e) (fun e' h => by cases h; exact hg)⟩, H.q0, H.qP⟩⟩
end Go.Proofs.YtaaeahpmnfifiaaDoor
