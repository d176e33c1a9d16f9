import Derived.Test.YtdheojhfgeabhaaDoorKTxG
namespace Go.Proofs.YtdheojhfgeabhaaDoor
open Go.RowKit Go.Maps Go.Shelf Rec
attribute [local go_sem] Oper.semAt_some

/-- the steps from m on, carried out in whatever order -/
def cof {L : Nat} (U : Fin L → Un) (c : Cm) (pre : List (Fin L)) : Cm := pre.foldl (fun c x => ups c (U x).i (U x).old) c
theorem cof_snoc {L : Nat} (U : Fin L → Un) (c : Cm) (pre : List (Fin L)) (x : Fin L) : cof U c (pre ++ [x]) = ups (cof U c pre) (U x).i (U x).old := by simp [cof]
theorem cof_ok {L : Nat} (U : Fin L → Un) (nb : Nat) (hU : ∀ x, 98 ≤ (U x).i ∧ (U x).i < nb ∧ ∀ q, (U x).old = some q → q.n = ((U x).i : Int)) : ∀ (pre : List (Fin L)) (c : Cm), COk c nb → COk (cof U c pre) nb
  | [], _, h => h
  | x :: pre, _, h => cof_ok U nb hU pre _ (h.ups _ (hU x).1 (hU x).2.1 (hU x).2.2)
theorem cof_des (us : List Un) (c : Cm) : cof (fun x : Fin us.length => us[x.1]) c (des us.length 0) = undo c us := by
  unfold cof des undo
  rw [List.drop_zero, List.foldl_reverse]
  have e : us = (List.finRange us.length).map (fun x => us[x.1]) := by
    apply List.ext_getElem <;> simp
  conv => rhs; rw [e]
  rw [List.foldr_map]
/-- between two undo steps -/
structure BkI {L : Nat} (U : Fin L → Un) (w1 : World) (T : Tx) (pre : List (Fin L)) (W : World) : Prop where
  map : MapAt W T.mb (cof U T.c pre) T.nb
  fr : Fr (fun k => k = T.mb ∨ w1.heap.size ≤ k) w1 W
theorem BkI.own {L : Nat} (U : Fin L → Un) (w1 : World) (T : Tx) (hmb : T.mb < w1.heap.size) : OwnFrom w1.heap.size (BkI U w1 T) := fun pre W W' row h hg hr => by
  have hmb2 : some T.mb ≠ row := fun e => by have := (hr T.mb e.symm).1; omega
  refine ⟨World.ownsMap.kept h.map hg hmb2, ?_⟩
  have hF : Fr (fun k => row = some k) W W' := ⟨hg.os, hg.tape, hg.output, hg.size, fun k hk hS => hg.block k hk (fun e => hS e.symm)⟩
  exact h.fr.trans hF (fun k hk => .inl (.inr (hr k hk).1))
theorem BkI.step {L : Nat} {U : Fin L → Un} {w1 W W' : World} {T : Tx} {pre : List (Fin L)} {x : Fin L} (h : BkI U w1 T pre W) (hm : MapAt W' T.mb (ups (cof U T.c pre) (U x).i (U x).old) T.nb) (hF : Fr (fun k => k = T.mb) W W') (hmb : T.mb < w1.heap.size) :
    KeepsFrom w1.heap.size W W' ∧ KpM w1.heap.size T.mb W W' ∧ BkI U w1 T (pre ++ [x]) W' := by
  have hsz := h.fr.size
  refine ⟨⟨hF.size, fun k o hB hk _ => ?_⟩, fun k hk hne => hF.block k (by omega) hne, ⟨by rw [cof_snoc]; exact hm, h.fr.trans hF (fun k hk => .inl (.inl hk))⟩⟩
  have hkl : k < W.heap.size := heap_lt hk
  rw [hF.block k hkl (by show ¬ k = T.mb; omega)]
  exact hk
theorem KpM.put {n₀ mb : Nat} {w : World} (hn : n₀ ≤ w.heap.size) (W : World) (l : Nat) (o o' : Obj) (hl : w.heap.size ≤ l) (_ : W.heap[l]? = some o) (_ : o.isCells = false) (_ : o.isWalk = false) : KpM n₀ mb W (W.putObj l o') := fun k hk _ => by
  have hne : l ≠ k := by omega
  simp [World.putObj, hne]
theorem undo_some {us : List Un} : ∀ {c : Cm} {i : Nat} {q : Bk}, undo c us i = some q → c i = some q ∨ ∃ u, u ∈ us ∧ u.old = some q ∧ u.i = i := by
  induction us with
  | nil => intro c i q h; exact .inl h
  | cons u us ih =>
    intro c i q h
    have h' : ups (undo c us) u.i u.old i = some q := h
    by_cases e : i = u.i
    · subst e
      rw [ups_same] at h'
      exact .inr ⟨u, .head _, h', rfl⟩
    · rw [ups_other _ _ e] at h'
      rcases ih h' with h2 | ⟨v, h1, h2, h3⟩
      · exact .inl h2
      · exact .inr ⟨v, .tail _ h1, h2, h3⟩
theorem undo_ok {us : List Un} {nb : Nat} (hU : ∀ u ∈ us, 98 ≤ u.i ∧ u.i < nb ∧ ∀ q, u.old = some q → q.n = (u.i : Int)) {c : Cm} (h : COk c nb) : COk (undo c us) nb := by
  induction us with
  | nil => exact h
  | cons u us ih => exact (ih (fun v hv => hU v (.tail _ hv))).ups _ (hU u (.head _)).1 (hU u (.head _)).2.1 (hU u (.head _)).2.2
/-- behind a Back -/
theorem back_end {w W' : World} {T : Tx} {m : Nat} {v : Value} (h : TxAt w T) (hv : ∀ k, v.ownBlock = some k → T.uv.ownBlock = some k) (hF : Fr T.has w W')
    (hrow : W'.heap[T.t]? = some (.cells #[.pointer (some ⟨T.d, 0, none⟩), .map (some T.mb), v, .bool false] 65 (0, 0))) (hmap : MapAt W' T.mb (undo T.c (T.us.drop m)) T.nb) (hund : W'.ownsRow 0 1 1 v (T.us.take m).length ((T.us.take m).map Un.v)) (hcnt : (lst (undo T.c (T.us.drop m)) T.nb).length ≤ 96) :
    ∃ T', TxAt W' T' ∧ TMv w T W' T' ∧ T'.c = undo T.c (T.us.drop m) ∧ T'.us = T.us.take m := by
  have hd : ∀ u ∈ T.us.drop m, u ∈ T.us := fun u hu => List.mem_of_mem_drop hu
  have ht : ∀ u ∈ T.us.take m, u ∈ T.us := fun u hu => List.mem_of_mem_take hu
  have held : ∀ k, ((T.setC (undo T.c (T.us.drop m))).setU v (T.us.take m)).held k → T.held k := fun k hk => by
    rcases hk with ⟨i, q, hq, rfl⟩ | ⟨u, hu, hk⟩
    · rcases undo_some hq with e | ⟨u, h1, h2, h3⟩
      · exact .inl ⟨i, q, e, rfl⟩
      · exact .inr ⟨u, hd u h1, .inr (.inr (.inr (.inr ⟨q, h2, rfl⟩)))⟩
    · exact .inr ⟨u, ht u hu, hk⟩
  have has : ∀ k, ((T.setC (undo T.c (T.us.drop m))).setU v (T.us.take m)).has k → T.has k := fun k hk => by
    rcases hk with e | e | e
    · exact .inl e
    · exact .inr (.inl e)
    · exact .inr (.inr (hv k e))
  refine ⟨(T.setC (undo T.c (T.us.drop m))).setU v (T.us.take m), ⟨hrow, hmap, undo_ok (fun u hu => h.unb u (hd u hu)) h.ok, fun i q hq => ?_, hund, fun u hu => (h.una u (ht u hu)).fr hF (fun k hk => h.ap3 k (.inr ⟨u, ht u hu, hk⟩)), fun u hu => h.unb u (ht u hu), h.ap1, fun k hk => h.ap2 k (hv k hk), fun k hk hh => h.ap3 k (held k hk) (has k hh), ?_, h.n16, hcnt⟩, ⟨hF, fun k hk => .inl (hk.elim (fun e => .inl (has k e)) (fun e => .inr (held k e))), fun k hk => .inl (has k hk), rfl, rfl, rfl⟩, rfl, rfl⟩
  · rcases undo_some hq with e | ⟨u, h1, h2, h3⟩
    · exact (h.blk i q e).fr hF (h.ap3 _ (.inl ⟨i, q, e, rfl⟩))
    · exact ((h.una u (hd u h1)).blk q h2).fr hF (h.ap3 _ (.inr ⟨u, hd u h1, .inr (.inr (.inr (.inr ⟨q, h2, rfl⟩)))⟩))
  · show (T.us.take m).length ≤ _
    have := h.ul
    rw [List.length_take]
    omega
/-- a part of a row is written over -/
theorem row_setCells (g : Nat) (t : TypeId) : ∀ (vs : List Value) (o : Nat) (w : World) (cur : Array Value), w.heap[g]? = some (.cells cur t (0, 0)) → ∃ cur', (w.setCells g o vs).heap[g]? = some (.cells cur' t (0, 0)) ∧ cur'.size = cur.size ∧ cur'.toList.take o = cur.toList.take o
  | [], _, _, cur, h => ⟨cur, h, rfl, rfl⟩
  | v :: vs, o, w, cur, h => by
    obtain ⟨cur', h1, h2, h3⟩ := row_setCells g t vs (o + 1) _ _ (heap_setCell_same w g o cur t v h)
    refine ⟨cur', h1, by simpa using h2, ?_⟩
    have := congrArg (List.take o) h3
    rw [List.take_take, List.take_take, Nat.min_eq_left (by omega)] at this
    rw [this]
    simp [List.take_set_of_le]
theorem back_same {w W' : World} {T : Tx} {m : Nat} {v : Value} (h : TxAt w T) (hm : T.us.length = m) (hv : T.uv = v) (hF : Fr (fun k => k = T.t ∨ k = T.mb ∨ w.heap.size ≤ k) w W')
    (hrow : W'.heap[T.t]? = some (.cells #[.pointer (some ⟨T.d, 0, none⟩), .map (some T.mb), v, .bool false] 65 (0, 0))) (hmap : MapAt W' T.mb T.c T.nb) :
    ∃ T', TxAt W' T' ∧ TMv w T W' T' ∧ T'.c = undo T.c (T.us.drop m) ∧ T'.us = T.us.take m := by
  have hd : T.us.drop m = [] := List.drop_eq_nil_of_le (by omega)
  have ht : T.us.take m = T.us := List.take_of_length_le (by omega)
  have hF' : Fr T.has w W' := ⟨hF.os, hF.tape, hF.output, hF.size, fun k hk hS => hF.block k hk (fun e => by
    rcases e with e | e | e
    · exact hS (.inl e)
    · exact hS (.inr (.inl e))
    · omega)⟩
  subst hv
  refine back_end (m := m) h (fun k hk => hk) hF' hrow (by rw [hd]; exact hmap) ?_ (by rw [hd]; exact h.cnt)
  rw [ht]
  exact owns_fr h.und hF (fun k hk e => by
    have h1 := h.ap2 k hk
    have h2 := owns_block h.und hk
    rcases e with e | e | e
    · exact h1.1 e
    · exact h1.2 e
    · omega)
theorem fr_putObj (w : World) (D : Nat) (o : Obj) : Fr (fun k => k = D) w (w.putObj D o) := ⟨rfl, rfl, rfl, by simp [World.putObj], fun k _ hne => by
  have hne : k ≠ D := hne
  simp [World.putObj, hne.symm]⟩
end Go.Proofs.YtdheojhfgeabhaaDoor
