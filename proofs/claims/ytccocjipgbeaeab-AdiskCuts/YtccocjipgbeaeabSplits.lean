import Derived.Test.YtccocjipgbeaeabAfter
namespace Go.Proofs.Ytccocjipgbeaeab
open Go.RowKit Adk

/-- the same disk but for what was counted -/
structure Sim (a b : AD) : Prop where
  nb : a.nb = b.nb
  las : a.las = b.las
  P : a.P = b.P
  a0 : a.at_ = 0
  b0 : b.at_ = 0
theorem take_w {a : AD} {q : ActR} (h : a.at_ = 0) (hk : q.kind = 1) : a.take q = { a with P := a.P ++ [(q.b.toNat, q.x)], T := a.T ++ [(1, ((q.b.toNat : Nat) : Int), q.x)], wr := a.wr + 1 } := by
  unfold AD.take
  rw [if_pos hk]
  unfold AD.write
  rw [if_neg (by rw [h]; decide)]
  show AD.tick _ = _
  unfold AD.tick
  exact if_neg (by show ¬ (0 : Int) < a.at_; rw [h]; decide)
theorem take_f {a : AD} {q : ActR} (h : a.at_ = 0) (hk : ¬ q.kind = 1) : a.take q = { a with fl := a.fl + 1, T := a.T ++ [(2, 0, [])], las := a.full, P := [] } := by
  unfold AD.take
  rw [if_neg hk]
  exact do_f 0 0 h
theorem full_sim {a b : AD} (hl : a.las = b.las) (hP : a.P = b.P) : a.full = b.full := by
  unfold AD.full AD.f AD.X
  rw [hl, hP]
theorem Sim.take {a b : AD} (h : Sim a b) {q r : ActR} (h1 : q.kind = r.kind) (h2 : q.b = r.b) (h3 : q.x = r.x) : Sim (a.take q) (b.take r) := by
  by_cases hk : q.kind = 1
  · rw [take_w h.a0 hk, take_w h.b0 (h1 ▸ hk)]
    exact ⟨h.nb, h.las, by show a.P ++ _ = b.P ++ _; rw [h.P, h2, h3], h.a0, h.b0⟩
  · rw [take_f h.a0 hk, take_f h.b0 (h1 ▸ hk)]
    exact ⟨h.nb, full_sim h.las h.P, rfl, h.a0, h.b0⟩
/-- what of an act counts -/
def ActR.abs (q : ActR) : Int × Int × List Int := (q.kind, q.b, q.x)
theorem abs_getD {L M : List ActR} (h : L.map ActR.abs = M.map ActR.abs) (k : Nat) : (L.getD k ⟨0, 0, none, 0, []⟩).abs = (M.getD k ⟨0, 0, none, 0, []⟩).abs := by
  have e : (L.map ActR.abs)[k]? = (M.map ActR.abs)[k]? := by rw [h]
  rw [List.getElem?_map, List.getElem?_map] at e
  simp only [List.getD]
  cases h1 : L[k]? with
  | none =>
    cases h2 : M[k]? with
    | none => rfl
    | some r => rw [h1, h2] at e; cases e
  | some q =>
    cases h2 : M[k]? with
    | none => rw [h1, h2] at e; cases e
    | some r => rw [h1, h2] at e; exact Option.some.inj e
theorem Sim.takes {a b : AD} (h : Sim a b) {L M : List ActR} (hL : L.map ActR.abs = M.map ActR.abs) (k : Nat) : Sim (a.takes L k) (b.takes M k) := by
  induction k with
  | zero => exact h
  | succ k ih =>
    have e := abs_getD hL k
    simp only [ActR.abs, Prod.mk.injEq] at e
    exact ih.take e.1 e.2.1 e.2.2
theorem Sim.cut {a b : AD} (h : Sim a b) (kp : Nat → Bool) : (a.cut kp).las = (b.cut kp).las := by
  show lay kp a.f a.X a.las a.P.length = lay kp b.f b.X b.las b.P.length
  unfold AD.f AD.X
  rw [h.las, h.P]
theorem takes_app (a : AD) (L M : List ActR) (k : Nat) (hk : k ≤ L.length) : a.takes (L ++ M) k = a.takes L k := by
  induction k with
  | zero => rfl
  | succ k ih =>
    rw [AD.takes, AD.takes, ih (by omega)]
    have : k < L.length := by omega
    simp [List.getD, List.getElem?_append, this]
theorem takes_two (a : AD) (L M : List ActR) (k : Nat) : a.takes (L ++ M) (L.length + k) = (a.takes L L.length).takes M k := by
  induction k with
  | zero => exact takes_app a L M L.length (Nat.le_refl _)
  | succ k ih =>
    show (a.takes (L ++ M) (L.length + k)).take _ = ((a.takes L L.length).takes M k).take _
    rw [ih]
    have : ¬ L.length + k < L.length := by omega
    simp [List.getD, List.getElem?_append, this]
theorem takes_at (a : AD) (h : a.at_ = 0) (L : List ActR) (k : Nat) : (a.takes L k).at_ = 0 ∧ (a.takes L k).nb = a.nb := by
  induction k with
  | zero => exact ⟨h, rfl⟩
  | succ k ih =>
    show (AD.take _ _).at_ = 0 ∧ (AD.take _ _).nb = a.nb
    by_cases hk : (L.getD k ⟨0, 0, none, 0, []⟩).kind = 1
    · rw [take_w ih.1 hk]; exact ih
    · rw [take_f ih.1 hk]; exact ih
/-- P3.9, two rows of acts with a flush between -/
theorem split_math (nb : Nat) (l h : List Int) (A B B' C : List ActR) (keep : List Bool) (f : ActR) (hf : f.kind = 2) (hB : B.map ActR.abs = B'.map ActR.abs) (hC : C.map ActR.abs = (A ++ [f]).map ActR.abs ++ B.map ActR.abs) (hl : aft nb l (A ++ [f]) keep = h) :
    aft nb h B' keep = aft nb l C keep := by
  have z : (AD0 nb l).at_ = 0 := rfl
  have hs : Sim (AD0 nb l) (AD0 nb l) := ⟨rfl, rfl, rfl, rfl, rfl⟩
  have hn : (A ++ [f]).length = A.length + 1 := by simp
  have e1 : (AD0 nb l).takes (A ++ [f]) (A ++ [f]).length = ((AD0 nb l).takes A A.length).take f := by
    rw [hn, takes_two]; rfl
  have t1 := takes_at (AD0 nb l) z A A.length
  have e2 := take_f (q := f) t1.1 (by rw [hf]; decide)
  have eh : h = ((AD0 nb l).takes A A.length).full := by
    rw [← hl]
    unfold aft
    rw [e1, e2]
    rfl
  have sm : Sim (AD0 nb h) ((AD0 nb l).takes (A ++ [f]) (A ++ [f]).length) := by
    rw [e1, e2]
    exact ⟨t1.2.symm, eh, rfl, rfl, t1.1⟩
  have hlen : B'.length = B.length := by have := congrArg List.length hB; simpa using this.symm
  have hlc : C.length = (A ++ [f]).length + B.length := by have := congrArg List.length hC; simp at this; simp; omega
  have s2 := (hs.takes (L := C) (M := (A ++ [f]) ++ B) (by rw [hC, List.map_append (l₁ := A ++ [f])]) C.length).cut (kpOf keep)
  unfold aft
  rw [s2, hlc, takes_two, ← hlen]
  exact (sm.takes hB.symm B'.length).cut (kpOf keep)
theorem aft_length (nb : Nat) (l : List Int) (L : List ActR) (keep : List Bool) : (aft nb l L keep).length = l.length := by
  have : ∀ k, ((AD0 nb l).takes L k).las.length = l.length := fun k => by
    induction k with
    | zero => rfl
    | succ k ih =>
      have t := takes_at (AD0 nb l) rfl L k
      show (AD.take _ _).las.length = _
      by_cases hk : (L.getD k ⟨0, 0, none, 0, []⟩).kind = 1
      · rw [take_w t.1 hk]; exact ih
      · rw [take_f t.1 hk]
        show (AD.full _).length = _
        unfold AD.full
        rw [lay_length]; exact ih
  unfold aft
  show (lay _ _ _ _ _).length = _
  rw [lay_length]; exact this _
/-- acts in a row of one's own -/
def OkAct (w : World) (m : Nat) (q : ActR) : Prop := (q.kind = 2 ∧ q.a = none ∧ q.c = 0 ∧ q.x = []) ∨ (q.kind = 1 ∧ 0 ≤ q.b ∧ q.b < m ∧ q.x.length = 512 ∧ ∃ g cap, q.a = some ⟨g, 0, none⟩ ∧ OwnB w g cap q.x)
structure AcR (w : World) (m : Nat) (v : Value) (L : List ActR) : Prop where
  row : w.ownsRow 0 80 3 v L.length (L.flatMap ActR.cells)
  each : ∀ q ∈ L, OkAct w m q
theorem OkAct.on {w w' : World} {m : Nat} {q : ActR} (h : OkAct w m q) (x : Below w.heap.size w w') : OkAct w' m q := by
  rcases h with h | ⟨h1, h2, h3, h4, g, cap, h5, h6⟩
  · exact .inl h
  · exact .inr ⟨h1, h2, h3, h4, g, cap, h5, h6.on x⟩
theorem OkAct.fr {S : Nat → Prop} {w w' : World} {m : Nat} {q : ActR} (h : OkAct w m q) (x : Fr S w w') (hS : ∀ g cap, OwnB w g cap q.x → ¬ S g) : OkAct w' m q := by
  rcases h with h | ⟨h1, h2, h3, h4, g, cap, h5, h6⟩
  · exact .inl h
  · exact .inr ⟨h1, h2, h3, h4, g, cap, h5, h6.fr x (hS g cap h6)⟩
theorem AcR.on {w w' : World} {m : Nat} {v : Value} {L : List ActR} (h : AcR w m v L) (x : Below w.heap.size w w') : AcR w' m v L :=
  ⟨owns_fr h.row (below_fr x (fun k => w.heap.size ≤ k)) (fun _ hk => Nat.not_le.2 (owns_block h.row hk)), fun q hq => (h.each q hq).on x⟩
theorem flat3 (f : ActR → List Value) (l : List ActR) (k : Nat) (hk : k < l.length) (j : Nat) (hj : j < 3) (hf : ∀ p, (f p).length = 3 := by intro p; rfl) : (l.flatMap f)[k * 3 + j]? = (f l[k])[j]? := by
  induction l generalizing k with
  | nil => simp at hk
  | cons p l ih =>
    rw [List.flatMap_cons]
    cases k with
    | zero => rw [List.getElem?_append_left (by rw [hf]; omega)]; simp
    | succ k =>
      rw [List.getElem?_append_right (by rw [hf]; omega), hf, show (k + 1) * 3 + j - 3 = k * 3 + j by omega, ih k (by simpa using hk)]; rfl
theorem OkAct.bytes {w : World} {m : Nat} {q : ActR} (h : OkAct w m q) : Bytes w q.a q.x ∧ actE m q = 0 := by
  rcases h with ⟨h1, h2, h3, h4⟩ | ⟨h1, h2, h3, h4, g, cap, h5, h6⟩
  · refine ⟨by rw [h2, h4]; exact ⟨by simp, fun i => by simp [nth], .inl rfl⟩, ?_⟩
    unfold actE
    rw [if_neg (by rw [h1]; decide), if_pos h1]
  · refine ⟨by rw [h5]; exact h6.bytes, ?_⟩
    unfold actE
    rw [if_pos h1, if_pos ⟨h2, h3⟩, if_pos h4]
theorem AcR.acts {w : World} {m : Nat} {a : Option Addr} {n c : Nat} {L : List ActR} (h : AcR w m (.slice a n c) L) (hl : L.length ≤ 4000000) : n = L.length ∧ Acts w a L ∧ ∀ q ∈ L, actE m q = 0 := by
  obtain ⟨a', c', hv, _, hg, hc⟩ := owns_slice h.row
  cases hv
  refine ⟨rfl, ⟨?_, fun q hq => (h.each q hq).bytes.1, hl⟩, fun q hq => (h.each q hq).bytes.2⟩
  rcases hg with h0 | ⟨g, rfl⟩
  · exact .inl (List.eq_nil_of_length_eq_zero h0)
  · refine .inr ⟨g, 0, rfl, fun i q hq => ?_⟩
    have hi : i < L.length := by
      by_cases hi : i < L.length
      · exact hi
      · rw [List.getElem?_eq_none (by omega)] at hq; cases hq
    have e : L[i] = q := by rw [List.getElem?_eq_getElem hi] at hq; exact Option.some.inj hq
    have c1 := (hc g 0 rfl).2.1
    rw [Nat.zero_add]
    exact ⟨c1 _ _ (by have := flat3 ActR.cells L i hi 0 (by omega); rw [e] at this; exact this), c1 _ _ (by have := flat3 ActR.cells L i hi 1 (by omega); rw [e] at this; exact this), c1 _ _ (by have := flat3 ActR.cells L i hi 2 (by omega); rw [e] at this; exact this)⟩
/-- a put as an act -/
def putA (m : Nat) (q : PutR) : Int × Int × List Int := if q.fl then (2, q.b, []) else (1, q.b % (m : Int), one q.x)
end Go.Proofs.Ytccocjipgbeaeab
