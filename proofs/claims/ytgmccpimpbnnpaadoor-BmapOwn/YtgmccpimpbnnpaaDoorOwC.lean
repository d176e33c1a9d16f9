import Derived.Test.YtgmccpimpbnnpaaDoorOwB
namespace Go.Proofs.YtgmccpimpbnnpaaDoor
open Go.RowKit Go.Maps Rec
structure LL (B el sz ty : Nat) (w : World) (lv : Value) (n : Nat) (V : Nat → Value) (M : Nat → Nat) (F : Nat → Nat → Int) : Prop where
  row : w.ownsRow B ty 1 lv n ((List.range n).map V)
  ls : ∀ i, i < n → w.ownsRow B el sz (V i) (M i) (ivs (M i * sz) (F i))
  ap : ∀ i j, i < n → j < n → i ≠ j → ∀ b, (V i).ownBlock = some b → (V j).ownBlock ≠ some b
theorem LL.zero {B el sz ty : Nat} (w : World) (V : Nat → Value) (M : Nat → Nat) (F : Nat → Nat → Int) : LL B el sz ty w (.slice none 0 0) 0 V M F := ⟨⟨rfl, .inl ⟨rfl, rfl⟩⟩, fun _ h => absurd h (Nat.not_lt_zero _), fun _ _ h => absurd h (Nat.not_lt_zero _)⟩
theorem LL.fr {S : Nat → Prop} {B el sz ty : Nat} {w w' : World} {lv : Value} {n : Nat} {V : Nat → Value} {M : Nat → Nat} {F : Nat → Nat → Int} (h : LL B el sz ty w lv n V M F) (x : Fr S w w') (h1 : ∀ b, lv.ownBlock = some b → ¬ S b) (h2 : ∀ i, i < n → ∀ b, (V i).ownBlock = some b → ¬ S b) : LL B el sz ty w' lv n V M F := ⟨owns_fr h.row x h1, fun i hi => owns_fr (h.ls i hi) x (h2 i hi), h.ap⟩
theorem LL.on {B el sz ty : Nat} {w w' : World} {lv : Value} {n : Nat} {V : Nat → Value} {M : Nat → Nat} {F : Nat → Nat → Int} (h : LL B el sz ty w lv n V M F) (hb : Below w.heap.size w w') : LL B el sz ty w' lv n V M F := h.fr (below_fr hb (fun _ => False)) (fun _ _ e => e) (fun _ _ _ _ e => e)
theorem LL.oth {B el sz ty : Nat} {w w' : World} {lv : Value} {n : Nat} {V : Nat → Value} {M : Nat → Nat} {F : Nat → Nat → Int} (h : LL B el sz ty w lv n V M F) {v : Value} (x : Fr (fun b => v.ownBlock = some b) w w') {B' e s k : Nat} {xs : List Value} (hv : w.ownsRow B' e s v k xs) (h1 : e ≠ el) (h2 : e ≠ ty) : LL B el sz ty w' lv n V M F := h.fr x (fun _ e1 e2 => own_two hv h.row h2 e2 e1) (fun i hi _ e1 e2 => own_two hv (h.ls i hi) h1 e2 e1)
theorem LL.congr {B el sz ty : Nat} {w : World} {lv : Value} {n : Nat} {V : Nat → Value} {M : Nat → Nat} {F F' : Nat → Nat → Int} (h : LL B el sz ty w lv n V M F) (e : ∀ i, i < n → ∀ j, j < M i * sz → F i j = F' i j) : LL B el sz ty w lv n V M F' := ⟨h.row, fun i hi => by rw [← ivs_congr (e i hi)]; exact h.ls i hi, h.ap⟩
theorem LL.cell {B el sz ty : Nat} {w : World} {lv : Value} {n : Nat} {V : Nat → Value} {M : Nat → Nat} {F : Nat → Nat → Int} (h : LL B el sz ty w lv n V M F) {k : Nat} (hk : k < n) : ∃ g cap, lv = .slice (some ⟨g, 0, none⟩) n cap ∧ w.cell? ⟨g, k, none⟩ = some (V k) := by
  rcases h.row.2 with ⟨e, e2⟩ | ⟨g, cap, cur, e, h0, h1, h2, h3, h4, h5⟩
  · omega
  · refine ⟨g, cap, e, (cell_of_row _ _ _ _ _ _ h1).trans ?_⟩
    have : ((List.range n).map V)[k]? = some (V k) := by simp [hk]
    rw [← h5, Nat.mul_one, List.getElem?_take_of_lt hk, Array.getElem?_toList] at this
    exact this
theorem range_snoc (V : Nat → Value) (k : Nat) (u : Value) : (List.range (k + 1)).map (upN V k u) = (List.range k).map V ++ [u] := by
  rw [List.range_succ, List.map_append, List.map_cons, List.map_nil, upN_same]
  congr 1
  exact List.map_congr_left fun i hi => upN_other _ _ (by have := List.mem_range.1 hi; omega)
theorem LL.one {B el sz ty : Nat} {w w' : World} {lv : Value} {k b cap : Nat} {V : Nat → Value} {M : Nat → Nat} {F : Nat → Nat → Int} {u : Value} (hne : ty ≠ el) (h : LL B el sz ty w lv k V M F) (hu : w.ownsRow B el sz u (M k) (ivs (M k * sz) (F k))) (hap : ∀ i, i < k → ∀ b, (V i).ownBlock = some b → u.ownBlock ≠ some b)
    (h1 : w'.ownsRow B ty 1 (.slice (some ⟨b, 0, none⟩) (k + 1) cap) (k + 1) ((List.range k).map V ++ [u])) (h2 : Fr (fun k => lv.ownBlock = some k) w w') : LL B el sz ty w' (.slice (some ⟨b, 0, none⟩) (k + 1) cap) (k + 1) (upN V k u) M F := by
  refine ⟨by rw [range_snoc]; exact h1, fun i hi => ?_, fun i j hi hj hij c hc => ?_⟩
  · by_cases e : i = k
    · subst e; rw [upN_same]; exact owns_fr hu h2 (fun c e1 e2 => own_two h.row hu hne e2 e1)
    · rw [upN_other _ _ e]; exact owns_fr (h.ls i (by omega)) h2 (fun c e1 e2 => own_two h.row (h.ls i (by omega)) hne e2 e1)
  · by_cases e : i = k
    · subst e
      rw [upN_same] at hc
      rw [upN_other _ _ (fun e => hij e.symm)]
      exact fun e2 => hap j (by omega) c e2 hc
    · rw [upN_other _ _ e] at hc
      by_cases e2 : j = k
      · subst e2; rw [upN_same]; exact hap i (by omega) c hc
      · rw [upN_other _ _ e2]; exact h.ap i j (by omega) (by omega) hij c hc
theorem LL.put {B el sz ty : Nat} {w w' : World} {lv : Value} {n k : Nat} {V : Nat → Value} {M : Nat → Nat} {F : Nat → Nat → Int} {f : Nat → Int} (hne : ty ≠ el) (h : LL B el sz ty w lv n V M F) (hk : k < n) (x : Fr (fun b => (V k).ownBlock = some b) w w') (ht : w'.ownsRow B el sz (V k) (M k) (ivs (M k * sz) f)) : LL B el sz ty w' lv n V M (upN F k f) :=
  ⟨owns_fr h.row x (fun _ e1 e2 => own_two h.row (h.ls k hk) hne e1 e2), fun i hi => by
    by_cases e : i = k
    · subst e; rw [upN_same]; exact ht
    · rw [upN_other _ _ e]; exact owns_fr (h.ls i hi) x (fun b e1 e2 => h.ap i k hi hk e b e1 e2), h.ap⟩
structure Cyo (B el sz : Nat) (w : World) (v : Value) (N : Nat) (f : Nat → Int) (n : Nat) (V : Nat → Value) : Prop where
  row : w.ownsRow B el sz v N (ivs (N * sz) f)
  ap : ∀ i, i < n → ∀ b, (V i).ownBlock = some b → v.ownBlock ≠ some b
theorem Cyo.on {B el sz : Nat} {w w' : World} {v : Value} {N : Nat} {f : Nat → Int} {n : Nat} {V : Nat → Value} (h : Cyo B el sz w v N f n V) (hb : Below w.heap.size w w') : Cyo B el sz w' v N f n V := ⟨owns_fr h.row (below_fr hb (fun _ => False)) (fun _ _ e => e), h.ap⟩
theorem Cyo.put {B el sz : Nat} {w w' : World} {v : Value} {N k : Nat} {f : Nat → Int} {n : Nat} {V : Nat → Value} (h : Cyo B el sz w v N f n V) (hk : k < n) (x : Fr (fun b => (V k).ownBlock = some b) w w') : Cyo B el sz w' v N f n V := ⟨owns_fr h.row x (fun b e1 e2 => h.ap k hk b e2 e1), h.ap⟩
theorem Cyo.oth {B el sz : Nat} {w w' : World} {v : Value} {N : Nat} {f : Nat → Int} {n : Nat} {V : Nat → Value} (h : Cyo B el sz w v N f n V) {u : Value} (x : Fr (fun b => u.ownBlock = some b) w w') {B' e s k : Nat} {xs : List Value} (hv : w.ownsRow B' e s u k xs) (h1 : e ≠ el) : Cyo B el sz w' v N f n V := ⟨owns_fr h.row x (fun _ e1 e2 => own_two hv h.row h1 e2 e1), h.ap⟩
structure LG (B el sz ty : Nat) (w4 wr : World) (pv : Value) (V : Nat → Value) (M : Nat → Nat) (mk : Nat → Nat → Int) (gv : Value) (k : Nat) (G : Nat → Value) : Prop where
  g : LL B el sz ty wr gv k G (fun i => M i + 1) mk
  l : LL B el sz ty wr pv 3 V M mk
  u : ∀ b, gv.ownBlock = some b → w4.heap.size ≤ b
  o : ∀ i, i < k → ∀ b, (G i).ownBlock = some b → (V i).ownBlock = some b ∨ w4.heap.size ≤ b
  v : ∀ i, i < 3 → ∀ b, (V i).ownBlock = some b → b < w4.heap.size
  r : ∀ b, pv.ownBlock = some b → b < w4.heap.size
  s : w4.heap.size ≤ wr.heap.size
theorem LG.on {B el sz ty : Nat} {w4 wr w' : World} {pv : Value} {V : Nat → Value} {M : Nat → Nat} {mk : Nat → Nat → Int} {gv : Value} {k : Nat} {G : Nat → Value} (h : LG B el sz ty w4 wr pv V M mk gv k G) (hb : Below wr.heap.size wr w') : LG B el sz ty w4 w' pv V M mk gv k G := ⟨h.g.on hb, h.l.on hb, h.u, h.o, h.v, h.r, Nat.le_trans h.s hb.size⟩
theorem LG.oth {B el sz ty : Nat} {w4 wr w' : World} {pv : Value} {V : Nat → Value} {M : Nat → Nat} {mk : Nat → Nat → Int} {gv : Value} {k : Nat} {G : Nat → Value} (h : LG B el sz ty w4 wr pv V M mk gv k G) {v : Value} (x : Fr (fun b => v.ownBlock = some b) wr w') {B' e s k' : Nat} {xs : List Value} (hv : wr.ownsRow B' e s v k' xs) (h1 : e ≠ el) (h2 : e ≠ ty) : LG B el sz ty w4 w' pv V M mk gv k G := ⟨h.g.oth x hv h1 h2, h.l.oth x hv h1 h2, h.u, h.o, h.v, h.r, Nat.le_trans h.s x.size⟩
theorem LG.mid {B el sz ty : Nat} {w4 wr w' : World} {pv : Value} {V : Nat → Value} {M : Nat → Nat} {mk : Nat → Nat → Int} {gv : Value} {k : Nat} {G : Nat → Value} (hne : ty ≠ el) (h : LG B el sz ty w4 wr pv V M mk gv k G) (hk : k < 3) (x : Fr (fun b => (V k).ownBlock = some b) wr w') (hp : w'.ownsRow B el sz (V k) (M k) (ivs (M k * sz) (mk k))) : LG B el sz ty w4 w' pv V M mk gv k G := by
  refine ⟨h.g.fr x (fun b e e2 => ?_) (fun i hi b e e2 => ?_), (h.l.put hne hk x hp).congr (fun i _ j _ => ?_), h.u, h.o, h.v, h.r, Nat.le_trans h.s x.size⟩
  · have := h.u b e; have := h.v k hk b e2; omega
  · rcases h.o i hi b e with e3 | e3
    · exact h.l.ap i k (by omega) hk (by omega) b e3 e2
    · have := h.v k hk b e2; omega
  · by_cases e : i = k
    · subst e; rw [upN_same]
    · rw [upN_other _ _ e]
theorem LG.add {B el sz ty : Nat} {w4 wr w' : World} {pv : Value} {V : Nat → Value} {M : Nat → Nat} {mk : Nat → Nat → Int} {gv u : Value} {k b cap : Nat} {G : Nat → Value} (hne : ty ≠ el) (h : LG B el sz ty w4 wr pv V M mk gv k G) (hk : k < 3) (hp : wr.ownsRow B el sz u (M k + 1) (ivs ((M k + 1) * sz) (mk k))) (hu : ∀ b, u.ownBlock = some b → (V k).ownBlock = some b ∨ (w4.heap.size ≤ b ∧ ∀ i, i < k → (G i).ownBlock ≠ some b))
    (h1 : w'.ownsRow B ty 1 (.slice (some ⟨b, 0, none⟩) (k + 1) cap) (k + 1) ((List.range k).map G ++ [u])) (h2 : Fr (fun k => gv.ownBlock = some k) wr w') (h3 : gv.ownBlock = some b ∨ wr.heap.size ≤ b) :
    LG B el sz ty w4 w' pv V M mk (.slice (some ⟨b, 0, none⟩) (k + 1) cap) (k + 1) (upN G k u) := by
  refine ⟨h.g.one hne hp (fun i hi c e e2 => ?_) h1 h2, h.l.fr h2 (fun c e e2 => ?_) (fun i hi c e e2 => ?_), fun c e => ?_, fun i hi c e => ?_, h.v, h.r, Nat.le_trans h.s h2.size⟩
  · rcases hu c e2 with e3 | e3
    · rcases h.o i hi c e with e4 | e4
      · exact h.l.ap i k (by omega) hk (by omega) c e4 e3
      · have := h.v k hk c e3; omega
    · exact e3.2 i hi e
  · have := h.r c e; have := h.u c e2; omega
  · have := h.v i hi c e; have := h.u c e2; omega
  · cases e
    rcases h3 with h3 | h3
    · exact h.u _ h3
    · exact Nat.le_trans h.s h3
  · by_cases e2 : i = k
    · subst e2
      rw [upN_same] at e
      rcases hu c e with e3 | e3
      · exact .inl e3
      · exact .inr e3.1
    · rw [upN_other _ _ e2] at e; exact h.o i (by omega) c e
theorem LG.new {B el sz ty : Nat} {w4 wr : World} {pv : Value} {V : Nat → Value} {M : Nat → Nat} {mk : Nat → Nat → Int} {gv u : Value} {k g n c : Nat} {G : Nat → Value} (h : LG B el sz ty w4 wr pv V M mk gv k G) (h3 : (V k).ownBlock = some g ∨ wr.heap.size ≤ g) (hu : u = .slice (some ⟨g, 0, none⟩) n c) : ∀ b, u.ownBlock = some b → (V k).ownBlock = some b ∨ (w4.heap.size ≤ b ∧ ∀ i, i < k → (G i).ownBlock ≠ some b) := fun b hb => by
  rw [hu] at hb
  cases hb
  rcases h3 with h3 | h3
  · exact .inl h3
  · refine .inr ⟨Nat.le_trans h.s h3, fun i hi e => ?_⟩
    have : g < wr.heap.size := owns_block (h.g.ls i hi) e
    omega
end Go.Proofs.YtgmccpimpbnnpaaDoor
