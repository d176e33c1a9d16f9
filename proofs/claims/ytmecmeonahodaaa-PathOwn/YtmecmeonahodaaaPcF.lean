import Derived.Test.YtmecmeonahodaaaPcC
namespace Go.Proofs.Ytmecmeonahodaaa
open Go.RowKit Go.Shelf Pa
/-- where a row and its lists lie -/
def Up (B : Nat) (lv : Value) (n : Nat) (V : Nat → Value) : Prop := (∀ b, lv.ownBlock = some b → B ≤ b) ∧ ∀ i, i < n → ∀ b, (V i).ownBlock = some b → B ≤ b
theorem drewN_below (w : World) (n : Nat) : Below w.heap.size w (w.drewN n) := ⟨rfl, rfl, rfl, Nat.le_refl _, fun _ _ => rfl⟩
theorem own_at {g n c b : Nat} (h : (Value.slice (some ⟨g, 0, none⟩) n c).ownBlock = some b) : g = b := by cases h; rfl
theorem TS_six (s t : ByteArray) (k : Nat) (hk : k < 3) : TS s t (6 + k) = TS s t k := by
  unfold TS Xs
  have e1 : (6 + k) % 3 = k % 3 := by omega
  rw [e1, if_neg (by omega), if_neg (by omega)]
/-- of a list the first q are marks -/
def mkS (xs : List ByteArray) (m : ByteArray) (q : Nat) : List ByteArray := List.replicate q m ++ xs.drop q
theorem mkS_zero (xs : List ByteArray) (m : ByteArray) : mkS xs m 0 = xs := rfl
theorem mkS_len (xs : List ByteArray) (m : ByteArray) {q : Nat} (h : q ≤ xs.length) : (mkS xs m q).length = xs.length := by simp [mkS]; omega
theorem mkS_set (xs : List ByteArray) (m : ByteArray) {k : Nat} (h : k < xs.length) : (mkS xs m k).set k m = mkS xs m (k + 1) := by
  apply List.ext_getElem?
  intro i
  by_cases hi : i = k
  · subst hi
    rw [List.getElem?_set_self (by rw [mkS_len xs m (by omega)]; exact h)]
    unfold mkS
    rw [List.getElem?_append_left (by simp), List.getElem?_replicate_of_lt (by omega)]
  · rw [List.getElem?_set_ne (by omega)]
    unfold mkS
    by_cases h1 : i < k
    · rw [List.getElem?_append_left (by simp; omega), List.getElem?_append_left (by simp; omega), List.getElem?_replicate_of_lt h1, List.getElem?_replicate_of_lt (by omega)]
    · rw [List.getElem?_append_right (by simp; omega), List.getElem?_append_right (by simp; omega), List.getElem?_drop, List.getElem?_drop]
      simp only [List.length_replicate]
      congr 1
      omega
theorem mkS_all (xs : List ByteArray) (m : ByteArray) : mkS xs m xs.length = List.replicate xs.length m := by simp [mkS]
/-- one list more -/
theorem LI.one {w wx w' : World} {lv : Value} {k b cap B : Nat} {V : Nat → Value} {T : Nat → List ByteArray} {v : Value} (h : LI w lv k V T) (hb : Below w.heap.size w wx) (hv : Lp wx v (T k)) (p : ∀ b, v.ownBlock = some b → ∀ i, i < k → (V i).ownBlock ≠ some b) (p2 : ∀ b, v.ownBlock = some b → lv.ownBlock ≠ some b) (hu : ∀ b, lv.ownBlock = some b → B ≤ b) (hB : B ≤ wx.heap.size)
    (h1 : w'.ownsRow 0 24 1 (.slice (some ⟨b, 0, none⟩) (k + 1) cap) (k + 1) ((List.range k).map V ++ [v])) (h2 : Fr (fun k => lv.ownBlock = some k) wx w') (h3 : lv.ownBlock = some b ∨ wx.heap.size ≤ b) :
    LI w' (.slice (some ⟨b, 0, none⟩) (k + 1) cap) (k + 1) (fun i => if i < k then V i else v) T ∧ B ≤ b := by
  have := (h.on hb).add (m := 1) (U := fun _ => v) (TT := fun _ => T k) h1 h2 h3 (fun _ _ => hv) (fun i j hi hj hne => absurd (show i = j by omega) hne) (fun i j hi _ c hc e => p c e i hi hc) (fun j _ c hc => p2 c hc)
  refine ⟨this.congr (fun i hi => ?_), ?_⟩
  · by_cases e : i < k
    · rw [if_pos e]
    · rw [if_neg e, show i = k by omega]
  · rcases h3 with e | e
    · exact hu b e
    · omega
/-- lists of marks -/
def MS (s t : ByteArray) (e i : Nat) : List ByteArray := List.replicate ((TS s t i).length + e) (mk i)
theorem MS_len (s t : ByteArray) (e i : Nat) : (MS s t e i).length = (TS s t i).length + e := by simp [MS]
theorem MS_two (s t : ByteArray) (i : Nat) : MS s t 0 i ++ [mk i, mk i] = MS s t 2 i := by
  unfold MS
  rw [Nat.add_zero, List.replicate_succ', List.replicate_succ', List.append_assoc]
  rfl
theorem MS_at (s t : ByteArray) (e i k : Nat) (x : ByteArray) (h : (MS s t e i)[k]? = some x) : x = mk i := (List.mem_replicate.1 (List.mem_of_getElem? h)).2
/-- the long lists beside the marked ones -/
structure LG (s t : ByteArray) (w4 wr : World) (lv : Value) (V : Nat → Value) (gv : Value) (k : Nat) (G : Nat → Value) : Prop where
  g : LI wr gv k G (MS s t 2)
  l : LI wr lv 9 V (MS s t 0)
  f : Fr (fun b => ∃ i, i < 9 ∧ (V i).ownBlock = some b) w4 wr
  u : ∀ b, gv.ownBlock = some b → w4.heap.size ≤ b
  o : ∀ i, i < k → ∀ b, (G i).ownBlock = some b → (V i).ownBlock = some b ∨ w4.heap.size ≤ b
  v : ∀ i, i < 9 → ∀ b, (V i).ownBlock = some b → b < w4.heap.size
  r : ∀ b, lv.ownBlock = some b → b < w4.heap.size
theorem LG.on {s t : ByteArray} {w4 wr w' : World} {lv : Value} {V : Nat → Value} {gv : Value} {k : Nat} {G : Nat → Value} (h : LG s t w4 wr lv V gv k G) (hb : Below wr.heap.size wr w') : LG s t w4 w' lv V gv k G :=
  ⟨h.g.on hb, h.l.on hb, h.f.trans (below_fr hb (fun _ => False)) (fun _ e => e.elim), h.u, h.o, h.v, h.r⟩
theorem LG.mid {s t : ByteArray} {w4 wr w' : World} {lv : Value} {V : Nat → Value} {gv : Value} {k : Nat} {G : Nat → Value} (h : LG s t w4 wr lv V gv k G) (hk : k < 9) (x : Fr (fun b => (V k).ownBlock = some b) wr w') (hp : Lp w' (V k) (MS s t 0 k)) : LG s t w4 w' lv V gv k G := by
  refine ⟨h.g.fr x (fun b e e2 => ?_) (fun i hi b e e2 => ?_), (h.l.put hk x hp).congr (fun i _ => ?_), h.f.trans x (fun b e => .inl ⟨k, hk, e⟩), h.u, h.o, h.v, h.r⟩
  · have := h.u b e; have := h.v k hk b e2; omega
  · rcases h.o i hi b e with e3 | e3
    · exact h.l.ap i k (by omega) hk (by omega) b e3 e2
    · have := h.v k hk b e2; omega
  · by_cases e : i = k
    · rw [if_pos e, e]
    · rw [if_neg e]
theorem LG.add {s t : ByteArray} {w4 wr wx w' : World} {lv : Value} {V : Nat → Value} {gv u : Value} {k b cap : Nat} {G : Nat → Value} (h : LG s t w4 wr lv V gv k G) (hk : k < 9) (hb : Below wr.heap.size wr wx) (hp : Lp wx u (MS s t 2 k)) (hu : ∀ b, u.ownBlock = some b → (V k).ownBlock = some b ∨ (w4.heap.size ≤ b ∧ gv.ownBlock ≠ some b ∧ ∀ i, i < k → (G i).ownBlock ≠ some b))
    (h1 : w'.ownsRow 0 24 1 (.slice (some ⟨b, 0, none⟩) (k + 1) cap) (k + 1) ((List.range k).map G ++ [u])) (h2 : Fr (fun k => gv.ownBlock = some k) wx w') (h3 : gv.ownBlock = some b ∨ wx.heap.size ≤ b) :
    ∃ G', LG s t w4 w' lv V (.slice (some ⟨b, 0, none⟩) (k + 1) cap) (k + 1) G' := by
  have hs := h.f.size
  obtain ⟨q1, q2⟩ := h.g.one hb hp (fun c e i hi e2 => by
    rcases hu c e with e3 | e3
    · rcases h.o i hi c e2 with e4 | e4
      · exact h.l.ap i k (by omega) hk (by omega) c e4 e3
      · have := h.v k hk c e3; omega
    · exact e3.2.2 i hi e2) (fun c e e2 => by
    rcases hu c e with e3 | e3
    · have := h.u c e2; have := h.v k hk c e3; omega
    · exact e3.2.1 e2) h.u (Nat.le_trans hs hb.size) h1 h2 h3
  refine ⟨_, q1, (h.l.on hb).fr h2 (fun c e e2 => ?_) (fun i hi c e e2 => ?_), (h.f.trans (below_fr hb (fun _ => False)) (fun _ e => e.elim)).trans h2 (fun c e => .inr (h.u c e)), fun c e => ?_, fun i hi c e => ?_, h.v, h.r⟩
  · have := h.r c e; have := h.u c e2; omega
  · have := h.v i hi c e; have := h.u c e2; omega
  · rw [← own_at e]; exact q2
  · by_cases e2 : i < k
    · rw [if_pos e2] at e; exact h.o i e2 c e
    · rw [if_neg e2] at e
      have e4 : i = k := by omega
      subst e4
      rcases hu c e with e3 | e3
      · exact .inl e3
      · exact .inr e3.1
end Go.Proofs.Ytmecmeonahodaaa
