import Derived.Test.YtdheojhfgeabhaaDoorKInP
namespace Go.Proofs.YtdheojhfgeabhaaDoor
open Go.RowKit Go.Maps Rec

/-- the law's own row of records -/
def HvAt (w : World) (hb C : Nat) (G : Nat → Nat → Int) : Prop := w.rowIs hb 24 (C * 15) (fun i => .int .i64 (G (i / 15) (i % 15)))
theorem HvAt.cell {w : World} {hb C : Nat} {G : Nat → Nat → Int} (h : HvAt w hb C G) (k j : Nat) (hk : k < C) (hj : j < 15) : w.cell? ⟨hb, k * 15 + j, none⟩ = some (.int .i64 (G k j)) := by
  have := World.rowIs.cell h (i := k * 15 + j) (by omega)
  rw [show (k * 15 + j) / 15 = k by omega, show (k * 15 + j) % 15 = j by omega] at this
  exact this
theorem HvAt.frozen {w : World} {hb C : Nat} {G : Nat → Nat → Int} (h : HvAt w hb C G) (i : Nat) : w.frozen? ⟨hb, i, none⟩ = false := World.rowIs.frozen h i
theorem HvAt.fr {S : Nat → Prop} {w w' : World} {hb C : Nat} {G : Nat → Nat → Int} (h : HvAt w hb C G) (x : Fr S w w') (hS : ¬ S hb) : HvAt w' hb C G := World.rowIs.of_block h (x.block hb (World.rowIs.lt h) hS)
theorem HvAt.on {w w' : World} {hb C : Nat} {G : Nat → Nat → Int} (h : HvAt w hb C G) (hB : Below w.heap.size w w') : HvAt w' hb C G := h.fr (below_fr hB (fun _ => False)) (fun e => e)
/-- so many cells of a record laid -/
def upJ (G : Nat → Nat → Int) (k : Nat) (x : Nat → Int) (j : Nat) : Nat → Nat → Int := fun a b => if a = k ∧ b < j then x b else G a b
theorem HvAt.set {w : World} {hb C : Nat} {G : Nat → Nat → Int} (k j : Nat) (x : Nat → Int) (h : HvAt w hb C (upJ G k x j)) (hj : j < 15) : HvAt (w.setCell ⟨hb, k * 15 + j, none⟩ (.int .i64 (x j))) hb C (upJ G k x (j + 1)) := by
  refine (World.rowIs.set h (k * 15 + j) (.int .i64 (x j))).congr fun i hi => ?_
  by_cases e : i = k * 15 + j
  · subst e
    rw [if_pos rfl, show (k * 15 + j) / 15 = k by omega, show (k * 15 + j) % 15 = j by omega]
    unfold upJ
    rw [if_pos ⟨rfl, by omega⟩]
  · rw [if_neg e]
    unfold upJ
    by_cases c : i / 15 = k ∧ i % 15 < j
    · rw [if_pos c, if_pos ⟨c.1, by omega⟩]
    · rw [if_neg c, if_neg (by omega)]
theorem HvAt.cong {w : World} {hb C : Nat} {G G' : Nat → Nat → Int} (h : HvAt w hb C G) (e : ∀ a b, b < 15 → G a b = G' a b) : HvAt w hb C G' := World.rowIs.congr h fun i _ => by rw [e _ _ (Nat.mod_lt _ (by omega))]
/-- a record laid whole -/
theorem HvAt.lay {w : World} {hb C : Nat} {G : Nat → Nat → Int} (h : HvAt w hb C G) (k : Nat) (x : Nat → Int) :
    HvAt (((((((((((((((w.setCell ⟨hb, k * 15 + 0, none⟩ (.int .i64 (x 0))).setCell ⟨hb, k * 15 + 1, none⟩ (.int .i64 (x 1))).setCell ⟨hb, k * 15 + 2, none⟩ (.int .i64 (x 2))).setCell ⟨hb, k * 15 + 3, none⟩ (.int .i64 (x 3))).setCell ⟨hb, k * 15 + 4, none⟩ (.int .i64 (x 4))).setCell ⟨hb, k * 15 + 5, none⟩ (.int .i64 (x 5))).setCell ⟨hb, k * 15 + 6, none⟩ (.int .i64 (x 6))).setCell ⟨hb, k * 15 + 7, none⟩ (.int .i64 (x 7))).setCell ⟨hb, k * 15 + 8, none⟩ (.int .i64 (x 8))).setCell ⟨hb, k * 15 + 9, none⟩ (.int .i64 (x 9))).setCell ⟨hb, k * 15 + 10, none⟩ (.int .i64 (x 10))).setCell ⟨hb, k * 15 + 11, none⟩ (.int .i64 (x 11))).setCell ⟨hb, k * 15 + 12, none⟩ (.int .i64 (x 12))).setCell ⟨hb, k * 15 + 13, none⟩ (.int .i64 (x 13))).setCell ⟨hb, k * 15 + 14, none⟩ (.int .i64 (x 14))) hb C (upR G k x) := by
  have h0 : HvAt w hb C (upJ G k x 0) := h.cong fun a b _ => by unfold upJ; rw [if_neg (by omega)]
  refine (HvAt.set k 14 x (HvAt.set k 13 x (HvAt.set k 12 x (HvAt.set k 11 x (HvAt.set k 10 x (HvAt.set k 9 x (HvAt.set k 8 x (HvAt.set k 7 x (HvAt.set k 6 x (HvAt.set k 5 x (HvAt.set k 4 x (HvAt.set k 3 x (HvAt.set k 2 x (HvAt.set k 1 x (HvAt.set k 0 x h0 (by omega)) (by omega)) (by omega)) (by omega)) (by omega)) (by omega)) (by omega)) (by omega)) (by omega)) (by omega)) (by omega)) (by omega)) (by omega)) (by omega)) (by omega)).cong fun a b hb => ?_
  unfold upJ upR
  by_cases c : a = k
  · rw [if_pos ⟨c, hb⟩, if_pos c]
  · rw [if_neg (fun e => c e.1), if_neg c]
theorem fr15 {w : World} {hb : Nat} {a0 a1 a2 a3 a4 a5 a6 a7 a8 a9 a10 a11 a12 a13 a14 : Nat} {v0 v1 v2 v3 v4 v5 v6 v7 v8 v9 v10 v11 v12 v13 v14 : Value} :
    Fr (fun k => k = hb) w (((((((((((((((w.setCell ⟨hb, a0, none⟩ v0).setCell ⟨hb, a1, none⟩ v1).setCell ⟨hb, a2, none⟩ v2).setCell ⟨hb, a3, none⟩ v3).setCell ⟨hb, a4, none⟩ v4).setCell ⟨hb, a5, none⟩ v5).setCell ⟨hb, a6, none⟩ v6).setCell ⟨hb, a7, none⟩ v7).setCell ⟨hb, a8, none⟩ v8).setCell ⟨hb, a9, none⟩ v9).setCell ⟨hb, a10, none⟩ v10).setCell ⟨hb, a11, none⟩ v11).setCell ⟨hb, a12, none⟩ v12).setCell ⟨hb, a13, none⟩ v13).setCell ⟨hb, a14, none⟩ v14) := by
  have T : ∀ {a b c : World}, Fr (fun k => k = hb) a b → Fr (fun k => k = hb) b c → Fr (fun k => k = hb) a c := fun x y => x.trans y (fun _ h => .inl h)
  exact T (T (T (T (T (T (T (T (T (T (T (T (T (T Fr.set Fr.set) Fr.set) Fr.set) Fr.set) Fr.set) Fr.set) Fr.set) Fr.set) Fr.set) Fr.set) Fr.set) Fr.set) Fr.set) Fr.set
/-- the lowest that lies above k, or 0 -/
def LwK (f : Nat → Bool) (C k m : Nat) : Prop := (m = 0 ∧ ∀ j, k < j → j < C → f j = false) ∨ (k < m ∧ m < C ∧ f m = true ∧ ∀ j, k < j → j < m → f j = false)
theorem LwK.yes {f : Nat → Bool} {C k m : Nat} (_ : LwK f C (k + 1) m) (hk : k + 1 < C) (hf : f (k + 1) = true) : LwK f C k (k + 1) := .inr ⟨by omega, hk, hf, fun j h1 h2 => by omega⟩
theorem LwK.no {f : Nat → Bool} {C k m : Nat} (h : LwK f C (k + 1) m) (hf : f (k + 1) = false) : LwK f C k m := by
  have hj : ∀ j, k < j → ¬ k + 1 < j → f j = false := fun j h1 h2 => by rw [show j = k + 1 by omega]; exact hf
  rcases h with ⟨rfl, h⟩ | ⟨h1, h2, h3, h4⟩
  · exact .inl ⟨rfl, fun j j1 j2 => if c : k + 1 < j then h j c j2 else hj j j1 c⟩
  · exact .inr ⟨by omega, h2, h3, fun j j1 j2 => if c : k + 1 < j then h4 j c j2 else hj j j1 c⟩
theorem LwK.start (f : Nat → Bool) (C : Nat) : LwK f C (C - 1) 0 := .inl ⟨rfl, fun j h1 h2 => by omega⟩
theorem LwK.low {f : Nat → Bool} {C m : Nat} (h : LwK f C 0 m) : Lw f C m := by
  rcases h with ⟨rfl, h⟩ | ⟨h1, h2, h3, h4⟩
  · exact .inl ⟨rfl, fun j j1 j2 => h j (by omega) j2⟩
  · exact .inr ⟨by omega, h2, h3, fun j j1 j2 => h4 j (by omega) j2⟩
theorem cf_mono (f : Nat → Bool) : ∀ {a b : Nat}, a ≤ b → cf f a ≤ cf f b
  | a, 0, h => by rw [Nat.le_zero.1 h]; exact Nat.le_refl _
  | a, b + 1, h => by
    by_cases e : a = b + 1
    · rw [e]; exact Nat.le_refl _
    · have := cf_mono f (a := a) (b := b) (by omega)
      have h2 : cf f (b + 1) = cf f b + _ := rfl
      rw [h2]
      omega
/-- how many lie above k -/
def cg (f : Nat → Bool) (C k : Nat) : Nat := cf f C - cf f (k + 1)
theorem cg_top (f : Nat → Bool) (C : Nat) (h : 1 ≤ C) : cg f C (C - 1) = 0 := by unfold cg; rw [show C - 1 + 1 = C by omega, Nat.sub_self]
theorem cg_no {f : Nat → Bool} {C k : Nat} (hf : f (k + 1) = false) : cg f C k = cg f C (k + 1) := by unfold cg; rw [cf_no hf]
theorem cg_yes {f : Nat → Bool} {C k : Nat} (hk : k + 1 < C) (hf : f (k + 1) = true) : cg f C k = cg f C (k + 1) + 1 := by
  unfold cg
  have := cf_mono f (a := k + 1 + 1) (b := C) (by omega)
  rw [cf_yes (by omega) hf] at this ⊢
  omega
theorem cg_le (f : Nat → Bool) (C k : Nat) : cg f C k ≤ C := by unfold cg; have := cf_le f C; omega
theorem cf_one (f : Nat → Bool) : cf f 1 = 0 := by simp [cf]
theorem cg_zero (f : Nat → Bool) (C : Nat) : cg f C 0 = cf f C := by unfold cg; rw [cf_one]; rfl
/-- one less is free -/
theorem cf_up {H : Nat → Nat → Int} {m : Nat} {x : Nat → Int} (h1 : 1 ≤ m) (hf : isFr (H m) = true) (hx : isFr x = false) : ∀ C, m < C → cf (fun k => isFr (upR H m x k)) C + 1 = cf (fun k => isFr (H k)) C
  | 0, h => by omega
  | C + 1, h => by
    have e1 : cf (fun k => isFr (upR H m x k)) (C + 1) = cf (fun k => isFr (upR H m x k)) C + (if 1 ≤ C ∧ isFr (upR H m x C) = true then 1 else 0) := rfl
    have e2 : cf (fun k => isFr (H k)) (C + 1) = cf (fun k => isFr (H k)) C + (if 1 ≤ C ∧ isFr (H C) = true then 1 else 0) := rfl
    rw [e1, e2]
    by_cases c : C = m
    · subst c
      rw [upR_same, hx, hf, if_neg (by simp), if_pos ⟨h1, rfl⟩]
      rw [cf_cong (g := fun k => isFr (H k)) (fun k _ k2 => by show isFr (upR H C x k) = _; rw [upR_other _ _ (by omega)])]
    · rw [upR_other _ _ c]
      have := cf_up h1 hf hx C (by omega)
      omega
theorem cf_pos {f : Nat → Bool} : ∀ {C : Nat}, 0 < cf f C → ∃ m, 1 ≤ m ∧ m < C ∧ f m = true
  | 0, h => by simp [cf] at h
  | C + 1, h => by
    have e : cf f (C + 1) = cf f C + (if 1 ≤ C ∧ f C = true then 1 else 0) := rfl
    rw [e] at h
    by_cases c : 1 ≤ C ∧ f C = true
    · exact ⟨C, c.1, by omega, c.2⟩
    · rw [if_neg c] at h
      obtain ⟨m, h1, h2, h3⟩ := cf_pos (C := C) (by omega)
      exact ⟨m, h1, by omega, h3⟩
theorem Lw.zero {f : Nat → Bool} {C m : Nat} (h : Lw f C m) (hc : cf f C = 0) : m = 0 := by
  rcases h with ⟨rfl, _⟩ | ⟨h1, h2, h3, _⟩
  · rfl
  · have := cf_mono f (a := m + 1) (b := C) (by omega)
    rw [cf_yes h1 h3] at this
    omega
theorem Lw.pos {f : Nat → Bool} {C m : Nat} (h : Lw f C m) (hc : 0 < cf f C) : 1 ≤ m ∧ m < C ∧ f m = true := by
  rcases h with ⟨rfl, h⟩ | ⟨h1, h2, h3, _⟩
  · obtain ⟨j, j1, j2, j3⟩ := cf_pos hc
    rw [h j j1 j2] at j3; cases j3
  · exact ⟨h1, h2, h3⟩
/-- a record of three like numbers -/
def tri (i : Nat) : Nat → Int := fun j => match j with
  | 0 => (i : Int)
  | 1 => (i : Int)
  | 2 => (i : Int)
  | _ => 0
theorem tri_bd {i : Nat} (h : i ≤ 1000) (j : Nat) : -9223372036854775808 ≤ tri i j ∧ tri i j ≤ 9223372036854775807 := by
  unfold tri
  split <;> omega
end Go.Proofs.YtdheojhfgeabhaaDoor
