import Derived.Test.YtklgjagkgfbcfaaDoorPlayA
namespace Go.Proofs.YtklgjagkgfbcfaaDoor
open Go.RowKit Rec

def mk3 : List Int := [77, 78, 79]
theorem owns_kp {w w' : World} {B e sz G H n : Nat} {v : Value} {xs : List Value} (h : w.ownsRow B e sz v n xs) (hk : Kp G H w w') (hG : G < B) (hH : H < B) : w'.ownsRow B e sz v n xs := by
  refine ⟨h.1, ?_⟩
  rcases h.2 with hn | ⟨g, cap, cur, rfl, hb, hgg, rest⟩
  · exact .inl hn
  · refine .inr ⟨g, cap, cur, rfl, hb, ?_, rest⟩
    rw [hk.block g (heap_lt hgg) (by omega) (by omega)]
    exact hgg
/-- what the loop over the script keeps -/
structure PR (w wr : World) (G H capG capH n B : Nat) (v8 v9 : Value) (k : Nat) (l : List Int) (ts : List Value) : Prop where
  len : l.length = n
  og : OwnB wr G capG (l ++ mk3)
  oh : OwnB wr H capH (l ++ [])
  t8 : wr.ownsRow B 9 1 v8 k ts
  t9 : wr.ownsRow B 9 1 v9 k ts
  str : ∀ t ∈ ts, ∃ s, t = Value.string s
  ne : (v8 = .slice none 0 0 ∧ v9 = .slice none 0 0) ∨ (∃ g8 c8 g9 c9, v8 = .slice (some ⟨g8, 0, none⟩) k c8 ∧ v9 = .slice (some ⟨g9, 0, none⟩) k c9 ∧ g8 ≠ g9)
  below : Below w.heap.size w wr
  size : B ≤ wr.heap.size
theorem PR.kp {w wr w' : World} {G H capG capH n B : Nat} {v8 v9 : Value} {k : Nat} {l l' : List Int} {ts : List Value} (h : PR w wr G H capG capH n B v8 v9 k l ts) (hk : Kp G H wr w') (hG : w.heap.size ≤ G ∧ G < B) (hH : w.heap.size ≤ H ∧ H < B) (hB : w.heap.size ≤ B)
    (hl : l'.length = n) (o1 : OwnB w' G capG (l' ++ mk3)) (o2 : OwnB w' H capH (l' ++ [])) : PR w w' G H capG capH n B v8 v9 k l' ts :=
  ⟨hl, o1, o2, owns_kp h.t8 hk hG.2 hH.2, owns_kp h.t9 hk hG.2 hH.2, h.str, h.ne, h.below.trans (hk.below hG.1 hH.1 (Nat.le_trans hB h.size)), Nat.le_trans h.size hk.size⟩
theorem PR.on {w wr w' : World} {G H capG capH n B : Nat} {v8 v9 : Value} {k : Nat} {l : List Int} {ts : List Value} (h : PR w wr G H capG capH n B v8 v9 k l ts) (hk : Below wr.heap.size wr w') (hG : w.heap.size ≤ G ∧ G < B) (hH : w.heap.size ≤ H ∧ H < B) (hB : w.heap.size ≤ B) : PR w w' G H capG capH n B v8 v9 k l ts :=
  h.kp (kp_below hk) hG hH hB h.len (h.og.on hk) (h.oh.on hk)

theorem PR.blocks {w wr : World} {G H capG capH n B : Nat} {v8 v9 : Value} {k : Nat} {l : List Int} {ts : List Value} (h : PR w wr G H capG capH n B v8 v9 k l ts) (hG : G < B) (hH : H < B) :
    (∀ g, v8.ownBlock = some g → B ≤ g ∧ g < wr.heap.size ∧ g ≠ G ∧ g ≠ H) ∧ (∀ g, v9.ownBlock = some g → B ≤ g ∧ g < wr.heap.size ∧ g ≠ G ∧ g ≠ H) ∧ (v9.ownBlock = none ∨ v9.ownBlock ≠ v8.ownBlock) := by
  refine ⟨fun g hg => ?_, fun g hg => ?_, ?_⟩
  · have := h.t8.lt g hg
    exact ⟨this.1, this.2, by omega, by omega⟩
  · have := h.t9.lt g hg
    exact ⟨this.1, this.2, by omega, by omega⟩
  · rcases h.ne with ⟨_, e⟩ | ⟨g8, c8, g9, c9, e8, e9, hne⟩
    · subst e; exact .inl rfl
    · subst e8 e9
      exact .inr (fun e => hne (Option.some.inj e).symm)
structure Mid (w w8 : World) (G H capG capH n B g8 c8 : Nat) (v9 : Value) (k : Nat) (l : List Int) (ts : List Value) (S : ByteArray) : Prop where
  len : l.length = n
  og : OwnB w8 G capG (l ++ mk3)
  oh : OwnB w8 H capH (l ++ [])
  t8 : w8.ownsRow B 9 1 (.slice (some ⟨g8, 0, none⟩) (k + 1) c8) (k + 1) (ts ++ [.string S])
  t9 : w8.ownsRow B 9 1 v9 k ts
  str : ∀ t ∈ ts, ∃ s, t = Value.string s
  ne : v9.ownBlock ≠ some g8
  below : Below w.heap.size w w8
  size : B ≤ w8.heap.size
theorem PR.app1 {w w7 w8 : World} {G H capG capH n B g8 c8 : Nat} {v8 v9 : Value} {k : Nat} {l : List Int} {ts : List Value} {S : ByteArray} (h : PR w w7 G H capG capH n B v8 v9 k l ts) (hG : w.heap.size ≤ G ∧ G < B) (hH : w.heap.size ≤ H ∧ H < B) (hB : w.heap.size ≤ B)
    (ho : w8.ownsRow B 9 1 (.slice (some ⟨g8, 0, none⟩) (k + 1) c8) (k + 1) (ts ++ [.string S])) (hg : (w7.alloc (.cells #[.string S] 9)).grownBy w8 v8.ownBlock) (hb : v8.ownBlock = some g8 ∨ (w7.alloc (.cells #[.string S] 9)).heap.size ≤ g8) :
    Mid w w8 G H capG capH n B g8 c8 v9 k l ts S := by
  obtain ⟨b8, b9, bn⟩ := h.blocks hG.2 hH.2
  have hal : Below w7.heap.size w7 (w7.alloc (.cells #[.string S] 9)) := (Below.refl _ _).alloc (Nat.le_refl _) _
  have hsz : w7.heap.size < (w7.alloc (.cells #[.string S] 9)).heap.size := by simp
  refine ⟨h.len, (h.og.on hal).grown hg (fun e => ?_), (h.oh.on hal).grown hg (fun e => ?_), ho, (h.t9.alloc _).kept hg bn, h.str, fun e => ?_, ?_, ?_⟩
  · exact (b8 G e.symm).2.2.1 rfl
  · exact (b8 H e.symm).2.2.2 rfl
  · rcases hb with hb | hb
    · rcases bn with x | x
      · rw [x] at e; cases e
      · exact x (e.trans hb.symm)
    · have := (b9 g8 e).2.1; omega
  · refine (h.below.trans (hal.mono h.below.size)).trans ((Below.refl _ _).grown hg (Nat.le_trans h.below.size hal.size) (fun g e => ?_))
    exact Nat.le_trans hB (b8 g e).1
  · exact Nat.le_trans h.size (Nat.le_trans hal.size hg.size)
theorem Mid.app2 {w w8 w9 : World} {G H capG capH n B g8 c8 g9 c9 : Nat} {v9 : Value} {k : Nat} {l : List Int} {ts : List Value} {S : ByteArray} (h : Mid w w8 G H capG capH n B g8 c8 v9 k l ts S) (hG : w.heap.size ≤ G ∧ G < B) (hH : w.heap.size ≤ H ∧ H < B) (hB : w.heap.size ≤ B)
    (ho : w9.ownsRow B 9 1 (.slice (some ⟨g9, 0, none⟩) (k + 1) c9) (k + 1) (ts ++ [.string S])) (hg : (w8.alloc (.cells #[.string S] 9)).grownBy w9 v9.ownBlock) (hb : v9.ownBlock = some g9 ∨ (w8.alloc (.cells #[.string S] 9)).heap.size ≤ g9) :
    PR w w9 G H capG capH n B (.slice (some ⟨g8, 0, none⟩) (k + 1) c8) (.slice (some ⟨g9, 0, none⟩) (k + 1) c9) (k + 1) l (ts ++ [.string S]) := by
  have hal : Below w8.heap.size w8 (w8.alloc (.cells #[.string S] 9)) := (Below.refl _ _).alloc (Nat.le_refl _) _
  have hsz : w8.heap.size < (w8.alloc (.cells #[.string S] 9)).heap.size := by simp
  have b9 : ∀ g, v9.ownBlock = some g → B ≤ g := fun g e => (h.t9.lt g e).1
  have b8 := h.t8.lt g8 rfl
  refine ⟨h.len, (h.og.on hal).grown hg (fun e => ?_), (h.oh.on hal).grown hg (fun e => ?_), (h.t8.alloc _).kept hg (.inr (fun e => h.ne e.symm)), ho, fun t ht => ?_, .inr ⟨g8, c8, g9, c9, rfl, rfl, fun e => ?_⟩, ?_, ?_⟩
  · have := b9 G e.symm; omega
  · have := b9 H e.symm; omega
  · rcases List.mem_append.1 ht with x | x
    · exact h.str t x
    · exact ⟨S, by simpa using x⟩
  · subst e
    rcases hb with hb | hb
    · exact h.ne hb
    · omega
  · refine (h.below.trans (hal.mono h.below.size)).trans ((Below.refl _ _).grown hg (Nat.le_trans h.below.size hal.size) (fun g e => ?_))
    exact Nat.le_trans hB (b9 g e)
  · exact Nat.le_trans h.size (Nat.le_trans hal.size hg.size)
end Go.Proofs.YtklgjagkgfbcfaaDoor
