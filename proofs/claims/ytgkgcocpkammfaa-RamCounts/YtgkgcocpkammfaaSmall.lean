import Derived.Test.YtgkgcocpkammfaaOwn
import Derived.Lib.BytesEntry
import Derived.Lib.IndexLaws
namespace Go.Proofs.Ytgkgcocpkammfaa
open Go.RowKit Rec

theorem isW_cases {n : Int} (h : isW n = true) : n = 1 ∨ n = 2 ∨ n = 4 ∨ n = 8 := by simp [isW] at h; omega
theorem isW_not {n : Int} (h : isW n = false) : n ≠ 1 ∧ n ≠ 2 ∧ n ≠ 4 ∧ n ≠ 8 := by simp [isW] at h; omega

/-- 'bytes.IndexByte(b, 0)' -/
def Found (l : List Int) (n : Nat) (r : Int) : Prop := (r = -1 ∧ fz l 0 n = n) ∨ (r = fz l 0 n ∧ fz l 0 n < n)
theorem byte_zero {c : Int} (h : 0 ≤ c ∧ c < 256) : UInt8.ofNat c.toNat = (0 : Int).toNat.toUInt8 ↔ c = 0 := by
  constructor
  · intro e
    have := congrArg UInt8.toNat e
    simp at this
    omega
  · rintro rfl; rfl
theorem at_byte (l : List Int) (k : Nat) (hw : ∀ i, 0 ≤ nth l i ∧ nth l i < 256) : (Lib.bytesOf l)[k]? = some (0 : Int).toNat.toUInt8 ↔ k < l.length ∧ nth l k = 0 := by
  unfold Lib.bytesOf
  rw [List.getElem?_map]
  by_cases h : k < l.length
  · have e : l[k]? = some (nth l k) := by simp [nth, List.getD, h]
    rw [e]
    simp only [Option.map_some, Option.some.injEq]
    rw [byte_zero (hw k)]
    exact ⟨fun x => ⟨h, x⟩, fun x => x.2⟩
  · rw [List.getElem?_eq_none (by omega)]
    constructor
    · intro e; cases e
    · intro e; exact absurd e.1 h
theorem found_of (l : List Int) (n : Nat) (hn : l.length = n) (hw : ∀ i, 0 ≤ nth l i ∧ nth l i < 256) : Found l n (Lib.indexByte (Lib.bytesOf l) (0 : Int).toNat.toUInt8) := by
  have hge := Lib.indexByte_ge (Lib.bytesOf l) (0 : Int).toNat.toUInt8
  generalize hr : Lib.indexByte (Lib.bytesOf l) (0 : Int).toNat.toUInt8 = r at *
  by_cases h : r = -1
  · subst h
    have := Lib.indexByte_none hr
    refine .inl ⟨rfl, fz_eq _ _ _ _ (Nat.le_refl _) (fun i hi => ?_) (fun h => absurd h (by omega))⟩
    rw [Nat.zero_add]
    intro e
    exact this i ((at_byte l i hw).2 ⟨by omega, e⟩)
  · obtain ⟨o, rfl⟩ : ∃ o : Nat, r = o := ⟨r.toNat, by omega⟩
    have ⟨h1, h2⟩ := Lib.indexByte_some hr
    have h1 := (at_byte l o hw).1 h1
    have e : fz l 0 n = o := by
      refine fz_eq _ _ _ _ (by omega) (fun i hi => ?_) (fun _ => by rw [Nat.zero_add]; exact h1.2)
      rw [Nat.zero_add]
      intro e
      exact h2 i hi ((at_byte l i hw).2 ⟨by omega, e⟩)
    exact .inr ⟨by rw [e], by omega⟩

/-- has a string a zero byte? -/
def hasZ (s : ByteArray) : Bool := decide (∃ i, i < s.size ∧ nth (sb s) i = 0)
theorem sfound (s : ByteArray) : (0 ≤ Lib.indexByte s.data.toList (0 : Int).toNat.toUInt8) ↔ ∃ i, i < s.size ∧ nth (sb s) i = 0 := by
  have key : ∀ k, s.data.toList[k]? = some (0 : Int).toNat.toUInt8 ↔ k < s.size ∧ nth (sb s) k = 0 := by
    intro k
    by_cases h : k < s.size
    · have h' : k < s.data.size := h
      rw [sb_nth s k h, Array.getElem?_toList, Array.getElem?_eq_getElem h', Option.some.injEq]
      constructor
      · intro e; exact ⟨h, by show ((s.data[k]).toNat : Int) = 0; rw [e]; rfl⟩
      · rintro ⟨_, e⟩
        have e' : ((s.data[k]).toNat : Int) = 0 := e
        exact UInt8.toNat.inj (by show _ = 0; omega)
    · rw [List.getElem?_eq_none (by rw [Array.length_toList]; exact Nat.le_of_not_lt h)]
      constructor
      · intro e; cases e
      · intro e; exact absurd e.1 h
  have hge := Lib.indexByte_ge s.data.toList (0 : Int).toNat.toUInt8
  generalize hr : Lib.indexByte s.data.toList (0 : Int).toNat.toUInt8 = r at *
  by_cases h : r = -1
  · subst h
    have hn := Lib.indexByte_none hr
    exact ⟨fun e => absurd e (by omega), fun ⟨i, hi⟩ => absurd ((key i).2 hi) (hn i)⟩
  · obtain ⟨o, rfl⟩ : ∃ o : Nat, r = o := ⟨r.toNat, by omega⟩
    have ⟨h1, _⟩ := Lib.indexByte_some hr
    exact ⟨fun _ => ⟨o, (key o).1 h1⟩, fun _ => by omega⟩
end Go.Proofs.Ytgkgcocpkammfaa
