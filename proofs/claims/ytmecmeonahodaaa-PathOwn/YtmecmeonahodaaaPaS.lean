import Derived.Test.YtmecmeonahodaaaPaM
import Derived.Test.YtmecmeonahodaaaPaR
import Derived.WalkKit
import Derived.WalkLawsBesides
import Derived.WalkSmall
import Derived.Deep.QuietTactic
import Derived.BigQuiet
import Derived.Deep.DeepCutAuto
import Derived.BigRegion
import Derived.Laws.Strings3
import Derived.Lib.IndexLaws
namespace Go.Proofs.Ytmecmeonahodaaa
open Go.RowKit Pa

abbrev st (l : List UInt8) : ByteArray := ⟨l.toArray⟩
def tx (s : ByteArray) : Tx := s.data.toList
theorem tx_st (l : Tx) : tx (st l) = l := by simp [tx]
theorem toList_tx (s : ByteArray) : s.toList = tx s := Lib.toList_data s
theorem size_tx (s : ByteArray) : s.size = (tx s).length := Lib.size_eq s
theorem tx_inj {s t : ByteArray} (h : tx s = tx t) : s = t := by
  cases s; cases t
  simp only [tx] at h
  rw [Array.toList_inj.1 h]
theorem st_data (s : ByteArray) : st s.data.toList = s := by cases s; simp [st]
theorem st_size (l : List UInt8) : (st l).size = l.length := by simp [ByteArray.size]
theorem st_inj {a b : List UInt8} (h : st a = st b) : a = b := by
  have := congrArg (fun s : ByteArray => s.data.toList) h
  simpa [st] using this

theorem ext_pre {s : ByteArray} {a b : List UInt8} (h : s.data.toList = a ++ b) : s.extract 0 a.length = st a := by
  apply ByteArray.ext
  apply Array.ext'
  simp [h]
theorem ext_suf {s : ByteArray} {a b : List UInt8} (h : s.data.toList = a ++ b) : s.extract a.length s.size = st b := by
  apply ByteArray.ext
  apply Array.ext'
  have : s.size = a.length + b.length := by rw [Lib.size_eq, h]; simp
  simp [h, this]
theorem ibyte_any (w : World) (s : ByteArray) (c : Int) : Calls Try.prog 45 #[.string s, .int .u8 c] w fun e w' => e = .returned (.int .i64 (Lib.indexByte s.data.toList c.toNat.toUInt8)) ∧ w = w' := by
  go_enter Try.func45, Try.ntmps45
  go_wp2
  rw [run_callFunc_extern Try.func49 (by kernel_rfl) (by kernel_rfl) (by kernel_rfl) (e := Extern.BytealgIndexByte.indexByte) (by kernel_rfl), Lib.run_indexByteString, Result.andThen_ok, Oper.upon_value]
  go_wp2
  go_ret
  exact ⟨rfl, rfl⟩
theorem index_one (w : World) (s : ByteArray) (c : UInt8) : Calls Try.prog 41 #[.string s, .string ⟨#[c]⟩] w fun e w' => e = .returned (.int .i64 (Lib.indexByte s.data.toList c)) ∧ w = w' := by
  have C := fun w => ibyte_any w s ((c.toNat : Nat) : Int)
  go_enter Try.func41, Try.ntmps41
  go_wp2_with (go_at_call 45; refine (C _).mono ?_; rintro e w' ⟨rfl, rfl⟩)
  · have h : ([c] == s.toList) = true := by assumption
    go_ret
    refine ⟨?_, rfl⟩
    have e : s.data.toList = [c] := by rw [← Lib.toList_data]; exact (beq_iff_eq.1 h).symm
    rw [e]
    simp [Lib.indexByte]
  · go_ret
    exact ⟨by simp, rfl⟩
theorem ib_cases (c : UInt8) : ∀ (l : List UInt8), (c ∉ l ∧ Lib.indexByte l c = -1) ∨ ∃ a b, l = a ++ c :: b ∧ c ∉ a ∧ Lib.indexByte l c = (a.length : Int)
  | [] => .inl ⟨by simp, rfl⟩
  | x :: l => by
    by_cases h : x = c
    · subst h
      exact .inr ⟨[], l, rfl, by simp, by simp [Lib.indexByte]⟩
    · rcases ib_cases c l with ⟨h1, h2⟩ | ⟨a, b, h1, h2, h3⟩
      · refine .inl ⟨by simp [h1]; exact fun e => h e.symm, ?_⟩
        simp [Lib.indexByte, h, h2]
      · refine .inr ⟨x :: a, b, by rw [h1]; rfl, by simp [h2]; exact fun e => h e.symm, ?_⟩
        have : Lib.indexByte l c ≠ -1 := by omega
        simp only [Lib.indexByte, beq_iff_eq, h, if_false, h3, List.length_cons]
        omega
theorem sindex_one (w : World) (s : ByteArray) (c : UInt8) : Calls Try.prog 34 #[.string s, .string ⟨#[c]⟩] w fun e w' => e = .returned (.int .i64 (Lib.indexByte s.data.toList c)) ∧ w = w' := by
  go_enter Try.func34, Try.ntmps34
  go_wp2_with (go_at_call 41; refine (index_one _ _ _).mono ?_; rintro e w' ⟨rfl, rfl⟩)
  go_ret
  exact ⟨rfl, rfl⟩
theorem contains_one (w : World) (s : ByteArray) (c : UInt8) : Calls Try.prog 26 #[.string s, .string ⟨#[c]⟩] w fun e w' => e = .returned (.bool (hasC (tx s) c)) ∧ w = w' := by
  have hb : hasC (tx s) c = decide ((0 : Int) ≤ Lib.indexByte s.data.toList c) := by
    unfold hasC tx
    generalize s.data.toList = l
    rcases ib_cases c l with ⟨h1, h2⟩ | ⟨a, b, rfl, h2, h3⟩
    · rw [h2]; simpa using h1
    · rw [h3]; simp
  rw [hb]
  go_enter Try.func26, Try.ntmps26
  go_wp2_with (go_at_call 34; refine (sindex_one _ _ _).mono ?_; rintro e w' ⟨rfl, rfl⟩)
  go_ret
  exact ⟨rfl, rfl⟩
theorem sl1_ext {s : ByteArray} (h : ¬ s.size = 0) : ((s.extract 0 1).toList == [47]) = sl1 (tx s) := by
  rw [toList_tx]
  unfold tx sl1
  rw [Lib.size_eq] at h
  simp
  cases e : s.data.toList with
  | nil => rw [e] at h; simp at h
  | cons x l => simp
theorem hasPre (w : World) (s : ByteArray) : Calls Try.prog 25 #[.string s, .string ⟨#[47]⟩] w fun e w' => e = .returned (.bool (sl1 (tx s))) ∧ w = w' := by
  by_cases hs : s.size = 0
  · have hb : sl1 (tx s) = false := by
      rw [size_tx] at hs
      rw [List.eq_nil_of_length_eq_zero hs]; rfl
    rw [hb]
    clear hb
    go_enter Try.func25, Try.ntmps25
    go_wp2
    go_ret
    exact ⟨rfl, rfl⟩
  · have h1 : (1 : Int) ≤ (s.size : Int) := by omega
    rw [← sl1_ext hs]
    go_enter Try.func25, Try.ntmps25
    go_wp2
    go_ret
    exact ⟨rfl, rfl⟩
theorem cut_one (w : World) (s : ByteArray) (c : UInt8) (hl : s.size ≤ 9223372036854775807) : Calls Try.prog 42 #[.string s, .string ⟨#[c]⟩] w fun e w' =>
    ((c ∉ tx s ∧ e = .returned (.tuple #[.string s, .string ⟨#[]⟩, .bool false])) ∨ ∃ a b, tx s = a ++ c :: b ∧ c ∉ a ∧ e = .returned (.tuple #[.string (st a), .string (st b), .bool true])) ∧ ∃ m, w' = w.drewN m := by
  rcases ib_cases c s.data.toList with ⟨h1, h2⟩ | ⟨a, b, h1, h2, h3⟩
  · have C := index_one w s c
    rw [h2] at C
    go_enter Try.func42, Try.ntmps42
    go_wp2_with (go_at_call 41; refine C.mono ?_; rintro e w' ⟨rfl, rfl⟩)
    go_ret3
    exact ⟨.inl ⟨h1, rfl⟩, 0, rfl⟩
  · have C := index_one w s c
    rw [h3] at C
    have hsz : s.size = a.length + 1 + b.length := by rw [size_tx, tx, h1]; simp; omega
    obtain ⟨n, hn⟩ : ∃ n, a.length = n := ⟨_, rfl⟩
    rw [hn] at hsz C
    have c1 : (0 : Int) ≤ (n : Int) := by omega
    have c2 : (n : Int) ≤ (s.size : Int) := by omega
    have c3 : (0 : Int) ≤ (n : Int) + 1 := by omega
    have c4 : (n : Int) + 1 ≤ (s.size : Int) := by omega
    have c5 : IntKind.i64.wrap ((n : Int) + 1) = (n : Int) + 1 := by rw [IntKind.wrap_i64]; omega
    have HH : Hid (tx s = a ++ c :: b ∧ c ∉ a ∧ a.length = n) := ⟨h1, h2, hn⟩
    clear h1 h2 h3 hn hsz
    go_enter Try.func42, Try.ntmps42
    go_wp2_with (go_at_call 41; refine C.mono ?_; rintro e w' ⟨rfl, rfl⟩)
    go_region
    go_wp2
    go_ret3
    refine ⟨.inr ⟨a, b, HH.out.1, HH.out.2.1, ?_⟩, 1, rfl⟩
    have e1 := ext_pre HH.out.1
    have e2 := ext_suf (s := s) (a := a ++ [c]) (b := b) (by show tx s = _; rw [HH.out.1]; simp)
    rw [HH.out.2.2] at e1
    rw [List.length_append, HH.out.2.2] at e2
    rw [← e1, ← e2]
    rfl
theorem scut_one (w : World) (s : ByteArray) (c : UInt8) (hl : s.size ≤ 9223372036854775807) : Calls Try.prog 38 #[.string s, .string ⟨#[c]⟩] w fun e w' =>
    ((c ∉ tx s ∧ e = .returned (.tuple #[.string s, .string ⟨#[]⟩, .bool false])) ∨ ∃ a b : ByteArray, tx s = tx a ++ c :: tx b ∧ c ∉ tx a ∧ e = .returned (.tuple #[.string a, .string b, .bool true])) ∧ ∃ m, w' = w.drewN m := by
  go_enter Try.func38, Try.ntmps38
  go_wp2_with (go_at_call 42; refine (cut_one _ _ _ hl).mono ?_; rintro e w' ⟨⟨h1, rfl⟩ | ⟨a, b, h1, h2, rfl⟩, m, rfl⟩)
  · go_ret3
    exact ⟨.inl ⟨h1, rfl⟩, m, rfl⟩
  · go_ret3
    exact ⟨.inr ⟨st a, st b, by rw [tx_st, tx_st]; exact h1, by rw [tx_st]; exact h2, rfl⟩, m, rfl⟩
theorem hasPrefix_any (w : World) (s : ByteArray) : Calls Try.prog 14 #[.string s, .string ⟨#[47]⟩] w fun e w' => e = .returned (.bool (sl1 (tx s))) ∧ w = w' := by
  go_enter Try.func14, Try.ntmps14
  go_wp2_with (go_at_call 25; refine (hasPre _ _).mono ?_; rintro e w' ⟨rfl, rfl⟩)
  go_ret
  exact ⟨rfl, rfl⟩
theorem hasZero_any (w : World) (s : ByteArray) : Calls Try.prog 15 #[.string s] w fun e w' => e = .returned (.bool (hasZ (tx s))) ∧ w = w' := by
  go_enter Try.func15, Try.ntmps15
  go_wp2_with (go_at_call 26; refine (contains_one _ _ _).mono ?_; rintro e w' ⟨rfl, rfl⟩)
  go_ret
  exact ⟨rfl, rfl⟩
theorem isLong_any (w : World) (s : ByteArray) : Calls Try.prog 22 #[.string s] w fun e w' => e = .returned (.bool (long (tx s))) ∧ w = w' := by
  go_enter Try.func22, Try.ntmps22
  go_wp2
  go_ret
  refine ⟨?_, rfl⟩
  unfold long
  rw [← size_tx]
  have : decide (27 < (s.size : Int)) = decide (27 < s.size) := by rw [decide_eq_decide]; omega
  rw [← this]; rfl
theorem isNoPart_any (w : World) (s : ByteArray) : Calls Try.prog 21 #[.string s] w fun e w' => e = .returned (.bool (noPart (tx s))) ∧ w = w' := by
  go_enter Try.func21, Try.ntmps21
  go_wp2_with (first | (go_at_call 26; refine (contains_one _ _ _).mono ?_; rintro e w' ⟨rfl, rfl⟩) | (go_at_call 15; refine (hasZero_any _ _).mono ?_; rintro e w' ⟨rfl, rfl⟩))
  · have h : s.toList = [] := by assumption
    rw [toList_tx] at h
    go_ret
    refine ⟨?_, rfl⟩
    rw [h]; rfl
  · have h : s.toList = [46] := by assumption
    rw [toList_tx] at h
    go_ret
    refine ⟨?_, rfl⟩
    rw [h]; rfl
  · have h1 : ¬ s.toList = [] := by assumption
    have h2 : ¬ s.toList = [46] := by assumption
    have h3 : hasC (tx s) 47 = true := by assumption
    rw [toList_tx] at h1 h2
    go_ret
    refine ⟨?_, rfl⟩
    unfold noPart
    rw [h3]; simp
  · have h1 : ¬ s.toList = [] := by assumption
    have h2 : ¬ s.toList = [46] := by assumption
    have h3 : ¬ hasC (tx s) 47 = true := by assumption
    rw [toList_tx] at h1 h2
    go_ret
    refine ⟨?_, rfl⟩
    unfold noPart
    simp [toList_tx, h3]
end Go.Proofs.Ytmecmeonahodaaa
