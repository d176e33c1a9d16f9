import Derived.Test.YtmecmeonahodaaaPaO
namespace Go.Proofs.Ytmecmeonahodaaa
open Go.RowKit Go.Shelf Pa
theorem any_take {p : ByteArray → Bool} {xs : List ByteArray} {k : Nat} {x : ByteArray} (h : (xs.take k).any p = false) (hx : xs[k]? = some x) (hp : p x = false) : (xs.take (k + 1)).any p = false := by
  rw [List.take_add_one, hx, List.any_append, h]
  simp [hp]
theorem any_at {p : ByteArray → Bool} {xs : List ByteArray} {k : Nat} {x : ByteArray} (hx : xs[k]? = some x) (hp : p x = true) : xs.any p = true := List.any_eq_true.2 ⟨x, List.mem_of_getElem? hx, hp⟩
theorem StrsAt.at {w : World} {a : Option Addr} {xs : List ByteArray} (h : StrsAt w a xs) {k : Nat} (hk : k < xs.length) : ∃ b off x, a = some ⟨b, off, none⟩ ∧ xs[k]? = some x ∧ w.cell? ⟨b, off + k, none⟩ = some (.string x) := by
  rcases h with h | ⟨b, off, e, hc⟩
  · subst h; cases hk
  · exact ⟨b, off, xs[k], e, List.getElem?_eq_getElem hk, hc k _ (List.getElem?_eq_getElem hk)⟩

set_option maxHeartbeats 4000000 in
theorem index_noP (w : World) (a : Option Addr) (n c : Nat) (xs : List ByteArray) (hxs : StrsAt w a xs) (hn : xs.length = n) (hb : n ≤ 9223372036854775806) : Calls Try.prog 30 #[.slice a n c, .func (.func 21) #[] #[]] w fun e w' => (∃ r : Int, e = .returned (.int .i64 r) ∧ decide ((0 : Int) ≤ r) = xs.any (fun s => noPart (tx s))) ∧ w = w' := by
  go_enter Try.func30, Try.ntmps30
  go_wp2
  go_loopw [8] (fun s8 wr => ∃ k : Nat, k ≤ n ∧ s8 = .int .i64 (k : Int) ∧ (xs.take k).any (fun s => noPart (tx s)) = false ∧ wr = w) (fun s8 _ => n - (intOf s8).toNat)
  case atStart => exact ⟨0, Nat.zero_le _, rfl, rfl, rfl⟩
  case round =>
    obtain ⟨k, hk, rfl, hno, rfl⟩ := hrel
    have HN : Hid ((xs.take k).any (fun s => noPart (tx s)) = false) := hno
    clear hno
    by_cases hlt : k < n
    · have hlt' : (k : Int) < (n : Int) := by omega
      obtain ⟨b, off, x, rfl, hx, hc⟩ := hxs.at (k := k) (by omega)
      have HX : Hid (xs[k]? = some x) := hx
      clear hx
      cases hp : noPart (tx x) with
      | true =>
        go_wp2_with (go_at_call 21; refine (isNoPart_any _ _).mono ?_; rintro e w' ⟨rfl, rfl⟩; rw [hp])
        go_ret
        refine ⟨⟨_, rfl, ?_⟩, rfl⟩
        rw [any_at HX.out hp]
        simp
      | false =>
        go_wp2_with (go_at_call 21; refine (isNoPart_any _ _).mono ?_; rintro e w' ⟨rfl, rfl⟩; rw [hp])
        go_roundw
        case rel => exact ⟨k + 1, by omega, by go_num, any_take HN.out HX.out hp, trivial⟩
        case measure => simp [intOf]; omega
    · have hlt' : ¬ (k : Int) < (n : Int) := by omega
      go_wp2
      go_ret
      refine ⟨⟨_, rfl, ?_⟩, rfl⟩
      have := HN.out
      rw [List.take_of_length_le (by omega)] at this
      rw [this]; rfl
theorem has_noP (w : World) (a : Option Addr) (n c : Nat) (xs : List ByteArray) (hxs : StrsAt w a xs) (hn : xs.length = n) (hb : n ≤ 9223372036854775806) : Calls Try.prog 20 #[.slice a n c, .func (.func 21) #[] #[]] w fun e w' => e = .returned (.bool (xs.any (fun s => noPart (tx s)))) ∧ w = w' := by
  obtain ⟨bb, hbb⟩ : ∃ bb, xs.any (fun s => noPart (tx s)) = bb := ⟨_, rfl⟩
  have C := index_noP w a n c xs hxs hn hb
  rw [hbb] at C ⊢
  clear hbb
  go_enter Try.func20, Try.ntmps20
  go_wp2_with (go_at_call 30; refine C.mono ?_; rintro e w' ⟨⟨r, rfl, hr⟩, rfl⟩)
  go_ret
  refine ⟨?_, rfl⟩
  rw [← hr]; rfl

set_option maxHeartbeats 4000000 in
theorem index_lg (w : World) (a : Option Addr) (n c : Nat) (xs : List ByteArray) (hxs : StrsAt w a xs) (hn : xs.length = n) (hb : n ≤ 9223372036854775806) : Calls Try.prog 30 #[.slice a n c, .func (.func 22) #[] #[]] w fun e w' => (∃ r : Int, e = .returned (.int .i64 r) ∧ decide ((0 : Int) ≤ r) = xs.any (fun s => long (tx s))) ∧ w = w' := by
  go_enter Try.func30, Try.ntmps30
  go_wp2
  go_loopw [8] (fun s8 wr => ∃ k : Nat, k ≤ n ∧ s8 = .int .i64 (k : Int) ∧ (xs.take k).any (fun s => long (tx s)) = false ∧ wr = w) (fun s8 _ => n - (intOf s8).toNat)
  case atStart => exact ⟨0, Nat.zero_le _, rfl, rfl, rfl⟩
  case round =>
    obtain ⟨k, hk, rfl, hno, rfl⟩ := hrel
    have HN : Hid ((xs.take k).any (fun s => long (tx s)) = false) := hno
    clear hno
    by_cases hlt : k < n
    · have hlt' : (k : Int) < (n : Int) := by omega
      obtain ⟨b, off, x, rfl, hx, hc⟩ := hxs.at (k := k) (by omega)
      have HX : Hid (xs[k]? = some x) := hx
      clear hx
      cases hp : long (tx x) with
      | true =>
        go_wp2_with (go_at_call 22; refine (isLong_any _ _).mono ?_; rintro e w' ⟨rfl, rfl⟩; rw [hp])
        go_ret
        refine ⟨⟨_, rfl, ?_⟩, rfl⟩
        rw [any_at HX.out hp]
        simp
      | false =>
        go_wp2_with (go_at_call 22; refine (isLong_any _ _).mono ?_; rintro e w' ⟨rfl, rfl⟩; rw [hp])
        go_roundw
        case rel => exact ⟨k + 1, by omega, by go_num, any_take HN.out HX.out hp, trivial⟩
        case measure => simp [intOf]; omega
    · have hlt' : ¬ (k : Int) < (n : Int) := by omega
      go_wp2
      go_ret
      refine ⟨⟨_, rfl, ?_⟩, rfl⟩
      have := HN.out
      rw [List.take_of_length_le (by omega)] at this
      rw [this]; rfl
theorem has_lg (w : World) (a : Option Addr) (n c : Nat) (xs : List ByteArray) (hxs : StrsAt w a xs) (hn : xs.length = n) (hb : n ≤ 9223372036854775806) : Calls Try.prog 20 #[.slice a n c, .func (.func 22) #[] #[]] w fun e w' => e = .returned (.bool (xs.any (fun s => long (tx s)))) ∧ w = w' := by
  obtain ⟨bb, hbb⟩ : ∃ bb, xs.any (fun s => long (tx s)) = bb := ⟨_, rfl⟩
  have C := index_lg w a n c xs hxs hn hb
  rw [hbb] at C ⊢
  clear hbb
  go_enter Try.func20, Try.ntmps20
  go_wp2_with (go_at_call 30; refine C.mono ?_; rintro e w' ⟨⟨r, rfl, hr⟩, rfl⟩)
  go_ret
  refine ⟨?_, rfl⟩
  rw [← hr]; rfl
end Go.Proofs.Ytmecmeonahodaaa
