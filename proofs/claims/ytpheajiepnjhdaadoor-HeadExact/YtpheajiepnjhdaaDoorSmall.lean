import Derived.Test.YtpheajiepnjhdaaDoorOwn
import Derived.Lib.BytesEntry
import Derived.Lib.IndexLaws
namespace Go.Proofs.YtpheajiepnjhdaaDoor
open Go.RowKit Rec

theorem isW_cases {n : Int} (h : isW n = true) : n = 1 ∨ n = 2 ∨ n = 4 ∨ n = 8 := by simp [isW] at h; omega
theorem isW_not {n : Int} (h : isW n = false) : n ≠ 1 ∧ n ≠ 2 ∧ n ≠ 4 ∧ n ≠ 8 := by simp [isW] at h; omega

set_option maxRecDepth 100000 in
set_option maxHeartbeats 400000 in
theorem isWidth_any (w : World) (n : Int) (hT : TabAt w) : Calls Tryd.prog 81 #[.int .i64 n] w fun e w' => e = .returned (.bool (isW n)) ∧ w = w' := by
  have c0 := hT.wid 0 (by omega)
  have c1 := hT.wid 1 (by omega)
  have c2 := hT.wid 2 (by omega)
  have c3 := hT.wid 3 (by omega)
  simp only [nth, List.getD] at c0 c1 c2 c3
  clear hT
  have i0 : ∀ w, (Instr.index 149 (.agg #[.int .i64 1, .int .i64 2, .int .i64 4, .int .i64 8]) (.int .i64 0)).run Tryd.prog w = .ok (.int .i64 1) w := fun _ => by kernel_rfl
  have i1 : ∀ w, (Instr.index 149 (.agg #[.int .i64 1, .int .i64 2, .int .i64 4, .int .i64 8]) (.int .i64 1)).run Tryd.prog w = .ok (.int .i64 2) w := fun _ => by kernel_rfl
  have i2 : ∀ w, (Instr.index 149 (.agg #[.int .i64 1, .int .i64 2, .int .i64 4, .int .i64 8]) (.int .i64 2)).run Tryd.prog w = .ok (.int .i64 4) w := fun _ => by kernel_rfl
  have i3 : ∀ w, (Instr.index 149 (.agg #[.int .i64 1, .int .i64 2, .int .i64 4, .int .i64 8]) (.int .i64 3)).run Tryd.prog w = .ok (.int .i64 8) w := fun _ => by kernel_rfl
  go_enter Tryd.func81, Tryd.ntmps81
  go_wp2
  go_loop [6] (fun i => ∃ k : Nat, k ≤ 4 ∧ i = .int .i64 k ∧ ∀ j, j < k → n ≠ nth [1, 2, 4, 8] j) (fun i => 4 - (intOf i).toNat)
  case atStart => exact ⟨0, Nat.zero_le _, rfl, fun j hj => absurd hj (by omega)⟩
  case round =>
    obtain ⟨k, hk, rfl, hne⟩ := hrel
    have hkk : k = 0 ∨ k = 1 ∨ k = 2 ∨ k = 3 ∨ k = 4 := by omega
    have HN : Hid (∀ j, j < k → n ≠ nth [1, 2, 4, 8] j) := hne
    clear hne hk
    rcases hkk with rfl | rfl | rfl | rfl | rfl
    case' inl => have hd : n = 1 ∨ n ≠ 1 := by omega
    case' inr.inl => have hd : n = 2 ∨ n ≠ 2 := by omega
    case' inr.inr.inl => have hd : n = 4 ∨ n ≠ 4 := by omega
    case' inr.inr.inr.inl => have hd : n = 8 ∨ n ≠ 8 := by omega
    case' inr.inr.inr.inr =>
      have h0 := HN.out 0 (by omega)
      have h1 := HN.out 1 (by omega)
      have h2 := HN.out 2 (by omega)
      have h3 := HN.out 3 (by omega)
      have H' : isW n = false := by simp [nth] at h0 h1 h2 h3; simp [isW, h0, h1, h2, h3]
      have H : Hid (isW n = false) := H'
      clear H'
      clear h0 h1 h2 h3
      go_wp2
      go_ret
      exact ⟨by rw [H.out]; rfl, rfl⟩
    all_goals
      rcases hd with rfl | he
      · go_wp2
        go_ret
        exact ⟨rfl, rfl⟩
      · go_wp2
        go_round
        case rel => exact ⟨_, by omega, by go_num, fun j hj => (Nat.lt_succ_iff_lt_or_eq.1 hj).elim (fun h => HN.out j h) (fun h => by subst h; exact he)⟩
        case measure => simp [intOf]

set_option maxRecDepth 100000 in
set_option maxHeartbeats 400000 in
theorem lie_any (w : World) (a : Option Addr) (len c : Nat) (at_ n : Int) (hl : len ≤ 1000000000000000) (_h0 : 0 ≤ n) (ha : at_ ≤ 9223372036854775807) :
    Calls Tryd.prog 80 #[.slice a len c, .int .i64 at_, .int .i64 n] w fun e w' => e = .returned (.bool (lies len at_ n)) ∧ w = w' := by
  by_cases h : 0 ≤ at_
  · go_enter Tryd.func80, Tryd.ntmps80
    go_wp2
    go_ret
    refine ⟨?_, rfl⟩
    show Ending.returned (.bool (decide (n ≤ ↑len - at_))) = _
    have : decide (n ≤ ↑len - at_) = lies len at_ n := by unfold lies; exact decide_eq_decide.2 (by omega)
    rw [this]
  · go_enter Tryd.func80, Tryd.ntmps80
    go_wp2
    go_ret
    refine ⟨?_, rfl⟩
    have e : lies len at_ n = false := by unfold lies; exact decide_eq_false (by omega)
    rw [e]; rfl

set_option maxRecDepth 100000 in
set_option maxHeartbeats 400000 in
theorem hasWidth_any (w : World) (v n : Int) (hw : isW n = true) (h0 : 0 ≤ v) (h1 : v < 18446744073709551616) : Calls Tryd.prog 82 #[.int .u64 v, .int .i64 n] w fun e w' => e = .returned (.bool (has v n)) ∧ w = w' := by
  rcases isW_cases hw with rfl | rfl | rfl | rfl
  all_goals
    go_enter Tryd.func82, Tryd.ntmps82
    go_wp2
    go_ret
    refine ⟨?_, rfl⟩
  · show Ending.returned (.bool (v / 256 == 0)) = _
    have e : (v / 256 == 0) = has v 1 := by rw [Bool.eq_iff_iff]; simp [has]; omega
    rw [e]
  · show Ending.returned (.bool (v / 65536 == 0)) = _
    have e : (v / 65536 == 0) = has v 2 := by rw [Bool.eq_iff_iff]; simp [has]; omega
    rw [e]
  · show Ending.returned (.bool (v / 4294967296 == 0)) = _
    have e : (v / 4294967296 == 0) = has v 4 := by rw [Bool.eq_iff_iff]; simp [has]; omega
    rw [e]
  · show Ending.returned (.bool (v / 18446744073709551616 == 0)) = _
    have e : (v / 18446744073709551616 == 0) = has v 8 := by rw [Bool.eq_iff_iff]; simp [has]; omega
    rw [e]

/-- 'allZero(b)' -/
theorem allZero_some (w : World) (b off n cap : Nat) (l : List Int) (_hn : l.length = n) (hl : n ≤ 1000000000000000)
    (hc : ∀ i, i < n → w.cell? ⟨b, off + i, none⟩ = some (.int .u8 (nth l i))) :
    Calls Tryd.prog 102 #[.slice (some ⟨b, off, none⟩) n cap] w fun e w' => e = .returned (.bool (zr l 0 n)) ∧ w = w' := by
  have HC : Hid (∀ i, i < n → w.cell? ⟨b, off + i, none⟩ = some (.int .u8 (nth l i))) := hc
  clear hc
  go_enter Tryd.func102, Tryd.ntmps102
  go_wp2
  go_loop [7] (fun i => ∃ k : Nat, k ≤ n ∧ i = .int .i64 k ∧ ∀ j, j < k → nth l j = 0) (fun i => n - (intOf i).toNat)
  case atStart => exact ⟨0, Nat.zero_le _, rfl, fun j hj => absurd hj (by omega)⟩
  case round =>
    obtain ⟨k, hk, rfl, hz⟩ := hrel
    have HZ : Hid (∀ j, j < k → nth l j = 0) := hz
    clear hz
    by_cases hlt : k < n
    · have c := HC.out k hlt
      by_cases h0 : nth l k = 0
      · go_wp2
        go_round
        case rel => exact ⟨k + 1, by omega, by go_num, fun j hj => (Nat.lt_succ_iff_lt_or_eq.1 hj).elim (fun h => HZ.out j h) (fun h => by subst h; exact h0)⟩
        case measure => simp [intOf]; omega
      · go_wp2
        go_ret
        refine ⟨?_, rfl⟩
        rw [zr_false l 0 n k hlt (by rw [Nat.zero_add]; exact h0)]; rfl
    · go_wp2
      go_ret
      refine ⟨?_, rfl⟩
      rw [zr_true l 0 n (fun i hi => by rw [Nat.zero_add]; exact HZ.out i (by omega))]; rfl
theorem allZero_none (w : World) (a : Option Addr) (cap : Nat) :
    Calls Tryd.prog 102 #[.slice a 0 cap] w fun e w' => e = .returned (.bool true) ∧ w = w' := by
  go_enter Tryd.func102, Tryd.ntmps102
  go_wp2
  go_loop [7] (fun i => i = .int .i64 0) (fun _ => 0)
  case atStart => exact rfl
  case round =>
    obtain rfl := hrel
    go_wp2
    go_ret
    exact ⟨rfl, rfl⟩
theorem allZero_any (w : World) (a : Option Addr) (n cap : Nat) (l : List Int) (hn : l.length = n) (hB : Bytes w a l) :
    Calls Tryd.prog 102 #[.slice a n cap] w fun e w' => e = .returned (.bool (zr l 0 n)) ∧ w = w' := by
  rcases hB.at_ with h | ⟨b, off, rfl, hc⟩
  · subst h; simp at hn; subst hn
    exact allZero_none w a cap
  · exact allZero_some w b off n cap l hn (by have := hB.len; omega) (fun i hi => hc i (by omega))

/-- 'bytes.IndexByte(b, 0)' -/
def Found (l : List Int) (n : Nat) (r : Int) : Prop := (r = -1 ∧ fz l 0 n = n) ∨ (r = fz l 0 n ∧ fz l 0 n < n)
theorem byte_zero {c : Int} (h : 0 ≤ c ∧ c < 256) : UInt8.ofNat c.toNat = (0 : Int).toNat.toUInt8 ↔ c = 0 := by
  constructor
  · intro e
    have := congrArg UInt8.toNat e
    simp at this
    omega
  · rintro rfl; rfl
theorem at_byte (l : List Int) (k : Nat) (hw : ∀ i, 0 ≤ nth l i ∧ nth l i < 256) : (Lib.bytesOf l)[k]? = some (0 : Int).toNat.toUInt8 ↔ k < l.length ∧ nth l k = 0 := by
  unfold Lib.bytesOf
  rw [List.getElem?_map]
  by_cases h : k < l.length
  · have e : l[k]? = some (nth l k) := by simp [nth, List.getD, h]
    rw [e]
    simp only [Option.map_some, Option.some.injEq]
    rw [byte_zero (hw k)]
    exact ⟨fun x => ⟨h, x⟩, fun x => x.2⟩
  · rw [List.getElem?_eq_none (by omega)]
    constructor
    · intro e; cases e
    · intro e; exact absurd e.1 h
theorem found_of (l : List Int) (n : Nat) (hn : l.length = n) (hw : ∀ i, 0 ≤ nth l i ∧ nth l i < 256) : Found l n (Lib.indexByte (Lib.bytesOf l) (0 : Int).toNat.toUInt8) := by
  have hge := Lib.indexByte_ge (Lib.bytesOf l) (0 : Int).toNat.toUInt8
  generalize hr : Lib.indexByte (Lib.bytesOf l) (0 : Int).toNat.toUInt8 = r at *
  by_cases h : r = -1
  · subst h
    have := Lib.indexByte_none hr
    refine .inl ⟨rfl, fz_eq _ _ _ _ (Nat.le_refl _) (fun i hi => ?_) (fun h => absurd h (by omega))⟩
    rw [Nat.zero_add]
    intro e
    exact this i ((at_byte l i hw).2 ⟨by omega, e⟩)
  · obtain ⟨o, rfl⟩ : ∃ o : Nat, r = o := ⟨r.toNat, by omega⟩
    have ⟨h1, h2⟩ := Lib.indexByte_some hr
    have h1 := (at_byte l o hw).1 h1
    have e : fz l 0 n = o := by
      refine fz_eq _ _ _ _ (by omega) (fun i hi => ?_) (fun _ => by rw [Nat.zero_add]; exact h1.2)
      rw [Nat.zero_add]
      intro e
      exact h2 i hi ((at_byte l i hw).2 ⟨by omega, e⟩)
    exact .inr ⟨by rw [e], by omega⟩

set_option maxRecDepth 100000 in
set_option maxHeartbeats 400000 in
theorem index_some (w : World) (b off n cap : Nat) (l : List Int) (hn : l.length = n) (hc : ∀ i, i < n → w.cell? ⟨b, off + i, none⟩ = some (.int .u8 (nth l i))) :
    Calls Tryd.prog 103 #[.slice (some ⟨b, off, none⟩) n cap, .int .u8 0] w fun e w' => e = .returned (.int .i64 (Lib.indexByte (Lib.bytesOf l) (0 : Int).toNat.toUInt8)) ∧ w = w' := by
  go_enter Tryd.func103, Tryd.ntmps103
  go_wp2
  rw [run_callFunc_extern Tryd.func111 (by kernel_rfl) (by kernel_rfl) (by kernel_rfl) (e := Extern.BytealgIndexByte.indexByte) (by kernel_rfl), Lib.run_indexByteSlice w b off n cap l hn hc 0]
  simp only [Result.andThen]
  rw [Oper.upon_value]
  go_wp2
  go_ret
  exact ⟨rfl, rfl⟩
set_option maxRecDepth 100000 in
set_option maxHeartbeats 400000 in
theorem index_none (w : World) (n cap : Nat) : Calls Tryd.prog 103 #[.slice none n cap, .int .u8 0] w fun e w' => e = .returned (.int .i64 (-1)) ∧ w = w' := by
  go_enter Tryd.func103, Tryd.ntmps103
  go_wp2
  rw [run_callFunc_extern Tryd.func111 (by kernel_rfl) (by kernel_rfl) (by kernel_rfl) (e := Extern.BytealgIndexByte.indexByte) (by kernel_rfl), Lib.run_indexByteNil w n cap 0]
  simp only [Result.andThen]
  rw [Oper.upon_value]
  go_wp2
  go_ret
  exact ⟨rfl, rfl⟩
theorem index_any (w : World) (b off n cap : Nat) (l : List Int) (hn : l.length = n) (hB : Bytes w (some ⟨b, off, none⟩) l) :
    Calls Tryd.prog 103 #[.slice (some ⟨b, off, none⟩) n cap, .int .u8 0] w fun e w' => ∃ r, Found l n r ∧ e = .returned (.int .i64 r) ∧ w = w' := by
  have hc : ∀ i, i < n → w.cell? ⟨b, off + i, none⟩ = some (.int .u8 (nth l i)) := by
    rcases hB.at_ with h | ⟨b, off, e, hc⟩
    · subst h; simp at hn; subst hn
      intro i hi; omega
    · cases e; intro i hi; exact hc i (by omega)
  refine (index_some w b off n cap l hn hc).mono ?_
  rintro e w' ⟨rfl, rfl⟩
  exact ⟨_, found_of l n hn hB.wf, rfl, rfl⟩

set_option maxRecDepth 100000 in
set_option maxHeartbeats 400000 in
theorem sindex_lite (w : World) (s : ByteArray) : Calls Tryd.prog 100 #[.string s, .int .u8 0] w fun e w' => e = .returned (.int .i64 (Lib.indexByte s.data.toList (0 : Int).toNat.toUInt8)) ∧ w = w' := by
  go_enter Tryd.func100, Tryd.ntmps100
  go_wp2
  rw [run_callFunc_extern Tryd.func110 (by kernel_rfl) (by kernel_rfl) (by kernel_rfl) (e := Extern.BytealgIndexByte.indexByte) (by kernel_rfl), Lib.run_indexByteString]
  simp only [Result.andThen]
  rw [Oper.upon_value]
  go_wp2
  go_ret
  exact ⟨rfl, rfl⟩
/-- has a string a zero byte? -/
def hasZ (s : ByteArray) : Bool := decide (∃ i, i < s.size ∧ nth (sb s) i = 0)
theorem sfound (s : ByteArray) : (0 ≤ Lib.indexByte s.data.toList (0 : Int).toNat.toUInt8) ↔ ∃ i, i < s.size ∧ nth (sb s) i = 0 := by
  have key : ∀ k, s.data.toList[k]? = some (0 : Int).toNat.toUInt8 ↔ k < s.size ∧ nth (sb s) k = 0 := by
    intro k
    by_cases h : k < s.size
    · have h' : k < s.data.size := h
      rw [sb_nth s k h, Array.getElem?_toList, Array.getElem?_eq_getElem h', Option.some.injEq]
      constructor
      · intro e; exact ⟨h, by show ((s.data[k]).toNat : Int) = 0; rw [e]; rfl⟩
      · rintro ⟨_, e⟩
        have e' : ((s.data[k]).toNat : Int) = 0 := e
        exact UInt8.toNat.inj (by show _ = 0; omega)
    · rw [List.getElem?_eq_none (by rw [Array.length_toList]; exact Nat.le_of_not_lt h)]
      constructor
      · intro e; cases e
      · intro e; exact absurd e.1 h
  have hge := Lib.indexByte_ge s.data.toList (0 : Int).toNat.toUInt8
  generalize hr : Lib.indexByte s.data.toList (0 : Int).toNat.toUInt8 = r at *
  by_cases h : r = -1
  · subst h
    have hn := Lib.indexByte_none hr
    exact ⟨fun e => absurd e (by omega), fun ⟨i, hi⟩ => absurd ((key i).2 hi) (hn i)⟩
  · obtain ⟨o, rfl⟩ : ∃ o : Nat, r = o := ⟨r.toNat, by omega⟩
    have ⟨h1, _⟩ := Lib.indexByte_some hr
    exact ⟨fun _ => ⟨o, (key o).1 h1⟩, fun _ => by omega⟩
set_option maxRecDepth 100000 in
set_option maxHeartbeats 400000 in
theorem sindex_any (w : World) (s : ByteArray) : Calls Tryd.prog 79 #[.string s, .int .u8 0] w fun e w' => ∃ r : Int, (0 ≤ r ↔ ∃ i, i < s.size ∧ nth (sb s) i = 0) ∧ e = .returned (.int .i64 r) ∧ w = w' := by
  have hf := sfound s
  generalize hr : Lib.indexByte s.data.toList (0 : Int).toNat.toUInt8 = r at hf
  have HR : Hid (Lib.indexByte s.data.toList (0 : Int).toNat.toUInt8 = r) := hr
  have HF : Hid (0 ≤ r ↔ ∃ i, i < s.size ∧ nth (sb s) i = 0) := hf
  clear hr hf
  go_enter Tryd.func79, Tryd.ntmps79
  go_wp2_with (go_at_call 100; refine (sindex_lite _ _).mono ?_; rintro e w' ⟨rfl, rfl⟩; rw [HR.out])
  go_ret
  exact ⟨r, HF.out, rfl, rfl⟩
end Go.Proofs.YtpheajiepnjhdaaDoor
