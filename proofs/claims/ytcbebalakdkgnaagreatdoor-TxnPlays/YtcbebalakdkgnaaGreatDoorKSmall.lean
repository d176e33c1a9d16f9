import Derived.Test.YtcbebalakdkgnaaGreatDoorKMem
import Derived.Lib.BytesEntry
import Derived.Lib.IndexLaws
import Derived.Laws.BitsAllLaws
import Derived.Deep.DeepCutAuto
import Derived.Lib.LazyBuf
import Derived.Lib.BufferWrite
import Derived.Lib.SliceRun
namespace Go.Proofs.YtcbebalakdkgnaaGreatDoor
open Go.RowKit Rec

theorem isW_cases {n : Int} (h : isW n = true) : n = 1 ∨ n = 2 ∨ n = 4 ∨ n = 8 := by simp [isW] at h; omega
set_option maxRecDepth 100000 in
set_option maxHeartbeats 400000 in
theorem isWidth_any (w : World) (n : Int) (hT : TabAt w) : Calls Tryz.prog 137 #[.int .i64 n] w fun e w' => e = .returned (.bool (isW n)) ∧ w = w' := by
  have c0 := hT.wid 0 (by omega)
  have c1 := hT.wid 1 (by omega)
  have c2 := hT.wid 2 (by omega)
  have c3 := hT.wid 3 (by omega)
  simp only [nth, List.getD] at c0 c1 c2 c3
  clear hT
  have i0 : ∀ w, (Instr.index 192 (.agg #[.int .i64 1, .int .i64 2, .int .i64 4, .int .i64 8]) (.int .i64 0)).run Tryz.prog w = .ok (.int .i64 1) w := fun _ => by kernel_rfl
  have i1 : ∀ w, (Instr.index 192 (.agg #[.int .i64 1, .int .i64 2, .int .i64 4, .int .i64 8]) (.int .i64 1)).run Tryz.prog w = .ok (.int .i64 2) w := fun _ => by kernel_rfl
  have i2 : ∀ w, (Instr.index 192 (.agg #[.int .i64 1, .int .i64 2, .int .i64 4, .int .i64 8]) (.int .i64 2)).run Tryz.prog w = .ok (.int .i64 4) w := fun _ => by kernel_rfl
  have i3 : ∀ w, (Instr.index 192 (.agg #[.int .i64 1, .int .i64 2, .int .i64 4, .int .i64 8]) (.int .i64 3)).run Tryz.prog w = .ok (.int .i64 8) w := fun _ => by kernel_rfl
  go_enter Tryz.func137, Tryz.ntmps137
  go_wp2
  go_loop [6] (fun i => ∃ k : Nat, k ≤ 4 ∧ i = .int .i64 k ∧ ∀ j, j < k → n ≠ nth [1, 2, 4, 8] j) (fun i => 4 - (intOf i).toNat)
  case atStart => exact ⟨0, Nat.zero_le _, rfl, fun j hj => absurd hj (by omega)⟩
  case round =>
    obtain ⟨k, hk, rfl, hne⟩ := hrel
    have hkk : k = 0 ∨ k = 1 ∨ k = 2 ∨ k = 3 ∨ k = 4 := by omega
    have HN : Hid (∀ j, j < k → n ≠ nth [1, 2, 4, 8] j) := hne
    clear hne hk
    rcases hkk with rfl | rfl | rfl | rfl | rfl
    case' inl => have hd : n = 1 ∨ n ≠ 1 := by omega
    case' inr.inl => have hd : n = 2 ∨ n ≠ 2 := by omega
    case' inr.inr.inl => have hd : n = 4 ∨ n ≠ 4 := by omega
    case' inr.inr.inr.inl => have hd : n = 8 ∨ n ≠ 8 := by omega
    case' inr.inr.inr.inr =>
      have h0 := HN.out 0 (by omega)
      have h1 := HN.out 1 (by omega)
      have h2 := HN.out 2 (by omega)
      have h3 := HN.out 3 (by omega)
      have H' : isW n = false := by simp [nth] at h0 h1 h2 h3; simp [isW, h0, h1, h2, h3]
      have H : Hid (isW n = false) := H'
      clear H'
      clear h0 h1 h2 h3
      go_wp2
      go_ret
      exact ⟨by rw [H.out]; rfl, rfl⟩
    all_goals
      rcases hd with rfl | he
      · go_wp2
        go_ret
        exact ⟨rfl, rfl⟩
      · go_wp2
        go_round
        case rel => exact ⟨_, by omega, by go_num, fun j hj => (Nat.lt_succ_iff_lt_or_eq.1 hj).elim (fun h => HN.out j h) (fun h => by subst h; exact he)⟩
        case measure => simp [intOf]

set_option maxRecDepth 100000 in
set_option maxHeartbeats 400000 in
theorem lie_any (w : World) (a : Option Addr) (len c : Nat) (at_ n : Int) (hl : len ≤ 1000000000000000) (_h0 : 0 ≤ n) (ha : at_ ≤ 9223372036854775807) :
    Calls Tryz.prog 136 #[.slice a len c, .int .i64 at_, .int .i64 n] w fun e w' => e = .returned (.bool (lies len at_ n)) ∧ w = w' := by
  by_cases h : 0 ≤ at_
  · go_enter Tryz.func136, Tryz.ntmps136
    go_wp2
    go_ret
    refine ⟨?_, rfl⟩
    show Ending.returned (.bool (decide (n ≤ ↑len - at_))) = _
    have : decide (n ≤ ↑len - at_) = lies len at_ n := by unfold lies; exact decide_eq_decide.2 (by omega)
    rw [this]
  · go_enter Tryz.func136, Tryz.ntmps136
    go_wp2
    go_ret
    refine ⟨?_, rfl⟩
    have e : lies len at_ n = false := by unfold lies; exact decide_eq_false (by omega)
    rw [e]; rfl

set_option maxRecDepth 100000 in
set_option maxHeartbeats 400000 in
theorem hasWidth_any (w : World) (v n : Int) (hw : isW n = true) (h0 : 0 ≤ v) (h1 : v < 18446744073709551616) : Calls Tryz.prog 138 #[.int .u64 v, .int .i64 n] w fun e w' => e = .returned (.bool (has v n)) ∧ w = w' := by
  rcases isW_cases hw with rfl | rfl | rfl | rfl
  all_goals
    go_enter Tryz.func138, Tryz.ntmps138
    go_wp2
    go_ret
    refine ⟨?_, rfl⟩
  · show Ending.returned (.bool (v / 256 == 0)) = _
    have e : (v / 256 == 0) = has v 1 := by rw [Bool.eq_iff_iff]; simp [has]; omega
    rw [e]
  · show Ending.returned (.bool (v / 65536 == 0)) = _
    have e : (v / 65536 == 0) = has v 2 := by rw [Bool.eq_iff_iff]; simp [has]; omega
    rw [e]
  · show Ending.returned (.bool (v / 4294967296 == 0)) = _
    have e : (v / 4294967296 == 0) = has v 4 := by rw [Bool.eq_iff_iff]; simp [has]; omega
    rw [e]
  · show Ending.returned (.bool (v / 18446744073709551616 == 0)) = _
    have e : (v / 18446744073709551616 == 0) = has v 8 := by rw [Bool.eq_iff_iff]; simp [has]; omega
    rw [e]

/-- 'allZero(b)' -/
theorem allZero_some (w : World) (b off n cap : Nat) (l : List Int) (_hn : l.length = n) (hl : n ≤ 1000000000000000)
    (hc : ∀ i, i < n → w.cell? ⟨b, off + i, none⟩ = some (.int .u8 (nth l i))) :
    Calls Tryz.prog 156 #[.slice (some ⟨b, off, none⟩) n cap] w fun e w' => e = .returned (.bool (zr l 0 n)) ∧ w = w' := by
  have HC : Hid (∀ i, i < n → w.cell? ⟨b, off + i, none⟩ = some (.int .u8 (nth l i))) := hc
  clear hc
  go_enter Tryz.func156, Tryz.ntmps156
  go_wp2
  go_loop [7] (fun i => ∃ k : Nat, k ≤ n ∧ i = .int .i64 k ∧ ∀ j, j < k → nth l j = 0) (fun i => n - (intOf i).toNat)
  case atStart => exact ⟨0, Nat.zero_le _, rfl, fun j hj => absurd hj (by omega)⟩
  case round =>
    obtain ⟨k, hk, rfl, hz⟩ := hrel
    have HZ : Hid (∀ j, j < k → nth l j = 0) := hz
    clear hz
    by_cases hlt : k < n
    · have c := HC.out k hlt
      by_cases h0 : nth l k = 0
      · go_wp2
        go_round
        case rel => exact ⟨k + 1, by omega, by go_num, fun j hj => (Nat.lt_succ_iff_lt_or_eq.1 hj).elim (fun h => HZ.out j h) (fun h => by subst h; exact h0)⟩
        case measure => simp [intOf]; omega
      · go_wp2
        go_ret
        refine ⟨?_, rfl⟩
        rw [zr_false l 0 n k hlt (by rw [Nat.zero_add]; exact h0)]; rfl
    · go_wp2
      go_ret
      refine ⟨?_, rfl⟩
      rw [zr_true l 0 n (fun i hi => by rw [Nat.zero_add]; exact HZ.out i (by omega))]; rfl
theorem allZero_none (w : World) (a : Option Addr) (cap : Nat) :
    Calls Tryz.prog 156 #[.slice a 0 cap] w fun e w' => e = .returned (.bool true) ∧ w = w' := by
  go_enter Tryz.func156, Tryz.ntmps156
  go_wp2
  go_loop [7] (fun i => i = .int .i64 0) (fun _ => 0)
  case atStart => exact rfl
  case round =>
    obtain rfl := hrel
    go_wp2
    go_ret
    exact ⟨rfl, rfl⟩
theorem allZero_any (w : World) (a : Option Addr) (n cap : Nat) (l : List Int) (hn : l.length = n) (hB : Bytes w a l) :
    Calls Tryz.prog 156 #[.slice a n cap] w fun e w' => e = .returned (.bool (zr l 0 n)) ∧ w = w' := by
  rcases hB.at_ with h | ⟨b, off, rfl, hc⟩
  · subst h; simp at hn; subst hn
    exact allZero_none w a cap
  · exact allZero_some w b off n cap l hn (by have := hB.len; omega) (fun i hi => hc i (by omega))

/-- 'bytes.IndexByte(b, 0)' -/
def Found (l : List Int) (n : Nat) (r : Int) : Prop := (r = -1 ∧ fz l 0 n = n) ∨ (r = fz l 0 n ∧ fz l 0 n < n)
theorem byte_zero {c : Int} (h : 0 ≤ c ∧ c < 256) : UInt8.ofNat c.toNat = (0 : Int).toNat.toUInt8 ↔ c = 0 := by
  constructor
  · intro e
    have := congrArg UInt8.toNat e
    simp at this
    omega
  · rintro rfl; rfl
theorem at_byte (l : List Int) (k : Nat) (hw : ∀ i, 0 ≤ nth l i ∧ nth l i < 256) : (Lib.bytesOf l)[k]? = some (0 : Int).toNat.toUInt8 ↔ k < l.length ∧ nth l k = 0 := by
  unfold Lib.bytesOf
  rw [List.getElem?_map]
  by_cases h : k < l.length
  · have e : l[k]? = some (nth l k) := by simp [nth, List.getD, h]
    rw [e]
    simp only [Option.map_some, Option.some.injEq]
    rw [byte_zero (hw k)]
    exact ⟨fun x => ⟨h, x⟩, fun x => x.2⟩
  · rw [List.getElem?_eq_none (by omega)]
    constructor
    · intro e; cases e
    · intro e; exact absurd e.1 h
theorem found_of (l : List Int) (n : Nat) (hn : l.length = n) (hw : ∀ i, 0 ≤ nth l i ∧ nth l i < 256) : Found l n (Lib.indexByte (Lib.bytesOf l) (0 : Int).toNat.toUInt8) := by
  have hge := Lib.indexByte_ge (Lib.bytesOf l) (0 : Int).toNat.toUInt8
  generalize hr : Lib.indexByte (Lib.bytesOf l) (0 : Int).toNat.toUInt8 = r at *
  by_cases h : r = -1
  · subst h
    have := Lib.indexByte_none hr
    refine .inl ⟨rfl, fz_eq _ _ _ _ (Nat.le_refl _) (fun i hi => ?_) (fun h => absurd h (by omega))⟩
    rw [Nat.zero_add]
    intro e
    exact this i ((at_byte l i hw).2 ⟨by omega, e⟩)
  · obtain ⟨o, rfl⟩ : ∃ o : Nat, r = o := ⟨r.toNat, by omega⟩
    have ⟨h1, h2⟩ := Lib.indexByte_some hr
    have h1 := (at_byte l o hw).1 h1
    have e : fz l 0 n = o := by
      refine fz_eq _ _ _ _ (by omega) (fun i hi => ?_) (fun _ => by rw [Nat.zero_add]; exact h1.2)
      rw [Nat.zero_add]
      intro e
      exact h2 i hi ((at_byte l i hw).2 ⟨by omega, e⟩)
    exact .inr ⟨by rw [e], by omega⟩

set_option maxRecDepth 100000 in
set_option maxHeartbeats 400000 in
theorem index_some (w : World) (b off n cap : Nat) (l : List Int) (hn : l.length = n) (hc : ∀ i, i < n → w.cell? ⟨b, off + i, none⟩ = some (.int .u8 (nth l i))) :
    Calls Tryz.prog 157 #[.slice (some ⟨b, off, none⟩) n cap, .int .u8 0] w fun e w' => e = .returned (.int .i64 (Lib.indexByte (Lib.bytesOf l) (0 : Int).toNat.toUInt8)) ∧ w = w' := by
  go_enter Tryz.func157, Tryz.ntmps157
  go_wp2
  rw [run_callFunc_extern Tryz.func160 (by kernel_rfl) (by kernel_rfl) (by kernel_rfl) (e := Extern.BytealgIndexByte.indexByte) (by kernel_rfl), Lib.run_indexByteSlice w b off n cap l hn hc 0]
  simp only [Result.andThen]
  rw [Oper.upon_value]
  go_wp2
  go_ret
  exact ⟨rfl, rfl⟩
theorem index_any (w : World) (b off n cap : Nat) (l : List Int) (hn : l.length = n) (hB : Bytes w (some ⟨b, off, none⟩) l) :
    Calls Tryz.prog 157 #[.slice (some ⟨b, off, none⟩) n cap, .int .u8 0] w fun e w' => ∃ r, Found l n r ∧ e = .returned (.int .i64 r) ∧ w = w' := by
  have hc : ∀ i, i < n → w.cell? ⟨b, off + i, none⟩ = some (.int .u8 (nth l i)) := by
    rcases hB.at_ with h | ⟨b, off, e, hc⟩
    · subst h; simp at hn; subst hn
      intro i hi; omega
    · cases e; intro i hi; exact hc i (by omega)
  refine (index_some w b off n cap l hn hc).mono ?_
  rintro e w' ⟨rfl, rfl⟩
  exact ⟨_, found_of l n hn hB.wf, rfl, rfl⟩

set_option maxRecDepth 100000 in
set_option maxHeartbeats 400000 in
theorem sindex_lite (w : World) (s : ByteArray) : Calls Tryz.prog 153 #[.string s, .int .u8 0] w fun e w' => e = .returned (.int .i64 (Lib.indexByte s.data.toList (0 : Int).toNat.toUInt8)) ∧ w = w' := by
  go_enter Tryz.func153, Tryz.ntmps153
  go_wp2
  rw [run_callFunc_extern Tryz.func159 (by kernel_rfl) (by kernel_rfl) (by kernel_rfl) (e := Extern.BytealgIndexByte.indexByte) (by kernel_rfl), Lib.run_indexByteString]
  simp only [Result.andThen]
  rw [Oper.upon_value]
  go_wp2
  go_ret
  exact ⟨rfl, rfl⟩
theorem sfound (s : ByteArray) : (0 ≤ Lib.indexByte s.data.toList (0 : Int).toNat.toUInt8) ↔ ∃ i, i < s.size ∧ nth (sb s) i = 0 := by
  have key : ∀ k, s.data.toList[k]? = some (0 : Int).toNat.toUInt8 ↔ k < s.size ∧ nth (sb s) k = 0 := by
    intro k
    by_cases h : k < s.size
    · have h' : k < s.data.size := h
      rw [sb_nth s k h, Array.getElem?_toList, Array.getElem?_eq_getElem h', Option.some.injEq]
      constructor
      · intro e; exact ⟨h, by show ((s.data[k]).toNat : Int) = 0; rw [e]; rfl⟩
      · rintro ⟨_, e⟩
        have e' : ((s.data[k]).toNat : Int) = 0 := e
        exact UInt8.toNat.inj (by show _ = 0; omega)
    · rw [List.getElem?_eq_none (by rw [Array.length_toList]; exact Nat.le_of_not_lt h)]
      constructor
      · intro e; cases e
      · intro e; exact absurd e.1 h
  have hge := Lib.indexByte_ge s.data.toList (0 : Int).toNat.toUInt8
  generalize hr : Lib.indexByte s.data.toList (0 : Int).toNat.toUInt8 = r at *
  by_cases h : r = -1
  · subst h
    have hn := Lib.indexByte_none hr
    exact ⟨fun e => absurd e (by omega), fun ⟨i, hi⟩ => absurd ((key i).2 hi) (hn i)⟩
  · obtain ⟨o, rfl⟩ : ∃ o : Nat, r = o := ⟨r.toNat, by omega⟩
    have ⟨h1, _⟩ := Lib.indexByte_some hr
    exact ⟨fun _ => ⟨o, (key o).1 h1⟩, fun _ => by omega⟩
set_option maxRecDepth 100000 in
set_option maxHeartbeats 400000 in
theorem sindex_any (w : World) (s : ByteArray) : Calls Tryz.prog 135 #[.string s, .int .u8 0] w fun e w' => ∃ r : Int, (0 ≤ r ↔ ∃ i, i < s.size ∧ nth (sb s) i = 0) ∧ e = .returned (.int .i64 r) ∧ w = w' := by
  have hf := sfound s
  generalize hr : Lib.indexByte s.data.toList (0 : Int).toNat.toUInt8 = r at hf
  have HR : Hid (Lib.indexByte s.data.toList (0 : Int).toNat.toUInt8 = r) := hr
  have HF : Hid (0 ≤ r ↔ ∃ i, i < s.size ∧ nth (sb s) i = 0) := hf
  clear hr hf
  go_enter Tryz.func135, Tryz.ntmps135
  go_wp2_with (go_at_call 153; refine (sindex_lite _ _).mono ?_; rintro e w' ⟨rfl, rfl⟩; rw [HR.out])
  go_ret
  exact ⟨r, HF.out, rfl, rfl⟩
end Go.Proofs.YtcbebalakdkgnaaGreatDoor

namespace Go.Proofs.YtcbebalakdkgnaaGreatDoor
open Go.RowKit Rec

/-- a byte laid above a number that ends below it -/
theorem or_add (v c : Int) (k : Nat) (hk : k < 8) (hv : 0 ≤ v ∧ v < 256 ^ k) (hc : 0 ≤ c ∧ c < 256) : bits .or .u64 v (c * 256 ^ k) = v + c * 256 ^ k := by
  obtain ⟨V, rfl⟩ := Int.eq_ofNat_of_zero_le hv.1
  obtain ⟨C, rfl⟩ := Int.eq_ofNat_of_zero_le hc.1
  have e : (256 : Int) ^ k = ((2 ^ (8 * k) : Nat) : Int) := by rw [Nat.pow_mul]; simp
  rw [e] at hv ⊢
  have hV : V < 2 ^ (8 * k) := by omega
  have hC : C < 256 := by omega
  have hp : 2 ^ (8 * k) ≤ 2 ^ 56 := Nat.pow_le_pow_right (by decide) (by omega)
  have hm : C * 2 ^ (8 * k) ≤ 255 * 2 ^ (8 * k) := Nat.mul_le_mul_right _ (by omega)
  have := u64_or_nat V (C * 2 ^ (8 * k)) (by omega) (by omega)
  rw [← Int.natCast_mul, this, ← Int.natCast_add]
  have h2 := Nat.shiftLeft_add_eq_or_of_lt hV C
  rw [Nat.shiftLeft_eq] at h2
  rw [Nat.or_comm, ← h2, Nat.add_comm]

set_option maxRecDepth 100000 in
set_option maxHeartbeats 800000 in
theorem get_in (w : World) (b off n c A W : Nat) (l : List Int) (hn : l.length = n) (hO : Bytes w (some ⟨b, off, none⟩) l) (hc : n ≤ c) (hT : TabAt w) (hw : isW W = true) (hA : A + W ≤ n) :
    Calls Tryz.prog 120 #[.slice (some ⟨b, off, none⟩) n c, .int .i64 A, .int .i64 W] w fun e w' => e = .returned (.tuple #[.int .u64 (num l A W), .int .i64 0]) ∧ w = w' := by
  have hlen := hO.len
  rw [hn] at hlen
  have hWc := isW_cases hw
  have HW : Hid (isW W = true) := hw
  have HT : Hid (TabAt w) := hT
  have HC : Hid (∀ i, A + i < n → w.cell? ⟨b, off + A + i, none⟩ = some (.int .u8 (nth l (A + i)))) := fun i hi => by
    rw [Nat.add_assoc]; exact hO.cell (by omega)
  have HF : Hid (∀ i, 0 ≤ nth l i ∧ nth l i < 256) := hO.wf
  have hl : Hid (lies n A W = true) := by unfold lies; exact decide_eq_true (by omega)
  clear hO hT hw hn
  have hW1 : 1 ≤ W ∧ W ≤ 8 := by omega
  clear hWc
  go_enter Tryz.func120, Tryz.ntmps120
  go_wp2_with (go_at_call 137; refine (isWidth_any _ _ HT.out).mono ?_; rintro e w' ⟨rfl, rfl⟩; rw [HW.out])
  go_wp2_with (go_at_call 136; refine (lie_any _ _ _ _ _ _ (by omega) (by omega) (by omega)).mono ?_; rintro e w' ⟨rfl, rfl⟩; rw [hl.out])
  go_loop [8, 26] (fun v i => ∃ k : Nat, k ≤ W ∧ i = .int .i64 k ∧ v = .int .u64 (num l A k)) (fun _ i => W - (intOf i).toNat)
  case atStart => exact ⟨0, Nat.zero_le _, rfl, rfl⟩
  case round =>
    obtain ⟨k, hk, rfl, rfl⟩ := hrel
    by_cases hlt : k < W
    · have c := HC.out k (by omega)
      have cb := HF.out (A + k)
      have nb := num_bd l A k HF.out
      have HS : Hid (num l A (k + 1) = bits .or .u64 (num l A k) (nth l (A + k) * 256 ^ k)) := by
        show num l A (k + 1) = _
        rw [or_add _ _ _ (by omega) nb cb]; rfl
      have hkk : k = 0 ∨ k = 1 ∨ k = 2 ∨ k = 3 ∨ k = 4 ∨ k = 5 ∨ k = 6 ∨ k = 7 := by omega
      rcases hkk with rfl | rfl | rfl | rfl | rfl | rfl | rfl | rfl
      case inl =>
        simp only [Nat.add_zero] at c cb
        go_wp2
        refine ⟨⟨1, hlt, rfl, ?_⟩, by simp [intOf]; omega⟩
        have e := or_add 0 (nth l A) 0 (by omega) (by decide) cb
        have e2 : num l A 1 = 0 + nth l A * 256 ^ 0 := rfl
        rw [e2, ← e]
        simp
        rfl
      all_goals
        go_wp2
        refine ⟨⟨_, hlt, rfl, ?_⟩, by simp [intOf]; omega⟩
        have e := HS.out
        simp only [Int.reducePow] at e
        exact congrArg (Value.int .u64) e.symm
    · go_wp2
      obtain rfl : k = W := by omega
      go_ret2
      exact ⟨rfl, rfl⟩
end Go.Proofs.YtcbebalakdkgnaaGreatDoor

namespace Go.Proofs.YtcbebalakdkgnaaGreatDoor
open Go.RowKit Rec

theorem OwnB.ovs {w : World} {g cap : Nat} {L : List Int} {A k : Nat} {f : Nat → Int} (h : OwnB w g cap (ov L A k f)) (hk : A + k < L.length) (hf : 0 ≤ f k ∧ f k < 256) :
    OwnB (w.setCell ⟨g, A + k, none⟩ (.int .u8 (f k))) g cap (ov L A (k + 1) f) := by
  have := h.set (A + k) (f k) (by rw [ov_length]; exact hk) hf
  rwa [ov_set _ _ _ _ hk] at this

set_option maxRecDepth 100000 in
set_option maxHeartbeats 1000000 in
theorem put_in (w : World) (g cap n c A W : Nat) (v : Int) (L : List Int) (hO : OwnB w g cap L) (hn : n ≤ L.length) (_hc : n ≤ c) (hT : TabAt w) (hv : 0 ≤ v ∧ v < 18446744073709551616) (hw : isW W = true) (hh : has v W = true) (hA : A + W ≤ n) :
    Calls Tryz.prog 108 #[.slice (some ⟨g, 0, none⟩) n c, .int .i64 A, .int .i64 W, .int .u64 v] w fun e w' => e = .returned (.int .i64 0) ∧ OwnB w' g cap (ov L A W (dig v)) ∧ w.grownBy w' (some g) := by
  have hlen := hO.len
  have hWc := isW_cases hw
  have HW : Hid (isW W = true) := hw
  have HH : Hid (has v W = true) := hh
  have HT : Hid (TabAt w) := hT
  have HO : Hid (OwnB w g cap L) := hO
  have hl : Hid (lies n A W = true) := by unfold lies; exact decide_eq_true (by omega)
  clear hO hT hw hh
  have hW1 : 1 ≤ W ∧ W ≤ 8 := by omega
  clear hWc
  go_enter Tryz.func108, Tryz.ntmps108
  go_wp2_with (go_at_call 137; refine (isWidth_any _ _ HT.out).mono ?_; rintro e w' ⟨rfl, rfl⟩; rw [HW.out])
  go_wp2_with (go_at_call 138; refine (hasWidth_any _ _ _ HW.out hv.1 hv.2).mono ?_; rintro e w' ⟨rfl, rfl⟩; rw [HH.out])
  go_wp2_with (go_at_call 136; refine (lie_any _ _ _ _ _ _ (by omega) (by omega) (by omega)).mono ?_; rintro e w' ⟨rfl, rfl⟩; rw [hl.out])
  rename World => w0
  go_loopw [25] (fun i wr => ∃ k : Nat, k ≤ W ∧ i = .int .i64 k ∧ OwnB wr g cap (ov L A k (dig v)) ∧ w0.grownBy wr (some g)) (fun i _ => W - (intOf i).toNat)
  case atStart => exact ⟨0, Nat.zero_le _, rfl, by rw [ov_zero]; exact HO.out, grown_refl _ _⟩
  case round =>
    obtain ⟨k, hk, rfl, how, hgr⟩ := hrel
    have HP : Hid (OwnB wr g cap (ov L A k (dig v))) := how
    have HG : Hid (w0.grownBy wr (some g)) := hgr
    clear how hgr
    by_cases hlt : k < W
    · have d := HP.out.cell (A + k) (by rw [ov_length]; omega)
      have f := HP.out.frozen (A + k)
      have HQ : Hid (OwnB (wr.setCell ⟨g, A + k, none⟩ (.int .u8 (v / 256 ^ k % 256))) g cap (ov L A (k + 1) (dig v))) := HP.out.ovs (by omega) (dig_bd v k)
      clear HP
      have hkk : k = 0 ∨ k = 1 ∨ k = 2 ∨ k = 3 ∨ k = 4 ∨ k = 5 ∨ k = 6 ∨ k = 7 := by omega
      rcases hkk with rfl | rfl | rfl | rfl | rfl | rfl | rfl | rfl
      case' inl => simp only [Nat.add_zero] at d f HQ
      all_goals
        go_wp2
        have e := HQ.out
        simp only [Int.reducePow, Int.pow_zero, Int.ediv_one] at e
        first
          | exact ⟨⟨_, hlt, rfl, e, grown_trans HG.out grown_set⟩, by simp [intOf]; omega⟩
          | (rw [Int.emod_eq_of_lt (by omega) (by omega)] at e
             exact ⟨⟨_, hlt, rfl, e, grown_trans HG.out grown_set⟩, by simp [intOf]; omega⟩)
    · go_wp2
      obtain rfl : k = W := by omega
      go_ret
      exact ⟨rfl, HP.out, HG.out⟩
end Go.Proofs.YtcbebalakdkgnaaGreatDoor

namespace Go.Proofs.YtcbebalakdkgnaaGreatDoor
open Go.RowKit Rec

/-- n bytes from A on -/
def fld (l : List Int) (A N : Nat) : List Int := (l.drop A).take N
theorem fld_length (l : List Int) (A N : Nat) (h : A + N ≤ l.length) : (fld l A N).length = N := by unfold fld; rw [List.length_take, List.length_drop]; omega
theorem nth_fld (l : List Int) (A N i : Nat) (h : i < N) : nth (fld l A N) i = nth l (A + i) := by unfold fld; rw [nth_take _ _ _ h, nth_drop]
theorem zr_fld (l : List Int) (A N : Nat) : zr (fld l A N) 0 N = zr l A N := by
  unfold zr
  refine decide_eq_decide.2 (forall_congr' fun i => ⟨fun h hi => ?_, fun h hi => ?_⟩)
  · have := h hi; rwa [Nat.zero_add, nth_fld _ _ _ _ hi] at this
  · rw [Nat.zero_add, nth_fld _ _ _ _ hi]; exact h hi
theorem fz_fld (l : List Int) (A N : Nat) : fz (fld l A N) 0 N = fz l A N := by
  obtain ⟨h1, h2, h3⟩ := fz_spec l A N
  refine fz_eq _ _ _ _ h1 (fun i hi => ?_) (fun h => ?_)
  · rw [Nat.zero_add, nth_fld _ _ _ _ (by omega)]; exact h2 i hi
  · rw [Nat.zero_add, nth_fld _ _ _ _ h]; exact h3 h
theorem wf_fld {l : List Int} (h : ∀ i, 0 ≤ nth l i ∧ nth l i < 256) (A N : Nat) : ∀ i, 0 ≤ nth (fld l A N) i ∧ nth (fld l A N) i < 256 := wf_take (wf_drop h A) N
theorem Bytes.field {w : World} {b off A N : Nat} {l : List Int} (h : Bytes w (some ⟨b, off, none⟩) l) (hA : A + N ≤ l.length) (B : Nat) (hB : B = off + A ∨ N = 0) : Bytes w (some ⟨b, B, none⟩) (fld l A N) := by
  have hl := h.len
  refine ⟨by rw [fld_length l A N hA]; omega, wf_fld h.wf A N, ?_⟩
  rcases hB with rfl | rfl
  · refine .inr ⟨b, off + A, rfl, fun i hi => ?_⟩
    rw [fld_length l A N hA] at hi
    rw [nth_fld _ _ _ _ hi, Nat.add_assoc]; exact h.cell (by omega)
  · exact .inl (by simp [fld])

set_option maxRecDepth 100000 in
set_option maxHeartbeats 800000 in
theorem zero_in (w : World) (b off n c A N : Nat) (l : List Int) (hn : l.length = n) (hO : Bytes w (some ⟨b, off, none⟩) l) (hc : n ≤ c) (hA : A + N ≤ n) :
    Calls Tryz.prog 142 #[.slice (some ⟨b, off, none⟩) n c, .int .i64 A, .int .i64 N] w fun e w' => e = .returned (.tuple #[.bool (zr l A N), .int .i64 0]) ∧ w = w' := by
  have hlen := hO.len
  rw [hn] at hlen
  have HF : Hid (∀ B, B = off + A ∨ N = 0 → Bytes w (some ⟨b, B, none⟩) (fld l A N)) := fun B hB => hO.field (by omega) B hB
  have HL : Hid ((fld l A N).length = N) := fld_length _ _ _ (by omega)
  have hl : Hid (lies n A N = true) := by unfold lies; exact decide_eq_true (by omega)
  clear hO hn
  go_enter Tryz.func142, Tryz.ntmps142
  go_wp2_with (go_at_call 136; refine (lie_any _ _ _ _ _ _ (by omega) (by omega) (by omega)).mono ?_; rintro e w' ⟨rfl, rfl⟩; rw [hl.out])
  all_goals
    refine (allZero_any _ _ _ _ _ HL.out (HF.out _ (by omega))).mono ?_
    rintro e w' ⟨rfl, rfl⟩
    rw [zr_fld]
    go_wp2
    go_ret2
    exact ⟨rfl, rfl⟩
end Go.Proofs.YtcbebalakdkgnaaGreatDoor

namespace Go.Proofs.YtcbebalakdkgnaaGreatDoor
open Go.RowKit Rec

theorem str_of {w : World} {b off n c : Nat} {l : List Int} (hB : Bytes w (some ⟨b, off, none⟩) l) (hn : l.length = n) :
    (convert 42 9 (.slice (some ⟨b, off, none⟩) n c)).run Tryz.prog w = .ok (.string (strOfNums l)) w := by
  have hc : ∀ i, i < n → w.cell? ⟨b, off + i, none⟩ = some (.int .u8 (nth l i)) := by
    rcases hB.at_ with h | ⟨b, off, e, hc⟩
    · subst h; simp at hn; subst hn
      intro i hi; omega
    · cases e; intro i hi; exact hc i (by omega)
  exact run_convert_bytes_arg (P := Tryz.prog) w 42 5 Tryz.underlying42 Tryz.underlying5 b off n c l hn (fun i hi => hc i hi) 9 Tryz.underlying9

set_option maxRecDepth 100000 in
set_option maxHeartbeats 1000000 in
theorem text_in (w : World) (b off n c A N : Nat) (l : List Int) (S : ByteArray) (E : Int) (hn : l.length = n) (hO : Bytes w (some ⟨b, off, none⟩) l) (hc : n ≤ c) (hA : A + N ≤ n)
    (hR : (cl l A N = true ∧ S = strOfNums (fld l A (fz l A N)) ∧ E = 0) ∨ (cl l A N = false ∧ S = strOfNums [] ∧ E = 1)) :
    Calls Tryz.prog 143 #[.slice (some ⟨b, off, none⟩) n c, .int .i64 A, .int .i64 N] w fun e w' => e = .returned (.tuple #[.string S, .int .i64 E]) ∧ w = w' := by
  have hlen := hO.len
  rw [hn] at hlen
  obtain ⟨z1, z2, z3⟩ := fz_spec l A N
  have HF : Hid (∀ B X M, B = off + X ∨ M = 0 → X + M ≤ n → Bytes w (some ⟨b, B, none⟩) (fld l X M)) := fun B X M hB hX => hO.field (by omega) B hB
  have HL : Hid (∀ X M, X + M ≤ n → (fld l X M).length = M) := fun X M h => fld_length _ _ _ (by omega)
  have HS : Hid (∀ B X M c, B = off + X ∨ M = 0 → X + M ≤ n → (convert 42 9 (.slice (some ⟨b, B, none⟩) M c)).run Tryz.prog w = .ok (.string (strOfNums (fld l X M))) w) := fun B X M c hB hX => str_of (HF.out B X M hB hX) (HL.out X M hX)
  have hl : Hid (lies n A N = true) := by unfold lies; exact decide_eq_true (by omega)
  have HZ : Hid (fz (fld l A N) 0 N = fz l A N) := fz_fld l A N
  have hC : cl l A N = zr l (A + fz l A N) (N - fz l A N) := rfl
  rw [hC] at hR
  generalize fz l A N = k at *
  have HR : Hid ((zr l (A + k) (N - k) = true ∧ S = strOfNums (fld l A k) ∧ E = 0) ∨ (zr l (A + k) (N - k) = false ∧ S = strOfNums [] ∧ E = 1)) := hR
  clear hO hn z2 z3 hR hC
  go_enter Tryz.func143, Tryz.ntmps143
  go_wp2_with (go_at_call 136; refine (lie_any _ _ _ _ _ _ (by omega) (by omega) (by omega)).mono ?_; rintro e w' ⟨rfl, rfl⟩; rw [hl.out])
  all_goals
    refine (index_any _ _ _ _ _ _ (HL.out A N hA) (HF.out _ A N (by omega) hA)).mono ?_
    rintro e w' ⟨r1, hr, rfl, rfl⟩
    unfold Found at hr
    rw [HZ.out] at hr
  case inl =>
    obtain rfl : N = 0 := by omega
    obtain rfl : k = 0 := by omega
    obtain rfl : r1 = -1 := by omega
    clear hr
    have hs := HS.out off A 0 0 (by omega) hA
    go_wp2
    go_ret2
    rcases HR.out with ⟨_, e1, e2⟩ | ⟨e0, _, _⟩
    · rw [e1, e2]; exact ⟨rfl, rfl⟩
    · rw [zr_true _ _ _ (fun i hi => absurd hi (by omega))] at e0; cases e0
  rcases hr with ⟨rfl, hk⟩ | ⟨rfl, hk⟩
  · subst hk
    have hs := HS.out (off + A) A k (c - A) (by omega) hA
    go_wp2
    go_ret2
    rcases HR.out with ⟨_, e1, e2⟩ | ⟨e0, _, _⟩
    · rw [e1, e2]; exact ⟨rfl, rfl⟩
    · rw [zr_true _ _ _ (fun i hi => absurd hi (by omega))] at e0; cases e0
  · have hs := HS.out (off + A) A k (c - A) (by omega) (by omega)
    go_wp2_with (go_at_call 156; refine (allZero_any _ _ _ _ (fld l (A + k) (N - k)) (HL.out _ _ (by omega)) (HF.out _ _ _ (by omega) (by omega))).mono ?_; rintro e w' ⟨rfl, rfl⟩; rw [zr_fld])
    all_goals
      rename_i hz
      go_ret2
      rcases HR.out with ⟨e0, e1, e2⟩ | ⟨e0, e1, e2⟩
    · rw [e0] at hz; cases hz
    · rw [e1, e2]; exact ⟨rfl, rfl⟩
    · rw [e1, e2]; exact ⟨rfl, rfl⟩
    · rw [e0] at hz; cases hz
end Go.Proofs.YtcbebalakdkgnaaGreatDoor

namespace Go.Proofs.YtcbebalakdkgnaaGreatDoor
open Go.RowKit Rec

theorem OwnB.cells {g cap : Nat} : ∀ (m : List Int) (w : World) (off : Nat) (L : List Int), OwnB w g cap L → off + m.length ≤ L.length → (∀ i, 0 ≤ nth m i ∧ nth m i < 256) →
    OwnB (w.setCells g off (m.map (Value.int .u8))) g cap (ov L off m.length (nth m)) ∧ w.grownBy (w.setCells g off (m.map (Value.int .u8))) (some g)
  | [], w, off, L, h, _, _ => ⟨by rw [List.length_nil, ov_zero]; exact h, grown_refl _ _⟩
  | c :: t, w, off, L, h, hl, hw => by
    rw [List.length_cons] at hl
    have hc := hw 0
    have h1 := h.set off c (by omega) hc
    have hw' : ∀ i, 0 ≤ nth t i ∧ nth t i < 256 := fun i => hw (i + 1)
    have ⟨h2, h3⟩ := OwnB.cells t _ (off + 1) _ h1 (by rw [List.length_set]; omega) hw'
    refine ⟨?_, grown_trans grown_set h3⟩
    have e1 : L.set off c = ov L off 1 (nth (c :: t)) := by
      have := ov_set L off 0 (nth (c :: t)) (by omega)
      rw [ov_zero] at this
      exact this
    rw [e1] at h2
    rw [ov_ov L off 1 t.length (nth (c :: t)) (nth t) (nth (c :: t)) (fun _ _ => rfl) (fun i _ => by rw [Nat.add_comm]; rfl)] at h2
    rw [List.length_cons, Nat.add_comm]
    exact h2

theorem zero5 (w : World) : (zeroValue 5).run Tryz.prog w = .ok (.int .u8 0) w := by kernel_rfl
theorem sizeOf5 (w : World) : (Go.sizeOf 5).run Tryz.prog w = .ok 1 w := by kernel_rfl
theorem sb_cells (s : ByteArray) : (s.data.toList.map fun x => Value.int .u8 (x.toNat : Int)) = (sb s).map (Value.int .u8) := by unfold sb; rw [List.map_map]; rfl

theorem scopy_run {w : World} {g cap off B k c : Nat} {L : List Int} {t : ByteArray} (ty : TypeId) (hO : OwnB w g cap L) (hB : B = off ∨ k = 0) (hle : t.size ≤ k) (hfit : off + t.size ≤ L.length) :
    ∃ w', (Builtin.copy_ #[42, 9] ty #[.slice (some ⟨g, B, none⟩) k c, .string t]).run Tryz.prog w = .ok (.int .i64 t.size) w' ∧ OwnB w' g cap (ov L off t.size (nth (sb t))) ∧ w.grownBy w' (some g) := by
  by_cases h0 : t.size = 0
  · refine ⟨w, ?_, by rw [h0, ov_zero]; exact hO, grown_refl _ _⟩
    rw [Lib.run_copy_empty_string (P := Tryz.prog) w 42 9 ty 5 _ k c t Tryz.underlying42 (by kernel_rfl) h0, h0]; rfl
  · obtain rfl : B = off := by omega
    have ⟨h1, h2⟩ := OwnB.cells (sb t) w B L hO (by rw [sb_length]; exact hfit) (sb_bd t)
    rw [sb_length] at h1
    refine ⟨_, ?_, h1, h2⟩
    rw [run_copy_string (P := Tryz.prog) w 42 9 ty 5 g B k c t Tryz.underlying42 sizeOf5 hle (fun j hj => by rw [hO.cell (B + j) (by omega)]; rfl) (fun j hj => hO.frozen _), sb_cells]; rfl
theorem clear_run {w : World} {g cap off B k c : Nat} {L : List Int} (ty : TypeId) (hO : OwnB w g cap L) (hB : B = off ∨ k = 0) (hfit : off + k ≤ L.length) :
    ∃ w', (Builtin.clear_ #[42] ty #[.slice (some ⟨g, B, none⟩) k c]).run Tryz.prog w = .ok (.tuple #[]) w' ∧ OwnB w' g cap (ov L off k (fun _ => 0)) ∧ w.grownBy w' (some g) := by
  by_cases h0 : k = 0
  · subst h0
    exact ⟨w, by simp [Builtin.clear_, run_underlying Tryz.underlying42], by rw [ov_zero]; exact hO, grown_refl _ _⟩
  · obtain rfl : B = off := by omega
    have e : List.replicate k (Value.int .u8 0) = (List.replicate k (0 : Int)).map (Value.int .u8) := by rw [List.map_replicate]
    have hz : ∀ i, nth (List.replicate k (0 : Int)) i = 0 := fun i => by
      by_cases hi : i < k
      · simp [nth, List.getD, hi]
      · exact nth_out _ _ (by rw [List.length_replicate]; omega)
    have ⟨h1, h2⟩ := OwnB.cells (List.replicate k 0) w B L hO (by rw [List.length_replicate]; exact hfit) (fun i => by rw [hz]; omega)
    rw [List.length_replicate, show nth (List.replicate k (0 : Int)) = fun _ => 0 from funext hz] at h1
    refine ⟨_, ?_, h1, h2⟩
    rw [Lib.run_clear_slice (P := Tryz.prog) w 42 5 ty (.int .u8 0) Tryz.underlying42 zero5 rfl rfl g B k c (by omega) (fun j hj => by rw [hO.cell (B + j) (by omega)]; rfl) (fun j hj => hO.frozen _), e]

set_option maxRecDepth 100000 in
set_option maxHeartbeats 1000000 in
theorem ptx_in (w : World) (g cap n c A N : Nat) (s : ByteArray) (L : List Int) (hO : OwnB w g cap L) (hn : n ≤ L.length) (hc : n ≤ c) (hA : A + N ≤ n) (hs : s.size ≤ N) (hz : ¬ ∃ i, i < s.size ∧ nth (sb s) i = 0) :
    Calls Tryz.prog 107 #[.slice (some ⟨g, 0, none⟩) n c, .int .i64 A, .int .i64 N, .string s] w fun e w' => e = .returned (.int .i64 0) ∧ OwnB w' g cap (ov L A N (nth (sb s))) ∧ w.grownBy w' (some g) := by
  have hlen := hO.len
  have HO : Hid (OwnB w g cap L) := hO
  have HZ : Hid (¬ ∃ i, i < s.size ∧ nth (sb s) i = 0) := hz
  have hl : Hid (lies n A N = true) := by unfold lies; exact decide_eq_true (by omega)
  have HE : Hid (ov (ov L A s.size (nth (sb s))) (A + s.size) (N - s.size) (fun _ => 0) = ov L A N (nth (sb s))) := by
    show _ = _
    rw [ov_ov L A s.size (N - s.size) (nth (sb s)) (fun _ => 0) (nth (sb s)) (fun _ _ => rfl) (fun i _ => (nth_out _ _ (by rw [sb_length]; omega)).symm)]
    congr 1; omega
  clear hO hz
  go_enter Tryz.func107, Tryz.ntmps107
  go_wp2_with (go_at_call 135; refine (sindex_any _ _).mono ?_; rintro e w' ⟨r1, hr, rfl, rfl⟩; replace hr : ¬ 0 ≤ r1 := fun h => HZ.out (hr.1 h))
  go_wp2_with (go_at_call 136; refine (lie_any _ _ _ _ _ _ (by omega) (by omega) (by omega)).mono ?_; rintro e w' ⟨rfl, rfl⟩; rw [hl.out])
  case' inl => obtain ⟨w2, hr2, ho2, hg2⟩ := scopy_run (off := A) (B := 0) (k := N) (c := 0) (t := s) 3 HO.out (by omega) hs (by omega)
  case' inl => have hs0 : s.size = 0 := by omega
  case' inr => obtain ⟨w2, hr2, ho2, hg2⟩ := scopy_run (off := A) (B := A) (k := N) (c := c - A) (t := s) 3 HO.out (by omega) hs (by omega)
  all_goals
    rw [hr2]
    have HO2 : Hid (OwnB w2 g cap (ov L A s.size (nth (sb s)))) := ho2
    have HG2 : Hid (World.grownBy _ w2 (some g)) := hg2
    clear ho2 hg2 hr2
    simp only [Result.andThen]
    rw [Oper.upon_value]
    go_wp2
  all_goals first
    | (obtain ⟨w3, hr3, ho3, hg3⟩ := clear_run (off := A + s.size) (B := A) (k := N - s.size) (c := 0) 0 HO2.out (by omega) (by rw [ov_length]; omega)
       rw [hr3, Result.andThen_ok, Oper.upon_value]
       rw [HE.out] at ho3
       have HO3 : Hid (OwnB w3 g cap (ov L A N (nth (sb s)))) := ho3
       have HG3 : Hid (World.grownBy w2 w3 (some g)) := hg3
       clear ho3 hg3 hr3
       go_wp2
       go_ret
       exact ⟨rfl, HO3.out, grown_trans HG2.out HG3.out⟩)
    | (obtain ⟨w3, hr3, ho3, hg3⟩ := clear_run (off := A + s.size) (B := A + s.size) (k := N - s.size) (c := c - A - s.size) 0 HO2.out (by omega) (by rw [ov_length]; omega)
       rw [hr3, Result.andThen_ok, Oper.upon_value]
       rw [HE.out] at ho3
       have HO3 : Hid (OwnB w3 g cap (ov L A N (nth (sb s)))) := ho3
       have HG3 : Hid (World.grownBy w2 w3 (some g)) := hg3
       clear ho3 hg3 hr3
       go_wp2
       go_ret
       exact ⟨rfl, HO3.out, grown_trans HG2.out HG3.out⟩)
    | (obtain ⟨w3, hr3, ho3, hg3⟩ := clear_run (off := A + s.size) (B := 0) (k := N - s.size) (c := 0) 0 HO2.out (by omega) (by rw [ov_length]; omega)
       rw [hr3, Result.andThen_ok, Oper.upon_value]
       rw [HE.out] at ho3
       have HO3 : Hid (OwnB w3 g cap (ov L A N (nth (sb s)))) := ho3
       have HG3 : Hid (World.grownBy w2 w3 (some g)) := hg3
       clear ho3 hg3 hr3
       go_wp2
       go_ret
       exact ⟨rfl, HO3.out, grown_trans HG2.out HG3.out⟩)
    | (obtain ⟨w3, hr3, ho3, hg3⟩ := clear_run (off := A + s.size) (B := 0) (k := N) (c := 0) 0 HO2.out (by omega) (by rw [ov_length]; omega)
       rw [hr3, Result.andThen_ok, Oper.upon_value]
       rw [show ov (ov L A s.size (nth (sb s))) (A + s.size) N (fun _ => 0) = ov (ov L A s.size (nth (sb s))) (A + s.size) (N - s.size) (fun _ => 0) by rw [hs0, Nat.sub_zero], HE.out] at ho3
       have HO3 : Hid (OwnB w3 g cap (ov L A N (nth (sb s)))) := ho3
       have HG3 : Hid (World.grownBy w2 w3 (some g)) := hg3
       clear ho3 hg3 hr3
       go_wp2
       go_ret
       exact ⟨rfl, HO3.out, grown_trans HG2.out HG3.out⟩)
end Go.Proofs.YtcbebalakdkgnaaGreatDoor
