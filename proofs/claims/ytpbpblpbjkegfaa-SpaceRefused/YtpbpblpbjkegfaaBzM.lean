import Derived.Test.YtpbpblpbjkegfaaKMathR
namespace Go.Proofs.Ytpbpblpbjkegfaa
open Rec

/-- bit i: 1 or 0 -/
def bn (l : List Int) (i : Nat) : Int := nth l (i / 8) / 2 ^ (i % 8) % 2
/-- is bit i on? -/
def bt (l : List Int) (i : Nat) : Bool := bn l i == 1
/-- a byte with its bit k put on or off -/
def byt (x : Int) (k : Nat) (on : Bool) : Int := x - x / 2 ^ k % 2 * 2 ^ k + (if on then 2 ^ k else 0)
/-- the bytes with bit i put on or off -/
def bput (l : List Int) (i : Nat) (on : Bool) : List Int := l.set (i / 8) (byt (nth l (i / 8)) (i % 8) on)
/-- the lowest bit that is off of the n from i on -/
def lowF (l : List Int) : Nat → Nat → Int
  | 0, _ => -1
  | n + 1, i => if bn l i = 0 then (i : Int) else lowF l n (i + 1)
/-- the lowest bit that is off from i on -/
def lowB (l : List Int) (i : Nat) : Int := lowF l (8 * l.length - i) i
/-- how many of the n bits from a on are on -/
def cn (l : List Int) (a : Nat) : Nat → Int
  | 0 => 0
  | n + 1 => cn l a n + bn l (a + n)
/-- how many bits are off just ahead of i -/
def offs (l : List Int) : Nat → Nat
  | 0 => 0
  | i + 1 => if bn l i = 0 then offs l i + 1 else 0
/-- the rows that have come to an end ahead of n -/
def rows (l : List Int) : Nat → List (Nat × Nat)
  | 0 => []
  | n + 1 => rows l n ++ (if bn l n = 1 ∧ 0 < offs l n then [(n - offs l n, offs l n)] else [])
/-- the rows of the first n bits, the one under way with them -/
def rowsE (l : List Int) (n : Nat) : List (Nat × Nat) := rows l n ++ (if 0 < offs l n then [(n - offs l n, offs l n)] else [])
/-- all rows -/
def runs (l : List Int) : List (Nat × Nat) := rowsE l (8 * l.length)

theorem bn_or (l : List Int) (i : Nat) : bn l i = 0 ∨ bn l i = 1 := by unfold bn; omega
theorem bn_bd (l : List Int) (i : Nat) : 0 ≤ bn l i ∧ bn l i ≤ 1 := by unfold bn; omega
theorem bt_iff (l : List Int) (i : Nat) : bt l i = true ↔ bn l i = 1 := by simp [bt]
theorem bt_not (l : List Int) (i : Nat) : bt l i = false ↔ bn l i = 0 := by
  have := bn_or l i
  simp [bt]; omega
theorem pow2 (k : Nat) (h : k < 8) : (2 : Int) ^ k = 1 ∨ (2 : Int) ^ k = 2 ∨ (2 : Int) ^ k = 4 ∨ (2 : Int) ^ k = 8 ∨ (2 : Int) ^ k = 16 ∨ (2 : Int) ^ k = 32 ∨ (2 : Int) ^ k = 64 ∨ (2 : Int) ^ k = 128 := by
  have : ∀ k, k < 8 → ((2 : Int) ^ k = 1 ∨ (2 : Int) ^ k = 2 ∨ (2 : Int) ^ k = 4 ∨ (2 : Int) ^ k = 8 ∨ (2 : Int) ^ k = 16 ∨ (2 : Int) ^ k = 32 ∨ (2 : Int) ^ k = 64 ∨ (2 : Int) ^ k = 128) := by decide
  exact this k h
theorem byt_bd (x : Int) (k : Nat) (on : Bool) (hk : k < 8) (hx : 0 ≤ x ∧ x < 256) : 0 ≤ byt x k on ∧ byt x k on < 256 := by
  unfold byt
  cases on <;> simp only [if_true, Bool.false_eq_true, if_false]
  all_goals
    rcases pow2 k hk with e | e | e | e | e | e | e | e <;> rw [e] <;> omega
theorem byt_bit (k j : Nat) (hk : k < 8) (hj : j < 8) (x : Int) (on : Bool) (hx : 0 ≤ x ∧ x < 256) : byt x k on / 2 ^ j % 2 = if j = k then (if on then 1 else 0) else x / 2 ^ j % 2 := by
  have H : ∀ k, k < 8 → ∀ j, j < 8 → ∀ x, x < 256 → ∀ on : Bool, byt (x : Nat) k on / 2 ^ j % 2 = if j = k then (if on then 1 else 0) else ((x : Nat) : Int) / 2 ^ j % 2 := by decide +kernel
  obtain ⟨n, rfl⟩ := Int.eq_ofNat_of_zero_le hx.1
  exact H k hk j hj n (by omega) on
theorem bput_length (l : List Int) (i : Nat) (on : Bool) : (bput l i on).length = l.length := by simp [bput]
theorem bput_wf (l : List Int) (i : Nat) (on : Bool) (hl : ∀ i, 0 ≤ nth l i ∧ nth l i < 256) (hi : i / 8 < l.length) : ∀ j, 0 ≤ nth (bput l i on) j ∧ nth (bput l i on) j < 256 := fun j => by
  rw [bput, nth_set _ _ _ _ hi]
  split
  · exact byt_bd _ _ _ (by omega) (hl _)
  · exact hl j
theorem bn_bput (l : List Int) (i j : Nat) (on : Bool) (hl : ∀ i, 0 ≤ nth l i ∧ nth l i < 256) (hi : i / 8 < l.length) : bn (bput l i on) j = if j = i then (if on then 1 else 0) else bn l j := by
  unfold bn
  rw [bput, nth_set _ _ _ _ hi]
  by_cases e : j / 8 = i / 8
  · rw [if_pos e, byt_bit _ _ (by omega) (by omega) _ _ (hl _), e]
    by_cases e2 : j = i
    · subst e2; simp
    · rw [if_neg e2, if_neg (by omega)]
  · rw [if_neg e, if_neg (by intro h; subst h; exact e rfl)]
/-- what Lowest tells -/
def IsLow (l : List Int) (a : Nat) (r : Int) : Prop := (r = -1 ∧ ∀ i, a ≤ i → i < 8 * l.length → bn l i = 1) ∨ ∃ j : Nat, r = (j : Int) ∧ a ≤ j ∧ j < 8 * l.length ∧ bn l j = 0 ∧ ∀ i, a ≤ i → i < j → bn l i = 1
theorem lowF_is (l : List Int) : ∀ (n i : Nat), (i ≤ 8 * l.length → i + n = 8 * l.length) → (8 * l.length < i → n = 0) → IsLow l i (lowF l n i)
  | 0, i, h, _ => .inl ⟨rfl, fun j h1 h2 => by have := h (by omega); omega⟩
  | n + 1, i, h, h2 => by
    unfold lowF
    have hi : i < 8 * l.length := by
      by_cases c : i ≤ 8 * l.length
      · have := h c; omega
      · have := h2 (by omega); omega
    have hin := h (by omega)
    by_cases c : bn l i = 0
    · rw [if_pos c]
      exact .inr ⟨i, rfl, Nat.le_refl _, hi, c, fun j h1 h2 => by omega⟩
    · rw [if_neg c]
      have c1 : bn l i = 1 := by have := bn_or l i; omega
      rcases lowF_is l n (i + 1) (fun _ => by omega) (fun _ => by omega) with ⟨h1, h2⟩ | ⟨j, h1, h2, h3, h4, h5⟩
      · refine .inl ⟨h1, fun k hk hk2 => ?_⟩
        by_cases e : k = i
        · subst e; exact c1
        · exact h2 k (by omega) hk2
      · refine .inr ⟨j, h1, by omega, h3, h4, fun k hk hk2 => ?_⟩
        by_cases e : k = i
        · subst e; exact c1
        · exact h5 k (by omega) hk2
theorem low_is (l : List Int) (a : Nat) : IsLow l a (lowB l a) := lowF_is l _ _ (by omega) (by omega)
theorem isLow_eq {l : List Int} {a : Nat} {r s : Int} (h : IsLow l a r) (k : IsLow l a s) : r = s := by
  rcases h with ⟨h1, h2⟩ | ⟨j, h1, h2, h3, h4, h5⟩
  · rcases k with ⟨k1, k2⟩ | ⟨i, k1, k2, k3, k4, k5⟩
    · omega
    · have := h2 i k2 k3; omega
  · rcases k with ⟨k1, k2⟩ | ⟨i, k1, k2, k3, k4, k5⟩
    · have := k2 j h2 h3; omega
    · rcases Nat.lt_trichotomy i j with e | e | e
      · have := h5 i k2 e; omega
      · omega
      · have := k5 j h2 e; omega
theorem low_of {l : List Int} {a : Nat} {r : Int} (h : IsLow l a r) : lowB l a = r := isLow_eq (low_is l a) h
theorem low_bd (l : List Int) (a : Nat) : -1 ≤ lowB l a ∧ lowB l a < 8 * (l.length : Int) := by
  rcases low_is l a with ⟨h, _⟩ | ⟨j, h, _, h3, _⟩ <;> omega
/-- all bits from a up to i are on: the lowest from a is the lowest from i -/
theorem low_skip {l : List Int} {a i : Nat} (hai : a ≤ i) (h : ∀ j, a ≤ j → j < i → bn l j = 1) : lowB l a = lowB l i := by
  refine low_of ?_
  rcases low_is l i with ⟨h1, h2⟩ | ⟨j, h1, h2, h3, h4, h5⟩
  · refine .inl ⟨h1, fun k hk hk2 => ?_⟩
    by_cases e : k < i
    · exact h k hk e
    · exact h2 k (by omega) hk2
  · refine .inr ⟨j, h1, by omega, h3, h4, fun k hk hk2 => ?_⟩
    by_cases e : k < i
    · exact h k hk e
    · exact h5 k (by omega) hk2
theorem low_step {l : List Int} {i : Nat} (h : bn l i = 1) : lowB l i = lowB l (i + 1) := low_skip (by omega) fun j h1 h2 => by
  obtain rfl : j = i := by omega
  exact h
theorem low_here {l : List Int} {i : Nat} (h : bn l i = 0) (hi : i < 8 * l.length) : lowB l i = (i : Int) := low_of (.inr ⟨i, rfl, Nat.le_refl _, hi, h, fun j h1 h2 => by omega⟩)
theorem low_end {l : List Int} {i : Nat} (h : 8 * l.length ≤ i) : lowB l i = -1 := low_of (.inl ⟨rfl, fun j h1 h2 => by omega⟩)
theorem cn_bd (l : List Int) (a n : Nat) : 0 ≤ cn l a n ∧ cn l a n ≤ n := by
  induction n with
  | zero => simp [cn]
  | succ n ih => have := bn_bd l (a + n); rw [cn]; omega
theorem cn_add (l : List Int) (a m n : Nat) : cn l a (m + n) = cn l a m + cn l (a + m) n := by
  induction n with
  | zero => simp [cn]
  | succ n ih => rw [← Nat.add_assoc, cn, cn, ih, Nat.add_assoc a m n]; omega
theorem cn_ones {l : List Int} {a n : Nat} (h : ∀ j, j < n → bn l (a + j) = 1) : cn l a n = n := by
  induction n with
  | zero => rfl
  | succ n ih => rw [cn, ih (fun j hj => h j (by omega)), h n (by omega)]; omega
theorem cn_zeros {l : List Int} {a n : Nat} (h : ∀ j, j < n → bn l (a + j) = 0) : cn l a n = 0 := by
  induction n with
  | zero => rfl
  | succ n ih => rw [cn, ih (fun j hj => h j (by omega)), h n (by omega)]; omega
theorem offs_le (l : List Int) (n : Nat) : offs l n ≤ n := by
  induction n with
  | zero => simp [offs]
  | succ n ih => rw [offs]; split <;> omega
/-- the bits just ahead that are off, and the one ahead of them that is on -/
theorem offs_off (l : List Int) (n : Nat) : (∀ j, n - offs l n ≤ j → j < n → bn l j = 0) ∧ (offs l n < n → bn l (n - offs l n - 1) = 1) := by
  induction n with
  | zero => exact ⟨fun j h1 h2 => by omega, fun h => by simp [offs] at h⟩
  | succ n ih =>
    have hle := offs_le l n
    rw [offs]
    by_cases c : bn l n = 0
    · rw [if_pos c]
      refine ⟨fun j h1 h2 => ?_, fun h => ?_⟩
      · by_cases e : j = n
        · subst e; exact c
        · exact ih.1 j (by omega) (by omega)
      · have := ih.2 (by omega)
        rw [show n + 1 - (offs l n + 1) - 1 = n - offs l n - 1 by omega]; exact this
    · rw [if_neg c]
      refine ⟨fun j h1 h2 => by omega, fun h => ?_⟩
      have := bn_or l n
      show bn l (n + 1 - 0 - 1) = 1
      rw [show n + 1 - 0 - 1 = n by omega]; omega
theorem offs_cong {l m : List Int} {n : Nat} (h : ∀ j, j < n → bn l j = bn m j) : offs l n = offs m n := by
  induction n with
  | zero => rfl
  | succ n ih => rw [offs, offs, ih (fun j hj => h j (by omega)), h n (by omega)]
theorem rows_cong {l m : List Int} {n : Nat} (h : ∀ j, j < n → bn l j = bn m j) : rows l n = rows m n := by
  induction n with
  | zero => rfl
  | succ n ih => rw [rows, rows, ih (fun j hj => h j (by omega)), h n (by omega), offs_cong (fun j hj => h j (by omega))]
theorem bn_app {l m : List Int} {j : Nat} (h : j < 8 * l.length) : bn (l ++ m) j = bn l j := by
  unfold bn
  rw [show nth (l ++ m) (j / 8) = nth l (j / 8) by simp [nth, List.getD, List.getElem?_append, show j / 8 < l.length by omega]]
theorem bn_255 {l : List Int} {j : Nat} (h : 8 * l.length ≤ j) (h2 : j < 8 * l.length + 8) : bn (l ++ [255]) j = 1 := by
  unfold bn
  rw [show nth (l ++ [255]) (j / 8) = 255 by simp [nth, List.getD, List.getElem?_append, show ¬ j / 8 < l.length by omega, show j / 8 - l.length = 0 by omega]]
  rcases pow2 (j % 8) (by omega) with e | e | e | e | e | e | e | e <;> rw [e] <;> omega
/-- with a byte of bits that are on behind the others all rows come to an end -/
theorem rows_all (l : List Int) (k : Nat) (h1 : 1 ≤ k) (h8 : k ≤ 8) : rows (l ++ [255]) (8 * l.length + k) = runs l ∧ offs (l ++ [255]) (8 * l.length + k) = 0 := by
  induction k with
  | zero => omega
  | succ k ih =>
    have hb : bn (l ++ [255]) (8 * l.length + k) = 1 := bn_255 (by omega) (by omega)
    rw [← Nat.add_assoc, rows, offs, hb]
    by_cases c : k = 0
    · subst c
      rw [Nat.add_zero, rows_cong (m := l) (fun j hj => bn_app hj), offs_cong (m := l) (fun j hj => bn_app hj)]
      unfold runs rowsE
      simp
    · have := ih (by omega) (by omega)
      rw [this.1, this.2]
      simp
/-- one row of l: where it begins and how long it is; 'e': no row is known to end behind it -/
structure IsRow (l : List Int) (at_ k : Nat) : Prop where
  pos : 0 < k
  top : at_ + k ≤ 8 * l.length
  off : ∀ j, at_ ≤ j → j < at_ + k → bn l j = 0
  pre : 0 < at_ → bn l (at_ - 1) = 1
  post : at_ + k < 8 * l.length → bn l (at_ + k) = 1
theorem rowsE_snoc (l : List Int) (n : Nat) : rowsE l (n + 1) = if bn l n = 0 then (if 0 < offs l n then rows l n ++ [(n - offs l n, offs l n + 1)] else rows l n ++ [(n, 1)]) else rowsE l n := by
  have hle := offs_le l n
  unfold rowsE
  rw [rows, offs]
  by_cases c : bn l n = 0
  · rw [if_pos c, if_pos c, if_neg (by omega), if_pos (by omega), List.append_nil]
    by_cases d : 0 < offs l n
    · rw [if_pos d, show n + 1 - (offs l n + 1) = n - offs l n by omega]
    · rw [if_neg d, show n + 1 - (offs l n + 1) = n by omega, show offs l n + 1 = 1 by omega]
  · have := bn_or l n
    have c1 : bn l n = 1 := by omega
    rw [if_neg c, if_neg c]
    by_cases d : 0 < offs l n
    · simp [c1, d]
    · simp [c1, d]
theorem offs_pos (l : List Int) (n : Nat) : 0 < offs l (n + 1) ↔ bn l n = 0 := by
  rw [offs]
  by_cases c : bn l n = 0
  · simp [c]
  · simp [c]
/-- how long rows are together -/
def tot : List (Nat × Nat) → Nat
  | [] => 0
  | p :: r => p.2 + tot r
theorem tot_app (a b : List (Nat × Nat)) : tot (a ++ b) = tot a + tot b := by
  induction a with
  | nil => simp [tot]
  | cons p a ih => simp [tot, ih]; omega
/-- where the last row ends -/
def endOf : List (Nat × Nat) → Nat
  | [] => 0
  | [p] => p.1 + p.2
  | _ :: r => endOf r
theorem endOf_snoc (a : List (Nat × Nat)) (p : Nat × Nat) : endOf (a ++ [p]) = p.1 + p.2 := by
  induction a with
  | nil => rfl
  | cons q a ih =>
    cases a with
    | nil => rfl
    | cons r a => simpa [endOf] using ih
theorem endOf_off (l : List Int) (n : Nat) : 0 < endOf (rows l n) → bn l (endOf (rows l n) - 1) = 0 := by
  induction n with
  | zero => intro h; simp [rows, endOf] at h
  | succ n ih =>
    rw [rows]
    split
    case isTrue h =>
      intro _
      have hle := offs_le l n
      rw [endOf_snoc]
      show bn l (n - offs l n + offs l n - 1) = 0
      exact (offs_off l n).1 _ (by omega) (by omega)
    case isFalse h =>
      rw [List.append_nil]
      exact ih
theorem rows_tot (l : List Int) (n : Nat) : (tot (rows l n) : Int) + offs l n + cn l 0 n = n ∧ endOf (rows l n) ≤ n - offs l n := by
  induction n with
  | zero => simp [rows, tot, offs, cn, endOf]
  | succ n ih =>
    have hle := offs_le l n
    obtain ⟨h1, h2⟩ := ih
    rw [rows, offs, cn, Nat.zero_add]
    rcases bn_or l n with c | c
    · rw [if_neg (by omega), if_pos c, List.append_nil, c]
      exact ⟨by omega, by omega⟩
    · rw [if_neg (show ¬ bn l n = 0 by omega), c]
      by_cases d : 0 < offs l n
      · rw [if_pos ⟨rfl, d⟩, tot_app, endOf_snoc]
        simp only [tot]
        exact ⟨by omega, by omega⟩
      · rw [if_neg (by omega), List.append_nil]
        exact ⟨by omega, by omega⟩
theorem rows_gap (l : List Int) (n : Nat) (_ : 0 < offs l n) (he : endOf (rows l n) = n - offs l n) : n - offs l n = 0 := by
  by_cases z : n - offs l n = 0
  · exact z
  · have h1 := endOf_off l n (by omega)
    have h2 := (offs_off l n).2 (by omega)
    rw [he] at h1
    omega
/-- a row behind some others lies behind them, with a gap -/
def Nxt (pre : List (Nat × Nat)) (p : Nat × Nat) : Prop := endOf pre ≤ p.1 ∧ (p.1 = endOf pre → p.1 = 0)
theorem snoc_prefix {α : Type} {pre : List α} {p : α} {a : List α} {q : α} (h : pre ++ [p] <+: a ++ [q]) : pre ++ [p] <+: a ∨ (pre = a ∧ p = q) := by
  obtain ⟨t, ht⟩ := h
  rcases List.eq_nil_or_concat t with rfl | ⟨t', x, rfl⟩
  · rw [List.append_nil] at ht
    exact .inr ((List.append_inj' ht rfl).imp id (fun e => by simpa using e))
  · left
    have : (pre ++ [p] ++ t') ++ [x] = a ++ [q] := by rw [← ht]; simp
    exact ⟨t', (List.append_inj' this rfl).1⟩
theorem rows_next (l : List Int) (n : Nat) (pre : List (Nat × Nat)) (p : Nat × Nat) (h : pre ++ [p] <+: rows l n) : Nxt pre p := by
  induction n with
  | zero => obtain ⟨t, ht⟩ := h; simp [rows] at ht
  | succ n ih =>
    rw [rows] at h
    split at h
    case isTrue hc =>
      rcases snoc_prefix h with h | ⟨rfl, rfl⟩
      · exact ih h
      · exact ⟨(rows_tot l n).2, fun e => rows_gap l n hc.2 e.symm⟩
    case isFalse => rw [List.append_nil] at h; exact ih h
theorem runs_next (l : List Int) (pre : List (Nat × Nat)) (p : Nat × Nat) (h : pre ++ [p] <+: runs l) : Nxt pre p := by
  rw [← (rows_all l 1 (by omega) (by omega)).1] at h
  exact rows_next _ _ _ _ h
theorem cn_cong {l m : List Int} {a n : Nat} (h : ∀ j, j < n → bn l (a + j) = bn m (a + j)) : cn l a n = cn m a n := by
  induction n with
  | zero => rfl
  | succ n ih => rw [cn, cn, ih (fun j hj => h j (by omega)), h n (by omega)]
theorem runs_tot (l : List Int) : (tot (runs l) : Int) + cn l 0 (8 * l.length) = 8 * l.length := by
  have h := (rows_tot l (8 * l.length)).1
  unfold runs rowsE
  rw [tot_app]
  by_cases c : 0 < offs l (8 * l.length)
  · rw [if_pos c]; simp only [tot]; omega
  · rw [if_neg c]; simp only [tot]; omega
theorem rows_row (l : List Int) (n : Nat) (hn : n ≤ 8 * l.length) (p : Nat × Nat) (h : p ∈ rows l n) : IsRow l p.1 p.2 := by
  induction n with
  | zero => simp [rows] at h
  | succ n ih =>
    rw [rows, List.mem_append] at h
    rcases h with h | h
    · exact ih (by omega) h
    · split at h
      case isTrue hc =>
        obtain rfl : p = _ := by simpa using h
        have hle := offs_le l n
        have ho := offs_off l n
        refine ⟨hc.2, ?_, fun j h1 h2 => ho.1 j h1 ?_, fun h0 => ?_, fun _ => ?_⟩
        · show n - offs l n + offs l n ≤ _
          omega
        · have h2 : j < n - offs l n + offs l n := h2
          omega
        · have h0 : 0 < n - offs l n := h0
          exact ho.2 (by omega)
        · show bn l (n - offs l n + offs l n) = 1
          rw [Nat.sub_add_cancel hle]; exact hc.1
      case isFalse => simp at h
theorem runs_row {l : List Int} {p : Nat × Nat} (h : p ∈ runs l) : IsRow l p.1 p.2 := by
  unfold runs rowsE at h
  rw [List.mem_append] at h
  rcases h with h | h
  · exact rows_row l _ (Nat.le_refl _) p h
  · split at h
    case isTrue hc =>
      obtain rfl : p = _ := by simpa using h
      have hle := offs_le l (8 * l.length)
      have ho := offs_off l (8 * l.length)
      refine ⟨hc, ?_, fun j h1 h2 => ho.1 j h1 ?_, fun h0 => ?_, fun h0 => ?_⟩
      · show 8 * l.length - offs l (8 * l.length) + offs l (8 * l.length) ≤ _
        omega
      · have h2 : j < 8 * l.length - offs l (8 * l.length) + offs l (8 * l.length) := h2
        omega
      · have h0 : 0 < 8 * l.length - offs l (8 * l.length) := h0
        exact ho.2 (by omega)
      · have h0 : 8 * l.length - offs l (8 * l.length) + offs l (8 * l.length) < 8 * l.length := h0
        omega
    case isFalse => simp at h
theorem rows_first (l : List Int) (n : Nat) : (rows l n = [] → ∀ j, j < n - offs l n → bn l j = 1) ∧ (∀ p r, rows l n = p :: r → ∀ j, j < p.1 → bn l j = 1) := by
  induction n with
  | zero => exact ⟨fun _ j hj => by omega, fun p r h => by simp [rows] at h⟩
  | succ n ih =>
    have hle := offs_le l n
    rw [rows, offs]
    rcases bn_or l n with c | c
    · rw [if_neg (by omega), if_pos c, List.append_nil]
      exact ⟨fun h j hj => ih.1 h j (by omega), ih.2⟩
    · rw [if_neg (show ¬ bn l n = 0 by omega)]
      by_cases d : 0 < offs l n
      · rw [if_pos ⟨c, d⟩]
        refine ⟨fun h => by simp at h, fun p r h j hj => ?_⟩
        rcases hr : rows l n with _ | ⟨q, t⟩
        · rw [hr] at h
          obtain rfl : _ = p := by simpa using (List.cons.inj h).1
          exact ih.1 hr j hj
        · rw [hr] at h
          obtain rfl : q = p := (List.cons.inj h).1
          exact ih.2 q t hr j hj
      · rw [if_neg (by omega), List.append_nil]
        refine ⟨fun h j hj => ?_, ih.2⟩
        by_cases e : j = n
        · subst e; exact c
        · exact ih.1 h j (by omega)
theorem runs_first (l : List Int) : lowB l 0 = match runs l with | [] => -1 | p :: _ => (p.1 : Int) := by
  have h1 := rows_first (l ++ [255]) (8 * l.length + 1)
  have h2 := rows_all l 1 (by omega) (by omega)
  rw [h2.1, h2.2] at h1
  rcases hr : runs l with _ | ⟨p, t⟩
  · refine low_of (.inl ⟨rfl, fun i _ hi => ?_⟩)
    have := h1.1 hr i (by omega)
    rw [bn_app hi] at this
    exact this
  · have hp : IsRow l p.1 p.2 := runs_row (by rw [hr]; exact .head _)
    have := hp.pos
    have := hp.top
    refine low_of (.inr ⟨p.1, rfl, Nat.zero_le _, by omega, hp.off _ (Nat.le_refl _) (by omega), fun i _ hi => ?_⟩)
    have := h1.2 p t hr i hi
    rw [bn_app (by omega)] at this
    exact this
theorem rows_mono (l : List Int) (n m : Nat) (h : n ≤ m) : rows l n <+: rows l m := by
  induction m with
  | zero => obtain rfl : n = 0 := by omega
            exact List.prefix_refl _
  | succ m ih =>
    by_cases e : n = m + 1
    · subst e; exact List.prefix_refl _
    · rw [rows]
      exact (ih (by omega)).trans (List.prefix_append _ _)
theorem runs_len (l : List Int) : (runs l).length ≤ 8 * l.length := by
  have h := (rows_tot (l ++ [255]) (8 * l.length + 1)).1
  have h2 := rows_all l 1 (by omega) (by omega)
  have h3 : ∀ a : List (Nat × Nat), (∀ p ∈ a, 0 < p.2) → a.length ≤ tot a := by
    intro a
    induction a with
    | nil => intro _; simp
    | cons p a ih =>
      intro h
      have := h p (.head _)
      have := ih (fun q hq => h q (.tail _ hq))
      simp [tot]; omega
  have h4 := h3 (runs l) (fun p hp => (runs_row hp).pos)
  have h5 := runs_tot l
  have h6 := cn_bd l 0 (8 * l.length)
  omega
end Go.Proofs.Ytpbpblpbjkegfaa
