import Derived.Test.YtflienghgobmoaaGreatDoorKXsP
import Derived.Test.YtflienghgobmoaaGreatDoorKTxN0
import Derived.Test.YtflienghgobmoaaGreatDoorKMathR
import Derived.Test.YtflienghgobmoaaGreatDoorKFrame
import Derived.Deep.DeepCutAuto
import Derived.BigRegion
namespace Go.Proofs.YtflienghgobmoaaGreatDoor
open Go.RowKit Go.Maps Go.Sort Go.Shelf Rec
variable {w0 w w1 wx w2 w' : World} {P j j' : Nat} {D D' : Dk} {R R' : RDk} {T T' : Tx} {U U' : RTx} {K K' : Kb} {row' : List Dn} {c2 c3 : Value}
theorem owl_of {e sz n : Nat} {v : Value} {xs : List Value} (h : w'.ownsRow w.heap.size e sz v n xs) (hb : Below w.heap.size w w') : OwL e sz w w' v n xs := by
  obtain ⟨h1, h2⟩ := h
  rcases h2 with ⟨e1, e2⟩ | ⟨g, cap, cur, e1, q1, q2, q3⟩
  · exact ⟨⟨h1, .inl ⟨e1, e2⟩⟩, fun k hk => by rw [e1] at hk; (cases hk), hb⟩
  · exact ⟨⟨h1, .inr ⟨g, cap, cur, e1, Nat.zero_le _, q2, q3⟩⟩, fun k hk => by rw [e1] at hk; cases hk; exact q1, hb⟩
theorem pwritten (h : XS w0 w P D R T U K j) : Calls Tryz.prog 38 #[.pointer (some ⟨T.t, 0, none⟩)] w (WrP w (wrL U D.nb)) := by
  cases hen : U.ends with
  | true =>
    have e : wrL U D.nb = [] := by unfold wrL; rw [if_pos hen]
    rw [e]
    refine (written_over w T.t (h.tp.over hen)).mono ?_
    rintro e w' ⟨rfl, hb⟩
    exact ⟨_, rfl, OwL.zero hb⟩
  | false =>
    obtain ⟨hx, hd, hn, hu⟩ := h.tp.live hen
    have e : wrL U D.nb = nsB (lst T.c T.nb) := by unfold wrL; rw [if_neg (by rw [hen]; simp), hn, (hu.lists hx.ok).1]
    rw [e]
    refine (written_any w T hx).mono ?_
    rintro e w' ⟨v, rfl, h1, _, h3⟩
    refine ⟨v, rfl, ?_⟩
    have e2 : (nsB (lst T.c T.nb)).length = (lst T.c T.nb).length := by simp [nsB]
    rw [e2]
    exact owl_of h1 h3
end Go.Proofs.YtflienghgobmoaaGreatDoor

namespace Go.Proofs.YtflienghgobmoaaGreatDoor
open Go.RowKit Rec
variable {w0 w w1 wx w2 w' : World} {P j j' : Nat} {D D' : Dk} {R R' : RDk} {T T' : Tx} {U U' : RTx} {K K' : Kb} {row' : List Dn} {c2 c3 : Value}
theorem owl_ints {v : Value} {l : List Int} (h : OwL 3 1 w w' v l.length (l.map (Value.int .i64))) : IntsAt w' v l := by
  obtain ⟨a, c, e, _⟩ := owns_slice h.row
  refine ⟨a, c, e, ?_⟩
  rcases h.row.2 with ⟨_, e2⟩ | ⟨g, cap, cur, e2, _⟩
  · exact .inl (List.eq_nil_of_length_eq_zero e2)
  · rw [e] at e2
    cases e2
    refine .inr ⟨g, rfl, fun i x hi => ?_⟩
    have hc := World.ownsRow.cells h.row (g := g) (by rw [e]; rfl) i (.int .i64 x) (by rw [List.getElem?_map, hi]; rfl)
    rw [Addr.add_lit, Nat.zero_add] at hc
    exact hc
end Go.Proofs.YtflienghgobmoaaGreatDoor

namespace Go.Proofs.YtflienghgobmoaaGreatDoor
open Go.RowKit Rec
variable {w0 w w1 wx w2 w' : World} {P j j' : Nat} {D D' : Dk} {R R' : RDk} {T T' : Tx} {U U' : RTx} {K K' : Kb} {row' : List Dn} {c2 c3 : Value}
theorem pread6 (h : XS w0 w P D R T U K j) (i : Int) : Calls Tryz.prog 65 #[.pointer (some ⟨T.t, 0, none⟩), .int .i64 i] w fun e w' => ∃ a c, e = .returned (.tuple #[.slice a (rxB D.abs U i).length c, .int .i64 (rxE D.abs U i)]) ∧ AnsB w.heap.size w' (.slice a (rxB D.abs U i).length c) (rxB D.abs U i) ∧ Below w.heap.size w w' := by
  cases hen : U.ends with
  | true =>
    have e1 : rxE D.abs U i = 61 := by unfold rxE; rw [if_pos hen]
    have e2 : rxB D.abs U i = [] := by unfold rxB; rw [if_pos hen]
    rw [e1, e2]
    refine (read_over w T.t (h.tp.over hen) i).mono ?_
    rintro e w' ⟨rfl, rfl⟩
    exact ⟨none, 0, rfl, ansB_nil, Below.refl _ _⟩
  | false =>
    obtain ⟨hx, hd, hn, hu⟩ := h.tp.live hen
    obtain ⟨e1, e2⟩ := hu.read (a := D.abs) hn.symm hen i
    refine (txread_any w T D hx h.ws.d hd hn (fun k hk hdn => ?_) i).mono ?_
    · have := bck512 h.ws.t (i := k) hdn hk
      rw [← abs_full] at this
      exact this
    · rintro e w' ⟨v, rfl, h1, h2⟩
      have f : D.full = D.abs.full := abs_full D
      have hdn : D.down = D.abs.down := rfl
      rw [hdn, e1]
      rw [hdn, f, e2] at h1
      obtain ⟨a, c, rfl, hB⟩ := h1.2.2.2
      exact ⟨a, c, rfl, h1, h2⟩
end Go.Proofs.YtflienghgobmoaaGreatDoor

namespace Go.Proofs.YtflienghgobmoaaGreatDoor
open Rec

/-- bit i: 1 or 0 -/
def bn (l : List Int) (i : Nat) : Int := nth l (i / 8) / 2 ^ (i % 8) % 2
/-- is bit i on? -/
def bt (l : List Int) (i : Nat) : Bool := bn l i == 1
/-- a byte with its bit k put on or off -/
def byt (x : Int) (k : Nat) (on : Bool) : Int := x - x / 2 ^ k % 2 * 2 ^ k + (if on then 2 ^ k else 0)
/-- the bytes with bit i put on or off -/
def bput (l : List Int) (i : Nat) (on : Bool) : List Int := l.set (i / 8) (byt (nth l (i / 8)) (i % 8) on)
/-- how many of the n bits from a on are on -/
def cn (l : List Int) (a : Nat) : Nat → Int
  | 0 => 0
  | n + 1 => cn l a n + bn l (a + n)
/-- how many bits are off just ahead of i -/
def offs (l : List Int) : Nat → Nat
  | 0 => 0
  | i + 1 => if bn l i = 0 then offs l i + 1 else 0
/-- the rows that have come to an end ahead of n -/
def rows (l : List Int) : Nat → List (Nat × Nat)
  | 0 => []
  | n + 1 => rows l n ++ (if bn l n = 1 ∧ 0 < offs l n then [(n - offs l n, offs l n)] else [])
/-- the rows of the first n bits, the one under way with them -/
def rowsE (l : List Int) (n : Nat) : List (Nat × Nat) := rows l n ++ (if 0 < offs l n then [(n - offs l n, offs l n)] else [])
/-- all rows -/
def runs (l : List Int) : List (Nat × Nat) := rowsE l (8 * l.length)

theorem bn_or (l : List Int) (i : Nat) : bn l i = 0 ∨ bn l i = 1 := by unfold bn; omega
theorem bn_bd (l : List Int) (i : Nat) : 0 ≤ bn l i ∧ bn l i ≤ 1 := by unfold bn; omega
theorem bt_iff (l : List Int) (i : Nat) : bt l i = true ↔ bn l i = 1 := by simp [bt]
theorem bt_not (l : List Int) (i : Nat) : bt l i = false ↔ bn l i = 0 := by
  have := bn_or l i
  simp [bt]; omega
theorem pow2 (k : Nat) (h : k < 8) : (2 : Int) ^ k = 1 ∨ (2 : Int) ^ k = 2 ∨ (2 : Int) ^ k = 4 ∨ (2 : Int) ^ k = 8 ∨ (2 : Int) ^ k = 16 ∨ (2 : Int) ^ k = 32 ∨ (2 : Int) ^ k = 64 ∨ (2 : Int) ^ k = 128 := by
  have : ∀ k, k < 8 → ((2 : Int) ^ k = 1 ∨ (2 : Int) ^ k = 2 ∨ (2 : Int) ^ k = 4 ∨ (2 : Int) ^ k = 8 ∨ (2 : Int) ^ k = 16 ∨ (2 : Int) ^ k = 32 ∨ (2 : Int) ^ k = 64 ∨ (2 : Int) ^ k = 128) := by decide
  exact this k h
theorem byt_bd (x : Int) (k : Nat) (on : Bool) (hk : k < 8) (hx : 0 ≤ x ∧ x < 256) : 0 ≤ byt x k on ∧ byt x k on < 256 := by
  unfold byt
  cases on <;> simp only [if_true, Bool.false_eq_true, if_false]
  all_goals
    rcases pow2 k hk with e | e | e | e | e | e | e | e <;> rw [e] <;> omega
theorem byt_bit (k j : Nat) (hk : k < 8) (hj : j < 8) (x : Int) (on : Bool) (hx : 0 ≤ x ∧ x < 256) : byt x k on / 2 ^ j % 2 = if j = k then (if on then 1 else 0) else x / 2 ^ j % 2 := by
  have H : ∀ k, k < 8 → ∀ j, j < 8 → ∀ x, x < 256 → ∀ on : Bool, byt (x : Nat) k on / 2 ^ j % 2 = if j = k then (if on then 1 else 0) else ((x : Nat) : Int) / 2 ^ j % 2 := by decide +kernel
  obtain ⟨n, rfl⟩ := Int.eq_ofNat_of_zero_le hx.1
  exact H k hk j hj n (by omega) on
theorem bput_length (l : List Int) (i : Nat) (on : Bool) : (bput l i on).length = l.length := by simp [bput]
theorem bn_bput (l : List Int) (i j : Nat) (on : Bool) (hl : ∀ i, 0 ≤ nth l i ∧ nth l i < 256) (hi : i / 8 < l.length) : bn (bput l i on) j = if j = i then (if on then 1 else 0) else bn l j := by
  unfold bn
  rw [bput, nth_set _ _ _ _ hi]
  by_cases e : j / 8 = i / 8
  · rw [if_pos e, byt_bit _ _ (by omega) (by omega) _ _ (hl _), e]
    by_cases e2 : j = i
    · subst e2; simp
    · rw [if_neg e2, if_neg (by omega)]
  · rw [if_neg e, if_neg (by intro h; subst h; exact e rfl)]
theorem cn_bd (l : List Int) (a n : Nat) : 0 ≤ cn l a n ∧ cn l a n ≤ n := by
  induction n with
  | zero => simp [cn]
  | succ n ih => have := bn_bd l (a + n); rw [cn]; omega
theorem offs_le (l : List Int) (n : Nat) : offs l n ≤ n := by
  induction n with
  | zero => simp [offs]
  | succ n ih => rw [offs]; split <;> omega
/-- the bits just ahead that are off, and the one ahead of them that is on -/
theorem offs_off (l : List Int) (n : Nat) : (∀ j, n - offs l n ≤ j → j < n → bn l j = 0) ∧ (offs l n < n → bn l (n - offs l n - 1) = 1) := by
  induction n with
  | zero => exact ⟨fun j h1 h2 => by omega, fun h => by simp [offs] at h⟩
  | succ n ih =>
    have hle := offs_le l n
    rw [offs]
    by_cases c : bn l n = 0
    · rw [if_pos c]
      refine ⟨fun j h1 h2 => ?_, fun h => ?_⟩
      · by_cases e : j = n
        · subst e; exact c
        · exact ih.1 j (by omega) (by omega)
      · have := ih.2 (by omega)
        rw [show n + 1 - (offs l n + 1) - 1 = n - offs l n - 1 by omega]; exact this
    · rw [if_neg c]
      refine ⟨fun j h1 h2 => by omega, fun h => ?_⟩
      have := bn_or l n
      show bn l (n + 1 - 0 - 1) = 1
      rw [show n + 1 - 0 - 1 = n by omega]; omega
theorem offs_cong {l m : List Int} {n : Nat} (h : ∀ j, j < n → bn l j = bn m j) : offs l n = offs m n := by
  induction n with
  | zero => rfl
  | succ n ih => rw [offs, offs, ih (fun j hj => h j (by omega)), h n (by omega)]
theorem rows_cong {l m : List Int} {n : Nat} (h : ∀ j, j < n → bn l j = bn m j) : rows l n = rows m n := by
  induction n with
  | zero => rfl
  | succ n ih => rw [rows, rows, ih (fun j hj => h j (by omega)), h n (by omega), offs_cong (fun j hj => h j (by omega))]
theorem bn_app {l m : List Int} {j : Nat} (h : j < 8 * l.length) : bn (l ++ m) j = bn l j := by
  unfold bn
  rw [show nth (l ++ m) (j / 8) = nth l (j / 8) by simp [nth, List.getD, List.getElem?_append, show j / 8 < l.length by omega]]
theorem bn_255 {l : List Int} {j : Nat} (h : 8 * l.length ≤ j) (h2 : j < 8 * l.length + 8) : bn (l ++ [255]) j = 1 := by
  unfold bn
  rw [show nth (l ++ [255]) (j / 8) = 255 by simp [nth, List.getD, List.getElem?_append, show ¬ j / 8 < l.length by omega, show j / 8 - l.length = 0 by omega]]
  rcases pow2 (j % 8) (by omega) with e | e | e | e | e | e | e | e <;> rw [e] <;> omega
/-- with a byte of bits that are on behind the others all rows come to an end -/
theorem rows_all (l : List Int) (k : Nat) (h1 : 1 ≤ k) (h8 : k ≤ 8) : rows (l ++ [255]) (8 * l.length + k) = runs l ∧ offs (l ++ [255]) (8 * l.length + k) = 0 := by
  induction k with
  | zero => omega
  | succ k ih =>
    have hb : bn (l ++ [255]) (8 * l.length + k) = 1 := bn_255 (by omega) (by omega)
    rw [← Nat.add_assoc, rows, offs, hb]
    by_cases c : k = 0
    · subst c
      rw [Nat.add_zero, rows_cong (m := l) (fun j hj => bn_app hj), offs_cong (m := l) (fun j hj => bn_app hj)]
      unfold runs rowsE
      simp
    · have := ih (by omega) (by omega)
      rw [this.1, this.2]
      simp
/-- one row of l: where it begins and how long it is; 'e': no row is known to end behind it -/
structure IsRow (l : List Int) (at_ k : Nat) : Prop where
  pos : 0 < k
  top : at_ + k ≤ 8 * l.length
  off : ∀ j, at_ ≤ j → j < at_ + k → bn l j = 0
  pre : 0 < at_ → bn l (at_ - 1) = 1
  post : at_ + k < 8 * l.length → bn l (at_ + k) = 1
/-- how long rows are together -/
def tot : List (Nat × Nat) → Nat
  | [] => 0
  | p :: r => p.2 + tot r
theorem tot_app (a b : List (Nat × Nat)) : tot (a ++ b) = tot a + tot b := by
  induction a with
  | nil => simp [tot]
  | cons p a ih => simp [tot, ih]; omega
/-- where the last row ends -/
def endOf : List (Nat × Nat) → Nat
  | [] => 0
  | [p] => p.1 + p.2
  | _ :: r => endOf r
theorem endOf_snoc (a : List (Nat × Nat)) (p : Nat × Nat) : endOf (a ++ [p]) = p.1 + p.2 := by
  induction a with
  | nil => rfl
  | cons q a ih =>
    cases a with
    | nil => rfl
    | cons r a => simpa [endOf] using ih
theorem rows_tot (l : List Int) (n : Nat) : (tot (rows l n) : Int) + offs l n + cn l 0 n = n ∧ endOf (rows l n) ≤ n - offs l n := by
  induction n with
  | zero => simp [rows, tot, offs, cn, endOf]
  | succ n ih =>
    have hle := offs_le l n
    obtain ⟨h1, h2⟩ := ih
    rw [rows, offs, cn, Nat.zero_add]
    rcases bn_or l n with c | c
    · rw [if_neg (by omega), if_pos c, List.append_nil, c]
      exact ⟨by omega, by omega⟩
    · rw [if_neg (show ¬ bn l n = 0 by omega), c]
      by_cases d : 0 < offs l n
      · rw [if_pos ⟨rfl, d⟩, tot_app, endOf_snoc]
        simp only [tot]
        exact ⟨by omega, by omega⟩
      · rw [if_neg (by omega), List.append_nil]
        exact ⟨by omega, by omega⟩
theorem snoc_prefix {α : Type} {pre : List α} {p : α} {a : List α} {q : α} (h : pre ++ [p] <+: a ++ [q]) : pre ++ [p] <+: a ∨ (pre = a ∧ p = q) := by
  obtain ⟨t, ht⟩ := h
  rcases List.eq_nil_or_concat t with rfl | ⟨t', x, rfl⟩
  · rw [List.append_nil] at ht
    exact .inr ((List.append_inj' ht rfl).imp id (fun e => by simpa using e))
  · left
    have : (pre ++ [p] ++ t') ++ [x] = a ++ [q] := by rw [← ht]; simp
    exact ⟨t', (List.append_inj' this rfl).1⟩
theorem runs_tot (l : List Int) : (tot (runs l) : Int) + cn l 0 (8 * l.length) = 8 * l.length := by
  have h := (rows_tot l (8 * l.length)).1
  unfold runs rowsE
  rw [tot_app]
  by_cases c : 0 < offs l (8 * l.length)
  · rw [if_pos c]; simp only [tot]; omega
  · rw [if_neg c]; simp only [tot]; omega
theorem rows_row (l : List Int) (n : Nat) (hn : n ≤ 8 * l.length) (p : Nat × Nat) (h : p ∈ rows l n) : IsRow l p.1 p.2 := by
  induction n with
  | zero => simp [rows] at h
  | succ n ih =>
    rw [rows, List.mem_append] at h
    rcases h with h | h
    · exact ih (by omega) h
    · split at h
      case isTrue hc =>
        obtain rfl : p = _ := by simpa using h
        have hle := offs_le l n
        have ho := offs_off l n
        refine ⟨hc.2, ?_, fun j h1 h2 => ho.1 j h1 ?_, fun h0 => ?_, fun _ => ?_⟩
        · show n - offs l n + offs l n ≤ _
          omega
        · have h2 : j < n - offs l n + offs l n := h2
          omega
        · have h0 : 0 < n - offs l n := h0
          exact ho.2 (by omega)
        · show bn l (n - offs l n + offs l n) = 1
          rw [Nat.sub_add_cancel hle]; exact hc.1
      case isFalse => simp at h
theorem runs_row {l : List Int} {p : Nat × Nat} (h : p ∈ runs l) : IsRow l p.1 p.2 := by
  unfold runs rowsE at h
  rw [List.mem_append] at h
  rcases h with h | h
  · exact rows_row l _ (Nat.le_refl _) p h
  · split at h
    case isTrue hc =>
      obtain rfl : p = _ := by simpa using h
      have hle := offs_le l (8 * l.length)
      have ho := offs_off l (8 * l.length)
      refine ⟨hc, ?_, fun j h1 h2 => ho.1 j h1 ?_, fun h0 => ?_, fun h0 => ?_⟩
      · show 8 * l.length - offs l (8 * l.length) + offs l (8 * l.length) ≤ _
        omega
      · have h2 : j < 8 * l.length - offs l (8 * l.length) + offs l (8 * l.length) := h2
        omega
      · have h0 : 0 < 8 * l.length - offs l (8 * l.length) := h0
        exact ho.2 (by omega)
      · have h0 : 8 * l.length - offs l (8 * l.length) + offs l (8 * l.length) < 8 * l.length := h0
        omega
    case isFalse => simp at h
theorem rows_mono (l : List Int) (n m : Nat) (h : n ≤ m) : rows l n <+: rows l m := by
  induction m with
  | zero => obtain rfl : n = 0 := by omega
            exact List.prefix_refl _
  | succ m ih =>
    by_cases e : n = m + 1
    · subst e; exact List.prefix_refl _
    · rw [rows]
      exact (ih (by omega)).trans (List.prefix_append _ _)
theorem runs_len (l : List Int) : (runs l).length ≤ 8 * l.length := by
  have h := (rows_tot (l ++ [255]) (8 * l.length + 1)).1
  have h2 := rows_all l 1 (by omega) (by omega)
  have h3 : ∀ a : List (Nat × Nat), (∀ p ∈ a, 0 < p.2) → a.length ≤ tot a := by
    intro a
    induction a with
    | nil => intro _; simp
    | cons p a ih =>
      intro h
      have := h p (.head _)
      have := ih (fun q hq => h q (.tail _ hq))
      simp [tot]; omega
  have h4 := h3 (runs l) (fun p hp => (runs_row hp).pos)
  have h5 := runs_tot l
  have h6 := cn_bd l 0 (8 * l.length)
  omega
end Go.Proofs.YtflienghgobmoaaGreatDoor

namespace Go.Proofs.YtflienghgobmoaaGreatDoor
open Go.RowKit Rec

theorem length_any (w : World) (a : Option Addr) (n c : Nat) (hn : n ≤ 1000000000000000) : Calls Tryz.prog 165 #[.slice a n c] w fun e w' => e = .returned (.int .i64 ((8 * n : Nat) : Int)) ∧ w = w' := by
  go_enter Tryz.func165, Tryz.ntmps165
  go_wp2
  go_ret
  exact ⟨by go_num, rfl⟩
theorem pow_256 (n : Nat) : ((2 : Int) ^ (n % 8)) % 256 = 2 ^ (n % 8) := by
  rcases pow2 (n % 8) (by omega) with e | e | e | e | e | e | e | e <;> rw [e] <;> rfl
theorem mask_any (w : World) (n : Nat) (hn : n ≤ 9000000000000000000) : Calls Tryz.prog 145 #[.int .i64 (n : Int)] w fun e w' => e = .returned (.int .u8 (2 ^ (n % 8))) ∧ w = w' := by
  go_enter Tryz.func145, Tryz.ntmps145
  go_wp2
  go_ret
  refine ⟨?_, rfl⟩
  have := pow_256 n
  simp [this]
theorem isBit_any (w : World) (a : Option Addr) (n c : Nat) (i : Int) (hn : n ≤ 1000000000000000) : Calls Tryz.prog 143 #[.slice a n c, .int .i64 i] w fun e w' => e = .returned (.bool (decide (0 ≤ i ∧ i < (8 * n : Nat)))) ∧ w = w' := by
  go_enter Tryz.func143, Tryz.ntmps143
  by_cases h0 : 0 ≤ i
  · go_wp2_with (go_at_call 165; refine (length_any _ a n c hn).mono ?_; rintro e w' ⟨rfl, rfl⟩)
    go_ret
    simp [h0]
  · have h0' : i < 0 := by omega
    go_wp2
    go_ret
    simp; omega
theorem bits_u8 (x : Int) (k : Nat) (hx : 0 ≤ x ∧ x < 256) (hk : k < 8) : bits .and .u8 x (2 ^ k) = x / 2 ^ k % 2 * 2 ^ k ∧ bits .or .u8 x (2 ^ k) = byt x k true ∧ bits .andNot .u8 x (2 ^ k) = byt x k false := by
  have H : ∀ k, k < 8 → ∀ x, x < 256 → bits .and .u8 ((x : Nat) : Int) (2 ^ k) = ((x : Nat) : Int) / 2 ^ k % 2 * 2 ^ k ∧ bits .or .u8 (x : Nat) (2 ^ k) = byt (x : Nat) k true ∧ bits .andNot .u8 (x : Nat) (2 ^ k) = byt (x : Nat) k false := by decide +kernel
  obtain ⟨n, rfl⟩ := Int.eq_ofNat_of_zero_le hx.1
  exact H k hk n (by omega)
theorem on_is (x : Int) (k : Nat) (hx : 0 ≤ x ∧ x < 256) (hk : k < 8) : (bits .and .u8 x (2 ^ k) != 0) = (x / 2 ^ k % 2 == 1) := by
  rw [(bits_u8 x k hx hk).1]
  have h1 : x / 2 ^ k % 2 = 0 ∨ x / 2 ^ k % 2 = 1 := by omega
  rcases h1 with e | e
  · rw [e, Int.zero_mul]; rfl
  · rw [e]
    rcases pow2 k hk with e | e | e | e | e | e | e | e <;> rw [e] <;> rfl
theorem isOn_any (w : World) (a : Addr) (n c i : Nat) (l : List Int) (hb : Bytes w (some a) l) (hn : l.length = n) (hi : i < 8 * n) : Calls Tryz.prog 144 #[.slice (some a) n c, .int .i64 (i : Int)] w fun e w' => e = .returned (.bool (bt l i)) ∧ ∃ m, w' = w.drewN m := by
  obtain ⟨b, off, rfl, hc⟩ : ∃ b off, a = ⟨b, off, none⟩ ∧ w.cell? ⟨b, off + i / 8, none⟩ = some (.int .u8 (nth l (i / 8))) := by
    rcases hb.at_ with e | ⟨b, off, e, hc⟩
    · subst e; simp at hn; omega
    · cases e; exact ⟨b, off, rfl, hc _ (by omega)⟩
  have hx := hb.wf (i / 8)
  have hlen := hb.len
  obtain ⟨x, hxe⟩ : ∃ x, nth l (i / 8) = x := ⟨_, rfl⟩
  rw [hxe] at hc hx
  have HB : Hid (nth l (i / 8) = x ∧ l.length ≤ 1000000000000000) := ⟨hxe, hlen⟩
  have hn' : n ≤ 1000000000000000 := by omega
  clear hb hn hxe hlen
  obtain ⟨q, hq⟩ : ∃ q, i / 8 = q := ⟨_, rfl⟩
  have hqi : (i : Int) / 8 = (q : Int) := by omega
  rw [hq] at hc
  have hqn : q < n := by omega
  have hqn' : (q : Int) < (n : Int) := by omega
  have hwr : IntKind.i64.wrap (q : Int) = (q : Int) := by have := HB.out.2; have := hn'; rw [IntKind.wrap_i64]; omega
  go_enter Tryz.func144, Tryz.ntmps144
  go_upto_region 1 with (fail)
  go_quiet (first | (go_at_call 145; refine Calls.quiet_of_same ((mask_any _ i (by omega)).mono (fun e w' h => ⟨h.1, h.2.symm⟩))))
  (try go_wp2)
  go_ret
  refine ⟨?_, nq, rfl⟩
  show Ending.returned (Value.bool (bits BinOp.and IntKind.u8 x (2 ^ (i % 8)) != 0)) = _
  rw [on_is x (i % 8) hx (by omega), ← HB.out.1]
  rfl
theorem drewN_below (w : World) (n : Nat) : Below w.heap.size w (w.drewN n) := ⟨rfl, rfl, rfl, Nat.le_refl _, fun _ _ => rfl⟩
theorem Bytes.drewN {w : World} {a : Option Addr} {l : List Int} (h : Bytes w a l) (m : Nat) : Bytes (w.drewN m) a l := h.on (drewN_below _ _)
/-- Get -/
theorem get_yes (w : World) (a : Addr) (n c i : Nat) (l : List Int) (hb : Bytes w (some a) l) (hn : l.length = n) (hi : i < 8 * n) : Calls Tryz.prog 109 #[.slice (some a) n c, .int .i64 (i : Int)] w fun e w' => e = .returned (.tuple #[.bool (bt l i), .int .i64 0]) ∧ ∃ m, w' = w.drewN m := by
  have hn' : n ≤ 1000000000000000 := by rw [← hn]; exact hb.len
  have HB : Hid (Bytes w (some a) l ∧ l.length = n) := ⟨hb, hn⟩
  clear hb hn
  have hd : decide ((0 : Int) ≤ (i : Int) ∧ (i : Int) < ((8 * n : Nat) : Int)) = true := by simp; omega
  go_enter Tryz.func109, Tryz.ntmps109
  go_wp2_with (first
    | (go_at_call 143; refine (isBit_any _ _ n c i hn').mono ?_; rw [hd]; rintro e w' ⟨rfl, rfl⟩)
    | (go_at_call 144; refine (isOn_any _ a n c i l HB.out.1 HB.out.2 hi).mono ?_; rintro e w' ⟨rfl, m, rfl⟩))
  go_ret2
  exact ⟨rfl, _, rfl⟩
end Go.Proofs.YtflienghgobmoaaGreatDoor

namespace Go.Proofs.YtflienghgobmoaaGreatDoor
open Go.RowKit Rec

/-- Put: at an owned row's beginning -/
theorem put_raw (w : World) (g n c i : Nat) (x : Int) (on : Bool) (hc : w.cell? ⟨g, i / 8, none⟩ = some (.int .u8 x)) (hf : w.frozen? ⟨g, i / 8, none⟩ = false) (hx : 0 ≤ x ∧ x < 256) (hn : n ≤ 1000000000000000) (hi : i < 8 * n) : Calls Tryz.prog 110 #[.slice (some ⟨g, 0, none⟩) n c, .int .i64 (i : Int), .bool on] w fun e w' => e = .returned (.int .i64 0) ∧ ∃ m, w' = (w.setCell ⟨g, i / 8, none⟩ (.int .u8 (byt x (i % 8) on))).drewN m := by
  have hd : decide ((0 : Int) ≤ (i : Int) ∧ (i : Int) < ((8 * n : Nat) : Int)) = true := by simp; omega
  obtain ⟨q, hq⟩ : ∃ q, i / 8 = q := ⟨_, rfl⟩
  rw [hq] at hc hf ⊢
  have hqi : (i : Int) / 8 = (q : Int) := by omega
  have hqn : q < n := by omega
  have hqn' : (q : Int) < (n : Int) := by omega
  have hwr : IntKind.i64.wrap (q : Int) = (q : Int) := by rw [IntKind.wrap_i64]; omega
  have hb1 := (bits_u8 x (i % 8) hx (by omega)).2
  go_enter Tryz.func110, Tryz.ntmps110
  cases on with
  | true =>
    go_upto_region 4 with (go_at_call 143; refine (isBit_any _ _ n c i hn).mono ?_; rw [hd]; rintro e w' ⟨rfl, rfl⟩)
    go_region_with (go_at_call 145; refine (mask_any _ i (by omega)).mono ?_; rintro e w' ⟨rfl, rfl⟩)
    all_goals (try go_wp2)
    all_goals (go_ret; exact ⟨rfl, 1, rfl⟩)
  | false =>
    go_upto_region 5 with (go_at_call 143; refine (isBit_any _ _ n c i hn).mono ?_; rw [hd]; rintro e w' ⟨rfl, rfl⟩)
    go_region_with (go_at_call 145; refine (mask_any _ i (by omega)).mono ?_; rintro e w' ⟨rfl, rfl⟩)
    all_goals (try go_wp2)
    all_goals (go_ret; exact ⟨rfl, 1, rfl⟩)
end Go.Proofs.YtflienghgobmoaaGreatDoor

namespace Go.Proofs.YtflienghgobmoaaGreatDoor
open Go.RowKit Rec

def znB (m : Nat) : List Int := List.replicate m 0
theorem znB_length (m : Nat) : (znB m).length = m := by simp [znB]
theorem znB_cells (m : Nat) : Builtin.zeroCells (Value.int .u8 0).cells m = ((znB m).map (Value.int .u8)).toArray := by
  apply Array.ext'
  apply List.ext_getElem
  · simp [Builtin.zeroCells, znB, Value.cells]
  · intro i h1 h2
    simp [Builtin.zeroCells, znB, Value.cells, Nat.mod_one]
theorem run_zerosB_nil {w : World} {m : Nat} (ty : TypeId) (h0 : 0 < m) (h47 : m ≤ 140737488355328) :
    (Builtin.append_ #[22, 3] ty #[.slice none 0 0, .int .i64 m]).run Tryz.prog w =
      .ok (.slice (some ⟨w.heap.size, 0, none⟩) m (grownCap w m 0 5)) (w.drew.alloc (.cells (((znB m).map (Value.int .u8)).toArray ++ Builtin.zeroCells (Value.int .u8 0).cells (grownCap w m 0 5 - m)) 5)) := by
  obtain ⟨i0, hi, hz0, hz1, hz2⟩ := info_parts info5
  have hw : IntKind.i64.wrap (m : Int) = (m : Int) := by rw [IntKind.wrap_i64]; omega
  have c1 : ¬ ((m : Int) < 0) := by omega
  have c2 : ¬ ((281474976710656 : Int) < m) := by omega
  have c3 : ¬ m = 0 := by omega
  have h63' : ¬ (9223372036854775807 < (m : Int)) := by omega
  have h48 := growslice_fits (need := m) (old := 0) (bytes := 1) (by omega) (by omega)
  have h48' : ¬ (281474976710656 < Builtin.nextslicecap m 0) := by omega
  simp [Builtin.append_, run_underlying Tryz.underlying22, run_underlying Tryz.underlying3, sizeOf, typeInfo, zeroValue, hi, hz0, hz1, hz2, asInt, asIntOf, hw, Builtin.lenOf, znB_cells, c1, c2, c3, h63', h48', Question.forced, run_firstCells_none, newRow, grownCap]
/-- 'append(nil, make([]byte, m)...)' -/
theorem wp_zerosB_nil {ops : Array Oper} {rest : List Oper} {o : Oper} {a : Act} {Q : Exit → Act → World → Prop} {w : World} (hgd : o.guard = none) (s x : Operand)
    (ho : o.op = .call { callee := .builtin .append, args := #[s, x], argTypes := #[22, 3] }) (m : Nat) (hs : a.eval s = .slice none 0 0) (hx : a.eval x = .int .i64 m) (h0 : 0 < m) (h47 : m ≤ 140737488355328)
    (h : ∀ cap w', OwnB w' w.heap.size cap [] → Below w.heap.size w w' → wpList Tryz.prog ops Q rest (a.put o.dst (.slice (some ⟨w.heap.size, 0, none⟩) m cap)) w') :
    wpList Tryz.prog ops Q (o :: rest) a w := by
  have hrun := run_zerosB_nil (w := w) (m := m) o.type h0 h47
  refine wpList_plain hgd fun K hK => ?_
  unfold Oper.wp execOp
  simp only [ho, resolve, invoke, builtin, Sem.run_bind, Sem.run_pure, Result.andThen_ok, List.map_toArray, List.map_cons, List.map_nil, hs, hx, hrun]
  have hge := grownCap_ge w m 0 5
  refine hK _ _ (h _ _ ⟨⟨_, heap_alloc_new w.drew _, ?_, rfl⟩, by simp, by simp, grownCap_le_maxLen w _ _ _ (by unfold maxLen; omega), by intro i; simp [nth]⟩ (((Below.refl _ _).drew).alloc (Nat.le_refl _) _))
  have e1 : (Value.int .u8 0).cells.size = 1 := rfl
  simp only [Array.size_append, List.size_toArray, List.length_map, znB_length, size_zeroCells, e1]; omega
set_option maxRecDepth 100000 in
set_option maxHeartbeats 1600000 in
theorem growB_any (w : World) (n : Nat) (h0 : 0 < n) (h47 : n ≤ 140737488355328) :
    Calls Tryz.prog 166 #[.slice none 0 0, .int .i64 n] w fun e w' => ∃ g cap, e = .returned (.slice (some ⟨g, 0, none⟩) 0 cap) ∧ OwnB w' g cap [] ∧ w.heap.size ≤ g ∧ Below w.heap.size w w' := by
  go_enter Tryz.func166, Tryz.ntmps166
  go_wp2_with (at_builtin; refine wp_zerosB_nil rfl (.tmp 20) (.tmp 21) rfl n rfl rfl h0 (by omega) ?_; intro cap w1 ho hb; have H1 : Hid (OwnB w1 w.heap.size cap [] ∧ Below w.heap.size w w1) := ⟨ho, hb⟩; clear ho hb)
  go_ret
  exact ⟨_, _, rfl, H1.out.1, Nat.le_refl _, H1.out.2⟩
set_option maxRecDepth 100000 in
set_option maxHeartbeats 4000000 in
/-- slices.Concat(x, y) -/
theorem concat_two (w : World) (r c2 n c p1 : Nat) (a : Option Addr) (l : List Int) (hb : Bytes w a l) (hn : l.length = n) (hz : a = none → c = 0) (hb1 : Bytes w (some ⟨p1, 0, none⟩) [255]) (h47 : n ≤ 140737488355000)
    (hr0 : w.cell? ⟨r, 0, none⟩ = some (.slice a n c)) (hr1 : w.cell? ⟨r, 1, none⟩ = some (.slice (some ⟨p1, 0, none⟩) 1 1)) :
    Calls Tryz.prog 146 #[.slice (some ⟨r, 0, none⟩) 2 c2] w fun e w' => ∃ g cap, e = .returned (.slice (some ⟨g, 0, none⟩) (n + 1) cap) ∧ OwnB w' g cap (l ++ [255]) ∧ w.heap.size ≤ g ∧ Below w.heap.size w w' := by
  have HB : Hid (Bytes w a l ∧ l.length = n ∧ (a = none → c = 0) ∧ Bytes w (some ⟨p1, 0, none⟩) [255]) := ⟨hb, hn, hz, hb1⟩
  have HR : Hid (w.cell? ⟨r, 0, none⟩ = some (.slice a n c) ∧ w.cell? ⟨r, 1, none⟩ = some (.slice (some ⟨p1, 0, none⟩) 1 1)) := ⟨hr0, hr1⟩
  have hrl : r < w.heap.size := block_lt_of_cell hr0
  clear hb hn hz hb1
  go_enter Tryz.func146, Tryz.ntmps146
  go_wp2
  go_loop [3, 11] (fun s3 s11 => (s3 = .int .i64 0 ∧ s11 = .int .i64 0) ∨ (s3 = .int .i64 (n : Int) ∧ s11 = .int .i64 1) ∨ (s3 = .int .i64 ((n + 1 : Nat) : Int) ∧ s11 = .int .i64 2)) (fun _ s => 2 - (intOf s).toNat)
  case atStart => exact .inl ⟨rfl, rfl⟩
  case round =>
    rcases hrel with ⟨rfl, rfl⟩ | ⟨rfl, rfl⟩ | ⟨rfl, rfl⟩
    · go_wp2
      go_round
      case rel => exact .inr (.inl ⟨by go_num, rfl⟩)
      case measure => simp [intOf]
    · go_wp2
      go_round
      case rel => exact .inr (.inr ⟨by go_num, rfl⟩)
      case measure => simp [intOf]
    · go_wp2_with (go_at_call 166; refine (growB_any _ (n + 1) (by omega) (by omega)).mono ?_; rintro e w1 ⟨g1, cap1, rfl, ho, hg, hb⟩; have H1 : Hid (OwnB w1 g1 cap1 [] ∧ w.heap.size ≤ g1 ∧ Below w.heap.size w w1) := ⟨ho, hg, hb⟩; clear ho hg hb)
      clear hr0 hr1
      go_loopw [6, 27] (fun s6 s27 wr => ∃ (i g2 cap2 : Nat) (x : List Int), ((i = 0 ∧ x = []) ∨ (i = 1 ∧ x = l) ∨ (i = 2 ∧ x = l ++ [255])) ∧ s27 = .int .i64 i ∧ s6 = .slice (some ⟨g2, 0, none⟩) x.length cap2 ∧ OwnB wr g2 cap2 x ∧ w.heap.size ≤ g2 ∧ Below w.heap.size w wr) (fun _ s _ => 2 - (intOf s).toNat)
      case atStart => exact ⟨0, g1, cap1, [], .inl ⟨rfl, rfl⟩, rfl, rfl, H1.out⟩
      case round =>
        obtain ⟨i, g2, cap2, x, hx, rfl, rfl, ho, hg, hb⟩ := hrel
        have hr0 : wr.cell? ⟨r, 0, none⟩ = some (.slice a n c) := (hb.cell (p := ⟨r, 0, none⟩) hrl).trans HR.out.1
        have hr1 : wr.cell? ⟨r, 1, none⟩ = some (.slice (some ⟨p1, 0, none⟩) 1 1) := (hb.cell (p := ⟨r, 1, none⟩) hrl).trans HR.out.2
        have H2 : Hid (OwnB wr g2 cap2 x ∧ w.heap.size ≤ g2 ∧ Below w.heap.size w wr) := ⟨ho, hg, hb⟩
        clear ho hg hb
        rcases hx with ⟨rfl, rfl⟩ | ⟨rfl, hx⟩ | ⟨rfl, rfl⟩
        · go_wp2_with (at_builtin; refine wp_app rfl (.tmp 31) (.tmp 32) rfl w.heap.size g2 0 cap2 [] l rfl rfl H2.out.1 H2.out.2.1 H2.out.2.2.size a n c rfl HB.out.2.1 (HB.out.1.on H2.out.2.2) HB.out.2.2.1 (by omega) ?_; intro g3 cap3 w3 hg ho hb; have H3 : Hid (OwnB w3 g3 cap3 l ∧ w.heap.size ≤ g3 ∧ Below w.heap.size w w3) := ⟨ho, hg, H2.out.2.2.trans (below_of hb H2.out.2.1 H2.out.2.2.size)⟩; clear ho hg hb)
          go_round
          case rel => exact ⟨1, g3, cap3, l, .inr (.inl ⟨rfl, rfl⟩), rfl, by rw [HB.out.2.1], H3.out⟩
          case measure => simp [intOf]
        · subst hx
          obtain ⟨k, hk⟩ : ∃ k, x.length = k := ⟨_, rfl⟩
          have hkn : k = n := by rw [← hk]; exact HB.out.2.1
          rw [hk]
          go_wp2_with (at_builtin; refine wp_app rfl (.tmp 31) (.tmp 32) rfl w.heap.size g2 k cap2 x [255] hk rfl H2.out.1 H2.out.2.1 H2.out.2.2.size (some ⟨p1, 0, none⟩) 1 1 rfl rfl (HB.out.2.2.2.on H2.out.2.2) (fun e => by cases e) (by omega) ?_; intro g3 cap3 w3 hg ho hb; have H3 : Hid (OwnB w3 g3 cap3 (x ++ [255]) ∧ w.heap.size ≤ g3 ∧ Below w.heap.size w w3) := ⟨ho, hg, H2.out.2.2.trans (below_of hb H2.out.2.1 H2.out.2.2.size)⟩; clear ho hg hb)
          go_round
          case rel => exact ⟨2, g3, cap3, _, .inr (.inr ⟨rfl, rfl⟩), rfl, by rw [List.length_append, hk, hkn]; rfl, H3.out⟩
          case measure => simp [intOf]
        · obtain ⟨k, hk⟩ : ∃ k, (l ++ [(255 : Int)]).length = k := ⟨_, rfl⟩
          have hkn : k = n + 1 := by rw [← hk, List.length_append, HB.out.2.1]; rfl
          rw [hk]
          go_wp2
          go_ret
          subst hkn
          exact ⟨g2, cap2, rfl, H2.out⟩
/-- what Runs hands out: a closure over a box; the box holds the bytes and one more -/
structure SeqAt (w : World) (B g cap : Nat) (l : List Int) : Prop where
  box : w.cell? ⟨B, 0, none⟩ = some (.slice (some ⟨g, 0, none⟩) (l.length + 1) cap)
  row : Bytes w (some ⟨g, 0, none⟩) (l ++ [255])
theorem SeqAt.ltB {w : World} {B g cap : Nat} {l : List Int} (h : SeqAt w B g cap l) : B < w.heap.size := block_lt_of_cell h.box
theorem SeqAt.ltg {w : World} {B g cap : Nat} {l : List Int} (h : SeqAt w B g cap l) : g < w.heap.size := block_lt_of_cell (h.row.cell (i := 0) (by simp))
set_option maxRecDepth 100000 in
set_option maxHeartbeats 4000000 in
theorem runs_any (w : World) (n c : Nat) (a : Option Addr) (l : List Int) (hb : Bytes w a l) (hn : l.length = n) (hz : a = none → c = 0) (h47 : n ≤ 140737488355000) :
    Calls Tryz.prog 113 #[.slice a n c] w fun e w' => ∃ B g cap, e = .returned (.func (.func 147) #[] #[.pointer (some ⟨B, 0, none⟩)]) ∧ SeqAt w' B g cap l ∧ w.heap.size ≤ B ∧ w.heap.size ≤ g ∧ Below w.heap.size w w' := by
  have HB : Hid (Bytes w a l ∧ l.length = n ∧ (a = none → c = 0)) := ⟨hb, hn, hz⟩
  clear hb hn hz
  have HC : Hid (Calls Tryz.prog 146 #[.slice (some ⟨w.heap.size + 1, 0, none⟩) 2 2] ((w.alloc (.cells #[.int .u8 255] 5)).alloc (.cells #[.slice a n c, .slice (some ⟨w.heap.size, 0, none⟩) 1 1] 22)) fun e w' => ∃ g cap, e = .returned (.slice (some ⟨g, 0, none⟩) (n + 1) cap) ∧ OwnB w' g cap (l ++ [255]) ∧ w.heap.size ≤ g ∧ Below w.heap.size w w') := by
    have b1 : Below w.heap.size w (w.alloc (.cells #[.int .u8 255] 5)) := (Below.refl _ _).alloc (Nat.le_refl _) _
    have b2 : Below w.heap.size w ((w.alloc (.cells #[.int .u8 255] 5)).alloc (.cells #[.slice a n c, .slice (some ⟨w.heap.size, 0, none⟩) 1 1] 22)) := b1.alloc (by simp) _
    have hs : (w.alloc (.cells #[.int .u8 255] 5)).heap.size = w.heap.size + 1 := by simp
    have hx : (w.alloc (.cells #[.int .u8 255] 5)).heap[w.heap.size]? = some (.cells #[.int .u8 255] 5) := heap_alloc_new _ _
    have hx2 : ((w.alloc (.cells #[.int .u8 255] 5)).alloc (.cells #[.slice a n c, .slice (some ⟨w.heap.size, 0, none⟩) 1 1] 22)).heap[w.heap.size + 1]? = some (.cells #[.slice a n c, .slice (some ⟨w.heap.size, 0, none⟩) 1 1] 22) := by rw [← hs]; exact heap_alloc_new _ _
    have hx3 : ((w.alloc (.cells #[.int .u8 255] 5)).alloc (.cells #[.slice a n c, .slice (some ⟨w.heap.size, 0, none⟩) 1 1] 22)).heap[w.heap.size]? = some (.cells #[.int .u8 255] 5) := (Below.heap_alloc _ _ _ (by simp)).trans hx
    refine (concat_two _ (w.heap.size + 1) 2 n c w.heap.size a l (HB.out.1.on b2) HB.out.2.1 HB.out.2.2 ⟨by simp, wf_list (by decide), .inr ⟨_, 0, rfl, fun i hi => ?_⟩⟩ h47 ?_ ?_).mono ?_
    · obtain rfl : i = 0 := by simpa using hi
      rw [cell_of_row _ _ _ _ _ _ hx3]; rfl
    · rw [cell_of_row _ _ _ _ _ _ hx2]; rfl
    · rw [cell_of_row _ _ _ _ _ _ hx2]; rfl
    · rintro e w' ⟨g, cap, rfl, ho, hg, hb⟩
      exact ⟨g, cap, rfl, ho, by simp at hg; omega, b2.trans (hb.mono (by simp; omega))⟩
  go_enter Tryz.func113, Tryz.ntmps113
  go_wp2_with (go_at_call 146; refine HC.out.mono ?_; rintro e w2 ⟨g, cap, rfl, ho, hg, hb⟩; have H1 : Hid (OwnB w2 g cap (l ++ [255]) ∧ Below w.heap.size w w2) := ⟨ho, hb⟩; clear ho hb)
  go_ret
  have hnew : (w2.alloc (.cells #[.slice (some ⟨g, 0, none⟩) (n + 1) cap] 22)).heap[w2.heap.size]? = some (.cells #[.slice (some ⟨g, 0, none⟩) (n + 1) cap] 22) := heap_alloc_new _ _
  refine ⟨w2.heap.size, g, cap, rfl, ⟨?_, (H1.out.1.on ((Below.refl _ _).alloc (Nat.le_refl _) _)).bytes⟩, H1.out.2.size, hg, H1.out.2.alloc H1.out.2.size _⟩
  rw [cell_of_row _ _ _ _ _ _ hnew, HB.out.2.1]; rfl
end Go.Proofs.YtflienghgobmoaaGreatDoor
