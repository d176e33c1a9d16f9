import Derived.Test.YtaaeahpmnfifiaaDoorKMathR
import Derived.Test.YtaaeahpmnfifiaaDoorPaM
import Derived.Laws.BytesArg
namespace Sc
open Rec
/-- a cell that is taken -/
structure Ent where
  nm : ByteArray
  ino : Int
/-- may it be? -/
def good (e : Ent) : Prop := Pa.name e.nm.data.toList = true ∧ 1 ≤ e.ino ∧ e.ino ≤ 4294967295
/-- a cell's bytes -/
def cb (e : Ent) (i : Nat) : Int := if i < 4 then dig e.ino i else if i = 4 then (e.nm.size : Int) else nth (sb e.nm) (i - 5)
def cbo : Option Ent → Nat → Int
  | none, _ => 0
  | some e, i => cb e i
/-- up to the last that isn't zero -/
def tl (f : Nat → Int) : Nat → Nat
  | 0 => 0
  | n + 1 => if f n ≠ 0 then n + 1 else tl f n
theorem tl_le (f : Nat → Int) (n : Nat) : tl f n ≤ n := by
  induction n with
  | zero => exact Nat.le_refl _
  | succ n ih => rw [tl]; split <;> omega
theorem tl_zero (f : Nat → Int) (n i : Nat) (h : tl f n ≤ i) (hi : i < n) : f i = 0 := by
  induction n with
  | zero => omega
  | succ n ih =>
    rw [tl] at h
    split at h
    · omega
    · rename_i h0
      by_cases e : i = n
      · subst e; exact Decidable.byContradiction h0
      · exact ih h (by omega)
theorem tl_eq (f : Nat → Int) (n m : Nat) (hm : m ≤ n) (h0 : ∀ i, m ≤ i → i < n → f i = 0) (h1 : ∀ k, m = k + 1 → f k ≠ 0) : tl f n = m := by
  induction n with
  | zero => have : m = 0 := by omega
            subst this; rfl
  | succ n ih =>
    rw [tl]
    by_cases e : m = n + 1
    · rw [if_pos (h1 n e)]; exact e.symm
    · rw [if_neg (by simp; exact h0 n (by omega) (by omega))]; exact ih (by omega) (fun i a b => h0 i a (by omega))
theorem tl_congr (f g : Nat → Int) (n : Nat) (h : ∀ i, i < n → f i = g i) : tl f n = tl g n := by
  induction n with
  | zero => rfl
  | succ n ih => rw [tl, tl, h n (by omega), ih (fun i hi => h i (by omega))]
/-- n bytes from A on -/
def pc (l : List Int) (A N : Nat) : List Int := (l.drop A).take N
theorem pc_nth (l : List Int) (A N i : Nat) (h : i < N) : nth (pc l A N) i = nth l (A + i) := by simp [pc, nth, List.getD, h]
def tlc (L : List Int) (k : Nat) : Nat := tl (fun i => nth L (32 * k + 5 + i)) 27
/-- a cell's name, inode -/
def nmc (L : List Int) (k : Nat) : ByteArray := Go.strOfNums (pc L (32 * k + 5) (tlc L k))
def inc (L : List Int) (k : Nat) : Int := num L (32 * k) 4
/-- is a cell as it must be? -/
def rt (L : List Int) (k : Nat) : Bool := if inc L k = 0 then zr L (32 * k) 32 else decide ((tlc L k : Int) = nth L (32 * k + 4)) && Pa.name (nmc L k).data.toList
def dec (L : List Int) (k : Nat) : Option Ent := if inc L k = 0 then none else some ⟨nmc L k, inc L k⟩
theorem sb_str (xs : List Int) (h : ∀ i, 0 ≤ nth xs i ∧ nth xs i < 256) : sb (Go.strOfNums xs) = xs := by
  rw [sb, Go.strOfNums_data, List.map_map]
  apply List.ext_getElem (by simp)
  intro i h1 h2
  have := h i
  simp [nth, List.getD, h2] at this
  simp
  omega
theorem str_sb (s : ByteArray) : Go.strOfNums (sb s) = s := by
  cases s with | mk a =>
  have : (a.toList.map ((fun n : Int => UInt8.ofNat n.toNat) ∘ fun c : UInt8 => (c.toNat : Int))) = a.toList := by
    conv => rhs; rw [← List.map_id a.toList]
    exact List.map_congr_left fun c _ => by simp
  simp only [Go.strOfNums, sb, List.map_map]
  rw [this]
theorem name_ne {e : ByteArray} (h : Pa.name e.data.toList = true) : 1 ≤ e.size ∧ e.size ≤ 27 ∧ ∀ i, i < e.size → nth (sb e) i ≠ 0 := by
  simp only [Pa.name, Bool.and_eq_true, Bool.not_eq_true'] at h
  obtain ⟨⟨h1, h2⟩, _⟩ := h
  obtain ⟨p1, _, _, p4⟩ := (Pa.noPart_iff _).1 h1
  have hs : e.size = e.data.toList.length := (Array.length_toList).symm
  have h2 := of_decide_eq_false h2
  refine ⟨?_, by omega, fun i hi h0 => p4 ?_⟩
  · rw [hs]; exact Nat.pos_of_ne_zero fun c => p1 (List.length_eq_zero_iff.1 c)
  · rw [hs] at hi
    have h0' : nth (sb e) i = ((e.data.toList[i]'hi).toNat : Int) := by
      unfold nth sb
      rw [List.getD_eq_getElem?_getD, List.getElem?_map, List.getElem?_eq_getElem hi]; rfl
    rw [h0'] at h0
    have : e.data.toList[i]'hi = 0 := by
      apply UInt8.toNat.inj
      show (e.data.toList[i]'hi).toNat = 0
      omega
    rw [← this]; exact List.getElem_mem _
theorem cb_bd {e : Ent} (h : good e) (i : Nat) : 0 ≤ cb e i ∧ cb e i < 256 := by
  unfold cb
  split
  · exact dig_bd _ _
  · split
    · have := name_ne h.1; omega
    · exact sb_bd _ _
theorem num_dig (l : List Int) (A : Nat) (v : Int) (n : Nat) (h : ∀ i, i < n → nth l (A + i) = dig v i) (h0 : 0 ≤ v) (h1 : v < 256 ^ n) : num l A n = v := by
  have e : ∀ m, m ≤ n → num l A m = num (ov (List.replicate (A + n) 0) A n (dig v)) A m := by
    intro m hm
    induction m with
    | zero => rfl
    | succ m ih =>
      rw [num, num, ih (by omega), h m (by omega), nth_ov _ _ _ _ _ (by simp; omega), if_pos (by omega), Nat.add_sub_cancel_left]
  rw [e n (Nat.le_refl _), num_ov _ _ _ _ _ (by simp) (Nat.le_refl _), Int.emod_eq_of_lt h0 h1]
theorem dig_num (l : List Int) (A n i : Nat) (hl : ∀ i, 0 ≤ nth l i ∧ nth l i < 256) (hi : i < n) : nth l (A + i) = dig (num l A n) i := by
  unfold dig
  induction n with
  | zero => omega
  | succ n ih =>
    have b := num_bd l A n hl
    have c := hl (A + n)
    have p := pow_pos n
    rw [num]
    by_cases e : i = n
    · subst e
      rw [Int.add_mul_ediv_right _ _ (Int.ne_of_gt p), Int.ediv_eq_zero_of_lt b.1 b.2]
      omega
    · have ih := ih (by omega)
      have hp : (256 : Int) ^ n = 256 ^ (n - i - 1) * 256 * 256 ^ i := by
        rw [← Int.pow_succ, ← Int.pow_add]; congr 1; omega
      rw [hp, ← Int.mul_assoc, Int.add_mul_ediv_right _ _ (Int.ne_of_gt (pow_pos i)), ← Int.mul_assoc, Int.add_mul_emod_self_right]
      exact ih
/-- a block's cells -/
structure Bk (L : List Int) (f : Nat → Option Ent) : Prop where
  len : L.length = 512
  ok : ∀ k, k < 16 → ∀ e, f k = some e → good e
  at_ : ∀ k, k < 16 → ∀ i, i < 32 → nth L (32 * k + i) = cbo (f k) i
theorem cell_dec {L : List Int} {k : Nat} {o : Option Ent} (ho : ∀ e, o = some e → good e) (h : ∀ i, i < 32 → nth L (32 * k + i) = cbo o i) : rt L k = true ∧ dec L k = o := by
  cases o with
  | none =>
    have e : inc L k = 0 := by
      unfold inc
      exact num_dig L (32 * k) 0 4 (fun i hi => by rw [h i (by omega)]; simp [cbo, dig]) (by omega) (by decide)
    exact ⟨by rw [rt, if_pos e, zr]; exact decide_eq_true (fun i hi => h i hi), by rw [dec, if_pos e]⟩
  | some e =>
    have hg := ho e rfl
    obtain ⟨n1, n2, n3⟩ := name_ne hg.1
    have e1 : inc L k = e.ino := by
      unfold inc
      refine num_dig L (32 * k) e.ino 4 (fun i hi => ?_) (by have := hg.2.1; omega) (by have := hg.2.2; simp only [Int.reducePow]; omega)
      rw [h i (by omega), cbo, cb, if_pos hi]
    have e2 : ∀ i, i < 27 → nth L (32 * k + 5 + i) = nth (sb e.nm) i := fun i hi => by
      have := h (5 + i) (by omega)
      rw [← Nat.add_assoc] at this
      rw [this, cbo, cb, if_neg (by omega), if_neg (by omega), Nat.add_sub_cancel_left]
    have e3 : tlc L k = e.nm.size := by
      unfold tlc
      rw [tl_congr _ (nth (sb e.nm)) 27 e2]
      exact tl_eq _ _ _ n2 (fun i hi _ => nth_out _ _ (by rw [sb_length]; exact hi)) (fun j hj => n3 j (by omega))
    have e4 : nmc L k = e.nm := by
      rw [nmc, e3]
      have : pc L (32 * k + 5) e.nm.size = sb e.nm := by
        have hlen : (pc L (32 * k + 5) e.nm.size).length = e.nm.size := by
          rw [pc, List.length_take, List.length_drop]
          have : 32 * k + 5 + (e.nm.size - 1) < L.length := Decidable.byContradiction fun c => by
            have a1 := e2 (e.nm.size - 1) (by omega)
            rw [nth_out _ _ (by omega)] at a1
            exact n3 (e.nm.size - 1) (by omega) a1.symm
          omega
        refine ext_nth (by rw [hlen, sb_length]) fun i hi => ?_
        rw [hlen] at hi
        rw [pc_nth _ _ _ _ hi, e2 i (by omega)]
      rw [this, str_sb]
    have e5 : nth L (32 * k + 4) = e.nm.size := by
      rw [h 4 (by omega), cbo, cb, if_neg (by omega), if_pos rfl]
    have hne : ¬ inc L k = 0 := by rw [e1]; have := hg.2.1; omega
    refine ⟨?_, ?_⟩
    · rw [rt, if_neg hne, e3, e4, e5, hg.1]; simp
    · rw [dec, if_neg hne, e4, e1]
theorem dec_cell {L : List Int} {k : Nat} (hw : ∀ i, 0 ≤ nth L i ∧ nth L i < 256) (h : rt L k = true) :
    (∀ e, dec L k = some e → good e) ∧ ∀ i, i < 32 → nth L (32 * k + i) = cbo (dec L k) i := by
  unfold rt at h
  by_cases e : inc L k = 0
  · rw [if_pos e, zr] at h
    have h := of_decide_eq_true h
    have ed : dec L k = none := by rw [dec, if_pos e]
    rw [ed]
    exact ⟨fun _ c => (by cases c), fun i hi => h i hi⟩
  · rw [if_neg e, Bool.and_eq_true] at h
    obtain ⟨h1, h2⟩ := h
    have h1 := of_decide_eq_true h1
    have ed : dec L k = some ⟨nmc L k, inc L k⟩ := by rw [dec, if_neg e]
    rw [ed]
    have nb := num_bd L (32 * k) 4 hw
    have hwp : ∀ i, 0 ≤ nth (pc L (32 * k + 5) (tlc L k)) i ∧ nth (pc L (32 * k + 5) (tlc L k)) i < 256 := fun i => by
      by_cases hi : i < tlc L k
      · rw [pc_nth _ _ _ _ hi]; exact hw _
      · rw [nth_out _ _ (by rw [pc, List.length_take]; omega)]; omega
    have hsz : (nmc L k).size = (pc L (32 * k + 5) (tlc L k)).length := Go.strOfNums_size _
    have n := name_ne h2
    have ht : (tlc L k : Nat) ≤ 27 := tl_le _ _
    have hss : (nmc L k).size = tlc L k := by
      rw [hsz, pc, List.length_take, List.length_drop]
      by_cases c : tlc L k ≤ L.length - (32 * k + 5)
      · omega
      · exfalso
        have ht0 : 0 < tlc L k := by omega
        have e0 : tlc L k = 0 ∨ nth L (32 * k + 5 + (tlc L k - 1)) ≠ 0 := by
          have key : ∀ n, 0 < tl (fun i => nth L (32 * k + 5 + i)) n → nth L (32 * k + 5 + (tl (fun i => nth L (32 * k + 5 + i)) n - 1)) ≠ 0 := by
            intro n
            induction n with
            | zero => intro h; simp [tl] at h
            | succ n ih =>
              rw [tl]
              by_cases z : nth L (32 * k + 5 + n) = 0
              · rw [if_neg (by simp [z])]; exact ih
              · rw [if_pos z]; intro _; exact z
          exact .inr (key 27 ht0)
        rcases e0 with e0 | e0
        · omega
        · exact e0 (nth_out _ _ (by omega))
    refine ⟨fun e' he => ?_, fun i hi => ?_⟩
    · cases he
      refine ⟨h2, ?_, ?_⟩
      · show 1 ≤ num L (32 * k) 4; have : num L (32 * k) 4 ≠ 0 := e; omega
      · show num L (32 * k) 4 ≤ _; have := nb.2; simp only [Int.reducePow] at this; omega
    · show _ = cb ⟨nmc L k, inc L k⟩ i
      unfold cb
      by_cases c1 : i < 4
      · rw [if_pos c1]; exact dig_num L (32 * k) 4 i hw c1
      · rw [if_neg c1]
        by_cases c2 : i = 4
        · subst c2; rw [if_pos rfl]; show _ = ((nmc L k).size : Int); rw [hss, h1]
        · rw [if_neg c2]
          show _ = nth (sb (nmc L k)) (i - 5)
          rw [nmc, sb_str _ hwp]
          have ei : 32 * k + i = 32 * k + 5 + (i - 5) := by omega
          by_cases c3 : i - 5 < tlc L k
          · rw [pc_nth _ _ _ _ c3, ei]
          · rw [nth_out (pc _ _ _) _ (by rw [pc, List.length_take]; omega), ei]
            exact tl_zero (fun i => nth L (32 * k + 5 + i)) 27 (i - 5) (by unfold tlc at c3; omega) (by omega)
theorem Bk.rt {L : List Int} {f : Nat → Option Ent} (h : Bk L f) {k : Nat} (hk : k < 16) : rt L k = true ∧ dec L k = f k := cell_dec (h.ok k hk) (h.at_ k hk)
theorem Bk.of {L : List Int} (hl : L.length = 512) (hw : ∀ i, 0 ≤ nth L i ∧ nth L i < 256) (h : ∀ k, k < 16 → Sc.rt L k = true) : Bk L (dec L) :=
  ⟨hl, fun k hk => (dec_cell hw (h k hk)).1, fun k hk => (dec_cell hw (h k hk)).2⟩
theorem Bk.inj {L M : List Int} {f g : Nat → Option Ent} (h : Bk L f) (h' : Bk M g) (e : ∀ k, k < 16 → f k = g k) : L = M := by
  refine ext_nth (by rw [h.len, h'.len]) fun i hi => ?_
  rw [h.len] at hi
  have : i = 32 * (i / 32) + i % 32 := by omega
  rw [this, h.at_ (i / 32) (by omega) _ (by omega), h'.at_ (i / 32) (by omega) _ (by omega), e _ (by omega)]
def upd (f : Nat → Option Ent) (p : Nat) (o : Option Ent) (k : Nat) : Option Ent := if k = p then o else f k
theorem Bk.set {L : List Int} {f : Nat → Option Ent} (h : Bk L f) {p : Nat} (hp : p < 16) {o : Option Ent} (ho : ∀ e, o = some e → good e) : Bk (ov L (32 * p) 32 (cbo o)) (upd f p o) := by
  refine ⟨by rw [ov_length]; exact h.len, fun k hk e he => ?_, fun k hk i hi => ?_⟩
  · unfold upd at he
    split at he
    · exact ho e he
    · exact h.ok k hk e he
  · rw [nth_ov _ _ _ _ _ (by rw [h.len]; omega)]
    unfold upd
    by_cases c : k = p
    · subst c; rw [if_pos (by omega), if_pos rfl, Nat.add_sub_cancel_left]
    · rw [if_neg (by omega), if_neg c]; exact h.at_ k hk i hi
theorem Bk.zero : Bk (List.replicate 512 0) (fun _ => none) :=
  ⟨List.length_replicate, fun _ _ _ e => (by cases e), fun k hk i hi => by
    show (List.replicate 512 (0 : Int)).getD _ 0 = 0
    rw [List.getD_eq_getElem?_getD, List.getElem?_replicate, if_pos (by omega)]; rfl⟩
theorem cb_put (L : List Int) (p : Nat) {e : Ent} (h : good e) : ov (ov (ov L (32 * p) 4 (dig e.ino)) (32 * p + 4) 1 (dig (e.nm.size : Int))) (32 * p + 5) 27 (nth (sb e.nm)) = ov L (32 * p) 32 (cb e) := by
  have n := name_ne h.1
  rw [ov_ov L (32 * p) 4 1 _ _ (cb e) (fun i hi => by rw [cb, if_pos hi]) (fun i hi => by
    obtain rfl : i = 0 := by omega
    show dig _ 0 = cb e 4
    rw [cb, if_neg (by omega), if_pos rfl, dig]; simp; omega)]
  exact ov_ov L (32 * p) 5 27 _ _ (cb e) (fun i _ => rfl) (fun i hi => by rw [cb, if_neg (by omega), if_neg (by omega), Nat.add_sub_cancel_left])
end Sc
