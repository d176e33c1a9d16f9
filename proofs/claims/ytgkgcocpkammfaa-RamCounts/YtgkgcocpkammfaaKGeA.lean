import Derived.Test.YtgkgcocpkammfaaKOp9
import Derived.Test.YtgkgcocpkammfaaGeM
import Derived.Laws.ResultCell
import Derived.Lib.SlicesCompact
namespace Go.Proofs.Ytgkgcocpkammfaa
open Go.RowKit Rec

set_option maxRecDepth 100000 in
theorem isLength_any (w : World) (n : Int) : Calls Try.prog 18 #[.int .i64 n] w fun e w' => e = .returned (.bool (isLen n)) ∧ w = w' := by
  go_enter Try.func18, Try.ntmps18
  by_cases h1 : 128 ≤ n
  · by_cases h2 : n ≤ 16384
    · go_wp2
      go_ret
      exact ⟨by rw [isLen_yes ⟨h1, h2⟩]; rfl, rfl⟩
    · go_wp2
      go_ret
      exact ⟨by rw [show isLen n = false from decide_eq_false (by omega)]; rfl, rfl⟩
  · go_wp2
    go_ret
    exact ⟨by rw [show isLen n = false from decide_eq_false (by omega)]; rfl, rfl⟩
set_option maxRecDepth 100000 in
theorem bitmapLen_ok (w : World) (n : Int) (h : 0 ≤ n ∧ n ≤ 16384) : Calls Try.prog 20 #[.int .i64 n] w fun e w' => e = .returned (.int .i64 ((n + 4095) / 4096)) ∧ w = w' := by
  go_enter Try.func20, Try.ntmps20
  go_wp2
  go_ret
  refine ⟨?_, rfl⟩
  show Ending.returned (.int .i64 ((n + 4096 - 1) / 4096)) = _
  rw [show n + 4096 - 1 = n + 4095 by omega]
set_option maxRecDepth 100000 in
theorem tableLen_ok (w : World) (n : Int) (h : 0 ≤ n ∧ n ≤ 16384) : Calls Try.prog 21 #[.int .i64 n] w fun e w' => e = .returned (.int .i64 (n / 64)) ∧ w = w' := by
  go_enter Try.func21, Try.ntmps21
  go_wp2
  go_ret
  exact ⟨rfl, rfl⟩
set_option maxRecDepth 100000 in
theorem lay_ok (w : World) (p : Nat) (x k : Int) (hc : w.cell? ⟨p, 0, none⟩ = some (.int .i64 x)) (hf : w.frozen? ⟨p, 0, none⟩ = false) (hx : 0 ≤ x ∧ x ≤ 1000000) (hk : 0 ≤ k ∧ k ≤ 1000000) :
    Calls Try.prog 19 #[.pointer (some ⟨p, 0, none⟩), .int .i64 k] w fun e w' => e = .returned (.int .i64 x) ∧ w' = w.setCell ⟨p, 0, none⟩ (.int .i64 (x + k)) := by
  go_enter Try.func19, Try.ntmps19
  go_wp2
  go_ret
  exact ⟨rfl, rfl⟩
set_option maxRecDepth 100000 in
theorem lay_at (w1 : World) (p : Nat) (x k : Int) (c1 c2 c3 c4 c5 : Value) (hx : 0 ≤ x ∧ x ≤ 1000000) (hk : 0 ≤ k ∧ k ≤ 1000000) (hp : p = w1.heap.size) :
    Calls Try.prog 19 #[.pointer (some ⟨p, 0, none⟩), .int .i64 k] (w1.alloc (.cells #[.int .i64 x, c1, c2, c3, c4, c5] 55)) fun e w' => e = .returned (.int .i64 x) ∧ w' = w1.alloc (.cells #[.int .i64 (x + k), c1, c2, c3, c4, c5] 55) := by
  subst hp
  go_enter Try.func19, Try.ntmps19
  go_wp2
  go_ret
  exact ⟨rfl, rfl⟩
theorem results_row_tmp7 {fn : Func} {p u : Tmp} {ty : TypeId} (h : fn.results = #[.cell p ty, .tmp u]) (tmps : Array Value) (w : World) (g : Nat) (cs : Array Value)
    (hp : tmps.getD p undef = .pointer (some ⟨g, 0, none⟩)) (hl : (loadVar ty ⟨g, 0, none⟩).run Try.prog w = .ok (.agg cs) w) :
    (results fn tmps).run Try.prog w = .ok (.tuple #[.agg cs, tmps.getD u undef]) w := by
  rw [results_cell_tmp h, hp]
  simp [asAddr, hl]
/-- a Geo -/
def geoV (n : Int) : Value := .agg #[.int .i64 n, .int .i64 98, .int .i64 (gI n), .int .i64 (gD n), .int .i64 (gC n)]
def geo0 : Value := .agg #[.int .i64 0, .int .i64 0, .int .i64 0, .int .i64 0, .int .i64 0]
set_option maxRecDepth 100000 in
set_option maxHeartbeats 1600000 in
theorem gof_no (w : World) (n : Int) (h : isLen n = false) : Calls Try.prog 9 #[.int .i64 n] w fun e w' => e = .returned (.tuple #[geo0, .int .i64 70]) ∧ Below w.heap.size w w' := by
  go_enter Try.func9, Try.ntmps9
  go_wp2_with (go_at_call 18; refine (isLength_any _ _).mono ?_; rintro e w' ⟨rfl, rfl⟩; rw [h])
  refine bodyPost_ret (results_row_tmp7 rfl _ _ w.heap.size #[.int .i64 0, .int .i64 0, .int .i64 0, .int .i64 0, .int .i64 0] rfl (by simp [go_sem])) rfl ?_
  exact ⟨rfl, (Below.refl _ _).alloc (Nat.le_refl _) _⟩
set_option maxRecDepth 100000 in
set_option maxHeartbeats 1600000 in
theorem gof_ok (w : World) (n : Int) (h : isLen n = true) : Calls Try.prog 9 #[.int .i64 n] w fun e w' => e = .returned (.tuple #[geoV n, .int .i64 0]) ∧ Below w.heap.size w w' := by
  have hb := isLen_bd h
  have HL : Hid (isLen n = true) := h
  clear h
  go_enter Try.func9, Try.ntmps9
  go_upto_region 3 with (go_at_call 18; refine (isLength_any _ _).mono ?_; rintro e w' ⟨rfl, rfl⟩; rw [HL.out])
  go_wp2_with (first
    | (go_at_call 20; refine (bitmapLen_ok _ _ (by omega)).mono ?_; rintro e w' ⟨rfl, rfl⟩)
    | (go_at_call 21; refine (tableLen_ok _ _ (by omega)).mono ?_; rintro e w' ⟨rfl, rfl⟩)
    | (go_at_call 19; refine (lay_at _ _ _ _ _ _ _ _ _ (by omega) (by omega) (by simp)).mono ?_; rintro e w' ⟨rfl, rfl⟩))
  refine bodyPost_ret (results_row_tmp7 rfl _ _ w.heap.size #[.int .i64 n, .int .i64 98, .int .i64 (gI n), .int .i64 (gD n), .int .i64 (gC n)] rfl (by simp [go_sem, gI, gD, gC])) rfl ?_
  exact ⟨rfl, ((Below.refl _ _).alloc (Nat.le_refl _) _).alloc (by simp) _⟩
/-- what Bit answers, and Record -/
def bitA (n i : Int) : Array Value := if 0 ≤ i ∧ i < n then #[.int .i64 (98 + i / 4096), .int .i64 (i % 4096), .int .i64 0] else #[.int .i64 0, .int .i64 0, .int .i64 31]
def recA (n i : Int) : Array Value := if 1 ≤ i ∧ i < gC n then #[.int .i64 (gI n + i / 8), .int .i64 (i % 8 * 64), .int .i64 0] else #[.int .i64 0, .int .i64 0, .int .i64 110]
theorem bitA_in {n i : Int} (h : 0 ≤ i ∧ i < n) : bitA n i = #[.int .i64 (98 + i / 4096), .int .i64 (i % 4096), .int .i64 0] := if_pos h
theorem bitA_out {n i : Int} (h : ¬ (0 ≤ i ∧ i < n)) : bitA n i = #[.int .i64 0, .int .i64 0, .int .i64 31] := if_neg h
theorem recA_in {n i : Int} (h : 1 ≤ i ∧ i < gC n) : recA n i = #[.int .i64 (gI n + i / 8), .int .i64 (i % 8 * 64), .int .i64 0] := if_pos h
theorem recA_out {n i : Int} (h : ¬ (1 ≤ i ∧ i < gC n)) : recA n i = #[.int .i64 0, .int .i64 0, .int .i64 110] := if_neg h
end Go.Proofs.Ytgkgcocpkammfaa

namespace Go.Proofs.Ytgkgcocpkammfaa

theorem subR {α : Type} [BEq α] [LawfulBEq α] : ∀ {l m : List α}, l.Nodup → (∀ x ∈ l, x ∈ m) → l.length ≤ m.length
  | [], _, _, _ => by simp
  | a :: l, m, hn, h => by
    have hn2 := List.nodup_cons.1 hn
    have ha : a ∈ m := h a (by simp)
    have := subR (l := l) (m := m.erase a) hn2.2 (fun x hx => (List.mem_erase_of_ne (show x ≠ a from fun e => hn2.1 (e ▸ hx))).2 (h x (List.mem_cons_of_mem _ hx)))
    rw [List.length_erase_of_mem ha] at this
    have hp : 0 < m.length := List.length_pos_of_mem ha
    simp only [List.length_cons]
    omega
theorem same_lenR {α : Type} [BEq α] [LawfulBEq α] {l m : List α} (hl : l.Nodup) (hm : m.Nodup) (h : ∀ x, x ∈ l ↔ x ∈ m) : l.length = m.length :=
  Nat.le_antisymm (subR hl (fun x hx => (h x).1 hx)) (subR hm (fun x hx => (h x).2 hx))

/-- the tables over which an index is reached -/
def wA (k : Int) : Nat := if k < 10 then 0 else if k < 138 then 1 else 2
def wB (k : Int) : Nat := if k < 138 then 0 else 3 + ((k - 138) / 128).toNat
def insT (l : List Nat) (t : Nat) : List Nat := if t = 0 ∨ t ∈ l then l else l ++ [t]
def tb1 (l : List Nat) (k : Int) : List Nat := insT (insT l (wA k)) (wB k)
def tbs (pre : List Int) : List Nat := pre.foldl tb1 []
theorem tbs_snoc (pre : List Int) (k : Int) : tbs (pre ++ [k]) = tb1 (tbs pre) k := by simp [tbs]
theorem mem_insT {l : List Nat} {t x : Nat} : x ∈ insT l t ↔ x ∈ l ∨ (x = t ∧ t ≠ 0) := by
  unfold insT
  by_cases h : t = 0 ∨ t ∈ l
  · rw [if_pos h]
    rcases h with rfl | h
    · simp
    · constructor
      · exact .inl
      · rintro (h1 | ⟨rfl, _⟩)
        · exact h1
        · exact h
  · rw [if_neg h]
    have h1 : t ≠ 0 := fun e => h (.inl e)
    simp [h1]
theorem nodup_insT {l : List Nat} {t : Nat} (h : l.Nodup) : (insT l t).Nodup := by
  unfold insT
  by_cases ht : t = 0 ∨ t ∈ l
  · rw [if_pos ht]; exact h
  · rw [if_neg ht]
    refine List.nodup_append.2 ⟨h, by simp, fun a ha b hb e => ht (.inr ?_)⟩
    simp at hb
    rw [← hb, ← e]; exact ha
theorem len_insT {l : List Nat} {t : Nat} : (insT l t).length = l.length + (if t = 0 ∨ t ∈ l then 0 else 1) := by
  unfold insT
  by_cases ht : t = 0 ∨ t ∈ l
  · rw [if_pos ht, if_pos ht]; rfl
  · rw [if_neg ht, if_neg ht]; simp
theorem mem_tb {x : Nat} : ∀ (pre : List Int) (l : List Nat), x ∈ pre.foldl tb1 l ↔ x ∈ l ∨ (x ≠ 0 ∧ ∃ k ∈ pre, x = wA k ∨ x = wB k)
  | [], l => by simp
  | k :: pre, l => by
    rw [List.foldl_cons, mem_tb pre (tb1 l k), tb1, mem_insT, mem_insT]
    constructor
    · rintro (((h | ⟨rfl, h⟩) | ⟨rfl, h⟩) | ⟨h, k', hk, hx⟩)
      · exact .inl h
      · exact .inr ⟨h, k, by simp, .inl rfl⟩
      · exact .inr ⟨h, k, by simp, .inr rfl⟩
      · exact .inr ⟨h, k', by simp [hk], hx⟩
    · rintro (h | ⟨h, k', hk, hx⟩)
      · exact .inl (.inl (.inl h))
      · rcases List.mem_cons.1 hk with rfl | hk
        · rcases hx with rfl | rfl
          · exact .inl (.inl (.inr ⟨rfl, h⟩))
          · exact .inl (.inr ⟨rfl, h⟩)
        · exact .inr ⟨h, k', hk, hx⟩
theorem mem_tbs {pre : List Int} {x : Nat} : x ∈ tbs pre ↔ x ≠ 0 ∧ ∃ k ∈ pre, x = wA k ∨ x = wB k := by
  rw [tbs, mem_tb]; simp
theorem nodup_tb : ∀ (pre : List Int) (l : List Nat), l.Nodup → (pre.foldl tb1 l).Nodup
  | [], _, h => h
  | _ :: pre, _, h => nodup_tb pre _ (nodup_insT (nodup_insT h))
theorem nodup_tbs (pre : List Int) : (tbs pre).Nodup := nodup_tb pre [] (by simp)
theorem wB_le {k : Int} (h : 0 ≤ k ∧ k ≤ 16521) : wB k ≤ 130 := by
  unfold wB
  split <;> omega
theorem wA_le (k : Int) : wA k ≤ 2 := by
  unfold wA
  split <;> (try split) <;> omega
theorem tbs_le {pre : List Int} (h : ∀ k ∈ pre, 0 ≤ k ∧ k ≤ 16521) {x : Nat} (hx : x ∈ tbs pre) : x < 131 := by
  obtain ⟨_, k, hk, hx⟩ := mem_tbs.1 hx
  rcases hx with rfl | rfl
  · have := wA_le k; omega
  · have := wB_le (h k hk); omega
theorem tbs_len {pre : List Int} (h : ∀ k ∈ pre, 0 ≤ k ∧ k ≤ 16521) : (tbs pre).length ≤ 131 := by
  have := subR (m := List.range 131) (nodup_tbs pre) (fun x hx => List.mem_range.2 (tbs_le h hx))
  simpa using this

/-- the document's lists -/
def adj (l : List Int) (k : Int) : List Int := if k ∈ l then l else l ++ [k]
def adjs (l : List Int) : List Int := l.foldl adj []
theorem adjs_snoc (l : List Int) (k : Int) : adjs (l ++ [k]) = adj (adjs l) k := by simp [adjs]
theorem mem_adj {l : List Int} {k x : Int} : x ∈ adj l k ↔ x ∈ l ∨ x = k := by
  unfold adj
  by_cases h : k ∈ l
  · rw [if_pos h]
    constructor
    · exact .inl
    · rintro (h1 | rfl)
      · exact h1
      · exact h
  · rw [if_neg h]; simp
theorem nodup_adj {l : List Int} {k : Int} (h : l.Nodup) : (adj l k).Nodup := by
  unfold adj
  by_cases hk : k ∈ l
  · rw [if_pos hk]; exact h
  · rw [if_neg hk]
    refine List.nodup_append.2 ⟨h, by simp, fun a ha b hb e => hk ?_⟩
    simp at hb
    rw [← hb, ← e]; exact ha
theorem mem_adjF {x : Int} : ∀ (l m : List Int), x ∈ l.foldl adj m ↔ x ∈ m ∨ x ∈ l
  | [], m => by simp
  | k :: l, m => by
    rw [List.foldl_cons, mem_adjF l, mem_adj, List.mem_cons, or_assoc]
theorem mem_adjs {l : List Int} {x : Int} : x ∈ adjs l ↔ x ∈ l := by rw [adjs, mem_adjF]; simp
theorem nodup_adjF : ∀ (l m : List Int), m.Nodup → (l.foldl adj m).Nodup
  | [], _, h => h
  | _ :: l, _, h => nodup_adjF l _ (nodup_adj h)
theorem nodup_adjs (l : List Int) : (adjs l).Nodup := nodup_adjF l [] (by simp)
def rOne (l : List Int) : Nat := if ∃ k ∈ l, 10 ≤ k ∧ k < 138 then 1 else 0
def rTwo (l : List Int) : Nat := if ∃ k ∈ l, 138 ≤ k then 1 else 0
def rFar (l : List Int) : List Int := (l.filter (fun k => decide (138 ≤ k))).map (fun k => (k - 138) / 128)
theorem mem_rFar {l : List Int} {x : Int} : x ∈ rFar l ↔ ∃ k ∈ l, 138 ≤ k ∧ x = (k - 138) / 128 := by
  simp only [rFar, List.mem_map, List.mem_filter, decide_eq_true_eq]
  constructor
  · rintro ⟨k, ⟨h1, h2⟩, h3⟩; exact ⟨k, h1, h2, h3.symm⟩
  · rintro ⟨k, h1, h2, h3⟩; exact ⟨k, ⟨h1, h2⟩, h3.symm⟩
def rTk (l : List Int) : Nat := (adjs l).length + rOne l + rTwo l + (adjs (rFar l)).length
theorem nodup_mapR {α β : Type} {f : α → β} : ∀ {l : List α}, l.Nodup → (∀ x y, x ∈ l → y ∈ l → f x = f y → x = y) → (l.map f).Nodup
  | [], _, _ => by simp
  | a :: l, hn, h => by
    have hn2 := List.nodup_cons.1 hn
    rw [List.map_cons, List.nodup_cons]
    refine ⟨fun hx => ?_, nodup_mapR hn2.2 (fun x y hx hy => h x y (List.mem_cons_of_mem _ hx) (List.mem_cons_of_mem _ hy))⟩
    obtain ⟨y, hy, e⟩ := List.mem_map.1 hx
    exact hn2.1 ((h y a (List.mem_cons_of_mem _ hy) (by simp) e) ▸ hy)
def pTk (o : List Int) : Nat := o.length + (tbs o).length
theorem takes_eq {l o : List Int} (hl : ∀ k ∈ l, 0 ≤ k ∧ k ≤ 16521) (ho : o.Nodup) (hm : ∀ x, x ∈ o ↔ x ∈ l) : pTk o = rTk l := by
  have e1 : o.length = (adjs l).length := same_lenR ho (nodup_adjs l) (fun x => by rw [hm, mem_adjs])
  have hfar : ∀ x ∈ adjs (rFar l), 0 ≤ x := fun x hx => by
    obtain ⟨k, _, h1, rfl⟩ := mem_rFar.1 (mem_adjs.1 hx)
    omega
  have e2 : (tbs o).length = ((if ∃ k ∈ l, 10 ≤ k ∧ k < 138 then [1] else []) ++ ((if ∃ k ∈ l, 138 ≤ k then [2] else []) ++ (adjs (rFar l)).map (fun x => 3 + x.toNat)) : List Nat).length := by
    refine same_lenR (nodup_tbs o) ?_ ?_
    · refine List.nodup_append.2 ⟨by split <;> simp, List.nodup_append.2 ⟨by split <;> simp, nodup_mapR (nodup_adjs _) (fun x y hx hy e => ?_), ?_⟩, ?_⟩
      · have := hfar x hx; have := hfar y hy; omega
      · intro a ha b hb e
        obtain ⟨x, _, rfl⟩ := List.mem_map.1 hb
        have : a = 2 := by split at ha <;> simp at ha; exact ha
        omega
      · intro a ha b hb e
        have : a = 1 := by split at ha <;> simp at ha; exact ha
        rcases List.mem_append.1 hb with hb | hb
        · have : b = 2 := by split at hb <;> simp at hb; exact hb
          omega
        · obtain ⟨x, _, rfl⟩ := List.mem_map.1 hb
          omega
    · intro x
      rw [mem_tbs, List.mem_append, List.mem_append, List.mem_map]
      constructor
      · rintro ⟨h0, k, hk, hx⟩
        have hk2 := (hm k).1 hk
        have hb := hl k hk2
        unfold wA wB at hx
        by_cases c1 : k < 10
        · rw [if_pos c1, if_pos (by omega)] at hx; omega
        · by_cases c2 : k < 138
          · rw [if_neg c1, if_pos c2, if_pos c2] at hx
            have : x = 1 := by omega
            subst this
            left; rw [if_pos ⟨k, hk2, by omega, c2⟩]; simp
          · rw [if_neg c1, if_neg c2, if_neg c2] at hx
            right
            rcases hx with rfl | rfl
            · left; rw [if_pos ⟨k, hk2, by omega⟩]; simp
            · right; exact ⟨(k - 138) / 128, mem_adjs.2 (mem_rFar.2 ⟨k, hk2, by omega, rfl⟩), rfl⟩
      · rintro (h | h | ⟨y, hy, rfl⟩)
        · split at h
          · rename_i hh
            obtain ⟨k, hk, h1, h2⟩ := hh
            simp at h
            subst h
            exact ⟨by decide, k, (hm k).2 hk, .inl (by unfold wA; rw [if_neg (by omega), if_pos h2])⟩
          · simp at h
        · split at h
          · rename_i hh
            obtain ⟨k, hk, h1⟩ := hh
            simp at h
            subst h
            exact ⟨by decide, k, (hm k).2 hk, .inl (by unfold wA; rw [if_neg (by omega), if_neg (by omega)])⟩
          · simp at h
        · obtain ⟨k, hk, h1, rfl⟩ := mem_rFar.1 (mem_adjs.1 hy)
          exact ⟨by omega, k, (hm k).2 hk, .inr (by unfold wB; rw [if_neg (by omega)])⟩
  rw [pTk, rTk, e1, e2, List.length_append, List.length_append, List.length_map, rOne, rTwo]
  have a1 : (if ∃ k ∈ l, 10 ≤ k ∧ k < 138 then [1] else ([] : List Nat)).length = if ∃ k ∈ l, 10 ≤ k ∧ k < 138 then 1 else 0 := by split <;> rfl
  have a2 : (if ∃ k ∈ l, 138 ≤ k then [2] else ([] : List Nat)).length = if ∃ k ∈ l, 138 ≤ k then 1 else 0 := by split <;> rfl
  rw [a1, a2]
  omega

theorem comp_up (zs : List Int) (hs : zs.Pairwise (· ≤ ·)) : ∀ m, m ≤ zs.length → (Go.Lib.compactUpTo zs.toArray m).Nodup ∧ ∀ x, x ∈ Go.Lib.compactUpTo zs.toArray m ↔ ∃ j, ∃ _ : j < zs.length, j < m ∧ zs[j] = x
  | 0, _ => by simp [Go.Lib.compactUpTo]
  | m + 1, h => by
    obtain ⟨h1, h2⟩ := comp_up zs hs m (by omega)
    have hm : m < zs.length := by omega
    have e0 : zs.toArray[m]! = zs[m] := by simp [hm]
    rw [Go.Lib.compactUpTo_succ, e0]
    have hle : ∀ i j (hi : i < zs.length) (hj : j < zs.length), i ≤ j → zs[i] ≤ zs[j] := fun i j hi hj hij => by
      rcases Nat.lt_or_ge i j with h | h
      · exact List.pairwise_iff_getElem.1 hs i j hi hj h
      · have : i = j := by omega
        subst this
        omega
    by_cases hk : Go.Lib.keeps zs.toArray m = true
    · rw [if_pos hk]
      have hne : ∀ j (hj : j < zs.length), j < m → zs[j] ≠ zs[m] := fun j hj hjm e => by
        simp only [Go.Lib.keeps, decide_eq_true_eq, e0] at hk
        have e1 : zs.toArray[m - 1]! = zs[m - 1]'(by omega) := by simp [show m - 1 < zs.length by omega]
        rw [e1] at hk
        rcases hk with rfl | hk
        · omega
        · have a := hle j (m - 1) hj (by omega) (by omega)
          have b := hle (m - 1) m (by omega) hm (by omega)
          omega
      refine ⟨List.nodup_append.2 ⟨h1, by simp, fun a ha b hb e => ?_⟩, fun x => ?_⟩
      · obtain ⟨j, hj, hjm, e2⟩ := (h2 a).1 ha
        simp at hb
        exact hne j hj hjm (by rw [e2, e, hb])
      · rw [List.mem_append, h2]
        constructor
        · rintro (⟨j, hj, hjm, e⟩ | e)
          · exact ⟨j, hj, by omega, e⟩
          · simp at e
            exact ⟨m, hm, by omega, e.symm⟩
        · rintro ⟨j, hj, hjm, e⟩
          by_cases hjm2 : j = m
          · subst hjm2; right; simp [e]
          · left; exact ⟨j, hj, by omega, e⟩
    · rw [if_neg hk, List.append_nil]
      refine ⟨h1, fun x => ?_⟩
      rw [h2]
      simp only [Go.Lib.keeps, decide_eq_true_eq, e0, not_or, Decidable.not_not] at hk
      have e1 : zs.toArray[m - 1]! = zs[m - 1]'(by omega) := by simp [show m - 1 < zs.length by omega]
      rw [e1] at hk
      constructor
      · rintro ⟨j, hj, hjm, e⟩
        exact ⟨j, hj, by omega, e⟩
      · rintro ⟨j, hj, hjm, e⟩
        by_cases hjm2 : j = m
        · subst hjm2; exact ⟨j - 1, by omega, by omega, by rw [← e]; exact hk.2.symm⟩
        · exact ⟨j, hj, by omega, e⟩
theorem comp_sorted {zs : List Int} (hs : zs.Pairwise (· ≤ ·)) : (Go.Lib.compact zs).Nodup ∧ ∀ x, x ∈ Go.Lib.compact zs ↔ x ∈ zs := by
  obtain ⟨h1, h2⟩ := comp_up zs hs zs.length (Nat.le_refl _)
  refine ⟨h1, fun x => ?_⟩
  rw [Go.Lib.compact, h2, List.mem_iff_getElem]
  constructor
  · rintro ⟨j, hj, _, e⟩; exact ⟨j, hj, e⟩
  · rintro ⟨j, hj, e⟩; exact ⟨j, hj, hj, e⟩
theorem sort_pw (l : List Int) : (l.mergeSort fun x y => decide (x ≤ y)).Pairwise (· ≤ ·) := by
  have := List.pairwise_mergeSort (le := fun x y : Int => decide (x ≤ y)) (by intro a b c; simp; omega) (by intro a b; simp; omega) l
  simpa using this
/-- what Takes goes through: the indices sorted, each once -/
def onceL (l : List Int) : List Int := Go.Lib.compact (l.mergeSort fun x y => decide (x ≤ y))
theorem once_nodup (l : List Int) : (onceL l).Nodup := (comp_sorted (sort_pw l)).1
theorem once_mem (l : List Int) (x : Int) : x ∈ onceL l ↔ x ∈ l := by rw [onceL, (comp_sorted (sort_pw l)).2, List.mem_mergeSort]
theorem once_takes {l : List Int} (hl : ∀ k ∈ l, 0 ≤ k ∧ k ≤ 16521) : pTk (onceL l) = rTk l := takes_eq hl (once_nodup l) (once_mem l)
end Go.Proofs.Ytgkgcocpkammfaa
