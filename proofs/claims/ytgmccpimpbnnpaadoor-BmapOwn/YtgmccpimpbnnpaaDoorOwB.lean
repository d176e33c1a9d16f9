import Derived.Test.YtgmccpimpbnnpaaDoorOwA
namespace Go.Proofs.YtgmccpimpbnnpaaDoor
open Go.RowKit Go.Maps Rec
def ivs (N : Nat) (f : Nat → Int) : List Value := (List.range N).map fun j => .int .i64 (f j)
theorem ivs_len (N : Nat) (f : Nat → Int) : (ivs N f).length = N := by simp [ivs]
theorem ivs_at (N : Nat) (f : Nat → Int) (j : Nat) : (ivs N f)[j]? = if j < N then some (.int .i64 (f j)) else none := by
  unfold ivs
  rw [List.getElem?_map]
  by_cases h : j < N
  · rw [if_pos h, List.getElem?_range h]; rfl
  · rw [if_neg h, List.getElem?_eq_none (by simp; omega)]; rfl
theorem ivs_congr {N : Nat} {f g : Nat → Int} (h : ∀ j, j < N → f j = g j) : ivs N f = ivs N g := List.map_congr_left fun j hj => by rw [h j (List.mem_range.1 hj)]
theorem ivs_one (N : Nat) (f : Nat → Int) : ivs (N + 1) f = ivs N f ++ [.int .i64 (f N)] := by simp [ivs, List.range_succ]
theorem ivs_two (N : Nat) (f : Nat → Int) : ivs (N + 2) f = ivs N f ++ [.int .i64 (f N), .int .i64 (f (N + 1))] := by simp [ivs, List.range_succ]
theorem ivs_of (l : List Value) (N : Nat) (f : Nat → Int) (hl : l.length = N) (h : ∀ j, j < N → l[j]? = some (.int .i64 (f j))) : l = ivs N f := by
  apply List.ext_getElem?
  intro j
  rw [ivs_at]
  by_cases hj : j < N
  · rw [if_pos hj]; exact h j hj
  · rw [if_neg hj, List.getElem?_eq_none (by omega)]
def pcF (l : List (Nat × Nat)) (j : Nat) : Int := if j % 2 = 0 then ((l.getD (j / 2) (0, 0)).1 : Int) else ((l.getD (j / 2) (0, 0)).2 : Int)
def ncF (l : List Nat) (j : Nat) : Int := (l.getD j 0 : Int)
theorem prV_len : ∀ l : List (Nat × Nat), (prV l).length = l.length * 2
  | [] => rfl
  | q :: l => by
    have e : prV (q :: l) = .int .i64 (q.1 : Int) :: .int .i64 (q.2 : Int) :: prV l := rfl
    rw [e, List.length_cons, List.length_cons, prV_len l, List.length_cons]; omega
theorem prV_ivs (l : List (Nat × Nat)) : prV l = ivs (l.length * 2) (pcF l) := by
  refine ivs_of _ _ _ (prV_len l) fun j hj => ?_
  have h := prV_at l (j / 2) (by omega)
  unfold pcF
  by_cases e : j % 2 = 0
  · rw [if_pos e]
    have e2 : j / 2 * 2 = j := by omega
    rw [e2] at h; exact h.1
  · rw [if_neg e]
    have e2 : j / 2 * 2 + 1 = j := by omega
    rw [e2] at h; exact h.2
theorem natV_ivs (l : List Nat) : natV l = ivs (l.length * 1) (ncF l) := by
  refine ivs_of _ _ _ (by simp [natV]) fun j hj => ?_
  rw [Nat.mul_one] at hj
  unfold natV ncF
  rw [List.getElem?_map, List.getElem?_eq_getElem hj, List.getD_eq_getElem?_getD, List.getElem?_eq_getElem hj]; rfl
theorem splice_get (l V : List Value) (q j : Nat) (h : q + V.length ≤ l.length) : (l.take q ++ V ++ l.drop (q + V.length))[j]? = if q ≤ j ∧ j < q + V.length then V[j - q]? else l[j]? := by
  have ht : (l.take q).length = q := by simp; omega
  by_cases h1 : j < q
  · rw [if_neg (by omega), List.append_assoc, List.getElem?_append_left (by omega), List.getElem?_take_of_lt h1]
  · by_cases h2 : j < q + V.length
    · rw [if_pos ⟨by omega, h2⟩, List.append_assoc, List.getElem?_append_right (by omega), ht, List.getElem?_append_left (by omega)]
    · rw [if_neg (by omega), List.getElem?_append_right (by simp; omega), List.getElem?_drop, List.length_append, ht]
      congr 1; omega
theorem setRow_fr (w : World) (g : Nat) (cs : Array Value) : Fr (fun k => k = g) w (w.setRow g cs) := ⟨rfl, rfl, rfl, by simp, fun k _ hk => setRow_other w g k _ (fun e => hk e)⟩
theorem own_set {w : World} {B el sz n g cap : Nat} {f : Nat → Int} (h : w.ownsRow B el sz (.slice (some ⟨g, 0, none⟩) n cap) n (ivs (n * sz) f)) (q : Nat) (vs : List Int) (hq : q + vs.length ≤ n * sz) :
    ∃ cur : Array Value, w.heap[g]? = some (.cells cur el (0, 0)) ∧ q + vs.length ≤ cur.size ∧ (w.setRow g (cur.toList.take q ++ vs.map (Value.int .i64) ++ cur.toList.drop (q + vs.length)).toArray).ownsRow B el sz (.slice (some ⟨g, 0, none⟩) n cap) n (ivs (n * sz) (fun j => if q ≤ j ∧ j < q + vs.length then vs.getD (j - q) 0 else f j)) := by
  rcases h.2 with ⟨e, _⟩ | ⟨g', cap', cur, e, hB, hg, hn, hc, hs, ht⟩
  · cases e
  · cases e
    have hsz : n * sz ≤ cur.size := by rw [hs]; exact Nat.mul_le_mul_right _ hn
    have hsz2 : n * sz ≤ cur.toList.length := by simpa using hsz
    refine ⟨cur, hg, by omega, by rw [ivs_len], .inr ⟨g, cap, _, rfl, hB, setRow_heap w g cur _ _ _ hg, hn, hc, ?_, ?_⟩⟩
    · simp; omega
    · refine ivs_of _ _ _ ?_ fun j hj => ?_
      · simp; omega
      · rw [List.getElem?_take_of_lt hj]
        have hl : (vs.map (Value.int .i64)).length = vs.length := by simp
        have := splice_get cur.toList (vs.map (Value.int .i64)) q j (by rw [hl]; omega)
        rw [hl] at this
        rw [this]
        by_cases hin : q ≤ j ∧ j < q + vs.length
        · rw [if_pos hin, if_pos hin, List.getElem?_map, List.getElem?_eq_getElem (by omega), List.getD_eq_getElem?_getD, List.getElem?_eq_getElem (by omega)]; rfl
        · rw [if_neg hin, if_neg hin]
          have h9 : (cur.toList.take (n * sz))[j]? = some (.int .i64 (f j)) := by rw [ht, ivs_at, if_pos hj]
          rw [List.getElem?_take_of_lt hj] at h9; exact h9
theorem own_set1 {w : World} {B el sz n g cap : Nat} {f : Nat → Int} (h : w.ownsRow B el sz (.slice (some ⟨g, 0, none⟩) n cap) n (ivs (n * sz) f)) (q : Nat) (v : Int) (hq : q < n * sz) : (w.setCell ⟨g, q, none⟩ (.int .i64 v)).ownsRow B el sz (.slice (some ⟨g, 0, none⟩) n cap) n (ivs (n * sz) (fun j => if j = q then v else f j)) := by
  rcases h.2 with ⟨e, _⟩ | ⟨g', cap', cur, e, hB, hg, hn, hc, hs, ht⟩
  · cases e
  · cases e
    have hsz : n * sz ≤ cur.size := by rw [hs]; exact Nat.mul_le_mul_right _ hn
    refine ⟨by rw [ivs_len], .inr ⟨g, cap, cur.setIfInBounds q (.int .i64 v), rfl, hB, heap_setCell_same _ _ _ _ _ _ hg, hn, hc, by simpa using hs, ?_⟩⟩
    refine ivs_of _ _ _ ?_ fun j hj => ?_
    · simp; omega
    · rw [List.getElem?_take_of_lt hj, Array.toList_setIfInBounds]
      have h9 : (cur.toList.take (n * sz))[j]? = some (.int .i64 (f j)) := by rw [ht, ivs_at, if_pos hj]
      rw [List.getElem?_take_of_lt hj] at h9
      by_cases e : j = q
      · subst e
        rw [if_pos rfl, List.getElem?_set_self (by simp; omega)]
      · rw [if_neg e, List.getElem?_set_ne (fun e2 => e e2.symm)]; exact h9
theorem own_cellB {w : World} {B el sz n : Nat} {v : Value} {f : Nat → Int} (h : w.ownsRow B el sz v n (ivs (n * sz) f)) : (v = .slice none 0 0 ∧ n = 0) ∨ ∃ g cap, v = .slice (some ⟨g, 0, none⟩) n cap ∧ B ≤ g ∧ g < w.heap.size ∧ n ≤ cap ∧ cap ≤ 9223372036854775807 ∧ (∀ j, w.frozen? ⟨g, j, none⟩ = false) ∧ ∀ j, j < n * sz → w.cell? ⟨g, j, none⟩ = some (.int .i64 (f j)) := by
  rcases h.2 with e | ⟨g, cap, cur, e, hB, hg, hn, hc, hs, ht⟩
  · exact .inl e
  · refine .inr ⟨g, cap, e, hB, heap_lt hg, hn, hc, fun j => frozen_of_row _ _ j _ _ hg, fun j hj => ?_⟩
    have h9 : (cur.toList.take (n * sz))[j]? = some (.int .i64 (f j)) := by rw [ht, ivs_at, if_pos hj]
    rw [List.getElem?_take_of_lt hj, Array.getElem?_toList] at h9
    rw [cell_of_row _ _ _ _ _ _ hg]; exact h9
theorem own_two {w : World} {B B' e e' sz sz' n n' : Nat} {v v' : Value} {xs xs' : List Value} (h : w.ownsRow B e sz v n xs) (h' : w.ownsRow B' e' sz' v' n' xs') (hne : e ≠ e') {b : Nat} (hb : v.ownBlock = some b) : v'.ownBlock ≠ some b := by
  intro hb'
  rcases h.2 with ⟨rfl, _⟩ | ⟨g, _, _, rfl, _, hg, _⟩
  · cases hb
  · rcases h'.2 with ⟨rfl, _⟩ | ⟨g', _, _, rfl, _, hg', _⟩
    · cases hb'
    · cases hb; cases hb'
      rw [hg] at hg'
      injection hg' with e9
      injection e9 with _ e9
      exact hne e9
theorem own_lo {w : World} {B e sz n : Nat} {v : Value} {xs : List Value} (h : w.ownsRow B e sz v n xs) {b : Nat} (hb : v.ownBlock = some b) : B ≤ b := by
  rcases h.2 with ⟨rfl, _⟩ | ⟨g, _, _, rfl, hB, _⟩
  · cases hb
  · cases hb; exact hB
theorem own_up {w : World} {B B' e sz n : Nat} {v : Value} {xs : List Value} (h : w.ownsRow B e sz v n xs) (hk : ∀ b, v.ownBlock = some b → B' ≤ b) : w.ownsRow B' e sz v n xs := by
  refine ⟨h.1, ?_⟩
  rcases h.2 with h2 | ⟨g, cap, cur, rfl, _, h3⟩
  · exact .inl h2
  · exact .inr ⟨g, cap, cur, rfl, hk g rfl, h3⟩
theorem run_ownB {w : World} {B : Nat} (hBw : B ≤ w.heap.size) (t ty : TypeId) (e : TypeId) (i0 : TypeInfo) (z : Value) (size bytes : Nat) (ht : Tryd.prog.underlying t = some (.slice e)) (hi : Tryd.prog.info? e = some i0) (hz : i0.zero = some z)
    (hsize : i0.size = size) (hby : i0.bytes = bytes) (hzs : z.cells.size = size) (hsz : 0 < size) (v : Value) (k : Nat) (xs : List Value) (hown : w.ownsRow B e size v k xs)
    (ad : Addr) (m c : Nat) (news : List Value) (hm : 0 < m) (hl : news.length = m * size) (hnews : ∀ j u, news[j]? = some u → w.cell? (ad.add j) = some u) (h1 : ∀ u ∈ news, u.oneCell' = true) (h63 : k + m ≤ maxLen) (h47 : (k + m) * bytes ≤ 140737488355328) :
    ∃ g cap w', (Builtin.append_ #[t, t] ty #[v, .slice (some ad) m c]).run Tryd.prog w = .ok (.slice (some ⟨g, 0, none⟩) (k + m) cap) w' ∧ w'.ownsRow B e size (.slice (some ⟨g, 0, none⟩) (k + m) cap) (k + m) (xs ++ news) ∧ w'.ownsRow B e size v k xs ∧ Fr (fun k => v.ownBlock = some k) w w' ∧ (v.ownBlock = some g ∨ w.heap.size ≤ g) := by
  have hown0 : w.ownsRow 0 e size v k xs := own_up hown (fun _ _ => Nat.zero_le _)
  obtain ⟨g, cap, w', hr, h2, h3, h4⟩ := run_own t ty e i0 z size bytes ht hi hz hsize hby hzs hsz v k xs hown0 ad m c news hm hl hnews h1 h63 h47
  have hst := own_stay t ty e i0 z size bytes ht hi hz hsize hby hown0 ad m c news hl hnews h1 h63 h47 hr
  refine ⟨g, cap, w', hr, own_up h2 (fun b hb => ?_), own_up hst (fun b hb => own_lo hown hb), h3, h4⟩
  cases hb
  rcases h4 with h4 | h4
  · exact own_lo hown h4
  · exact Nat.le_trans hBw h4
end Go.Proofs.YtgmccpimpbnnpaaDoor
