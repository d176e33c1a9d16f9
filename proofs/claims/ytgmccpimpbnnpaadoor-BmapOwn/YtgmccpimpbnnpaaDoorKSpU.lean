import Derived.Test.YtgmccpimpbnnpaaDoorKSpN
import Derived.Test.YtgmccpimpbnnpaaDoorKCuH
namespace Go.Proofs.YtgmccpimpbnnpaaDoor
open Go.RowKit Go.Maps Rec
def fl (f : Nat → Bool) (i : Nat) : List Nat := (List.range i).filter f
def inL (l : List Nat) (j : Nat) : Bool := decide (j ∈ l)
theorem inL_cons (i : Nat) (r : List Nat) : inL (i :: r) = fun j => if j = i then true else inL r j := by
  funext j
  unfold inL
  by_cases e : j = i
  · rw [if_pos e, e]; simp
  · rw [if_neg e]
    congr 1
    apply propext
    simp [e]
theorem inL_rest {i : Nat} {r : List Nat} (h : i ∉ r) : (fun j => if j = i then false else inL (i :: r) j) = inL r := by
  funext j
  rw [inL_cons]
  by_cases e : j = i
  · rw [if_pos e, e]; unfold inL; rw [decide_eq_false h]
  · rw [if_neg e]; dsimp only; rw [if_neg e]
theorem inL_snoc (r : List Nat) (i : Nat) : (fun j => if j = i then true else inL r j) = inL (r ++ [i]) := by
  funext j
  unfold inL
  by_cases e : j = i
  · rw [if_pos e, e]; simp
  · rw [if_neg e]
    congr 1
    apply propext
    simp [e]
theorem ct_inL {r : List Nat} {n : Nat} (h : r.Nodup) (hn : ∀ j, j ∈ r → j < n) : ct (inL r) n = r.length := by
  induction r with
  | nil => exact ct_zero.2 (fun j _ => by simp [inL])
  | cons i r ih =>
    have h1 := List.nodup_cons.1 h
    have h2 := ih h1.2 (fun j hj => hn j (List.mem_cons_of_mem _ hj))
    have h3 := ct_set (f := inL r) (hn i (List.mem_cons_self ..)) true
    rw [← inL_cons, h2] at h3
    have h4 : inL r i = false := by unfold inL; exact decide_eq_false h1.1
    rw [h4] at h3
    simp at h3
    rw [h3, List.length_cons]
theorem drop_cons {l : List Nat} {k : Nat} (h : k < l.length) : l.drop k = l[k] :: l.drop (k + 1) := List.drop_eq_getElem_cons h
theorem getD9 {l : List Nat} {j : Nat} (h : j < l.length) : l.getD j 0 = l[j] := by simp [h]
theorem nodup9 {l : List Nat} (hl : l.Pairwise (· < ·)) {i j : Nat} (hi : i < l.length) (hj : j < l.length) (e : l[i] = l[j]) : i = j := by
  rcases Nat.lt_trichotomy i j with h | h | h
  · have := List.pairwise_iff_getElem.1 hl i j hi hj h; omega
  · exact h
  · have := List.pairwise_iff_getElem.1 hl j i hj hi h; omega
theorem lo_drop {l : List Nat} (hl : l.Pairwise (· < ·)) {k : Nat} (h : k < l.length) : IsLo (inL (l.drop k)) l[k] ∧ l[k] ∉ l.drop (k + 1) := by
  have hp : (l.drop k).Pairwise (· < ·) := hl.sublist (List.drop_sublist k l)
  rw [drop_cons h] at hp
  have h1 := List.pairwise_cons.1 hp
  have h0 : inL (l.drop k) = inL (l[k] :: l.drop (k + 1)) := by rw [← drop_cons h]
  rw [h0]
  refine ⟨⟨by unfold inL; exact decide_eq_true (List.mem_cons_self ..), fun j hj => ?_⟩, fun x => ?_⟩
  · unfold inL
    refine decide_eq_false (fun x => ?_)
    rcases List.mem_cons.1 x with e | e
    · omega
    · have := h1.1 j e; omega
  · have := h1.1 _ x; omega
def gv (l : List Nat) (o k : Nat) : List Nat := (List.range k).map fun m => l.getD ((m + o) % l.length) 0
theorem gv_next (l : List Nat) (o k : Nat) : gv l o (k + 1) = gv l o k ++ [l.getD ((k + o) % l.length) 0] := by simp [gv, List.range_succ]
theorem mod2 {x n : Nat} (h : x < n + n) : x % n = if x < n then x else x - n := by
  by_cases e : x < n
  · rw [if_pos e, Nat.mod_eq_of_lt e]
  · rw [if_neg e, Nat.mod_eq_sub_mod (by omega), Nat.mod_eq_of_lt (by omega)]
theorem gv_new {l : List Nat} (hl : l.Pairwise (· < ·)) {o k : Nat} (ho : o < l.length) (hk : k < l.length) : l.getD ((k + o) % l.length) 0 ∉ gv l o k := by
  intro x
  obtain ⟨m, hm, e⟩ := List.mem_map.1 x
  have hm := List.mem_range.1 hm
  have h1 := Nat.mod_lt (k + o) (show 0 < l.length by omega)
  have h2 := Nat.mod_lt (m + o) (show 0 < l.length by omega)
  rw [getD9 h1, getD9 h2] at e
  have e2 := nodup9 hl h2 h1 e
  rw [mod2 (by omega), mod2 (by omega)] at e2
  split at e2 <;> split at e2 <;> omega
theorem gv_all {l : List Nat} {o : Nat} (ho : o < l.length) (j : Nat) : j ∈ gv l o l.length ↔ j ∈ l := by
  constructor
  · intro x
    obtain ⟨m, hm, e⟩ := List.mem_map.1 x
    have h2 := Nat.mod_lt (m + o) (show 0 < l.length by omega)
    rw [getD9 h2] at e
    rw [← e]
    exact List.getElem_mem h2
  · intro x
    obtain ⟨p, hp, e⟩ := List.getElem_of_mem x
    refine List.mem_map.2 ⟨if o ≤ p then p - o else p + l.length - o, List.mem_range.2 (by split <;> omega), ?_⟩
    have h3 : ((if o ≤ p then p - o else p + l.length - o) + o) % l.length = p := by
      rw [mod2 (by split <;> omega)]
      split <;> split <;> omega
    rw [h3, getD9 hp, e]
theorem gv_mem {l : List Nat} {o k j : Nat} (h0 : 0 < l.length) (h : j ∈ gv l o k) : j ∈ l := by
  obtain ⟨m, hm, e⟩ := List.mem_map.1 h
  have h2 := Nat.mod_lt (m + o) h0
  rw [getD9 h2] at e
  rw [← e]
  exact List.getElem_mem h2
theorem gv_nodup {l : List Nat} (hl : l.Pairwise (· < ·)) {o : Nat} (ho : o < l.length) {k : Nat} (hk : k ≤ l.length) : (gv l o k).Nodup := by
  induction k with
  | zero => exact List.Pairwise.nil
  | succ k ih =>
    rw [gv_next]
    refine List.nodup_append.2 ⟨ih (by omega), by simp, fun a ha b hb => ?_⟩
    rw [List.mem_singleton.1 hb]
    intro e
    exact gv_new hl ho hk (e ▸ ha)
theorem gv_len (l : List Nat) (o k : Nat) : (gv l o k).length = k := by simp [gv]
structure Fv (w0 w : World) (D : Dk) (T : Tx) (n P : Nat) (a : Option Addr) (l : List Nat) : Prop where
  spc : Spc w0 w D T n
  geo : GeoAt w P n
  aP : ¬ T.all P
  ex : l = [] ∨ ∃ g, a = some ⟨g, 0, none⟩ ∧ ¬ T.all g ∧ g < w.heap.size ∧ ∀ j (h : j < l.length), w.cell? ⟨g, j, none⟩ = some (.int .i64 (l[j] : Int))
theorem Fv.on {w0 w w' : World} {D : Dk} {T : Tx} {n P : Nat} {a : Option Addr} {l : List Nat} (h : Fv w0 w D T n P a l) (hb : Below w.heap.size w w') : Fv w0 w' D T n P a l := by
  refine ⟨h.spc.on hb, h.geo.on hb, h.aP, ?_⟩
  rcases h.ex with e | ⟨g, h1, h2, h3, h4⟩
  · exact .inl e
  · exact .inr ⟨g, h1, h2, Nat.lt_of_lt_of_le h3 hb.size, fun j hj => (hb.cell (p := ⟨g, j, none⟩) h3).trans (h4 j hj)⟩
theorem Fv.mv {w0 w w' : World} {D : Dk} {T T' : Tx} {n P : Nat} {a : Option Addr} {l : List Nat} (h : Fv w0 w D T n P a l) (s : Spc w0 w' D T' n) (m : TMv w T w' T') : Fv w0 w' D T' n P a l := by
  obtain ⟨g1, g2⟩ := geo_mv h.geo h.aP m
  refine ⟨s, g1, g2, ?_⟩
  rcases h.ex with e | ⟨g, h1, h2, h3, h4⟩
  · exact .inl e
  · refine .inr ⟨g, h1, fun e => ?_, Nat.lt_of_lt_of_le h3 m.fr.size, fun j hj => m.fr.cell (h4 j hj) (fun e => h2 (.inl e))⟩
    rcases m.al _ e with e | e
    · exact h2 e
    · omega
structure Fl2 (w0 w : World) (D : Dk) (T : Tx) (n P : Nat) (a : Option Addr) (l : List Nat) (k : Nat) : Prop where
  fv : Fv w0 w D T n P a l
  fde : fd (nD n) n (bmp D T) = inL (l.drop k)
  dom : ∀ j, nD n ≤ j → (T.c j).isSome = inL (l.take k) j
  dom0 : (T.c 98).isSome = decide (0 < k)
  cnt : (lst T.c n).length = k + (if 0 < k then 1 else 0)
  us : T.us.length = 2 * k
theorem Fl2.on {w0 w w' : World} {D : Dk} {T : Tx} {n P k : Nat} {a : Option Addr} {l : List Nat} (h : Fl2 w0 w D T n P a l k) (hb : Below w.heap.size w w') : Fl2 w0 w' D T n P a l k := ⟨h.fv.on hb, h.fde, h.dom, h.dom0, h.cnt, h.us⟩
structure Lf (l : List Nat) (n : Nat) : Prop where
  lt : l.Pairwise (· < ·)
  bd : ∀ j, j ∈ l → nD n ≤ j ∧ j < n
  len : l.length ≤ 90
  n4 : n ≤ 4096
theorem Lf.nd {l : List Nat} {n : Nat} (h : Lf l n) : l.Nodup := h.lt.imp (fun h => by omega)
theorem Fl2.free {w0 w : World} {D : Dk} {T : Tx} {n P k : Nat} {a : Option Addr} {l : List Nat} (h : Fl2 w0 w D T n P a l k) (L : Lf l n) : ct (fd (nD n) n (bmp D T)) n = l.length - k := by
  rw [h.fde, ct_inL (L.nd.sublist (List.drop_sublist k l)) (fun j hj => (L.bd j (List.mem_of_mem_drop hj)).2), List.length_drop]
theorem Fl2.take {w0 w : World} {D : Dk} {T : Tx} {n P k : Nat} {a : Option Addr} {l : List Nat} (h : Fl2 w0 w D T n P a l k) (L : Lf l n) (hk : k < l.length) :
    Calls Tryd.prog 50 #[.pointer (some ⟨T.t, 0, none⟩), geoV n] w fun e w' => e = .returned (.tuple #[.int .i64 (l[k] : Int), .int .i64 0]) ∧ ∃ T', T'.t = T.t ∧ Fl2 w0 w' D T' n P a l (k + 1) ∧ tv D T' l[k] = one 0 := by
  obtain ⟨hlo, hni⟩ := lo_drop L.lt hk
  have hbd := L.bd l[k] (List.getElem_mem hk)
  have hlen := L.len
  have hn4 := L.n4
  have hN := nM_bd h.fv.spc.lo h.fv.spc.hi
  have h0 : l[k] / 4096 = 0 := Nat.div_eq_of_lt (by omega)
  have hci : (T.c l[k]).isSome = false := by
    rw [h.dom _ hbd.1]
    refine decide_eq_false (fun x => ?_)
    obtain ⟨m, hm, e⟩ := List.getElem_of_mem x
    rw [List.getElem_take] at e
    have hm2 : m < k := by rw [List.length_take] at hm; omega
    have := nodup9 L.lt (by omega) hk e
    omega
  have hcnt := h.cnt
  refine (stake_ok w0 w D T n h.fv.spc l[k] (by rw [h.fde]; exact hlo) (.inr (by rw [hcnt]; split <;> omega)) (.inr (by rw [hcnt]; split <;> split <;> omega)) (by rw [h.us]; omega)).mono ?_
  rintro e w' ⟨rfl, T', g⟩
  obtain ⟨q, q2, hc, _⟩ := g.c
  rw [h0, Nat.add_zero] at hc
  refine ⟨rfl, T', g.mv.t, ⟨h.fv.mv g.spc g.mv, ?_, fun j hj => ?_, ?_, ?_, by rw [g.u, h.us]; omega⟩, ?_⟩
  · rw [take_fd h.fv.spc g hbd.1 hbd.2, h.fde, drop_cons hk, inL_rest hni]
  · rw [hc]
    by_cases e : j = l[k]
    · rw [e, ups_same]
      unfold inL
      symm
      refine decide_eq_true ?_
      have ht : l.take (k + 1) = l.take k ++ [l[k]] := by rw [List.take_add_one, List.getElem?_eq_getElem hk]; rfl
      rw [ht]
      exact List.mem_append_right _ (List.mem_singleton.2 rfl)
    · rw [ups_other _ _ e, ups_other _ _ (by omega), h.dom j hj]
      unfold inL
      congr 1
      apply propext
      have ht : l.take (k + 1) = l.take k ++ [l[k]] := by rw [List.take_add_one, List.getElem?_eq_getElem hk]; rfl
      rw [ht, List.mem_append, List.mem_singleton]
      exact ⟨.inl, fun x => x.resolve_right e⟩
  · rw [hc, ups_other _ _ (by omega), ups_same]
    simp
  · rw [hc, lst_len_ups hbd.2, ups_other _ _ (by omega), lst_len_ups (by omega), hci, h.dom0, hcnt]
    by_cases e : 0 < k
    · simp [e]
    · simp [e]
  · rw [take_tv h.fv.spc g hbd.2 _ hbd.1, if_pos rfl]; rfl
structure Fl3 (w0 w : World) (D : Dk) (T : Tx) (n P : Nat) (a : Option Addr) (l : List Nat) (o k : Nat) : Prop where
  fv : Fv w0 w D T n P a l
  fde : fd (nD n) n (bmp D T) = inL (gv l o k)
  dom : ∀ j, j ∈ l → (T.c j).isSome = true
  dom0 : 0 < l.length → (T.c 98).isSome = true
  us : T.us.length = 2 * l.length + k
theorem Fl3.on {w0 w w' : World} {D : Dk} {T : Tx} {n P k o : Nat} {a : Option Addr} {l : List Nat} (h : Fl3 w0 w D T n P a l o k) (hb : Below w.heap.size w w') : Fl3 w0 w' D T n P a l o k := ⟨h.fv.on hb, h.fde, h.dom, h.dom0, h.us⟩
theorem Fl2.done {w0 w : World} {D : Dk} {T : Tx} {n P : Nat} {a : Option Addr} {l : List Nat} (h : Fl2 w0 w D T n P a l l.length) (L : Lf l n) (o : Nat) : Fl3 w0 w D T n P a l o 0 := by
  refine ⟨h.fv, by rw [h.fde, List.drop_length]; rfl, fun j hj => ?_, fun h0 => by rw [h.dom0]; exact decide_eq_true h0, h.us⟩
  rw [h.dom j (L.bd j hj).1, List.take_length]
  exact decide_eq_true hj
theorem Fl3.give {w0 w : World} {D : Dk} {T : Tx} {n P k o : Nat} {a : Option Addr} {l : List Nat} (h : Fl3 w0 w D T n P a l o k) (L : Lf l n) (ho : o < l.length) (hk : k < l.length) (i : Nat) (hi : l.getD ((k + o) % l.length) 0 = i) :
    Calls Tryd.prog 70 #[.pointer (some ⟨T.t, 0, none⟩), geoV n, .int .i64 (i : Int)] w fun e w' => e = .returned (.int .i64 0) ∧ ∃ T', T'.t = T.t ∧ Fl3 w0 w' D T' n P a l o (k + 1) ∧ isT (bmp D T') i = false := by
  have hnew := gv_new L.lt ho hk
  have h1 := Nat.mod_lt (k + o) (show 0 < l.length by omega)
  have hm : i ∈ l := by rw [← hi, getD9 h1]; exact List.getElem_mem h1
  rw [hi] at hnew
  have hbd := L.bd i hm
  have hlen := L.len
  have hn4 := L.n4
  have h0 : i / 4096 = 0 := Nat.div_eq_of_lt (by omega)
  have hb : isT (bmp D T) i = true := by
    rw [isT_fd hbd.1 hbd.2, h.fde]
    unfold inL
    rw [decide_eq_false hnew]; rfl
  refine (give_ok w0 w D T n h.fv.spc i hbd.1 hbd.2 hb (.inl (by rw [h0]; exact h.dom0 (by omega))) (by rw [h.us]; omega)).mono ?_
  rintro e w' ⟨rfl, T', g⟩
  obtain ⟨q, hc, _⟩ := g.c
  rw [h0, Nat.add_zero] at hc
  have hf : fd (nD n) n (bmp D T') = inL (gv l o (k + 1)) := by
    rw [give_fd h.fv.spc g hbd.1 hbd.2, h.fde, inL_snoc, gv_next, hi]
  refine ⟨rfl, T', g.t, ⟨h.fv.mv g.spc g.mv, hf, fun j hj => ?_, fun _ => by rw [hc, ups_same]; rfl, by rw [g.u, h.us]; omega⟩, ?_⟩
  · rw [hc]
    by_cases e : j = 98
    · rw [e, ups_same]; rfl
    · rw [ups_other _ _ e]; exact h.dom j hj
  · rw [isT_fd hbd.1 hbd.2, hf, gv_next, hi]
    simp [inL]
theorem Fl3.free {w0 w : World} {D : Dk} {T : Tx} {n P k o : Nat} {a : Option Addr} {l : List Nat} (h : Fl3 w0 w D T n P a l o k) (L : Lf l n) (ho : o < l.length) (hk : k ≤ l.length) : ct (fd (nD n) n (bmp D T)) n = k := by
  rw [h.fde, ct_inL (gv_nodup L.lt ho hk) (fun j hj => (L.bd j (gv_mem (by omega) hj)).2), gv_len]
theorem Fl3.take {w0 w : World} {D : Dk} {T : Tx} {n P o : Nat} {a : Option Addr} {l : List Nat} (h : Fl3 w0 w D T n P a l o l.length) (L : Lf l n) (ho : o < l.length) :
    Calls Tryd.prog 50 #[.pointer (some ⟨T.t, 0, none⟩), geoV n] w fun e w' => e = .returned (.tuple #[.int .i64 (l[0]'(by omega) : Int), .int .i64 0]) ∧ ∃ T', T'.t = T.t ∧ Fv w0 w' D T' n P a l := by
  have h0 : 0 < l.length := by omega
  have hlo : IsLo (fd (nD n) n (bmp D T)) l[0] := by
    have e : inL (gv l o l.length) = inL (l.drop 0) := by
      funext j
      unfold inL
      congr 1
      exact propext (gv_all ho j)
    rw [h.fde, e]
    exact (lo_drop L.lt h0).1
  have hbd := L.bd l[0] (List.getElem_mem h0)
  have hlen := L.len
  have hn4 := L.n4
  have hd : l[0] / 4096 = 0 := Nat.div_eq_of_lt (by omega)
  refine (stake_ok w0 w D T n h.fv.spc l[0] hlo (.inl (by rw [hd]; exact h.dom0 h0)) (.inl (h.dom _ (List.getElem_mem h0))) (by rw [h.us]; omega)).mono ?_
  rintro e w' ⟨rfl, T', g⟩
  exact ⟨rfl, T', g.mv.t, h.fv.mv g.spc g.mv⟩
end Go.Proofs.YtgmccpimpbnnpaaDoor

namespace Go.Proofs.YtgmccpimpbnnpaaDoor
open Go.RowKit Go.Maps Rec
theorem infoP2 : (Tryd.prog.info? 50).map (fun i => (i.zero, i.size, i.bytes)) = some (some (.agg #[.int .i64 0, .int .i64 0]), 2, 16) := by kernel_rfl
theorem wp_pair {ops : Array Oper} {rest : List Oper} {o : Oper} {a : Act} {Q : Exit → Act → World → Prop} {wx : World} (hgd : o.guard = none) (s x : Operand)
    (ho : o.op = .call { callee := .builtin .append, args := #[s, x], argTypes := #[45, 45] }) (v : Value) (n : Nat) (ss : List Value) (hs : a.eval s = v) (hx : a.eval x = .slice (some ⟨wx.heap.size, 0, none⟩) 1 1)
    (t0 t1 : Int) (hR : wx.ownsRow 0 50 2 v n ss) (hn : n ≤ 100000)
    (h : ∀ b cap w', w'.ownsRow 0 50 2 (.slice (some ⟨b, 0, none⟩) (n + 1) cap) (n + 1) (ss ++ [.int .i64 t0, .int .i64 t1]) → Fr (fun k => v.ownBlock = some k) wx w' → (v.ownBlock = some b ∨ wx.heap.size ≤ b) → wpList Tryd.prog ops Q rest (a.put o.dst (.slice (some ⟨b, 0, none⟩) (n + 1) cap)) w') :
    wpList Tryd.prog ops Q (o :: rest) a (wx.alloc (.cells #[.int .i64 t0, .int .i64 t1] 50)) := by
  obtain ⟨i0, hi, hz0, hz1, hz2⟩ := info_parts infoP2
  have hal : Below wx.heap.size wx (wx.alloc (.cells #[.int .i64 t0, .int .i64 t1] 50)) := below_new _
  refine wp_own hgd s x 45 ho 50 i0 _ 2 16 Tryd.underlying45 hi hz0 hz1 hz2 rfl (by decide) v n _ hs (owns_fr hR (below_fr hal (fun _ => False)) (fun _ _ e => e)) ⟨wx.heap.size, 0, none⟩ 1 1 [.int .i64 t0, .int .i64 t1] hx (by decide) rfl (fun j u hj => ?_) (fun u hu => ?_) (by unfold maxLen; omega) (by omega) ?_
  · match j, hj with
    | 0, hj => cases hj; rw [Addr.add_lit, cell_of_row _ _ _ _ _ _ (heap_alloc_new _ _)]; rfl
    | 1, hj => cases hj; rw [Addr.add_lit, cell_of_row _ _ _ _ _ _ (heap_alloc_new _ _)]; rfl
  · rcases List.mem_cons.1 hu with rfl | hu
    · rfl
    · rw [List.mem_singleton.1 hu]; rfl
  · intro b cap w' h1 h2 h3
    refine h b cap w' h1 ((below_fr hal (fun k => v.ownBlock = some k)).trans h2 (fun k hk => .inl hk)) ?_
    rcases h3 with h3 | h3
    · exact .inl h3
    · exact .inr (Nat.le_trans hal.size h3)
theorem wp_intA {ops : Array Oper} {rest : List Oper} {o : Oper} {a : Act} {Q : Exit → Act → World → Prop} {wx : World} (hgd : o.guard = none) (s x : Operand)
    (ho : o.op = .call { callee := .builtin .append, args := #[s, x], argTypes := #[22, 22] }) (v : Value) (n : Nat) (ss : List Value) (hs : a.eval s = v) (hx : a.eval x = .slice (some ⟨wx.heap.size, 0, none⟩) 1 1)
    (t : Int) (hR : wx.ownsRow 0 3 1 v n ss) (hn : n ≤ 100000)
    (h : ∀ b cap w', w'.ownsRow 0 3 1 (.slice (some ⟨b, 0, none⟩) (n + 1) cap) (n + 1) (ss ++ [.int .i64 t]) → Fr (fun k => v.ownBlock = some k) wx w' → (v.ownBlock = some b ∨ wx.heap.size ≤ b) → wpList Tryd.prog ops Q rest (a.put o.dst (.slice (some ⟨b, 0, none⟩) (n + 1) cap)) w') :
    wpList Tryd.prog ops Q (o :: rest) a (wx.alloc (.cells #[.int .i64 t] 3)) := by
  obtain ⟨i0, hi, hz0, hz1, hz2⟩ := info_parts infoI10
  have hal : Below wx.heap.size wx (wx.alloc (.cells #[.int .i64 t] 3)) := (Below.refl _ _).alloc (Nat.le_refl _) _
  refine wp_own hgd s x 22 ho 3 i0 _ 1 8 Tryd.underlying22 hi hz0 hz1 hz2 rfl (by decide) v n _ hs (owns_fr hR (below_fr hal (fun _ => False)) (fun _ _ e => e)) ⟨wx.heap.size, 0, none⟩ 1 1 [.int .i64 t] hx (by decide) rfl (fun j u hj => ?_) (fun u hu => ?_) (by unfold maxLen; omega) (by omega) ?_
  · cases j with
    | zero => cases hj; rw [Addr.add_lit]; rw [cell_of_row _ _ _ _ _ _ (heap_alloc_new _ _)]; rfl
    | succ j => simp at hj
  · rw [List.mem_singleton.1 hu]; rfl
  · intro b cap w' h1 h2 h3
    refine h b cap w' h1 ((below_fr hal (fun k => v.ownBlock = some k)).trans h2 (fun k hk => .inl hk)) ?_
    rcases h3 with h3 | h3
    · exact .inl h3
    · exact .inr (Nat.le_trans hal.size h3)
def prV (l : List (Nat × Nat)) : List Value := l.flatMap fun q => [.int .i64 (q.1 : Int), .int .i64 (q.2 : Int)]
theorem prV_app (l m : List (Nat × Nat)) : prV (l ++ m) = prV l ++ prV m := by simp [prV]
def natV (l : List Nat) : List Value := l.map fun (x : Nat) => Value.int .i64 (x : Int)
theorem natV_app (l m : List Nat) : natV (l ++ m) = natV l ++ natV m := by simp [natV]
structure Ay (L wr : World) (P tt n : Nat) (vb vt : Value) (bl : List (Nat × Nat)) (tl : List Nat) : Prop where
  bel : Below L.heap.size L wr
  le : L.heap.size ≤ P
  t : wr.heap[P]? = some (.cells #[.pointer (some ⟨tt, 0, none⟩)] 26 (0, 0))
  g : GeoAt wr (P + 1) n
  b : wr.heap[P + 1 + 1 + 1]? = some (.cells #[vb] 45 (0, 0))
  c : wr.heap[P + 1 + 1 + 1 + 1]? = some (.cells #[vt] 22 (0, 0))
  l : wr.heap[P + 1 + 1 + 1 + 1 + 1]? = some (.cells #[.func (.func 27) #[] #[.pointer (some ⟨P + 1 + 1 + 1, 0, none⟩), .pointer (some ⟨P + 1 + 1 + 1 + 1, 0, none⟩), .pointer (some ⟨P, 0, none⟩), .pointer (some ⟨P + 1, 0, none⟩), .pointer (some ⟨P + 1 + 1 + 1 + 1 + 1, 0, none⟩)]] 78 (0, 0))
  rb : wr.ownsRow 0 50 2 vb bl.length (prV bl)
  rt : wr.ownsRow 0 3 1 vt tl.length (natV tl)
  fb : ∀ k, vb.ownBlock = some k → P + 6 ≤ k
  ft : ∀ k, vt.ownBlock = some k → P + 6 ≤ k
  ap : ∀ k, vb.ownBlock = some k → ¬ vt.ownBlock = some k
structure AyM (w w' : World) (P : Nat) (vb vt vb' vt' : Value) : Prop where
  fr : Fr (fun k => k = P + 1 + 1 + 1 ∨ k = P + 1 + 1 + 1 + 1 ∨ vb.ownBlock = some k ∨ vt.ownBlock = some k) w w'
  ob : ∀ k, vb'.ownBlock = some k → vb.ownBlock = some k ∨ w.heap.size ≤ k
  ot : ∀ k, vt'.ownBlock = some k → vt.ownBlock = some k ∨ w.heap.size ≤ k
theorem AyM.on {w w' : World} {P : Nat} {vb vt : Value} (hb : Below w.heap.size w w') : AyM w w' P vb vt vb vt := ⟨below_fr hb _, fun _ e => .inl e, fun _ e => .inl e⟩
theorem AyM.trans {w w' w'' : World} {P : Nat} {vb vt vb' vt' vb2 vt2 : Value} (x : AyM w w' P vb vt vb' vt') (y : AyM w' w'' P vb' vt' vb2 vt2) : AyM w w'' P vb vt vb2 vt2 :=
  ⟨x.fr.trans y.fr (fun k hk => by
    rcases hk with e | e | e | e
    · exact .inl (.inl e)
    · exact .inl (.inr (.inl e))
    · exact (x.ob k e).imp (fun e => .inr (.inr (.inl e))) id
    · exact (x.ot k e).imp (fun e => .inr (.inr (.inr e))) id), fun k hk => (y.ob k hk).elim (x.ob k) (fun e => .inr (Nat.le_trans x.fr.size e)), fun k hk => (y.ot k hk).elim (x.ot k) (fun e => .inr (Nat.le_trans x.fr.size e))⟩
theorem Ay.on {L wr wx : World} {P tt n : Nat} {vb vt : Value} {bl : List (Nat × Nat)} {tl : List Nat} (h : Ay L wr P tt n vb vt bl tl) (hb : Below wr.heap.size wr wx) : Ay L wx P tt n vb vt bl tl :=
  ⟨h.bel.trans (hb.mono h.bel.size), h.le, (hb.block _ (heap_lt h.t)).trans h.t, h.g.on hb, (hb.block _ (heap_lt h.b)).trans h.b, (hb.block _ (heap_lt h.c)).trans h.c, (hb.block _ (heap_lt h.l)).trans h.l, owns_fr h.rb (below_fr hb (fun _ => False)) (fun _ _ e => e), owns_fr h.rt (below_fr hb (fun _ => False)) (fun _ _ e => e), h.fb, h.ft, h.ap⟩
theorem owns_ltA {w : World} {e size n : Nat} {v : Value} {xs : List Value} (h : w.ownsRow 0 e size v n xs) {k : Nat} (hk : v.ownBlock = some k) : k < w.heap.size := by
  rcases h.2 with ⟨hv, _⟩ | ⟨g, cap, cur, hv, _, hg, _⟩
  · rw [hv] at hk; cases hk
  · rw [hv] at hk
    have hk : some g = some k := hk
    injection hk with hk
    rw [← hk]
    exact heap_lt hg
theorem Ay.pushB {L w1 w2 : World} {P tt n : Nat} {vb vt : Value} {bl : List (Nat × Nat)} {tl : List Nat} {b cap : Nat} {f N : Nat} (h : Ay L w1 P tt n vb vt bl tl) (hr : w2.ownsRow 0 50 2 (.slice (some ⟨b, 0, none⟩) (bl.length + 1) cap) (bl.length + 1) (prV bl ++ [.int .i64 (f : Int), .int .i64 (N : Int)])) (hf : Fr (fun k => vb.ownBlock = some k) w1 w2) (hb : vb.ownBlock = some b ∨ w1.heap.size ≤ b) :
    Ay L (w2.setCell ⟨P + 1 + 1 + 1, 0, none⟩ (.slice (some ⟨b, 0, none⟩) (bl.length + 1) cap)) P tt n (.slice (some ⟨b, 0, none⟩) (bl.length + 1) cap) vt (bl ++ [(f, N)]) tl ∧ AyM w1 (w2.setCell ⟨P + 1 + 1 + 1, 0, none⟩ (.slice (some ⟨b, 0, none⟩) (bl.length + 1) cap)) P vb vt (.slice (some ⟨b, 0, none⟩) (bl.length + 1) cap) vt := by
  have hP := heap_lt h.l
  have hle := h.le
  have hs := hf.size
  have hs2 : Fr (fun k => k = P + 1 + 1 + 1) w2 (w2.setCell ⟨P + 1 + 1 + 1, 0, none⟩ (.slice (some ⟨b, 0, none⟩) (bl.length + 1) cap)) := Fr.set
  have hnb : ∀ k, k < P + 6 → ¬ vb.ownBlock = some k := fun k hk e => by have := h.fb k e; omega
  have hb6 : P + 6 ≤ b := by
    rcases hb with e | e
    · exact h.fb b e
    · omega
  have hbel : Below L.heap.size L w2 := h.bel.trans (hf.below _ (fun k hk => by have := h.fb k hk; omega) h.bel.size)
  refine ⟨⟨hbel.trans (hs2.below _ (fun k hk => by have hk : k = P + 1 + 1 + 1 := hk; omega) hbel.size), h.le, hs2.heap (hf.heap h.t (hnb _ (by omega))) (by show ¬ P = P + 1 + 1 + 1; omega), hs2.heap (hf.heap h.g (hnb _ (by omega))) (by show ¬ P + 1 = P + 1 + 1 + 1; omega), heap_setCell_same _ _ 0 _ _ _ (hf.heap h.b (hnb _ (by omega))), hs2.heap (hf.heap h.c (hnb _ (by omega))) (by show ¬ P + 1 + 1 + 1 + 1 = P + 1 + 1 + 1; omega), hs2.heap (hf.heap h.l (hnb _ (by omega))) (by show ¬ P + 1 + 1 + 1 + 1 + 1 = P + 1 + 1 + 1; omega), ?_, owns_fr (owns_fr h.rt hf (fun k hk e => h.ap k e hk)) hs2 (fun k hk e => by have := h.ft k hk; have e : k = P + 1 + 1 + 1 := e; omega), fun k hk => ?_, h.ft, fun k hk e => ?_⟩, ⟨?_, ?_, ?_⟩⟩
  · rw [List.length_append, prV_app]
    exact owns_fr hr hs2 (fun k hk e => by have hk : some b = some k := hk; injection hk with hk; have e : k = P + 1 + 1 + 1 := e; omega)
  · have hk : some b = some k := hk
    injection hk with hk
    omega
  · have hk : some b = some k := hk
    injection hk with hk
    subst hk
    rcases hb with e2 | e2
    · exact h.ap _ e2 e
    · have := owns_ltA h.rt e
      omega
  · refine (hf.mono (fun k hk => .inr (.inr (.inl hk)))).trans hs2 (fun k hk => .inl (.inl hk))
  · intro k hk
    have hk : some b = some k := hk
    injection hk with hk
    subst hk
    exact hb
  · exact fun k hk => .inl hk
theorem Ay.pushT {L w1 w2 : World} {P tt n : Nat} {vb vt : Value} {bl : List (Nat × Nat)} {tl : List Nat} {b cap : Nat} {N : Nat} (h : Ay L w1 P tt n vb vt bl tl) (hr : w2.ownsRow 0 3 1 (.slice (some ⟨b, 0, none⟩) (tl.length + 1) cap) (tl.length + 1) (natV tl ++ [.int .i64 (N : Int)])) (hf : Fr (fun k => vt.ownBlock = some k) w1 w2) (hb : vt.ownBlock = some b ∨ w1.heap.size ≤ b) :
    Ay L (w2.setCell ⟨P + 1 + 1 + 1 + 1, 0, none⟩ (.slice (some ⟨b, 0, none⟩) (tl.length + 1) cap)) P tt n vb (.slice (some ⟨b, 0, none⟩) (tl.length + 1) cap) bl (tl ++ [N]) ∧ AyM w1 (w2.setCell ⟨P + 1 + 1 + 1 + 1, 0, none⟩ (.slice (some ⟨b, 0, none⟩) (tl.length + 1) cap)) P vb vt vb (.slice (some ⟨b, 0, none⟩) (tl.length + 1) cap) := by
  have hP := heap_lt h.l
  have hle := h.le
  have hs := hf.size
  have hs2 : Fr (fun k => k = P + 1 + 1 + 1 + 1) w2 (w2.setCell ⟨P + 1 + 1 + 1 + 1, 0, none⟩ (.slice (some ⟨b, 0, none⟩) (tl.length + 1) cap)) := Fr.set
  have hnb : ∀ k, k < P + 6 → ¬ vt.ownBlock = some k := fun k hk e => by have := h.ft k e; omega
  have hb6 : P + 6 ≤ b := by
    rcases hb with e | e
    · exact h.ft b e
    · omega
  have hbel : Below L.heap.size L w2 := h.bel.trans (hf.below _ (fun k hk => by have := h.ft k hk; omega) h.bel.size)
  refine ⟨⟨hbel.trans (hs2.below _ (fun k hk => by have hk : k = P + 1 + 1 + 1 + 1 := hk; omega) hbel.size), h.le, hs2.heap (hf.heap h.t (hnb _ (by omega))) (by show ¬ P = P + 1 + 1 + 1 + 1; omega), hs2.heap (hf.heap h.g (hnb _ (by omega))) (by show ¬ P + 1 = P + 1 + 1 + 1 + 1; omega), hs2.heap (hf.heap h.b (hnb _ (by omega))) (by show ¬ P + 1 + 1 + 1 = P + 1 + 1 + 1 + 1; omega), heap_setCell_same _ _ 0 _ _ _ (hf.heap h.c (hnb _ (by omega))), hs2.heap (hf.heap h.l (hnb _ (by omega))) (by show ¬ P + 1 + 1 + 1 + 1 + 1 = P + 1 + 1 + 1 + 1; omega), owns_fr (owns_fr h.rb hf (fun k hk e => h.ap k hk e)) hs2 (fun k hk e => by have := h.fb k hk; have e : k = P + 1 + 1 + 1 + 1 := e; omega), ?_, h.fb, fun k hk => ?_, fun k hk e => ?_⟩, ⟨?_, ?_, ?_⟩⟩
  · rw [List.length_append, natV_app]
    exact owns_fr hr hs2 (fun k hk e => by have hk : some b = some k := hk; injection hk with hk; have e : k = P + 1 + 1 + 1 + 1 := e; omega)
  · have hk : some b = some k := hk
    injection hk with hk
    omega
  · have e : some b = some k := e
    injection e with e
    subst e
    rcases hb with e2 | e2
    · exact h.ap _ hk e2
    · have := owns_ltA h.rb hk
      omega
  · refine (hf.mono (fun k hk => .inr (.inr (.inr hk)))).trans hs2 (fun k hk => .inl (.inr (.inl hk)))
  · exact fun k hk => .inl hk
  · intro k hk
    have hk : some b = some k := hk
    injection hk with hk
    subst hk
    exact hb
def AyE (L w : World) (P tt n : Nat) (vb vt : Value) (bl : List (Nat × Nat)) (tl : List Nat) (w' : World) : Prop := ∃ vb' vt', Ay L w' P tt n vb' vt' bl tl ∧ AyM w w' P vb vt vb' vt'
def AnH (L : World) (n P tt len M : Nat) (a fst siz : Nat → Nat) (pB : Nat → List (Nat × Nat)) (pT : Nat → List Nat) : Prop :=
  ∀ j, j < len → a j ≠ 0 → (nD n ≤ a j ∧ a j < n) ∧ ∀ (wx : World) (vb vt : Value) (bl : List (Nat × Nat)) (tl : List Nat), bl.length + tl.length ≤ M → Ay L wx P tt n vb vt bl tl → Calls Tryd.prog 27 #[stV j (fst j) (siz j), .int .i64 (a j : Int), .pointer (some ⟨P + 1 + 1 + 1, 0, none⟩), .pointer (some ⟨P + 1 + 1 + 1 + 1, 0, none⟩), .pointer (some ⟨P, 0, none⟩), .pointer (some ⟨P + 1, 0, none⟩), .pointer (some ⟨P + 1 + 1 + 1 + 1 + 1, 0, none⟩)] wx fun e w' => e = .returned (.int .i64 0) ∧ AyE L wx P tt n vb vt (bl ++ pB j) (tl ++ pT j) w'
def acL {α : Type} (a : Nat → Nat) (p : Nat → List α) : Nat → List α
  | 0 => []
  | j + 1 => acL a p j ++ if a j = 0 then [] else p j
set_option maxRecDepth 100000 in
set_option maxHeartbeats 4000000 in
theorem al_leaf (L : World) (n P tt a f N : Nat) (wx : World) (vb vt : Value) (bl : List (Nat × Nat)) (tl : List Nat) (hl : bl.length + tl.length ≤ 80000) (h : Ay L wx P tt n vb vt bl tl) :
    Calls Tryd.prog 27 #[stV a f 1, .int .i64 (N : Int), .pointer (some ⟨P + 1 + 1 + 1, 0, none⟩), .pointer (some ⟨P + 1 + 1 + 1 + 1, 0, none⟩), .pointer (some ⟨P, 0, none⟩), .pointer (some ⟨P + 1, 0, none⟩), .pointer (some ⟨P + 1 + 1 + 1 + 1 + 1, 0, none⟩)] wx fun e w' => e = .returned (.int .i64 0) ∧ AyE L wx P tt n vb vt (bl ++ [(f, N)]) tl w' := by
  have HT : Hid (∀ wy, Calls Tryd.prog 28 #[.agg #[.int .i64 (a : Int), .int .i64 (f : Int), .int .i64 1]] wy fun e w' => e = .returned (.bool false) ∧ Below wy.heap.size wy w') := fun wy => isTable_any wy a f 1
  obtain ⟨wa, hwa⟩ : ∃ wa, wx.alloc (.cells #[.int .i64 (a : Int), .int .i64 (f : Int), .int .i64 1] 80) = wa := ⟨_, rfl⟩
  have HA : Hid (Below wx.heap.size wx wa ∧ StAt wa wx.heap.size a f 1) := by rw [← hwa]; exact ⟨below_new _, heap_alloc_new _ _⟩
  obtain ⟨y0, y1, y2⟩ := HA.out.2.cells
  have HY : Hid (Ay L wx P tt n vb vt bl tl) := h
  obtain ⟨ba, bc, hvb, hbk⟩ := owns_slice h.rb
  subst hvb
  unfold stV
  clear h
  go_enter Tryd.func27, Tryd.ntmps27
  go_upto_region 2 with (go_at_call 28; refine (HT.out _).mono ?_; rintro e w1 ⟨rfl, hb⟩; have H1 : Hid (Below wx.heap.size wx w1) := HA.out.1.trans (hb.mono HA.out.1.size); have HS1 : Hid (StAt w1 wx.heap.size a f 1) := HA.out.2.on hb; clear hb HT)
  clear y0 y1 y2
  obtain ⟨y0, y1, y2⟩ := HS1.out.cells
  have h1 := HY.out.on H1.out
  have HY1 : Hid (Ay L w1 P tt n _ vt bl tl) := h1
  have b0 : w1.cell? ⟨P + 1 + 1 + 1, 0, none⟩ = some (.slice ba bl.length bc) := by rw [cell_of_row _ _ _ _ _ _ h1.b]; rfl
  clear h1
  go_wp2_with (at_builtin; refine wp_pair rfl (.tmp 15) (.tmp 20) rfl (.slice ba bl.length bc) bl.length (prV bl) rfl rfl (f : Int) (N : Int) HY1.out.rb (by omega) ?_; intro b cap w2 g1 g2 g3; have H2 : Hid (w2.ownsRow 0 50 2 (.slice (some ⟨b, 0, none⟩) (bl.length + 1) cap) (bl.length + 1) (prV bl ++ [.int .i64 (f : Int), .int .i64 (N : Int)]) ∧ Fr (fun k => (Value.slice ba bl.length bc).ownBlock = some k) w1 w2 ∧ ((Value.slice ba bl.length bc).ownBlock = some b ∨ w1.heap.size ≤ b)) := ⟨g1, g2, g3⟩; have hbb := g2.heap HY1.out.b (fun e => by have h9 := HY1.out.fb _ e; omega); have HBb := Hid.intro_ hbb; have v0 : w2.cell? ⟨P + 1 + 1 + 1, 0, none⟩ = some (.slice ba bl.length bc) := (by rw [cell_of_row _ _ _ _ _ _ hbb]; rfl); have v1 : w2.frozen? ⟨P + 1 + 1 + 1, 0, none⟩ = false := frozen_of_row _ _ _ _ _ hbb; clear g1 g2 g3 hbb)
  go_ret
  have hp := HY1.out.pushB H2.out.1 H2.out.2.1 H2.out.2.2
  exact ⟨rfl, _, _, hp.1, (AyM.on H1.out).trans hp.2⟩
end Go.Proofs.YtgmccpimpbnnpaaDoor
