import Derived.Test.YtpbpblpbjkegfaaSpS
namespace Go.Proofs.Ytpbpblpbjkegfaa
open Go.RowKit Go.Maps Rec

theorem infoI9 : (Try.prog.info? 3).map (fun i => (i.zero, i.size, i.bytes)) = some (some (.int .i64 0), 1, 8) := by kernel_rfl
/-- append of one number to a row of numbers -/
theorem wp_int9 {ops : Array Oper} {rest : List Oper} {o : Oper} {a : Act} {Q : Exit → Act → World → Prop} {wx : World} (hgd : o.guard = none) (s x : Operand)
    (ho : o.op = .call { callee := .builtin .append, args := #[s, x], argTypes := #[34, 34] }) (v : Value) (n : Nat) (ss : List Value) (hs : a.eval s = v) (hx : a.eval x = .slice (some ⟨wx.heap.size, 0, none⟩) 1 1)
    (t : Int) (hR : wx.ownsRow 0 3 1 v n ss) (hn : n ≤ 1000)
    (h : ∀ b cap w', w'.ownsRow 0 3 1 (.slice (some ⟨b, 0, none⟩) (n + 1) cap) (n + 1) (ss ++ [.int .i64 t]) → Fr (fun k => v.ownBlock = some k) wx w' → (v.ownBlock = some b ∨ wx.heap.size ≤ b) → wpList Try.prog ops Q rest (a.put o.dst (.slice (some ⟨b, 0, none⟩) (n + 1) cap)) w') :
    wpList Try.prog ops Q (o :: rest) a (wx.alloc (.cells #[.int .i64 t] 3)) := by
  obtain ⟨i0, hi, hz0, hz1, hz2⟩ := info_parts infoI9
  have hal : Below wx.heap.size wx (wx.alloc (.cells #[.int .i64 t] 3)) := (Below.refl _ _).alloc (Nat.le_refl _) _
  refine wp_own hgd s x 34 ho 3 i0 _ 1 8 Try.underlying34 hi hz0 hz1 hz2 rfl (by decide) v n _ hs (owns_fr hR (below_fr hal (fun _ => False)) (fun _ _ e => e)) ⟨wx.heap.size, 0, none⟩ 1 1 [.int .i64 t] hx (by decide) rfl (fun j u hj => ?_) (fun u hu => ?_) (by unfold maxLen; omega) (by omega) ?_
  · cases j with
    | zero => cases hj; rw [Addr.add_lit]; rw [cell_of_row _ _ _ _ _ _ (heap_alloc_new _ _)]; rfl
    | succ j => simp at hj
  · rw [List.mem_singleton.1 hu]; rfl
  · intro b cap w' h1 h2 h3
    refine h b cap w' h1 ((below_fr hal (fun k => v.ownBlock = some k)).trans h2 (fun k hk => .inl hk)) ?_
    rcases h3 with h3 | h3
    · exact .inl h3
    · exact .inr (Nat.le_trans hal.size h3)
/-- numbers as cells -/
def nat9V (l : List Nat) : List Value := l.map fun (x : Nat) => Value.int .i64 (x : Int)
theorem nat9V_snoc (l : List Nat) (x : Nat) : nat9V (l ++ [x]) = nat9V l ++ [.int .i64 (x : Int)] := by simp [nat9V]
/-- those below i that have it -/
def fl (f : Nat → Bool) (i : Nat) : List Nat := (List.range i).filter f
theorem fl_next_t {f : Nat → Bool} {i : Nat} (h : f i = true) : fl f (i + 1) = fl f i ++ [i] := by simp [fl, List.range_succ, List.filter_append, h]
theorem fl_next_f {f : Nat → Bool} {i : Nat} (h : f i = false) : fl f (i + 1) = fl f i := by simp [fl, List.range_succ, List.filter_append, h]
theorem fl_mem {f : Nat → Bool} {i j : Nat} : j ∈ fl f i ↔ j < i ∧ f j = true := by simp [fl]
theorem fl_lt (f : Nat → Bool) (i : Nat) : (fl f i).Pairwise (· < ·) := by
  induction i with
  | zero => exact List.Pairwise.nil
  | succ i ih =>
    cases h : f i with
    | false => rw [fl_next_f h]; exact ih
    | true =>
      rw [fl_next_t h]
      refine List.pairwise_append.2 ⟨ih, List.pairwise_singleton _ _, fun a ha b hb => ?_⟩
      rw [List.mem_singleton.1 hb]
      exact (fl_mem.1 ha).1
theorem fl_len (f : Nat → Bool) (i : Nat) : (fl f i).length = ct f i := by
  induction i with
  | zero => rfl
  | succ i ih =>
    cases h : f i with
    | false => rw [fl_next_f h, ct, ih, h]; rfl
    | true => rw [fl_next_t h, ct, List.length_append, ih, h]; rfl
theorem fl_none {f : Nat → Bool} {i : Nat} (h : ∀ j, j < i → f j = false) : fl f i = [] := by
  rw [← List.length_eq_zero_iff, fl_len]
  exact ct_zero.2 h
/-- in a list -/
def inL (l : List Nat) (j : Nat) : Bool := decide (j ∈ l)
theorem inL_cons (i : Nat) (r : List Nat) : inL (i :: r) = fun j => if j = i then true else inL r j := by
  funext j
  unfold inL
  by_cases e : j = i
  · rw [if_pos e, e]; simp
  · rw [if_neg e]
    congr 1
    apply propext
    simp [e]
theorem inL_rest {i : Nat} {r : List Nat} (h : i ∉ r) : (fun j => if j = i then false else inL (i :: r) j) = inL r := by
  funext j
  rw [inL_cons]
  by_cases e : j = i
  · rw [if_pos e, e]; unfold inL; rw [decide_eq_false h]
  · rw [if_neg e]; dsimp only; rw [if_neg e]
theorem inL_snoc (r : List Nat) (i : Nat) : (fun j => if j = i then true else inL r j) = inL (r ++ [i]) := by
  funext j
  unfold inL
  by_cases e : j = i
  · rw [if_pos e, e]; simp
  · rw [if_neg e]
    congr 1
    apply propext
    simp [e]
theorem ct_inL {r : List Nat} {n : Nat} (h : r.Nodup) (hn : ∀ j, j ∈ r → j < n) : ct (inL r) n = r.length := by
  induction r with
  | nil => exact ct_zero.2 (fun j _ => by simp [inL])
  | cons i r ih =>
    have h1 := List.nodup_cons.1 h
    have h2 := ih h1.2 (fun j hj => hn j (List.mem_cons_of_mem _ hj))
    have h3 := ct_set (f := inL r) (hn i (List.mem_cons_self ..)) true
    rw [← inL_cons, h2] at h3
    have h4 : inL r i = false := by unfold inL; exact decide_eq_false h1.1
    rw [h4] at h3
    simp at h3
    rw [h3, List.length_cons]
theorem fl_nodup (f : Nat → Bool) (i : Nat) : (fl f i).Nodup := (fl_lt f i).imp (fun h => by omega)
theorem inL_fl {f : Nat → Bool} {n : Nat} (h : ∀ j, f j = true → j < n) : inL (fl f n) = f := by
  funext j
  unfold inL
  cases e : f j with
  | true => exact decide_eq_true (fl_mem.2 ⟨h j e, e⟩)
  | false => exact decide_eq_false (fun x => by rw [(fl_mem.1 x).2] at e; cases e)
theorem drop_cons {l : List Nat} {k : Nat} (h : k < l.length) : l.drop k = l[k] :: l.drop (k + 1) := List.drop_eq_getElem_cons h
theorem getD9 {l : List Nat} {j : Nat} (h : j < l.length) : l.getD j 0 = l[j] := by simp [h]
theorem nodup9 {l : List Nat} (hl : l.Pairwise (· < ·)) {i j : Nat} (hi : i < l.length) (hj : j < l.length) (e : l[i] = l[j]) : i = j := by
  rcases Nat.lt_trichotomy i j with h | h | h
  · have := List.pairwise_iff_getElem.1 hl i j hi hj h; omega
  · exact h
  · have := List.pairwise_iff_getElem.1 hl j i hj hi h; omega
theorem lo_drop {l : List Nat} (hl : l.Pairwise (· < ·)) {k : Nat} (h : k < l.length) : IsLo (inL (l.drop k)) l[k] ∧ l[k] ∉ l.drop (k + 1) := by
  have hp : (l.drop k).Pairwise (· < ·) := hl.sublist (List.drop_sublist k l)
  rw [drop_cons h] at hp
  have h1 := List.pairwise_cons.1 hp
  have h0 : inL (l.drop k) = inL (l[k] :: l.drop (k + 1)) := by rw [← drop_cons h]
  rw [h0]
  refine ⟨⟨by unfold inL; exact decide_eq_true (List.mem_cons_self ..), fun j hj => ?_⟩, fun x => ?_⟩
  · unfold inL
    refine decide_eq_false (fun x => ?_)
    rcases List.mem_cons.1 x with e | e
    · omega
    · have := h1.1 j e; omega
  · have := h1.1 _ x; omega
/-- the k first that are given back, from place o on, round about -/
def gv (l : List Nat) (o k : Nat) : List Nat := (List.range k).map fun m => l.getD ((m + o) % l.length) 0
theorem gv_next (l : List Nat) (o k : Nat) : gv l o (k + 1) = gv l o k ++ [l.getD ((k + o) % l.length) 0] := by simp [gv, List.range_succ]
theorem mod2 {x n : Nat} (h : x < n + n) : x % n = if x < n then x else x - n := by
  by_cases e : x < n
  · rw [if_pos e, Nat.mod_eq_of_lt e]
  · rw [if_neg e, Nat.mod_eq_sub_mod (by omega), Nat.mod_eq_of_lt (by omega)]
theorem gv_new {l : List Nat} (hl : l.Pairwise (· < ·)) {o k : Nat} (ho : o < l.length) (hk : k < l.length) : l.getD ((k + o) % l.length) 0 ∉ gv l o k := by
  intro x
  obtain ⟨m, hm, e⟩ := List.mem_map.1 x
  have hm := List.mem_range.1 hm
  have h1 := Nat.mod_lt (k + o) (show 0 < l.length by omega)
  have h2 := Nat.mod_lt (m + o) (show 0 < l.length by omega)
  rw [getD9 h1, getD9 h2] at e
  have e2 := nodup9 hl h2 h1 e
  rw [mod2 (by omega), mod2 (by omega)] at e2
  split at e2 <;> split at e2 <;> omega
theorem gv_all {l : List Nat} {o : Nat} (ho : o < l.length) (j : Nat) : j ∈ gv l o l.length ↔ j ∈ l := by
  constructor
  · intro x
    obtain ⟨m, hm, e⟩ := List.mem_map.1 x
    have h2 := Nat.mod_lt (m + o) (show 0 < l.length by omega)
    rw [getD9 h2] at e
    rw [← e]
    exact List.getElem_mem h2
  · intro x
    obtain ⟨p, hp, e⟩ := List.getElem_of_mem x
    refine List.mem_map.2 ⟨if o ≤ p then p - o else p + l.length - o, List.mem_range.2 (by split <;> omega), ?_⟩
    have h3 : ((if o ≤ p then p - o else p + l.length - o) + o) % l.length = p := by
      rw [mod2 (by split <;> omega)]
      split <;> split <;> omega
    rw [h3, getD9 hp, e]
theorem gv_mem {l : List Nat} {o k j : Nat} (h0 : 0 < l.length) (h : j ∈ gv l o k) : j ∈ l := by
  obtain ⟨m, hm, e⟩ := List.mem_map.1 h
  have h2 := Nat.mod_lt (m + o) h0
  rw [getD9 h2] at e
  rw [← e]
  exact List.getElem_mem h2
theorem gv_nodup {l : List Nat} (hl : l.Pairwise (· < ·)) {o : Nat} (ho : o < l.length) {k : Nat} (hk : k ≤ l.length) : (gv l o k).Nodup := by
  induction k with
  | zero => exact List.Pairwise.nil
  | succ k ih =>
    rw [gv_next]
    refine List.nodup_append.2 ⟨ih (by omega), by simp, fun a ha b hb => ?_⟩
    rw [List.mem_singleton.1 hb]
    intro e
    exact gv_new hl ho hk (e ▸ ha)
theorem gv_len (l : List Nat) (o k : Nat) : (gv l o k).length = k := by simp [gv]
/-- a law's session, with a row of numbers at hand -/
structure Fv (w0 w : World) (D : Dk) (T : Tx) (n P : Nat) (a : Option Addr) (l : List Nat) : Prop where
  spc : Spc w0 w D T n
  geo : GeoAt w P n
  aP : ¬ T.all P
  ex : l = [] ∨ ∃ g, a = some ⟨g, 0, none⟩ ∧ ¬ T.all g ∧ g < w.heap.size ∧ ∀ j (h : j < l.length), w.cell? ⟨g, j, none⟩ = some (.int .i64 (l[j] : Int))
theorem Fv.on {w0 w w' : World} {D : Dk} {T : Tx} {n P : Nat} {a : Option Addr} {l : List Nat} (h : Fv w0 w D T n P a l) (hb : Below w.heap.size w w') : Fv w0 w' D T n P a l := by
  refine ⟨h.spc.on hb, h.geo.on hb, h.aP, ?_⟩
  rcases h.ex with e | ⟨g, h1, h2, h3, h4⟩
  · exact .inl e
  · exact .inr ⟨g, h1, h2, Nat.lt_of_lt_of_le h3 hb.size, fun j hj => (hb.cell (p := ⟨g, j, none⟩) h3).trans (h4 j hj)⟩
theorem Fv.mv {w0 w w' : World} {D : Dk} {T T' : Tx} {n P : Nat} {a : Option Addr} {l : List Nat} (h : Fv w0 w D T n P a l) (s : Spc w0 w' D T' n) (m : TMv w T w' T') : Fv w0 w' D T' n P a l := by
  obtain ⟨g1, g2⟩ := geo_mv h.geo h.aP m
  refine ⟨s, g1, g2, ?_⟩
  rcases h.ex with e | ⟨g, h1, h2, h3, h4⟩
  · exact .inl e
  · refine .inr ⟨g, h1, fun e => ?_, Nat.lt_of_lt_of_le h3 m.fr.size, fun j hj => m.fr.cell (h4 j hj) (fun e => h2 (.inl e))⟩
    rcases m.al _ e with e | e
    · exact h2 e
    · omega
/-- k of them are taken -/
structure Fl2 (w0 w : World) (D : Dk) (T : Tx) (n P : Nat) (a : Option Addr) (l : List Nat) (k : Nat) : Prop where
  fv : Fv w0 w D T n P a l
  fde : fd (nD n) n (bmp D T) = inL (l.drop k)
  dom : ∀ j, nD n ≤ j → (T.c j).isSome = inL (l.take k) j
  dom0 : (T.c 98).isSome = decide (0 < k)
  cnt : (lst T.c n).length = k + (if 0 < k then 1 else 0)
  us : T.us.length = 2 * k
theorem Fl2.on {w0 w w' : World} {D : Dk} {T : Tx} {n P k : Nat} {a : Option Addr} {l : List Nat} (h : Fl2 w0 w D T n P a l k) (hb : Below w.heap.size w w') : Fl2 w0 w' D T n P a l k := ⟨h.fv.on hb, h.fde, h.dom, h.dom0, h.cnt, h.us⟩
/-- rising numbers of data blocks -/
structure Lf (l : List Nat) (n : Nat) : Prop where
  lt : l.Pairwise (· < ·)
  bd : ∀ j, j ∈ l → nD n ≤ j ∧ j < n
  len : l.length ≤ 90
  n4 : n ≤ 4096
theorem Lf.nd {l : List Nat} {n : Nat} (h : Lf l n) : l.Nodup := h.lt.imp (fun h => by omega)
theorem Fl2.free {w0 w : World} {D : Dk} {T : Tx} {n P k : Nat} {a : Option Addr} {l : List Nat} (h : Fl2 w0 w D T n P a l k) (L : Lf l n) : ct (fd (nD n) n (bmp D T)) n = l.length - k := by
  rw [h.fde, ct_inL (L.nd.sublist (List.drop_sublist k l)) (fun j hj => (L.bd j (List.mem_of_mem_drop hj)).2), List.length_drop]
theorem Fl2.take {w0 w : World} {D : Dk} {T : Tx} {n P k : Nat} {a : Option Addr} {l : List Nat} (h : Fl2 w0 w D T n P a l k) (L : Lf l n) (hk : k < l.length) :
    Calls Try.prog 6 #[.pointer (some ⟨T.t, 0, none⟩), geoV n] w fun e w' => e = .returned (.tuple #[.int .i64 (l[k] : Int), .int .i64 0]) ∧ ∃ T', T'.t = T.t ∧ Fl2 w0 w' D T' n P a l (k + 1) ∧ tv D T' l[k] = one 0 := by
  obtain ⟨hlo, hni⟩ := lo_drop L.lt hk
  have hbd := L.bd l[k] (List.getElem_mem hk)
  have hlen := L.len
  have hn4 := L.n4
  have hN := nM_bd h.fv.spc.lo h.fv.spc.hi
  have h0 : l[k] / 4096 = 0 := Nat.div_eq_of_lt (by omega)
  have hci : (T.c l[k]).isSome = false := by
    rw [h.dom _ hbd.1]
    refine decide_eq_false (fun x => ?_)
    obtain ⟨m, hm, e⟩ := List.getElem_of_mem x
    rw [List.getElem_take] at e
    have hm2 : m < k := by rw [List.length_take] at hm; omega
    have := nodup9 L.lt (by omega) hk e
    omega
  have hcnt := h.cnt
  refine (stake_ok w0 w D T n h.fv.spc l[k] (by rw [h.fde]; exact hlo) (.inr (by rw [hcnt]; split <;> omega)) (.inr (by rw [hcnt]; split <;> split <;> omega)) (by rw [h.us]; omega)).mono ?_
  rintro e w' ⟨rfl, T', g⟩
  obtain ⟨q, q2, hc, _⟩ := g.c
  rw [h0, Nat.add_zero] at hc
  refine ⟨rfl, T', g.mv.t, ⟨h.fv.mv g.spc g.mv, ?_, fun j hj => ?_, ?_, ?_, by rw [g.u, h.us]; omega⟩, ?_⟩
  · rw [take_fd h.fv.spc g hbd.1 hbd.2, h.fde, drop_cons hk, inL_rest hni]
  · rw [hc]
    by_cases e : j = l[k]
    · rw [e, ups_same]
      unfold inL
      symm
      refine decide_eq_true ?_
      have ht : l.take (k + 1) = l.take k ++ [l[k]] := by rw [List.take_add_one, List.getElem?_eq_getElem hk]; rfl
      rw [ht]
      exact List.mem_append_right _ (List.mem_singleton.2 rfl)
    · rw [ups_other _ _ e, ups_other _ _ (by omega), h.dom j hj]
      unfold inL
      congr 1
      apply propext
      have ht : l.take (k + 1) = l.take k ++ [l[k]] := by rw [List.take_add_one, List.getElem?_eq_getElem hk]; rfl
      rw [ht, List.mem_append, List.mem_singleton]
      exact ⟨.inl, fun x => x.resolve_right e⟩
  · rw [hc, ups_other _ _ (by omega), ups_same]
    simp
  · rw [hc, lst_len_ups hbd.2, ups_other _ _ (by omega), lst_len_ups (by omega), hci, h.dom0, hcnt]
    by_cases e : 0 < k
    · simp [e]
    · simp [e]
  · rw [take_tv h.fv.spc g hbd.2 _ hbd.1, if_pos rfl]; rfl
/-- all were taken, k of them are given back -/
structure Fl3 (w0 w : World) (D : Dk) (T : Tx) (n P : Nat) (a : Option Addr) (l : List Nat) (o k : Nat) : Prop where
  fv : Fv w0 w D T n P a l
  fde : fd (nD n) n (bmp D T) = inL (gv l o k)
  dom : ∀ j, j ∈ l → (T.c j).isSome = true
  dom0 : 0 < l.length → (T.c 98).isSome = true
  us : T.us.length = 2 * l.length + k
theorem Fl3.on {w0 w w' : World} {D : Dk} {T : Tx} {n P k o : Nat} {a : Option Addr} {l : List Nat} (h : Fl3 w0 w D T n P a l o k) (hb : Below w.heap.size w w') : Fl3 w0 w' D T n P a l o k := ⟨h.fv.on hb, h.fde, h.dom, h.dom0, h.us⟩
theorem Fl2.done {w0 w : World} {D : Dk} {T : Tx} {n P : Nat} {a : Option Addr} {l : List Nat} (h : Fl2 w0 w D T n P a l l.length) (L : Lf l n) (o : Nat) : Fl3 w0 w D T n P a l o 0 := by
  refine ⟨h.fv, by rw [h.fde, List.drop_length]; rfl, fun j hj => ?_, fun h0 => by rw [h.dom0]; exact decide_eq_true h0, h.us⟩
  rw [h.dom j (L.bd j hj).1, List.take_length]
  exact decide_eq_true hj
theorem Fl3.give {w0 w : World} {D : Dk} {T : Tx} {n P k o : Nat} {a : Option Addr} {l : List Nat} (h : Fl3 w0 w D T n P a l o k) (L : Lf l n) (ho : o < l.length) (hk : k < l.length) (i : Nat) (hi : l.getD ((k + o) % l.length) 0 = i) :
    Calls Try.prog 14 #[.pointer (some ⟨T.t, 0, none⟩), geoV n, .int .i64 (i : Int)] w fun e w' => e = .returned (.int .i64 0) ∧ ∃ T', T'.t = T.t ∧ Fl3 w0 w' D T' n P a l o (k + 1) ∧ isT (bmp D T') i = false := by
  have hnew := gv_new L.lt ho hk
  have h1 := Nat.mod_lt (k + o) (show 0 < l.length by omega)
  have hm : i ∈ l := by rw [← hi, getD9 h1]; exact List.getElem_mem h1
  rw [hi] at hnew
  have hbd := L.bd i hm
  have hlen := L.len
  have hn4 := L.n4
  have h0 : i / 4096 = 0 := Nat.div_eq_of_lt (by omega)
  have hb : isT (bmp D T) i = true := by
    rw [isT_fd hbd.1 hbd.2, h.fde]
    unfold inL
    rw [decide_eq_false hnew]; rfl
  refine (give_ok w0 w D T n h.fv.spc i hbd.1 hbd.2 hb (.inl (by rw [h0]; exact h.dom0 (by omega))) (by rw [h.us]; omega)).mono ?_
  rintro e w' ⟨rfl, T', g⟩
  obtain ⟨q, hc, _⟩ := g.c
  rw [h0, Nat.add_zero] at hc
  have hf : fd (nD n) n (bmp D T') = inL (gv l o (k + 1)) := by
    rw [give_fd h.fv.spc g hbd.1 hbd.2, h.fde, inL_snoc, gv_next, hi]
  refine ⟨rfl, T', g.t, ⟨h.fv.mv g.spc g.mv, hf, fun j hj => ?_, fun _ => by rw [hc, ups_same]; rfl, by rw [g.u, h.us]; omega⟩, ?_⟩
  · rw [hc]
    by_cases e : j = 98
    · rw [e, ups_same]; rfl
    · rw [ups_other _ _ e]; exact h.dom j hj
  · rw [isT_fd hbd.1 hbd.2, hf, gv_next, hi]
    simp [inL]
theorem Fl3.free {w0 w : World} {D : Dk} {T : Tx} {n P k o : Nat} {a : Option Addr} {l : List Nat} (h : Fl3 w0 w D T n P a l o k) (L : Lf l n) (ho : o < l.length) (hk : k ≤ l.length) : ct (fd (nD n) n (bmp D T)) n = k := by
  rw [h.fde, ct_inL (gv_nodup L.lt ho hk) (fun j hj => (L.bd j (gv_mem (by omega) hj)).2), gv_len]
/-- behind all that the lowest comes first -/
theorem Fl3.take {w0 w : World} {D : Dk} {T : Tx} {n P o : Nat} {a : Option Addr} {l : List Nat} (h : Fl3 w0 w D T n P a l o l.length) (L : Lf l n) (ho : o < l.length) :
    Calls Try.prog 6 #[.pointer (some ⟨T.t, 0, none⟩), geoV n] w fun e w' => e = .returned (.tuple #[.int .i64 (l[0]'(by omega) : Int), .int .i64 0]) ∧ ∃ T', T'.t = T.t ∧ Fv w0 w' D T' n P a l := by
  have h0 : 0 < l.length := by omega
  have hlo : IsLo (fd (nD n) n (bmp D T)) l[0] := by
    have e : inL (gv l o l.length) = inL (l.drop 0) := by
      funext j
      unfold inL
      congr 1
      exact propext (gv_all ho j)
    rw [h.fde, e]
    exact (lo_drop L.lt h0).1
  have hbd := L.bd l[0] (List.getElem_mem h0)
  have hlen := L.len
  have hn4 := L.n4
  have hd : l[0] / 4096 = 0 := Nat.div_eq_of_lt (by omega)
  refine (stake_ok w0 w D T n h.fv.spc l[0] hlo (.inl (by rw [hd]; exact h.dom0 h0)) (.inl (h.dom _ (List.getElem_mem h0))) (by rw [h.us]; omega)).mono ?_
  rintro e w' ⟨rfl, T', g⟩
  exact ⟨rfl, T', g.mv.t, h.fv.mv g.spc g.mv⟩
end Go.Proofs.Ytpbpblpbjkegfaa

namespace Go.Proofs.Ytpbpblpbjkegfaa
open Go.RowKit Go.Maps Rec

theorem below_box {w : World} {o : Obj} {v : Value} : Below w.heap.size w ((w.alloc o).setCell ⟨w.heap.size, 0, none⟩ v) := by
  have h1 : Below w.heap.size w (w.alloc o) := (Below.refl _ _).alloc (Nat.le_refl _) _
  exact h1.trans ((Fr.set (g := w.heap.size)).below _ (fun k hk => by have hk : k = w.heap.size := hk; omega) h1.size)
/-- the first loop's state: those that are free up to here -/
structure Fl1 (w0 w : World) (D : Dk) (T : Tx) (n P : Nat) (v : Value) (l : List Nat) : Prop where
  spc : Spc w0 w D T n
  geo : GeoAt w P n
  row : w.ownsRow 0 3 1 v l.length (nat9V l)
  far : ∀ k, v.ownBlock = some k → P < k
theorem Fl1.on {w0 w w' : World} {D : Dk} {T : Tx} {n P : Nat} {v : Value} {l : List Nat} (h : Fl1 w0 w D T n P v l) (hb : Below w.heap.size w w') : Fl1 w0 w' D T n P v l := ⟨h.spc.on hb, h.geo.on hb, owns_fr h.row (below_fr hb (fun _ => False)) (fun _ _ e => e), h.far⟩
theorem Fl1.app {w0 w w' : World} {D : Dk} {T : Tx} {n P : Nat} {v : Value} {l : List Nat} (h : Fl1 w0 w D T n P v l) (hP : w0.heap.size ≤ P) (hT : ∀ k, T.all k → k < P) (hD : ∀ k, D.all k → k < P) {b cap i : Nat} (hr : w'.ownsRow 0 3 1 (.slice (some ⟨b, 0, none⟩) (l.length + 1) cap) (l.length + 1) (nat9V l ++ [.int .i64 (i : Int)])) (hf : Fr (fun k => v.ownBlock = some k) w w') (hb : v.ownBlock = some b ∨ w.heap.size ≤ b) : Fl1 w0 w' D T n P (.slice (some ⟨b, 0, none⟩) (l.length + 1) cap) (l ++ [i]) := by
  have hg := heap_lt h.geo
  refine ⟨⟨h.spc.ses.fr hf (fun k hk => by have := h.far k hk; omega) (fun k hk e => by have := h.far k e; have := hT k hk; omega) (fun k hk e => by have := h.far k e; have := hD k hk; omega), h.spc.dn, h.spc.nb, h.spc.lo, h.spc.hi, h.spc.ok⟩, hf.heap h.geo (fun e => by have := h.far P e; omega), ?_, fun k hk => ?_⟩
  · rw [nat9V_snoc, List.length_append]; exact hr
  · have hk : some b = some k := hk
    injection hk with hk
    rcases hb with e | e
    · have := h.far b e; omega
    · omega
theorem Fl1.fv {w0 w : World} {D : Dk} {T : Tx} {n P : Nat} {v : Value} {l : List Nat} (h : Fl1 w0 w D T n P v l) (hT : ∀ k, T.all k → k < P) : ∃ a c, v = .slice a l.length c ∧ Fv w0 w D T n P a l := by
  obtain ⟨a, c, hv, _, h1, h2⟩ := owns_slice h.row
  refine ⟨a, c, hv, h.spc, h.geo, fun e => by have := hT P e; omega, ?_⟩
  rcases h1 with e | ⟨g, rfl⟩
  · exact .inl (List.eq_nil_of_length_eq_zero e)
  · by_cases e0 : l = []
    · exact .inl e0
    · have hl : 0 < l.length := List.length_pos_iff.2 e0
      obtain ⟨_, hc, _⟩ := h2 g 0 rfl
      have hcell : ∀ j (h : j < l.length), w.cell? ⟨g, j, none⟩ = some (.int .i64 (l[j] : Int)) := fun j hj => hc j _ (by unfold nat9V; rw [List.getElem?_map, List.getElem?_eq_getElem hj]; rfl)
      refine .inr ⟨g, rfl, fun e => ?_, block_lt_of_cell (hcell 0 hl), hcell⟩
      have h3 := h.far g (by rw [hv]; rfl)
      have := hT g e
      omega
theorem Fl2.isT {w0 w : World} {D : Dk} {T : Tx} {n P k : Nat} {a : Option Addr} {l : List Nat} (h : Fl2 w0 w D T n P a l (k + 1)) (L : Lf l n) (hk : k < l.length) : isT (bmp D T) l[k] = true := by
  have hbd := L.bd l[k] (List.getElem_mem hk)
  rw [isT_fd hbd.1 hbd.2, h.fde]
  unfold inL
  rw [decide_eq_false (lo_drop L.lt hk).2]
  rfl
theorem Fl3.freeAll {w0 w : World} {D : Dk} {T : Tx} {n P o : Nat} {a : Option Addr} {l : List Nat} (h : Fl3 w0 w D T n P a l o l.length) (L : Lf l n) (ho : o < l.length ∨ l = []) : ct (fd (nD n) n (bmp D T)) n = l.length := by
  rcases ho with ho | rfl
  · exact h.free L ho (Nat.le_refl _)
  · rw [h.fde]; exact ct_zero.2 (fun j _ => rfl)
theorem taken9 (w : World) (a : Option Addr) (L c : Nat) : Calls Try.prog 17 #[.slice a L c] w fun e w' => e = .returned (.int .i64 (if 0 < L then 1 else 0)) ∧ w = w' := by
  go_enter Try.func17, Try.ntmps17
  by_cases h : 0 < L
  · rw [if_pos h]
    have h' : (0 : Int) < (L : Int) := by omega
    go_wp2
    go_ret
    exact ⟨rfl, rfl⟩
  · rw [if_neg h]
    have h' : ¬ (0 : Int) < (L : Int) := by omega
    go_wp2
    go_ret
    exact ⟨rfl, rfl⟩
end Go.Proofs.Ytpbpblpbjkegfaa
