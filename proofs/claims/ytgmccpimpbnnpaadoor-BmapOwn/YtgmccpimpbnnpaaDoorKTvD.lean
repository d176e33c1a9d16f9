import Derived.Test.YtgmccpimpbnnpaaDoorKTxA
import Derived.Test.YtgmccpimpbnnpaaDoorKTxBm
import Derived.Test.YtgmccpimpbnnpaaDoorKSpC
namespace Go.Proofs.YtgmccpimpbnnpaaDoor
open Go.RowKit Go.Maps Rec
def tv (D : Dk) (T : Tx) (i : Nat) : List Int := match T.c i with | some q => q.x | none => bck D.full i
def nM (n : Nat) : Nat := (n + 4095) / 4096
def nD (n : Nat) : Nat := 98 + nM n + n / 64
theorem gI_nat (n : Nat) : gI (n : Int) = ((98 + nM n : Nat) : Int) := by unfold gI nM; omega
theorem gD_nat (n : Nat) : gD (n : Int) = ((nD n : Nat) : Int) := by unfold gD nD; rw [gI_nat]; omega
theorem nM_bd {n : Nat} (h0 : 128 ≤ n) (h1 : n ≤ 16384) : 1 ≤ nM n ∧ nM n ≤ 4 ∧ n ≤ 4096 * nM n ∧ 98 + nM n < nD n ∧ nD n < n ∧ 4096 * nM n ≤ n + 4095 := by unfold nD nM; omega
structure Spc (w0 w : World) (D : Dk) (T : Tx) (n : Nat) : Prop where
  ses : Ses w0 w D T
  dn : D.down = false
  nb : T.nb = n
  lo : 128 ≤ n
  hi : n ≤ 16384
  ok : ∀ i, i < n → (tv D T i).length = 512 ∧ ∀ j, 0 ≤ nth (tv D T i) j ∧ nth (tv D T i) j < 256
theorem Spc.on {w0 w w' : World} {D : Dk} {T : Tx} {n : Nat} (h : Spc w0 w D T n) (hb : Below w.heap.size w w') : Spc w0 w' D T n := ⟨h.ses.on hb, h.dn, h.nb, h.lo, h.hi, h.ok⟩
theorem Spc.read {w0 w : World} {D : Dk} {T : Tx} {n : Nat} (h : Spc w0 w D T n) (i : Nat) (hi : i < n) :
    Calls Tryd.prog 52 #[.pointer (some ⟨T.t, 0, none⟩), .int .i64 (i : Int)] w fun e w' => ∃ g cap, e = .returned (.tuple #[.slice (some ⟨g, 0, none⟩) 512 cap, .int .i64 0]) ∧ w.heap.size ≤ g ∧ OwnB w' g cap (tv D T i) ∧ Below w.heap.size w w' :=
  tread_any w T D h.ses.tx h.ses.dk.disk h.ses.d h.ses.nb h.dn i (by rw [h.nb]; exact hi)
structure WrE (w0 w w' : World) (D : Dk) (T T' : Tx) (n a : Nat) (x : List Int) : Prop where
  mv : TMv w T w' T'
  spc : Spc w0 w' D T' n
  t : T'.t = T.t
  c : ∃ q : Bk, T'.c = ups T.c a (some q) ∧ q.x = x
  u : ∃ u : Un, T'.us = T.us ++ [u] ∧ u.i = a ∧ u.old = T.c a
structure PutE (w0 w w' : World) (D : Dk) (T T' : Tx) (n a : Nat) (x : List Int) (g : Nat) : Prop where
  mv : ∃ w1, Fr (fun k => k = g) w w1 ∧ TMv w1 T w' T'
  spc : Spc w0 w' D T' n
  t : T'.t = T.t
  c : ∃ q : Bk, T'.c = ups T.c a (some q) ∧ q.x = x
  u : ∃ u : Un, T'.us = T.us ++ [u] ∧ u.i = a ∧ u.old = T.c a
theorem tv_ups {D : Dk} {T T' : Tx} {a : Nat} {q : Bk} (hc : T'.c = ups T.c a (some q)) (j : Nat) : tv D T' j = if j = a then q.x else tv D T j := by
  unfold tv
  rw [hc]
  by_cases e : j = a
  · subst e; rw [ups_same, if_pos rfl]
  · rw [ups_other _ _ e, if_neg e]
theorem Spc.write {w0 w : World} {D : Dk} {T : Tx} {n : Nat} (h : Spc w0 w D T n) (a : Nat) (h0 : 98 ≤ a) (h1 : a < n) (p : Addr) (c : Nat) (x : List Int) (hb : Bytes w (some p) x) (hx : x.length = 512) (hr : (T.c a).isSome = true ∨ (lst T.c n).length < 96) (hu : T.us.length + 1 ≤ 1000000) :
    Calls Tryd.prog 65 #[.pointer (some ⟨T.t, 0, none⟩), .int .i64 (a : Int), .slice (some p) 512 c] w fun e w' => e = .returned (.int .i64 0) ∧ ∃ T', WrE w0 w w' D T T' n a x := by
  refine (ses_write w0 w D T h.ses a h0 (by rw [h.nb]; exact h1) p c x hb hx (by rw [h.nb]; exact hr) hu).mono ?_
  rintro e w' ⟨rfl, T', q, u, hs, hm, hq, hn, hc, hus, hi, ho⟩
  refine ⟨rfl, T', hm, ⟨hs, h.dn, hm.nb.trans h.nb, h.lo, h.hi, fun i hi => ?_⟩, hm.t, ⟨q, hc, hq⟩, ⟨u, hus, hi, ho⟩⟩
  rw [tv_ups hc]
  split
  · rw [hq]; exact ⟨hx, hb.wf⟩
  · exact h.ok i hi
theorem Ses.fr {S : Nat → Prop} {w0 w w' : World} {D : Dk} {T : Tx} (h : Ses w0 w D T) (x : Fr S w w') (h0 : ∀ k, S k → w0.heap.size ≤ k) (h1 : ∀ k, T.all k → ¬ S k) (h2 : ∀ k, D.all k → ¬ S k) : Ses w0 w' D T :=
  ⟨⟨h.dk.disk.fr x h2, h.dk.far, h.dk.bel.trans (x.below _ h0 h.dk.bel.size)⟩, h.tx.fr x h1, h.d, h.nb, h.ap1, h.ap2, h.far⟩
theorem Spc.box {w0 w wb : World} {D : Dk} {T T' : Tx} {n L k : Nat} (hS : Spc w0 w D T n) (h : Spc w0 wb D T' n) (al : ∀ k, T'.all k → T.all k ∨ L ≤ k) (h1 : w.heap.size ≤ k) (h2 : k < L) (v : Value) : Spc w0 (wb.setCell ⟨k, 0, none⟩ v) D T' n := by
  refine ⟨h.ses.fr (Fr.set (g := k)) (fun j hj => ?_) (fun j hj e => ?_) (fun j hj e => ?_), h.dn, h.nb, h.lo, h.hi, h.ok⟩
  · have hj : j = k := hj
    have := hS.ses.bel.size
    omega
  · have e : j = k := e
    rcases al j hj with h9 | h9
    · have := hS.ses.tx.lt h9; omega
    · omega
  · have e : j = k := e
    have := hS.ses.dk.disk.allLt hj
    omega
theorem makeN (m : Nat) (hm : m ≤ 100000000) : ∃ o : Obj, (∀ w : World, (Instr.makeSlice 52 (.int .i64 (m : Int)) (.int .i64 (m : Int))).run Tryd.prog w = .ok (.slice (some ⟨w.heap.size, 0, none⟩) m m) (w.alloc o)) ∧ ∀ w : World, OwnB (w.alloc o) w.heap.size m (zn m) := by
  obtain ⟨i0, hi, hz0, hz1, hz2⟩ := info_parts info5
  refine ⟨.cells (madeCells #[.int .u8 0] m) 5, fun w => run_make_row (P := Tryd.prog) 52 5 i0 _ Tryd.underlying52 hi hz0 hz1 rfl .i64 .i64 m (by rw [hz2]; omega) (by omega) w, fun w => ?_⟩
  refine ⟨⟨_, heap_alloc_new _ _, ?_, ?_⟩, ?_, ?_, ?_, wf_rep m 0 (by omega)⟩
  · rw [← Array.length_toList, made_list, List.length_replicate]
  · rw [made_list, zn_length, zn, List.map_replicate, List.take_replicate, Nat.min_self]
  · rw [zn_length]; omega
  · rw [zn_length]; omega
  · unfold maxLen; omega
def GeoAt (w : World) (p n : Nat) : Prop := w.heap[p]? = some (.cells #[.int .i64 (n : Int), .int .i64 98, .int .i64 (gI n), .int .i64 (gD n), .int .i64 (gC n)] 29 (0, 0))
theorem GeoAt.cells {w : World} {p n : Nat} (h : GeoAt w p n) : w.cell? ⟨p, 0, none⟩ = some (.int .i64 (n : Int)) ∧ w.cell? ⟨p, 1, none⟩ = some (.int .i64 98) ∧ w.cell? ⟨p, 2, none⟩ = some (.int .i64 (gI n)) ∧ w.cell? ⟨p, 3, none⟩ = some (.int .i64 (gD n)) ∧ w.cell? ⟨p, 4, none⟩ = some (.int .i64 (gC n)) := by
  have hc := fun j => cell_of_row _ _ j _ _ _ h
  exact ⟨hc 0, hc 1, hc 2, hc 3, hc 4⟩
theorem GeoAt.on {w w' : World} {p n : Nat} (h : GeoAt w p n) (hb : Below w.heap.size w w') : GeoAt w' p n := (hb.block p (heap_lt h)).trans h
end Go.Proofs.YtgmccpimpbnnpaaDoor

namespace Go.Proofs.YtgmccpimpbnnpaaDoor
open Go.RowKit Go.Maps Rec
def bmp (D : Dk) (T : Tx) (k : Nat) : List Int := tv D T (98 + k)
theorem Spc.bm {w0 w : World} {D : Dk} {T : Tx} {n : Nat} (h : Spc w0 w D T n) : Bm (bmp D T) (nM n) := by
  have := nM_bd h.lo h.hi
  exact ⟨fun k hk => (h.ok (98 + k) (by omega)).1, fun k hk => (h.ok (98 + k) (by omega)).2⟩
theorem BoxI.comp {w1 wr w2 w3 : World} {S : Nat} {z z2 : Int} (h : BoxI w1 S z wr) (hb : Below wr.heap.size wr w2) (h2 : BoxI w2 S z2 w3) : BoxI w1 S z2 w3 := by
  have hs := h.fr.size
  have hs2 := hb.size
  exact ⟨h2.cell, h2.frozen, (h.fr.trans (below_fr hb (fun _ => False)) (fun _ e => e.elim)).trans h2.fr (fun k hk => by rcases hk with e | e; exact .inl (.inl e); exact .inl (.inr (by omega)))⟩
theorem Cau.mv {w w1 wr w2 : World} {G Db S F lo hi : Nat} {z z2 : Int} (h : Cau w G Db S F lo hi z) (hb1 : Below w.heap.size w w1) (hI : BoxI w1 S z2 wr) (hb : Below wr.heap.size wr w2) : Cau w2 G Db S F lo hi z2 := by
  have hG := block_lt_of_cell h.g0
  have hD := block_lt_of_cell h.d
  have hs := hb1.size
  dsimp only at hG hD
  have hf := hI.fr.trans (below_fr hb (fun _ => False)) (fun _ e => e.elim)
  have hl := block_lt_of_cell hI.cell
  refine ⟨hf.cell ((hb1.cell hG).trans h.g0) (fun e => ?_), hf.cell ((hb1.cell (p := ⟨G, 3, none⟩) hG).trans h.g3) (fun e => ?_), hf.cell ((hb1.cell hD).trans h.d) (fun e => ?_), (hb.cell hl).trans hI.cell, (frozen_blk (hb.block S hl)).trans hI.frozen, h.ap1, h.ap2⟩
  · have := h.ap1; dsimp only at e; omega
  · have := h.ap1; dsimp only at e; omega
  · have := h.ap2; dsimp only at e; omega
theorem fd_bd {lo hi : Nat} {B : Nat → List Int} {i : Nat} (h : fd lo hi B i = true) : lo ≤ i ∧ i < hi := by
  simp only [fd, Bool.and_eq_true, decide_eq_true_eq] at h; exact h.1
end Go.Proofs.YtgmccpimpbnnpaaDoor

namespace Go.Proofs.YtgmccpimpbnnpaaDoor
open Go.RowKit Go.Maps Rec
def plV (i : Nat) (g cap : Nat) : Value := .agg #[.int .i64 ((98 + i / 4096 : Nat) : Int), .slice (some ⟨g, 0, none⟩) 512 cap, .int .i64 ((i % 4096 : Nat) : Int)]
set_option maxRecDepth 100000 in
set_option maxHeartbeats 4000000 in
theorem find_ok (w0 w : World) (D : Dk) (T : Tx) (n : Nat) (h : Spc w0 w D T n) (i : Nat) (hi : i < n) :
    Calls Tryd.prog 78 #[.pointer (some ⟨T.t, 0, none⟩), geoV n, .int .i64 (i : Int)] w fun e w' => ∃ g cap, e = .returned (.tuple #[plV i g cap, .int .i64 0]) ∧ w.heap.size ≤ g ∧ OwnB w' g cap (bmp D T (i / 4096)) ∧ Below w.heap.size w w' := by
  have hN := nM_bd h.lo h.hi
  have hl := h.lo
  have hh := h.hi
  have HA : Hid (∀ a b, Below w.heap.size w ((w.alloc a).alloc b)) := fun a b => ((Below.refl _ _).alloc (Nat.le_refl _) _).alloc (by simp) _
  have HG : Hid (∀ wx, Calls Tryd.prog 91 #[geoV n, .int .i64 (i : Int)] wx fun e w' => e = .returned (.tuple #[.int .i64 ((98 + i / 4096 : Nat) : Int), .int .i64 ((i % 4096 : Nat) : Int), .int .i64 0]) ∧ Below wx.heap.size wx w') := fun wx => by
    have := gbit_any wx (n : Int) (i : Int) (isLen_yes (by omega)) (by omega)
    rw [bitA_in (by omega)] at this
    exact this
  obtain ⟨A, hA⟩ : ∃ A, 98 + i / 4096 = A := ⟨_, rfl⟩
  obtain ⟨J, hJ⟩ : ∃ J, i % 4096 = J := ⟨_, rfl⟩
  have HR : Hid (∀ wx, Below w.heap.size w wx → Calls Tryd.prog 52 #[.pointer (some ⟨T.t, 0, none⟩), .int .i64 (A : Int)] wx fun e w' => ∃ g cap, e = .returned (.tuple #[.slice (some ⟨g, 0, none⟩) 512 cap, .int .i64 0]) ∧ wx.heap.size ≤ g ∧ OwnB w' g cap (bmp D T (i / 4096)) ∧ Below wx.heap.size wx w') := fun wx hb => by
    rw [bmp, hA]
    exact (h.on hb).read A (by omega)
  unfold plV
  rw [hA, hJ] at HG
  rw [hA, hJ]
  clear h hA hJ
  obtain ⟨wz, hwz⟩ : ∃ wz, (w.alloc (.cells #[.int .i64 (n : Int), .int .i64 98, .int .i64 (gI n), .int .i64 (gD n), .int .i64 (gC n)] 29)).alloc (.cells #[.int .i64 0, .slice none 0 0, .int .i64 0] 143) = wz := ⟨_, rfl⟩
  have HZ : Hid (Below w.heap.size w wz ∧ wz.heap.size = w.heap.size + 2 ∧ wz.heap[w.heap.size + 1]? = some (.cells #[.int .i64 0, .slice none 0 0, .int .i64 0] 143 (0, 0))) := by
    rw [← hwz]
    have h9 := heap_alloc_new (w.alloc (.cells #[.int .i64 (n : Int), .int .i64 98, .int .i64 (gI n), .int .i64 (gD n), .int .i64 (gC n)] 29)) (.cells #[.int .i64 0, .slice none 0 0, .int .i64 0] 143)
    rw [World.size_alloc] at h9
    exact ⟨HA.out _ _, by simp, h9⟩
  have hzr : wz.heap[w.heap.size]? = some (.cells #[.int .i64 (n : Int), .int .i64 98, .int .i64 (gI n), .int .i64 (gD n), .int .i64 (gC n)] 29 (0, 0)) := by
    rw [← hwz]; exact (Below.heap_alloc _ _ _ (by simp)).trans (heap_alloc_new _ _)
  have HZC : Hid (∀ j, wz.cell? ⟨w.heap.size, j, none⟩ = #[.int .i64 (n : Int), .int .i64 98, .int .i64 (gI n), .int .i64 (gD n), .int .i64 (gC n)][j]?) := fun j => cell_of_row _ _ _ _ _ _ hzr
  have hz0 : wz.cell? ⟨w.heap.size, 0, none⟩ = some (.int .i64 (n : Int)) := HZC.out 0
  have hz1 : wz.cell? ⟨w.heap.size, 1, none⟩ = some (.int .i64 98) := HZC.out 1
  have hz2 : wz.cell? ⟨w.heap.size, 2, none⟩ = some (.int .i64 (gI n)) := HZC.out 2
  have hz3 : wz.cell? ⟨w.heap.size, 3, none⟩ = some (.int .i64 (gD n)) := HZC.out 3
  have hz4 : wz.cell? ⟨w.heap.size, 4, none⟩ = some (.int .i64 (gC n)) := HZC.out 4
  clear HA hzr
  go_enter Tryd.func78, Tryd.ntmps78
  unfold geoV
  unfold geoV at HG
  go_wp2_with (first
    | (go_at_call 91; refine (HG.out _).mono ?_; rintro e w1 ⟨rfl, hb⟩; have H1 : Hid (Below wz.heap.size wz w1) := hb; clear hb HG)
    | (go_at_call 52; refine (HR.out _ (HZ.out.1.trans (H1.out.mono HZ.out.1.size))).mono ?_; rintro e w2 ⟨g, cap, rfl, h1, h2, h3⟩; have H2 : Hid (w1.heap.size ≤ g ∧ OwnB w2 g cap (bmp D T (i / 4096)) ∧ Below w1.heap.size w1 w2) := ⟨h1, h2, h3⟩; have hr : w2.heap[w.heap.size + 1]? = some (.cells #[.int .i64 0, .slice none 0 0, .int .i64 0] 143 (0, 0)) := (h3.block _ (by have := H1.out.size; have := HZ.out.2.1; omega)).trans ((H1.out.block _ (by have := HZ.out.2.1; omega)).trans HZ.out.2.2); have HRr : Hid (w2.heap[w.heap.size + 1]? = some (.cells #[.int .i64 0, .slice none 0 0, .int .i64 0] 143 (0, 0))) := hr; have hp0 : w2.cell? ⟨w.heap.size + 1, 0, none⟩ = some (.int .i64 0) := (by rw [cell_of_row _ _ _ _ _ _ hr]; rfl); have hp1 : w2.cell? ⟨w.heap.size + 1, 1, none⟩ = some (.slice none 0 0) := (by rw [cell_of_row _ _ _ _ _ _ hr]; rfl); have hp2 : w2.cell? ⟨w.heap.size + 1, 2, none⟩ = some (.int .i64 0) := (by rw [cell_of_row _ _ _ _ _ _ hr]; rfl); have hpf : ∀ j, w2.frozen? ⟨w.heap.size + 1, j, none⟩ = false := (fun j => frozen_of_row _ _ _ _ _ hr); clear h1 h2 h3 hr HR))
  have h1 := heap_setCell_same _ _ 0 _ _ (.int .i64 (A : Int)) HRr.out
  have h2 := heap_setCell_same _ _ 1 _ _ (.slice (some ⟨g, 0, none⟩) 512 cap) h1
  have h3 := heap_setCell_same _ _ 2 _ _ (.int .i64 (J : Int)) h2
  have c0 := cell_of_row _ _ 0 _ _ _ h3
  have c1 := cell_of_row _ _ 1 _ _ _ h3
  have c2 := cell_of_row _ _ 2 _ _ _ h3
  refine bodyPost_ret (results_row_tmp7 rfl _ _ (w.heap.size + 1) #[.int .i64 (A : Int), .slice (some ⟨g, 0, none⟩) 512 cap, .int .i64 (J : Int)] rfl (by simp [go_sem, c0, c1, c2])) rfl ?_
  have hs := HZ.out.2.1
  have hs1 := H1.out.size
  have hs2 := H2.out.2.2.size
  have hgg := H2.out.1
  have hFr : Fr (fun k => k = w.heap.size + 1) w2 (((w2.setCell ⟨w.heap.size + 1, 0, none⟩ (.int .i64 (A : Int))).setCell ⟨w.heap.size + 1, 1, none⟩ (.slice (some ⟨g, 0, none⟩) 512 cap)).setCell ⟨w.heap.size + 1, 2, none⟩ (.int .i64 (J : Int))) := (Fr.set.trans Fr.set (fun _ hk => .inl hk)).trans Fr.set (fun _ hk => .inl hk)
  have hb2 : Below w.heap.size w w2 := HZ.out.1.trans ((H1.out.mono HZ.out.1.size).trans (H2.out.2.2.mono (by omega)))
  refine ⟨g, cap, rfl, by omega, H2.out.2.1.fr hFr (by show ¬ g = w.heap.size + 1; omega), hb2.trans (hFr.below _ (fun k hk => by have hk : k = w.heap.size + 1 := hk; omega) (by omega))⟩
set_option maxRecDepth 100000 in
theorem taken_bit (w : World) (i g cap : Nat) (l : List Int) (hb : Bytes w (some ⟨g, 0, none⟩) l) (hl : l.length = 512) :
    Calls Tryd.prog 86 #[plV i g cap] w fun e w' => e = .returned (.bool (bt l (i % 4096))) ∧ Below w.heap.size w w' := by
  have HB : Hid (Bytes w (some ⟨g, 0, none⟩) l) := hb
  obtain ⟨A, hA⟩ : ∃ A, 98 + i / 4096 = A := ⟨_, rfl⟩
  obtain ⟨J, hJ⟩ : ∃ J, i % 4096 = J := ⟨_, rfl⟩
  have hJ8 : J < 8 * 512 := by omega
  unfold plV
  rw [hA, hJ]
  clear hb hA hJ
  go_enter Tryd.func86, Tryd.ntmps86
  go_wp2_with (go_at_call 93; refine (get_yes _ ⟨g, 0, none⟩ 512 cap J l (HB.out.on ((Below.refl _ _).alloc (Nat.le_refl _) _)) hl hJ8).mono ?_; rintro e w1 ⟨rfl, m, rfl⟩)
  go_ret
  exact ⟨rfl, ((Below.refl _ _).alloc (Nat.le_refl _) _).trans (belowN_drewN _ _ _)⟩
set_option maxRecDepth 100000 in
set_option maxHeartbeats 4000000 in
theorem put_bit (w0 wq w : World) (D : Dk) (T : Tx) (n : Nat) (h : Spc w0 wq D T n) (hq : Below wq.heap.size wq w) (i g cap : Nat) (hi : i < n) (ho : OwnB w g cap (bmp D T (i / 4096))) (hg : wq.heap.size ≤ g) (on : Bool) (hr : (T.c (98 + i / 4096)).isSome = true ∨ (lst T.c n).length < 96) (hu : T.us.length + 1 ≤ 1000000) :
    Calls Tryd.prog 79 #[plV i g cap, .pointer (some ⟨T.t, 0, none⟩), .bool on] w fun e w' => e = .returned (.int .i64 0) ∧ ∃ T', PutE w0 w w' D T T' n (98 + i / 4096) (bput (bmp D T (i / 4096)) (i % 4096) on) g := by
  have hN := nM_bd h.lo h.hi
  have hk : i / 4096 < nM n := by unfold nM; omega
  have hl := h.bm.len (i / 4096) hk
  have HP : Hid (∀ wx, Below w.heap.size w wx → Calls Tryd.prog 92 #[.slice (some ⟨g, 0, none⟩) 512 cap, .int .i64 ((i % 4096 : Nat) : Int), .bool on] wx fun e w' => e = .returned (.int .i64 0) ∧ OwnB w' g cap (bput (bmp D T (i / 4096)) (i % 4096) on) ∧ Fr (fun k => k = g) wx w') := fun wx hb => put_own wx g 512 cap cap (i % 4096) _ on (ho.on hb) hl (by omega)
  have HW : Hid (∀ wx w', Below w.heap.size w wx → OwnB w' g cap (bput (bmp D T (i / 4096)) (i % 4096) on) → Fr (fun k => k = g) wx w' → Calls Tryd.prog 65 #[.pointer (some ⟨T.t, 0, none⟩), .int .i64 ((98 + i / 4096 : Nat) : Int), .slice (some ⟨g, 0, none⟩) 512 cap] w' fun e w9 => e = .returned (.int .i64 0) ∧ ∃ T', PutE w0 w w9 D T T' n (98 + i / 4096) (bput (bmp D T (i / 4096)) (i % 4096) on) g) := fun wx w' hb h2 h3 => by
    have hb1 : Below wq.heap.size wq w' := (hq.trans (hb.mono hq.size)).trans (h3.below _ (fun k hk => by have hk : k = g := hk; omega) (Nat.le_trans hq.size hb.size))
    refine ((h.on hb1).write (98 + i / 4096) (by omega) (by omega) ⟨g, 0, none⟩ cap _ h2.bytes (by rw [bput_length, hl]) hr hu).mono ?_
    rintro e w9 ⟨rfl, T', hx⟩
    exact ⟨rfl, T', ⟨w', (below_fr hb _).trans h3 (fun k hk => .inl hk), hx.mv⟩, hx.spc, hx.t, hx.c, hx.u⟩
  obtain ⟨x, hx⟩ : ∃ x, bput (bmp D T (i / 4096)) (i % 4096) on = x := ⟨_, rfl⟩
  obtain ⟨A, hA⟩ : ∃ A, 98 + i / 4096 = A := ⟨_, rfl⟩
  obtain ⟨J, hJ⟩ : ∃ J, i % 4096 = J := ⟨_, rfl⟩
  rw [hx] at HP HW
  rw [hx]
  unfold plV
  rw [hA] at HW
  rw [hJ] at HP
  rw [hA, hJ]
  have hgl : g < w.heap.size := ho.lt
  clear h ho hr hx hA hJ hq
  go_enter Tryd.func79, Tryd.ntmps79
  have HB0 : Hid (Below w.heap.size w (w.alloc (.cells #[.int .i64 (A : Int), .slice (some ⟨g, 0, none⟩) 512 cap, .int .i64 (J : Int)] 143))) := (Below.refl _ _).alloc (Nat.le_refl _) _
  obtain ⟨wa, hwa⟩ : ∃ wa, w.alloc (.cells #[.int .i64 (A : Int), .slice (some ⟨g, 0, none⟩) 512 cap, .int .i64 (J : Int)] 143) = wa := ⟨_, rfl⟩
  have hra : wa.heap[w.heap.size]? = some (.cells #[.int .i64 (A : Int), .slice (some ⟨g, 0, none⟩) 512 cap, .int .i64 (J : Int)] 143 (0, 0)) := by rw [← hwa]; exact heap_alloc_new _ _
  have q0 : wa.cell? ⟨w.heap.size, 0, none⟩ = some (.int .i64 (A : Int)) := by rw [cell_of_row _ _ _ _ _ _ hra]; rfl
  have q1 : wa.cell? ⟨w.heap.size, 1, none⟩ = some (.slice (some ⟨g, 0, none⟩) 512 cap) := by rw [cell_of_row _ _ _ _ _ _ hra]; rfl
  have q2 : wa.cell? ⟨w.heap.size, 2, none⟩ = some (.int .i64 (J : Int)) := by rw [cell_of_row _ _ _ _ _ _ hra]; rfl
  have HQ : Hid (Below w.heap.size w wa ∧ wa.heap[w.heap.size]? = some (.cells #[.int .i64 (A : Int), .slice (some ⟨g, 0, none⟩) 512 cap, .int .i64 (J : Int)] 143 (0, 0))) := ⟨by rw [← hwa]; exact HB0.out, hra⟩
  clear hra HB0
  go_wp2_with (first
    | (go_at_call 92; refine (HP.out _ HQ.out.1).mono ?_; rintro e w1 ⟨rfl, h2, h3⟩; have H1 : Hid (OwnB w1 g cap x ∧ Fr (fun k => k = g) wa w1) := ⟨h2, h3⟩; have hra1 := h3.heap HQ.out.2 (show ¬ w.heap.size = g from by omega); have s0 : w1.cell? ⟨w.heap.size, 0, none⟩ = some (.int .i64 (A : Int)) := (by rw [cell_of_row _ _ _ _ _ _ hra1]; rfl); have s1 : w1.cell? ⟨w.heap.size, 1, none⟩ = some (.slice (some ⟨g, 0, none⟩) 512 cap) := (by rw [cell_of_row _ _ _ _ _ _ hra1]; rfl); clear h2 h3 hra1 HP)
    | (go_at_call 65; refine (HW.out _ _ HQ.out.1 H1.out.1 H1.out.2).mono ?_; rintro e w2 ⟨rfl, T', hx⟩; clear HW))
  go_ret
  exact ⟨rfl, T', hx⟩
end Go.Proofs.YtgmccpimpbnnpaaDoor

namespace Go.Proofs.YtgmccpimpbnnpaaDoor
open Go.RowKit Go.Maps Rec
set_option maxRecDepth 100000 in
theorem isData_yes (w : World) (n : Nat) (i : Int) (h1 : (nD n : Int) ≤ i) (h2 : i < (n : Int)) : Calls Tryd.prog 85 #[geoV n, .int .i64 i] w fun e w' => e = .returned (.bool true) ∧ Below w.heap.size w w' := by
  have hA : Hid (∀ o, Below w.heap.size w (w.alloc o)) := fun o => (Below.refl _ _).alloc (Nat.le_refl _) o
  unfold geoV
  rw [gD_nat]
  go_enter Tryd.func85, Tryd.ntmps85
  go_wp2
  go_ret
  exact ⟨rfl, hA.out _⟩
structure GiveE (w0 w w' : World) (D : Dk) (T T' : Tx) (n i : Nat) : Prop where
  mv : TMv w T w' T'
  spc : Spc w0 w' D T' n
  t : T'.t = T.t
  c : ∃ q : Bk, T'.c = ups T.c (98 + i / 4096) (some q) ∧ q.x = bput (bmp D T (i / 4096)) (i % 4096) false
  u : T'.us.length = T.us.length + 1
theorem PutE.give {w0 wa wb w' : World} {D : Dk} {T T' : Tx} {n a g : Nat} {x : List Int} (h : PutE w0 wb w' D T T' n a x g) (hb : Below wa.heap.size wa wb) (hg : wa.heap.size ≤ g) : TMv wa T w' T' := by
  obtain ⟨w1, hf, hm⟩ := h.mv
  exact (TMv.on (hb.trans (hf.below _ (fun k hk => by have hk : k = g := hk; omega) hb.size))).trans hm
set_option maxRecDepth 100000 in
set_option maxHeartbeats 4000000 in
theorem give_ok (w0 w : World) (D : Dk) (T : Tx) (n : Nat) (h : Spc w0 w D T n) (i : Nat) (h0 : nD n ≤ i) (hi : i < n) (hb : isT (bmp D T) i = true) (hr : (T.c (98 + i / 4096)).isSome = true ∨ (lst T.c n).length < 96) (hu : T.us.length + 1 ≤ 1000000) :
    Calls Tryd.prog 70 #[.pointer (some ⟨T.t, 0, none⟩), geoV n, .int .i64 (i : Int)] w fun e w' => e = .returned (.int .i64 0) ∧ ∃ T', GiveE w0 w w' D T T' n i := by
  have hk : i / 4096 < nM n := by unfold nM; omega
  have hl := h.bm.len (i / 4096) hk
  have HA : Hid (∀ o, Below w.heap.size w (w.alloc o)) := fun o => (Below.refl _ _).alloc (Nat.le_refl _) o
  have HD : Hid (∀ wx, Calls Tryd.prog 85 #[geoV n, .int .i64 (i : Int)] wx fun e w' => e = .returned (.bool true) ∧ Below wx.heap.size wx w') := fun wx => isData_yes wx n (i : Int) (by omega) (by omega)
  have HF : Hid (∀ wx, Below w.heap.size w wx → Calls Tryd.prog 78 #[.pointer (some ⟨T.t, 0, none⟩), geoV n, .int .i64 (i : Int)] wx fun e w' => ∃ g cap, e = .returned (.tuple #[plV i g cap, .int .i64 0]) ∧ wx.heap.size ≤ g ∧ OwnB w' g cap (bmp D T (i / 4096)) ∧ Below wx.heap.size wx w') := fun wx hb => find_ok w0 wx D T n (h.on hb) i hi
  have HT : Hid (∀ wx g cap, OwnB wx g cap (bmp D T (i / 4096)) → Calls Tryd.prog 86 #[plV i g cap] wx fun e w' => e = .returned (.bool true) ∧ Below wx.heap.size wx w') := fun wx g cap ho => by
    have := taken_bit wx i g cap _ ho.bytes hl
    rw [← hb]
    exact this
  have HP : Hid (∀ wx g cap, Below w.heap.size w wx → OwnB wx g cap (bmp D T (i / 4096)) → w.heap.size ≤ g → Calls Tryd.prog 79 #[plV i g cap, .pointer (some ⟨T.t, 0, none⟩), .bool false] wx fun e w' => e = .returned (.int .i64 0) ∧ ∃ T', GiveE w0 w w' D T T' n i) := fun wx g cap hbx ho hg => by
    refine (put_bit w0 w wx D T n h hbx i g cap hi ho hg false hr hu).mono ?_
    rintro e w' ⟨rfl, T', hx⟩
    obtain ⟨u, hu1, _⟩ := hx.u
    exact ⟨rfl, T', hx.give hbx hg, hx.spc, hx.t, hx.c, by rw [hu1, List.length_append]; rfl⟩
  obtain ⟨A, hA⟩ : ∃ A, 98 + i / 4096 = A := ⟨_, rfl⟩
  obtain ⟨J, hJ⟩ : ∃ J, i % 4096 = J := ⟨_, rfl⟩
  unfold plV at HF HT HP
  rw [hA, hJ] at HF HT HP
  clear h hA hJ hk hl hb hr hu
  go_enter Tryd.func70, Tryd.ntmps70
  unfold geoV
  unfold geoV at HF HD
  obtain ⟨wz, hwz⟩ : ∃ wz, w.alloc (.cells #[.int .i64 (n : Int), .int .i64 98, .int .i64 (gI n), .int .i64 (gD n), .int .i64 (gC n)] 29) = wz := ⟨_, rfl⟩
  have HZ : Hid (Below w.heap.size w wz ∧ GeoAt wz w.heap.size n) := by
    rw [← hwz]; exact ⟨HA.out _, heap_alloc_new _ _⟩
  obtain ⟨z0, z1, z2, z3, z4⟩ := HZ.out.2.cells
  clear HA
  go_wp2_with (first
    | (go_at_call 85; refine (HD.out _).mono ?_; rintro e w1 ⟨rfl, h1⟩; have H1 : Hid (Below w.heap.size w w1) := HZ.out.1.trans (h1.mono HZ.out.1.size); obtain ⟨y0, y1, y2, y3, y4⟩ := (HZ.out.2.on h1).cells; clear h1 HD)
    | (go_at_call 78; refine (HF.out _ H1.out).mono ?_; rintro e w2 ⟨g, cap, rfl, h1, h2, h3⟩; have H2 : Hid (OwnB w2 g cap (bmp D T (i / 4096)) ∧ Below w.heap.size w w2 ∧ w.heap.size ≤ g) := ⟨h2, H1.out.trans (h3.mono H1.out.size), Nat.le_trans H1.out.size h1⟩; clear h1 h2 h3 HF)
    | (go_at_call 86; refine (HT.out _ _ _ (H2.out.1.on ((Below.refl _ _).alloc (Nat.le_refl _) _))).mono ?_; rintro e w3 ⟨rfl, hb⟩; have H3 : Hid (Below w.heap.size w w3 ∧ OwnB w3 g cap (bmp D T (i / 4096)) ∧ w.heap.size ≤ g) := ⟨(H2.out.2.1.alloc H2.out.2.1.size _).trans (hb.mono (H2.out.2.1.alloc H2.out.2.1.size _).size), (H2.out.1.on ((Below.refl _ _).alloc (Nat.le_refl _) _)).on hb, H2.out.2.2⟩; have x0 := (hb.cell (p := ⟨w2.heap.size, 0, none⟩) (by simp)); have x1 := (hb.cell (p := ⟨w2.heap.size, 1, none⟩) (by simp)); have x2 := (hb.cell (p := ⟨w2.heap.size, 2, none⟩) (by simp)); simp at x0 x1 x2; clear hb HT)
    | (go_at_call 79; refine (HP.out _ _ _ H3.out.1 H3.out.2.1 H3.out.2.2).mono ?_; rintro e w4 ⟨rfl, T', hx⟩; clear HP))
  go_ret
  exact ⟨rfl, T', hx⟩
set_option maxRecDepth 100000 in
set_option maxHeartbeats 4000000 in
theorem give_free (w0 w : World) (D : Dk) (T : Tx) (n : Nat) (h : Spc w0 w D T n) (i : Nat) (h0 : nD n ≤ i) (hi : i < n) (hb : isT (bmp D T) i = false) :
    Calls Tryd.prog 70 #[.pointer (some ⟨T.t, 0, none⟩), geoV n, .int .i64 (i : Int)] w fun e w' => e = .returned (.int .i64 91) ∧ Below w.heap.size w w' := by
  have hk : i / 4096 < nM n := by unfold nM; omega
  have hl := h.bm.len (i / 4096) hk
  have HA : Hid (∀ o, Below w.heap.size w (w.alloc o)) := fun o => (Below.refl _ _).alloc (Nat.le_refl _) o
  have HD : Hid (∀ wx, Calls Tryd.prog 85 #[geoV n, .int .i64 (i : Int)] wx fun e w' => e = .returned (.bool true) ∧ Below wx.heap.size wx w') := fun wx => isData_yes wx n (i : Int) (by omega) (by omega)
  have HF : Hid (∀ wx, Below w.heap.size w wx → Calls Tryd.prog 78 #[.pointer (some ⟨T.t, 0, none⟩), geoV n, .int .i64 (i : Int)] wx fun e w' => ∃ g cap, e = .returned (.tuple #[plV i g cap, .int .i64 0]) ∧ wx.heap.size ≤ g ∧ OwnB w' g cap (bmp D T (i / 4096)) ∧ Below wx.heap.size wx w') := fun wx hb => find_ok w0 wx D T n (h.on hb) i hi
  have HT : Hid (∀ wx g cap, OwnB wx g cap (bmp D T (i / 4096)) → Calls Tryd.prog 86 #[plV i g cap] wx fun e w' => e = .returned (.bool false) ∧ Below wx.heap.size wx w') := fun wx g cap ho => by
    have := taken_bit wx i g cap _ ho.bytes hl
    rw [← hb]
    exact this
  obtain ⟨A, hA⟩ : ∃ A, 98 + i / 4096 = A := ⟨_, rfl⟩
  obtain ⟨J, hJ⟩ : ∃ J, i % 4096 = J := ⟨_, rfl⟩
  unfold plV at HF HT
  rw [hA, hJ] at HF HT
  clear h hA hJ hk hl hb
  go_enter Tryd.func70, Tryd.ntmps70
  unfold geoV
  unfold geoV at HF HD
  obtain ⟨wz, hwz⟩ : ∃ wz, w.alloc (.cells #[.int .i64 (n : Int), .int .i64 98, .int .i64 (gI n), .int .i64 (gD n), .int .i64 (gC n)] 29) = wz := ⟨_, rfl⟩
  have HZ : Hid (Below w.heap.size w wz ∧ GeoAt wz w.heap.size n) := by
    rw [← hwz]; exact ⟨HA.out _, heap_alloc_new _ _⟩
  obtain ⟨z0, z1, z2, z3, z4⟩ := HZ.out.2.cells
  clear HA
  go_wp2_with (first
    | (go_at_call 85; refine (HD.out _).mono ?_; rintro e w1 ⟨rfl, h1⟩; have H1 : Hid (Below w.heap.size w w1) := HZ.out.1.trans (h1.mono HZ.out.1.size); obtain ⟨y0, y1, y2, y3, y4⟩ := (HZ.out.2.on h1).cells; clear h1 HD)
    | (go_at_call 78; refine (HF.out _ H1.out).mono ?_; rintro e w2 ⟨g, cap, rfl, h1, h2, h3⟩; have H2 : Hid (OwnB w2 g cap (bmp D T (i / 4096)) ∧ Below w.heap.size w w2 ∧ w.heap.size ≤ g) := ⟨h2, H1.out.trans (h3.mono H1.out.size), Nat.le_trans H1.out.size h1⟩; clear h1 h2 h3 HF)
    | (go_at_call 86; refine (HT.out _ _ _ (H2.out.1.on ((Below.refl _ _).alloc (Nat.le_refl _) _))).mono ?_; rintro e w3 ⟨rfl, hb⟩; have H3 : Hid (Below w.heap.size w w3 ∧ OwnB w3 g cap (bmp D T (i / 4096)) ∧ w.heap.size ≤ g) := ⟨(H2.out.2.1.alloc H2.out.2.1.size _).trans (hb.mono (H2.out.2.1.alloc H2.out.2.1.size _).size), (H2.out.1.on ((Below.refl _ _).alloc (Nat.le_refl _) _)).on hb, H2.out.2.2⟩; have x0 := (hb.cell (p := ⟨w2.heap.size, 0, none⟩) (by simp)); have x1 := (hb.cell (p := ⟨w2.heap.size, 1, none⟩) (by simp)); have x2 := (hb.cell (p := ⟨w2.heap.size, 2, none⟩) (by simp)); simp at x0 x1 x2; clear hb HT))
  go_ret
  exact ⟨rfl, H3.out.1⟩
end Go.Proofs.YtgmccpimpbnnpaaDoor

namespace Go.Proofs.YtgmccpimpbnnpaaDoor
open Go.RowKit Go.Maps Rec
set_option maxRecDepth 100000 in
set_option maxHeartbeats 8000000 in
theorem eachBmF (w0 wq w : World) (D : Dk) (T : Tx) (n : Nat) (h : Spc w0 wq D T n) (hq : Below wq.heap.size wq w) (G Db S : Nat) (z : Int) (hC : Cau w G Db S 43 (nD n) n z) (hS : wq.heap.size ≤ S) (hz : 0 ≤ z ∧ z ≤ 1000) :
    Calls Tryd.prog 57 #[.pointer (some ⟨T.t, 0, none⟩), geoV n, .func (.func 58) #[] #[.pointer (some ⟨G, 0, none⟩), .pointer (some ⟨Db, 0, none⟩)]] w fun e w' => e = .returned (.int .i64 0) ∧ BoxI w S (z + (ct (fd (nD n) n (bmp D T)) (4096 * nM n) : Nat)) w' := by
  have HN := nM_bd h.lo h.hi
  have hnl := h.lo
  have hnh := h.hi
  have HP : Hid (Spc w0 wq D T n ∧ Below wq.heap.size wq w ∧ Cau w G Db S 43 (nD n) n z) := ⟨h, hq, hC⟩
  have hSl := block_lt_of_cell hC.s
  dsimp only at hSl
  clear h hq hC
  obtain ⟨M, hM⟩ : ∃ M, nM n = M := ⟨_, rfl⟩
  obtain ⟨lo, hlo⟩ : ∃ lo, nD n = lo := ⟨_, rfl⟩
  rw [hM, hlo] at HN
  rw [hlo] at HP
  obtain ⟨t0, ht0⟩ : ∃ t0, T.t = t0 := ⟨_, rfl⟩
  have HT0 : Hid (T.t = t0) := ht0
  obtain ⟨gi, hgi⟩ : ∃ gi : Int, gI (n : Int) = gi := ⟨_, rfl⟩
  obtain ⟨gd, hgd⟩ : ∃ gd : Int, gD (n : Int) = gd := ⟨_, rfl⟩
  obtain ⟨gc, hgc⟩ : ∃ gc : Int, gC (n : Int) = gc := ⟨_, rfl⟩
  have hgi' : gi - 98 = (M : Int) := by rw [← hgi, gI_nat, hM]; omega
  unfold geoV
  rw [hgi, hgd, hgc, ht0, hM, hlo]
  have HM : Hid (nM n = M) := hM
  clear ht0 hgi hgd hgc hM hlo
  obtain ⟨w1, hw1⟩ : ∃ w1, w.alloc (.cells #[.int .i64 (n : Int), .int .i64 98, .int .i64 gi, .int .i64 gd, .int .i64 gc] 29) = w1 := ⟨_, rfl⟩
  have H1 : Hid (Below w.heap.size w w1 ∧ w1.heap[w.heap.size]? = some (.cells #[.int .i64 (n : Int), .int .i64 98, .int .i64 gi, .int .i64 gd, .int .i64 gc] 29 (0, 0))) := by
    rw [← hw1]; exact ⟨(Below.refl _ _).alloc (Nat.le_refl _) _, heap_alloc_new _ _⟩
  have hs1 : w1.heap.size = w.heap.size + 1 := by rw [← hw1]; simp
  have hcc : ∀ j, w1.cell? ⟨w.heap.size, j, none⟩ = #[.int .i64 (n : Int), .int .i64 98, .int .i64 gi, .int .i64 gd, .int .i64 gc][j]? := fun j => cell_of_row _ _ _ _ _ _ H1.out.2
  have hcA : w1.cell? ⟨w.heap.size, 1, none⟩ = some (.int .i64 98) := hcc 1
  have hcB : w1.cell? ⟨w.heap.size, 2, none⟩ = some (.int .i64 gi) := hcc 2
  clear hcc
  have box0 : BoxI w1 S z w1 := ⟨(H1.out.1.cell (p := ⟨S, 0, none⟩) hSl).trans HP.out.2.2.s, (frozen_blk (H1.out.1.block S hSl)).trans HP.out.2.2.sf, Fr.refl _ _⟩
  go_enter Tryd.func57, Tryd.ntmps57
  go_wp2
  go_loopw [15] (fun s15 wr => ∃ k : Nat, k ≤ M ∧ s15 = .int .i64 (k : Int) ∧ BoxI w1 S (z + (ct (fd lo n (bmp D T)) (4096 * k) : Nat)) wr) (fun s15 _ => M - (intOf s15).toNat)
  case atStart => exact ⟨0, Nat.zero_le _, rfl, (by have h9 := box0; rw [← Int.add_zero z] at h9; exact h9)⟩
  case round =>
    obtain ⟨k, hk, rfl, hI⟩ := hrel
    have HI : Hid (BoxI w1 S (z + (ct (fd lo n (bmp D T)) (4096 * k) : Nat)) wr) := hI
    have HX : Hid (Below wq.heap.size wq wr) := by
      have h1 := HP.out.2.1.size
      have h2 := H1.out.1.size
      exact (HP.out.2.1.trans (H1.out.1.mono h1)).trans (hI.fr.below _ (fun k hk => by rcases hk with e | e <;> omega) (by omega))
    have hcb : wr.cell? ⟨w.heap.size, 1, none⟩ = some (.int .i64 98) := hI.fr.cell hcA (fun e => by dsimp only at e; omega)
    clear hI
    by_cases hlt : k < M
    · have hlt' : (k : Int) < (M : Int) := by omega
      obtain ⟨F0, hF0⟩ : ∃ F0 : Nat, 4096 * k = F0 := ⟨_, rfl⟩
      have eF : (k : Int) * 4096 = (F0 : Int) := by omega
      have e98 : (98 : Int) + (k : Int) = ((98 + k : Nat) : Int) := by omega
      obtain ⟨K9, hK9⟩ : ∃ K9 : Nat, 98 + k = K9 := ⟨_, rfl⟩
      rw [hK9] at e98
      have HR : Hid (Calls Tryd.prog 52 #[.pointer (some ⟨t0, 0, none⟩), .int .i64 (K9 : Int)] wr fun e w' => ∃ g cap, e = .returned (.tuple #[.slice (some ⟨g, 0, none⟩) 512 cap, .int .i64 0]) ∧ wr.heap.size ≤ g ∧ OwnB w' g cap (bmp D T k) ∧ Below wr.heap.size wr w') := by
        have := (HP.out.1.on HX.out).read (98 + k) (by omega)
        rw [HT0.out, hK9] at this
        rw [bmp, hK9]
        exact this
      have HG : Hid (∀ g cap w', OwnB w' g cap (bmp D T k) → Below wr.heap.size wr w' → Calls Tryd.prog 58 #[.int .i64 (F0 : Int), .slice (some ⟨g, 0, none⟩) 512 cap, .pointer (some ⟨G, 0, none⟩), .pointer (some ⟨Db, 0, none⟩)] w' fun e w3 => e = .returned (.bool true) ∧ BoxI w1 S (z + (ct (fd lo n (bmp D T)) (4096 * (k + 1)) : Nat)) w3) := fun g cap w' ho hb => by
        have hc := ct_le (fd lo n (bmp D T)) (4096 * k)
        refine (gatF_any w' G Db S lo n (z + (ct (fd lo n (bmp D T)) (4096 * k) : Nat)) (HP.out.2.2.mv H1.out.1 HI.out hb) F0 ⟨g, 0, none⟩ cap (bmp D T k) ho.bytes (HP.out.1.bm.len k (by have h9 := HM.out; omega)) (by omega) (by omega) (by omega) (by omega)).mono ?_
        rintro e w3 ⟨rfl, hx⟩
        refine ⟨rfl, ?_⟩
        have := HI.out.comp hb hx
        rw [ct_blk, Int.natCast_add, ← Int.add_assoc, hF0]
        rw [hF0] at this
        exact this
      clear hF0 hK9
      go_wp2_with (first
        | (go_at_call 52; refine HR.out.mono ?_; rintro e w2 ⟨g, cap, rfl, h1, h2, h3⟩; have H3 : Hid (OwnB w2 g cap (bmp D T k) ∧ Below wr.heap.size wr w2) := ⟨h2, h3⟩; clear h1 h2 h3 HR)
        | (go_at_call 58; refine (HG.out _ _ _ H3.out.1 H3.out.2).mono ?_; rintro e w3 ⟨rfl, hx⟩; have H4 : Hid (BoxI w1 S (z + (ct (fd lo n (bmp D T)) (4096 * (k + 1)) : Nat)) w3) := hx; clear hx HG))
      go_roundw
      case rel => exact ⟨k + 1, by omega, by go_num, H4.out⟩
      case measure => simp [intOf]; omega
    · have hlt' : ¬ (k : Int) < (M : Int) := by omega
      go_wp2
      go_ret
      have e : k = M := by omega
      subst e
      exact ⟨rfl, HI.out.cell, HI.out.frozen, (below_fr H1.out.1 _).trans HI.out.fr (fun k hk => by rcases hk with e | e; exact .inl (.inl e); exact .inr (by omega))⟩
set_option maxRecDepth 100000 in
set_option maxHeartbeats 8000000 in
theorem eachBmL (w0 wq w : World) (D : Dk) (T : Tx) (n : Nat) (h : Spc w0 wq D T n) (hq : Below wq.heap.size wq w) (G Db S : Nat) (z : Int) (hC : Cau w G Db S 76 (nD n) n z) (hS : wq.heap.size ≤ S) (hz : 0 ≤ z ∧ z ≤ 1000) :
    Calls Tryd.prog 57 #[.pointer (some ⟨T.t, 0, none⟩), geoV n, .func (.func 58) #[] #[.pointer (some ⟨G, 0, none⟩), .pointer (some ⟨Db, 0, none⟩)]] w fun e w' => e = .returned (.int .i64 0) ∧ ((ct (fd (nD n) n (bmp D T)) (4096 * nM n) = 0 ∧ BoxI w S z w') ∨ ∃ i : Nat, IsLo (fd (nD n) n (bmp D T)) i ∧ BoxI w S (i : Int) w') := by
  have HN := nM_bd h.lo h.hi
  have hnl := h.lo
  have hnh := h.hi
  have HP : Hid (Spc w0 wq D T n ∧ Below wq.heap.size wq w ∧ Cau w G Db S 76 (nD n) n z) := ⟨h, hq, hC⟩
  have hSl := block_lt_of_cell hC.s
  dsimp only at hSl
  clear h hq hC
  obtain ⟨M, hM⟩ : ∃ M, nM n = M := ⟨_, rfl⟩
  obtain ⟨lo, hlo⟩ : ∃ lo, nD n = lo := ⟨_, rfl⟩
  rw [hM, hlo] at HN
  rw [hlo] at HP
  obtain ⟨t0, ht0⟩ : ∃ t0, T.t = t0 := ⟨_, rfl⟩
  have HT0 : Hid (T.t = t0) := ht0
  obtain ⟨gi, hgi⟩ : ∃ gi : Int, gI (n : Int) = gi := ⟨_, rfl⟩
  obtain ⟨gd, hgd⟩ : ∃ gd : Int, gD (n : Int) = gd := ⟨_, rfl⟩
  obtain ⟨gc, hgc⟩ : ∃ gc : Int, gC (n : Int) = gc := ⟨_, rfl⟩
  have hgi' : gi - 98 = (M : Int) := by rw [← hgi, gI_nat, hM]; omega
  unfold geoV
  rw [hgi, hgd, hgc, ht0, hM, hlo]
  have HM : Hid (nM n = M) := hM
  clear ht0 hgi hgd hgc hM hlo
  obtain ⟨w1, hw1⟩ : ∃ w1, w.alloc (.cells #[.int .i64 (n : Int), .int .i64 98, .int .i64 gi, .int .i64 gd, .int .i64 gc] 29) = w1 := ⟨_, rfl⟩
  have H1 : Hid (Below w.heap.size w w1 ∧ w1.heap[w.heap.size]? = some (.cells #[.int .i64 (n : Int), .int .i64 98, .int .i64 gi, .int .i64 gd, .int .i64 gc] 29 (0, 0))) := by
    rw [← hw1]; exact ⟨(Below.refl _ _).alloc (Nat.le_refl _) _, heap_alloc_new _ _⟩
  have hs1 : w1.heap.size = w.heap.size + 1 := by rw [← hw1]; simp
  have hcc : ∀ j, w1.cell? ⟨w.heap.size, j, none⟩ = #[.int .i64 (n : Int), .int .i64 98, .int .i64 gi, .int .i64 gd, .int .i64 gc][j]? := fun j => cell_of_row _ _ _ _ _ _ H1.out.2
  have hcA : w1.cell? ⟨w.heap.size, 1, none⟩ = some (.int .i64 98) := hcc 1
  have hcB : w1.cell? ⟨w.heap.size, 2, none⟩ = some (.int .i64 gi) := hcc 2
  clear hcc
  have box0 : BoxI w1 S z w1 := ⟨(H1.out.1.cell (p := ⟨S, 0, none⟩) hSl).trans HP.out.2.2.s, (frozen_blk (H1.out.1.block S hSl)).trans HP.out.2.2.sf, Fr.refl _ _⟩
  go_enter Tryd.func57, Tryd.ntmps57
  go_wp2
  go_loopw [15] (fun s15 wr => ∃ k : Nat, k ≤ M ∧ s15 = .int .i64 (k : Int) ∧ ct (fd lo n (bmp D T)) (4096 * k) = 0 ∧ BoxI w1 S z wr) (fun s15 _ => M - (intOf s15).toNat)
  case atStart => exact ⟨0, Nat.zero_le _, rfl, rfl, box0⟩
  case round =>
    obtain ⟨k, hk, rfl, h0, hI⟩ := hrel
    have HI : Hid (ct (fd lo n (bmp D T)) (4096 * k) = 0 ∧ BoxI w1 S z wr) := ⟨h0, hI⟩
    have HX : Hid (Below wq.heap.size wq wr) := by
      have h1 := HP.out.2.1.size
      have h2 := H1.out.1.size
      exact (HP.out.2.1.trans (H1.out.1.mono h1)).trans (hI.fr.below _ (fun k hk => by rcases hk with e | e <;> omega) (by omega))
    have hcb : wr.cell? ⟨w.heap.size, 1, none⟩ = some (.int .i64 98) := hI.fr.cell hcA (fun e => by dsimp only at e; omega)
    clear hI h0
    by_cases hlt : k < M
    · have hlt' : (k : Int) < (M : Int) := by omega
      obtain ⟨F0, hF0⟩ : ∃ F0 : Nat, 4096 * k = F0 := ⟨_, rfl⟩
      have eF : (k : Int) * 4096 = (F0 : Int) := by omega
      have e98 : (98 : Int) + (k : Int) = ((98 + k : Nat) : Int) := by omega
      obtain ⟨K9, hK9⟩ : ∃ K9 : Nat, 98 + k = K9 := ⟨_, rfl⟩
      rw [hK9] at e98
      have HR : Hid (Calls Tryd.prog 52 #[.pointer (some ⟨t0, 0, none⟩), .int .i64 (K9 : Int)] wr fun e w' => ∃ g cap, e = .returned (.tuple #[.slice (some ⟨g, 0, none⟩) 512 cap, .int .i64 0]) ∧ wr.heap.size ≤ g ∧ OwnB w' g cap (bmp D T k) ∧ Below wr.heap.size wr w') := by
        have := (HP.out.1.on HX.out).read (98 + k) (by omega)
        rw [HT0.out, hK9] at this
        rw [bmp, hK9]
        exact this
      have HG : Hid (∀ g cap w', OwnB w' g cap (bmp D T k) → Below wr.heap.size wr w' → Calls Tryd.prog 58 #[.int .i64 (F0 : Int), .slice (some ⟨g, 0, none⟩) 512 cap, .pointer (some ⟨G, 0, none⟩), .pointer (some ⟨Db, 0, none⟩)] w' fun e w3 => (e = .returned (.bool true) ∧ ct (fd lo n (bmp D T)) (4096 * (k + 1)) = 0 ∧ BoxI w1 S z w3) ∨ (e = .returned (.bool false) ∧ ∃ i : Nat, IsLo (fd lo n (bmp D T)) i ∧ BoxI w1 S (i : Int) w3)) := fun g cap w' ho hb => by
        have hc := ct_le (fd lo n (bmp D T)) (4096 * k)
        refine (gatL_any w' G Db S lo n z (HP.out.2.2.mv H1.out.1 HI.out.2 hb) F0 ⟨g, 0, none⟩ cap (bmp D T k) ho.bytes (HP.out.1.bm.len k (by have h9 := HM.out; omega)) (by omega) (by omega) (by omega) (by omega)).mono ?_
        rintro e w3 (⟨rfl, h4, hx⟩ | ⟨rfl, j, hj, hl, hx⟩)
        · exact .inl ⟨rfl, by rw [ct_blk, HI.out.1, hF0, h4], HI.out.2.comp hb hx⟩
        · rw [← hF0] at hl hx
          exact .inr ⟨rfl, _, lo_blk HI.out.1 hj hl, HI.out.2.comp hb hx⟩
      clear hF0 hK9
      go_wp2_with (first
        | (go_at_call 52; refine HR.out.mono ?_; rintro e w2 ⟨g, cap, rfl, h1, h2, h3⟩; have H3 : Hid (OwnB w2 g cap (bmp D T k) ∧ Below wr.heap.size wr w2) := ⟨h2, h3⟩; clear h1 h2 h3 HR)
        | (go_at_call 58; refine (HG.out _ _ _ H3.out.1 H3.out.2).mono ?_; rintro e w3 (⟨rfl, hx, hx2⟩ | ⟨rfl, hx⟩); have H4 : Hid (ct (fd lo n (bmp D T)) (4096 * (k + 1)) = 0 ∧ BoxI w1 S z w3) := ⟨hx, hx2⟩; clear hx hx2 HG; rotate_left; have H5 : Hid (∃ i : Nat, IsLo (fd lo n (bmp D T)) i ∧ BoxI w1 S (i : Int) w3) := hx; clear hx HG; rotate_left))
      · go_roundw
        case rel => exact ⟨k + 1, by omega, by go_num, H4.out⟩
        case measure => simp [intOf]; omega
      · go_ret
        obtain ⟨i, hi1, hi2⟩ := H5.out
        exact ⟨rfl, .inr ⟨i, hi1, hi2.cell, hi2.frozen, (below_fr H1.out.1 _).trans hi2.fr (fun k hk => by rcases hk with e | e; exact .inl (.inl e); exact .inr (by omega))⟩⟩
    · have hlt' : ¬ (k : Int) < (M : Int) := by omega
      go_wp2
      go_ret
      have e : k = M := by omega
      subst e
      exact ⟨rfl, .inl ⟨HI.out.1, HI.out.2.cell, HI.out.2.frozen, (below_fr H1.out.1 _).trans HI.out.2.fr (fun k hk => by rcases hk with e | e; exact .inl (.inl e); exact .inr (by omega))⟩⟩
end Go.Proofs.YtgmccpimpbnnpaaDoor
