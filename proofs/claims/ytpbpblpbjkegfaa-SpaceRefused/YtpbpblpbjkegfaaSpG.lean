import Derived.Test.YtpbpblpbjkegfaaKSpD
import Derived.Test.YtpbpblpbjkegfaaTxE2
namespace Go.Proofs.Ytpbpblpbjkegfaa
open Go.RowKit Go.Maps Rec

/-- where a bit stands -/
def plV (i : Nat) (g cap : Nat) : Value := .agg #[.int .i64 ((98 + i / 4096 : Nat) : Int), .slice (some ⟨g, 0, none⟩) 512 cap, .int .i64 ((i % 4096 : Nat) : Int)]
set_option maxRecDepth 100000 in
set_option maxHeartbeats 4000000 in
theorem find_ok (w0 w : World) (D : Dk) (T : Tx) (n : Nat) (h : Spc w0 w D T n) (i : Nat) (hi : i < n) :
    Calls Try.prog 35 #[.pointer (some ⟨T.t, 0, none⟩), geoV n, .int .i64 (i : Int)] w fun e w' => ∃ g cap, e = .returned (.tuple #[plV i g cap, .int .i64 0]) ∧ w.heap.size ≤ g ∧ OwnB w' g cap (bmp D T (i / 4096)) ∧ Below w.heap.size w w' := by
  have hN := nM_bd h.lo h.hi
  have hl := h.lo
  have hh := h.hi
  have HA : Hid (∀ a b, Below w.heap.size w ((w.alloc a).alloc b)) := fun a b => ((Below.refl _ _).alloc (Nat.le_refl _) _).alloc (by simp) _
  have HG : Hid (∀ wx, Calls Try.prog 52 #[geoV n, .int .i64 (i : Int)] wx fun e w' => e = .returned (.tuple #[.int .i64 ((98 + i / 4096 : Nat) : Int), .int .i64 ((i % 4096 : Nat) : Int), .int .i64 0]) ∧ Below wx.heap.size wx w') := fun wx => by
    have := gbit_any wx (n : Int) (i : Int) (isLen_yes (by omega)) (by omega)
    rw [bitA_in (by omega)] at this
    exact this
  obtain ⟨A, hA⟩ : ∃ A, 98 + i / 4096 = A := ⟨_, rfl⟩
  obtain ⟨J, hJ⟩ : ∃ J, i % 4096 = J := ⟨_, rfl⟩
  have HR : Hid (∀ wx, Below w.heap.size w wx → Calls Try.prog 12 #[.pointer (some ⟨T.t, 0, none⟩), .int .i64 (A : Int)] wx fun e w' => ∃ g cap, e = .returned (.tuple #[.slice (some ⟨g, 0, none⟩) 512 cap, .int .i64 0]) ∧ wx.heap.size ≤ g ∧ OwnB w' g cap (bmp D T (i / 4096)) ∧ Below wx.heap.size wx w') := fun wx hb => by
    rw [bmp, hA]
    exact (h.on hb).read A (by omega)
  unfold plV
  rw [hA, hJ] at HG
  rw [hA, hJ]
  clear h hA hJ
  obtain ⟨wz, hwz⟩ : ∃ wz, (w.alloc (.cells #[.int .i64 (n : Int), .int .i64 98, .int .i64 (gI n), .int .i64 (gD n), .int .i64 (gC n)] 28)).alloc (.cells #[.int .i64 0, .slice none 0 0, .int .i64 0] 74) = wz := ⟨_, rfl⟩
  have HZ : Hid (Below w.heap.size w wz ∧ wz.heap.size = w.heap.size + 2 ∧ wz.heap[w.heap.size + 1]? = some (.cells #[.int .i64 0, .slice none 0 0, .int .i64 0] 74 (0, 0))) := by
    rw [← hwz]
    have h9 := heap_alloc_new (w.alloc (.cells #[.int .i64 (n : Int), .int .i64 98, .int .i64 (gI n), .int .i64 (gD n), .int .i64 (gC n)] 28)) (.cells #[.int .i64 0, .slice none 0 0, .int .i64 0] 74)
    rw [World.size_alloc] at h9
    exact ⟨HA.out _ _, by simp, h9⟩
  have hzr : wz.heap[w.heap.size]? = some (.cells #[.int .i64 (n : Int), .int .i64 98, .int .i64 (gI n), .int .i64 (gD n), .int .i64 (gC n)] 28 (0, 0)) := by
    rw [← hwz]; exact (Below.heap_alloc _ _ _ (by simp)).trans (heap_alloc_new _ _)
  have HZC : Hid (∀ j, wz.cell? ⟨w.heap.size, j, none⟩ = #[.int .i64 (n : Int), .int .i64 98, .int .i64 (gI n), .int .i64 (gD n), .int .i64 (gC n)][j]?) := fun j => cell_of_row _ _ _ _ _ _ hzr
  have hz0 : wz.cell? ⟨w.heap.size, 0, none⟩ = some (.int .i64 (n : Int)) := HZC.out 0
  have hz1 : wz.cell? ⟨w.heap.size, 1, none⟩ = some (.int .i64 98) := HZC.out 1
  have hz2 : wz.cell? ⟨w.heap.size, 2, none⟩ = some (.int .i64 (gI n)) := HZC.out 2
  have hz3 : wz.cell? ⟨w.heap.size, 3, none⟩ = some (.int .i64 (gD n)) := HZC.out 3
  have hz4 : wz.cell? ⟨w.heap.size, 4, none⟩ = some (.int .i64 (gC n)) := HZC.out 4
  clear HA hzr
  go_enter Try.func35, Try.ntmps35
  unfold geoV
  unfold geoV at HG
  go_wp2_with (first
    | (go_at_call 52; refine (HG.out _).mono ?_; rintro e w1 ⟨rfl, hb⟩; have H1 : Hid (Below wz.heap.size wz w1) := hb; clear hb HG)
    | (go_at_call 12; refine (HR.out _ (HZ.out.1.trans (H1.out.mono HZ.out.1.size))).mono ?_; rintro e w2 ⟨g, cap, rfl, h1, h2, h3⟩; have H2 : Hid (w1.heap.size ≤ g ∧ OwnB w2 g cap (bmp D T (i / 4096)) ∧ Below w1.heap.size w1 w2) := ⟨h1, h2, h3⟩; have hr : w2.heap[w.heap.size + 1]? = some (.cells #[.int .i64 0, .slice none 0 0, .int .i64 0] 74 (0, 0)) := (h3.block _ (by have := H1.out.size; have := HZ.out.2.1; omega)).trans ((H1.out.block _ (by have := HZ.out.2.1; omega)).trans HZ.out.2.2); have HRr : Hid (w2.heap[w.heap.size + 1]? = some (.cells #[.int .i64 0, .slice none 0 0, .int .i64 0] 74 (0, 0))) := hr; have hp0 : w2.cell? ⟨w.heap.size + 1, 0, none⟩ = some (.int .i64 0) := (by rw [cell_of_row _ _ _ _ _ _ hr]; rfl); have hp1 : w2.cell? ⟨w.heap.size + 1, 1, none⟩ = some (.slice none 0 0) := (by rw [cell_of_row _ _ _ _ _ _ hr]; rfl); have hp2 : w2.cell? ⟨w.heap.size + 1, 2, none⟩ = some (.int .i64 0) := (by rw [cell_of_row _ _ _ _ _ _ hr]; rfl); have hpf : ∀ j, w2.frozen? ⟨w.heap.size + 1, j, none⟩ = false := (fun j => frozen_of_row _ _ _ _ _ hr); clear h1 h2 h3 hr HR))
  have h1 := heap_setCell_same _ _ 0 _ _ (.int .i64 (A : Int)) HRr.out
  have h2 := heap_setCell_same _ _ 1 _ _ (.slice (some ⟨g, 0, none⟩) 512 cap) h1
  have h3 := heap_setCell_same _ _ 2 _ _ (.int .i64 (J : Int)) h2
  have c0 := cell_of_row _ _ 0 _ _ _ h3
  have c1 := cell_of_row _ _ 1 _ _ _ h3
  have c2 := cell_of_row _ _ 2 _ _ _ h3
  refine bodyPost_ret (results_row_tmp7 rfl _ _ (w.heap.size + 1) #[.int .i64 (A : Int), .slice (some ⟨g, 0, none⟩) 512 cap, .int .i64 (J : Int)] rfl (by simp [go_sem, c0, c1, c2])) rfl ?_
  have hs := HZ.out.2.1
  have hs1 := H1.out.size
  have hs2 := H2.out.2.2.size
  have hgg := H2.out.1
  have hFr : Fr (fun k => k = w.heap.size + 1) w2 (((w2.setCell ⟨w.heap.size + 1, 0, none⟩ (.int .i64 (A : Int))).setCell ⟨w.heap.size + 1, 1, none⟩ (.slice (some ⟨g, 0, none⟩) 512 cap)).setCell ⟨w.heap.size + 1, 2, none⟩ (.int .i64 (J : Int))) := (Fr.set.trans Fr.set (fun _ hk => .inl hk)).trans Fr.set (fun _ hk => .inl hk)
  have hb2 : Below w.heap.size w w2 := HZ.out.1.trans ((H1.out.mono HZ.out.1.size).trans (H2.out.2.2.mono (by omega)))
  refine ⟨g, cap, rfl, by omega, H2.out.2.1.fr hFr (by show ¬ g = w.heap.size + 1; omega), hb2.trans (hFr.below _ (fun k hk => by have hk : k = w.heap.size + 1 := hk; omega) (by omega))⟩
set_option maxRecDepth 100000 in
theorem taken_bit (w : World) (i g cap : Nat) (l : List Int) (hb : Bytes w (some ⟨g, 0, none⟩) l) (hl : l.length = 512) :
    Calls Try.prog 36 #[plV i g cap] w fun e w' => e = .returned (.bool (bt l (i % 4096))) ∧ Below w.heap.size w w' := by
  have HB : Hid (Bytes w (some ⟨g, 0, none⟩) l) := hb
  obtain ⟨A, hA⟩ : ∃ A, 98 + i / 4096 = A := ⟨_, rfl⟩
  obtain ⟨J, hJ⟩ : ∃ J, i % 4096 = J := ⟨_, rfl⟩
  have hJ8 : J < 8 * 512 := by omega
  unfold plV
  rw [hA, hJ]
  clear hb hA hJ
  go_enter Try.func36, Try.ntmps36
  go_wp2_with (go_at_call 53; refine (get_yes _ ⟨g, 0, none⟩ 512 cap J l (HB.out.on ((Below.refl _ _).alloc (Nat.le_refl _) _)) hl hJ8).mono ?_; rintro e w1 ⟨rfl, m, rfl⟩)
  go_ret
  exact ⟨rfl, ((Below.refl _ _).alloc (Nat.le_refl _) _).trans (belowN_drewN _ _ _)⟩
/-- what a put of a bitmap's block leaves -/
structure WrE (w0 w w' : World) (D : Dk) (T T' : Tx) (n a : Nat) (x : List Int) : Prop where
  mv : TMv w T w' T'
  spc : Spc w0 w' D T' n
  t : T'.t = T.t
  c : ∃ q : Bk, T'.c = ups T.c a (some q) ∧ q.x = x
  u : ∃ u : Un, T'.us = T.us ++ [u] ∧ u.i = a ∧ u.old = T.c a
structure PutE (w0 w w' : World) (D : Dk) (T T' : Tx) (n a : Nat) (x : List Int) (g : Nat) : Prop where
  mv : ∃ w1, Fr (fun k => k = g) w w1 ∧ TMv w1 T w' T'
  spc : Spc w0 w' D T' n
  t : T'.t = T.t
  c : ∃ q : Bk, T'.c = ups T.c a (some q) ∧ q.x = x
  u : ∃ u : Un, T'.us = T.us ++ [u] ∧ u.i = a ∧ u.old = T.c a
theorem tv_ups {D : Dk} {T T' : Tx} {a : Nat} {q : Bk} (hc : T'.c = ups T.c a (some q)) (j : Nat) : tv D T' j = if j = a then q.x else tv D T j := by
  unfold tv
  rw [hc]
  by_cases e : j = a
  · subst e; rw [ups_same, if_pos rfl]
  · rw [ups_other _ _ e, if_neg e]
theorem Spc.write {w0 w : World} {D : Dk} {T : Tx} {n : Nat} (h : Spc w0 w D T n) (a : Nat) (h0 : 98 ≤ a) (h1 : a < n) (p : Addr) (c : Nat) (x : List Int) (hb : Bytes w (some p) x) (hx : x.length = 512) (hr : (T.c a).isSome = true ∨ (lst T.c n).length < 96) (hu : T.us.length + 1 ≤ 1000000) :
    Calls Try.prog 10 #[.pointer (some ⟨T.t, 0, none⟩), .int .i64 (a : Int), .slice (some p) 512 c] w fun e w' => e = .returned (.int .i64 0) ∧ ∃ T', WrE w0 w w' D T T' n a x := by
  refine (ses_write w0 w D T h.ses a h0 (by rw [h.nb]; exact h1) p c x hb hx (by rw [h.nb]; exact hr) hu).mono ?_
  rintro e w' ⟨rfl, T', q, u, hs, hm, hq, hn, hc, hus, hi, ho⟩
  refine ⟨rfl, T', hm, ⟨hs, h.dn, hm.nb.trans h.nb, h.lo, h.hi, fun i hi => ?_⟩, hm.t, ⟨q, hc, hq⟩, ⟨u, hus, hi, ho⟩⟩
  rw [tv_ups hc]
  split
  · rw [hq]; exact ⟨hx, hb.wf⟩
  · exact h.ok i hi
set_option maxRecDepth 100000 in
set_option maxHeartbeats 4000000 in
theorem put_bit (w0 wq w : World) (D : Dk) (T : Tx) (n : Nat) (h : Spc w0 wq D T n) (hq : Below wq.heap.size wq w) (i g cap : Nat) (hi : i < n) (ho : OwnB w g cap (bmp D T (i / 4096))) (hg : wq.heap.size ≤ g) (on : Bool) (hr : (T.c (98 + i / 4096)).isSome = true ∨ (lst T.c n).length < 96) (hu : T.us.length + 1 ≤ 1000000) :
    Calls Try.prog 37 #[plV i g cap, .pointer (some ⟨T.t, 0, none⟩), .bool on] w fun e w' => e = .returned (.int .i64 0) ∧ ∃ T', PutE w0 w w' D T T' n (98 + i / 4096) (bput (bmp D T (i / 4096)) (i % 4096) on) g := by
  have hN := nM_bd h.lo h.hi
  have hk : i / 4096 < nM n := by unfold nM; omega
  have hl := h.bm.len (i / 4096) hk
  have HP : Hid (∀ wx, Below w.heap.size w wx → Calls Try.prog 54 #[.slice (some ⟨g, 0, none⟩) 512 cap, .int .i64 ((i % 4096 : Nat) : Int), .bool on] wx fun e w' => e = .returned (.int .i64 0) ∧ OwnB w' g cap (bput (bmp D T (i / 4096)) (i % 4096) on) ∧ Fr (fun k => k = g) wx w') := fun wx hb => put_own wx g 512 cap cap (i % 4096) _ on (ho.on hb) hl (by omega)
  have HW : Hid (∀ wx w', Below w.heap.size w wx → OwnB w' g cap (bput (bmp D T (i / 4096)) (i % 4096) on) → Fr (fun k => k = g) wx w' → Calls Try.prog 10 #[.pointer (some ⟨T.t, 0, none⟩), .int .i64 ((98 + i / 4096 : Nat) : Int), .slice (some ⟨g, 0, none⟩) 512 cap] w' fun e w9 => e = .returned (.int .i64 0) ∧ ∃ T', PutE w0 w w9 D T T' n (98 + i / 4096) (bput (bmp D T (i / 4096)) (i % 4096) on) g) := fun wx w' hb h2 h3 => by
    have hb1 : Below wq.heap.size wq w' := (hq.trans (hb.mono hq.size)).trans (h3.below _ (fun k hk => by have hk : k = g := hk; omega) (Nat.le_trans hq.size hb.size))
    refine ((h.on hb1).write (98 + i / 4096) (by omega) (by omega) ⟨g, 0, none⟩ cap _ h2.bytes (by rw [bput_length, hl]) hr hu).mono ?_
    rintro e w9 ⟨rfl, T', hx⟩
    exact ⟨rfl, T', ⟨w', (below_fr hb _).trans h3 (fun k hk => .inl hk), hx.mv⟩, hx.spc, hx.t, hx.c, hx.u⟩
  obtain ⟨x, hx⟩ : ∃ x, bput (bmp D T (i / 4096)) (i % 4096) on = x := ⟨_, rfl⟩
  obtain ⟨A, hA⟩ : ∃ A, 98 + i / 4096 = A := ⟨_, rfl⟩
  obtain ⟨J, hJ⟩ : ∃ J, i % 4096 = J := ⟨_, rfl⟩
  rw [hx] at HP HW
  rw [hx]
  unfold plV
  rw [hA] at HW
  rw [hJ] at HP
  rw [hA, hJ]
  have hgl : g < w.heap.size := ho.lt
  clear h ho hr hx hA hJ hq
  go_enter Try.func37, Try.ntmps37
  have HB0 : Hid (Below w.heap.size w (w.alloc (.cells #[.int .i64 (A : Int), .slice (some ⟨g, 0, none⟩) 512 cap, .int .i64 (J : Int)] 74))) := (Below.refl _ _).alloc (Nat.le_refl _) _
  obtain ⟨wa, hwa⟩ : ∃ wa, w.alloc (.cells #[.int .i64 (A : Int), .slice (some ⟨g, 0, none⟩) 512 cap, .int .i64 (J : Int)] 74) = wa := ⟨_, rfl⟩
  have hra : wa.heap[w.heap.size]? = some (.cells #[.int .i64 (A : Int), .slice (some ⟨g, 0, none⟩) 512 cap, .int .i64 (J : Int)] 74 (0, 0)) := by rw [← hwa]; exact heap_alloc_new _ _
  have q0 : wa.cell? ⟨w.heap.size, 0, none⟩ = some (.int .i64 (A : Int)) := by rw [cell_of_row _ _ _ _ _ _ hra]; rfl
  have q1 : wa.cell? ⟨w.heap.size, 1, none⟩ = some (.slice (some ⟨g, 0, none⟩) 512 cap) := by rw [cell_of_row _ _ _ _ _ _ hra]; rfl
  have q2 : wa.cell? ⟨w.heap.size, 2, none⟩ = some (.int .i64 (J : Int)) := by rw [cell_of_row _ _ _ _ _ _ hra]; rfl
  have HQ : Hid (Below w.heap.size w wa ∧ wa.heap[w.heap.size]? = some (.cells #[.int .i64 (A : Int), .slice (some ⟨g, 0, none⟩) 512 cap, .int .i64 (J : Int)] 74 (0, 0))) := ⟨by rw [← hwa]; exact HB0.out, hra⟩
  clear hra HB0
  go_wp2_with (first
    | (go_at_call 54; refine (HP.out _ HQ.out.1).mono ?_; rintro e w1 ⟨rfl, h2, h3⟩; have H1 : Hid (OwnB w1 g cap x ∧ Fr (fun k => k = g) wa w1) := ⟨h2, h3⟩; have hra1 := h3.heap HQ.out.2 (show ¬ w.heap.size = g from by omega); have s0 : w1.cell? ⟨w.heap.size, 0, none⟩ = some (.int .i64 (A : Int)) := (by rw [cell_of_row _ _ _ _ _ _ hra1]; rfl); have s1 : w1.cell? ⟨w.heap.size, 1, none⟩ = some (.slice (some ⟨g, 0, none⟩) 512 cap) := (by rw [cell_of_row _ _ _ _ _ _ hra1]; rfl); clear h2 h3 hra1 HP)
    | (go_at_call 10; refine (HW.out _ _ HQ.out.1 H1.out.1 H1.out.2).mono ?_; rintro e w2 ⟨rfl, T', hx⟩; clear HW))
  go_ret
  exact ⟨rfl, T', hx⟩
end Go.Proofs.Ytpbpblpbjkegfaa
