import Derived.Test.YtflienghgobmoaaGreatDoorKXsY
namespace Go.Proofs.YtflienghgobmoaaGreatDoor
open Go.RowKit Go.Maps Rec

set_option maxRecDepth 100000 in
theorem isData_yes (w : World) (n : Nat) (i : Int) (h1 : (nD n : Int) ≤ i) (h2 : i < (n : Int)) : Calls Tryz.prog 71 #[geoV n, .int .i64 i] w fun e w' => e = .returned (.bool true) ∧ Below w.heap.size w w' := by
  have hA : Hid (∀ o, Below w.heap.size w (w.alloc o)) := fun o => (Below.refl _ _).alloc (Nat.le_refl _) o
  unfold geoV
  rw [gD_nat]
  go_enter Tryz.func71, Tryz.ntmps71
  go_wp2
  go_ret
  exact ⟨rfl, hA.out _⟩
set_option maxRecDepth 100000 in
theorem isData_no (w : World) (n : Nat) (i : Int) (hi : ¬ ((nD n : Int) ≤ i ∧ i < (n : Int))) : Calls Tryz.prog 71 #[geoV n, .int .i64 i] w fun e w' => e = .returned (.bool false) ∧ Below w.heap.size w w' := by
  have hA : Hid (∀ o, Below w.heap.size w (w.alloc o)) := fun o => (Below.refl _ _).alloc (Nat.le_refl _) o
  unfold geoV
  rw [gD_nat]
  by_cases h1 : (nD n : Int) ≤ i
  · have h2 : ¬ i < (n : Int) := fun h => hi ⟨h1, h⟩
    clear hi
    go_enter Tryz.func71, Tryz.ntmps71
    go_wp2
    go_ret
    exact ⟨rfl, hA.out _⟩
  · clear hi
    go_enter Tryz.func71, Tryz.ntmps71
    go_wp2
    go_ret
    exact ⟨rfl, hA.out _⟩
set_option maxRecDepth 100000 in
set_option maxHeartbeats 4000000 in
theorem used_any (w0 w : World) (D : Dk) (T : Tx) (n : Nat) (h : Spc w0 w D T n) (i : Nat) (hi : i < n) (hrd : rdb D T (98 + i / 4096)) :
    Calls Tryz.prog 29 #[.pointer (some ⟨T.t, 0, none⟩), geoV n, .int .i64 (i : Int)] w fun e w' => e = .returned (.tuple #[.bool (isT (bmp D T) i), .int .i64 0]) ∧ Below w.heap.size w w' := by
  have hk : i / 4096 < nM n := by unfold nM; omega
  have hl := h.bm.len (i / 4096) hk
  have HF : Hid (∀ wx, Below w.heap.size w wx → Calls Tryz.prog 72 #[.pointer (some ⟨T.t, 0, none⟩), geoV n, .int .i64 (i : Int)] wx fun e w' => ∃ g cap, e = .returned (.tuple #[plV i g cap, .int .i64 0]) ∧ wx.heap.size ≤ g ∧ OwnB w' g cap (bmp D T (i / 4096)) ∧ Below wx.heap.size wx w') := fun wx hb => find_ok w0 wx D T n (h.on hb) i hi hrd
  have HT : Hid (∀ wx g cap, OwnB wx g cap (bmp D T (i / 4096)) → Calls Tryz.prog 73 #[plV i g cap] wx fun e w' => e = .returned (.bool (isT (bmp D T) i)) ∧ Below wx.heap.size wx w') := fun wx g cap ho => taken_bit wx i g cap _ ho.bytes hl
  have HA : Hid (∀ o, Below w.heap.size w (w.alloc o)) := fun o => (Below.refl _ _).alloc (Nat.le_refl _) o
  obtain ⟨A, hA⟩ : ∃ A, 98 + i / 4096 = A := ⟨_, rfl⟩
  obtain ⟨J, hJ⟩ : ∃ J, i % 4096 = J := ⟨_, rfl⟩
  unfold plV at HF HT
  rw [hA, hJ] at HF HT
  clear h hA hJ hk hl hrd
  obtain ⟨b, hb⟩ : ∃ b, isT (bmp D T) i = b := ⟨_, rfl⟩
  rw [hb] at HT
  rw [hb]
  clear hb
  go_enter Tryz.func29, Tryz.ntmps29
  unfold geoV
  unfold geoV at HF
  go_wp2_with (first
    | (go_at_call 72; refine (HF.out _ (HA.out _)).mono ?_; rintro e w1 ⟨g, cap, rfl, h1, h2, h3⟩; have H1 : Hid (OwnB w1 g cap (bmp D T (i / 4096)) ∧ Below w.heap.size w w1) := ⟨h2, (HA.out _).trans (h3.mono (HA.out _).size)⟩; clear h1 h2 h3 HF)
    | (go_at_call 73; refine (HT.out _ _ _ (H1.out.1.on ((Below.refl _ _).alloc (Nat.le_refl _) _))).mono ?_; rintro e w2 ⟨rfl, hb⟩; have H2 : Hid (Below w.heap.size w w2) := (H1.out.2.alloc H1.out.2.size _).trans (hb.mono (H1.out.2.alloc H1.out.2.size _).size); clear hb HT))
  go_ret2
  exact ⟨rfl, H2.out⟩
set_option maxRecDepth 100000 in
set_option maxHeartbeats 4000000 in
theorem give_not (w : World) (t : Nat) (n : Nat) (i : Int) (hi : ¬ ((nD n : Int) ≤ i ∧ i < (n : Int))) :
    Calls Tryz.prog 27 #[.pointer (some ⟨t, 0, none⟩), geoV n, .int .i64 i] w fun e w' => e = .returned (.int .i64 91) ∧ Below w.heap.size w w' := by
  have HD : Hid (∀ wx, Calls Tryz.prog 71 #[geoV n, .int .i64 i] wx fun e w' => e = .returned (.bool false) ∧ Below wx.heap.size wx w') := fun wx => isData_no wx n i hi
  have HA : Hid (∀ o, Below w.heap.size w (w.alloc o)) := fun o => (Below.refl _ _).alloc (Nat.le_refl _) o
  clear hi
  go_enter Tryz.func27, Tryz.ntmps27
  unfold geoV
  unfold geoV at HD
  go_wp2_with (go_at_call 71; refine (HD.out _).mono ?_; rintro e w1 ⟨rfl, h1⟩; have H1 : Hid (Below w.heap.size w w1) := (HA.out _).trans (h1.mono (HA.out _).size); clear h1 HD)
  go_ret
  exact ⟨rfl, H1.out⟩
/-- behind a Give -/
structure GiveE (w0 w w' : World) (D : Dk) (T T' : Tx) (n i : Nat) : Prop where
  mv : TMv w T w' T'
  spc : Spc w0 w' D T' n
  t : T'.t = T.t
  c : ∃ q : Bk, T'.c = ups T.c (98 + i / 4096) (some q) ∧ q.x = bput (bmp D T (i / 4096)) (i % 4096) false
  u : T'.us.length = T.us.length + 1
  uu : ∃ u : Un, T'.us = T.us ++ [u] ∧ u.i = 98 + i / 4096 ∧ u.old = T.c (98 + i / 4096)
theorem PutE.give {w0 wa wb w' : World} {D : Dk} {T T' : Tx} {n a g : Nat} {x : List Int} (h : PutE w0 wb w' D T T' n a x g) (hb : Below wa.heap.size wa wb) (hg : wa.heap.size ≤ g) : TMv wa T w' T' := by
  obtain ⟨w1, hf, hm⟩ := h.mv
  exact (TMv.on (hb.trans (hf.below _ (fun k hk => by have hk : k = g := hk; omega) hb.size))).trans hm
set_option maxRecDepth 100000 in
set_option maxHeartbeats 4000000 in
theorem give_ok (w0 w : World) (D : Dk) (T : Tx) (n : Nat) (h : Spc w0 w D T n) (i : Nat) (h0 : nD n ≤ i) (hi : i < n) (hb : isT (bmp D T) i = true) (hr : (T.c (98 + i / 4096)).isSome = true ∨ (lst T.c n).length < 96) (hu : T.us.length + 1 ≤ 1000000) (hrd : rdb D T (98 + i / 4096)) :
    Calls Tryz.prog 27 #[.pointer (some ⟨T.t, 0, none⟩), geoV n, .int .i64 (i : Int)] w fun e w' => e = .returned (.int .i64 0) ∧ ∃ T', GiveE w0 w w' D T T' n i := by
  have hk : i / 4096 < nM n := by unfold nM; omega
  have hl := h.bm.len (i / 4096) hk
  have HA : Hid (∀ o, Below w.heap.size w (w.alloc o)) := fun o => (Below.refl _ _).alloc (Nat.le_refl _) o
  have HD : Hid (∀ wx, Calls Tryz.prog 71 #[geoV n, .int .i64 (i : Int)] wx fun e w' => e = .returned (.bool true) ∧ Below wx.heap.size wx w') := fun wx => isData_yes wx n (i : Int) (by omega) (by omega)
  have HF : Hid (∀ wx, Below w.heap.size w wx → Calls Tryz.prog 72 #[.pointer (some ⟨T.t, 0, none⟩), geoV n, .int .i64 (i : Int)] wx fun e w' => ∃ g cap, e = .returned (.tuple #[plV i g cap, .int .i64 0]) ∧ wx.heap.size ≤ g ∧ OwnB w' g cap (bmp D T (i / 4096)) ∧ Below wx.heap.size wx w') := fun wx hb => find_ok w0 wx D T n (h.on hb) i hi hrd
  have HT : Hid (∀ wx g cap, OwnB wx g cap (bmp D T (i / 4096)) → Calls Tryz.prog 73 #[plV i g cap] wx fun e w' => e = .returned (.bool true) ∧ Below wx.heap.size wx w') := fun wx g cap ho => by
    have := taken_bit wx i g cap _ ho.bytes hl
    rw [← hb]
    exact this
  have HP : Hid (∀ wx g cap, Below w.heap.size w wx → OwnB wx g cap (bmp D T (i / 4096)) → w.heap.size ≤ g → Calls Tryz.prog 74 #[plV i g cap, .pointer (some ⟨T.t, 0, none⟩), .bool false] wx fun e w' => e = .returned (.int .i64 0) ∧ ∃ T', GiveE w0 w w' D T T' n i) := fun wx g cap hbx ho hg => by
    refine (put_bit w0 w wx D T n h hbx i g cap hi ho hg false hr hu).mono ?_
    rintro e w' ⟨rfl, T', hx⟩
    obtain ⟨u, hu1, _⟩ := hx.u
    exact ⟨rfl, T', hx.give hbx hg, hx.spc, hx.t, hx.c, by rw [hu1, List.length_append]; rfl, hx.u⟩
  obtain ⟨A, hA⟩ : ∃ A, 98 + i / 4096 = A := ⟨_, rfl⟩
  obtain ⟨J, hJ⟩ : ∃ J, i % 4096 = J := ⟨_, rfl⟩
  unfold plV at HF HT HP
  rw [hA, hJ] at HF HT HP
  clear h hA hJ hk hl hb hr hu hrd
  go_enter Tryz.func27, Tryz.ntmps27
  unfold geoV
  unfold geoV at HF HD
  obtain ⟨wz, hwz⟩ : ∃ wz, w.alloc (.cells #[.int .i64 (n : Int), .int .i64 98, .int .i64 (gI n), .int .i64 (gD n), .int .i64 (gC n)] 36) = wz := ⟨_, rfl⟩
  have HZ : Hid (Below w.heap.size w wz ∧ GeoAt wz w.heap.size n) := by
    rw [← hwz]; exact ⟨HA.out _, heap_alloc_new _ _⟩
  obtain ⟨z0, z1, z2, z3, z4⟩ := HZ.out.2.cells
  clear HA
  go_wp2_with (first
    | (go_at_call 71; refine (HD.out _).mono ?_; rintro e w1 ⟨rfl, h1⟩; have H1 : Hid (Below w.heap.size w w1) := HZ.out.1.trans (h1.mono HZ.out.1.size); obtain ⟨y0, y1, y2, y3, y4⟩ := (HZ.out.2.on h1).cells; clear h1 HD)
    | (go_at_call 72; refine (HF.out _ H1.out).mono ?_; rintro e w2 ⟨g, cap, rfl, h1, h2, h3⟩; have H2 : Hid (OwnB w2 g cap (bmp D T (i / 4096)) ∧ Below w.heap.size w w2 ∧ w.heap.size ≤ g) := ⟨h2, H1.out.trans (h3.mono H1.out.size), Nat.le_trans H1.out.size h1⟩; clear h1 h2 h3 HF)
    | (go_at_call 73; refine (HT.out _ _ _ (H2.out.1.on ((Below.refl _ _).alloc (Nat.le_refl _) _))).mono ?_; rintro e w3 ⟨rfl, hb⟩; have H3 : Hid (Below w.heap.size w w3 ∧ OwnB w3 g cap (bmp D T (i / 4096)) ∧ w.heap.size ≤ g) := ⟨(H2.out.2.1.alloc H2.out.2.1.size _).trans (hb.mono (H2.out.2.1.alloc H2.out.2.1.size _).size), (H2.out.1.on ((Below.refl _ _).alloc (Nat.le_refl _) _)).on hb, H2.out.2.2⟩; have x0 := (hb.cell (p := ⟨w2.heap.size, 0, none⟩) (by simp)); have x1 := (hb.cell (p := ⟨w2.heap.size, 1, none⟩) (by simp)); have x2 := (hb.cell (p := ⟨w2.heap.size, 2, none⟩) (by simp)); simp at x0 x1 x2; clear hb HT)
    | (go_at_call 74; refine (HP.out _ _ _ H3.out.1 H3.out.2.1 H3.out.2.2).mono ?_; rintro e w4 ⟨rfl, T', hx⟩; clear HP))
  go_ret
  exact ⟨rfl, T', hx⟩
set_option maxRecDepth 100000 in
set_option maxHeartbeats 4000000 in
theorem give_free (w0 w : World) (D : Dk) (T : Tx) (n : Nat) (h : Spc w0 w D T n) (i : Nat) (h0 : nD n ≤ i) (hi : i < n) (hb : isT (bmp D T) i = false) (hrd : rdb D T (98 + i / 4096)) :
    Calls Tryz.prog 27 #[.pointer (some ⟨T.t, 0, none⟩), geoV n, .int .i64 (i : Int)] w fun e w' => e = .returned (.int .i64 91) ∧ Below w.heap.size w w' := by
  have hk : i / 4096 < nM n := by unfold nM; omega
  have hl := h.bm.len (i / 4096) hk
  have HA : Hid (∀ o, Below w.heap.size w (w.alloc o)) := fun o => (Below.refl _ _).alloc (Nat.le_refl _) o
  have HD : Hid (∀ wx, Calls Tryz.prog 71 #[geoV n, .int .i64 (i : Int)] wx fun e w' => e = .returned (.bool true) ∧ Below wx.heap.size wx w') := fun wx => isData_yes wx n (i : Int) (by omega) (by omega)
  have HF : Hid (∀ wx, Below w.heap.size w wx → Calls Tryz.prog 72 #[.pointer (some ⟨T.t, 0, none⟩), geoV n, .int .i64 (i : Int)] wx fun e w' => ∃ g cap, e = .returned (.tuple #[plV i g cap, .int .i64 0]) ∧ wx.heap.size ≤ g ∧ OwnB w' g cap (bmp D T (i / 4096)) ∧ Below wx.heap.size wx w') := fun wx hb => find_ok w0 wx D T n (h.on hb) i hi hrd
  have HT : Hid (∀ wx g cap, OwnB wx g cap (bmp D T (i / 4096)) → Calls Tryz.prog 73 #[plV i g cap] wx fun e w' => e = .returned (.bool false) ∧ Below wx.heap.size wx w') := fun wx g cap ho => by
    have := taken_bit wx i g cap _ ho.bytes hl
    rw [← hb]
    exact this
  obtain ⟨A, hA⟩ : ∃ A, 98 + i / 4096 = A := ⟨_, rfl⟩
  obtain ⟨J, hJ⟩ : ∃ J, i % 4096 = J := ⟨_, rfl⟩
  unfold plV at HF HT
  rw [hA, hJ] at HF HT
  clear h hA hJ hk hl hb hrd
  go_enter Tryz.func27, Tryz.ntmps27
  unfold geoV
  unfold geoV at HF HD
  obtain ⟨wz, hwz⟩ : ∃ wz, w.alloc (.cells #[.int .i64 (n : Int), .int .i64 98, .int .i64 (gI n), .int .i64 (gD n), .int .i64 (gC n)] 36) = wz := ⟨_, rfl⟩
  have HZ : Hid (Below w.heap.size w wz ∧ GeoAt wz w.heap.size n) := by
    rw [← hwz]; exact ⟨HA.out _, heap_alloc_new _ _⟩
  obtain ⟨z0, z1, z2, z3, z4⟩ := HZ.out.2.cells
  clear HA
  go_wp2_with (first
    | (go_at_call 71; refine (HD.out _).mono ?_; rintro e w1 ⟨rfl, h1⟩; have H1 : Hid (Below w.heap.size w w1) := HZ.out.1.trans (h1.mono HZ.out.1.size); obtain ⟨y0, y1, y2, y3, y4⟩ := (HZ.out.2.on h1).cells; clear h1 HD)
    | (go_at_call 72; refine (HF.out _ H1.out).mono ?_; rintro e w2 ⟨g, cap, rfl, h1, h2, h3⟩; have H2 : Hid (OwnB w2 g cap (bmp D T (i / 4096)) ∧ Below w.heap.size w w2 ∧ w.heap.size ≤ g) := ⟨h2, H1.out.trans (h3.mono H1.out.size), Nat.le_trans H1.out.size h1⟩; clear h1 h2 h3 HF)
    | (go_at_call 73; refine (HT.out _ _ _ (H2.out.1.on ((Below.refl _ _).alloc (Nat.le_refl _) _))).mono ?_; rintro e w3 ⟨rfl, hb⟩; have H3 : Hid (Below w.heap.size w w3 ∧ OwnB w3 g cap (bmp D T (i / 4096)) ∧ w.heap.size ≤ g) := ⟨(H2.out.2.1.alloc H2.out.2.1.size _).trans (hb.mono (H2.out.2.1.alloc H2.out.2.1.size _).size), (H2.out.1.on ((Below.refl _ _).alloc (Nat.le_refl _) _)).on hb, H2.out.2.2⟩; have x0 := (hb.cell (p := ⟨w2.heap.size, 0, none⟩) (by simp)); have x1 := (hb.cell (p := ⟨w2.heap.size, 1, none⟩) (by simp)); have x2 := (hb.cell (p := ⟨w2.heap.size, 2, none⟩) (by simp)); simp at x0 x1 x2; clear hb HT))
  go_ret
  exact ⟨rfl, H3.out.1⟩
end Go.Proofs.YtflienghgobmoaaGreatDoor

namespace Go.Proofs.YtflienghgobmoaaGreatDoor
open Go.RowKit Go.Maps Rec

set_option maxRecDepth 100000 in
set_option maxHeartbeats 8000000 in
theorem eachBmF (w0 wq w : World) (D : Dk) (T : Tx) (n : Nat) (h : Spc w0 wq D T n) (hq : Below wq.heap.size wq w) (G Db S : Nat) (z : Int) (hC : Cau w G Db S 76 (nD n) n z) (hS : wq.heap.size ≤ S) (hz : 0 ≤ z ∧ z ≤ 1000) (K : Nat) (hK : Kpre D T n K) :
    Calls Tryz.prog 111 #[.pointer (some ⟨T.t, 0, none⟩), geoV n, .func (.func 112) #[] #[.pointer (some ⟨G, 0, none⟩), .pointer (some ⟨Db, 0, none⟩)]] w fun e w' => e = .returned (.int .i64 (eK n K)) ∧ BoxI w S (z + (ct (fd (nD n) n (bmp D T)) (4096 * K) : Nat)) w' := by
  have HN := nM_bd h.lo h.hi
  have hnl := h.lo
  have hnh := h.hi
  have HKp : Hid (Kpre D T n K) := hK
  have hKM : K ≤ nM n := hK.le
  have hEK : (K < nM n → eK n K = 30) ∧ (K = nM n → eK n K = 0) := ⟨fun h => by unfold eK; rw [if_neg (by omega)], fun h => by unfold eK; rw [if_pos h]⟩
  clear hK
  have HP : Hid (Spc w0 wq D T n ∧ Below wq.heap.size wq w ∧ Cau w G Db S 76 (nD n) n z) := ⟨h, hq, hC⟩
  have hSl := block_lt_of_cell hC.s
  dsimp only at hSl
  clear h hq hC
  obtain ⟨M, hM⟩ : ∃ M, nM n = M := ⟨_, rfl⟩
  obtain ⟨lo, hlo⟩ : ∃ lo, nD n = lo := ⟨_, rfl⟩
  rw [hM, hlo] at HN
  rw [hM] at hKM hEK
  have HEK : Hid ((K < M → eK n K = 30) ∧ (K = M → eK n K = 0)) := hEK
  clear hEK
  rw [hlo] at HP
  obtain ⟨t0, ht0⟩ : ∃ t0, T.t = t0 := ⟨_, rfl⟩
  have HT0 : Hid (T.t = t0) := ht0
  obtain ⟨gi, hgi⟩ : ∃ gi : Int, gI (n : Int) = gi := ⟨_, rfl⟩
  obtain ⟨gd, hgd⟩ : ∃ gd : Int, gD (n : Int) = gd := ⟨_, rfl⟩
  obtain ⟨gc, hgc⟩ : ∃ gc : Int, gC (n : Int) = gc := ⟨_, rfl⟩
  have hgi' : gi - 98 = (M : Int) := by rw [← hgi, gI_nat, hM]; omega
  unfold geoV
  rw [hgi, hgd, hgc, ht0, hlo]
  have HM : Hid (nM n = M) := hM
  clear ht0 hgi hgd hgc hM hlo
  obtain ⟨w1, hw1⟩ : ∃ w1, w.alloc (.cells #[.int .i64 (n : Int), .int .i64 98, .int .i64 gi, .int .i64 gd, .int .i64 gc] 36) = w1 := ⟨_, rfl⟩
  have H1 : Hid (Below w.heap.size w w1 ∧ w1.heap[w.heap.size]? = some (.cells #[.int .i64 (n : Int), .int .i64 98, .int .i64 gi, .int .i64 gd, .int .i64 gc] 36 (0, 0))) := by
    rw [← hw1]; exact ⟨(Below.refl _ _).alloc (Nat.le_refl _) _, heap_alloc_new _ _⟩
  have hs1 : w1.heap.size = w.heap.size + 1 := by rw [← hw1]; simp
  have hcc : ∀ j, w1.cell? ⟨w.heap.size, j, none⟩ = #[.int .i64 (n : Int), .int .i64 98, .int .i64 gi, .int .i64 gd, .int .i64 gc][j]? := fun j => cell_of_row _ _ _ _ _ _ H1.out.2
  have hcA : w1.cell? ⟨w.heap.size, 1, none⟩ = some (.int .i64 98) := hcc 1
  have hcB : w1.cell? ⟨w.heap.size, 2, none⟩ = some (.int .i64 gi) := hcc 2
  clear hcc
  have box0 : BoxI w1 S z w1 := ⟨(H1.out.1.cell (p := ⟨S, 0, none⟩) hSl).trans HP.out.2.2.s, (frozen_blk (H1.out.1.block S hSl)).trans HP.out.2.2.sf, Fr.refl _ _⟩
  go_enter Tryz.func111, Tryz.ntmps111
  go_wp2
  go_loopw [15] (fun s15 wr => ∃ k : Nat, k ≤ K ∧ s15 = .int .i64 (k : Int) ∧ BoxI w1 S (z + (ct (fd lo n (bmp D T)) (4096 * k) : Nat)) wr) (fun s15 _ => M - (intOf s15).toNat)
  case atStart => exact ⟨0, Nat.zero_le _, rfl, (by have h9 := box0; rw [← Int.add_zero z] at h9; exact h9)⟩
  case round =>
    obtain ⟨k, hk, rfl, hI⟩ := hrel
    have HI : Hid (BoxI w1 S (z + (ct (fd lo n (bmp D T)) (4096 * k) : Nat)) wr) := hI
    have HX : Hid (Below wq.heap.size wq wr) := by
      have h1 := HP.out.2.1.size
      have h2 := H1.out.1.size
      exact (HP.out.2.1.trans (H1.out.1.mono h1)).trans (hI.fr.below _ (fun k hk => by rcases hk with e | e <;> omega) (by omega))
    have hcb : wr.cell? ⟨w.heap.size, 1, none⟩ = some (.int .i64 98) := hI.fr.cell hcA (fun e => by dsimp only at e; omega)
    clear hI
    by_cases hlt : k < M
    · have hlt' : (k : Int) < (M : Int) := by omega
      by_cases hkK : k < K
      rotate_left
      · have e : k = K := by omega
        subst e
        have e98 : (98 : Int) + (k : Int) = ((98 + k : Nat) : Int) := by omega
        obtain ⟨K9, hK9⟩ : ∃ K9 : Nat, 98 + k = K9 := ⟨_, rfl⟩
        rw [hK9] at e98
        have HR : Hid (Calls Tryz.prog 65 #[.pointer (some ⟨t0, 0, none⟩), .int .i64 (K9 : Int)] wr fun e w' => ∃ a c, e = .returned (.tuple #[.slice a 0 c, .int .i64 30]) ∧ Below wr.heap.size wr w') := by
          have := (HP.out.1.on HX.out).read_no (98 + k) (by omega) (HKp.out.no (by have h9 := HM.out; omega))
          rw [HT0.out, hK9] at this
          exact this
        clear hK9
        go_wp2_with (go_at_call 65; refine HR.out.mono ?_; rintro e w2 ⟨ga, gc2, rfl, h3⟩; have H3 : Hid (Below wr.heap.size wr w2) := h3; clear h3 HR)
        go_ret
        rw [HEK.out.1 hlt]
        exact ⟨rfl, (H3.out.cell (p := ⟨S, 0, none⟩) (block_lt_of_cell HI.out.cell)).trans HI.out.cell, (frozen_blk (H3.out.block S (block_lt_of_cell HI.out.cell))).trans HI.out.frozen, ((below_fr H1.out.1 _).trans HI.out.fr (fun k hk => by rcases hk with e | e; exact .inl (.inl e); exact .inr (by omega))).trans (below_fr H3.out (fun _ => False)) (fun _ e => e.elim)⟩
      obtain ⟨F0, hF0⟩ : ∃ F0 : Nat, 4096 * k = F0 := ⟨_, rfl⟩
      have eF : (k : Int) * 4096 = (F0 : Int) := by omega
      have e98 : (98 : Int) + (k : Int) = ((98 + k : Nat) : Int) := by omega
      obtain ⟨K9, hK9⟩ : ∃ K9 : Nat, 98 + k = K9 := ⟨_, rfl⟩
      rw [hK9] at e98
      have HR : Hid (Calls Tryz.prog 65 #[.pointer (some ⟨t0, 0, none⟩), .int .i64 (K9 : Int)] wr fun e w' => ∃ g cap, e = .returned (.tuple #[.slice (some ⟨g, 0, none⟩) 512 cap, .int .i64 0]) ∧ wr.heap.size ≤ g ∧ OwnB w' g cap (bmp D T k) ∧ Below wr.heap.size wr w') := by
        have := (HP.out.1.on HX.out).read (98 + k) (by omega) (HKp.out.rd k hkK)
        rw [HT0.out, hK9] at this
        rw [bmp, hK9]
        exact this
      have HG : Hid (∀ g cap w', OwnB w' g cap (bmp D T k) → Below wr.heap.size wr w' → Calls Tryz.prog 112 #[.int .i64 (F0 : Int), .slice (some ⟨g, 0, none⟩) 512 cap, .pointer (some ⟨G, 0, none⟩), .pointer (some ⟨Db, 0, none⟩)] w' fun e w3 => e = .returned (.bool true) ∧ BoxI w1 S (z + (ct (fd lo n (bmp D T)) (4096 * (k + 1)) : Nat)) w3) := fun g cap w' ho hb => by
        have hc := ct_le (fd lo n (bmp D T)) (4096 * k)
        refine (gatF_any w' G Db S lo n (z + (ct (fd lo n (bmp D T)) (4096 * k) : Nat)) (HP.out.2.2.mv H1.out.1 HI.out hb) F0 ⟨g, 0, none⟩ cap (bmp D T k) ho.bytes (HP.out.1.bm.len k (by have h9 := HM.out; omega)) (by omega) (by omega) (by omega) (by omega)).mono ?_
        rintro e w3 ⟨rfl, hx⟩
        refine ⟨rfl, ?_⟩
        have := HI.out.comp hb hx
        rw [ct_blk, Int.natCast_add, ← Int.add_assoc, hF0]
        rw [hF0] at this
        exact this
      clear hF0 hK9
      go_wp2_with (first
        | (go_at_call 65; refine HR.out.mono ?_; rintro e w2 ⟨g, cap, rfl, h1, h2, h3⟩; have H3 : Hid (OwnB w2 g cap (bmp D T k) ∧ Below wr.heap.size wr w2) := ⟨h2, h3⟩; clear h1 h2 h3 HR)
        | (go_at_call 112; refine (HG.out _ _ _ H3.out.1 H3.out.2).mono ?_; rintro e w3 ⟨rfl, hx⟩; have H4 : Hid (BoxI w1 S (z + (ct (fd lo n (bmp D T)) (4096 * (k + 1)) : Nat)) w3) := hx; clear hx HG))
      go_roundw
      case rel => exact ⟨k + 1, by omega, by go_num, H4.out⟩
      case measure => simp [intOf]; omega
    · have hlt' : ¬ (k : Int) < (M : Int) := by omega
      go_wp2
      go_ret
      have e : k = K := by omega
      have e2 : K = M := by omega
      subst e
      rw [HEK.out.2 e2]
      exact ⟨rfl, HI.out.cell, HI.out.frozen, (below_fr H1.out.1 _).trans HI.out.fr (fun k hk => by rcases hk with e | e; exact .inl (.inl e); exact .inr (by omega))⟩
set_option maxRecDepth 100000 in
set_option maxHeartbeats 8000000 in
theorem eachBmL (w0 wq w : World) (D : Dk) (T : Tx) (n : Nat) (h : Spc w0 wq D T n) (hq : Below wq.heap.size wq w) (G Db S : Nat) (z : Int) (hC : Cau w G Db S 106 (nD n) n z) (hS : wq.heap.size ≤ S) (hz : 0 ≤ z ∧ z ≤ 1000) (K : Nat) (hK : Kpre D T n K) :
    Calls Tryz.prog 111 #[.pointer (some ⟨T.t, 0, none⟩), geoV n, .func (.func 112) #[] #[.pointer (some ⟨G, 0, none⟩), .pointer (some ⟨Db, 0, none⟩)]] w fun e w' => (e = .returned (.int .i64 (eK n K)) ∧ ct (fd (nD n) n (bmp D T)) (4096 * K) = 0 ∧ BoxI w S z w') ∨ (e = .returned (.int .i64 0) ∧ ∃ i : Nat, IsLo (fd (nD n) n (bmp D T)) i ∧ i < 4096 * K ∧ BoxI w S (i : Int) w') := by
  have HN := nM_bd h.lo h.hi
  have hnl := h.lo
  have hnh := h.hi
  have HKp : Hid (Kpre D T n K) := hK
  have hKM : K ≤ nM n := hK.le
  have hEK : (K < nM n → eK n K = 30) ∧ (K = nM n → eK n K = 0) := ⟨fun h => by unfold eK; rw [if_neg (by omega)], fun h => by unfold eK; rw [if_pos h]⟩
  clear hK
  have HP : Hid (Spc w0 wq D T n ∧ Below wq.heap.size wq w ∧ Cau w G Db S 106 (nD n) n z) := ⟨h, hq, hC⟩
  have hSl := block_lt_of_cell hC.s
  dsimp only at hSl
  clear h hq hC
  obtain ⟨M, hM⟩ : ∃ M, nM n = M := ⟨_, rfl⟩
  obtain ⟨lo, hlo⟩ : ∃ lo, nD n = lo := ⟨_, rfl⟩
  rw [hM, hlo] at HN
  rw [hM] at hKM hEK
  have HEK : Hid ((K < M → eK n K = 30) ∧ (K = M → eK n K = 0)) := hEK
  clear hEK
  rw [hlo] at HP
  obtain ⟨t0, ht0⟩ : ∃ t0, T.t = t0 := ⟨_, rfl⟩
  have HT0 : Hid (T.t = t0) := ht0
  obtain ⟨gi, hgi⟩ : ∃ gi : Int, gI (n : Int) = gi := ⟨_, rfl⟩
  obtain ⟨gd, hgd⟩ : ∃ gd : Int, gD (n : Int) = gd := ⟨_, rfl⟩
  obtain ⟨gc, hgc⟩ : ∃ gc : Int, gC (n : Int) = gc := ⟨_, rfl⟩
  have hgi' : gi - 98 = (M : Int) := by rw [← hgi, gI_nat, hM]; omega
  unfold geoV
  rw [hgi, hgd, hgc, ht0, hlo]
  have HM : Hid (nM n = M) := hM
  clear ht0 hgi hgd hgc hM hlo
  obtain ⟨w1, hw1⟩ : ∃ w1, w.alloc (.cells #[.int .i64 (n : Int), .int .i64 98, .int .i64 gi, .int .i64 gd, .int .i64 gc] 36) = w1 := ⟨_, rfl⟩
  have H1 : Hid (Below w.heap.size w w1 ∧ w1.heap[w.heap.size]? = some (.cells #[.int .i64 (n : Int), .int .i64 98, .int .i64 gi, .int .i64 gd, .int .i64 gc] 36 (0, 0))) := by
    rw [← hw1]; exact ⟨(Below.refl _ _).alloc (Nat.le_refl _) _, heap_alloc_new _ _⟩
  have hs1 : w1.heap.size = w.heap.size + 1 := by rw [← hw1]; simp
  have hcc : ∀ j, w1.cell? ⟨w.heap.size, j, none⟩ = #[.int .i64 (n : Int), .int .i64 98, .int .i64 gi, .int .i64 gd, .int .i64 gc][j]? := fun j => cell_of_row _ _ _ _ _ _ H1.out.2
  have hcA : w1.cell? ⟨w.heap.size, 1, none⟩ = some (.int .i64 98) := hcc 1
  have hcB : w1.cell? ⟨w.heap.size, 2, none⟩ = some (.int .i64 gi) := hcc 2
  clear hcc
  have box0 : BoxI w1 S z w1 := ⟨(H1.out.1.cell (p := ⟨S, 0, none⟩) hSl).trans HP.out.2.2.s, (frozen_blk (H1.out.1.block S hSl)).trans HP.out.2.2.sf, Fr.refl _ _⟩
  go_enter Tryz.func111, Tryz.ntmps111
  go_wp2
  go_loopw [15] (fun s15 wr => ∃ k : Nat, k ≤ K ∧ s15 = .int .i64 (k : Int) ∧ ct (fd lo n (bmp D T)) (4096 * k) = 0 ∧ BoxI w1 S z wr) (fun s15 _ => M - (intOf s15).toNat)
  case atStart => exact ⟨0, Nat.zero_le _, rfl, rfl, box0⟩
  case round =>
    obtain ⟨k, hk, rfl, h0, hI⟩ := hrel
    have HI : Hid (ct (fd lo n (bmp D T)) (4096 * k) = 0 ∧ BoxI w1 S z wr) := ⟨h0, hI⟩
    have HX : Hid (Below wq.heap.size wq wr) := by
      have h1 := HP.out.2.1.size
      have h2 := H1.out.1.size
      exact (HP.out.2.1.trans (H1.out.1.mono h1)).trans (hI.fr.below _ (fun k hk => by rcases hk with e | e <;> omega) (by omega))
    have hcb : wr.cell? ⟨w.heap.size, 1, none⟩ = some (.int .i64 98) := hI.fr.cell hcA (fun e => by dsimp only at e; omega)
    clear hI h0
    by_cases hlt : k < M
    · have hlt' : (k : Int) < (M : Int) := by omega
      by_cases hkK : k < K
      rotate_left
      · have e : k = K := by omega
        subst e
        have e98 : (98 : Int) + (k : Int) = ((98 + k : Nat) : Int) := by omega
        obtain ⟨K9, hK9⟩ : ∃ K9 : Nat, 98 + k = K9 := ⟨_, rfl⟩
        rw [hK9] at e98
        have HR : Hid (Calls Tryz.prog 65 #[.pointer (some ⟨t0, 0, none⟩), .int .i64 (K9 : Int)] wr fun e w' => ∃ a c, e = .returned (.tuple #[.slice a 0 c, .int .i64 30]) ∧ Below wr.heap.size wr w') := by
          have := (HP.out.1.on HX.out).read_no (98 + k) (by omega) (HKp.out.no (by have h9 := HM.out; omega))
          rw [HT0.out, hK9] at this
          exact this
        clear hK9
        go_wp2_with (go_at_call 65; refine HR.out.mono ?_; rintro e w2 ⟨ga, gc2, rfl, h3⟩; have H3 : Hid (Below wr.heap.size wr w2) := h3; clear h3 HR)
        go_ret
        rw [HEK.out.1 hlt]
        exact .inl ⟨rfl, HI.out.1, (H3.out.cell (p := ⟨S, 0, none⟩) (block_lt_of_cell HI.out.2.cell)).trans HI.out.2.cell, (frozen_blk (H3.out.block S (block_lt_of_cell HI.out.2.cell))).trans HI.out.2.frozen, ((below_fr H1.out.1 _).trans HI.out.2.fr (fun k hk => by rcases hk with e | e; exact .inl (.inl e); exact .inr (by omega))).trans (below_fr H3.out (fun _ => False)) (fun _ e => e.elim)⟩
      obtain ⟨F0, hF0⟩ : ∃ F0 : Nat, 4096 * k = F0 := ⟨_, rfl⟩
      have eF : (k : Int) * 4096 = (F0 : Int) := by omega
      have e98 : (98 : Int) + (k : Int) = ((98 + k : Nat) : Int) := by omega
      obtain ⟨K9, hK9⟩ : ∃ K9 : Nat, 98 + k = K9 := ⟨_, rfl⟩
      rw [hK9] at e98
      have HR : Hid (Calls Tryz.prog 65 #[.pointer (some ⟨t0, 0, none⟩), .int .i64 (K9 : Int)] wr fun e w' => ∃ g cap, e = .returned (.tuple #[.slice (some ⟨g, 0, none⟩) 512 cap, .int .i64 0]) ∧ wr.heap.size ≤ g ∧ OwnB w' g cap (bmp D T k) ∧ Below wr.heap.size wr w') := by
        have := (HP.out.1.on HX.out).read (98 + k) (by omega) (HKp.out.rd k hkK)
        rw [HT0.out, hK9] at this
        rw [bmp, hK9]
        exact this
      have HG : Hid (∀ g cap w', OwnB w' g cap (bmp D T k) → Below wr.heap.size wr w' → Calls Tryz.prog 112 #[.int .i64 (F0 : Int), .slice (some ⟨g, 0, none⟩) 512 cap, .pointer (some ⟨G, 0, none⟩), .pointer (some ⟨Db, 0, none⟩)] w' fun e w3 => (e = .returned (.bool true) ∧ ct (fd lo n (bmp D T)) (4096 * (k + 1)) = 0 ∧ BoxI w1 S z w3) ∨ (e = .returned (.bool false) ∧ ∃ i : Nat, IsLo (fd lo n (bmp D T)) i ∧ i < 4096 * K ∧ BoxI w1 S (i : Int) w3)) := fun g cap w' ho hb => by
        have hc := ct_le (fd lo n (bmp D T)) (4096 * k)
        refine (gatL_any w' G Db S lo n z (HP.out.2.2.mv H1.out.1 HI.out.2 hb) F0 ⟨g, 0, none⟩ cap (bmp D T k) ho.bytes (HP.out.1.bm.len k (by have h9 := HM.out; omega)) (by omega) (by omega) (by omega) (by omega)).mono ?_
        rintro e w3 (⟨rfl, h4, hx⟩ | ⟨rfl, j, hj, hl, hx⟩)
        · exact .inl ⟨rfl, by rw [ct_blk, HI.out.1, hF0, h4], HI.out.2.comp hb hx⟩
        · rw [← hF0] at hl hx
          exact .inr ⟨rfl, _, lo_blk HI.out.1 hj hl, by omega, HI.out.2.comp hb hx⟩
      clear hF0 hK9
      go_wp2_with (first
        | (go_at_call 65; refine HR.out.mono ?_; rintro e w2 ⟨g, cap, rfl, h1, h2, h3⟩; have H3 : Hid (OwnB w2 g cap (bmp D T k) ∧ Below wr.heap.size wr w2) := ⟨h2, h3⟩; clear h1 h2 h3 HR)
        | (go_at_call 112; refine (HG.out _ _ _ H3.out.1 H3.out.2).mono ?_; rintro e w3 (⟨rfl, hx, hx2⟩ | ⟨rfl, hx⟩); have H4 : Hid (ct (fd lo n (bmp D T)) (4096 * (k + 1)) = 0 ∧ BoxI w1 S z w3) := ⟨hx, hx2⟩; clear hx hx2 HG; rotate_left; have H5 : Hid (∃ i : Nat, IsLo (fd lo n (bmp D T)) i ∧ i < 4096 * K ∧ BoxI w1 S (i : Int) w3) := hx; clear hx HG; rotate_left))
      · go_roundw
        case rel => exact ⟨k + 1, by omega, by go_num, H4.out⟩
        case measure => simp [intOf]; omega
      · go_ret
        obtain ⟨i, hi1, hi3, hi2⟩ := H5.out
        exact .inr ⟨rfl, i, hi1, hi3, hi2.cell, hi2.frozen, (below_fr H1.out.1 _).trans hi2.fr (fun k hk => by rcases hk with e | e; exact .inl (.inl e); exact .inr (by omega))⟩
    · have hlt' : ¬ (k : Int) < (M : Int) := by omega
      go_wp2
      go_ret
      have e : k = K := by omega
      have e2 : K = M := by omega
      subst e
      rw [HEK.out.2 e2]
      exact .inl ⟨rfl, HI.out.1, HI.out.2.cell, HI.out.2.frozen, (below_fr H1.out.1 _).trans HI.out.2.fr (fun k hk => by rcases hk with e | e; exact .inl (.inl e); exact .inr (by omega))⟩
end Go.Proofs.YtflienghgobmoaaGreatDoor
