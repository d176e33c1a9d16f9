import Derived.Test.YtpbpblpbjkegfaaSpG
namespace Go.Proofs.Ytpbpblpbjkegfaa
open Go.RowKit Go.Maps Rec

set_option maxRecDepth 100000 in
theorem isData_yes (w : World) (n : Nat) (i : Int) (h1 : (nD n : Int) ≤ i) (h2 : i < (n : Int)) : Calls Try.prog 34 #[geoV n, .int .i64 i] w fun e w' => e = .returned (.bool true) ∧ Below w.heap.size w w' := by
  have hA : Hid (∀ o, Below w.heap.size w (w.alloc o)) := fun o => (Below.refl _ _).alloc (Nat.le_refl _) o
  unfold geoV
  rw [gD_nat]
  go_enter Try.func34, Try.ntmps34
  go_wp2
  go_ret
  exact ⟨rfl, hA.out _⟩
set_option maxRecDepth 100000 in
theorem isData_no (w : World) (n : Nat) (i : Int) (hi : ¬ ((nD n : Int) ≤ i ∧ i < (n : Int))) : Calls Try.prog 34 #[geoV n, .int .i64 i] w fun e w' => e = .returned (.bool false) ∧ Below w.heap.size w w' := by
  have hA : Hid (∀ o, Below w.heap.size w (w.alloc o)) := fun o => (Below.refl _ _).alloc (Nat.le_refl _) o
  unfold geoV
  rw [gD_nat]
  by_cases h1 : (nD n : Int) ≤ i
  · have h2 : ¬ i < (n : Int) := fun h => hi ⟨h1, h⟩
    clear hi
    go_enter Try.func34, Try.ntmps34
    go_wp2
    go_ret
    exact ⟨rfl, hA.out _⟩
  · clear hi
    go_enter Try.func34, Try.ntmps34
    go_wp2
    go_ret
    exact ⟨rfl, hA.out _⟩
/-- a Geo in a box -/
def GeoAt (w : World) (p n : Nat) : Prop := w.heap[p]? = some (.cells #[.int .i64 (n : Int), .int .i64 98, .int .i64 (gI n), .int .i64 (gD n), .int .i64 (gC n)] 28 (0, 0))
theorem GeoAt.cells {w : World} {p n : Nat} (h : GeoAt w p n) : w.cell? ⟨p, 0, none⟩ = some (.int .i64 (n : Int)) ∧ w.cell? ⟨p, 1, none⟩ = some (.int .i64 98) ∧ w.cell? ⟨p, 2, none⟩ = some (.int .i64 (gI n)) ∧ w.cell? ⟨p, 3, none⟩ = some (.int .i64 (gD n)) ∧ w.cell? ⟨p, 4, none⟩ = some (.int .i64 (gC n)) := by
  have hc := fun j => cell_of_row _ _ j _ _ _ h
  exact ⟨hc 0, hc 1, hc 2, hc 3, hc 4⟩
theorem GeoAt.on {w w' : World} {p n : Nat} (h : GeoAt w p n) (hb : Below w.heap.size w w') : GeoAt w' p n := (hb.block p (heap_lt h)).trans h
set_option maxRecDepth 100000 in
set_option maxHeartbeats 4000000 in
theorem used_any (w0 w : World) (D : Dk) (T : Tx) (n : Nat) (h : Spc w0 w D T n) (i : Nat) (hi : i < n) :
    Calls Try.prog 16 #[.pointer (some ⟨T.t, 0, none⟩), geoV n, .int .i64 (i : Int)] w fun e w' => e = .returned (.tuple #[.bool (isT (bmp D T) i), .int .i64 0]) ∧ Below w.heap.size w w' := by
  have hk : i / 4096 < nM n := by unfold nM; omega
  have hl := h.bm.len (i / 4096) hk
  have HF : Hid (∀ wx, Below w.heap.size w wx → Calls Try.prog 35 #[.pointer (some ⟨T.t, 0, none⟩), geoV n, .int .i64 (i : Int)] wx fun e w' => ∃ g cap, e = .returned (.tuple #[plV i g cap, .int .i64 0]) ∧ wx.heap.size ≤ g ∧ OwnB w' g cap (bmp D T (i / 4096)) ∧ Below wx.heap.size wx w') := fun wx hb => find_ok w0 wx D T n (h.on hb) i hi
  have HT : Hid (∀ wx g cap, OwnB wx g cap (bmp D T (i / 4096)) → Calls Try.prog 36 #[plV i g cap] wx fun e w' => e = .returned (.bool (isT (bmp D T) i)) ∧ Below wx.heap.size wx w') := fun wx g cap ho => taken_bit wx i g cap _ ho.bytes hl
  have HA : Hid (∀ o, Below w.heap.size w (w.alloc o)) := fun o => (Below.refl _ _).alloc (Nat.le_refl _) o
  obtain ⟨A, hA⟩ : ∃ A, 98 + i / 4096 = A := ⟨_, rfl⟩
  obtain ⟨J, hJ⟩ : ∃ J, i % 4096 = J := ⟨_, rfl⟩
  unfold plV at HF HT
  rw [hA, hJ] at HF HT
  clear h hA hJ hk hl
  obtain ⟨b, hb⟩ : ∃ b, isT (bmp D T) i = b := ⟨_, rfl⟩
  rw [hb] at HT
  rw [hb]
  clear hb
  go_enter Try.func16, Try.ntmps16
  unfold geoV
  unfold geoV at HF
  go_wp2_with (first
    | (go_at_call 35; refine (HF.out _ (HA.out _)).mono ?_; rintro e w1 ⟨g, cap, rfl, h1, h2, h3⟩; have H1 : Hid (OwnB w1 g cap (bmp D T (i / 4096)) ∧ Below w.heap.size w w1) := ⟨h2, (HA.out _).trans (h3.mono (HA.out _).size)⟩; clear h1 h2 h3 HF)
    | (go_at_call 36; refine (HT.out _ _ _ (H1.out.1.on ((Below.refl _ _).alloc (Nat.le_refl _) _))).mono ?_; rintro e w2 ⟨rfl, hb⟩; have H2 : Hid (Below w.heap.size w w2) := (H1.out.2.alloc H1.out.2.size _).trans (hb.mono (H1.out.2.alloc H1.out.2.size _).size); clear hb HT))
  go_ret2
  exact ⟨rfl, H2.out⟩
set_option maxRecDepth 100000 in
set_option maxHeartbeats 4000000 in
theorem give_not (w : World) (t : Nat) (n : Nat) (i : Int) (hi : ¬ ((nD n : Int) ≤ i ∧ i < (n : Int))) :
    Calls Try.prog 14 #[.pointer (some ⟨t, 0, none⟩), geoV n, .int .i64 i] w fun e w' => e = .returned (.int .i64 91) ∧ Below w.heap.size w w' := by
  have HD : Hid (∀ wx, Calls Try.prog 34 #[geoV n, .int .i64 i] wx fun e w' => e = .returned (.bool false) ∧ Below wx.heap.size wx w') := fun wx => isData_no wx n i hi
  have HA : Hid (∀ o, Below w.heap.size w (w.alloc o)) := fun o => (Below.refl _ _).alloc (Nat.le_refl _) o
  clear hi
  go_enter Try.func14, Try.ntmps14
  unfold geoV
  unfold geoV at HD
  go_wp2_with (go_at_call 34; refine (HD.out _).mono ?_; rintro e w1 ⟨rfl, h1⟩; have H1 : Hid (Below w.heap.size w w1) := (HA.out _).trans (h1.mono (HA.out _).size); clear h1 HD)
  go_ret
  exact ⟨rfl, H1.out⟩
/-- behind a Give -/
structure GiveE (w0 w w' : World) (D : Dk) (T T' : Tx) (n i : Nat) : Prop where
  mv : TMv w T w' T'
  spc : Spc w0 w' D T' n
  t : T'.t = T.t
  c : ∃ q : Bk, T'.c = ups T.c (98 + i / 4096) (some q) ∧ q.x = bput (bmp D T (i / 4096)) (i % 4096) false
  u : T'.us.length = T.us.length + 1
theorem PutE.give {w0 wa wb w' : World} {D : Dk} {T T' : Tx} {n a g : Nat} {x : List Int} (h : PutE w0 wb w' D T T' n a x g) (hb : Below wa.heap.size wa wb) (hg : wa.heap.size ≤ g) : TMv wa T w' T' := by
  obtain ⟨w1, hf, hm⟩ := h.mv
  exact (TMv.on (hb.trans (hf.below _ (fun k hk => by have hk : k = g := hk; omega) hb.size))).trans hm
set_option maxRecDepth 100000 in
set_option maxHeartbeats 4000000 in
theorem give_ok (w0 w : World) (D : Dk) (T : Tx) (n : Nat) (h : Spc w0 w D T n) (i : Nat) (h0 : nD n ≤ i) (hi : i < n) (hb : isT (bmp D T) i = true) (hr : (T.c (98 + i / 4096)).isSome = true ∨ (lst T.c n).length < 96) (hu : T.us.length + 1 ≤ 1000000) :
    Calls Try.prog 14 #[.pointer (some ⟨T.t, 0, none⟩), geoV n, .int .i64 (i : Int)] w fun e w' => e = .returned (.int .i64 0) ∧ ∃ T', GiveE w0 w w' D T T' n i := by
  have hk : i / 4096 < nM n := by unfold nM; omega
  have hl := h.bm.len (i / 4096) hk
  have HA : Hid (∀ o, Below w.heap.size w (w.alloc o)) := fun o => (Below.refl _ _).alloc (Nat.le_refl _) o
  have HD : Hid (∀ wx, Calls Try.prog 34 #[geoV n, .int .i64 (i : Int)] wx fun e w' => e = .returned (.bool true) ∧ Below wx.heap.size wx w') := fun wx => isData_yes wx n (i : Int) (by omega) (by omega)
  have HF : Hid (∀ wx, Below w.heap.size w wx → Calls Try.prog 35 #[.pointer (some ⟨T.t, 0, none⟩), geoV n, .int .i64 (i : Int)] wx fun e w' => ∃ g cap, e = .returned (.tuple #[plV i g cap, .int .i64 0]) ∧ wx.heap.size ≤ g ∧ OwnB w' g cap (bmp D T (i / 4096)) ∧ Below wx.heap.size wx w') := fun wx hb => find_ok w0 wx D T n (h.on hb) i hi
  have HT : Hid (∀ wx g cap, OwnB wx g cap (bmp D T (i / 4096)) → Calls Try.prog 36 #[plV i g cap] wx fun e w' => e = .returned (.bool true) ∧ Below wx.heap.size wx w') := fun wx g cap ho => by
    have := taken_bit wx i g cap _ ho.bytes hl
    rw [← hb]
    exact this
  have HP : Hid (∀ wx g cap, Below w.heap.size w wx → OwnB wx g cap (bmp D T (i / 4096)) → w.heap.size ≤ g → Calls Try.prog 37 #[plV i g cap, .pointer (some ⟨T.t, 0, none⟩), .bool false] wx fun e w' => e = .returned (.int .i64 0) ∧ ∃ T', GiveE w0 w w' D T T' n i) := fun wx g cap hbx ho hg => by
    refine (put_bit w0 w wx D T n h hbx i g cap hi ho hg false hr hu).mono ?_
    rintro e w' ⟨rfl, T', hx⟩
    obtain ⟨u, hu1, _⟩ := hx.u
    exact ⟨rfl, T', hx.give hbx hg, hx.spc, hx.t, hx.c, by rw [hu1, List.length_append]; rfl⟩
  obtain ⟨A, hA⟩ : ∃ A, 98 + i / 4096 = A := ⟨_, rfl⟩
  obtain ⟨J, hJ⟩ : ∃ J, i % 4096 = J := ⟨_, rfl⟩
  unfold plV at HF HT HP
  rw [hA, hJ] at HF HT HP
  clear h hA hJ hk hl hb hr hu
  go_enter Try.func14, Try.ntmps14
  unfold geoV
  unfold geoV at HF HD
  obtain ⟨wz, hwz⟩ : ∃ wz, w.alloc (.cells #[.int .i64 (n : Int), .int .i64 98, .int .i64 (gI n), .int .i64 (gD n), .int .i64 (gC n)] 28) = wz := ⟨_, rfl⟩
  have HZ : Hid (Below w.heap.size w wz ∧ GeoAt wz w.heap.size n) := by
    rw [← hwz]; exact ⟨HA.out _, heap_alloc_new _ _⟩
  obtain ⟨z0, z1, z2, z3, z4⟩ := HZ.out.2.cells
  clear HA
  go_wp2_with (first
    | (go_at_call 34; refine (HD.out _).mono ?_; rintro e w1 ⟨rfl, h1⟩; have H1 : Hid (Below w.heap.size w w1) := HZ.out.1.trans (h1.mono HZ.out.1.size); obtain ⟨y0, y1, y2, y3, y4⟩ := (HZ.out.2.on h1).cells; clear h1 HD)
    | (go_at_call 35; refine (HF.out _ H1.out).mono ?_; rintro e w2 ⟨g, cap, rfl, h1, h2, h3⟩; have H2 : Hid (OwnB w2 g cap (bmp D T (i / 4096)) ∧ Below w.heap.size w w2 ∧ w.heap.size ≤ g) := ⟨h2, H1.out.trans (h3.mono H1.out.size), Nat.le_trans H1.out.size h1⟩; clear h1 h2 h3 HF)
    | (go_at_call 36; refine (HT.out _ _ _ (H2.out.1.on ((Below.refl _ _).alloc (Nat.le_refl _) _))).mono ?_; rintro e w3 ⟨rfl, hb⟩; have H3 : Hid (Below w.heap.size w w3 ∧ OwnB w3 g cap (bmp D T (i / 4096)) ∧ w.heap.size ≤ g) := ⟨(H2.out.2.1.alloc H2.out.2.1.size _).trans (hb.mono (H2.out.2.1.alloc H2.out.2.1.size _).size), (H2.out.1.on ((Below.refl _ _).alloc (Nat.le_refl _) _)).on hb, H2.out.2.2⟩; have x0 := (hb.cell (p := ⟨w2.heap.size, 0, none⟩) (by simp)); have x1 := (hb.cell (p := ⟨w2.heap.size, 1, none⟩) (by simp)); have x2 := (hb.cell (p := ⟨w2.heap.size, 2, none⟩) (by simp)); simp at x0 x1 x2; clear hb HT)
    | (go_at_call 37; refine (HP.out _ _ _ H3.out.1 H3.out.2.1 H3.out.2.2).mono ?_; rintro e w4 ⟨rfl, T', hx⟩; clear HP))
  go_ret
  exact ⟨rfl, T', hx⟩
set_option maxRecDepth 100000 in
set_option maxHeartbeats 4000000 in
theorem give_free (w0 w : World) (D : Dk) (T : Tx) (n : Nat) (h : Spc w0 w D T n) (i : Nat) (h0 : nD n ≤ i) (hi : i < n) (hb : isT (bmp D T) i = false) :
    Calls Try.prog 14 #[.pointer (some ⟨T.t, 0, none⟩), geoV n, .int .i64 (i : Int)] w fun e w' => e = .returned (.int .i64 91) ∧ Below w.heap.size w w' := by
  have hk : i / 4096 < nM n := by unfold nM; omega
  have hl := h.bm.len (i / 4096) hk
  have HA : Hid (∀ o, Below w.heap.size w (w.alloc o)) := fun o => (Below.refl _ _).alloc (Nat.le_refl _) o
  have HD : Hid (∀ wx, Calls Try.prog 34 #[geoV n, .int .i64 (i : Int)] wx fun e w' => e = .returned (.bool true) ∧ Below wx.heap.size wx w') := fun wx => isData_yes wx n (i : Int) (by omega) (by omega)
  have HF : Hid (∀ wx, Below w.heap.size w wx → Calls Try.prog 35 #[.pointer (some ⟨T.t, 0, none⟩), geoV n, .int .i64 (i : Int)] wx fun e w' => ∃ g cap, e = .returned (.tuple #[plV i g cap, .int .i64 0]) ∧ wx.heap.size ≤ g ∧ OwnB w' g cap (bmp D T (i / 4096)) ∧ Below wx.heap.size wx w') := fun wx hb => find_ok w0 wx D T n (h.on hb) i hi
  have HT : Hid (∀ wx g cap, OwnB wx g cap (bmp D T (i / 4096)) → Calls Try.prog 36 #[plV i g cap] wx fun e w' => e = .returned (.bool false) ∧ Below wx.heap.size wx w') := fun wx g cap ho => by
    have := taken_bit wx i g cap _ ho.bytes hl
    rw [← hb]
    exact this
  obtain ⟨A, hA⟩ : ∃ A, 98 + i / 4096 = A := ⟨_, rfl⟩
  obtain ⟨J, hJ⟩ : ∃ J, i % 4096 = J := ⟨_, rfl⟩
  unfold plV at HF HT
  rw [hA, hJ] at HF HT
  clear h hA hJ hk hl hb
  go_enter Try.func14, Try.ntmps14
  unfold geoV
  unfold geoV at HF HD
  obtain ⟨wz, hwz⟩ : ∃ wz, w.alloc (.cells #[.int .i64 (n : Int), .int .i64 98, .int .i64 (gI n), .int .i64 (gD n), .int .i64 (gC n)] 28) = wz := ⟨_, rfl⟩
  have HZ : Hid (Below w.heap.size w wz ∧ GeoAt wz w.heap.size n) := by
    rw [← hwz]; exact ⟨HA.out _, heap_alloc_new _ _⟩
  obtain ⟨z0, z1, z2, z3, z4⟩ := HZ.out.2.cells
  clear HA
  go_wp2_with (first
    | (go_at_call 34; refine (HD.out _).mono ?_; rintro e w1 ⟨rfl, h1⟩; have H1 : Hid (Below w.heap.size w w1) := HZ.out.1.trans (h1.mono HZ.out.1.size); obtain ⟨y0, y1, y2, y3, y4⟩ := (HZ.out.2.on h1).cells; clear h1 HD)
    | (go_at_call 35; refine (HF.out _ H1.out).mono ?_; rintro e w2 ⟨g, cap, rfl, h1, h2, h3⟩; have H2 : Hid (OwnB w2 g cap (bmp D T (i / 4096)) ∧ Below w.heap.size w w2 ∧ w.heap.size ≤ g) := ⟨h2, H1.out.trans (h3.mono H1.out.size), Nat.le_trans H1.out.size h1⟩; clear h1 h2 h3 HF)
    | (go_at_call 36; refine (HT.out _ _ _ (H2.out.1.on ((Below.refl _ _).alloc (Nat.le_refl _) _))).mono ?_; rintro e w3 ⟨rfl, hb⟩; have H3 : Hid (Below w.heap.size w w3 ∧ OwnB w3 g cap (bmp D T (i / 4096)) ∧ w.heap.size ≤ g) := ⟨(H2.out.2.1.alloc H2.out.2.1.size _).trans (hb.mono (H2.out.2.1.alloc H2.out.2.1.size _).size), (H2.out.1.on ((Below.refl _ _).alloc (Nat.le_refl _) _)).on hb, H2.out.2.2⟩; have x0 := (hb.cell (p := ⟨w2.heap.size, 0, none⟩) (by simp)); have x1 := (hb.cell (p := ⟨w2.heap.size, 1, none⟩) (by simp)); have x2 := (hb.cell (p := ⟨w2.heap.size, 2, none⟩) (by simp)); simp at x0 x1 x2; clear hb HT))
  go_ret
  exact ⟨rfl, H3.out.1⟩
end Go.Proofs.Ytpbpblpbjkegfaa
