import Derived.Test.YtgmccpimpbnnpaaDoorKCuA
namespace Go.Proofs.YtgmccpimpbnnpaaDoor
open Go.RowKit Go.Maps Rec
theorem Hid.intro_ {p : Prop} (h : p) : Hid p := h
def CwE (w0 w : World) (D : Dk) (T : Tx) (n g len cap : Nat) (a : Nat → Nat) (ac gn : Nat → Bool) (J : Nat → Tx → Prop) (Z : Prop) (b : Bool) (z : Nat) (T' : Tx) (w' : World) : Prop :=
  Gon w0 w w' D T T' n (fun i => i = g) ∧ (∃ m, Ext T T' m) ∧ ((z = 0 ∧ J len T' ∧ OwnI w' g cap (rowC len a ac gn len) ∧ b = chC ac gn len) ∨ (z = 60 ∧ Z))
set_option maxRecDepth 100000 in
set_option maxHeartbeats 8000000 in
theorem cutRow_own (w0 w : World) (D : Dk) (T : Tx) (n : Nat) (h : Spc w0 w D T n) (tt k tb g len cap : Nat) (htt : T.t = tt) (hk : k ≤ 100000) (hlen : len ≤ 128) (a : Nat → Nat) (gn : Nat → Bool) (J : Nat → Tx → Prop) (Z : Prop) (hO : Out w0 w D T g) (ho : OwnI w g cap (rowC len a (actB a oF oS k) gn 0)) (hJ : J 0 T) (hsk : ∀ j T', j < len → actB a oF oS k j = false → J j T' → J (j + 1) T') (hcn : CnH w0 D n tt k len a oF oS gn J Z) :
    Calls Tryd.prog 41 #[.pointer (some ⟨tt, 0, none⟩), geoV n, .agg #[.int .i64 (tb : Int), .slice (some ⟨g, 0, none⟩) len cap], .func (.func 32) #[] #[], .int .i64 (k : Int)] w fun e w' => ∃ (b : Bool) (z : Nat) (T' : Tx), e = .returned (.tuple #[.bool b, .int .i64 (z : Int)]) ∧ CwE w0 w D T n g len cap a (actB a oF oS k) gn J Z b z T' w' := by
  obtain ⟨P, hP⟩ : ∃ P, w.heap.size = P := ⟨_, rfl⟩
  obtain ⟨wa, hwa⟩ : ∃ wa, ((((w.alloc (.cells #[.pointer (some ⟨tt, 0, none⟩)] 26)).alloc (.cells #[.int .i64 (n : Int), .int .i64 98, .int .i64 (gI n), .int .i64 (gD n), .int .i64 (gC n)] 29)).alloc (.cells #[.int .i64 (tb : Int), .slice (some ⟨g, 0, none⟩) len cap] 69)).alloc (.cells #[.int .i64 (k : Int)] 3)).alloc (.cells #[.bool false] 4) = wa := ⟨_, rfl⟩
  have hgl := hO.lt
  have HA : Hid (Below w.heap.size w wa ∧ Cx wa P tt n k tb g len cap false ∧ w.heap.size = P ∧ g < P) := by
    rw [← hwa, ← hP]
    refine ⟨(((((Below.refl _ _).alloc (Nat.le_refl _) _).alloc (by simp) _).alloc (by simp <;> omega) _).alloc (by simp <;> omega) _).alloc (by simp <;> omega) _, ⟨?_, ?_, ?_, ?_, ?_⟩, rfl, hgl⟩
    · exact (Below.heap_alloc _ _ _ (by simp <;> omega)).trans ((Below.heap_alloc _ _ _ (by simp <;> omega)).trans ((Below.heap_alloc _ _ _ (by simp <;> omega)).trans ((Below.heap_alloc _ _ _ (by simp)).trans (heap_alloc_new _ _))))
    · have := heap_alloc_new (w.alloc (.cells #[.pointer (some ⟨tt, 0, none⟩)] 26)) (.cells #[.int .i64 (n : Int), .int .i64 98, .int .i64 (gI n), .int .i64 (gD n), .int .i64 (gC n)] 29)
      rw [World.size_alloc] at this
      exact (Below.heap_alloc _ _ _ (by simp <;> omega)).trans ((Below.heap_alloc _ _ _ (by simp <;> omega)).trans ((Below.heap_alloc _ _ _ (by simp)).trans this))
    · have := heap_alloc_new ((w.alloc (.cells #[.pointer (some ⟨tt, 0, none⟩)] 26)).alloc (.cells #[.int .i64 (n : Int), .int .i64 98, .int .i64 (gI n), .int .i64 (gD n), .int .i64 (gC n)] 29)) (.cells #[.int .i64 (tb : Int), .slice (some ⟨g, 0, none⟩) len cap] 69)
      rw [World.size_alloc, World.size_alloc] at this
      exact (Below.heap_alloc _ _ _ (by simp <;> omega)).trans ((Below.heap_alloc _ _ _ (by simp)).trans this)
    · have := heap_alloc_new (((w.alloc (.cells #[.pointer (some ⟨tt, 0, none⟩)] 26)).alloc (.cells #[.int .i64 (n : Int), .int .i64 98, .int .i64 (gI n), .int .i64 (gD n), .int .i64 (gC n)] 29)).alloc (.cells #[.int .i64 (tb : Int), .slice (some ⟨g, 0, none⟩) len cap] 69)) (.cells #[.int .i64 (k : Int)] 3)
      rw [World.size_alloc, World.size_alloc, World.size_alloc] at this
      exact (Below.heap_alloc _ _ _ (by simp)).trans this
    · have := heap_alloc_new ((((w.alloc (.cells #[.pointer (some ⟨tt, 0, none⟩)] 26)).alloc (.cells #[.int .i64 (n : Int), .int .i64 98, .int .i64 (gI n), .int .i64 (gD n), .int .i64 (gC n)] 29)).alloc (.cells #[.int .i64 (tb : Int), .slice (some ⟨g, 0, none⟩) len cap] 69)).alloc (.cells #[.int .i64 (k : Int)] 3)) (.cells #[.bool false] 4)
      rw [World.size_alloc, World.size_alloc, World.size_alloc, World.size_alloc] at this
      exact this
  have hlt := HA.out.2.1.lt
  have hEc := eachc_own w0 wa D T n (h.on HA.out.1) P tt k tb g len cap htt hk hlen a gn J Z HA.out.2.1 ⟨fun q h1 h2 => Out.of h (by omega) (by omega), hO.mv (SMv.on HA.out.1 (S := fun _ => False)), fun q h1 h2 => by omega⟩ (ho.on HA.out.1) hJ hsk hcn
  obtain ⟨ac, hac⟩ : ∃ ac, actB a oF oS k = ac := ⟨_, rfl⟩
  rw [hac] at hEc ⊢
  unfold geoV at hEc
  have HEc := Hid.intro_ hEc
  obtain ⟨z0, z1, z2, z3, z4⟩ := HA.out.2.1.ge.cells
  have r0 : wa.cell? ⟨P + 1 + 1, 0, none⟩ = some (.int .i64 (tb : Int)) := by rw [cell_of_row _ _ _ _ _ _ HA.out.2.1.r]; rfl
  have r1 : wa.cell? ⟨P + 1 + 1, 1, none⟩ = some (.slice (some ⟨g, 0, none⟩) len cap) := by rw [cell_of_row _ _ _ _ _ _ HA.out.2.1.r]; rfl
  have k0 : wa.cell? ⟨P + 1 + 1 + 1, 0, none⟩ = some (.int .i64 (k : Int)) := by rw [cell_of_row _ _ _ _ _ _ HA.out.2.1.k]; rfl
  have HS : Hid (Spc w0 w D T n) := h
  have HWa := Hid.intro_ hwa
  clear hEc h ho hO hJ hsk hcn hac hgl hlt hwa
  unfold geoV
  go_enter Tryd.func41, Tryd.ntmps41
  go_upto_region 2 with (fail)
  rw [HWa.out]
  go_upto_region 3 with (go_at_call 30; refine HEc.out.mono ?_; rintro e w1 ⟨z, T1, rfl, hx⟩; have H1 : Hid (EcE w0 wa D T n P tt k tb g len cap a ac gn J Z z T1 w1) := hx; clear hx HEc)
  clear z0 z1 z2 z3 z4 r0 r1 k0
  have HG : Hid (Gon w0 w w1 D T T1 n (fun i => i = g)) := (Gon.on HS.out HA.out.1 (S := fun i => i = g)).trans H1.out.1 (fun i hi => hi.imp id (fun e => by have := HA.out.2.2.1; omega))
  have hcb : ∃ c, w1.heap[P + 1 + 1 + 1 + 1]? = some (.cells #[.bool c] 4 (0, 0)) ∧ (z = 0 → c = chC ac gn len) := by
    obtain ⟨d, hd⟩ := H1.out.2.2.2
    rcases H1.out.2.2.1 with ⟨_, _, _, e⟩ | e
    · exact ⟨_, e.c, fun _ => rfl⟩
    · exact ⟨d, hd.c, fun e2 => absurd e2 (by have := e.1; omega)⟩
  obtain ⟨c, hc1, hc2⟩ := hcb
  have HF : Hid (CwE w0 w D T n g len cap a ac gn J Z c z T1 w1) := ⟨HG.out, H1.out.2.1, H1.out.2.2.1.imp (fun e => ⟨e.1, e.2.1, e.2.2.1, hc2 e.1⟩) id⟩
  have c0 : w1.cell? ⟨P + 1 + 1 + 1 + 1, 0, none⟩ = some (.bool c) := by rw [cell_of_row _ _ _ _ _ _ hc1]; rfl
  clear hc1 hc2
  go_wp2
  go_ret2
  exact ⟨c, z, T1, rfl, HF.out⟩
set_option maxRecDepth 100000 in
set_option maxHeartbeats 8000000 in
theorem cutRow_below (w0 w : World) (D : Dk) (T : Tx) (n : Nat) (h : Spc w0 w D T n) (tt k tb g len cap : Nat) (htt : T.t = tt) (a0 f0 s0 : Nat) (hs0 : s0 ≤ 16384) (hf0 : f0 ≤ 20000) (hk : k ≤ 100000) (hlen : len ≤ 128) (a : Nat → Nat) (gn : Nat → Bool) (J : Nat → Tx → Prop) (Z : Prop) (hO : Out w0 w D T g) (ho : OwnI w g cap (rowC len a (actB a (fun i => f0 + i * (s0 / 128)) (fun _ => s0 / 128) k) gn 0)) (hJ : J 0 T) (hsk : ∀ j T', j < len → actB a (fun i => f0 + i * (s0 / 128)) (fun _ => s0 / 128) k j = false → J j T' → J (j + 1) T') (hcn : CnH w0 D n tt k len a (fun i => f0 + i * (s0 / 128)) (fun _ => s0 / 128) gn J Z) :
    Calls Tryd.prog 41 #[.pointer (some ⟨tt, 0, none⟩), geoV n, .agg #[.int .i64 (tb : Int), .slice (some ⟨g, 0, none⟩) len cap], .func (.func 31) #[stV a0 f0 s0] #[], .int .i64 (k : Int)] w fun e w' => ∃ (b : Bool) (z : Nat) (T' : Tx), e = .returned (.tuple #[.bool b, .int .i64 (z : Int)]) ∧ CwE w0 w D T n g len cap a (actB a (fun i => f0 + i * (s0 / 128)) (fun _ => s0 / 128) k) gn J Z b z T' w' := by
  obtain ⟨P, hP⟩ : ∃ P, w.heap.size = P := ⟨_, rfl⟩
  obtain ⟨wa, hwa⟩ : ∃ wa, ((((w.alloc (.cells #[.pointer (some ⟨tt, 0, none⟩)] 26)).alloc (.cells #[.int .i64 (n : Int), .int .i64 98, .int .i64 (gI n), .int .i64 (gD n), .int .i64 (gC n)] 29)).alloc (.cells #[.int .i64 (tb : Int), .slice (some ⟨g, 0, none⟩) len cap] 69)).alloc (.cells #[.int .i64 (k : Int)] 3)).alloc (.cells #[.bool false] 4) = wa := ⟨_, rfl⟩
  have hgl := hO.lt
  have HA : Hid (Below w.heap.size w wa ∧ Cx wa P tt n k tb g len cap false ∧ w.heap.size = P ∧ g < P) := by
    rw [← hwa, ← hP]
    refine ⟨(((((Below.refl _ _).alloc (Nat.le_refl _) _).alloc (by simp) _).alloc (by simp <;> omega) _).alloc (by simp <;> omega) _).alloc (by simp <;> omega) _, ⟨?_, ?_, ?_, ?_, ?_⟩, rfl, hgl⟩
    · exact (Below.heap_alloc _ _ _ (by simp <;> omega)).trans ((Below.heap_alloc _ _ _ (by simp <;> omega)).trans ((Below.heap_alloc _ _ _ (by simp <;> omega)).trans ((Below.heap_alloc _ _ _ (by simp)).trans (heap_alloc_new _ _))))
    · have := heap_alloc_new (w.alloc (.cells #[.pointer (some ⟨tt, 0, none⟩)] 26)) (.cells #[.int .i64 (n : Int), .int .i64 98, .int .i64 (gI n), .int .i64 (gD n), .int .i64 (gC n)] 29)
      rw [World.size_alloc] at this
      exact (Below.heap_alloc _ _ _ (by simp <;> omega)).trans ((Below.heap_alloc _ _ _ (by simp <;> omega)).trans ((Below.heap_alloc _ _ _ (by simp)).trans this))
    · have := heap_alloc_new ((w.alloc (.cells #[.pointer (some ⟨tt, 0, none⟩)] 26)).alloc (.cells #[.int .i64 (n : Int), .int .i64 98, .int .i64 (gI n), .int .i64 (gD n), .int .i64 (gC n)] 29)) (.cells #[.int .i64 (tb : Int), .slice (some ⟨g, 0, none⟩) len cap] 69)
      rw [World.size_alloc, World.size_alloc] at this
      exact (Below.heap_alloc _ _ _ (by simp <;> omega)).trans ((Below.heap_alloc _ _ _ (by simp)).trans this)
    · have := heap_alloc_new (((w.alloc (.cells #[.pointer (some ⟨tt, 0, none⟩)] 26)).alloc (.cells #[.int .i64 (n : Int), .int .i64 98, .int .i64 (gI n), .int .i64 (gD n), .int .i64 (gC n)] 29)).alloc (.cells #[.int .i64 (tb : Int), .slice (some ⟨g, 0, none⟩) len cap] 69)) (.cells #[.int .i64 (k : Int)] 3)
      rw [World.size_alloc, World.size_alloc, World.size_alloc] at this
      exact (Below.heap_alloc _ _ _ (by simp)).trans this
    · have := heap_alloc_new ((((w.alloc (.cells #[.pointer (some ⟨tt, 0, none⟩)] 26)).alloc (.cells #[.int .i64 (n : Int), .int .i64 98, .int .i64 (gI n), .int .i64 (gD n), .int .i64 (gC n)] 29)).alloc (.cells #[.int .i64 (tb : Int), .slice (some ⟨g, 0, none⟩) len cap] 69)).alloc (.cells #[.int .i64 (k : Int)] 3)) (.cells #[.bool false] 4)
      rw [World.size_alloc, World.size_alloc, World.size_alloc, World.size_alloc] at this
      exact this
  have hlt := HA.out.2.1.lt
  have hEc := eachc_below w0 wa D T n (h.on HA.out.1) P tt k tb g len cap htt a0 f0 s0 hs0 hf0 hk hlen a gn J Z HA.out.2.1 ⟨fun q h1 h2 => Out.of h (by omega) (by omega), hO.mv (SMv.on HA.out.1 (S := fun _ => False)), fun q h1 h2 => by omega⟩ (ho.on HA.out.1) hJ hsk hcn
  obtain ⟨ac, hac⟩ : ∃ ac, actB a (fun i => f0 + i * (s0 / 128)) (fun _ => s0 / 128) k = ac := ⟨_, rfl⟩
  rw [hac] at hEc ⊢
  unfold geoV at hEc
  have HEc := Hid.intro_ hEc
  obtain ⟨z0, z1, z2, z3, z4⟩ := HA.out.2.1.ge.cells
  have r0 : wa.cell? ⟨P + 1 + 1, 0, none⟩ = some (.int .i64 (tb : Int)) := by rw [cell_of_row _ _ _ _ _ _ HA.out.2.1.r]; rfl
  have r1 : wa.cell? ⟨P + 1 + 1, 1, none⟩ = some (.slice (some ⟨g, 0, none⟩) len cap) := by rw [cell_of_row _ _ _ _ _ _ HA.out.2.1.r]; rfl
  have k0 : wa.cell? ⟨P + 1 + 1 + 1, 0, none⟩ = some (.int .i64 (k : Int)) := by rw [cell_of_row _ _ _ _ _ _ HA.out.2.1.k]; rfl
  have HS : Hid (Spc w0 w D T n) := h
  have HWa := Hid.intro_ hwa
  clear hEc h ho hO hJ hsk hcn hac hgl hlt hwa
  unfold geoV
  go_enter Tryd.func41, Tryd.ntmps41
  go_upto_region 2 with (fail)
  rw [HWa.out]
  go_upto_region 3 with (go_at_call 30; refine HEc.out.mono ?_; rintro e w1 ⟨z, T1, rfl, hx⟩; have H1 : Hid (EcE w0 wa D T n P tt k tb g len cap a ac gn J Z z T1 w1) := hx; clear hx HEc)
  clear z0 z1 z2 z3 z4 r0 r1 k0
  have HG : Hid (Gon w0 w w1 D T T1 n (fun i => i = g)) := (Gon.on HS.out HA.out.1 (S := fun i => i = g)).trans H1.out.1 (fun i hi => hi.imp id (fun e => by have := HA.out.2.2.1; omega))
  have hcb : ∃ c, w1.heap[P + 1 + 1 + 1 + 1]? = some (.cells #[.bool c] 4 (0, 0)) ∧ (z = 0 → c = chC ac gn len) := by
    obtain ⟨d, hd⟩ := H1.out.2.2.2
    rcases H1.out.2.2.1 with ⟨_, _, _, e⟩ | e
    · exact ⟨_, e.c, fun _ => rfl⟩
    · exact ⟨d, hd.c, fun e2 => absurd e2 (by have := e.1; omega)⟩
  obtain ⟨c, hc1, hc2⟩ := hcb
  have HF : Hid (CwE w0 w D T n g len cap a ac gn J Z c z T1 w1) := ⟨HG.out, H1.out.2.1, H1.out.2.2.1.imp (fun e => ⟨e.1, e.2.1, e.2.2.1, hc2 e.1⟩) id⟩
  have c0 : w1.cell? ⟨P + 1 + 1 + 1 + 1, 0, none⟩ = some (.bool c) := by rw [cell_of_row _ _ _ _ _ _ hc1]; rfl
  clear hc1 hc2
  go_wp2
  go_ret2
  exact ⟨c, z, T1, rfl, HF.out⟩
end Go.Proofs.YtgmccpimpbnnpaaDoor

namespace Go.Proofs.YtgmccpimpbnnpaaDoor
open Go.RowKit Go.Maps Rec
def GvE (w0 w w' : World) (D : Dk) (T T' : Tx) (n i z : Nat) : Prop :=
  (z = 0 ∧ GiveE w0 w w' D T T' n i ∧ Ext T T' 1) ∨ (z = 60 ∧ T' = T ∧ Below w.heap.size w w' ∧ T.c (98 + i / 4096) = none ∧ (lst T.c n).length = 96)
set_option maxRecDepth 100000 in
set_option maxHeartbeats 4000000 in
theorem sgive_any (w0 w : World) (D : Dk) (T : Tx) (n : Nat) (h : Spc w0 w D T n) (i : Nat) (h0 : nD n ≤ i) (hi : i < n) (hb : isT (bmp D T) i = true) (hu : T.us.length + 1 ≤ 1000000) :
    Calls Tryd.prog 70 #[.pointer (some ⟨T.t, 0, none⟩), geoV n, .int .i64 (i : Int)] w fun e w' => ∃ (z : Nat) (T' : Tx), e = .returned (.int .i64 (z : Int)) ∧ GvE w0 w w' D T T' n i z := by
  have hk : i / 4096 < nM n := by unfold nM; omega
  have hl := h.bm.len (i / 4096) hk
  have HA : Hid (∀ o, Below w.heap.size w (w.alloc o)) := fun o => (Below.refl _ _).alloc (Nat.le_refl _) o
  have HD : Hid (∀ wx, Calls Tryd.prog 85 #[geoV n, .int .i64 (i : Int)] wx fun e w' => e = .returned (.bool true) ∧ Below wx.heap.size wx w') := fun wx => isData_yes wx n (i : Int) (by omega) (by omega)
  have HF : Hid (∀ wx, Below w.heap.size w wx → Calls Tryd.prog 78 #[.pointer (some ⟨T.t, 0, none⟩), geoV n, .int .i64 (i : Int)] wx fun e w' => ∃ g cap, e = .returned (.tuple #[plV i g cap, .int .i64 0]) ∧ wx.heap.size ≤ g ∧ OwnB w' g cap (bmp D T (i / 4096)) ∧ Below wx.heap.size wx w') := fun wx hb => find_ok w0 wx D T n (h.on hb) i hi
  have HT : Hid (∀ wx g cap, OwnB wx g cap (bmp D T (i / 4096)) → Calls Tryd.prog 86 #[plV i g cap] wx fun e w' => e = .returned (.bool true) ∧ Below wx.heap.size wx w') := fun wx g cap ho => by
    have := taken_bit wx i g cap _ ho.bytes hl
    rw [← hb]
    exact this
  have HP : Hid (∀ wx g cap, Below w.heap.size w wx → OwnB wx g cap (bmp D T (i / 4096)) → w.heap.size ≤ g → Calls Tryd.prog 79 #[plV i g cap, .pointer (some ⟨T.t, 0, none⟩), .bool false] wx fun e w' => ∃ (z : Nat) (T' : Tx), e = .returned (.int .i64 (z : Int)) ∧ GvE w0 w w' D T T' n i z) := fun wx g cap hbx ho hg => by
    by_cases hr : (T.c (98 + i / 4096)).isSome = true ∨ (lst T.c n).length < 96
    · refine (put_bit w0 w wx D T n h hbx i g cap hi ho hg false hr hu).mono ?_
      rintro e w' ⟨rfl, T', hx⟩
      obtain ⟨u, hu1, hu2, hu3⟩ := hx.u
      obtain ⟨q, hq1, hq2⟩ := hx.c
      exact ⟨0, T', rfl, .inl ⟨rfl, ⟨hx.give hbx hg, hx.spc, hx.t, hx.c, by rw [hu1, List.length_append]; rfl⟩, (Ext.refl T).next hq1 hu1 hu2 hu3⟩⟩
    · have hcn : (lst T.c n).length ≤ 96 := by have := h.ses.tx.cnt; rw [h.nb] at this; exact this
      have h96 : (lst T.c n).length = 96 := by have := fun e => hr (.inr e); omega
      have hno : T.c (98 + i / 4096) = none := by
        cases e : T.c (98 + i / 4096)
        · rfl
        · exact absurd (.inl (by rw [e]; rfl)) hr
      refine (put_big w0 w wx D T n h hbx i g cap hi ho hg false hno h96).mono ?_
      rintro e w' ⟨rfl, hf⟩
      exact ⟨60, T, rfl, .inr ⟨rfl, rfl, hbx.trans (hf.below _ (fun k hk => by have hk : k = g := hk; omega) hbx.size), hno, h96⟩⟩
  obtain ⟨A, hA⟩ : ∃ A, 98 + i / 4096 = A := ⟨_, rfl⟩
  obtain ⟨J, hJ⟩ : ∃ J, i % 4096 = J := ⟨_, rfl⟩
  unfold plV at HF HT HP
  rw [hA, hJ] at HF HT HP
  clear h hA hJ hk hl hb hu
  go_enter Tryd.func70, Tryd.ntmps70
  unfold geoV
  unfold geoV at HF HD
  obtain ⟨wz, hwz⟩ : ∃ wz, w.alloc (.cells #[.int .i64 (n : Int), .int .i64 98, .int .i64 (gI n), .int .i64 (gD n), .int .i64 (gC n)] 29) = wz := ⟨_, rfl⟩
  have HZ : Hid (Below w.heap.size w wz ∧ GeoAt wz w.heap.size n) := by
    rw [← hwz]; exact ⟨HA.out _, heap_alloc_new _ _⟩
  obtain ⟨z0, z1, z2, z3, z4⟩ := HZ.out.2.cells
  clear HA
  go_wp2_with (first
    | (go_at_call 85; refine (HD.out _).mono ?_; rintro e w1 ⟨rfl, h1⟩; have H1 : Hid (Below w.heap.size w w1) := HZ.out.1.trans (h1.mono HZ.out.1.size); obtain ⟨y0, y1, y2, y3, y4⟩ := (HZ.out.2.on h1).cells; clear h1 HD)
    | (go_at_call 78; refine (HF.out _ H1.out).mono ?_; rintro e w2 ⟨g, cap, rfl, h1, h2, h3⟩; have H2 : Hid (OwnB w2 g cap (bmp D T (i / 4096)) ∧ Below w.heap.size w w2 ∧ w.heap.size ≤ g) := ⟨h2, H1.out.trans (h3.mono H1.out.size), Nat.le_trans H1.out.size h1⟩; clear h1 h2 h3 HF)
    | (go_at_call 86; refine (HT.out _ _ _ (H2.out.1.on ((Below.refl _ _).alloc (Nat.le_refl _) _))).mono ?_; rintro e w3 ⟨rfl, hb⟩; have H3 : Hid (Below w.heap.size w w3 ∧ OwnB w3 g cap (bmp D T (i / 4096)) ∧ w.heap.size ≤ g) := ⟨(H2.out.2.1.alloc H2.out.2.1.size _).trans (hb.mono (H2.out.2.1.alloc H2.out.2.1.size _).size), (H2.out.1.on ((Below.refl _ _).alloc (Nat.le_refl _) _)).on hb, H2.out.2.2⟩; have x0 := (hb.cell (p := ⟨w2.heap.size, 0, none⟩) (by simp)); have x1 := (hb.cell (p := ⟨w2.heap.size, 1, none⟩) (by simp)); have x2 := (hb.cell (p := ⟨w2.heap.size, 2, none⟩) (by simp)); simp at x0 x1 x2; clear hb HT)
    | (go_at_call 79; refine (HP.out _ _ _ H3.out.1 H3.out.2.1 H3.out.2.2).mono ?_; rintro e w4 ⟨z, T', rfl, hx⟩; have H4 : Hid (GvE w0 w w4 D T T' n i z) := hx; clear hx HP))
  go_ret
  exact ⟨z, T', rfl, H4.out⟩
theorem GvE.gon {w0 w w' : World} {D : Dk} {T T' : Tx} {n i z : Nat} (h : Spc w0 w D T n) (g : GvE w0 w w' D T T' n i z) : Gon w0 w w' D T T' n (fun _ => False) ∧ ∃ m, Ext T T' m := by
  rcases g with ⟨_, g, e⟩ | ⟨_, rfl, hb, _⟩
  · obtain ⟨q, hc, _⟩ := g.c
    exact ⟨⟨SMv.of g.mv, g.spc, dom_ups hc⟩, _, e⟩
  · exact ⟨Gon.on h hb, 0, Ext.refl _⟩
set_option maxRecDepth 100000 in
set_option maxHeartbeats 4000000 in
theorem cn_leaf (w0 w : World) (D : Dk) (T : Tx) (n : Nat) (h : Spc w0 w D T n) (tt a f N k : Nat) (htt : T.t = tt) (h0 : nD n ≤ N) (h1 : N < n) (hb : isT (bmp D T) N = true) (hu : T.us.length + 1 ≤ 1000000) (J' : Tx → Prop) (Z : Prop) (hZ : T.c (98 + N / 4096) = none → Z) (hJ : ∀ w1 w2 T', GiveE w0 w1 w2 D T T' n N → J' T') :
    Calls Tryd.prog 56 #[.pointer (some ⟨tt, 0, none⟩), geoV n, stV a f 1, .int .i64 (N : Int), .int .i64 (k : Int)] w (CnE w0 w D T n true J' Z) := by
  have HG : Hid (∀ wx, Below w.heap.size w wx → Calls Tryd.prog 70 #[.pointer (some ⟨tt, 0, none⟩), geoV n, .int .i64 (N : Int)] wx fun e w' => ∃ (z : Nat) (T' : Tx), e = .returned (.int .i64 (z : Int)) ∧ GvE w0 wx w' D T T' n N z) := fun wx hbx => by
    rw [← htt]; exact sgive_any w0 wx D T n (h.on hbx) N h0 h1 hb hu
  have HT : Hid (∀ wx, Calls Tryd.prog 28 #[.agg #[.int .i64 (a : Int), .int .i64 (f : Int), .int .i64 1]] wx fun e w' => e = .returned (.bool false) ∧ Below wx.heap.size wx w') := fun wx => isTable_any wx a f 1
  have HS : Hid (Spc w0 w D T n ∧ (∀ w1 w2 T', GiveE w0 w1 w2 D T T' n N → J' T') ∧ (T.c (98 + N / 4096) = none → Z)) := ⟨h, hJ, hZ⟩
  obtain ⟨wa, hwa⟩ : ∃ wa, (w.alloc (.cells #[.int .i64 (n : Int), .int .i64 98, .int .i64 (gI n), .int .i64 (gD n), .int .i64 (gC n)] 29)).alloc (.cells #[.int .i64 (a : Int), .int .i64 (f : Int), .int .i64 1] 80) = wa := ⟨_, rfl⟩
  have HA : Hid (Below w.heap.size w wa ∧ GeoAt wa w.heap.size n ∧ wa.heap[w.heap.size + 1]? = some (.cells #[.int .i64 (a : Int), .int .i64 (f : Int), .int .i64 1] 80 (0, 0))) := by
    rw [← hwa]
    refine ⟨(below_new _).alloc (by simp) _, (Below.heap_alloc _ _ _ (by simp)).trans (heap_alloc_new _ _), ?_⟩
    have := heap_alloc_new (w.alloc (.cells #[.int .i64 (n : Int), .int .i64 98, .int .i64 (gI n), .int .i64 (gD n), .int .i64 (gC n)] 29)) (.cells #[.int .i64 (a : Int), .int .i64 (f : Int), .int .i64 1] 80)
    rw [World.size_alloc] at this
    exact this
  clear h htt h0 h1 hb hu hJ hZ
  unfold geoV at HG
  unfold stV geoV
  obtain ⟨y0, y1, y2⟩ := (show StAt wa (w.heap.size + 1) a f 1 from HA.out.2.2).cells
  obtain ⟨z0, z1, z2, z3, z4⟩ := HA.out.2.1.cells
  go_enter Tryd.func56, Tryd.ntmps56
  go_wp2_with (first
    | (go_at_call 28; refine (HT.out _).mono ?_; rintro e w1 ⟨rfl, hb⟩; have H1 : Hid (Below w.heap.size w w1) := HA.out.1.trans (hb.mono HA.out.1.size); obtain ⟨x0, x1, x2, x3, x4⟩ := (HA.out.2.1.on hb).cells; clear hb HT)
    | (go_at_call 70; refine (HG.out _ H1.out).mono ?_; rintro e w2 ⟨z, T', rfl, hx⟩; have H2 : Hid (GvE w0 w1 w2 D T T' n N z) := hx; clear hx HG))
  go_ret2
  have hg := H2.out.gon (HS.out.1.on H1.out)
  refine ⟨true, z, T', rfl, (Gon.on HS.out.1 H1.out (S := fun _ => False)).trans hg.1 (fun _ e => e.elim), hg.2, ?_⟩
  rcases H2.out with ⟨e, g, _⟩ | ⟨e, _, _, e2, _⟩
  · exact .inl ⟨e, rfl, HS.out.2.1 _ _ _ g⟩
  · exact .inr ⟨e, HS.out.2.2 e2⟩
theorem any_takeI {p : Int → Bool} {xs : List Int} {k : Nat} {x : Int} (h : (xs.take k).any p = false) (hx : xs[k]? = some x) (hp : p x = false) : (xs.take (k + 1)).any p = false := by
  rw [List.take_add_one, hx, List.any_append, h]
  simp [hp]
def nz (x : Int) : Bool := x != 0
set_option maxRecDepth 100000 in
theorem ie1_any (w : World) (x : Int) : Calls Tryd.prog 88 #[.int .i64 x] w fun e w' => e = .returned (.bool (nz x)) ∧ w = w' := by
  go_enter Tryd.func88, Tryd.ntmps88
  go_wp2
  go_ret
  exact ⟨rfl, rfl⟩
set_option maxHeartbeats 4000000 in
theorem idx_nz (w : World) (g n c : Nat) (xs : List Int) (ho : OwnI w g c xs) (hn : xs.length = n) (hb : n ≤ 1000) : Calls Tryd.prog 94 #[.slice (some ⟨g, 0, none⟩) n c, .func (.func 88) #[] #[]] w fun e w' => (∃ r : Int, e = .returned (.int .i64 r) ∧ decide ((0 : Int) ≤ r) = xs.any nz) ∧ w = w' := by
  go_enter Tryd.func94, Tryd.ntmps94
  go_wp2
  go_loopw [8] (fun s8 wr => ∃ k : Nat, k ≤ n ∧ s8 = .int .i64 (k : Int) ∧ (xs.take k).any nz = false ∧ wr = w) (fun s8 _ => n - (intOf s8).toNat)
  case atStart => exact ⟨0, Nat.zero_le _, rfl, rfl, rfl⟩
  case round =>
    obtain ⟨k, hk, rfl, hno, rfl⟩ := hrel
    have HN : Hid ((xs.take k).any nz = false) := hno
    clear hno
    by_cases hlt : k < n
    · have hlt' : (k : Int) < (n : Int) := by omega
      obtain ⟨x, hx⟩ : ∃ x, xs[k]? = some x := ⟨_, List.getElem?_eq_getElem (by omega)⟩
      have hc : wr.cell? ⟨g, k, none⟩ = some (.int .i64 x) := by
        have := ho.cell k (by omega)
        rw [nth, List.getD_eq_getElem?_getD, hx] at this
        exact this
      have HX : Hid (xs[k]? = some x) := hx
      clear hx
      cases hp : nz x with
      | true =>
        go_wp2_with (go_at_call 88; refine (ie1_any _ _).mono ?_; rintro e w' ⟨rfl, rfl⟩; rw [hp])
        go_ret
        refine ⟨⟨_, rfl, ?_⟩, rfl⟩
        rw [List.any_eq_true.2 ⟨x, List.mem_of_getElem? HX.out, hp⟩]
        simp
      | false =>
        go_wp2_with (go_at_call 88; refine (ie1_any _ _).mono ?_; rintro e w' ⟨rfl, rfl⟩; rw [hp])
        go_roundw
        case rel => exact ⟨k + 1, by omega, by go_num, any_takeI HN.out HX.out hp, trivial⟩
        case measure => simp [intOf]; omega
    · have hlt' : ¬ (k : Int) < (n : Int) := by omega
      go_wp2
      go_ret
      refine ⟨⟨_, rfl, ?_⟩, rfl⟩
      have := HN.out
      rw [List.take_of_length_le (by omega)] at this
      rw [this]; rfl
set_option maxRecDepth 100000 in
theorem has_nz (w : World) (g n c : Nat) (xs : List Int) (ho : OwnI w g c xs) (hn : xs.length = n) (hb : n ≤ 1000) : Calls Tryd.prog 87 #[.slice (some ⟨g, 0, none⟩) n c, .func (.func 88) #[] #[]] w fun e w' => e = .returned (.bool (xs.any nz)) ∧ w = w' := by
  obtain ⟨bb, hbb⟩ : ∃ bb, xs.any nz = bb := ⟨_, rfl⟩
  have C := idx_nz w g n c xs ho hn hb
  rw [hbb] at C ⊢
  clear hbb
  go_enter Tryd.func87, Tryd.ntmps87
  go_wp2_with (go_at_call 94; refine C.mono ?_; rintro e w' ⟨⟨r, rfl, hr⟩, rfl⟩)
  go_ret
  refine ⟨?_, rfl⟩
  rw [← hr]; rfl
set_option maxRecDepth 100000 in
theorem isEmpty_any (w : World) (tb g n c : Nat) (xs : List Int) (ho : OwnI w g c xs) (hn : xs.length = n) (hb : n ≤ 1000) : Calls Tryd.prog 71 #[.agg #[.int .i64 (tb : Int), .slice (some ⟨g, 0, none⟩) n c]] w fun e w' => e = .returned (.bool (!xs.any nz)) ∧ Below w.heap.size w w' := by
  obtain ⟨wa, hwa⟩ : ∃ wa, w.alloc (.cells #[.int .i64 (tb : Int), .slice (some ⟨g, 0, none⟩) n c] 69) = wa := ⟨_, rfl⟩
  have HA : Hid (Below w.heap.size w wa) := by rw [← hwa]; exact below_new _
  have hr : wa.heap[w.heap.size]? = some (.cells #[.int .i64 (tb : Int), .slice (some ⟨g, 0, none⟩) n c] 69 (0, 0)) := by rw [← hwa]; exact heap_alloc_new _ _
  have r1 : wa.cell? ⟨w.heap.size, 1, none⟩ = some (.slice (some ⟨g, 0, none⟩) n c) := by rw [cell_of_row _ _ _ _ _ _ hr]; rfl
  have C := has_nz wa g n c xs (ho.on HA.out) hn hb
  obtain ⟨bb, hbb⟩ : ∃ bb, xs.any nz = bb := ⟨_, rfl⟩
  rw [hbb] at C ⊢
  clear hbb hr ho
  go_enter Tryd.func71, Tryd.ntmps71
  go_wp2_with (go_at_call 87; refine C.mono ?_; rintro e w' ⟨rfl, rfl⟩)
  go_ret
  exact ⟨rfl, HA.out⟩
end Go.Proofs.YtgmccpimpbnnpaaDoor

namespace Go.Proofs.YtgmccpimpbnnpaaDoor
open Go.RowKit Go.Maps Rec
structure Cz (w : World) (P n a0 f0 s0 R N g : Nat) : Prop where
  ge : GeoAt w P n
  st : StAt w (P + 1) a0 f0 s0
  ro : w.heap[R]? = some (.cells #[.int .i64 (N : Int), .slice (some ⟨g, 0, none⟩) 128 128] 69 (0, 0))
theorem Cz.fr {S : Nat → Prop} {w w' : World} {P n a0 f0 s0 R N g : Nat} (h : Cz w P n a0 f0 s0 R N g) (f : Fr S w w') (h0 : ¬ S P) (h1 : ¬ S (P + 1)) (h2 : ¬ S R) : Cz w' P n a0 f0 s0 R N g := ⟨f.heap h.ge h0, f.heap h.st h1, f.heap h.ro h2⟩
theorem Cz.on {w w' : World} {P n a0 f0 s0 R N g : Nat} (h : Cz w P n a0 f0 s0 R N g) (hb : Below w.heap.size w w') : Cz w' P n a0 f0 s0 R N g := h.fr (below_fr hb (fun _ => False)) (fun e => e) (fun e => e) (fun e => e)
set_option maxRecDepth 100000 in
set_option maxHeartbeats 8000000 in
theorem cn_tab (w0 w : World) (D : Dk) (T : Tx) (n : Nat) (h : Spc w0 w D T n) (hT : TabAt w0) (tt a0 f0 s0 N k : Nat) (htt : T.t = tt) (hs0 : 1 < s0) (hs1 : s0 ≤ 16384) (hf0 : f0 ≤ 20000) (hk : k ≤ 100000) (h0 : nD n ≤ N) (h1 : N < n) (a : Nat → Nat) (hrow : ∀ i, i < 128 → nm (tv D T N) i = (a i : Int)) (gn : Nat → Bool) (J : Nat → Tx → Prop) (Z : Prop) (hZ : ∀ T1, J 128 T1 → (T1.c (98 + N / 4096) = none ∨ T1.c N = none) → Z) (hJ : J 0 T) (hsk : ∀ j T', j < 128 → actB a (fun i => f0 + i * (s0 / 128)) (fun _ => s0 / 128) k j = false → J j T' → J (j + 1) T') (hcn : CnH w0 D n tt k 128 a (fun i => f0 + i * (s0 / 128)) (fun _ => s0 / 128) gn J Z)
    (ac : Nat → Bool) (hac : actB a (fun i => f0 + i * (s0 / 128)) (fun _ => s0 / 128) k = ac) (J' : Tx → Prop) (em : Bool) (hem : (!(rowC 128 a ac gn 128).any nz) = em) (hN : ∀ T1, J 128 T1 → isT (bmp D T1) N = true ∧ T1.us.length + 1 ≤ 1000000)
    (hE : ∀ w1 w2 T1 T2, J 128 T1 → em = true → GiveE w0 w1 w2 D T1 T2 n N → J' T2)
    (hP : ∀ T1 T2, J 128 T1 → em = false → chC ac gn 128 = true → (∃ q : Bk, T2.c = ups T1.c N (some q) ∧ q.x = rb (rowC 128 a ac gn 128)) → T2.us.length = T1.us.length + 1 → J' T2)
    (hK : ∀ T1, J 128 T1 → em = false → chC ac gn 128 = false → J' T1) :
    Calls Tryd.prog 56 #[.pointer (some ⟨tt, 0, none⟩), geoV n, stV a0 f0 s0, .int .i64 (N : Int), .int .i64 (k : Int)] w (CnE w0 w D T n em J' Z) := by
  have hrow0 : nms (tv D T N) = rowC 128 a ac gn 0 := by
    refine ext_nth (by rw [nms_length, rowC_length]) (fun i hi => ?_)
    rw [nms_length] at hi
    rw [nth_nms _ _ hi, nth_rowC _ _ _ _ _ _ hi, if_neg (by omega), hrow i hi]
  have hbdN : ∀ i, 0 ≤ nth (rowC 128 a ac gn 128) i ∧ nth (rowC 128 a ac gn 128) i < 4294967296 := fun i => by
    by_cases hi : i < 128
    · rw [nth_rowC _ _ _ _ _ _ hi]
      have := nm_bd h N h1 i
      rw [hrow i hi] at this
      split <;> omega
    · rw [nth_out _ _ (by rw [rowC_length]; omega)]; omega
  have HT : Hid (∀ wx, Calls Tryd.prog 28 #[.agg #[.int .i64 (a0 : Int), .int .i64 (f0 : Int), .int .i64 (s0 : Int)]] wx fun e w' => e = .returned (.bool true) ∧ Below wx.heap.size wx w') := fun wx => by
    have := isTable_any wx a0 f0 s0
    rw [decide_eq_true hs0] at this
    exact this
  have HRt : Hid (∀ wx, Below w.heap.size w wx → Calls Tryd.prog 29 #[.pointer (some ⟨tt, 0, none⟩), .int .i64 (N : Int)] wx fun e w' => ∃ g, e = .returned (.tuple #[.agg #[.int .i64 (N : Int), .slice (some ⟨g, 0, none⟩) 128 128], .int .i64 0]) ∧ wx.heap.size ≤ g ∧ OwnI w' g 128 (rowC 128 a ac gn 0) ∧ Below wx.heap.size wx w') := fun wx hb => by
    rw [← hrow0, ← htt]; exact rtable_any w0 wx D T n (h.on hb) (hT.on (h.on hb).ses.bel) N h1
  have HRow : Hid (∀ wx g, Below w.heap.size w wx → w.heap.size ≤ g → OwnI wx g 128 (rowC 128 a ac gn 0) → Calls Tryd.prog 41 #[.pointer (some ⟨tt, 0, none⟩), geoV n, .agg #[.int .i64 (N : Int), .slice (some ⟨g, 0, none⟩) 128 128], .func (.func 31) #[stV a0 f0 s0] #[], .int .i64 (k : Int)] wx fun e w' => ∃ (b : Bool) (z : Nat) (T' : Tx), e = .returned (.tuple #[.bool b, .int .i64 (z : Int)]) ∧ CwE w0 wx D T n g 128 128 a ac gn J Z b z T' w') := fun wx g hb hg ho => by
    have := cutRow_below w0 wx D T n (h.on hb) tt k N g 128 128 htt a0 f0 s0 hs1 hf0 hk (by omega) a gn J Z (Out.of h hg ho.lt) (by rw [hac]; exact ho) hJ hsk hcn
    rw [hac] at this
    exact this
  have HGv : Hid (∀ wx T1, Spc w0 wx D T1 n → T1.t = tt → J 128 T1 → Calls Tryd.prog 70 #[.pointer (some ⟨tt, 0, none⟩), geoV n, .int .i64 (N : Int)] wx fun e w' => ∃ (z : Nat) (T' : Tx), e = .returned (.int .i64 (z : Int)) ∧ GvE w0 wx w' D T1 T' n N z) := fun wx T1 hs ht hj => by
    rw [← ht]; exact sgive_any w0 wx D T1 n hs N h0 h1 (hN T1 hj).1 (hN T1 hj).2
  have HPu : Hid (∀ wx T1 g, Spc w0 wx D T1 n → T1.t = tt → J 128 T1 → OwnI wx g 128 (rowC 128 a ac gn 128) → Calls Tryd.prog 51 #[.agg #[.int .i64 (N : Int), .slice (some ⟨g, 0, none⟩) 128 128], .pointer (some ⟨tt, 0, none⟩)] wx fun e w' => ∃ z, e = .returned (.int .i64 z) ∧ ∃ T', PuE w0 wx w' D T1 T' n N (rowC 128 a ac gn 128) z) := fun wx T1 g hs ht hj ho => by
    rw [← ht]; exact put_any w0 wx D T1 n hs hT N 128 g 128 _ ho (rowC_length _ _ _ _ _) (.inr ⟨h0, h1, rfl, hbdN⟩) (hN T1 hj).2
  have HEm : Hid (∀ wx g, OwnI wx g 128 (rowC 128 a ac gn 128) → Calls Tryd.prog 71 #[.agg #[.int .i64 (N : Int), .slice (some ⟨g, 0, none⟩) 128 128]] wx fun e w' => e = .returned (.bool em) ∧ Below wx.heap.size wx w') := fun wx g ho => by
    rw [← hem]; exact isEmpty_any wx N g 128 128 _ ho (rowC_length _ _ _ _ _) (by omega)
  have HS : Hid (Spc w0 w D T n ∧ T.t = tt ∧ 0 < N) := ⟨h, htt, by have := nM_bd h.lo h.hi; omega⟩
  have HJ : Hid ((∀ w1 w2 T1 T2, J 128 T1 → em = true → GiveE w0 w1 w2 D T1 T2 n N → J' T2) ∧ (∀ T1 T2, J 128 T1 → em = false → chC ac gn 128 = true → (∃ q : Bk, T2.c = ups T1.c N (some q) ∧ q.x = rb (rowC 128 a ac gn 128)) → T2.us.length = T1.us.length + 1 → J' T2) ∧ (∀ T1, J 128 T1 → em = false → chC ac gn 128 = false → J' T1) ∧ ∀ T1, J 128 T1 → (T1.c (98 + N / 4096) = none ∨ T1.c N = none) → Z) := ⟨hE, hP, hK, hZ⟩
  obtain ⟨P, hPe⟩ : ∃ P, w.heap.size = P := ⟨_, rfl⟩
  obtain ⟨wa, hwa⟩ : ∃ wa, (w.alloc (.cells #[.int .i64 (n : Int), .int .i64 98, .int .i64 (gI n), .int .i64 (gD n), .int .i64 (gC n)] 29)).alloc (.cells #[.int .i64 (a0 : Int), .int .i64 (f0 : Int), .int .i64 (s0 : Int)] 80) = wa := ⟨_, rfl⟩
  have HA : Hid (Below w.heap.size w wa ∧ GeoAt wa P n ∧ StAt wa (P + 1) a0 f0 s0 ∧ w.heap.size = P) := by
    rw [← hwa, ← hPe]
    refine ⟨(below_new _).alloc (by simp) _, (Below.heap_alloc _ _ _ (by simp)).trans (heap_alloc_new _ _), ?_, rfl⟩
    have := heap_alloc_new (w.alloc (.cells #[.int .i64 (n : Int), .int .i64 98, .int .i64 (gI n), .int .i64 (gD n), .int .i64 (gC n)] 29)) (.cells #[.int .i64 (a0 : Int), .int .i64 (f0 : Int), .int .i64 (s0 : Int)] 80)
    rw [World.size_alloc] at this
    exact this
  obtain ⟨y0, y1, y2⟩ := HA.out.2.2.1.cells
  clear h hT htt hs0 hs1 hf0 hk h0 h1 hrow hJ hsk hcn hac hem hN hE hP hK hZ hrow0 hbdN
  unfold geoV at HRow HGv
  unfold stV at HRow
  unfold geoV stV
  go_enter Tryd.func56, Tryd.ntmps56
  go_upto_region 4 with (first
    | (go_at_call 28; refine (HT.out _).mono ?_; rintro e w1 ⟨rfl, hb⟩; have H1 : Hid (Below wa.heap.size wa w1) := hb; clear hb HT)
    | (go_at_call 29; refine (HRt.out _ (HA.out.1.trans (H1.out.mono HA.out.1.size))).mono ?_; rintro e w2 ⟨g, rfl, e1, e2, e3⟩; have H2 : Hid (w1.heap.size ≤ g ∧ OwnI w2 g 128 (rowC 128 a ac gn 0) ∧ Below wa.heap.size wa w2) := ⟨e1, e2, H1.out.trans (e3.mono H1.out.size)⟩; clear e1 e2 e3 HRt))
  obtain ⟨R, hR⟩ : ∃ R, w2.heap.size = R := ⟨_, rfl⟩
  obtain ⟨w3, hw3⟩ : ∃ w3, w2.alloc (.cells #[.int .i64 (N : Int), .slice (some ⟨g, 0, none⟩) 128 128] 69) = w3 := ⟨_, rfl⟩
  have H3 : Hid (Cz w3 P n a0 f0 s0 R N g ∧ Below w.heap.size w w3 ∧ OwnI w3 g 128 (rowC 128 a ac gn 0) ∧ P + 2 ≤ g ∧ g < R) := by
    have hb2 : Below w2.heap.size w2 w3 := by rw [← hw3]; exact below_new _
    have hbw : Below w.heap.size w w2 := HA.out.1.trans (H2.out.2.2.mono HA.out.1.size)
    have hst := heap_lt HA.out.2.2.1
    have h1s := H1.out.size
    have hg1 := H2.out.1
    have hgl := H2.out.2.1.lt
    refine ⟨⟨(HA.out.2.1.on H2.out.2.2).on hb2, (HA.out.2.2.1.on H2.out.2.2).on hb2, ?_⟩, hbw.trans (hb2.mono hbw.size), H2.out.2.1.on hb2, by omega, by omega⟩
    rw [← hw3, ← hR]
    exact heap_alloc_new _ _
  rw [hw3, hR]
  clear hw3 hR hwa y0 y1 y2
  obtain ⟨y0, y1, y2⟩ := H3.out.1.st.cells
  obtain ⟨z0, z1, z2, z3, z4⟩ := H3.out.1.ge.cells
  have r0 : w3.cell? ⟨R, 0, none⟩ = some (.int .i64 (N : Int)) := by rw [cell_of_row _ _ _ _ _ _ H3.out.1.ro]; rfl
  have r1 : w3.cell? ⟨R, 1, none⟩ = some (.slice (some ⟨g, 0, none⟩) 128 128) := by rw [cell_of_row _ _ _ _ _ _ H3.out.1.ro]; rfl
  go_upto_region 7 with (go_at_call 41; refine (HRow.out _ g H3.out.2.1 (by have h8 := HA.out.2.2.2; have h9 := H3.out.2.2.2; omega) H3.out.2.2.1).mono ?_; rintro e w4 ⟨b, z, T1, rfl, hx⟩; have H4 : Hid (CwE w0 w3 D T n g 128 128 a ac gn J Z b z T1 w4) := hx; clear hx HRow)
  clear y0 y1 y2 z0 z1 z2 z3 z4 r0 r1
  have H5 : Hid (Cz w4 P n a0 f0 s0 R N g ∧ Gon w0 w w4 D T T1 n (fun _ => False) ∧ Out w0 w4 D T1 g) := by
    have hP := HA.out.2.2.2
    have hg := H3.out.2.2.2
    have hno : ∀ i, P ≤ i → i ≠ g → ¬ (T.has i ∨ i = g) := fun i hi e1 e => e.elim (fun e => by have := HS.out.1.ses.tx.lt (.inl e); omega) e1
    exact ⟨H3.out.1.fr H4.out.1.mv.fr (hno _ (by omega) (by omega)) (hno _ (by omega) (by omega)) (hno _ (by omega) (by omega)), (Gon.on HS.out.1 H3.out.2.1 (S := fun _ => False)).trans H4.out.1 (fun i hi => .inr (by have hi : i = g := hi; omega)), (Out.of HS.out.1 (by omega) H3.out.2.2.1.lt).mv H4.out.1.mv⟩
  by_cases hz : z = 0
  · subst hz
    have H6 : Hid (J 128 T1 ∧ OwnI w4 g 128 (rowC 128 a ac gn 128) ∧ b = chC ac gn 128 ∧ T1.t = tt) := by
      rcases H4.out.2.2 with ⟨_, e1, e2, e3⟩ | e
      · exact ⟨e1, e2, e3, H5.out.2.1.mv.t.trans HS.out.2.1⟩
      · exact absurd e.1 (by omega)
    have r0 : w4.cell? ⟨R, 0, none⟩ = some (.int .i64 (N : Int)) := by rw [cell_of_row _ _ _ _ _ _ H5.out.1.ro]; rfl
    have r1 : w4.cell? ⟨R, 1, none⟩ = some (.slice (some ⟨g, 0, none⟩) 128 128) := by rw [cell_of_row _ _ _ _ _ _ H5.out.1.ro]; rfl
    cases em
    · go_upto_region 11 with (go_at_call 71; refine (HEm.out _ _ H6.out.2.1).mono ?_; rintro e w5 ⟨rfl, hb⟩; have H7 : Hid (Below w4.heap.size w4 w5) := hb; clear hb HEm)
      clear r0 r1
      have r0 : w5.cell? ⟨R, 0, none⟩ = some (.int .i64 (N : Int)) := by rw [cell_of_row _ _ _ _ _ _ (H5.out.1.on H7.out).ro]; rfl
      have r1 : w5.cell? ⟨R, 1, none⟩ = some (.slice (some ⟨g, 0, none⟩) 128 128) := by rw [cell_of_row _ _ _ _ _ _ (H5.out.1.on H7.out).ro]; rfl
      have HG5 : Hid (Gon w0 w w5 D T T1 n (fun _ => False)) := H5.out.2.1.trans (Gon.on H5.out.2.1.spc H7.out (S := fun _ => False)) (fun _ e => e.elim)
      cases b
      · go_wp2
        go_ret2
        exact ⟨false, 0, T1, rfl, HG5.out, H4.out.2.1, .inl ⟨rfl, rfl, HJ.out.2.2.1 _ H6.out.1 trivial H6.out.2.2.1.symm⟩⟩
      · go_wp2_with (go_at_call 51; refine (HPu.out _ T1 g HG5.out.spc H6.out.2.2.2 H6.out.1 (H6.out.2.1.on H7.out)).mono ?_; rintro e w6 ⟨z, rfl, T2, hx⟩; have H8 : Hid (PuE w0 w5 w6 D T1 T2 n N (rowC 128 a ac gn 128) z) := hx; clear hx HPu)
        go_ret2
        obtain ⟨m, hm⟩ := H4.out.2.1
        rcases H8.out.or with ⟨rfl, ⟨e, _⟩ | ⟨_, hc, u, hu1, hu2, hu3⟩⟩ | ⟨rfl, rfl, e9, _⟩
        · have := HS.out.2.2; omega
        · obtain ⟨q, hq1, hq2⟩ := hc
          exact ⟨false, 0, T2, rfl, HG5.out.trans ⟨SMv.of H8.out.mv (S := fun _ => False), H8.out.spc, dom_ups hq1⟩ (fun _ e => e.elim), ⟨m + 1, hm.next hq1 hu1 hu2 hu3⟩, .inl ⟨rfl, rfl, HJ.out.2.1 _ _ H6.out.1 trivial H6.out.2.2.1.symm ⟨q, hq1, hq2⟩ (by rw [hu1, List.length_append]; rfl)⟩⟩
        · exact ⟨false, 60, _, rfl, HG5.out.trans ⟨SMv.of H8.out.mv (S := fun _ => False), H8.out.spc, fun _ e => e⟩ (fun _ e => e.elim), ⟨m, hm⟩, .inr ⟨rfl, HJ.out.2.2.2 _ H6.out.1 (.inr e9)⟩⟩
    · obtain ⟨z0, z1, z2, z3, z4⟩ := H5.out.1.ge.cells
      go_upto_region 10 with (go_at_call 71; refine (HEm.out _ _ H6.out.2.1).mono ?_; rintro e w5 ⟨rfl, hb⟩; have H7 : Hid (Below w4.heap.size w4 w5) := hb; clear hb HEm)
      clear r0 r1 z0 z1 z2 z3 z4
      obtain ⟨z0, z1, z2, z3, z4⟩ := (H5.out.1.on H7.out).ge.cells
      have HG5 : Hid (Gon w0 w w5 D T T1 n (fun _ => False)) := H5.out.2.1.trans (Gon.on H5.out.2.1.spc H7.out (S := fun _ => False)) (fun _ e => e.elim)
      go_wp2_with (go_at_call 70; refine (HGv.out _ T1 HG5.out.spc H6.out.2.2.2 H6.out.1).mono ?_; rintro e w6 ⟨z, T2, rfl, hx⟩; have H8 : Hid (GvE w0 w5 w6 D T1 T2 n N z) := hx; clear hx HGv)
      go_ret2
      obtain ⟨m, hm⟩ := H4.out.2.1
      have hg := H8.out.gon HG5.out.spc
      obtain ⟨hg1, m2, hm2⟩ := hg
      refine ⟨true, z, T2, rfl, HG5.out.trans hg1 (fun _ e => e.elim), ⟨m + m2, hm.trans hm2⟩, ?_⟩
      rcases H8.out with ⟨e, g9, _⟩ | ⟨e, _, _, e9, _⟩
      · exact .inl ⟨e, rfl, HJ.out.1 _ _ _ _ H6.out.1 trivial g9⟩
      · exact .inr ⟨e, HJ.out.2.2.2 _ H6.out.1 (.inl e9)⟩
  · have hz60 : z = 60 ∧ Z := by
      rcases H4.out.2.2 with ⟨e, _⟩ | e
      · exact absurd e hz
      · exact e
    obtain ⟨hz60, hZ9⟩ := hz60
    have HZ9 : Hid Z := hZ9
    subst hz60
    clear hz hZ9
    go_wp2
    go_ret2
    exact ⟨false, 60, T1, rfl, H5.out.2.1, H4.out.2.1, .inr ⟨rfl, HZ9.out⟩⟩
end Go.Proofs.YtgmccpimpbnnpaaDoor
