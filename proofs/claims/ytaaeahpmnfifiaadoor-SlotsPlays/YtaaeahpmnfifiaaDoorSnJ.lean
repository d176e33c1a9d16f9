import Derived.Test.YtaaeahpmnfifiaaDoorSnI
namespace Go.Proofs.YtaaeahpmnfifiaaDoor
open Go.RowKit Rec Sc
theorem drewN_below (w : World) (q : Nat) : Below w.heap.size w (w.drewN q) := by
  induction q with
  | zero => exact Below.refl _ _
  | succ q ih => exact ih.drew
set_option maxRecDepth 100000 in
set_option maxHeartbeats 4000000 in
theorem sfixed_any (w : World) (hT : TabAt w) : Calls Tryd.prog 8 #[] w fun e w' => e = .returned (.bool true) ∧ Below w.heap.size w w' := by
  obtain ⟨o, E, hO⟩ := make512
  have HO : Hid (∀ w : World, OwnB (w.alloc o) w.heap.size 512 z512) := hO
  have h0 : w.heap.size ≠ 0 := by have := hT.size; omega
  have HT : Hid (∀ wx, Below w.heap.size w wx → TabAt wx) := fun wx hb => hT.on hb
  have HA : Hid (Below w.heap.size w (w.alloc o)) := (Below.refl _ _).alloc (Nat.le_refl _) _
  have H1 : Hid (Calls Tryd.prog 10 #[.slice (some ⟨w.heap.size, 0, none⟩) 512 512, .agg #[.int .i64 2, .string ⟨#[97, 98]⟩, .int .i64 258]] (w.alloc o) fun r w' => r = .returned (.int .i64 0) ∧ OwnB w' w.heap.size 512 LA ∧ Below w.heap.size w w') :=
    (sput_ok (w.alloc o) w.heap.size 512 512 z512 2 eA (by omega) (HO.out w) (by simp) (by omega) (HT.out _ HA.out) h0 eA_good).mono (fun r w' h => ⟨h.1, h.2.1, HA.out.grown h.2.2 HA.out.size (fun k e => by cases e; exact Nat.le_refl _)⟩)
  have HS : Hid (∀ wx, Bytes wx (some ⟨w.heap.size, 0, none⟩) LA → (convert 25 9 (.slice (some ⟨w.heap.size, 64, none⟩) 7 448)).run Tryd.prog wx = .ok (.string ⟨#[2, 1, 0, 0, 2, 97, 98]⟩) wx) := fun wx hb => by
    rw [← LA_fld]
    exact str_of (hb.field (A := 64) (N := 7) (by rw [LA_bk.len]; omega) 64 (.inl (by omega))) (fld_length _ _ _ (by rw [LA_bk.len]; omega))
  clear hT hO
  obtain ⟨P, hP⟩ : ∃ P, w.heap.size = P := ⟨_, rfl⟩
  rw [hP] at HT HA H1 HS h0
  have H2 : Hid (∀ wx, OwnB wx P 512 LA → Below P w wx → Calls Tryd.prog 13 #[.slice (some ⟨P, 0, none⟩) 512 512] wx fun e w' => ∃ b cap, e = .returned (.tuple #[.slice (some ⟨b, 0, none⟩) 1 cap, .int .i64 0]) ∧ OwnB w' P 512 LA ∧ Below P w w' ∧ P ≤ b ∧ OwnE w' b cap [(2, ⟨#[97, 98]⟩, 258)]) := fun wx ho hb => by
    refine (read_bk wx P 0 512 LA fA LA_bk ho.bytes (by omega) (HT.out _ hb)).mono ?_
    rintro e w' ⟨b, cap, h1, h2, h3, h4⟩
    rw [vA] at h1 h4
    have := ho.lt
    exact ⟨b, cap, h1, ho.on h2, hb.trans (h2.mono (by omega)), by omega, h4⟩
  have H3 : Hid (∀ wx, OwnB wx P 512 LA → Below P w wx → Calls Tryd.prog 14 #[.slice (some ⟨P, 0, none⟩) 512 512] wx fun e w' => e = .returned (.tuple #[.int .i64 0, .int .i64 0]) ∧ OwnB w' P 512 LA ∧ Below P w w' ∧ Below wx.heap.size wx w') := fun wx ho hb => by
    refine (low_bk wx P 0 512 LA fA LA_bk ho.bytes (by omega) (HT.out _ hb)).mono ?_
    rintro e w' ⟨h1, h2⟩
    rw [fA0] at h1
    have := ho.lt
    exact ⟨h1, ho.on h2, hb.trans (h2.mono (by omega)), h2⟩
  have H4 : Hid (∀ wx b cap, OwnE wx b cap [(2, ⟨#[97, 98]⟩, 258)] → OwnB wx P 512 LA → Below P w wx → Calls Tryd.prog 15 #[.slice (some ⟨b, 0, none⟩) 1 cap, .slice (some ⟨wx.heap.size, 0, none⟩) 1 1] (wx.alloc (.cells #[.int .i64 2, .string ⟨#[97, 98]⟩, .int .i64 258] 27)) fun e w' => e = .returned (.bool true) ∧ OwnB w' P 512 LA ∧ Below P w w') := fun wx b cap he ho hb => by
    have hal : Below wx.heap.size wx (wx.alloc (.cells #[.int .i64 2, .string ⟨#[97, 98]⟩, .int .i64 258] 27)) := (Below.refl _ _).alloc (Nat.le_refl _) _
    have hn := heap_alloc_new wx (.cells #[.int .i64 2, .string ⟨#[97, 98]⟩, .int .i64 258] 27)
    refine (sameE_any _ _ _ 1 cap 1 1 [(2, ⟨#[97, 98]⟩, 258)] [(2, ⟨#[97, 98]⟩, 258)] (he.on hal).ents (.inr ⟨wx.heap.size, rfl, fun k q hk => ?_⟩) rfl rfl (by omega)).mono ?_
    · match k, hk with
      | 0, hk => cases hk; exact ⟨cell_of_row _ _ 0 _ _ _ hn, cell_of_row _ _ 1 _ _ _ hn, cell_of_row _ _ 2 _ _ _ hn⟩
    · rintro e w' ⟨rfl, q, rfl⟩
      have hd := drewN_below (wx.alloc (.cells #[.int .i64 2, .string ⟨#[97, 98]⟩, .int .i64 258] 27)) q
      have hb2 := hal.trans (hd.mono hal.size)
      have := ho.lt
      exact ⟨by simp, ho.on hb2, hb.trans (hb2.mono (by omega))⟩
  have H5 : Hid (∀ wx, OwnB wx P 512 LA → Below P w wx → Calls Tryd.prog 12 #[.slice (some ⟨P, 0, none⟩) 512 512, .int .i64 2] wx fun e w' => e = .returned (.int .i64 0) ∧ OwnB w' P 512 z512 ∧ Below P w w') := fun wx ho hb => by
    refine (clr_ok wx P 512 512 LA 2 (by omega) ho (by rw [LA_bk.len]; omega) (by omega)).mono ?_
    rintro e w' ⟨rfl, h1, h2⟩
    rw [LA_clear] at h1
    exact ⟨rfl, h1, hb.grown h2 (Nat.le_of_lt ho.lt) (fun k e => by cases e; exact Nat.le_refl _)⟩
  have H6 : Hid (∀ wx, OwnB wx P 512 z512 → Below P w wx → Calls Tryd.prog 16 #[.slice (some ⟨P, 0, none⟩) 512 512, .slice (some ⟨wx.heap.size, 0, none⟩) 512 512] (wx.alloc o) fun e w' => e = .returned (.bool true) ∧ Below P w w') := fun wx ho hb => by
    have hal : Below wx.heap.size wx (wx.alloc o) := (Below.refl _ _).alloc (Nat.le_refl _) _
    refine (sameB_any _ _ _ 512 512 512 512 z512 z512 (ho.on hal).bytes (HO.out wx).bytes (by simp) (by simp)).mono ?_
    rintro e w' ⟨rfl, q, rfl⟩
    have hd := drewN_below (wx.alloc o) q
    have hb2 := hal.trans (hd.mono hal.size)
    have := ho.lt
    exact ⟨by simp, hb.trans (hb2.mono (by omega))⟩
  clear HO HT
  go_enter Tryd.func8, Tryd.ntmps8
  go_wp2_with (first
    | (go_at_call 10; refine H1.out.mono ?_; rintro e w1 ⟨rfl, ho1, hb1⟩; have HO1 : Hid _ := ho1; have HB1 : Hid _ := hb1; clear ho1 hb1)
    | (go_at_call 13; refine (H2.out _ HO1.out HB1.out).mono ?_; rintro e w2 ⟨b, cap, rfl, ho2, hb2, hb, he⟩; have HO2 : Hid _ := ho2; have HB2 : Hid _ := hb2; have HE2 : Hid _ := he; clear ho2 hb2 he hb)
    | (go_at_call 14; refine (H3.out _ HO2.out HB2.out).mono ?_; rintro e w3 ⟨rfl, ho3, hb3, hx⟩; have HO3 : Hid _ := ho3; have HB3 : Hid _ := hb3; have HE3 : Hid (OwnE w3 b cap [(2, ⟨#[97, 98]⟩, 258)]) := HE2.out.on hx; have hs := HS.out _ ho3.bytes; clear ho3 hb3 hx)
    | (go_at_call 15; refine (H4.out _ _ _ HE3.out HO3.out HB3.out).mono ?_; rintro e w4 ⟨rfl, ho4, hb4⟩; have HO4 : Hid _ := ho4; have HB4 : Hid _ := hb4; clear ho4 hb4)
    | (go_at_call 12; refine (H5.out _ HO4.out HB4.out).mono ?_; rintro e w5 ⟨rfl, ho5, hb5⟩; have HO5 : Hid _ := ho5; have HB5 : Hid _ := hb5; clear ho5 hb5)
    | (go_at_call 16; refine (H6.out _ HO5.out HB5.out).mono ?_; rintro e w6 ⟨rfl, hb6⟩; have HB6 : Hid _ := hb6; clear hb6))
  go_ret
  exact ⟨rfl, by rw [hP]; exact HB6.out⟩
end Go.Proofs.YtaaeahpmnfifiaaDoor
