import Derived.Test.YtaaeahpmnfifiaaDoorSnF
namespace Go.Proofs.YtaaeahpmnfifiaaDoor
open Go.RowKit Rec Sc
theorem TabAt.grown1 {w w' : World} {g : Nat} (h : TabAt w) (hb : w.grownBy w' (some g)) (h0 : g ≠ 0) : TabAt w' := ⟨fun i hi => hb.cell (h.wid i hi) (fun e => h0 (by cases e; rfl))⟩
def taken (L : List Int) : List ET := (allE L 16).filter tk
theorem read_size (w : World) (a : Option Addr) (n c : Nat) (h : n ≠ 512) : Calls Tryd.prog 13 #[.slice a n c] w fun e w' => e = .returned (.tuple #[.slice none 0 0, .int .i64 32]) ∧ w = w' := by
  go_enter Tryd.func13, Tryd.ntmps13
  go_wp2_with (first
    | (go_at_call 29; refine (entries_size _ _ _ _ h).mono ?_; rintro e w' ⟨rfl, rfl⟩)
    | (go_at_call 30; refine (delete_nil _).mono ?_; rintro e w' ⟨rfl, rfl⟩))
  go_ret2
  exact ⟨rfl, rfl⟩
set_option maxHeartbeats 1000000 in
theorem read_any (w : World) (g o c : Nat) (L : List Int) (hn : L.length = 512) (hO : Bytes w (some ⟨g, o, none⟩) L) (hc : 512 ≤ c) (hT : TabAt w) :
    Calls Tryd.prog 13 #[.slice (some ⟨g, o, none⟩) 512 c] w fun e w' => Below w.heap.size w w' ∧ (((∀ k, k < 16 → rt L k = true) ∧ ∃ b cap, e = .returned (.tuple #[.slice (some ⟨b, 0, none⟩) (taken L).length cap, .int .i64 0]) ∧ w.heap.size ≤ b ∧ OwnE w' b cap (taken L)) ∨ ((∃ k, k < 16 ∧ rt L k = false) ∧ e = .returned (.tuple #[.slice none 0 0, .int .i64 140]))) := by
  have HE := entries_any w g o c L hn hO hc hT
  clear hO hT hn hc
  go_enter Tryd.func13, Tryd.ntmps13
  go_wp2_with (first
    | (go_at_call 29; refine HE.mono ?_; rintro e w' ⟨hb, h⟩; have HB : Hid _ := hb; clear hb; rcases h with ⟨hr, b, cap, rfl, hlt, ho⟩ | ⟨hr, rfl⟩; have HR : Hid _ := hr; clear hr; have HL : Hid (w.heap.size ≤ b) := hlt; clear hlt; have HO : Hid (OwnE w' b cap (allE L 16)) := ho; clear ho)
    | (go_at_call 30; have hh := HO.out; clear hh; refine (delete_free _ _ _ _ HO.out (allE_len L 16)).mono ?_; rintro e w2 ⟨rfl, h1, h2⟩; have H1 : Hid (OwnE w2 b cap (taken L)) := h1; have H2 : Hid _ := h2; clear h1 h2)
    | (go_at_call 30; refine (delete_nil _).mono ?_; rintro e w' ⟨rfl, rfl⟩))
  · go_ret2
    refine ⟨HB.out.trans (H2.out.below _ (fun k hk => by rw [hk]; exact HL.out) HB.out.size), .inl ⟨HR.out, b, cap, rfl, HL.out, H1.out⟩⟩
  · go_ret2
    exact ⟨HB.out, .inr ⟨hr, rfl⟩⟩
theorem low_size (w : World) (a : Option Addr) (n c : Nat) (h : n ≠ 512) : Calls Tryd.prog 14 #[.slice a n c] w fun e w' => e = .returned (.tuple #[.int .i64 0, .int .i64 32]) ∧ w = w' := by
  go_enter Tryd.func14, Tryd.ntmps14
  go_wp2_with (first
    | (go_at_call 29; refine (entries_size _ _ _ _ h).mono ?_; rintro e w' ⟨rfl, rfl⟩))
  go_ret2
  exact ⟨rfl, rfl⟩
set_option maxHeartbeats 1000000 in
theorem low_any (w : World) (g o c : Nat) (L : List Int) (hn : L.length = 512) (hO : Bytes w (some ⟨g, o, none⟩) L) (hc : 512 ≤ c) (hT : TabAt w) :
    Calls Tryd.prog 14 #[.slice (some ⟨g, o, none⟩) 512 c] w fun e w' => Below w.heap.size w w' ∧ (((∀ k, k < 16 → rt L k = true) ∧ e = .returned (.tuple #[.int .i64 (fi (allE L 16)), .int .i64 0])) ∨ ((∃ k, k < 16 ∧ rt L k = false) ∧ e = .returned (.tuple #[.int .i64 0, .int .i64 140]))) := by
  have HE := entries_any w g o c L hn hO hc hT
  clear hO hT hn hc
  go_enter Tryd.func14, Tryd.ntmps14
  go_wp2_with (first
    | (go_at_call 29; refine HE.mono ?_; rintro e w' ⟨hb, h⟩; have HB : Hid _ := hb; clear hb; rcases h with ⟨hr, b, cap, rfl, hlt, ho⟩ | ⟨hr, rfl⟩; have HR : Hid _ := hr; clear hr)
    | (go_at_call 32; refine (index_free _ _ _ _ ho (allE_len L 16)).mono ?_; rintro e w2 ⟨rfl, h2⟩; have H2 : Hid _ := h2; clear h2))
  · go_ret2
    exact ⟨HB.out.trans (H2.out.mono HB.out.size), .inl ⟨HR.out, rfl⟩⟩
  · go_ret2
    exact ⟨HB.out, .inr ⟨hr, rfl⟩⟩
theorem put_size (w : World) (a : Option Addr) (n c : Nat) (p : Int) (s : ByteArray) (i : Int) (h : n ≠ 512) : Calls Tryd.prog 10 #[.slice a n c, eV p s i] w fun e w' => e = .returned (.int .i64 32) ∧ Below w.heap.size w w' := by
  go_enter Tryd.func10, Tryd.ntmps10
  go_wp2_with (first
    | (go_at_call 23; refine (isBlock_no _ _ _ _ h).mono ?_; rintro e w' ⟨rfl, rfl⟩))
  go_ret
  exact ⟨rfl, (Below.refl _ _).alloc (Nat.le_refl _) _⟩
set_option maxHeartbeats 1000000 in
theorem put_no (w : World) (a : Option Addr) (c : Nat) (p : Int) (s : ByteArray) (i : Int) (hs : s.size ≤ 9223372036854775807) (h : mst p s i = false) : Calls Tryd.prog 10 #[.slice a 512 c, eV p s i] w fun e w' => e = .returned (.int .i64 140) ∧ Below w.heap.size w w' := by
  have HM : Hid (∀ wx, Calls Tryd.prog 24 #[eV p s i] wx fun e w' => e = .returned (.bool false) ∧ Below wx.heap.size wx w') := fun wx => by
    have := mayStand_any wx p s i hs
    rw [h] at this; exact this
  clear h
  go_enter Tryd.func10, Tryd.ntmps10
  go_wp2_with (first
    | (go_at_call 23; refine (isBlock_yes _ _ _).mono ?_; rintro e w' ⟨rfl, rfl⟩)
    | (go_at_call 24; refine (HM.out _).mono ?_; rintro e w' ⟨rfl, hb⟩; have HB : Hid _ := hb; clear hb))
  go_ret
  exact ⟨rfl, ((Below.refl _ _).alloc (Nat.le_refl _) _).trans (HB.out.mono (by simp))⟩
theorem clr_size (w : World) (a : Option Addr) (n c : Nat) (p : Int) (h : n ≠ 512) : Calls Tryd.prog 12 #[.slice a n c, .int .i64 p] w fun e w' => e = .returned (.int .i64 32) ∧ w = w' := by
  go_enter Tryd.func12, Tryd.ntmps12
  go_wp2_with (first
    | (go_at_call 23; refine (isBlock_no _ _ _ _ h).mono ?_; rintro e w' ⟨rfl, rfl⟩))
  go_ret
  exact ⟨rfl, rfl⟩
theorem clr_no (w : World) (a : Option Addr) (c : Nat) (p : Int) (h : plc p = false) : Calls Tryd.prog 12 #[.slice a 512 c, .int .i64 p] w fun e w' => e = .returned (.int .i64 140) ∧ w = w' := by
  go_enter Tryd.func12, Tryd.ntmps12
  go_wp2_with (first
    | (go_at_call 23; refine (isBlock_yes _ _ _).mono ?_; rintro e w' ⟨rfl, rfl⟩)
    | (go_at_call 28; refine (isPlace_any _ _).mono ?_; rw [h]; rintro e w' ⟨rfl, rfl⟩))
  go_ret
  exact ⟨rfl, rfl⟩
theorem clr_ok (w : World) (g cap c : Nat) (L : List Int) (k : Nat) (hk : k < 16) (hO : OwnB w g cap L) (hn : 512 ≤ L.length) (hc : 512 ≤ c) :
    Calls Tryd.prog 12 #[.slice (some ⟨g, 0, none⟩) 512 c, .int .i64 k] w fun e w' => e = .returned (.int .i64 0) ∧ OwnB w' g cap (ov L (32 * k) 32 (fun _ => 0)) ∧ w.grownBy w' (some g) := by
  have hp : plc k = true := by simp [plc]; omega
  obtain ⟨w2, hr2, ho2, hg2⟩ := clear_run (off := 32 * k) (B := 32 * k) (k := 32) (c := 32) 0 hO (by omega) (by omega)
  have H2 : Hid (OwnB w2 g cap (ov L (32 * k) 32 (fun _ => 0)) ∧ w.grownBy w2 (some g)) := ⟨ho2, hg2⟩
  clear ho2 hg2 hO
  go_enter Tryd.func12, Tryd.ntmps12
  go_wp2_with (first
    | (go_at_call 23; refine (isBlock_yes _ _ _).mono ?_; rintro e w' ⟨rfl, rfl⟩)
    | (go_at_call 28; refine (isPlace_any _ _).mono ?_; rw [hp]; rintro e w' ⟨rfl, rfl⟩)
    | (go_at_call 25; refine (cut_any _ _ _ _ _ hk hc).mono ?_; rw [Nat.zero_add]; rintro e w' ⟨rfl, rfl⟩))
  go_ret
  exact ⟨rfl, H2.out⟩
set_option maxHeartbeats 2000000 in
theorem sput_ok (w : World) (g cap c : Nat) (L : List Int) (k : Nat) (e : Ent) (hk : k < 16) (hO : OwnB w g cap L) (hn : 512 ≤ L.length) (hc : 512 ≤ c) (hT : TabAt w) (hg0 : g ≠ 0) (he : Sc.good e) :
    Calls Tryd.prog 10 #[.slice (some ⟨g, 0, none⟩) 512 c, eV k e.nm e.ino] w fun r w' => r = .returned (.int .i64 0) ∧ OwnB w' g cap (ov L (32 * k) 32 (cb e)) ∧ w.grownBy w' (some g) := by
  obtain ⟨n1, n2, n3⟩ := name_ne he.1
  have HE : Hid (ov (ov (ov L (32 * k) 4 (dig e.ino)) (32 * k + 4) 1 (dig (e.nm.size : Int))) (32 * k + 5) 27 (nth (sb e.nm)) = ov L (32 * k) 32 (cb e)) := cb_put L k he
  have hm : mst k e.nm e.ino = true := by
    simp [mst, plc, he.1, he.2.1, he.2.2]; omega
  obtain ⟨s, i⟩ := e
  have hi1 : 1 ≤ i := he.2.1
  have hi2 : i ≤ 4294967295 := he.2.2
  have hsz : s.size ≤ 27 := n2
  have hgl := hO.lt
  have HM : Hid (∀ wx, Below w.heap.size w wx → Calls Tryd.prog 24 #[eV k s i] wx fun e w' => e = .returned (.bool true) ∧ Below w.heap.size w w' ∧ (∀ p v, wx.cell? p = some v → w'.cell? p = some v)) := fun wx hb => by
    have := mayStand_any wx k s i (by omega)
    rw [hm] at this
    exact this.mono (fun e w' h => ⟨h.1, hb.trans (h.2.mono hb.size), fun p v hv => (h.2.cell (block_lt_of_cell hv)).trans hv⟩)
  have H1 : Hid (∀ wx, Below w.heap.size w wx → Calls Tryd.prog 26 #[.slice (some ⟨g, 32 * k, none⟩) 32 32, .int .i64 0, .int .i64 4, .int .u64 i] wx fun e w' => e = .returned (.int .i64 0) ∧ (w.grownBy w' (some g) ∧ OwnB w' g cap (ov L (32 * k) 4 (dig i))) ∧ wx.grownBy w' (some g)) := fun wx hb => by
    refine (put_off wx g cap (32 * k) 32 32 0 4 i L (hO.on hb) (by omega) (by omega) (hT.on hb) (by omega) rfl (by simp [has]; omega) (by omega)).mono ?_
    rintro e w' ⟨rfl, h1, h2⟩
    exact ⟨rfl, ⟨grown_trans (grown_of hb _) h2, h1⟩, h2⟩
  have H2 : Hid (∀ wx, (w.grownBy wx (some g) ∧ OwnB wx g cap (ov L (32 * k) 4 (dig i))) → Calls Tryd.prog 26 #[.slice (some ⟨g, 32 * k, none⟩) 32 32, .int .i64 4, .int .i64 1, .int .u64 (s.size : Int)] wx fun e w' => e = .returned (.int .i64 0) ∧ (w.grownBy w' (some g) ∧ OwnB w' g cap (ov (ov L (32 * k) 4 (dig i)) (32 * k + 4) 1 (dig (s.size : Int)))) ∧ wx.grownBy w' (some g)) := fun wx hb => by
    refine (put_off wx g cap (32 * k) 32 32 4 1 s.size _ hb.2 (by rw [ov_length]; omega) (by omega) (hT.grown1 hb.1 hg0) (by omega) rfl (by simp [has]; omega) (by omega)).mono ?_
    rintro e w' ⟨rfl, h1, h2⟩
    exact ⟨rfl, ⟨grown_trans hb.1 h2, h1⟩, h2⟩
  have H3 : Hid (∀ wx, (w.grownBy wx (some g) ∧ OwnB wx g cap (ov (ov L (32 * k) 4 (dig i)) (32 * k + 4) 1 (dig (s.size : Int)))) → Calls Tryd.prog 27 #[.slice (some ⟨g, 32 * k, none⟩) 32 32, .int .i64 5, .int .i64 27, .string s] wx fun e w' => e = .returned (.int .i64 0) ∧ w.grownBy w' (some g) ∧ OwnB w' g cap (ov L (32 * k) 32 (cb ⟨s, i⟩))) := fun wx hb => by
    refine (ptx_off wx g cap (32 * k) s _ hb.2 (by rw [ov_length, ov_length]; omega) n2 (fun ⟨j, h1, h2⟩ => n3 j h1 h2)).mono ?_
    rintro e w' ⟨rfl, h1, h2⟩
    rw [HE.out] at h1
    exact ⟨rfl, grown_trans hb.1 h2, h1⟩
  clear hO hT HE he n1 n2 n3 hm
  go_enter Tryd.func10, Tryd.ntmps10
  go_wp2_with (first
    | (go_at_call 23; refine (isBlock_yes _ _ _).mono ?_; rintro e w' ⟨rfl, rfl⟩)
    | (go_at_call 24; refine (HM.out _ ?_).mono ?_; (· exact (Below.refl _ _).alloc (Nat.le_refl _) _); rintro e w1 ⟨rfl, hb, hcl⟩; have HB : Hid (Below w.heap.size w w1) := hb; clear hb; have c0 : w1.cell? ⟨w.heap.size, 0, none⟩ = some (.int .i64 k) := hcl _ _ (cell_of_row _ _ 0 _ _ _ (heap_alloc_new _ _)); have c1 : w1.cell? ⟨w.heap.size, 1, none⟩ = some (.string s) := hcl _ _ (cell_of_row _ _ 1 _ _ _ (heap_alloc_new _ _)); have c2 : w1.cell? ⟨w.heap.size, 2, none⟩ = some (.int .i64 i) := hcl _ _ (cell_of_row _ _ 2 _ _ _ (heap_alloc_new _ _)); clear hcl)
    | (go_at_call 25; refine (cut_any _ _ _ _ _ hk hc).mono ?_; rw [Nat.zero_add]; rintro e w' ⟨rfl, rfl⟩)
    | (go_at_call 26; have hh := HP2.out; clear hh; refine (H2.out _ HP2.out).mono ?_; rintro e w3 ⟨rfl, h3, hg3⟩; have HP3 : Hid _ := h3; clear h3; have e1 := hg3.cell d1 (by simp; omega); clear hg3)
    | (go_at_call 26; refine (H1.out _ HB.out).mono ?_; rintro e w2 ⟨rfl, h2, hg2⟩; have HP2 : Hid _ := h2; clear h2; have d1 := hg2.cell c1 (by simp; omega); clear hg2)
    | (go_at_call 27; refine (H3.out _ HP3.out).mono ?_; rintro e w4 ⟨rfl, h4, h5⟩; have HP4 : Hid _ := h4; have HP5 : Hid _ := h5; clear h4 h5))
  go_ret
  exact ⟨rfl, HP5.out, HP4.out⟩
end Go.Proofs.YtaaeahpmnfifiaaDoor
