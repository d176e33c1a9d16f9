import Derived.Test.YtpheajiepnjhdaaDoorRoomL
namespace Go.Proofs.YtpheajiepnjhdaaDoor
open Go.RowKit Rec

set_option maxRecDepth 100000 in
set_option maxHeartbeats 4000000 in
theorem room_nil (w : World) (a : Option Addr) (dc : Nat) :
    Calls Tryd.prog 14 #[.slice a 0 dc] w fun e w' => ∃ p gD cD sF vs fs gm, e = .returned (.pointer (some ⟨p, 0, none⟩)) ∧ RoomEnd w.heap.size w' p [] 0 gD cD sF vs fs gm ∧ Below w.heap.size w w' := by
  obtain ⟨ds, hds⟩ : ∃ ds : List (List Int), ds = [] := ⟨_, rfl⟩
  rw [← hds]
  clear hds
  have HAl : Hid (∀ (w : World) (o : Obj), Below w.heap.size w (w.alloc o)) := fun w o => (Below.refl _ _).alloc (Nat.le_refl _) _
  go_enter Tryd.func14, Tryd.ntmps14
  go_wp2
  have HR0 : Hid (RoomAt w.heap.size (w.alloc (.cells #[.slice none 0 0, .slice none 0 0] 94)) w.heap.size ds 0 (.slice none 0 0) (.slice none 0 0) [] [] ∧ Below w.heap.size w (w.alloc (.cells #[.slice none 0 0, .slice none 0 0] 94))) := ⟨⟨heap_alloc_new _ _, ⟨rfl, .inl ⟨rfl, rfl⟩⟩, ⟨rfl, .inl ⟨rfl, rfl⟩⟩, fun i hi => absurd hi (by omega), (fun k e => by cases e), (fun k e => by cases e), (fun k e => by cases e)⟩, HAl.out w _⟩
  go_loopw [11] (fun s11 wr => ∃ (j : Nat) (sD sF : Value) (vs fs : List Value), j ≤ 0 ∧ s11 = .int .i64 j ∧ RoomAt w.heap.size wr w.heap.size ds j sD sF vs fs ∧ Below w.heap.size w wr) (fun s11 _ => 0 - (intOf s11).toNat)
  case atStart => exact ⟨0, _, _, [], [], Nat.zero_le _, rfl, HR0.out.1, HR0.out.2⟩
  case round =>
    obtain ⟨j, sD, sF, vs, fs, hj, rfl, hr, hb⟩ := hrel
    have HR : Hid (RoomAt w.heap.size wr w.heap.size ds j sD sF vs fs ∧ Below w.heap.size w wr) := ⟨hr, hb⟩
    clear hr hb
    obtain rfl : j = 0 := by omega
    obtain ⟨q0, q1, q2⟩ := HR.out.1.cells
    have hcv := conv_text wr #[.int .u8 109, .int .u8 97, .int .u8 114, .int .u8 107] 4 rfl
    have q0b : (wr.alloc (.cells #[.int .u8 109, .int .u8 97, .int .u8 114, .int .u8 107] 5 (4, 5))).cell? ⟨w.heap.size, 0, none⟩ = some sD := ((HAl.out wr _).cell (block_lt_of_cell q0)).trans q0
    have HW1 : Hid (∃ w1, w1 = wr.alloc (.cells #[.int .u8 109, .int .u8 97, .int .u8 114, .int .u8 107] 5 (4, 5))) := ⟨_, rfl⟩
    obtain ⟨w1, hw1⟩ := HW1.out
    have HR1 : Hid (RoomAt w.heap.size w1 w.heap.size ds 0 sD sF vs fs ∧ Below w.heap.size w w1 ∧ Bytes w1 (some ⟨wr.heap.size, 0, none⟩) [109, 97, 114, 107] ∧ ¬ sD.ownBlock = some wr.heap.size ∧ wr.heap.size ≠ w.heap.size) := by
      rw [hw1]
      refine ⟨HR.out.1.on (HAl.out wr _), HR.out.2.trans ((HAl.out wr _).mono HR.out.2.size), ⟨by simp, wf4 (by omega) (by omega) (by omega) (by omega), .inr ⟨_, _, rfl, fun i hi => ?_⟩⟩, fun e => ?_, ?_⟩
      · rw [cell_of_row _ _ _ _ _ _ (heap_alloc_new _ _)]
        have : i = 0 ∨ i = 1 ∨ i = 2 ∨ i = 3 := by simp at hi; omega
        rcases this with rfl | rfl | rfl | rfl <;> rfl
      · exact absurd (owns_block HR.out.1.dat e) (by omega)
      · have := heap_lt HR.out.1.row; omega
    rw [← hw1] at hcv q0b
    clear hw1 HW1
    have HRz : Hid (∀ g cap w', w'.ownsRow 0 23 1 (.slice (some ⟨g, 0, none⟩) (0 + 1) cap) (0 + 1) (vs ++ [.slice (some ⟨wr.heap.size, 0, none⟩) 4 4]) → Fr (fun k => sD.ownBlock = some k) (w1.alloc (.cells #[.slice (some ⟨wr.heap.size, 0, none⟩) 4 4] 23)) w' → RoomEnd w.heap.size (w'.setCell ⟨w.heap.size, 0, none⟩ (.slice (some ⟨g, 0, none⟩) (0 + 1) cap)) w.heap.size ds 0 g cap sF vs fs wr.heap.size ∧ Below w.heap.size w (w'.setCell ⟨w.heap.size, 0, none⟩ (.slice (some ⟨g, 0, none⟩) (0 + 1) cap)) ∧ w'.cell? ⟨w.heap.size, 0, none⟩ = some sD ∧ w'.frozen? ⟨w.heap.size, 0, none⟩ = false) := by
      intro g cap w' h1 h2
      have hA := HAl.out w1 (.cells #[.slice (some ⟨wr.heap.size, 0, none⟩) 4 4] 23)
      have hr := HR1.out.1.on hA
      have hb := HR1.out.2.1.trans (hA.mono HR1.out.2.1.size)
      have hrow : w'.heap[w.heap.size]? = some (.cells #[sD, sF] 94 (0, 0)) := h2.heap hr.row (own_apartR hr.dat hr.row (by decide))
      have hb2 := hb.trans (h2.below w.heap.size hr.farD hb.size)
      exact ⟨hr.fin (HR1.out.2.2.1.on hA) HR1.out.2.2.2.1 HR1.out.2.2.2.2 h1 h2, hb2.trans (Fr.below Fr.set _ (fun k hk => by rw [hk]; exact Nat.le_refl _) hb2.size), by rw [cell_of_row _ _ _ _ _ _ hrow]; rfl, frozen_of_row _ _ _ _ _ hrow⟩
    go_wp2_with (at_builtin; refine wp_sown rfl (.tmp 48) (.tmp 51) rfl sD 0 vs rfl (owns_on HR1.out.1.dat (HAl.out w1 _)) ⟨w1.heap.size, 0, none⟩ 1 1 [.slice (some ⟨wr.heap.size, 0, none⟩) 4 4] rfl (by omega) rfl (news1 w1 _) (fun u hu => by simp at hu; subst hu; rfl) (by omega) ?_; intro g3 cap3 w3 ho hf hg; obtain ⟨x1, x2, x3, x4⟩ := HRz.out g3 cap3 w3 ho hf; have H3 : Hid (RoomEnd w.heap.size (w3.setCell ⟨w.heap.size, 0, none⟩ (.slice (some ⟨g3, 0, none⟩) (0 + 1) cap3)) w.heap.size ds 0 g3 cap3 sF vs fs wr.heap.size ∧ Below w.heap.size w (w3.setCell ⟨w.heap.size, 0, none⟩ (.slice (some ⟨g3, 0, none⟩) (0 + 1) cap3))) := ⟨x1, x2⟩; clear ho hf hg x1 x2)
    go_ret
    exact ⟨w.heap.size, g3, cap3, sF, vs, fs, wr.heap.size, rfl, H3.out.1, H3.out.2⟩
/-- a room of any blocks -/
theorem room_any (w : World) (a : Option Addr) (m dc : Nat) (ds : List (List Int)) (hm : ds.length = m) (hD : Data w a ds) (hS : Small ds) (hm9 : m ≤ 5864062014634) :
    Calls Tryd.prog 14 #[.slice a m dc] w fun e w' => ∃ p gD cD sF vs fs gm, e = .returned (.pointer (some ⟨p, 0, none⟩)) ∧ RoomEnd w.heap.size w' p ds m gD cD sF vs fs gm ∧ Below w.heap.size w w' := by
  by_cases h0 : m = 0
  · subst h0
    have := List.eq_nil_of_length_eq_zero hm
    subst this
    exact room_nil w a dc
  · obtain ⟨db, doff, rfl⟩ := hD.some (by omega)
    exact room_loop w db doff m dc ds hm hD hS (by omega) hm9
end Go.Proofs.YtpheajiepnjhdaaDoor
