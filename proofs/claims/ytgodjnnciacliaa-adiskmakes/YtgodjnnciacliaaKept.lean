import Derived.Test.YtgodjnnciacliaaLent
namespace Go.Proofs.Ytgodjnnciacliaa
open Go.RowKit Adk

set_option maxRecDepth 100000 in
set_option maxHeartbeats 1600000 in
theorem kept_any (w : World) (g cap n c : Nat) (a : Option Addr) (l : List Int) (hO : OwnB w g cap (l ++ [165])) (hb : Bytes w a l) (hl : l.length = n) (h47 : n ≤ 140737488351232) :
    Calls Try.prog 32 #[.slice (some ⟨g, 0, none⟩) (n + 1) cap, .slice a n c] w fun e w' => e = .returned (.bool true) ∧ Fr (fun k => k = g) w w' := by
  have hcap : n + 1 ≤ cap := by have := hO.room; rw [List.length_append, hl] at this; exact this
  have HO : Hid (OwnB w g cap (l ++ [165])) := hO
  have HL : Hid (l.length = n) := hl
  have HD : Hid (Below w.heap.size w w.drew) := (Below.refl _ w).drew
  have e1 : ∀ k, (convert 22 9 (.slice (some ⟨g, 0, none⟩) n k)).run Try.prog w.drew = .ok (.string (strOfNums l)) w.drew := fun k => by
    have z := (hO.on HD.out).bytes.take n
    have e : (l ++ [165]).take n = l := by rw [← hl]; exact List.take_left
    rw [e] at z
    exact str_opt z hl
  have e2 : (convert 22 9 (.slice a n c)).run Try.prog w.drew = .ok (.string (strOfNums l)) w.drew := str_opt (hb.on HD.out) hl
  have hc : w.cell? ⟨g, n, none⟩ = some (.int .u8 165) := by
    have z := hO.cell n (by rw [List.length_append, hl]; simp)
    rw [z]
    have : nth (l ++ [165]) n = 165 := by rw [nth_app, if_neg (by omega), hl, Nat.sub_self]; rfl
    rw [this]
  clear hO hb hl
  go_enter Try.func32, Try.ntmps32
  go_wp2
  go_region
  all_goals
    go_wp2
    go_loopw [6, 25, 26, 27, 28, 29, 30, 31, 32, 33, 34, 35, 36] (fun _ i _ _ _ _ _ _ _ _ _ _ _ wr => ∃ k : Nat, k ≤ n + 1 ∧ i = .int .i64 k ∧ Fr (fun k => k = g) w wr ∧ ∃ M : List Int, M.length = n + 1 ∧ OwnB wr g cap M) (fun _ i _ _ _ _ _ _ _ _ _ _ _ _ => n + 1 - (intOf i).toNat)
    case atStart => exact ⟨0, Nat.zero_le _, rfl, below_fr HD.out _, _, by rw [List.length_append, HL.out]; rfl, HO.out.on HD.out⟩
    case round =>
      obtain ⟨k, hk, rfl, hf, M, hM, hOM⟩ := hrel
      have HF : Hid (Fr (fun k => k = g) w wr) := hf
      have HM : Hid (M.length = n + 1 ∧ OwnB wr g cap M) := ⟨hM, hOM⟩
      clear hf hM hOM e1 e2 hc
      by_cases hlt : k < n + 1
      · have d := HM.out.2.cell k (by rw [HM.out.1]; exact hlt)
        have f := HM.out.2.frozen k
        have hw := HM.out.2.wf k
        generalize nth M k = y at *
        go_wp2
        exact ⟨⟨k + 1, hlt, rfl, HF.out.trans Fr.set (fun _ e => .inl e), _, by rw [List.length_set]; exact HM.out.1, HM.out.2.set k _ (by rw [HM.out.1]; exact hlt) (by omega)⟩, by simp [intOf]; omega⟩
      · go_wp2
        go_ret
        exact ⟨rfl, HF.out⟩
set_option maxRecDepth 100000 in
set_option maxHeartbeats 800000 in
theorem copied_any (w : World) (p : Addr) (n c : Nat) (l : List Int) (hb : Bytes w (some p) l) (hl : l.length = n) (h0 : 0 < n) (h47 : n ≤ 140737488351232) :
    Calls Try.prog 52 #[.slice (some p) n c] w fun e w' => ∃ g cap, e = .returned (.slice (some ⟨g, 0, none⟩) n cap) ∧ w.heap.size ≤ g ∧ OwnB w' g cap l ∧ Below w.heap.size w w' := by
  have HB : Hid (Bytes w (some p) l) := hb
  have HL : Hid (l.length = n) := hl
  clear hb hl
  go_enter Try.func52, Try.ntmps52
  go_wp2_with (at_builtin; refine wp_bown rfl (.tmp 4) (.tmp 5) rfl (.slice none 0 0) 0 [] rfl ⟨rfl, .inl ⟨rfl, rfl⟩⟩ p n c l rfl h0 HL.out HB.out (by omega) ?_; intro g cap w2 ho hf hg; have H2 : Hid (w.heap.size ≤ g ∧ OwnB w2 g cap l ∧ Below w.heap.size w w2) := ⟨hg.elim (fun e => by cases e) id, ownB_of (n := n) (by simpa using ho) HL.out (by omega) HB.out.wf, hf.below _ (fun j hj => by cases hj) (Nat.le_refl _)⟩; clear ho hf hg)
  go_ret
  exact ⟨_, _, by first | rfl | (rw [Nat.zero_add]; rfl), H2.out⟩
/-- the reference's disk, new -/
def RefAt (w : World) (r g cap nb : Nat) : Prop := w.heap[r]? = some (.cells #[.slice (some ⟨g, 0, none⟩) (512 * nb) cap, .slice none 0 0, .slice none 0 0, .int .i64 0, .bool false, .int .i64 0, .int .i64 0] 90 (0, 0))
set_option maxRecDepth 100000 in
set_option maxHeartbeats 800000 in
theorem of_no (w : World) (a : Option Addr) (n c : Nat) (hn : n ≤ 9223372036854775807) (h : n % 512 ≠ 0 ∨ isz ((n / 512 : Nat) : Int) = false) : Calls Try.prog 40 #[.slice a n c] w fun e w' => e = .returned (.tuple #[.pointer none, .int .i64 32]) ∧ w = w' := by
  by_cases h0 : n = 0
  · subst h0
    clear h
    go_enter Try.func40, Try.ntmps40
    go_wp2
    go_ret2
    exact ⟨rfl, rfl⟩
  · have h0' : ¬ (n : Int) = 0 := by omega
    by_cases hm : n % 512 = 0
    · have hs := h.resolve_left (fun x => x hm)
      have hbig : 16384 < (n : Int) / 512 := by
        unfold isz at hs
        simp at hs
        omega
      have hm' : (n : Int) % 512 = 0 := by omega
      clear h hs hm
      go_enter Try.func40, Try.ntmps40
      go_wp2
      go_ret2
      exact ⟨rfl, rfl⟩
    · have hm' : ¬ (n : Int) % 512 = 0 := by omega
      clear h
      go_enter Try.func40, Try.ntmps40
      go_wp2
      go_ret2
      exact ⟨rfl, rfl⟩
set_option maxRecDepth 100000 in
set_option maxHeartbeats 800000 in
theorem of_yes (w : World) (p : Addr) (c nb : Nat) (l : List Int) (hb : Bytes w (some p) l) (hn : l.length = 512 * nb) (h0 : 1 ≤ nb) (h1 : nb ≤ 16384) :
    Calls Try.prog 40 #[.slice (some p) (512 * nb : Nat) c] w fun e w' => ∃ r g cap, e = .returned (.tuple #[.pointer (some ⟨r, 0, none⟩), .int .i64 0]) ∧ w.heap.size ≤ r ∧ RefAt w' r g cap nb ∧ Below w.heap.size w w' := by
  have HI : Hid (Bytes w (some p) l) := hb
  have HN : Hid (l.length = 512 * nb) := hn
  clear hb hn
  have hz : ((512 * (nb : Int)) == 0) = false := by rw [beq_eq_false_iff_ne]; omega
  have hz2 : ¬ 512 * (nb : Int) = 0 := by omega
  go_enter Try.func40, Try.ntmps40
  go_wp2_with (go_at_call 52; refine (copied_any _ p (512 * nb) c l HI.out HN.out (by omega) (by omega)).mono ?_; rintro e w1 ⟨g, cap, rfl, hg, ho, hb⟩; have H1 : Hid (Below w.heap.size w w1) := hb; clear hg ho hb)
  go_ret2
  exact ⟨_, _, _, rfl, H1.out.size, heap_alloc_new w1 _, H1.out.alloc H1.out.size _⟩
set_option maxRecDepth 100000 in
set_option maxHeartbeats 800000 in
theorem rblocks_any (w : World) (r g cap nb : Nat) (h : RefAt w r g cap nb) (hnb : nb ≤ 16384) : Calls Try.prog 41 #[.pointer (some ⟨r, 0, none⟩)] w fun e w' => e = .returned (.int .i64 nb) ∧ w = w' := by
  have C0 : w.cell? ⟨r, 0, none⟩ = some (.slice (some ⟨g, 0, none⟩) (512 * nb) cap) := cell_of_row _ _ _ _ _ _ h
  clear h
  go_enter Try.func41, Try.ntmps41
  go_wp2
  go_ret
  exact ⟨rfl, rfl⟩
end Go.Proofs.Ytgodjnnciacliaa
