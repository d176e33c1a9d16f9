import Derived.Test.YtaaeahpmnfifiaaDoorSnD
namespace Go.Proofs.YtaaeahpmnfifiaaDoor
open Go.RowKit Rec Sc
/-- is a told cell free? -/
def fr (q : ET) : Bool := decide (q.2.2 = 0)
abbrev frF : Value := .func (.func 31) #[] #[]
/-- the first free one -/
def fi (xs : List ET) : Int := if xs.any fr then ((xs.findIdx fr : Nat) : Int) else -1
theorem fr_at {xs : List ET} {k : Nat} {q : ET} (hk : xs[k]? = some q) (hno : ∀ j q, j < k → xs[j]? = some q → fr q = false) (hq : fr q = true) : fi xs = k ∧ xs.any fr = true := by
  have hany : xs.any fr = true := List.any_eq_true.2 ⟨q, List.mem_of_getElem? hk, hq⟩
  have hlt : k < xs.length := (List.getElem?_eq_some_iff.1 hk).1
  refine ⟨?_, hany⟩
  rw [fi, if_pos hany]
  have : xs.findIdx fr = k := by
    rw [List.findIdx_eq hlt]
    refine ⟨?_, fun j hj => ?_⟩
    · have := (List.getElem?_eq_some_iff.1 hk).2; rw [this]; exact hq
    · exact hno j _ hj (List.getElem?_eq_getElem (by omega))
  rw [this]
theorem fr_no {xs : List ET} (hno : ∀ j q, j < xs.length → xs[j]? = some q → fr q = false) : fi xs = -1 ∧ xs.any fr = false := by
  have : xs.any fr = false := by
    rw [List.any_eq_false]
    intro q hq
    obtain ⟨j, hj⟩ := List.getElem?_of_mem hq
    rw [hno j q (List.getElem?_eq_some_iff.1 hj).1 hj]; decide
  exact ⟨by rw [fi, this]; rfl, this⟩
set_option maxHeartbeats 4000000 in
theorem index_free (w : World) (g cap : Nat) (xs : List ET) (hO : OwnE w g cap xs) (hn : xs.length = 16) :
    Calls Tryd.prog 32 #[.slice (some ⟨g, 0, none⟩) 16 cap, frF] w fun e w' => e = .returned (.int .i64 (fi xs)) ∧ Below w.heap.size w w' := by
  have HO : Hid (OwnE w g cap xs) := hO
  clear hO
  go_enter Tryd.func32, Tryd.ntmps32
  go_wp2
  go_loopw [8] (fun s8 wr => ∃ k : Nat, k ≤ 16 ∧ s8 = .int .i64 (k : Int) ∧ (∀ j q, j < k → xs[j]? = some q → fr q = false) ∧ Below w.heap.size w wr) (fun s8 _ => 16 - (intOf s8).toNat)
  case atStart => exact ⟨0, Nat.zero_le _, rfl, fun j q h => absurd h (by omega), Below.refl _ _⟩
  case round =>
    obtain ⟨k, hk, rfl, hno, hb⟩ := hrel
    have HN : Hid (∀ j q, j < k → xs[j]? = some q → fr q = false) := hno
    have HB : Hid (Below w.heap.size w wr) := hb
    clear hno hb
    by_cases hlt : k < 16
    · have hlt' : (k : Int) < 16 := by omega
      obtain ⟨q, hq⟩ : ∃ q, xs[k]? = some q := ⟨_, List.getElem?_eq_getElem (by omega)⟩
      obtain ⟨c0, c1, c2⟩ := (HO.out.on HB.out).cell hq
      have HX : Hid (xs[k]? = some q) := hq
      clear hq
      have HF : Hid (∀ wx, Calls Tryd.prog 31 #[eV q.1 q.2.1 q.2.2] wx fun e w' => e = .returned (.bool (fr q)) ∧ w' = wx.alloc (.cells #[.int .i64 q.1, .string q.2.1, .int .i64 q.2.2] 27 (0, 0))) := fun wx => isFree_any wx _ _ _
      cases hp : fr q with
      | true =>
        go_wp2_with (go_at_call 31; refine (HF.out _).mono ?_; rw [hp]; rintro e w' ⟨rfl, rfl⟩)
        go_ret
        refine ⟨?_, HB.out.alloc HB.out.size _⟩
        rw [(fr_at HX.out HN.out hp).1]; rfl
      | false =>
        go_wp2_with (go_at_call 31; refine (HF.out _).mono ?_; rw [hp]; rintro e w' ⟨rfl, rfl⟩)
        go_roundw
        case rel =>
          refine ⟨k + 1, by omega, by go_num, fun j q' hj hq' => ?_, HB.out.alloc HB.out.size _⟩
          by_cases e : j = k
          · subst e; rw [HX.out] at hq'; cases hq'; exact hp
          · exact HN.out j q' (by omega) hq'
        case measure => simp [intOf]; omega
    · have hlt' : ¬ (k : Int) < 16 := by omega
      obtain rfl : k = 16 := by omega
      go_wp2
      go_ret
      refine ⟨?_, HB.out⟩
      rw [(fr_no (by rw [hn]; exact HN.out)).1]; rfl
theorem index_nil (w : World) : Calls Tryd.prog 32 #[.slice none 0 0, frF] w fun e w' => e = .returned (.int .i64 (-1)) ∧ w = w' := by
  go_enter Tryd.func32, Tryd.ntmps32
  go_wp2
  go_loopw [8] (fun s8 wr => s8 = .int .i64 0 ∧ wr = w) (fun _ _ => 0)
  case atStart => exact ⟨rfl, rfl⟩
  case round =>
    obtain ⟨rfl, rfl⟩ := hrel
    go_wp2
    go_ret
    exact ⟨rfl, rfl⟩
theorem delete_nil (w : World) : Calls Tryd.prog 30 #[.slice none 0 0, frF] w fun e w' => e = .returned (.slice none 0 0) ∧ w = w' := by
  go_enter Tryd.func30, Tryd.ntmps30
  go_wp2_with (go_at_call 32; refine (index_nil _).mono ?_; rintro e w' ⟨rfl, rfl⟩)
  go_ret
  exact ⟨rfl, rfl⟩
end Go.Proofs.YtaaeahpmnfifiaaDoor
