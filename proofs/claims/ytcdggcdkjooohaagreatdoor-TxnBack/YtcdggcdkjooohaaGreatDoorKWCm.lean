import Derived.Test.YtcdggcdkjooohaaGreatDoorWSf
namespace Go.Proofs.YtcdggcdkjooohaaGreatDoor
open Go.RowKit Rec

theorem take_append (a : AD) (xs ys : List WA) : (a.takeE xs = 0 → a.take (xs ++ ys) = (a.take xs).take ys ∧ a.takeE (xs ++ ys) = (a.take xs).takeE ys) ∧ (a.takeE xs ≠ 0 → a.take (xs ++ ys) = a.take xs ∧ a.takeE (xs ++ ys) = a.takeE xs) := by
  induction xs generalizing a with
  | nil => exact ⟨fun _ => ⟨rfl, rfl⟩, fun h => absurd rfl h⟩
  | cons t xs ih =>
    simp only [List.cons_append, AD.take, AD.takeE]
    cases hd : a.down with
    | true => simp
    | false =>
      by_cases h1 : a.at_ = 1
      · simp [h1]
      · simp only [Bool.false_eq_true, if_false, if_neg h1]
        exact ih (a.act t)
theorem takeE_vals (a : AD) (xs : List WA) : a.takeE xs = 0 ∨ a.takeE xs = 30 := by
  induction xs generalizing a with
  | nil => exact .inl rfl
  | cons t xs ih =>
    rw [AD.takeE]
    split
    · exact .inr rfl
    · split
      · exact .inr rfl
      · exact ih _
/-- there is room for so many steps -/
structure RoomN (a : AD) (n : Nat) : Prop where
  p : a.P.length + n ≤ 4294967296
  t : a.T.length + n ≤ 4294967296
  w : a.wr + n ≤ 4294967296
  f : a.fl + n ≤ 4294967296
  k : a.keep.length ≤ 9223372036854775807
theorem RoomN.room {a : AD} {n : Nat} (h : RoomN a (n + 1)) : RoomD a := ⟨by have := h.p; omega, by have := h.t; omega, by have := h.w; omega, by have := h.f; omega, h.k⟩
theorem RoomN.le {a : AD} {n m : Nat} (h : RoomN a n) (hm : m ≤ n) : RoomN a m := ⟨by have := h.p; omega, by have := h.t; omega, by have := h.w; omega, by have := h.f; omega, h.k⟩
/-- what the step at which the power goes does -/
def AD.lastA (a : AD) : WA → AD
  | none => ({ a with fl := a.fl + 1 } : AD).cutW (kpOf a.keep)
  | some p => (a.wrs [p]).cutW (kpOf a.keep)
theorem take_one (a : AD) (t : WA) (h : a.at_ = 1) : a.act t = a.lastA t ∧ True := by
  refine ⟨?_, trivial⟩
  cases t with
  | none =>
    show a.flush = _
    unfold AD.flush
    rw [if_pos h]
    unfold AD.cut
    rw [AD.settle_fw]; rfl
  | some p =>
    show a.write p.1 p.2 = _
    unfold AD.write
    rw [if_pos h]
    unfold AD.cut
    rw [AD.settle_fw]
    rfl
theorem RoomN.act {a : AD} {n : Nat} (h : RoomN a (n + 1)) (t : WA) : RoomN (a.act t) n := by
  have h1 := h.p
  have h2 := h.t
  have h3 := h.w
  have h4 := h.f
  have h5 := h.k
  cases t with
  | none =>
    by_cases c : a.at_ = 1
    · have e : a.act none = (({ a with fl := a.fl + 1 } : AD).cutW (kpOf a.keep)) := (take_one a none c).1
      rw [e]
      exact ⟨by show 0 + n ≤ _; omega, by show a.T.length + n ≤ _; omega, by show a.wr + n ≤ _; omega, by show a.fl + 1 + n ≤ _; omega, h5⟩
    · rw [show a.act none = a.fls from flush_un a c]
      exact ⟨by show 0 + n ≤ _; omega, by show (a.T ++ [actT none]).length + n ≤ _; rw [List.length_append]; simp; omega, by show a.wr + n ≤ _; omega, by show a.fl + 1 + n ≤ _; omega, h5⟩
  | some p =>
    by_cases c : a.at_ = 1
    · have e : a.act (some p) = (a.wrs [p]).cutW (kpOf a.keep) := (take_one a (some p) c).1
      rw [e]
      exact ⟨by show 0 + n ≤ _; omega, by show (a.T ++ [actT (some p)]).length + n ≤ _; rw [List.length_append]; simp; omega, by show a.wr + 1 + n ≤ _; omega, by show a.fl + n ≤ _; omega, h5⟩
    · rw [show a.act (some p) = a.wrs [p] from write_un a _ _ c]
      exact ⟨by show (a.P ++ [p]).length + n ≤ _; rw [List.length_append]; simp; omega, by show (a.T ++ [actT (some p)]).length + n ≤ _; rw [List.length_append]; simp; omega, by show a.wr + 1 + n ≤ _; omega, by show a.fl + n ≤ _; omega, h5⟩
theorem RoomN.take {n : Nat} (xs : List WA) : ∀ {a : AD}, RoomN a (xs.length + n) → RoomN (a.take xs) n := by
  induction xs with
  | nil => intro a h; exact h.le (by omega)
  | cons t xs ih =>
    intro a h
    have h' : RoomN a ((xs.length + n) + 1) := h.le (by simp; omega)
    rw [AD.take]
    split
    · exact h.le (by omega)
    · split
      · exact (h'.act t).le (by omega)
      · exact ih (h'.act t)
theorem act_nb (a : AD) (t : WA) : (a.act t).nb = a.nb := by
  by_cases c : a.at_ = 1
  · rw [(take_one a t c).1]; cases t <;> rfl
  · cases t with
    | none => rw [show a.act none = a.fls from flush_un a c]; rfl
    | some p => rw [show a.act (some p) = a.wrs [p] from write_un a _ _ c]; rfl
end Go.Proofs.YtcdggcdkjooohaaGreatDoor

namespace Go.Proofs.YtcdggcdkjooohaaGreatDoor
open Go.RowKit Rec

theorem al_refl (n : Nat) (D : Dk) : Al n D D := fun _ hk => .inl hk
theorem take_single (a : AD) (t : WA) (hd : a.down = false) : a.takeE [t] = a.stepE ∧ a.take [t] = a.act t := by
  unfold AD.stepE
  rw [AD.takeE, AD.take, hd]
  simp only [Bool.false_eq_true, if_false]
  split
  · exact ⟨rfl, rfl⟩
  · exact ⟨rfl, rfl⟩
theorem take_down (a : AD) (t : WA) (xs : List WA) (hd : a.down = true) : a.takeE (t :: xs) = 30 ∧ a.take (t :: xs) = a := by
  rw [AD.takeE, AD.take, hd]; exact ⟨rfl, rfl⟩
theorem Disk.all_lt {w : World} {D : Dk} (h : Disk w D) {k : Nat} (hk : D.all k) : k < w.heap.size := by
  rcases hk with hk | hk | ⟨p, hp, rfl⟩ | ⟨a, ha, hk⟩
  · exact h.hasLt hk
  · exact h.kel k hk
  · exact (h.penb p hp).2.2.1.lt
  · rcases h.tapb a ha with ⟨_, _, _, _, g, cap, e, ho, _⟩ | ⟨_, _, e, _⟩
    · rw [e] at hk; cases hk; exact ho.lt
    · rw [e] at hk; cases hk
theorem write_job (w : World) (D : Dk) (h : Disk w D) (i g c : Nat) (x : List Int) (hx : BlkAt w g x) (hg : ¬ D.has g) (hi : i < D.nb) (hr : RoomD D.abs) :
    Calls Tryz.prog 108 #[.pointer (some ⟨D.d, 0, none⟩), .int .i64 i, .slice (some ⟨g, 0, none⟩) 512 c] w fun e w' => e = .returned (.int .i64 (D.abs.takeE [some (i, x)])) ∧ ∃ D', Disk w' D' ∧ Mv w D w' D' ∧ Al w.heap.size D D' ∧ D'.abs = D.abs.take [some (i, x)] := by
  cases hd : D.down with
  | true =>
    have ht : touchE D i = 30 := by unfold touchE; rw [hd]; rfl
    obtain ⟨e1, e2⟩ := take_down D.abs (some (i, x)) [] hd
    rw [e1, e2]
    refine (write_no w D h i _ _ _ (by rw [ht]; decide)).mono ?_
    rintro e w' ⟨rfl, rfl⟩
    exact ⟨by rw [ht], D, h, Mv.refl _ _, al_refl _ _, rfl⟩
  | false =>
    obtain ⟨e1, e2⟩ := take_single D.abs (some (i, x)) hd
    rw [e1, e2]
    exact write_yes w D h i ⟨g, 0, none⟩ c x hi hd hx.bytes hx.len hr hg
theorem flush_job (w : World) (D : Dk) (h : Disk w D) (hr : RoomD D.abs) :
    Calls Tryz.prog 110 #[.pointer (some ⟨D.d, 0, none⟩)] w fun e w' => e = .returned (.int .i64 (D.abs.takeE [none])) ∧ ∃ D', Disk w' D' ∧ Mv w D w' D' ∧ Al w.heap.size D D' ∧ D'.abs = D.abs.take [none] := by
  cases hd : D.down with
  | true =>
    obtain ⟨e1, e2⟩ := take_down D.abs none [] hd
    rw [e1, e2]
    refine (flush_no w D h hd).mono ?_
    rintro e w' ⟨rfl, hb⟩
    exact ⟨rfl, D, h.on hb, mv_on _ _ _ hb, al_refl _ _, rfl⟩
  | false =>
    obtain ⟨e1, e2⟩ := take_single D.abs none hd
    rw [e1, e2]
    exact flush_yes w D h hd hr
set_option maxRecDepth 100000 in
set_option maxHeartbeats 1600000 in
theorem flush1_job (w : World) (D : Dk) (h : Disk w D) (p : Nat) (v : Value) (fs : List Value) (acts : List WA) (hs : StepsAt w D p v fs acts) (s : Nat) (hrow : w.heap[s]? = some (.cells #[.pointer (some ⟨p, 0, none⟩)] 130 (0, 0))) (hr : RoomD D.abs) :
    Calls Tryz.prog 109 #[.pointer (some ⟨s, 0, none⟩)] w fun e w' => e = .returned (.int .i64 (D.abs.takeE [none])) ∧ ∃ D', Disk w' D' ∧ Mv w D w' D' ∧ Al w.heap.size D D' ∧ D'.abs = D.abs.take [none] := by
  have HC : Hid (Calls Tryz.prog 110 #[.pointer (some ⟨D.d, 0, none⟩)] w fun e w' => e = .returned (.int .i64 (D.abs.takeE [none])) ∧ ∃ D', Disk w' D' ∧ Mv w D w' D' ∧ Al w.heap.size D D' ∧ D'.abs = D.abs.take [none]) := flush_job w D h hr
  obtain ⟨q0, q1, q2⟩ := hs.cells
  have q3 : w.cell? ⟨s, 0, none⟩ = some (.pointer (some ⟨p, 0, none⟩)) := by rw [cell_of_row _ _ _ _ _ _ hrow]; rfl
  clear h hs hrow hr q1 q2
  go_enter Tryz.func109, Tryz.ntmps109
  go_wp2_with (go_at_call 110; refine HC.out.mono ?_; rintro e w' ⟨rfl, hD⟩; have HD : Hid (∃ D', Disk w' D' ∧ Mv w D w' D' ∧ Al w.heap.size D D' ∧ D'.abs = D.abs.take [none]) := hD; clear hD)
  go_ret
  exact ⟨rfl, HD.out⟩
set_option maxRecDepth 100000 in
set_option maxHeartbeats 1600000 in
theorem write1_job (w : World) (D : Dk) (h : Disk w D) (p : Nat) (v : Value) (fs : List Value) (acts : List WA) (hs : StepsAt w D p v fs acts) (q : Nat × List Int) (s n b g c : Nat) (h1 : w.heap[s]? = some (.cells #[.pointer (some ⟨p, 0, none⟩)] 130 (0, 0))) (h2 : w.heap[n]? = some (.cells #[.int .i64 q.1] 3 (0, 0))) (h3 : w.heap[b]? = some (.cells #[.slice (some ⟨g, 0, none⟩) 512 c] 40 (0, 0))) (h4 : BlkAt w g q.2) (h5 : q.1 < D.nb) (h9 : ¬ D.has g) (hr : RoomD D.abs) :
    Calls Tryz.prog 107 #[.pointer (some ⟨s, 0, none⟩), .pointer (some ⟨n, 0, none⟩), .pointer (some ⟨b, 0, none⟩)] w fun e w' => e = .returned (.int .i64 (D.abs.takeE [some q])) ∧ ∃ D', Disk w' D' ∧ Mv w D w' D' ∧ Al w.heap.size D D' ∧ D'.abs = D.abs.take [some q] := by
  have hb : Below w.heap.size w w.drew := (Below.refl _ _).drew
  have HC : Hid (Calls Tryz.prog 108 #[.pointer (some ⟨D.d, 0, none⟩), .int .i64 q.1, .slice (some ⟨g, 0, none⟩) 512 c] w.drew fun e w' => e = .returned (.int .i64 (D.abs.takeE [some q])) ∧ ∃ D', Disk w' D' ∧ Mv w D w' D' ∧ Al w.heap.size D D' ∧ D'.abs = D.abs.take [some q]) := by
    refine (write_job w.drew D (h.on hb) q.1 g c q.2 (h4.on hb) h9 h5 hr).mono ?_
    rintro e w' ⟨rfl, D', hD, hm, ha, he⟩
    exact ⟨rfl, D', hD, (mv_on w w.drew D hb).trans hm, ha, he⟩
  obtain ⟨q0, q1, q2⟩ := hs.cells
  have q3 : w.cell? ⟨s, 0, none⟩ = some (.pointer (some ⟨p, 0, none⟩)) := by rw [cell_of_row _ _ _ _ _ _ h1]; rfl
  have q4 : w.cell? ⟨n, 0, none⟩ = some (.int .i64 q.1) := by rw [cell_of_row _ _ _ _ _ _ h2]; rfl
  have q5 : w.cell? ⟨b, 0, none⟩ = some (.slice (some ⟨g, 0, none⟩) 512 c) := by rw [cell_of_row _ _ _ _ _ _ h3]; rfl
  clear h hs h1 h2 h3 h4 h9 hr q1 q2 hb
  go_enter Tryz.func107, Tryz.ntmps107
  go_wp2
  go_region_law (go_simp; go_at_call 108; refine HC.out.mono ?_; rintro e w' ⟨rfl, hD⟩; have HD : Hid (∃ D', Disk w' D' ∧ Mv w D w' D' ∧ Al w.heap.size D D' ∧ D'.abs = D.abs.take [some q]) := hD; clear hD)
  all_goals
    go_wp2
    go_ret
    exact ⟨rfl, HD.out⟩
end Go.Proofs.YtcdggcdkjooohaaGreatDoor
