import Derived.Test.YtckldbhaaagncaaGreatDoorWSt
import Derived.Defers
import Derived.Recover
namespace Go.Proofs.YtckldbhaaagncaaGreatDoor
open Go.RowKit Rec

/-- what is given up with -/
abbrev gaveV (e : Int) : Value := .iface 25 (.int .i64 e)
abbrev gave (e : Int) : Ending := .panicked [{ v := gaveV e, recovered := false }]
set_option maxRecDepth 100000 in
theorem must_yes (w : World) (e : Int) : Calls Tryz.prog 56 #[.bool true, .int .i64 e] w fun r w' => r = .returned (.tuple #[]) ∧ w = w' := by
  go_enter Tryz.func56, Tryz.ntmps56
  go_wp2
  go_end0
  exact ⟨rfl, rfl⟩
set_option maxRecDepth 100000 in
theorem must_no (w : World) (e : Int) : Calls Tryz.prog 56 #[.bool false, .int .i64 e] w fun r w' => r = gave e ∧ w = w' := by
  go_enter Tryz.func56, Tryz.ntmps56
  go_wp2
  exact ⟨rfl, rfl, rfl⟩
set_option maxRecDepth 100000 in
set_option maxHeartbeats 1600000 in
theorem wread_yes (w : World) (D : Dk) (h : Disk w D) (i : Nat) (hi : i < D.nb) (hd : D.down = false) : Calls Tryz.prog 54 #[.pointer (some ⟨D.d, 0, none⟩), .int .i64 i] w fun e w' => ∃ g cap, e = .returned (.slice (some ⟨g, 0, none⟩) 512 cap) ∧ w.heap.size ≤ g ∧ OwnB w' g cap (bck D.full i) ∧ Below w.heap.size w w' := by
  have HR : Hid (Calls Tryz.prog 25 #[.pointer (some ⟨D.d, 0, none⟩), .int .i64 i] w fun e w' => ∃ g cap, e = .returned (.tuple #[.slice (some ⟨g, 0, none⟩) 512 cap, .int .i64 0]) ∧ w.heap.size ≤ g ∧ OwnB w' g cap (bck D.full i) ∧ Below w.heap.size w w') := read_yes w D h i hi hd
  clear h hi hd
  go_enter Tryz.func54, Tryz.ntmps54
  go_wp2_with (first
    | (go_at_call 25; refine HR.out.mono ?_; rintro e w1 ⟨g, cap, rfl, h1, h2, h3⟩; have H1 : Hid (w.heap.size ≤ g ∧ OwnB w1 g cap (bck D.full i) ∧ Below w.heap.size w w1) := ⟨h1, h2, h3⟩; clear h1 h2 h3)
    | (go_at_call 56; refine (must_yes _ _).mono ?_; rintro e w' ⟨rfl, rfl⟩))
  go_ret
  exact ⟨g, cap, rfl, H1.out⟩
set_option maxRecDepth 100000 in
set_option maxHeartbeats 1600000 in
theorem wread_no (w : World) (D : Dk) (h : Disk w D) (i : Int) (ht : touchE D i ≠ 0) : Calls Tryz.prog 54 #[.pointer (some ⟨D.d, 0, none⟩), .int .i64 i] w fun e w' => e = gave (touchE D i) ∧ w = w' := by
  have HR : Hid (Calls Tryz.prog 25 #[.pointer (some ⟨D.d, 0, none⟩), .int .i64 i] w fun e w' => e = .returned (.tuple #[.slice none 0 0, .int .i64 (touchE D i)]) ∧ w = w') := read_no w D h i ht
  have hn : (touchE D i == 0) = false := by simpa using ht
  clear h ht
  go_enter Tryz.func54, Tryz.ntmps54
  go_wp2_with (first
    | (go_at_call 25; refine HR.out.mono ?_; rintro e w1 ⟨rfl, rfl⟩)
    | (go_at_call 56; refine (must_no _ _).mono ?_; rintro e w' ⟨rfl, rfl⟩))
  exact ⟨rfl, rfl, rfl⟩
end Go.Proofs.YtckldbhaaagncaaGreatDoor

namespace Go.Proofs.YtckldbhaaagncaaGreatDoor
open Go.RowKit Rec

/-- a block that was read: where its bytes lie, its bytes -/
structure Rb where
  g : Nat
  c : Nat
  x : List Int
def Rb.v (q : Rb) : Value := .slice (some ⟨q.g, 0, none⟩) 512 q.c
/-- blocks that were read, from one on -/
structure ReadAt (w0 w : World) (F : List Int) (f k : Nat) (v : Value) (L : List Rb) : Prop where
  row : w.ownsRow 0 42 1 v k (L.map Rb.v)
  len : L.length = k
  at_ : ∀ (i : Nat) (q : Rb), L[i]? = some q → q.x = bck F (f + i) ∧ OwnB w q.g q.c q.x ∧ w0.heap.size ≤ q.g
  far : ∀ b, v.ownBlock = some b → w0.heap.size ≤ b
  bel : Below w0.heap.size w0 w
theorem ReadAt.on {w0 w w' : World} {F : List Int} {f k : Nat} {v : Value} {L : List Rb} (h : ReadAt w0 w F f k v L) (hb : Below w.heap.size w w') : ReadAt w0 w' F f k v L :=
  ⟨owns_on h.row hb, h.len, fun i q hq => ⟨(h.at_ i q hq).1, (h.at_ i q hq).2.1.on hb, (h.at_ i q hq).2.2⟩, h.far, h.bel.trans (hb.mono h.bel.size)⟩
theorem ReadAt.from {w0 w1 w : World} {F : List Int} {f k : Nat} {v : Value} {L : List Rb} (h : ReadAt w1 w F f k v L) (hb : Below w0.heap.size w0 w1) : ReadAt w0 w F f k v L :=
  ⟨h.row, h.len, fun i q hq => ⟨(h.at_ i q hq).1, (h.at_ i q hq).2.1, Nat.le_trans hb.size (h.at_ i q hq).2.2⟩, fun b hk => Nat.le_trans hb.size (h.far b hk), hb.trans (h.bel.mono hb.size)⟩
theorem ReadAt.start {w0 : World} {F : List Int} {f : Nat} : ReadAt w0 w0 F f 0 (.slice none 0 0) [] :=
  ⟨⟨rfl, .inl ⟨rfl, rfl⟩⟩, rfl, (fun i q h => by simp at h), (fun b h => by cases h), Below.refl _ _⟩
theorem ReadAt.next {w0 wr w1 w' : World} {F : List Int} {f k g g2 c c2 : Nat} {v : Value} {L : List Rb} (h : ReadAt w0 wr F f k v L) (hb : Below wr.heap.size wr w1) (hg : wr.heap.size ≤ g) (ho : OwnB w1 g c (bck F (f + k)))
    (h1 : w'.ownsRow 0 42 1 (.slice (some ⟨g2, 0, none⟩) (k + 1) c2) (k + 1) (L.map Rb.v ++ [.slice (some ⟨g, 0, none⟩) 512 c])) (h2 : Fr (fun b => v.ownBlock = some b) w1 w') (h3 : v.ownBlock = some g2 ∨ w1.heap.size ≤ g2) :
    ReadAt w0 w' F f (k + 1) (.slice (some ⟨g2, 0, none⟩) (k + 1) c2) (L ++ [⟨g, c, bck F (f + k)⟩]) := by
  have hA := h.on hb
  have hs : w0.heap.size ≤ wr.heap.size := h.bel.size
  have hs1 : wr.heap.size ≤ w1.heap.size := hb.size
  refine ⟨by rw [List.map_append]; exact h1, by rw [List.length_append, h.len]; rfl, fun i q hq => ?_, fun b hk => ?_, hA.bel.trans (h2.below _ h.far hA.bel.size)⟩
  · by_cases hi : i < L.length
    · rw [List.getElem?_append_left hi] at hq
      obtain ⟨a1, a2, a3⟩ := hA.at_ i q hq
      exact ⟨a1, a2.fr h2 (own_apartB hA.row a2 (by decide)), a3⟩
    · have hi2 : i = L.length := by
        have := (List.getElem?_eq_some_iff.1 hq).1
        simp at this; omega
      subst hi2
      simp at hq
      subst hq
      rw [h.len]
      exact ⟨rfl, ho.fr h2 (own_apartB hA.row ho (by decide)), by show w0.heap.size ≤ g; omega⟩
  · cases hk
    rcases h3 with e | e
    · exact h.far _ e
    · exact Nat.le_trans (Nat.le_trans hs hs1) e
set_option maxRecDepth 100000 in
set_option maxHeartbeats 4000000 in
theorem readFrom_any (w : World) (D : Dk) (h : Disk w D) (hd : D.down = false) (f n : Nat) (hn : f + n ≤ D.nb) :
    Calls Tryz.prog 57 #[.pointer (some ⟨D.d, 0, none⟩), .int .i64 f, .int .i64 n] w fun e w' => ∃ v L, e = .returned v ∧ ReadAt w w' D.full f n v L := by
  have hnb := h.nb1
  have HD : Hid (Disk w D) := h
  have HDn : Hid (D.down = false) := hd
  obtain ⟨F, hF⟩ : ∃ F, D.full = F := ⟨_, rfl⟩
  have HF : Hid (D.full = F) := hF
  rw [hF]
  clear h hd hF
  go_enter Tryz.func57, Tryz.ntmps57
  go_wp2
  go_loopw [7, 10] (fun s7 s10 wr => ∃ (j : Nat) (L : List Rb), j ≤ n ∧ s10 = .int .i64 j ∧ ReadAt w wr F f j s7 L) (fun _ s _ => n - (intOf s).toNat)
  case atStart => exact ⟨0, [], Nat.zero_le _, rfl, ReadAt.start⟩
  case round =>
    obtain ⟨j, L, hj, rfl, hA⟩ := hrel
    have HA : Hid (ReadAt w wr F f j u7 L) := hA
    clear hA
    by_cases hlt : j < n
    · have HR : Hid (Calls Tryz.prog 54 #[.pointer (some ⟨D.d, 0, none⟩), .int .i64 ((f : Int) + j)] wr fun e w' => ∃ g cap, e = .returned (.slice (some ⟨g, 0, none⟩) 512 cap) ∧ wr.heap.size ≤ g ∧ OwnB w' g cap (bck F (f + j)) ∧ Below wr.heap.size wr w') := by
        have := wread_yes wr D (HD.out.on HA.out.bel) (f + j) (by omega) HDn.out
        rw [HF.out] at this
        exact this
      go_wp2_with (first
        | (go_at_call 54; refine HR.out.mono ?_; rintro e w1 ⟨g, cap, rfl, h1, h2, h3⟩; have H1 : Hid (wr.heap.size ≤ g ∧ OwnB w1 g cap (bck F (f + j)) ∧ Below wr.heap.size wr w1) := ⟨h1, h2, h3⟩; clear h1 h2 h3; have HB2 : Hid (Below w1.heap.size w1 (w1.alloc (.cells #[.slice (some ⟨g, 0, none⟩) 512 cap] 42))) := (Below.refl _ _).alloc (Nat.le_refl _) _)
        | (at_builtin; refine wp_sown rfl (.tmp 13) (.tmp 19) rfl u7 j (L.map Rb.v) rfl (owns_on (owns_on HA.out.row H1.out.2.2) HB2.out) ⟨w1.heap.size, 0, none⟩ 1 1 [.slice (some ⟨g, 0, none⟩) 512 cap] rfl (by omega) rfl (news1 w1 _) (fun u hu => by simp at hu; subst hu; rfl) (by omega) ?_; intro g3 cap3 w3 ho hf hg; have H3 : Hid (ReadAt w w3 F f (j + 1) (.slice (some ⟨g3, 0, none⟩) (j + 1) cap3) (L ++ [⟨g, cap, bck F (f + j)⟩])) := (HA.out.next (H1.out.2.2.trans (HB2.out.mono H1.out.2.2.size)) H1.out.1 (H1.out.2.1.on HB2.out) ho hf hg); clear ho hf hg))
      go_round
      case rel => exact ⟨j + 1, _, by omega, by go_num, H3.out⟩
      case measure => simp [intOf]; omega
    · have e : j = n := by omega
      subst e
      go_wp2
      go_ret
      exact ⟨_, _, rfl, HA.out⟩
end Go.Proofs.YtckldbhaaagncaaGreatDoor
