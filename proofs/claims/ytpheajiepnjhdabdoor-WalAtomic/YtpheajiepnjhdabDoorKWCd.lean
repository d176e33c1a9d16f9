import Derived.Test.YtpheajiepnjhdabDoorKWBd
namespace Go.Proofs.YtpheajiepnjhdabDoor
open Go.RowKit Rec

theorem take_bck (F : List Int) (j : Nat) : F.take (512 * (j + 1)) = F.take (512 * j) ++ bck F j := by
  rw [Nat.mul_add, Nat.mul_one, List.take_add]; rfl
theorem ReadAt.cell {w0 w : World} {F : List Int} {f k g c : Nat} {L : List Rb} (h : ReadAt w0 w F f k (.slice (some ⟨g, 0, none⟩) k c) L) (i : Nat) (q : Rb) (hq : L[i]? = some q) : w.cell? ⟨g, i, none⟩ = some (.slice (some ⟨q.g, 0, none⟩) 512 q.c) := by
  have hc := h.row.cells (g := g) rfl i q.v (by simp [hq])
  rw [Addr.add_lit] at hc
  rw [Nat.zero_add] at hc
  exact hc
set_option maxRecDepth 100000 in
set_option maxHeartbeats 4000000 in
theorem concat_any (w0 w : World) (F : List Int) (nb : Nat) (v : Value) (L : List Rb) (h : ReadAt w0 w F 0 nb v L) (h0 : 0 < nb) (h1 : nb ≤ 16384) (hl : F.length = 512 * nb) :
    Calls Tryd.prog 38 #[v] w fun e w' => ∃ g cap, e = .returned (.slice (some ⟨g, 0, none⟩) (512 * nb : Nat) cap) ∧ OwnB w' g cap F ∧ w.heap.size ≤ g ∧ Below w.heap.size w w' := by
  obtain ⟨g, c, rfl⟩ := own_some h.row h0
  have HR : Hid (ReadAt w0 w F 0 nb (.slice (some ⟨g, 0, none⟩) nb c) L) := h
  have HL : Hid (F.length = 512 * nb) := hl
  clear h hl
  go_enter Tryd.func38, Tryd.ntmps38
  go_wp2
  go_loop [3, 11] (fun s3 s11 => ∃ j : Nat, j ≤ nb ∧ s3 = .int .i64 (512 * j : Nat) ∧ s11 = .int .i64 j) (fun _ s => nb - (intOf s).toNat)
  case atStart => exact ⟨0, Nat.zero_le _, rfl, rfl⟩
  case round =>
    obtain ⟨j, hj, rfl, rfl⟩ := hrel
    by_cases hlt : j < nb
    · obtain ⟨q, hq⟩ : ∃ q, L[j]? = some q := ⟨L[j]'(by rw [HR.out.len]; exact hlt), List.getElem?_eq_getElem _⟩
      have c1 := HR.out.cell j q hq
      clear hq
      go_wp2
      go_round
      case rel => exact ⟨j + 1, by omega, by go_num, by go_num⟩
      case measure => simp [intOf]; omega
    · have e : j = nb := by omega
      subst e
      go_wp2_with (go_at_call 54; refine (grow_any _ (512 * j) (by omega) (by omega)).mono ?_; rintro e w1 ⟨g1, cap1, rfl, ho, hg, hb⟩; have H1 : Hid (OwnB w1 g1 cap1 (F.take (512 * 0)) ∧ w.heap.size ≤ g1 ∧ Below w.heap.size w w1) := ⟨ho, hg, hb⟩; clear ho hg hb)
      go_loopw [6, 27] (fun s6 s27 wr => ∃ (i g2 cap2 : Nat), i ≤ j ∧ s27 = .int .i64 i ∧ s6 = .slice (some ⟨g2, 0, none⟩) (512 * i : Nat) cap2 ∧ OwnB wr g2 cap2 (F.take (512 * i)) ∧ w.heap.size ≤ g2 ∧ Below w.heap.size w wr) (fun _ s _ => j - (intOf s).toNat)
      case atStart => exact ⟨0, g1, cap1, Nat.zero_le _, rfl, rfl, H1.out⟩
      case round =>
        obtain ⟨i, g2, cap2, hi, rfl, rfl, ho, hg, hb⟩ := hrel
        have H2 : Hid (OwnB wr g2 cap2 (F.take (512 * i)) ∧ w.heap.size ≤ g2 ∧ Below w.heap.size w wr) := ⟨ho, hg, hb⟩
        clear ho hg hb
        by_cases hlt : i < j
        · obtain ⟨q, hq⟩ : ∃ q, L[i]? = some q := ⟨L[i]'(by rw [HR.out.len]; exact hlt), List.getElem?_eq_getElem _⟩
          have c1 := (HR.out.on H2.out.2.2).cell i q hq
          have HQ : Hid (Bytes wr (some ⟨q.g, 0, none⟩) (bck F i) ∧ (bck F i).length = 512 ∧ (F.take (512 * i)).length = 512 * i) := by
            obtain ⟨e1, e2, _⟩ := (HR.out.on H2.out.2.2).at_ i q hq
            rw [Nat.zero_add] at e1
            have e3 := e2.bytes
            rw [e1] at e3
            exact ⟨e3, bck_length F i j HL.out hlt, by rw [List.length_take, HL.out]; omega⟩
          clear hq
          go_wp2_with (at_builtin; refine wp_app rfl (.tmp 31) (.tmp 32) rfl w.heap.size g2 (512 * i) cap2 (F.take (512 * i)) (bck F i) HQ.out.2.2 rfl H2.out.1 H2.out.2.1 H2.out.2.2.size (some ⟨q.g, 0, none⟩) 512 q.c rfl HQ.out.2.1 HQ.out.1 (fun e => by cases e) (by omega) ?_; intro g3 cap3 w3 hg ho hb; have H3 : Hid (OwnB w3 g3 cap3 (F.take (512 * (i + 1))) ∧ w.heap.size ≤ g3 ∧ Below w.heap.size w w3) := ⟨(by rw [take_bck]; exact ho), hg, H2.out.2.2.trans (below_of hb H2.out.2.1 H2.out.2.2.size)⟩; clear ho hg hb)
          go_round
          case rel => exact ⟨i + 1, g3, cap3, by omega, by go_num, by go_num, H3.out⟩
          case measure => simp [intOf]; omega
        · have e : i = j := by omega
          subst e
          go_wp2
          go_ret
          have := H2.out
          rw [List.take_of_length_le (by rw [HL.out]; omega)] at this
          exact ⟨g2, cap2, rfl, this⟩
end Go.Proofs.YtpheajiepnjhdabDoor

namespace Go.Proofs.YtpheajiepnjhdabDoor
open Go.RowKit Rec

set_option maxRecDepth 100000 in
set_option maxHeartbeats 1600000 in
theorem lay_any (w : World) (g cap nb num : Nat) (l x : List Int) (ad : Addr) (c : Nat) (hO : OwnB w g cap l) (hl : l.length = 512 * nb) (hn : num < nb) (hnb : nb ≤ 16384) (hb : Bytes w (some ad) x) (hx : x.length = 512) :
    Calls Tryd.prog 40 #[.slice (some ⟨g, 0, none⟩) (512 * nb : Nat) cap, .int .i64 num, .slice (some ad) 512 c] w fun e w' => e = .returned (.tuple #[]) ∧ OwnB w' g cap (wr l num x) ∧ Fr (fun k => k = g) w w' := by
  have hroom := hO.room
  rw [hl] at hroom
  have HC : Hid (∀ ty dLen dCap, 512 ≤ dLen → ∃ w', (Builtin.copy_ #[32, 32] ty #[.slice (some ⟨g, num * 512, none⟩) dLen dCap, .slice (some ad) 512 c]).run Tryd.prog w = .ok (.int .i64 512) w' ∧ OwnB w' g cap (wr l num x) ∧ Fr (fun k => k = g) w w') := fun ty dLen dCap hd => by
    have := copyB_run (off := num * 512) (dLen := dLen) (dCap := dCap) ty ad 512 c x hO hb hx hd (by omega)
    unfold wr
    rw [Nat.mul_comm 512 num]
    exact this
  have htop := hO.top
  unfold maxLen at htop
  clear hO hl hb
  go_enter Tryd.func40, Tryd.ntmps40
  go_wp2
  obtain ⟨w', hrun, h1, h2⟩ := HC.out 3 (512 * nb - num * 512) (cap - num * 512) (by omega)
  have H1 : Hid (OwnB w' g cap (wr l num x) ∧ Fr (fun k => k = g) w w') := ⟨h1, h2⟩
  clear HC h1 h2
  rw [hrun, Result.andThen_ok, Oper.upon_value]
  clear hrun
  go_wp2
  go_end0
  exact ⟨rfl, H1.out⟩
end Go.Proofs.YtpheajiepnjhdabDoor
