import Derived.Test.YtklffjagdhbjcaaDoorAns
namespace Go.Proofs.YtklffjagdhbjcaaDoor
open Go.RowKit
open Crc (W)

structure AskR where
  kind : Int
  n : Int
  at_ : Int
  A : W
  B : W
  a1 : Option Addr
  a2 : Option Addr
  c1 : Nat
  c2 : Nat
  l1 : List Int
  l2 : List Int
structure AskAt (w : World) (b off : Nat) (q : AskR) : Prop where
  f0 : w.cell? ⟨b, off, none⟩ = some (.int .i64 q.kind)
  f1 : w.cell? ⟨b, off + 1, none⟩ = some (.int .u32 (U q.A))
  f2 : w.cell? ⟨b, off + 2, none⟩ = some (.int .u32 (U q.B))
  f3 : w.cell? ⟨b, off + 3, none⟩ = some (.int .i64 q.n)
  f4 : w.cell? ⟨b, off + 4, none⟩ = some (.int .i64 q.at_)
  f5 : w.cell? ⟨b, off + 5, none⟩ = some (.slice q.a1 q.l1.length q.c1)
  f6 : w.cell? ⟨b, off + 6, none⟩ = some (.slice q.a2 q.l2.length q.c2)
theorem AskAt.on {w w' : World} {b off : Nat} {q : AskR} (h : AskAt w b off q) (hb : Below w.heap.size w w') : AskAt w' b off q := by
  have hlt : b < w.heap.size := block_lt_of_cell h.f0
  constructor <;> (rw [hb.cell (by exact hlt)])
  · exact h.f0
  · exact h.f1
  · exact h.f2
  · exact h.f3
  · exact h.f4
  · exact h.f5
  · exact h.f6
structure AskOk (w : World) (q : AskR) : Prop where
  b1 : Bytes w q.a1 q.l1
  b2 : Bytes w q.a2 q.l2
  z1 : q.a1 = none → q.c1 = 0
  z2 : q.a2 = none → q.c2 = 0
  s1 : q.l1.length ≤ 140737488351232
  s2 : q.l2.length ≤ 140737488351232
structure Asks (w : World) (a0 : Option Addr) (L : List AskR) : Prop where
  at_ : L = [] ∨ ∃ b off, a0 = some ⟨b, off, none⟩ ∧ ∀ i q, L[i]? = some q → AskAt w b (off + i * 7) q
  each : ∀ q ∈ L, AskOk w q

theorem ans_in (w wx : World) (kind n at_ : Int) (A B : W) (a1 a2 : Option Addr) (c1 c2 : Nat) (l1 l2 : List Int) (hx : Below w.heap.size w wx) (hT : TabAt w) (ok : AskOk w ⟨kind, n, at_, A, B, a1, a2, c1, c2, l1, l2⟩) :
    Calls Tryd.prog 13 #[.agg #[.int .i64 kind, .int .u32 (U A), .int .u32 (U B), .int .i64 n, .int .i64 at_, .slice a1 l1.length c1, .slice a2 l2.length c2]] wx fun e w' => e = .returned (.bool true) ∧ Below wx.heap.size wx w' :=
  answers_any wx kind n at_ A B a1 a2 l1.length c1 l2.length c2 l1 l2 (hT.on hx) rfl rfl (ok.b1.on hx) (ok.b2.on hx) ok.z1 ok.z2 ok.s1 ok.s2

set_option maxRecDepth 100000 in
set_option maxHeartbeats 1600000 in
theorem exact_any (w : World) (a0 : Option Addr) (np cp : Nat) (L : List AskR) (hnp : L.length = np) (hsm : np ≤ 140737488351232) (hT : TabAt w) (hP : Asks w a0 L) :
    Calls Tryd.prog 7 #[.slice a0 np cp] w fun e w' => e = .returned (.bool true) ∧ Below w.heap.size w w' := by
  have HT : Hid (TabAt w) := hT
  have HP : Hid (Asks w a0 L) := hP
  have HN : Hid (L.length = np) := hnp
  clear hT hP hnp
  go_enter Tryd.func7, Tryd.ntmps7
  go_wp2_with fail
  refine (known_tab w HT.out).mono ?_
  rintro e w1 ⟨rfl, hb1, ht1⟩
  have HB1 : Hid (Below w.heap.size w w1) := hb1
  clear hb1 ht1
  go_wp2
  go_loopw [4, 9] (fun _ i wr => ∃ k : Nat, k ≤ np ∧ i = .int .i64 k ∧ Below w.heap.size w wr) (fun _ i _ => np - (intOf i).toNat)
  case atStart => exact ⟨0, Nat.zero_le _, rfl, HB1.out⟩
  case round =>
    obtain ⟨k, hk, rfl, hr⟩ := hrel
    have HR : Hid (Below w.heap.size w wr) := hr
    clear hr HB1
    by_cases hlt : k < np
    · obtain ⟨q, hq⟩ : ∃ q : AskR, L[k]? = some q := ⟨L[k]'(by rw [HN.out]; exact hlt), List.getElem?_eq_getElem _⟩
      obtain ⟨b, off, hab, hat⟩ : ∃ b off, a0 = some ⟨b, off, none⟩ ∧ AskAt wr b (off + k * 7) q := by
        rcases HP.out.at_ with e | ⟨b, off, e, hc⟩
        · rw [e] at hq; simp at hq
        · exact ⟨b, off, e, (hc k q hq).on HR.out⟩
      have HOK : Hid (AskOk w q) := HP.out.each q (List.mem_of_getElem? hq)
      obtain ⟨kind, n, at_, A, B, a1, a2, c1, c2, l1, l2⟩ := q
      obtain ⟨f0, f1, f2, f3, f4, f5, f6⟩ := hat
      dsimp only at *
      clear hq
      rw [hab]
      go_wp2_with fail
      refine (ans_in w _ kind n at_ A B a1 a2 c1 c2 l1 l2 ?_ HT.out HOK.out).mono ?_
      · exact HR.out.alloc HR.out.size _
      rintro e w5 ⟨rfl, hb5⟩
      have HB5 : Hid (Below w.heap.size w w5) := chain (HR.out.alloc HR.out.size _) hb5
      clear hb5
      go_wp2
      go_roundw
      case rel => exact ⟨k + 1, by omega, by go_num, HB5.out⟩
      case measure => simp [intOf]; omega
    · go_wp2
      go_ret
      exact ⟨rfl, HR.out⟩
end Go.Proofs.YtklffjagdhbjcaaDoor
