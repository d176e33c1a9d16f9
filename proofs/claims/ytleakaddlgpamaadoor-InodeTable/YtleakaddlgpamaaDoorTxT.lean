import Derived.Test.YtleakaddlgpamaaDoorTxJ
import Derived.RangeFuncNested
import Derived.RangeFuncBound
import Derived.RangeFuncCalls
import Derived.RangeFuncLeaves
import Derived.RangeFuncWrites
namespace Go.Proofs.YtleakaddlgpamaaDoor
open Go.RowKit Go.Maps Rec

theorem lst_le (c : Cm) (n : Nat) : (lst c n).length ≤ n := by
  have := List.length_filterMap_le c (List.range n)
  simpa [lst] using this
set_option maxRecDepth 100000 in
set_option maxHeartbeats 4000000 in
/-- an undo step is carried out -/
theorem undo_step (w : World) (t mb nb : Nat) (c : Cm) (u : Un) (hc1 : w.cell? ⟨t, 1, none⟩ = some (.map (some mb))) (hM : MapAt w mb c nb) (ok : COk c nb) (hU : UnAt w t u) (hi : u.i < nb) (hn : nb ≤ 1000) (hq : ∀ q, u.old = some q → q.n = (u.i : Int)) :
    Calls Tryd.prog 56 #[.pointer (some ⟨u.bw, 0, none⟩), .pointer (some ⟨u.bb, 0, none⟩), .pointer (some ⟨u.bt, 0, none⟩), .pointer (some ⟨u.bi, 0, none⟩)] w fun e w' => e = .returned (.tuple #[]) ∧ MapAt w' mb (ups c u.i u.old) nb ∧ Fr (fun k => k = mb) w w' := by
  obtain ⟨bw, bb, bt, bi, i, old⟩ := u
  obtain ⟨cw, cb, ct, ci, _⟩ := hU
  simp only at cw cb ct ci hi hq ⊢
  have hMd : MapAt w.drew mb c nb := hM.on (Below.refl _ w).drew
  cases old with
  | none =>
    obtain ⟨w6, hr, h1, h2⟩ := hMd.drop (i := i) ok hi (by omega) 0
    have H6 : Hid (MapAt w6 mb (ups c i none) nb ∧ Fr (fun k => k = mb) w w6) := ⟨h1, (below_fr (Below.refl _ w).drew (fun k => k = mb)).trans h2 (fun k hk => .inl hk)⟩
    have cw' : w.cell? ⟨bw, 0, none⟩ = some (.bool false) := cw
    clear h1 h2 cw cb hM hMd ok hq
    go_enter Tryd.func56, Tryd.ntmps56
    go_upto_region 2 with fail
    go_region
    all_goals
      go_wp2
      go_end0
      exact ⟨rfl, H6.out.1, H6.out.2⟩
  | some q =>
    have hqn : q.n = (i : Int) := hq q rfl
    obtain ⟨w6, hr, h1, h2⟩ := hMd.store (i := i) ok hi (by omega) q hqn (Nat.le_trans (lst_le _ _) hn)
    have H6 : Hid (MapAt w6 mb (ups c i (some q)) nb ∧ Fr (fun k => k = mb) w w6) := ⟨h1, (below_fr (Below.refl _ w).drew (fun k => k = mb)).trans h2 (fun k hk => .inl hk)⟩
    have cw' : w.cell? ⟨bw, 0, none⟩ = some (.bool true) := cw
    obtain ⟨qg, hqg⟩ : ∃ qg, q.g = qg := ⟨_, rfl⟩
    obtain ⟨qc, hqc⟩ : ∃ qc, q.c = qc := ⟨_, rfl⟩
    have cb' : w.cell? ⟨bb, 0, none⟩ = some (.slice (some ⟨qg, 0, none⟩) 512 qc) := by rw [← hqg, ← hqc]; exact cb
    have hr' : (Instr.mapUpdate 85 (.map (some mb)) (.int .i64 (i : Int)) (.slice (some ⟨qg, 0, none⟩) 512 qc)).run Tryd.prog w.drew = .ok () w6 := by rw [← hqg, ← hqc]; exact hr
    clear h1 h2 cw cb hM hMd ok hq hr hqg hqc hqn
    go_enter Tryd.func56, Tryd.ntmps56
    go_upto_region 1 with fail
    go_region
    all_goals
      go_wp2
      go_end0
      exact ⟨rfl, H6.out.1, H6.out.2⟩
end Go.Proofs.YtleakaddlgpamaaDoor
