import Derived.Test.YtmecmeonahodaaaPaS
namespace Go.Proofs.Ytmecmeonahodaaa
open Go.RowKit Go.Shelf Pa
attribute [local go_sem] Oper.semAt_some

/-- a text that is one of these -/
abbrev Of (ps : List Tx) := { s : ByteArray // tx s ∈ ps }
abbrev Of.enc {ps : List Tx} (x : Of ps) : Value := .string x.1
def txs {ps : List Tx} (l : List (Of ps)) : List Tx := l.map (fun x => tx x.1)
theorem txs_nil {ps : List Tx} : txs ([] : List (Of ps)) = [] := rfl
theorem txs_app {ps : List Tx} (a b : List (Of ps)) : txs (a ++ b) = txs a ++ txs b := by simp [txs]
theorem txs_snoc {ps : List Tx} (a : List (Of ps)) (x : Of ps) : txs (a ++ [x]) = txs a ++ [tx x.1] := by simp [txs]
theorem pieces_any (w : World) (s : ByteArray) : Calls Try.prog 29 #[.string s] w fun e w' => e = .returned (.func (.func 37) #[] #[.pointer (some ⟨w.heap.size, 0, none⟩)]) ∧ w' = w.alloc (.cells #[.string s] 9) := by
  go_enter Try.func29, Try.ntmps29
  go_wp2
  go_ret
  exact ⟨rfl, rfl⟩
theorem components_any (w : World) (s : ByteArray) : Calls Try.prog 27 #[.string s] w fun e w' => e = .returned (.func (.func 35) #[] #[.pointer (some ⟨w.heap.size, 0, none⟩)]) ∧ w' = w.alloc (.cells #[.string s] 9) := by
  go_enter Try.func27, Try.ntmps27
  go_wp2
  go_ret
  exact ⟨rfl, rfl⟩
theorem ownFrom_drewN {β : Type} {B : Nat} {J : β → World → Prop} (h : OwnFrom B J) {s : β} {W : World} (hj : J s W) (m : Nat) : J s (W.drewN m) := h s W _ none hj ⟨rfl, rfl, rfl, Nat.le_refl _, fun _ _ _ => rfl⟩ (fun r e => by cases e)
theorem pcs_cut {l a b : Tx} (h : l = a ++ 47 :: b) (ha : (47 : UInt8) ∉ a) : pcs l = (if a = [] then [] else [a]) ++ pcs b := by
  rw [h, pcs_app]
  split
  · next e => rw [e]; rfl
  · next e => rw [pcs_one ha e]
def szV : Value → Nat
  | .string t => t.size
  | _ => 0
theorem szV_st (t : ByteArray) : szV (.string t) = t.size := rfl
theorem not_nil {t : ByteArray} (h : (!t.toList.isEmpty) = true) : tx t ≠ [] := by
  rw [toList_tx] at h
  cases e : tx t with
  | nil => rw [e] at h; simp at h
  | cons x l => simp
theorem is_nil {t : ByteArray} (h : ¬ (!t.toList.isEmpty) = true) : tx t = [] := by
  rw [toList_tx] at h
  cases e : tx t with
  | nil => rfl
  | cons x l => rw [e] at h; simp at h
set_option maxRecDepth 100000 in
set_option maxHeartbeats 4000000 in
theorem pieces_seq (w : World) (s : ByteArray) (hs : s.size ≤ 9223372036854775807) (B : Nat) (hB : B < w.heap.size) (hc : w.cell? ⟨B, 0, none⟩ = some (.string s)) :
    SeqR Try.prog 37 #[.pointer (some ⟨B, 0, none⟩)] (Of.enc (ps := pcs (tx s))) 0 (fun ys => txs ys = pcs (tx s)) (fun pre => txs pre <+: pcs (tx s)) w := by
  intro l J Jx W hW hJ hJx hY h0
  have hcW : W.cell? ⟨B, 0, none⟩ = some (.string s) := (hW.cell (p := ⟨B, 0, none⟩) hB).trans hc
  refine callsIn_wide (n := 5).1 ?_
  refine callsIn_of_wp Try.func37 rfl trivial ?_ rfl
  simp only [Try.ntmps37, List.size_toArray, List.length_cons, List.length_nil, Nat.reduceAdd, Nat.reduceSub, Array.replicate_succ, Array.replicate_zero, List.push_toArray, List.append_toArray, List.nil_append, List.cons_append]
  gi_wp2
  gi_loopw [3] (fun s3 wr => ∃ (t : ByteArray) (pre : List (Of (pcs (tx s)))), s3 = .string t ∧ txs pre ++ pcs (tx t) = pcs (tx s) ∧ t.size ≤ s.size ∧ J pre wr ∧ W.heap.size ≤ wr.heap.size) (fun s3 _ => szV s3)
  case atStart => exact ⟨s, [], rfl, rfl, Nat.le_refl _, h0, Nat.le_refl _⟩
  case round =>
    obtain ⟨t, pre, rfl, hp, hts, hj, hsz⟩ := hrel
    have C : CallsIn Fence.wide 4 Try.prog 38 #[.string t, .string ⟨#[47]⟩] wr _ := callsIn_wide.2 (scut_one wr t 47 (Nat.le_trans hts hs))
    have hf : Fence.wide.fn 38 := trivial
    have HP : Hid (txs pre ++ pcs (tx t) = pcs (tx s) ∧ t.size ≤ s.size ∧ J pre wr ∧ W.heap.size ≤ wr.heap.size) := ⟨hp, hts, hj, hsz⟩
    clear hp hts hj hsz
    gi_wp2_with (gi_at_call 38; refine C.mono ?_; clear C; rintro e w' ⟨⟨h1, rfl⟩ | ⟨a, b, h1, h2, rfl⟩, m, rfl⟩)
    · have hne : tx t ≠ [] := not_nil (by assumption)
      have hm : tx t ∈ pcs (tx s) := by rw [← HP.out.1, pcs_one h1 hne]; simp
      have HP2 : Hid (txs (pre ++ [(⟨t, hm⟩ : Of (pcs (tx s)))]) = pcs (tx s)) := by
        show _ = _
        have := HP.out.1
        rw [pcs_one h1 hne] at this
        rw [txs_snoc]; exact this
      obtain ⟨fn, tmps, assign, body, hy, hR⟩ := hY pre ⟨t, hm⟩ (wr.drewN m) (ownFrom_drewN hJ HP.out.2.2.1 m) (by rw [HP2.out]; exact List.prefix_refl _) (by exact HP.out.2.2.2)
      simp only [Of.enc] at hy
      rw [hy]
      gi_wp2
      refine hR.mono ?_
      rintro e W3 (⟨rfl, hJ3, hk3⟩ | ⟨rfl, hJx3, hk3⟩)
      · gi_wp2
        go_roundw
        case rel => exact ⟨⟨#[]⟩, _, rfl, (by rw [HP2.out]; exact List.append_nil _), Nat.zero_le _, hJ3, Nat.le_trans HP.out.2.2.2 hk3.size⟩
        case measure =>
          show 0 < t.size
          rw [size_tx]
          exact List.length_pos_iff.2 hne
      · gi_wp2
        refine bodyPost_ret (results_none rfl _ _ _) rfl ?_
        exact ⟨⟨_, rfl⟩, .inr ⟨_, (by rw [HP2.out]; exact List.prefix_refl _), hJx3⟩⟩
    · have hn : tx a = [] := by rw [← toList_tx]; assumption
      have hpc := pcs_cut h1 h2
      rw [if_pos hn] at hpc
      refine ⟨fun _ h => (by cases h), ?_⟩
      gi_wp2
      go_roundw
      case rel =>
        have := HP.out.1
        rw [hpc] at this
        exact ⟨b, pre, rfl, this, (by have := HP.out.2.1; rw [size_tx t, h1] at this; rw [size_tx b]; simp at this; omega), ownFrom_drewN hJ HP.out.2.2.1 m, HP.out.2.2.2⟩
      case measure => show b.size < t.size; rw [size_tx, size_tx, h1]; simp; omega
    · have hne : tx a ≠ [] := by rw [← toList_tx]; assumption
      have hbe : a.toList.isEmpty = false := by rw [List.isEmpty_eq_false_iff]; assumption
      have hpc := pcs_cut h1 h2
      rw [if_neg hne] at hpc
      have hm : tx a ∈ pcs (tx s) := by rw [← HP.out.1, hpc]; simp
      have HP2 : Hid (txs (pre ++ [(⟨a, hm⟩ : Of (pcs (tx s)))]) ++ pcs (tx b) = pcs (tx s) ∧ b.size < t.size) := by
        have := HP.out.1
        rw [hpc] at this
        refine ⟨?_, ?_⟩
        · rw [txs_snoc, List.append_assoc]; exact this
        · rw [size_tx, size_tx, h1]; simp; omega
      obtain ⟨fn, tmps, assign, body, hy, hR⟩ := hY pre ⟨a, hm⟩ (wr.drewN m) (ownFrom_drewN hJ HP.out.2.2.1 m) ⟨_, HP2.out.1⟩ (by exact HP.out.2.2.2)
      simp only [Of.enc] at hy
      rw [hy]
      gi_wp2
      refine hR.mono ?_
      rintro e W3 (⟨rfl, hJ3, hk3⟩ | ⟨rfl, hJx3, hk3⟩)
      · gi_wp2
        go_roundw
        case rel => exact ⟨b, _, rfl, HP2.out.1, (by have := HP2.out.2; have := HP.out.2.1; omega), hJ3, Nat.le_trans HP.out.2.2.2 hk3.size⟩
        case measure => exact HP2.out.2
      · gi_wp2
        refine bodyPost_ret (results_none rfl _ _ _) rfl ?_
        exact ⟨⟨_, rfl⟩, .inr ⟨_, ⟨_, HP2.out.1⟩, hJx3⟩⟩
    · have hn : tx t = [] := is_nil (by simp_all)
      go_end0
      refine ⟨⟨_, rfl⟩, .inl ⟨pre, ?_, HP.out.2.2.1⟩⟩
      have := HP.out.1
      rw [hn, pcs_nil, List.append_nil] at this
      exact this
end Go.Proofs.Ytmecmeonahodaaa
