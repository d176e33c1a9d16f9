import Derived.Test.YtcdggcdkjooohaaGreatDoorTxBm
import Derived.Test.YtcdggcdkjooohaaGreatDoorTxN0
namespace Go.Proofs.YtcdggcdkjooohaaGreatDoor
open Go.RowKit Go.Maps Rec

set_option maxRecDepth 100000 in
set_option maxHeartbeats 4000000 in
/-- a Back to a mark that is none -/
theorem tback_bad (w : World) (T : Tx) (h : TxAt w T) (i : Int) (hi : i < 0 ∨ (T.us.length : Int) < i) :
    Calls Tryz.prog 13 #[.pointer (some ⟨T.t, 0, none⟩), .int .i64 i] w fun e w' => e = .returned (.int .i64 62) ∧ w = w' := by
  have hc3 : w.cell? ⟨T.t, 3, none⟩ = some (.bool false) := h.cell 3
  obtain ⟨a, c, hv, _⟩ := owns_slice h.und
  obtain ⟨n, hn⟩ : ∃ n, T.us.length = n := ⟨_, rfl⟩
  have hc2 : w.cell? ⟨T.t, 2, none⟩ = some (.slice a n c) := by rw [← hn, ← hv]; exact h.cell 2
  rw [hn] at hi
  obtain ⟨t0, ht0⟩ : ∃ t0, T.t = t0 := ⟨_, rfl⟩
  rw [ht0] at hc2 hc3 ⊢
  clear h hv hn ht0
  rcases hi with hi | hi
  · go_enter Tryz.func13, Tryz.ntmps13
    go_wp2
    go_ret
    exact ⟨rfl, rfl⟩
  · have h0 : ¬ i < 0 := by omega
    have h00 : 0 ≤ i := by omega
    go_enter Tryz.func13, Tryz.ntmps13
    go_wp2
    go_ret
    exact ⟨rfl, rfl⟩
set_option maxRecDepth 100000 in
theorem taken_any (w : World) (a : Option Addr) (n c : Nat) : Calls Tryz.prog 12 #[.slice a n c] w fun e w' => e = .returned (.int .i64 (min n 60 : Nat)) ∧ w = w' := by
  by_cases h : 60 < n
  · have hi : (60 : Int) < (n : Int) := by omega
    rw [show min n 60 = 60 by omega]
    go_enter Tryz.func12, Tryz.ntmps12
    go_wp2
    go_ret
    exact ⟨rfl, rfl⟩
  · have hi : (n : Int) ≤ 60 := by omega
    have hj : ¬ (60 : Int) < (n : Int) := by omega
    rw [show min n 60 = n by omega]
    go_enter Tryz.func12, Tryz.ntmps12
    go_wp2
    go_ret
    exact ⟨rfl, rfl⟩
/-- a Back over what has been put since -/
theorem ses_back (w0 w : World) (D : Dk) (T T' : Tx) (k : Nat) (S : Ses w0 w D T') (hnb : T'.nb = 118) (hE : Ext T T' k) (m : Nat) (hm : T.us.length = m) (hc : (lst T.c 118).length ≤ 96) :
    Calls Tryz.prog 13 #[.pointer (some ⟨T'.t, 0, none⟩), .int .i64 (m : Int)] w fun e w' => e = .returned (.int .i64 0) ∧ ∃ T2, Ses w0 w' D T2 ∧ TMv w T' w' T2 ∧ T2.c = T.c ∧ T2.us = T.us := by
  obtain ⟨ext, e1, e2, e3⟩ := hE
  have hd : T'.us.drop m = ext := by rw [e1]; exact List.drop_left' hm
  have ht : T'.us.take m = T.us := by rw [e1]; exact List.take_left' hm
  have hl : m ≤ T'.us.length := by rw [e1, List.length_append]; omega
  refine (tback_ok w T' S.tx (by omega) m hl (by rw [hd, e3, hnb]; exact hc)).mono ?_
  rintro e w' ⟨rfl, T2, h1, h2, h3, h4⟩
  rw [hd, e3] at h3
  rw [ht] at h4
  exact ⟨rfl, T2, S.mv h1 h2, h2, h3, h4⟩
theorem IntsAt.fr {S : Nat → Prop} {w w' : World} {v : Value} {l : List Int} (h : IntsAt w v l) (x : Fr S w w') (hS : ∀ g, v.ownBlock = some g → ¬ S g) : IntsAt w' v l := by
  obtain ⟨a, c, rfl, hl⟩ := h
  refine ⟨a, c, rfl, hl.imp id ?_⟩
  rintro ⟨g, rfl, hc⟩
  exact ⟨g, rfl, fun j y hy => x.cell (hc j y hy) (hS g rfl)⟩
/-- a round of TxnBack -/
structure Rn (w0 w : World) (D : Dk) (T : Tx) (A B : Nat) (now : Nat → Int) (is : Nat → Bool) (v : Value) (l : List Int) : Prop where
  ses : Ses w0 w D T
  rw : Rw w A B now is
  nA : ¬ T.all A ∧ ¬ D.all A
  nB : ¬ T.all B ∧ ¬ D.all B
  ints : IntsAt w v l
  nL : ∀ g, v.ownBlock = some g → ¬ T.all g ∧ g < w.heap.size
theorem Rn.on {w0 w w' : World} {D : Dk} {T : Tx} {A B : Nat} {now : Nat → Int} {is : Nat → Bool} {v : Value} {l : List Int} (h : Rn w0 w D T A B now is v l) (hb : Below w.heap.size w w') : Rn w0 w' D T A B now is v l :=
  ⟨h.ses.on hb, h.rw.on hb, h.nA, h.nB, h.ints.on hb, fun g hg => ⟨(h.nL g hg).1, Nat.lt_of_lt_of_le (h.nL g hg).2 hb.size⟩⟩
theorem Rn.mv {w0 w w' : World} {D : Dk} {T T' : Tx} {A B : Nat} {now : Nat → Int} {is : Nat → Bool} {v : Value} {l : List Int} (h : Rn w0 w D T A B now is v l) (s : Ses w0 w' D T') (hm : TMv w T w' T') : Rn w0 w' D T' A B now is v l := by
  have hA := h.rw.ltA
  have hB := h.rw.ltB
  refine ⟨s, h.rw.fr hm.fr (fun e => h.nA.1 (.inl e)) (fun e => h.nB.1 (.inl e)), ⟨fun e => ?_, h.nA.2⟩, ⟨fun e => ?_, h.nB.2⟩, h.ints.fr hm.fr (fun g hg e => (h.nL g hg).1 (.inl e)), fun g hg => ⟨fun e => ?_, Nat.lt_of_lt_of_le (h.nL g hg).2 hm.fr.size⟩⟩
  · rcases hm.al _ e with e | e
    · exact h.nA.1 e
    · omega
  · rcases hm.al _ e with e | e
    · exact h.nB.1 e
    · omega
  · have h2 := h.nL g hg
    rcases hm.al _ e with e | e
    · exact h2.1 e
    · omega
theorem bel6 {w3 w4 w5 : World} (f4 : Fr (fun k => k = w3.heap.size) ((w3.alloc (.cells Tryz.zeroCells28 28)).alloc (.cells Tryz.zeroCells29 29)) w4) (f5 : Fr (fun k => k = w3.heap.size + 1) w4 w5) : Below w3.heap.size w3 w5 := by
  have hb : Below w3.heap.size w3 ((w3.alloc (.cells Tryz.zeroCells28 28)).alloc (.cells Tryz.zeroCells29 29)) := ((Below.refl _ w3).alloc (Nat.le_refl _) _).alloc (by simp) _
  have f4' : Fr (fun k => w3.heap.size ≤ k) ((w3.alloc (.cells Tryz.zeroCells28 28)).alloc (.cells Tryz.zeroCells29 29)) w4 := f4.mono (fun k hk => by rw [hk]; exact Nat.le_refl _)
  have f5' : Fr (fun k => w3.heap.size ≤ k) w4 w5 := f5.mono (fun k hk => by rw [hk]; omega)
  have F : Fr (fun _ => False) w3 w5 := ((below_fr hb (fun _ => False)).trans f4' (fun k hk => .inr hk)).trans f5' (fun k hk => .inr hk)
  exact F.below _ (fun _ e => e.elim) (Nat.le_refl _)
/-- behind the commit -/
structure BkE (w0 w' : World) (d A B : Nat) (now : Nat → Int) (is : Nat → Bool) (n : Nat) : Prop where
  dk : ∃ E ls, Mine w0 w' E ∧ E.d = d ∧ Rest E.abs 118 ls ∧ (∀ i, 98 ≤ i → i < 118 → bck ls i = one (now i)) ∧ ((n = 0 ∧ E.wr = 0 ∧ E.fl = 0) ∨ (n ≠ 0 ∧ E.wr = 2 * n + 2 ∧ E.fl = 4))
  rw : Rw w' A B now is
theorem valC_empty {c : Cm} {l : List Int} (h : lst c 118 = []) (i : Nat) (hi : i < 118) : valC c l i = bck l i := by
  have hn : c i = none := by
    have := List.filterMap_eq_nil_iff.1 h i (List.mem_range.2 hi)
    exact this
  simp [valC, hn]
theorem back_commit (w0 w : World) (D : Dk) (T : Tx) (A B : Nat) (now : Nat → Int) (is : Nat → Bool) (v : Value) (l : List Int) (h : Rn w0 w D T A B now is v l) (hT : TabAt w) (hF : Fresh D.abs 118 (fr6 118)) (hc : Cnt (fun _ => none) T.c now is) (n : Nat) (hn : (lst T.c 118).length = n) :
    Calls Tryz.prog 18 #[.pointer (some ⟨T.t, 0, none⟩)] w fun e w' => e = .returned (.int .i64 0) ∧ BkE w0 w' D.d A B now is n := by
  have hnb : T.nb = 118 := by rw [← h.ses.nb]; exact hF.size
  have hcnt := h.ses.tx.cnt
  rw [hnb] at hcnt
  have := ses_commitF w0 w D T h.ses hT (by rw [h.ses.nb, hnb]; omega) (hF.room _ (by rw [hnb]; omega))
  refine this.mono ?_
  rintro e w' ⟨r, E, rfl, hM, hd, ho, he, h2, _, hfr⟩
  have hrw : Rw w' A B now is := h.rw.fr hfr (fun e => e.elim (fun x => h.nA.2 (.inl x)) (fun x => h.nA.1 (.inl (.inl x)))) (fun e => e.elim (fun x => h.nB.2 (.inl x)) (fun x => h.nB.1 (.inl (.inl x))))
  have hR := hF.rest (by rw [bck_fr6 _ _ (by omega)]; rfl)
  rw [hnb] at he h2
  by_cases hne : lst T.c 118 = []
  · obtain ⟨rfl, hE⟩ := he hne
    have h0 : n = 0 := by rw [← hn, hne]; rfl
    refine ⟨rfl, ⟨E, fr6 118, hM, hd, by rw [hE]; exact hR, fun i h0 h1 => ?_, .inl ⟨h0, ?_, ?_⟩⟩, hrw⟩
    · rw [← valC_empty hne i h1]; exact hc.val i h0 h1
    · have : E.abs.wr = 0 := by rw [hE, hF.wr]
      exact this
    · have : E.abs.fl = 0 := by rw [hE, hF.fl]
      exact this
  · obtain ⟨rfl, hE⟩ := h2 hne
    have h0 : n ≠ 0 := fun e => hne (List.eq_nil_of_length_eq_zero (hn.trans e))
    obtain ⟨m1, ⟨ls, m2, m3⟩, m4, m5⟩ := commit_math hR (by have := h.ses.tx.ok; rw [hnb] at this; exact this) (fun i q hq => (h.ses.tx.blk i q hq).len) (by omega) (by omega) hcnt hne hE
    refine ⟨by rw [m1], ⟨E, ls, hM, hd, m2, fun i h0 h1 => ?_, .inr ⟨h0, ?_, ?_⟩⟩, hrw⟩
    · rw [m3 i h0 h1]; exact hc.val i h0 h1
    · have : E.abs.wr = 2 * n + 2 := by rw [m4, hF.wr, hn]; omega
      exact this
    · have : E.abs.fl = 4 := by rw [m5, hF.fl]
      exact this
end Go.Proofs.YtcdggcdkjooohaaGreatDoor
