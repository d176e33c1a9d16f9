import Derived.Test.YtgmccpimpbnnpaaDoorKKnC
namespace Go.Proofs.YtgmccpimpbnnpaaDoor
open Go.RowKit Go.Maps Rec
theorem Wd.keep {D : Dk} {T T' : Tx} {n : Nat} {x : Nat → Int} {ν : Nat → Nat} (h : Wd D T n x ν) (hc : T'.c = T.c) : Wd D T' n x ν := by
  have ht : tv D T' = tv D T := by funext i; unfold tv; rw [hc]
  have hb : bmp D T' = bmp D T := by unfold bmp; rw [ht]
  refine ⟨?_, ?_⟩
  · have := h.tre; unfold nmT at this ⊢; rw [ht]; exact this
  · rw [hb]; exact h.own
theorem Wd.other {D : Dk} {T T' : Tx} {n k N : Nat} {x0 x1 : Nat → Int} {ν0 ν1 ν' : Nat → Nat} (h0 : 128 ≤ n) (h1 : n ≤ 16384) (h : Wd D T n x0 ν0) (a : AdP D T T' n k x1 ν1 ν' N) (hd : ∀ p q, ν0 p ≠ 0 → ν0 p ≠ ν1 q) : Wd D T' n x0 ν0 ∧ (∀ p q, ν0 p ≠ 0 → ν0 p ≠ ν' q) := by
  have hd2 : ∀ p q, ν0 p ≠ 0 → ν0 p ≠ ν' q := fun p q hp e => by
    rcases a.tks.fresh q with e2 | e2
    · rw [e2] at e; exact hd p q hp e
    · have := (h.own.good p hp).2.2
      rw [e, e2.2.1] at this
      cases this
  refine ⟨⟨h.tre.cong fun p hp _ => ?_, ⟨fun p hp => ?_, h.own.inj⟩⟩, hd2⟩
  · have hb := (h.own.good p hp).1
    have := (nM_bd h0 h1).2.2.2.1
    unfold nmT
    rw [a.tvO _ (by omega) (fun q e => hd2 p q hp e.symm)]
  · obtain ⟨g1, g2, g3⟩ := h.own.good p hp
    exact ⟨g1, g2, a.tks.used _ g3⟩
theorem own_stay {w : World} {v : Value} {k : Nat} {ts : List Value} (t ty e : TypeId) (i0 : TypeInfo) (z : Value) (size bytes : Nat) (ht : Tryd.prog.underlying t = some (.slice e)) (hi : Tryd.prog.info? e = some i0) (hz : i0.zero = some z) (hsize : i0.size = size) (hby : i0.bytes = bytes)
    (hown : w.ownsRow 0 e size v k ts) (ad : Addr) (m c : Nat) (news : List Value) (hl : news.length = m * size) (hnews : ∀ j u, news[j]? = some u → w.cell? (ad.add j) = some u) (h1 : ∀ u ∈ news, u.oneCell' = true) (h63 : k + m ≤ maxLen) (h47 : (k + m) * bytes ≤ 140737488355328)
    {v' : Value} {w' : World} (hr : (Builtin.append_ #[t, t] ty #[v, .slice (some ad) m c]).run Tryd.prog w = .ok v' w') : w'.ownsRow 0 e size v k ts := by
  subst hsize hby
  have h63' : k + m ≤ 9223372036854775807 := h63
  refine ⟨hown.1, ?_⟩
  rcases hown.2 with h | ⟨g, cap, cur, rfl, hbg, hg, hnc, hcm, hcs, htake⟩
  · exact .inl h
  · by_cases hroom : k + m ≤ cap
    · have h := run_append_room (P := Tryd.prog) w t ty e i0 ht hi g k cap cur hg ad m c news hl hnews h1 hroom (by rw [hl, hcs, ← Nat.add_mul]; exact Nat.mul_le_mul_right _ hroom)
      rw [h] at hr
      cases hr
      have hk : k * i0.size + news.length ≤ cur.size := by rw [hl, hcs, ← Nat.add_mul]; exact Nat.mul_le_mul_right _ hroom
      refine .inr ⟨g, cap, _, rfl, hbg, setRow_heap w g cur _ _ _ hg, hnc, hcm, ?_, ?_⟩
      · simp; omega
      · have hx := hown.1
        rw [htake, List.append_assoc]
        exact List.take_left' hx
    · have h := run_append_grow (P := Tryd.prog) w t ty e i0 z ht hi hz ⟨g, 0, none⟩ k cap ts hown.1 (hown.cells (g := g) rfl) ad m c news hl hnews (by omega) (by omega) (growslice_fits (by omega) h47)
      rw [h] at hr
      cases hr
      refine .inr ⟨g, cap, cur, rfl, hbg, ?_, hnc, hcm, hcs, htake⟩
      rw [heap_alloc_old w.drew _ (heap_lt hg)]
      exact hg
end Go.Proofs.YtgmccpimpbnnpaaDoor
