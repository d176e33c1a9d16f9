import Derived.Test.YtaaeahpmnfifiaaDoorR14c
namespace Go.Proofs.YtaaeahpmnfifiaaDoor
open Go.RowKit Rec Sc
theorem pc_fld (L : List Int) (k t : Nat) (ht : t ≤ 27) : pc (fld L (32 * k) 32) (32 * 0 + 5) t = pc L (32 * k + 5) t := by
  unfold pc fld
  rw [List.drop_take, List.drop_drop, List.take_take]
  congr 1
  · omega
theorem fld_inc (L : List Int) (k : Nat) : inc (fld L (32 * k) 32) 0 = inc L k := by
  unfold inc
  rw [Nat.mul_zero, fld_num _ _ _ _ _ (by omega), Nat.add_zero]
theorem fld_tlc (L : List Int) (k : Nat) : tlc (fld L (32 * k) 32) 0 = tlc L k := by
  unfold tlc
  exact tl_congr _ _ _ (fun i hi => by rw [Nat.mul_zero, Nat.zero_add, nth_fld _ _ _ _ (by omega), Nat.add_assoc])
theorem fld_nmc (L : List Int) (k : Nat) : nmc (fld L (32 * k) 32) 0 = nmc L k := by
  have h : tlc L k ≤ 27 := tl_le _ _
  unfold nmc
  rw [fld_tlc, pc_fld L k _ h]
theorem fld_rt (L : List Int) (k : Nat) : rt (fld L (32 * k) 32) 0 = rt L k := by
  unfold rt
  rw [fld_inc, fld_tlc, fld_nmc, Nat.mul_zero, zr_fld, Nat.zero_add, nth_fld _ _ _ _ (by omega)]
theorem fld_eN (L : List Int) (k : Nat) : eN (fld L (32 * k) 32) 0 = eN L k := by
  unfold eN
  rw [fld_inc, fld_nmc]
theorem one_any (w : World) (g o c : Nat) (L : List Int) (k : Nat) (hn : L.length = 512) (hO : Bytes w (some ⟨g, o, none⟩) L) (hc : 512 ≤ c) (hk : k < 16) :
    Calls Tryd.prog 33 #[.slice (some ⟨g, o + 32 * k, none⟩) 32 (c - 32 * k)] w fun e w' => e = .returned (.tuple #[.int .i64 (if rt L k then inc L k else 0), .string (if rt L k then eN L k else ⟨#[]⟩), .bool (rt L k)]) ∧ Below w.heap.size w w' := by
  have hB : Bytes w (some ⟨g, o + 32 * k, none⟩) (fld L (32 * k) 32) := hO.field (by omega) _ (.inl rfl)
  have hl := fld_length L (32 * k) 32 (by omega)
  have e1 : oI (fld L (32 * k) 32) = if rt L k then inc L k else 0 := by rw [oI, fld_rt, fld_inc]
  have e2 : oN (fld L (32 * k) 32) = if rt L k then eN L k else ⟨#[]⟩ := by rw [oN, fld_rt, fld_eN]
  by_cases h0 : inc (fld L (32 * k) 32) 0 = 0
  · have := one_free w g (o + 32 * k) (c - 32 * k) _ hl hB h0
    rw [e1, e2, fld_rt] at this
    exact this
  · have := one_taken w g (o + 32 * k) (c - 32 * k) _ hl (by omega) hB h0
    rw [e1, e2, fld_rt] at this
    exact this
def tkn (L : List Int) (k : Nat) : List ET := (allE L k).filter tk
theorem tkn_zero {L : List Int} {k : Nat} (h : inc L k = 0) : tkn L (k + 1) = tkn L k := by
  rw [tkn, tkn, allE_succ, List.filter_append]
  simp [aE, h, tk, fr]
theorem tkn_some {L : List Int} {k : Nat} (h : inc L k ≠ 0) : tkn L (k + 1) = tkn L k ++ [aE L k] := by
  rw [tkn, tkn, allE_succ, List.filter_append]
  simp [aE, h, tk, fr]
theorem tkn_len (L : List Int) (k : Nat) : (tkn L k).length ≤ k := by
  have := List.length_filter_le tk (allE L k)
  rw [allE_len] at this
  exact this
/-- how far the reference's Read has come -/
structure RrI (w wr : World) (L : List Int) (v : Value) (k : Nat) : Prop where
  bel : Below w.heap.size w wr
  row : RowE w.heap.size wr v (tkn L k)
  ok : ∀ j, j < k → rt L j = true
theorem RrI.on {w wr wx : World} {L : List Int} {v : Value} {k : Nat} (h : RrI w wr L v k) (hb : Below wr.heap.size wr wx) (hr : rt L k = true) (h0 : inc L k = 0) : RrI w wx L v (k + 1) := by
  refine ⟨h.bel.trans (hb.mono h.bel.size), ?_, fun j hj => ?_⟩
  · rw [tkn_zero h0]; exact h.row.on hb
  · by_cases e : j = k
    · subst e; exact hr
    · exact h.ok j (by omega)
theorem RrI.app {w wr wx w' : World} {L : List Int} {v : Value} {k b cap : Nat} (h : RrI w wr L v k) (hb : Below wr.heap.size wr wx) (h1 : OwnE w' b cap (tkn L k ++ [aE L k])) (h2 : Fr (fun k => v.ownBlock = some k) wx w') (h3 : v.ownBlock = some b ∨ wx.heap.size ≤ b) (hr : rt L k = true) (h0 : inc L k ≠ 0) :
    RrI w w' L (.slice (some ⟨b, 0, none⟩) (tkn L (k + 1)).length cap) (k + 1) := by
  refine ⟨?_, ?_, fun j hj => ?_⟩
  · exact (h.bel.trans (hb.mono h.bel.size)).trans (h2.below _ (fun k hk => h.row.far k hk) (Nat.le_trans h.bel.size hb.size))
  · rw [tkn_some h0]
    exact RowE.own h1 (by
      rcases h3 with e | e
      · exact h.row.far b e
      · exact Nat.le_trans (Nat.le_trans h.bel.size hb.size) e)
  · by_cases e : j = k
    · subst e; exact hr
    · exact h.ok j (by omega)
theorem rread_size (w : World) (a : Option Addr) (n c : Nat) (h : n ≠ 512) : Calls Tryd.prog 17 #[.slice a n c] w fun e w' => e = .returned (.tuple #[.slice none 0 0, .int .i64 32]) ∧ w = w' := by
  have h' : ¬ (n : Int) = 512 := by omega
  go_enter Tryd.func17, Tryd.ntmps17
  go_wp2
  go_ret2
  exact ⟨rfl, rfl⟩
set_option maxRecDepth 100000 in
set_option maxHeartbeats 4000000 in
theorem rread_any (w : World) (g o c : Nat) (L : List Int) (hn : L.length = 512) (hO : Bytes w (some ⟨g, o, none⟩) L) (hc : 512 ≤ c) :
    Calls Tryd.prog 17 #[.slice (some ⟨g, o, none⟩) 512 c] w fun e w' => Below w.heap.size w w' ∧ (((∀ k, k < 16 → rt L k = true) ∧ ∃ v, e = .returned (.tuple #[v, .int .i64 0]) ∧ RowE w.heap.size w' v (taken L)) ∨ ((∃ k, k < 16 ∧ rt L k = false) ∧ e = .returned (.tuple #[.slice none 0 0, .int .i64 140]))) := by
  have HE : Hid (∀ wx k, k < 16 → Below w.heap.size w wx → Calls Tryd.prog 33 #[.slice (some ⟨g, o + 32 * k, none⟩) 32 (c - 32 * k)] wx fun e w' => e = .returned (.tuple #[.int .i64 (if rt L k then inc L k else 0), .string (if rt L k then eN L k else ⟨#[]⟩), .bool (rt L k)]) ∧ Below wx.heap.size wx w') := fun wx k hk hb => one_any wx g o c L k hn (hO.on hb) hc hk
  clear hO hn
  go_enter Tryd.func17, Tryd.ntmps17
  go_wp2
  go_loopw [4, 5] (fun v i wr => ∃ k : Nat, k ≤ 16 ∧ i = .int .i64 k ∧ RrI w wr L v k) (fun _ i _ => 16 - (intOf i).toNat)
  case atStart => exact ⟨0, Nat.zero_le _, rfl, Below.refl _ _, RowE.nil _ _, fun j h => absurd h (by omega)⟩
  case round =>
    obtain ⟨k, hk, rfl, hI⟩ := hrel
    have HI : Hid (RrI w wr L _ k) := hI
    clear hI
    by_cases hlt : k < 16
    · have hlt' : (k : Int) < 16 := by omega
      have HEk := HE.out wr k hlt HI.out.bel
      cases hr : rt L k with
      | false =>
        rw [hr] at HEk
        simp only [Bool.false_eq_true, if_false] at HEk
        go_wp2_with (first
          | (go_at_call 33; refine HEk.mono ?_; rintro e w' ⟨rfl, hb⟩; have HB : Hid _ := hb; clear hb))
        go_ret2
        exact ⟨HI.out.bel.trans (HB.out.mono HI.out.bel.size), .inr ⟨⟨k, hlt, hr⟩, rfl⟩⟩
      | true =>
        rw [hr] at HEk
        simp only [if_true] at HEk
        by_cases h0 : inc L k = 0
        · rw [h0] at HEk
          go_wp2_with (first
            | (go_at_call 33; refine HEk.mono ?_; rintro e w' ⟨rfl, hb⟩; have HB : Hid _ := hb; clear hb))
          go_roundw
          case rel =>
            first
              | exact ⟨k + 1, by omega, by go_num, HI.out.on HB.out hr h0⟩
              | ((repeat apply Exists.intro)
                 refine ⟨?_, rfl⟩
                 exact ⟨k + 1, by omega, by go_num, HI.out.on HB.out hr h0⟩)
          case measure => simp [intOf]; omega
        · have HRl : Hid ((tkn L (k + 1)).length = (tkn L k).length + 1) := by
            show (tkn L (k + 1)).length = _
            rw [tkn_some h0]; simp
          go_wp2_with (first
            | (go_at_call 33; refine HEk.mono ?_; rintro e w' ⟨rfl, hb⟩; have HB : Hid _ := hb; clear hb)
            | (at_builtin; refine wp_ent (wx := w') rfl (.tmp 32) (.tmp 37) rfl u4 (tkn L k) rfl w'.heap.size rfl rfl (aE L k) (HI.out.row.on HB.out).row ?_ ?_
               · have := tkn_len L k; omega
               rw [← HRl.out]
               intro b2 cap2 w10 hR hF hor
               have H10 : Hid (RrI w w10 L (.slice (some ⟨b2, 0, none⟩) (tkn L (k + 1)).length cap2) (k + 1)) := HI.out.app HB.out hR hF hor hr h0
               clear hR hF hor))
          go_roundw
          case rel =>
            first
              | exact ⟨k + 1, by omega, by go_num, H10.out⟩
              | ((repeat apply Exists.intro)
                 refine ⟨?_, rfl⟩
                 exact ⟨k + 1, by omega, by go_num, H10.out⟩)
          case measure => simp [intOf]; omega
    · obtain rfl : k = 16 := by omega
      go_wp2
      go_ret2
      exact ⟨HI.out.bel, .inl ⟨HI.out.ok, _, rfl, HI.out.row⟩⟩
end Go.Proofs.YtaaeahpmnfifiaaDoor
