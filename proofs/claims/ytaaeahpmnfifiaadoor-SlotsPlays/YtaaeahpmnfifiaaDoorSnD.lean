import Derived.Test.YtaaeahpmnfifiaaDoorSnC
namespace Go.Proofs.YtaaeahpmnfifiaaDoor
open Go.RowKit Rec Sc
theorem wp_ent {ops : Array Oper} {rest : List Oper} {o : Oper} {a : Act} {Q : Exit → Act → World → Prop} {wx : World} (hgd : o.guard = none) (s x : Operand)
    (ho : o.op = .call { callee := .builtin .append, args := #[s, x], argTypes := #[36, 36] }) (v : Value) (xs : List ET) (hs : a.eval s = v) (P : Nat) (hP : wx.heap.size = P) (hx : a.eval x = .slice (some ⟨P, 0, none⟩) 1 1)
    (q : ET) (hR : wx.ownsRow 0 27 3 v xs.length (eC xs)) (hn : xs.length ≤ 1000000)
    (h : ∀ b cap w', OwnE w' b cap (xs ++ [q]) → Fr (fun k => v.ownBlock = some k) wx w' → (v.ownBlock = some b ∨ wx.heap.size ≤ b) → wpList Tryd.prog ops Q rest (a.put o.dst (.slice (some ⟨b, 0, none⟩) (xs.length + 1) cap)) w') :
    wpList Tryd.prog ops Q (o :: rest) a (wx.alloc (.cells #[.int .i64 q.1, .string q.2.1, .int .i64 q.2.2] 27)) := by
  subst hP
  obtain ⟨i0, hi, hz0, hz1, hz2⟩ := info_parts infoE
  have hal : Below wx.heap.size wx (wx.alloc (.cells #[.int .i64 q.1, .string q.2.1, .int .i64 q.2.2] 27)) := (Below.refl _ _).alloc (Nat.le_refl _) _
  refine wp_own hgd s x 36 ho 27 i0 _ 3 32 Tryd.underlying36 hi hz0 hz1 hz2 rfl (by decide) v xs.length _ hs (owns_fr hR (below_fr hal (fun _ => False)) (fun _ _ e => e)) ⟨wx.heap.size, 0, none⟩ 1 1 (eC [q]) hx (by decide) rfl (fun j u hj => ?_) (eC_one _) (by unfold maxLen; omega) (by omega) ?_
  · match j, hj with
    | 0, hj => cases hj; rw [Addr.add_lit, cell_of_row _ _ _ _ _ _ (heap_alloc_new _ _)]; rfl
    | 1, hj => cases hj; rw [Addr.add_lit, cell_of_row _ _ _ _ _ _ (heap_alloc_new _ _)]; rfl
    | 2, hj => cases hj; rw [Addr.add_lit, cell_of_row _ _ _ _ _ _ (heap_alloc_new _ _)]; rfl
  · intro b cap w' h1 h2 h3
    rw [← eC_app] at h1
    refine h b cap w' (OwnE.of (by simp) h1) ((below_fr hal (fun k => v.ownBlock = some k)).trans h2 (fun k hk => .inl hk)) ?_
    rcases h3 with h3 | h3
    · exact .inl h3
    · exact .inr (Nat.le_trans hal.size h3)
/-- cells that are told, in a row that is new since B -/
structure RowE (B : Nat) (w : World) (v : Value) (xs : List ET) : Prop where
  row : w.ownsRow 0 27 3 v xs.length (eC xs)
  far : ∀ b, v.ownBlock = some b → B ≤ b
theorem RowE.nil (B : Nat) (w : World) : RowE B w (.slice none 0 0) [] := ⟨⟨rfl, .inl ⟨rfl, rfl⟩⟩, fun b e => by cases e⟩
theorem RowE.on {B : Nat} {w w' : World} {v : Value} {xs : List ET} (h : RowE B w v xs) (hb : Below w.heap.size w w') : RowE B w' v xs :=
  ⟨owns_fr h.row (below_fr hb (fun _ => False)) (fun _ _ e => e), h.far⟩
theorem RowE.own {B : Nat} {w : World} {g cap : Nat} {xs : List ET} (h : OwnE w g cap xs) (hg : B ≤ g) : RowE B w (.slice (some ⟨g, 0, none⟩) xs.length cap) xs := ⟨h.owns, fun b e => by cases e; exact hg⟩
theorem RowE.some {B : Nat} {w : World} {v : Value} {xs : List ET} (h : RowE B w v xs) (hx : xs ≠ []) : ∃ g cap, v = .slice (some ⟨g, 0, none⟩) xs.length cap ∧ OwnE w g cap xs ∧ B ≤ g := by
  rcases h.row.2 with ⟨_, e⟩ | ⟨g, cap, cur, rfl, _, h1, h2, h3, h4, h5⟩
  · exact absurd (List.length_eq_zero_iff.1 e) hx
  · exact ⟨g, cap, rfl, ⟨⟨cur, h1, h4, h5⟩, h2, h3⟩, h.far g rfl⟩
/-- what entries tells of the first n cells -/
def aE (L : List Int) (k : Nat) : ET := ((k : Int), eN L k, inc L k)
def allE (L : List Int) (n : Nat) : List ET := (List.range n).map (aE L)
theorem allE_len (L : List Int) (n : Nat) : (allE L n).length = n := by simp [allE]
theorem allE_succ (L : List Int) (n : Nat) : allE L (n + 1) = allE L n ++ [aE L n] := by simp [allE, List.range_succ]
theorem entry_any (w : World) (g o c : Nat) (L : List Int) (k : Nat) (hn : L.length = 512) (hO : Bytes w (some ⟨g, o, none⟩) L) (hc : 512 ≤ c) (hT : TabAt w) (hk : k < 16) :
    Calls Tryd.prog 42 #[.slice (some ⟨g, o, none⟩) 512 c, .int .i64 k] w fun e w' => e = .returned (.tuple #[eVt (aE L k), .bool (rt L k)]) ∧ Below w.heap.size w w' := by
  by_cases h0 : inc L k = 0
  · have := entry_free w g o c L k hn hO hc hT hk h0
    have e1 : rt L k = zr L (32 * k) 32 := if_pos h0
    have e2 : eN L k = ⟨#[]⟩ := if_pos h0
    unfold aE eVt
    dsimp only
    rw [e1, e2, h0]
    exact this
  · have := entry_taken w g o c L k hn hO hc hT hk h0
    have e2 : eN L k = nmc L k := if_neg h0
    unfold aE eVt
    dsimp only
    rw [e2]
    exact this
/-- how far entries has come -/
structure EsI (w wr : World) (L : List Int) (v : Value) (k : Nat) : Prop where
  bel : Below w.heap.size w wr
  row : RowE w.heap.size wr v (allE L k)
  ok : ∀ j, j < k → rt L j = true
theorem EsI.app {w wr wx w' : World} {L : List Int} {v : Value} {k b cap : Nat} (h : EsI w wr L v k) (hb : Below wr.heap.size wr wx) (h1 : OwnE w' b cap (allE L k ++ [aE L k])) (h2 : Fr (fun k => v.ownBlock = some k) wx w') (h3 : v.ownBlock = some b ∨ wx.heap.size ≤ b) (hr : rt L k = true) :
    EsI w w' L (.slice (some ⟨b, 0, none⟩) (k + 1) cap) (k + 1) := by
  refine ⟨?_, ?_, fun j hj => ?_⟩
  · exact (h.bel.trans (hb.mono h.bel.size)).trans (h2.below _ (fun k hk => h.row.far k hk) (Nat.le_trans h.bel.size hb.size))
  · rw [← allE_succ] at h1
    have := RowE.own (B := w.heap.size) h1 (by
      rcases h3 with e | e
      · exact h.row.far b e
      · exact Nat.le_trans (Nat.le_trans h.bel.size hb.size) e)
    rwa [allE_len] at this
  · by_cases e : j = k
    · subst e; exact hr
    · exact h.ok j (by omega)
theorem entries_size (w : World) (a : Option Addr) (n c : Nat) (h : n ≠ 512) : Calls Tryd.prog 29 #[.slice a n c] w fun e w' => e = .returned (.tuple #[.slice none 0 0, .int .i64 32]) ∧ w = w' := by
  go_enter Tryd.func29, Tryd.ntmps29
  go_wp2_with (go_at_call 23; refine (isBlock_no _ _ _ _ h).mono ?_; rintro e w' ⟨rfl, rfl⟩)
  go_ret2
  exact ⟨rfl, rfl⟩
def lenV : Value → Nat
  | .slice _ n _ => n
  | _ => 0
set_option maxRecDepth 100000 in
set_option maxHeartbeats 4000000 in
theorem entries_any (w : World) (g o c : Nat) (L : List Int) (hn : L.length = 512) (hO : Bytes w (some ⟨g, o, none⟩) L) (hc : 512 ≤ c) (hT : TabAt w) :
    Calls Tryd.prog 29 #[.slice (some ⟨g, o, none⟩) 512 c] w fun e w' => Below w.heap.size w w' ∧ (((∀ k, k < 16 → rt L k = true) ∧ ∃ b cap, e = .returned (.tuple #[.slice (some ⟨b, 0, none⟩) 16 cap, .int .i64 0]) ∧ w.heap.size ≤ b ∧ OwnE w' b cap (allE L 16)) ∨ ((∃ k, k < 16 ∧ rt L k = false) ∧ e = .returned (.tuple #[.slice none 0 0, .int .i64 140]))) := by
  have HE : Hid (∀ wx k, k < 16 → Below w.heap.size w wx → Calls Tryd.prog 42 #[.slice (some ⟨g, o, none⟩) 512 c, .int .i64 (k : Nat)] wx fun e w' => e = .returned (.tuple #[.agg #[.int .i64 (k : Nat), .string (eN L k), .int .i64 (inc L k)], .bool (rt L k)]) ∧ Below wx.heap.size wx w') := fun wx k hk hb => entry_any wx g o c L k hn (hO.on hb) hc (hT.on hb) hk
  clear hO hT hn hc
  go_enter Tryd.func29, Tryd.ntmps29
  go_wp2_with (go_at_call 23; refine (isBlock_yes _ _ _).mono ?_; rintro e w' ⟨rfl, rfl⟩)
  go_loopw [4, 11] (fun v i wr => ∃ k : Nat, k ≤ 16 ∧ i = .int .i64 k ∧ EsI w wr L v k) (fun _ i _ => 16 - (intOf i).toNat)
  case atStart => exact ⟨0, Nat.zero_le _, rfl, Below.refl _ _, RowE.nil _ _, fun j h => absurd h (by omega)⟩
  case round =>
    obtain ⟨k, hk, rfl, hI⟩ := hrel
    have HI : Hid (EsI w wr L _ k) := hI
    clear hI
    by_cases hlt : k < 16
    · have hlt' : (k : Int) < 16 := by omega
      cases hr : rt L k with
      | false =>
        go_wp2_with (go_at_call 42; refine (HE.out _ k hlt HI.out.bel).mono ?_; rw [hr]; rintro e w' ⟨rfl, hb⟩; have HB : Hid _ := hb; clear hb)
        go_ret2
        refine ⟨?_, .inr ⟨⟨k, hlt, hr⟩, rfl⟩⟩
        exact HI.out.bel.trans (((HB.out.trans ((Below.refl _ _).alloc (by exact HB.out.size) _))).mono HI.out.bel.size)
      | true =>
        have hal : Hid (∀ wz : World, (wz.alloc (.cells #[.int .i64 (k : Nat), .string (eN L k), .int .i64 (inc L k)] 27)).heap.size = wz.heap.size + 1 ∧ Below wz.heap.size wz (wz.alloc (.cells #[.int .i64 (k : Nat), .string (eN L k), .int .i64 (inc L k)] 27))) := fun wz => ⟨by simp, (Below.refl _ _).alloc (Nat.le_refl _) _⟩
        go_wp2_with (first
          | (go_at_call 42; refine (HE.out _ k hlt HI.out.bel).mono ?_; rw [hr]; rintro e w' ⟨rfl, hb⟩; have HB : Hid _ := hb; clear hb)
          | (at_builtin; refine wp_ent (wx := w'.alloc (.cells #[.int .i64 (k : Nat), .string (eN L k), .int .i64 (inc L k)] 27)) rfl (.tmp 22) (.tmp 24) rfl u4 (allE L k) rfl (w'.heap.size + 1) (hal.out w').1 rfl (aE L k) ?_ ?_ ?_
             · exact ((HI.out.row.on HB.out).on (hal.out w').2).row
             · rw [allE_len]; omega
             rw [allE_len]
             intro b2 cap2 w10 hR hF hor
             have H10 : Hid (EsI w w10 L (.slice (some ⟨b2, 0, none⟩) (k + 1) cap2) (k + 1)) := HI.out.app (HB.out.trans ((hal.out w').2.mono HB.out.size)) hR hF hor hr
             clear hR hF hor))
        go_roundw
        case rel => exact ⟨k + 1, by omega, by go_num, H10.out⟩
        case measure => simp [intOf]; omega
    · have hlt' : ¬ (k : Int) < 16 := by omega
      obtain rfl : k = 16 := by omega
      obtain ⟨b, cap, hv, ho, hb⟩ := HI.out.row.some (by intro e; have := allE_len L 16; rw [e] at this; cases this)
      rw [allE_len] at hv
      subst hv
      have HP : Hid (w.heap.size ≤ b ∧ OwnE wr b cap (allE L 16)) := ⟨hb, ho⟩
      clear hb ho
      go_wp2
      go_ret2
      exact ⟨HI.out.bel, .inl ⟨HI.out.ok, b, cap, rfl, HP.out.1, HP.out.2⟩⟩
end Go.Proofs.YtaaeahpmnfifiaaDoor
