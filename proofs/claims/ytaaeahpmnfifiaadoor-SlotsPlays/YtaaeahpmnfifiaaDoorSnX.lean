import Derived.Test.YtaaeahpmnfifiaaDoorSnW
import Derived.Test.YtaaeahpmnfifiaaDoorSnV
namespace Go.Proofs.YtaaeahpmnfifiaaDoor
open Go.RowKit Rec Sc
/-- a row of lists: the slices themselves -/
theorem infoL : (Tryd.prog.info? 36).map (fun i => (i.zero, i.size, i.bytes)) = some (some (.slice none 0 0), 1, 24) := by kernel_rfl
/-- append of one list to a row of lists -/
theorem wp_lst {ops : Array Oper} {rest : List Oper} {o : Oper} {a : Act} {Q : Exit → Act → World → Prop} {wx : World} (hgd : o.guard = none) (s x : Operand)
    (ho : o.op = .call { callee := .builtin .append, args := #[s, x], argTypes := #[56, 56] }) (v : Value) (vs : List Value) (hs : a.eval s = v) (P : Nat) (hP : wx.heap.size = P) (hx : a.eval x = .slice (some ⟨P, 0, none⟩) 1 1)
    (u : Value) (hu : u.oneCell' = true) (hR : wx.ownsRow 0 36 1 v vs.length vs) (hn : vs.length ≤ 3000000000000)
    (h : ∀ b cap w', w'.ownsRow 0 36 1 (.slice (some ⟨b, 0, none⟩) (vs.length + 1) cap) (vs.length + 1) (vs ++ [u]) → Fr (fun k => v.ownBlock = some k) wx w' → (v.ownBlock = some b ∨ wx.heap.size ≤ b) → wpList Tryd.prog ops Q rest (a.put o.dst (.slice (some ⟨b, 0, none⟩) (vs.length + 1) cap)) w') :
    wpList Tryd.prog ops Q (o :: rest) a (wx.alloc (.cells #[u] 36)) := by
  subst hP
  obtain ⟨i0, hi, hz0, hz1, hz2⟩ := info_parts infoL
  have hal : Below wx.heap.size wx (wx.alloc (.cells #[u] 36)) := (Below.refl _ _).alloc (Nat.le_refl _) _
  refine wp_own hgd s x 56 ho 36 i0 _ 1 24 Tryd.underlying56 hi hz0 hz1 hz2 rfl (by decide) v vs.length _ hs (owns_fr hR (below_fr hal (fun _ => False)) (fun _ _ e => e)) ⟨wx.heap.size, 0, none⟩ 1 1 [u] hx (by decide) rfl (fun j w hj => ?_) (fun w hw => ?_) (by unfold maxLen; omega) (by omega) ?_
  · match j, hj with
    | 0, hj => cases hj; rw [Addr.add_lit, cell_of_row _ _ _ _ _ _ (heap_alloc_new _ _)]; rfl
  · rw [List.mem_singleton.1 hw]; exact hu
  · intro b cap w' h1 h2 h3
    refine h b cap w' h1 ((below_fr hal (fun k => v.ownBlock = some k)).trans h2 (fun k hk => .inl hk)) ?_
    rcases h3 with h3 | h3
    · exact .inl h3
    · exact .inr (Nat.le_trans hal.size h3)
/-- the mark of the k-th list -/
def mkE (k : Nat) : ET := (-2 - (k : Int), ⟨#[109, 97, 114, 107]⟩, 0)
/-- Read of any bytes, its list in a row of one's own -/
theorem readR (w : World) (g c : Nat) (L : List Int) (hB : Bytes w (some ⟨g, 0, none⟩) L) (hc : L.length ≤ c) (hT : TabAt w) :
    Calls Tryd.prog 13 #[.slice (some ⟨g, 0, none⟩) L.length c] w fun e w' => ∃ v, e = .returned (.tuple #[v, .int .i64 (erU L)]) ∧ RowE w.heap.size w' v (tlU L) ∧ Below w.heap.size w w' := by
  by_cases h : L.length = 512
  · rw [h] at hc ⊢
    refine (read_any w g 0 c L h hB hc hT).mono ?_
    rintro e w' ⟨hb, ⟨hr, b, cap, h1, h2, h3⟩ | ⟨hr, h1⟩⟩
    · obtain ⟨e1, e2, _⟩ := er_ok h hr
      rw [e1, e2]
      exact ⟨_, h1, RowE.own h3 h2, hb⟩
    · obtain ⟨e1, e2, _⟩ := er_no h hr
      rw [e1, e2]
      exact ⟨_, h1, RowE.nil _ _, hb⟩
  · obtain ⟨e1, e2, _⟩ := er_size h
    rw [e1, e2]
    refine (read_size w _ _ c h).mono ?_
    rintro e w' ⟨h1, rfl⟩
    exact ⟨_, h1, RowE.nil _ _, Below.refl _ _⟩
/-- a list that is told, in blocks at or above B that are none of S -/
def LsAt (w : World) (B : Nat) (S : Nat → Prop) (v : Value) (xs : List ET) : Prop := ∃ a c, v = .slice a xs.length c ∧ EntAt w a xs ∧ ∀ p, a = some p → B ≤ p.block ∧ ¬ S p.block
theorem EntAt.fr {S : Nat → Prop} {w w' : World} {a : Option Addr} {xs : List ET} (h : EntAt w a xs) (x : Fr S w w') (hS : ∀ p, a = some p → ¬ S p.block) : EntAt w' a xs := by
  rcases h with h | ⟨b, e, hc⟩
  · exact .inl h
  · refine .inr ⟨b, e, fun k q hq => ?_⟩
    obtain ⟨c0, c1, c2⟩ := hc k q hq
    have hb := hS _ e
    exact ⟨x.cell c0 hb, x.cell c1 hb, x.cell c2 hb⟩
theorem LsAt.fr {S : Nat → Prop} {w w' : World} {B : Nat} {v : Value} {xs : List ET} (h : LsAt w B S v xs) (x : Fr S w w') : LsAt w' B S v xs := by
  obtain ⟨a, c, h1, h2, h3⟩ := h
  exact ⟨a, c, h1, h2.fr x (fun p hp => (h3 p hp).2), h3⟩
theorem LsAt.on {S : Nat → Prop} {w w' : World} {B : Nat} {v : Value} {xs : List ET} (h : LsAt w B S v xs) (hb : Below w.heap.size w w') : LsAt w' B S v xs := by
  obtain ⟨a, c, h1, h2, h3⟩ := h
  exact ⟨a, c, h1, h2.on hb, h3⟩
/-- of one told list: as it was, its copy, written full, with one more -/
structure EnI (w : World) (B : Nat) (S : Nat → Prop) (k : Nat) (r c f m : Value) : Prop where
  at_ : ∃ T : List ET, T.length ≤ 16 ∧ LsAt w B S r T ∧ LsAt w B S c T ∧ LsAt w B S f (List.replicate T.length (mkE k)) ∧ LsAt w B S m (List.replicate (T.length + 1) (mkE k))
theorem EnI.fr {S : Nat → Prop} {w w' : World} {B k : Nat} {r c f m : Value} (h : EnI w B S k r c f m) (x : Fr S w w') : EnI w' B S k r c f m := by
  obtain ⟨T, h0, h1, h2, h3, h4⟩ := h.at_
  exact ⟨T, h0, h1.fr x, h2.fr x, h3.fr x, h4.fr x⟩
theorem EnI.on {S : Nat → Prop} {w w' : World} {B k : Nat} {r c f m : Value} (h : EnI w B S k r c f m) (hb : Below w.heap.size w w') : EnI w' B S k r c f m := by
  obtain ⟨T, h0, h1, h2, h3, h4⟩ := h.at_
  exact ⟨T, h0, h1.on hb, h2.on hb, h3.on hb, h4.on hb⟩
end Go.Proofs.YtaaeahpmnfifiaaDoor
