import Derived.Test.YtgmccpimpbnnpaaDoorKSpN
import Derived.Deep.AppendLies
import Derived.Test.YtgmccpimpbnnpaaDoorKSpR
import Derived.Test.YtgmccpimpbnnpaaDoorKTxBm
namespace Go.Proofs.YtgmccpimpbnnpaaDoor
open Go.RowKit Go.Maps Rec
theorem infoI10 : (Tryd.prog.info? 3).map (fun i => (i.zero, i.size, i.bytes)) = some (some (.int .i64 0), 1, 8) := by kernel_rfl
set_option maxRecDepth 100000 in
set_option maxHeartbeats 800000 in
theorem iclone_any (w : World) (p : Addr) (n c : Nat) (l : List Int) (hl : l.length = n) (h0 : 0 < n) (h1 : n ≤ 1000) (hc : ∀ j u, (l.map (Value.int .i64))[j]? = some u → w.cell? (p.add j) = some u) :
    Calls Tryd.prog 44 #[.slice (some p) n c] w fun e w' => ∃ g cap, e = .returned (.slice (some ⟨g, 0, none⟩) n cap) ∧ w.heap.size ≤ g ∧ w'.ownsRow 0 3 1 (.slice (some ⟨g, 0, none⟩) n cap) n (l.map (Value.int .i64)) ∧ Below w.heap.size w w' := by
  obtain ⟨i1, j1, j2, j3, j4⟩ := info_parts infoI10
  have E1 : ∀ w : World, (binOp .eql 22 (.slice (some p) n c) (.slice none 0 0)).run Tryd.prog w = .ok (.bool false) w := fun w => Go.Lib.run_eql_slice_some_nil w p n c Tryd.underlying22
  have HA : Hid (Below w.heap.size w (w.alloc (.cells #[] 3))) := (Below.refl _ _).alloc (Nat.le_refl _) _
  have HE : Hid ((w.alloc (.cells #[] 3)).ownsRow w.heap.size 3 1 (.slice (some ⟨w.heap.size, 0, none⟩) 0 0) 0 []) := ⟨rfl, .inr ⟨_, _, _, rfl, Nat.le_refl _, heap_alloc_new _ _, Nat.le_refl _, Nat.zero_le _, rfl, rfl⟩⟩
  have HN : Hid (∀ j u, (l.map (Value.int .i64))[j]? = some u → (w.alloc (.cells #[] 3)).cell? (p.add j) = some u) := fun j u hj => (fr_alloc (fun _ => False) w _).cell (hc j u hj) (fun e => e)
  have HLn : Hid (l.length = n) := hl
  clear hc hl
  go_enter Tryd.func44, Tryd.ntmps44
  go_wp2_with (at_builtin; refine wpList_append_own _ rfl (.tmp 5) (.tmp 6) 22 rfl w.heap.size 3 i1 _ 1 8 Tryd.underlying22 j1 j2 j3 j4 rfl (by decide) (.slice (some ⟨w.heap.size, 0, none⟩) 0 0) 0 [] rfl HE.out p n c (l.map (Value.int .i64)) rfl (by rw [List.length_map, HLn.out]; omega) HN.out (by intro u hu; obtain ⟨z, _, rfl⟩ := List.mem_map.1 hu; rfl) (by unfold maxLen; omega) (by omega) HA.out.size ?_; intro v' w' ho hg hn; have HZ : Hid (w'.ownsRow w.heap.size 3 1 v' (0 + n) ([] ++ l.map (Value.int .i64)) ∧ (w.alloc (.cells #[] 3)).grownBy w' (some w.heap.size)) := ⟨ho, hg⟩; clear ho hg hn)
  go_ret
  have ho := HZ.out.1
  rw [Nat.zero_add, List.nil_append] at ho
  have hbel := HA.out.grown HZ.out.2 HA.out.size (by intro k hk; cases hk; exact Nat.le_refl _)
  rcases ho.2 with ⟨_, e⟩ | ⟨g, cap, cur, e, h2, h3, h4, h5, h6, h7⟩
  · omega
  · subst e
    exact ⟨g, cap, rfl, h2, ⟨ho.1, .inr ⟨g, cap, cur, rfl, Nat.zero_le _, h3, h4, h5, h6, h7⟩⟩, hbel⟩
theorem below_app {wa W1 w2 : World} {g : Nat} (hb : Below wa.heap.size wa W1) (hg : wa.heap.size ≤ g) (hgrow : W1.grownBy w2 (some g)) : Below wa.heap.size wa w2 := hb.trans (below_of hgrow hg hb.size)
set_option maxRecDepth 100000 in
set_option maxHeartbeats 8000000 in
theorem ownRow_any (w : World) (x : Nat → Int) : Calls Tryd.prog 20 #[inV x] w fun e w' => ∃ g cap, e = .returned (.agg #[.int .i64 0, .slice (some ⟨g, 0, none⟩) 12 cap]) ∧ w.heap.size ≤ g ∧ OwnI w' g cap (inN x) ∧ Below w.heap.size w w' := by
  obtain ⟨i1, j1, j2, j3, j4⟩ := info_parts infoI10
  unfold inV
  obtain ⟨wa, hwa⟩ : ∃ wa, (w.alloc (.cells #[.int .i64 (x 0), .int .i64 (x 1), .int .i64 (x 2), .int .i64 (x 3), .int .i64 (x 4), .int .i64 (x 5), .int .i64 (x 6), .int .i64 (x 7), .int .i64 (x 8), .int .i64 (x 9), .int .i64 (x 10), .int .i64 (x 11), .int .i64 (x 12), .int .i64 (x 13), .int .i64 (x 14)] 35)).alloc (.cells #[.int .i64 0, .slice none 0 0] 69) = wa := ⟨_, rfl⟩
  have HA : Hid (Below w.heap.size w wa ∧ wa.heap[w.heap.size]? = some (.cells #[.int .i64 (x 0), .int .i64 (x 1), .int .i64 (x 2), .int .i64 (x 3), .int .i64 (x 4), .int .i64 (x 5), .int .i64 (x 6), .int .i64 (x 7), .int .i64 (x 8), .int .i64 (x 9), .int .i64 (x 10), .int .i64 (x 11), .int .i64 (x 12), .int .i64 (x 13), .int .i64 (x 14)] 35 (0, 0)) ∧ wa.heap[w.heap.size + 1]? = some (.cells #[.int .i64 0, .slice none 0 0] 69 (0, 0)) ∧ wa.heap.size = w.heap.size + 2) := by
    rw [← hwa]
    refine ⟨(below_new _).alloc (by simp) _, (Below.heap_alloc _ _ _ (by simp)).trans (heap_alloc_new _ _), ?_, by simp⟩
    have := heap_alloc_new (w.alloc (.cells #[.int .i64 (x 0), .int .i64 (x 1), .int .i64 (x 2), .int .i64 (x 3), .int .i64 (x 4), .int .i64 (x 5), .int .i64 (x 6), .int .i64 (x 7), .int .i64 (x 8), .int .i64 (x 9), .int .i64 (x 10), .int .i64 (x 11), .int .i64 (x 12), .int .i64 (x 13), .int .i64 (x 14)] 35)) (.cells #[.int .i64 0, .slice none 0 0] 69)
    rw [World.size_alloc] at this
    exact this
  have HX : Hid (∀ wx, Below wa.heap.size wa wx → wx.cell? ⟨w.heap.size, 13, none⟩ = some (.int .i64 (x 13)) ∧ wx.cell? ⟨w.heap.size, 14, none⟩ = some (.int .i64 (x 14)) ∧ wx.cell? ⟨w.heap.size + 1, 0, none⟩ = some (.int .i64 0) ∧ wx.cell? ⟨w.heap.size + 1, 1, none⟩ = some (.slice none 0 0) ∧ wx.frozen? ⟨w.heap.size + 1, 0, none⟩ = false ∧ wx.frozen? ⟨w.heap.size + 1, 1, none⟩ = false) := fun wx hb => by
    have h1 := (hb.block _ (heap_lt HA.out.2.1)).trans HA.out.2.1
    have h2 := (hb.block _ (heap_lt HA.out.2.2.1)).trans HA.out.2.2.1
    refine ⟨?_, ?_, ?_, ?_, ?_, ?_⟩
    · rw [cell_of_row _ _ _ _ _ _ h1]; rfl
    · rw [cell_of_row _ _ _ _ _ _ h1]; rfl
    · rw [cell_of_row _ _ _ _ _ _ h2]; rfl
    · rw [cell_of_row _ _ _ _ _ _ h2]; rfl
    · exact frozen_of_row _ _ _ _ _ h2
    · exact frozen_of_row _ _ _ _ _ h2
  have HCl : Hid (∀ wx, Below wa.heap.size wa wx → Calls Tryd.prog 44 #[.slice (some ⟨w.heap.size, 3, none⟩) 10 10] wx fun e w' => ∃ g cap, e = .returned (.slice (some ⟨g, 0, none⟩) 10 cap) ∧ wa.heap.size ≤ g ∧ w'.ownsRow 0 3 1 (.slice (some ⟨g, 0, none⟩) 10 cap) 10 (inD x) ∧ Below wa.heap.size wa w' ∧ Below wx.heap.size wx w') := fun wx hb => by
    have h1 := (hb.block _ (heap_lt HA.out.2.1)).trans HA.out.2.1
    refine (iclone_any wx ⟨w.heap.size, 3, none⟩ 10 10 [x 3, x 4, x 5, x 6, x 7, x 8, x 9, x 10, x 11, x 12] rfl (by omega) (by omega) (fun j u hj => ?_)).mono ?_
    · match j, hj with
      | 0, hj | 1, hj | 2, hj | 3, hj | 4, hj | 5, hj | 6, hj | 7, hj | 8, hj | 9, hj => cases hj; rw [Addr.add_lit, cell_of_row _ _ _ _ _ _ h1]; rfl
    · rintro e w' ⟨g, cap, rfl, g1, g2, g3⟩
      exact ⟨g, cap, rfl, Nat.le_trans hb.size g1, g2, hb.trans (g3.mono hb.size), g3⟩
  obtain ⟨z13, z14, c0, c1, f0, f1⟩ := HX.out _ (Below.refl _ _)
  go_enter Tryd.func20, Tryd.ntmps20
  go_upto_region 1 with (fail)
  have HD : Hid (Below wa.heap.size wa wa.drew) := (Below.refl _ _).drew
  have HD2 : Hid (∀ o, Below wa.heap.size wa (wa.drew.alloc o)) := fun o => HD.out.alloc HD.out.size o
  go_region_held3 (fun w' => w'.cell? ⟨w.heap.size, 13, none⟩ = some (.int .i64 (x 13)) ∧ w'.cell? ⟨w.heap.size, 14, none⟩ = some (.int .i64 (x 14))) (go_keep)
    (first
      | (go_at_call 44; refine (HCl.out _ HD.out).mono ?_; rintro e w1 ⟨g, cap, rfl, h1, h2, h3, h4⟩; have H1 : Hid (wa.heap.size ≤ g ∧ w1.ownsRow 0 3 1 (.slice (some ⟨g, 0, none⟩) 10 cap) 10 (inD x) ∧ Below wa.heap.size wa w1) := ⟨h1, h2, h3⟩; obtain ⟨y13, y14, y0, y1, y2, y3⟩ := HX.out _ H1.out.2.2; clear h1 h2 h3 h4)
      | (go_at_call 44; refine (HCl.out _ (HD2.out _)).mono ?_; rintro e w1 ⟨g, cap, rfl, h1, h2, h3, h4⟩; have H1 : Hid (wa.heap.size ≤ g ∧ w1.ownsRow 0 3 1 (.slice (some ⟨g, 0, none⟩) 10 cap) 10 (inD x) ∧ Below wa.heap.size wa w1) := ⟨h1, h2, h3⟩; have H1b : Hid (w1.heap[wa.heap.size]? = some (.cells #[.int .i64 (x 13), .int .i64 (x 14)] 3 (0, 0))) := (h4.block wa.heap.size (by simp)).trans (heap_alloc_new wa.drew _); obtain ⟨y13, y14, y0, y1, y2, y3⟩ := HX.out _ H1.out.2.2; clear h1 h2 h3 h4)
      | (refine step_append_lies _ (by rfl) (.tmp 5) (.tmp 10) 22 (by rfl) 0 3 i1 _ 1 8 Tryd.underlying22 j1 j2 j3 j4 (by rfl) (by decide) (.slice (some ⟨g, 0, none⟩) 10 cap) 10 (inD x) (by rfl) (owns_fr H1.out.2.1 (fr_alloc (fun _ => False) w1 _) (fun _ _ e => e)) ⟨w1.heap.size, 0, none⟩ 2 2 [.int .i64 (x 13), .int .i64 (x 14)] (by rfl) (by rfl) (World.news_of_block (heap_alloc_new w1 _)) (by intro u hu; rcases List.mem_cons.1 hu with rfl | hu; rfl; rw [List.mem_singleton.1 hu]; rfl) (by decide) (by unfold maxLen; omega) (by omega) (Nat.zero_le _) _ rfl ?_; intro g2 cap2 w2 hown hgrow hat hlt; have H2 : Hid (wa.heap.size ≤ g2 ∧ w2.ownsRow 0 3 1 (.slice (some ⟨g2, 0, none⟩) 12 cap2) 12 (inD x ++ [.int .i64 (x 13), .int .i64 (x 14)]) ∧ Below wa.heap.size wa w2) := ⟨(by rcases hat with e | e; injection e with e; rw [← e]; exact H1.out.1; rw [e]; exact (H1.out.2.2.alloc H1.out.2.2.size _).size), hown, below_app (H1.out.2.2.alloc H1.out.2.2.size _) H1.out.1 hgrow⟩; obtain ⟨v13, v14, v0, v1, v2, v3⟩ := HX.out _ H2.out.2.2; clear hown hgrow hat hlt)
      | (refine step_append_lies _ (by rfl) (.tmp 5) (.tmp 10) 22 (by rfl) 0 3 i1 _ 1 8 Tryd.underlying22 j1 j2 j3 j4 (by rfl) (by decide) (.slice (some ⟨g, 0, none⟩) 10 cap) 10 (inD x) (by rfl) H1.out.2.1 ⟨wa.heap.size, 0, none⟩ 2 2 [.int .i64 (x 13), .int .i64 (x 14)] (by rfl) (by rfl) (World.news_of_block H1b.out) (by intro u hu; rcases List.mem_cons.1 hu with rfl | hu; rfl; rw [List.mem_singleton.1 hu]; rfl) (by decide) (by unfold maxLen; omega) (by omega) (Nat.zero_le _) _ rfl ?_; intro g2 cap2 w2 hown hgrow hat hlt; have H2 : Hid (wa.heap.size ≤ g2 ∧ w2.ownsRow 0 3 1 (.slice (some ⟨g2, 0, none⟩) 12 cap2) 12 (inD x ++ [.int .i64 (x 13), .int .i64 (x 14)]) ∧ Below wa.heap.size wa w2) := ⟨(by rcases hat with e | e; injection e with e; rw [← e]; exact H1.out.1; rw [e]; exact (H1.out.2.2).size), hown, below_app (H1.out.2.2) H1.out.1 hgrow⟩; obtain ⟨v13, v14, v0, v1, v2, v3⟩ := HX.out _ H2.out.2.2; clear hown hgrow hat hlt))
  all_goals go_wp2
  all_goals (
    refine bodyPost_ret (v := .agg #[.int .i64 0, .slice (some ⟨g2, 0, none⟩) 12 cap2]) (res_row9 (fn := Tryd.f20) (p := 2) (ty := 69) rfl _ _ (w.heap.size + 1) #[.int .i64 0, .slice (some ⟨g2, 0, none⟩) 12 cap2] rfl ?_) rfl ?_
    · simp [go_sem, v0, v1]
    · have hf : Fr (fun i => i = w.heap.size + 1) w2 ((w2.setCell ⟨w.heap.size + 1, 0, none⟩ (.int .i64 0)).setCell ⟨w.heap.size + 1, 1, none⟩ (.slice (some ⟨g2, 0, none⟩) 12 cap2)) := (Fr.set (g := w.heap.size + 1)).trans (Fr.set (g := w.heap.size + 1)) (fun _ h => .inl h)
      have hs := HA.out.2.2.2
      have hg := H2.out.1
      have hbw : Below w.heap.size w w2 := HA.out.1.trans (H2.out.2.2.mono HA.out.1.size)
      have hrow : w2.ownsRow 0 3 1 (.slice (some ⟨g2, 0, none⟩) 12 cap2) 12 ((inN x).map (Value.int .i64)) := H2.out.2.1
      refine ⟨g2, cap2, rfl, by omega, (OwnI.of hrow (inN_length x) (by omega)).fr hf (fun e => ?_), hbw.trans (hf.below _ (fun k hk => by have hk : k = w.heap.size + 1 := hk; omega) hbw.size)⟩
      have e : g2 = w.heap.size + 1 := e
      omega)
end Go.Proofs.YtgmccpimpbnnpaaDoor

namespace Go.Proofs.YtgmccpimpbnnpaaDoor
open Go.RowKit Go.Maps Rec
structure SMv (S : Nat → Prop) (w : World) (T : Tx) (w' : World) (T' : Tx) : Prop where
  fr : Fr (fun k => T.has k ∨ S k) w w'
  al : ∀ k, T'.all k → T.all k ∨ w.heap.size ≤ k
  has : ∀ k, T'.has k → T.has k ∨ w.heap.size ≤ k
  t : T'.t = T.t
  d : T'.d = T.d
  nb : T'.nb = T.nb
theorem SMv.refl (S : Nat → Prop) (w : World) (T : Tx) : SMv S w T w T := ⟨Fr.refl _ _, fun _ h => .inl h, fun _ h => .inl h, rfl, rfl, rfl⟩
theorem SMv.of {S : Nat → Prop} {w w' : World} {T T' : Tx} (x : TMv w T w' T') : SMv S w T w' T' := ⟨x.fr.mono (fun _ h => .inl h), x.al, x.has, x.t, x.d, x.nb⟩
theorem SMv.fr_ {S : Nat → Prop} {w w' : World} {T : Tx} (x : Fr S w w') : SMv S w T w' T := ⟨x.mono (fun _ h => .inr h), fun _ h => .inl h, fun _ h => .inl h, rfl, rfl, rfl⟩
theorem SMv.on {S : Nat → Prop} {w w' : World} {T : Tx} (x : Below w.heap.size w w') : SMv S w T w' T := SMv.of (TMv.on x)
theorem SMv.trans {S S' : Nat → Prop} {w w' w'' : World} {T T' T'' : Tx} (x : SMv S w T w' T') (y : SMv S' w' T' w'' T'') (h : ∀ k, S' k → S k ∨ w.heap.size ≤ k) : SMv S w T w'' T'' :=
  ⟨x.fr.trans y.fr (fun k hk => hk.elim (fun e => (x.has k e).elim (fun e => .inl (.inl e)) .inr) (fun e => (h k e).elim (fun e => .inl (.inr e)) .inr)), fun k hk => (y.al k hk).elim (x.al k) (fun e => .inr (Nat.le_trans x.fr.size e)), fun k hk => (y.has k hk).elim (x.has k) (fun e => .inr (Nat.le_trans x.fr.size e)), y.t.trans x.t, y.d.trans x.d, y.nb.trans x.nb⟩
structure Out (w0 w : World) (D : Dk) (T : Tx) (g : Nat) : Prop where
  far : w0.heap.size ≤ g
  tx : ¬ T.all g
  dk : ¬ D.all g
  lt : g < w.heap.size
theorem Out.of {w0 w w1 : World} {D : Dk} {T : Tx} {n g : Nat} (h : Spc w0 w D T n) (h1 : w.heap.size ≤ g) (h2 : g < w1.heap.size) : Out w0 w1 D T g :=
  ⟨Nat.le_trans h.ses.bel.size h1, fun e => by have := h.ses.tx.lt e; omega, fun e => by have := h.ses.dk.disk.allLt e; omega, h2⟩
theorem Out.mv {S : Nat → Prop} {w0 w w' : World} {D : Dk} {T T' : Tx} {g : Nat} (h : Out w0 w D T g) (x : SMv S w T w' T') : Out w0 w' D T' g :=
  ⟨h.far, fun e => by have := h.lt; rcases x.al g e with e | e; exact h.tx e; omega, h.dk, Nat.lt_of_lt_of_le h.lt x.fr.size⟩
theorem Out.no {w0 w : World} {D : Dk} {T : Tx} {g : Nat} (h : Out w0 w D T g) : ¬ T.has g := fun e => h.tx (.inl e)
theorem Spc.frG {w0 w w' : World} {D : Dk} {T : Tx} {n : Nat} {S : Nat → Prop} (h : Spc w0 w D T n) (x : Fr S w w') (hS : ∀ k, S k → w.heap.size ≤ k ∨ Out w0 w D T k) : Spc w0 w' D T n :=
  ⟨h.ses.fr x (fun k hk => (hS k hk).elim (fun e => Nat.le_trans h.ses.bel.size e) (fun e => e.far)) (fun k hk e => (hS k e).elim (fun e => by have := h.ses.tx.lt hk; omega) (fun e => e.tx hk)) (fun k hk e => (hS k e).elim (fun e => by have := h.ses.dk.disk.allLt hk; omega) (fun e => e.dk hk)), h.dn, h.nb, h.lo, h.hi, h.ok⟩
theorem undo_app (c : Cm) (a b : List Un) : undo c (a ++ b) = undo (undo c b) a := by simp [undo]
theorem Ext.trans {T T' T'' : Tx} {k l : Nat} (h : Ext T T' k) (h2 : Ext T' T'' l) : Ext T T'' (k + l) := by
  obtain ⟨e, h3, h4, h5⟩ := h
  obtain ⟨f, h6, h7, h8⟩ := h2
  refine ⟨e ++ f, by rw [h6, h3, List.append_assoc], by rw [List.length_append, h4, h7], ?_⟩
  rw [undo_app, h8, h5]
theorem Ext.us {T T' : Tx} {k : Nat} (h : Ext T T' k) : T'.us.length = T.us.length + k := by
  obtain ⟨e, h3, h4, _⟩ := h
  rw [h3, List.length_append, h4]
theorem take_tvx {w0 w w' : World} {D : Dk} {T T' : Tx} {n i : Nat} (_h : Spc w0 w D T n) (g : TakE w0 w w' D T T' n i) (h1 : i < n) (j : Nat) (hj : ¬ (98 ≤ j ∧ j < 98 + nM n)) : tv D T' j = if j = i then zn 512 else tv D T j := by
  obtain ⟨q, q2, hc, _, hx2⟩ := g.c
  have hk : i / 4096 < nM n := by unfold nM; omega
  unfold tv
  rw [hc]
  by_cases e : j = i
  · subst e; rw [ups_same, if_pos rfl]; exact hx2
  · rw [ups_other _ _ e, ups_other _ _ (by omega), if_neg e]
def Dom (T T' : Tx) : Prop := ∀ j, (T.c j).isSome = true → (T'.c j).isSome = true
theorem Dom.trans {T T' T'' : Tx} (h : Dom T T') (g : Dom T' T'') : Dom T T'' := fun j e => g j (h j e)
theorem dom_ups {T T' : Tx} {a : Nat} {q : Bk} (hc : T'.c = ups T.c a (some q)) : Dom T T' := fun j e => by
  rw [hc]
  by_cases e2 : j = a
  · subst e2; rw [ups_same]; rfl
  · rw [ups_other _ _ e2]; exact e
theorem dom_take {w0 w w' : World} {D : Dk} {T T' : Tx} {n i : Nat} (g : TakE w0 w w' D T T' n i) : Dom T T' ∧ (T'.c i).isSome = true ∧ (T'.c (98 + i / 4096)).isSome = true := by
  obtain ⟨q, q2, hc, _, _⟩ := g.c
  refine ⟨fun j e => ?_, by rw [hc, ups_same]; rfl, ?_⟩
  · rw [hc]
    by_cases e2 : j = i
    · subst e2; rw [ups_same]; rfl
    · rw [ups_other _ _ e2]
      by_cases e3 : j = 98 + i / 4096
      · subst e3; rw [ups_same]; rfl
      · rw [ups_other _ _ e3]; exact e
  · rw [hc]
    by_cases e2 : 98 + i / 4096 = i
    · rw [← e2] at *; rw [e2, ups_same]; rfl
    · rw [ups_other _ _ e2, ups_same]; rfl
end Go.Proofs.YtgmccpimpbnnpaaDoor

namespace Go.Proofs.YtgmccpimpbnnpaaDoor
open Go.RowKit Go.Maps Rec
structure PuE (w0 w w' : World) (D : Dk) (T T' : Tx) (n tb : Nat) (ns : List Int) (z : Int) : Prop where
  mv : TMv w T w' T'
  spc : Spc w0 w' D T' n
  or : (z = 0 ∧ ((tb = 0 ∧ T' = T) ∨ (tb ≠ 0 ∧ (∃ q : Bk, T'.c = ups T.c tb (some q) ∧ q.x = rb ns) ∧ ∃ u : Un, T'.us = T.us ++ [u] ∧ u.i = tb ∧ u.old = T.c tb))) ∨ (z = 60 ∧ T' = T ∧ T.c tb = none ∧ (lst T.c n).length = 96)
theorem put_any (w0 w : World) (D : Dk) (T : Tx) (n : Nat) (h : Spc w0 w D T n) (hT : TabAt w0) (tb len g cap : Nat) (ns : List Int) (ho : OwnI w g cap ns) (hl : ns.length = len) (hc : (tb = 0 ∧ len = 12) ∨ (nD n ≤ tb ∧ tb < n ∧ len = 128 ∧ ∀ i, 0 ≤ nth ns i ∧ nth ns i < 4294967296)) (hu : T.us.length + 1 ≤ 1000000) :
    Calls Tryd.prog 51 #[.agg #[.int .i64 (tb : Int), .slice (some ⟨g, 0, none⟩) len cap], .pointer (some ⟨T.t, 0, none⟩)] w fun e w' => ∃ z, e = .returned (.int .i64 z) ∧ ∃ T', PuE w0 w w' D T T' n tb ns z := by
  have hN := nM_bd h.lo h.hi
  rcases hc with ⟨rfl, rfl⟩ | ⟨h0, h1, rfl, hn⟩
  · refine (rput_own w (.pointer (some ⟨T.t, 0, none⟩)) (some ⟨g, 0, none⟩) 12 cap).mono ?_
    rintro e w' ⟨rfl, hb⟩
    exact ⟨0, rfl, T, TMv.on hb, h.on hb, .inl ⟨rfl, .inl ⟨rfl, rfl⟩⟩⟩
  · refine rput_with w tb g cap T.t ns (fun z w' => ∃ T', PuE w0 w w' D T T' n tb ns z) (hT.on h.ses.bel) ho hl hn (by omega) (fun wx gb hb hg hB => ?_)
    have hx := h.on hb
    by_cases hr : (T.c tb).isSome = true ∨ (lst T.c n).length < 96
    · refine (hx.write tb (by omega) h1 ⟨gb, 0, none⟩ 512 (rb ns) hB.bytes (rbk_length _ _) hr hu).mono ?_
      rintro e w' ⟨rfl, T', hw⟩
      refine ⟨0, rfl, T', (TMv.on hb).trans hw.mv, hw.spc, .inl ⟨rfl, .inr ⟨by omega, hw.c, hw.u⟩⟩⟩
    · have hcn : (lst T.c n).length ≤ 96 := by have := h.ses.tx.cnt; rw [h.nb] at this; exact this
      have h96 : (lst T.c n).length = 96 := by have := fun e => hr (.inr e); omega
      have hno : T.c tb = none := by
        cases e : T.c tb
        · rfl
        · exact absurd (.inl (by rw [e]; rfl)) hr
      refine (twrite_big wx T D hx.ses.tx hx.ses.dk.disk hx.ses.d hx.ses.nb tb (by omega) (by rw [hx.nb]; exact h1) (some ⟨gb, 0, none⟩) 512 hno (by rw [hx.nb]; exact h96)).mono ?_
      rintro e w' ⟨rfl, hb2⟩
      exact ⟨60, rfl, T, (TMv.on hb).trans (TMv.on hb2), hx.on hb2, .inr ⟨rfl, rfl, hno, h96⟩⟩
structure Gon (w0 w w' : World) (D : Dk) (T T' : Tx) (n : Nat) (S : Nat → Prop) : Prop where
  mv : SMv S w T w' T'
  spc : Spc w0 w' D T' n
  dom : Dom T T'
theorem Gon.trans {w0 w w' w'' : World} {D : Dk} {T T' T'' : Tx} {n : Nat} {S S' : Nat → Prop} (x : Gon w0 w w' D T T' n S) (y : Gon w0 w' w'' D T' T'' n S') (h : ∀ k, S' k → S k ∨ w.heap.size ≤ k) : Gon w0 w w'' D T T'' n S := ⟨x.mv.trans y.mv h, y.spc, x.dom.trans y.dom⟩
theorem Gon.on {w0 w w' : World} {D : Dk} {T : Tx} {n : Nat} {S : Nat → Prop} (h : Spc w0 w D T n) (hb : Below w.heap.size w w') : Gon w0 w w' D T T n S := ⟨SMv.on hb, h.on hb, fun _ e => e⟩
structure BtO (D : Dk) (T T' : Tx) (n i tb a : Nat) (ns : List Int) : Prop where
  lo : IsLo (fd (nD n) n (bmp D T)) i
  fdE : fd (nD n) n (bmp D T') = upN (fd (nD n) n (bmp D T)) i false
  tvE : ∀ b, ¬ (98 ≤ b ∧ b < 98 + nM n) → b ≠ tb → tv D T' b = if b = i then zn 512 else tv D T b
  tvT : tb ≠ 0 → tv D T' tb = rb (ns.set a (i : Int))
  di : (T'.c i).isSome = true
  dB : (T'.c (98 + i / 4096)).isSome = true
structure BtE (w0 w w' : World) (D : Dk) (T T' : Tx) (n tb a g cap : Nat) (ns : List Int) (i z m : Nat) : Prop where
  gon : Gon w0 w w' D T T' n (fun k => k = g)
  ext : Ext T T' m
  m3 : m ≤ 3
  cnt : (lst T'.c n).length ≤ (lst T.c n).length + 3
  or : (z = 0 ∧ BtO D T T' n i tb a ns ∧ OwnI w' g cap (ns.set a (i : Int))) ∨ (i = 0 ∧ (z = 60 ∧ 96 < (lst T.c n).length + 3 ∨ z = 90 ∧ ct (fd (nD n) n (bmp D T)) n = 0))
theorem BtE.bad {w0 w w' : World} {D : Dk} {T T' : Tx} {n tb a g cap z : Nat} {ns : List Int} (b : BigE w0 w w' D T T' n) (hz : z = 60 ∧ 96 < (lst T.c n).length + 3 ∨ z = 90 ∧ ct (fd (nD n) n (bmp D T)) n = 0) : BtE w0 w w' D T T' n tb a g cap ns 0 z 0 :=
  ⟨⟨SMv.of b.mv, b.spc, fun j e => by rw [b.c]; exact e⟩, ⟨[], by rw [b.us, List.append_nil], rfl, b.c⟩, by omega, by rw [b.c]; omega, .inr ⟨rfl, hz⟩⟩
theorem take_cnt {w0 w w' : World} {D : Dk} {T T' : Tx} {n i : Nat} (h : Spc w0 w D T n) (g : TakE w0 w w' D T T' n i) (h1 : i < n) : (lst T'.c n).length ≤ (lst T.c n).length + 2 := by
  obtain ⟨q, q2, hc, _, _⟩ := g.c
  have hk : 98 + i / 4096 < n := by have := nM_bd h.lo h.hi; have : i / 4096 < nM n := by unfold nM; omega
                                    omega
  rw [hc, lst_len_ups h1, lst_len_ups hk]
  split <;> split <;> omega
theorem set_bd {ns : List Int} {a : Nat} {i : Int} (h : ∀ j, 0 ≤ nth ns j ∧ nth ns j < 4294967296) (hi : 0 ≤ i ∧ i < 4294967296) : ∀ j, 0 ≤ nth (ns.set a i) j ∧ nth (ns.set a i) j < 4294967296 := fun j => by
  by_cases hl : a < ns.length
  · rw [nth_set _ _ _ _ hl]; split
    · exact hi
    · exact h j
  · rw [List.set_eq_of_length_le (by omega)]; exact h j
set_option maxRecDepth 100000 in
set_option maxHeartbeats 8000000 in
theorem btake_any (w0 w : World) (D : Dk) (T : Tx) (n : Nat) (h : Spc w0 w D T n) (hT : TabAt w0) (tb len a g cap : Nat) (ns : List Int) (ho : OwnI w g cap ns) (hO : Out w0 w D T g) (hl : ns.length = len) (ha : a < len) (hc : (tb = 0 ∧ len = 12) ∨ (nD n ≤ tb ∧ tb < n ∧ fd (nD n) n (bmp D T) tb = false ∧ len = 128 ∧ ∀ i, 0 ≤ nth ns i ∧ nth ns i < 4294967296)) (hu : T.us.length + 3 ≤ 1000000) :
    Calls Tryd.prog 25 #[.pointer (some ⟨T.t, 0, none⟩), geoV n, .agg #[.int .i64 (tb : Int), .slice (some ⟨g, 0, none⟩) len cap], .int .i64 (a : Int)] w fun e w' => ∃ (i z m : Nat) (T' : Tx), e = .returned (.tuple #[.int .i64 (i : Int), .int .i64 (z : Int)]) ∧ BtE w0 w w' D T T' n tb a g cap ns i z m := by
  have hN := nM_bd h.lo h.hi
  have ha' : (a : Int) < (len : Int) := by omega
  have hal : a < ns.length := by omega
  have hcn : (lst T.c n).length ≤ 96 := by have := h.ses.tx.cnt; rw [h.nb] at this; exact this
  have HTk : Hid (∀ wx, Below w.heap.size w wx → Calls Tryd.prog 50 #[.pointer (some ⟨T.t, 0, none⟩), geoV n] wx fun e w' => ∃ (i z : Nat) (T' : Tx), e = .returned (.tuple #[.int .i64 (i : Int), .int .i64 (z : Int)]) ∧ ((z = 0 ∧ IsLo (fd (nD n) n (bmp D T)) i ∧ TakX w0 wx w' D T T' n i) ∨ (i = 0 ∧ (z = 60 ∧ 96 < (lst T.c n).length + 3 ∨ z = 90 ∧ ct (fd (nD n) n (bmp D T)) n = 0) ∧ BigE w0 wx w' D T T' n))) := fun wx hb => stake_any w0 wx D T n (h.on hb) (by omega)
  have HP : Hid (∀ wx wy wz T1 i, Below w.heap.size w wx → TakX w0 wx wy D T T1 n i → i < n → Fr (fun k => k = g) wy wz → OwnI wz g cap (ns.set a (i : Int)) → Calls Tryd.prog 51 #[.agg #[.int .i64 (tb : Int), .slice (some ⟨g, 0, none⟩) len cap], .pointer (some ⟨T.t, 0, none⟩)] wz fun e w' => ∃ z, e = .returned (.int .i64 z) ∧ ∃ T', PuE w0 wz w' D T1 T' n tb (ns.set a (i : Int)) z) := fun wx wy wz T1 i hb hx hi hf ho2 => by
    have hs : Spc w0 wz D T1 n := hx.tak.spc.frG hf (fun k hk => by have hk : k = g := hk; subst hk; exact .inr ((hO.mv (SMv.on hb (S := fun _ => False))).mv (SMv.of hx.tak.mv (S := fun _ => False))))
    have := put_any w0 wz D T1 n hs hT tb len g cap (ns.set a (i : Int)) ho2 (by rw [List.length_set]; exact hl) (hc.elim .inl (fun e => .inr ⟨e.1, e.2.1, e.2.2.2.1, set_bd e.2.2.2.2 (by have := h.hi; omega)⟩)) (by rw [hx.tak.u]; omega)
    rw [hx.tak.mv.t] at this
    exact this
  have HS : Hid (Spc w0 w D T n ∧ OwnI w g cap ns ∧ Out w0 w D T g ∧ a < ns.length) := ⟨h, ho, hO, hal⟩
  have HC : Hid ((tb = 0 ∧ len = 12) ∨ (nD n ≤ tb ∧ tb < n ∧ fd (nD n) n (bmp D T) tb = false)) := hc.elim .inl (fun e => .inr ⟨e.1, e.2.1, e.2.2.1⟩)
  have HN : Hid (98 + nM n < nD n ∧ 0 < nD n ∧ (lst T.c n).length ≤ 96) := ⟨hN.2.2.2.1, by omega, hcn⟩
  obtain ⟨tt, htt⟩ : ∃ tt, T.t = tt := ⟨_, rfl⟩
  rw [htt] at HTk HP ⊢
  clear h ho hO hc hu hN hcn hal hl htt hT
  unfold geoV
  unfold geoV at HTk
  obtain ⟨wa, hwa⟩ : ∃ wa, (w.alloc (.cells #[.int .i64 (n : Int), .int .i64 98, .int .i64 (gI n), .int .i64 (gD n), .int .i64 (gC n)] 29)).alloc (.cells #[.int .i64 (tb : Int), .slice (some ⟨g, 0, none⟩) len cap] 69) = wa := ⟨_, rfl⟩
  have HA : Hid (Below w.heap.size w wa ∧ GeoAt wa w.heap.size n ∧ wa.heap[w.heap.size + 1]? = some (.cells #[.int .i64 (tb : Int), .slice (some ⟨g, 0, none⟩) len cap] 69 (0, 0))) := by
    rw [← hwa]
    refine ⟨(below_new _).alloc (by simp) _, (Below.heap_alloc _ _ _ (by simp)).trans (heap_alloc_new _ _), ?_⟩
    have := heap_alloc_new (w.alloc (.cells #[.int .i64 (n : Int), .int .i64 98, .int .i64 (gI n), .int .i64 (gD n), .int .i64 (gC n)] 29)) (.cells #[.int .i64 (tb : Int), .slice (some ⟨g, 0, none⟩) len cap] 69)
    rw [World.size_alloc] at this
    exact this
  obtain ⟨z0, z1, z2, z3, z4⟩ := HA.out.2.1.cells
  have b0 : wa.cell? ⟨w.heap.size + 1, 0, none⟩ = some (.int .i64 (tb : Int)) := by rw [cell_of_row _ _ _ _ _ _ HA.out.2.2]; rfl
  have b1 : wa.cell? ⟨w.heap.size + 1, 1, none⟩ = some (.slice (some ⟨g, 0, none⟩) len cap) := by rw [cell_of_row _ _ _ _ _ _ HA.out.2.2]; rfl
  go_enter Tryd.func25, Tryd.ntmps25
  go_upto_region 2 with (go_at_call 50; refine (HTk.out _ HA.out.1).mono ?_; rintro e w1 ⟨i, z, T1, rfl, hor⟩; have H1 : Hid ((z = 0 ∧ IsLo (fd (nD n) n (bmp D T)) i ∧ TakX w0 wa w1 D T T1 n i) ∨ (i = 0 ∧ (z = 60 ∧ 96 < (lst T.c n).length + 3 ∨ z = 90 ∧ ct (fd (nD n) n (bmp D T)) n = 0) ∧ BigE w0 wa w1 D T T1 n)) := hor; clear hor HTk)
  rcases H1.out with ⟨rfl, hlo, hx⟩ | ⟨rfl, hz, hx⟩
  rotate_left
  · have HE : Hid (BigE w0 w w1 D T T1 n) := ⟨(TMv.on HA.out.1).trans hx.mv, hx.spc, hx.c, hx.us⟩
    clear hx H1 z0 z1 z2 z3 z4 b0 b1
    rcases hz with ⟨rfl, hz⟩ | ⟨rfl, hz⟩
    · go_wp2
      go_ret2
      exact ⟨0, 60, 0, T1, rfl, BtE.bad HE.out (.inl ⟨rfl, hz⟩)⟩
    · go_wp2
      go_ret2
      exact ⟨0, 90, 0, T1, rfl, BtE.bad HE.out (.inr ⟨rfl, hz⟩)⟩
  · have hbd := fd_bd hlo.1
    have HX : Hid (IsLo (fd (nD n) n (bmp D T)) i ∧ TakX w0 wa w1 D T T1 n i ∧ nD n ≤ i ∧ i < n) := ⟨hlo, hx, hbd.1, hbd.2⟩
    have hno : ¬ T.has (w.heap.size + 1) := fun e => by have := HS.out.1.ses.tx.lt (.inl e); omega
    have hbx := hx.tak.mv.fr.heap HA.out.2.2 hno
    have hgx : OwnI w1 g cap ns := (HS.out.2.1.on HA.out.1).fr hx.tak.mv.fr HS.out.2.2.1.no
    have hgl := HS.out.2.2.1.lt
    clear H1 hlo hx hbd z0 z1 z2 z3 z4 b0 b1
    have b0 : w1.cell? ⟨w.heap.size + 1, 0, none⟩ = some (.int .i64 (tb : Int)) := by rw [cell_of_row _ _ _ _ _ _ hbx]; rfl
    have b1 : w1.cell? ⟨w.heap.size + 1, 1, none⟩ = some (.slice (some ⟨g, 0, none⟩) len cap) := by rw [cell_of_row _ _ _ _ _ _ hbx]; rfl
    have c0 : w1.cell? ⟨g, a, none⟩ = some (.int .i64 (nth ns a)) := hgx.cell a HS.out.2.2.2
    have f0 : w1.frozen? ⟨g, a, none⟩ = false := hgx.frozen a
    obtain ⟨w2, hw2⟩ : ∃ w2, w1.setCell ⟨g, a, none⟩ (.int .i64 (i : Int)) = w2 := ⟨_, rfl⟩
    have H2 : Hid (Fr (fun k => k = g) w1 w2 ∧ OwnI w2 g cap (ns.set a (i : Int)) ∧ w2.heap[w.heap.size + 1]? = some (.cells #[.int .i64 (tb : Int), .slice (some ⟨g, 0, none⟩) len cap] 69 (0, 0))) := by
      rw [← hw2]
      exact ⟨Fr.set, hgx.set a _, (Fr.set (g := g)).heap hbx (by show ¬ w.heap.size + 1 = g; omega)⟩
    have d0 : w2.cell? ⟨w.heap.size + 1, 0, none⟩ = some (.int .i64 (tb : Int)) := by rw [cell_of_row _ _ _ _ _ _ H2.out.2.2]; rfl
    have d1 : w2.cell? ⟨w.heap.size + 1, 1, none⟩ = some (.slice (some ⟨g, 0, none⟩) len cap) := by rw [cell_of_row _ _ _ _ _ _ H2.out.2.2]; rfl
    clear hbx hgx hgl hno
    go_upto_region 6 with (go_at_call 51; refine (HP.out wa w1 _ T1 i HA.out.1 HX.out.2.1 HX.out.2.2.2 H2.out.1 H2.out.2.1).mono ?_; rintro e w3 ⟨z, rfl, T2, hp⟩; have H3 : Hid (PuE w0 w2 w3 D T1 T2 n tb (ns.set a (i : Int)) z) := hp; clear hp HP)
    have HG : Hid (SMv (fun k => k = g) w T w2 T1) := ((SMv.on HA.out.1).trans (SMv.of HX.out.2.1.tak.mv (S := fun _ => False)) (fun _ e => e.elim)).trans (SMv.fr_ H2.out.1) (fun k hk => .inl hk)
    have HG3 : Hid (SMv (fun k => k = g) w T w3 T2) := HG.out.trans (SMv.of H3.out.mv (S := fun _ => False)) (fun _ e => e.elim)
    have hc1 := take_cnt (HS.out.1.on HA.out.1) HX.out.2.1.tak HX.out.2.2.2
    have hd1 := dom_take HX.out.2.1.tak
    have HK : Hid ((lst T1.c n).length ≤ (lst T.c n).length + 2 ∧ Dom T T1 ∧ (T1.c i).isSome = true ∧ (T1.c (98 + i / 4096)).isSome = true) := ⟨hc1, hd1.1, hd1.2.1, hd1.2.2⟩
    clear hc1 hd1 c0 f0 b0 b1 d0 d1
    rcases H3.out.or with ⟨rfl, hor⟩ | ⟨rfl, rfl, hno, h96⟩
    · have HO3 : Hid (OwnI w3 g cap (ns.set a (i : Int))) := H2.out.2.1.fr H3.out.mv.fr ((HS.out.2.2.1.mv HG.out).no)
      have hfin : ∃ m, BtE w0 w w3 D T T2 n tb a g cap ns i 0 m := by
        rcases hor with ⟨h0, rfl⟩ | ⟨h0, ⟨q, hc, hq⟩, u, hus, hui, huo⟩
        · refine ⟨2, ⟨HG3.out, H3.out.spc, HK.out.2.1⟩, HX.out.2.1.ext, by omega, by have := HK.out.1; omega, .inl ⟨rfl, ⟨HX.out.1, take_fd (HS.out.1.on HA.out.1) HX.out.2.1.tak HX.out.2.2.1 HX.out.2.2.2, fun b hb _ => take_tvx (HS.out.1.on HA.out.1) HX.out.2.1.tak HX.out.2.2.2 b hb, fun e => absurd h0 e, HK.out.2.2.1, HK.out.2.2.2⟩, HO3.out⟩⟩
        · have htb : nD n ≤ tb ∧ tb < n ∧ fd (nD n) n (bmp D T) tb = false := by
            rcases HC.out with e | e
            · exact absurd e.1 h0
            · exact e
          have hN := HN.out
          refine ⟨2 + 1, ⟨HG3.out, H3.out.spc, HK.out.2.1.trans (dom_ups hc)⟩, HX.out.2.1.ext.next hc hus hui huo, by omega, ?_, .inl ⟨rfl, ⟨HX.out.1, ?_, fun b hb hb2 => ?_, fun _ => ?_, (dom_ups hc) i HK.out.2.2.1, (dom_ups hc) _ HK.out.2.2.2⟩, HO3.out⟩⟩
          · have := HK.out.1
            rw [hc, lst_len_ups htb.2.1]
            split <;> omega
          · rw [show upN (fd (nD n) n (bmp D T)) i false = fd (nD n) n (bmp D T1) from (take_fd (HS.out.1.on HA.out.1) HX.out.2.1.tak HX.out.2.2.1 HX.out.2.2.2).symm]
            refine fd_cong (M := nM n) (fun k hk => ?_) (nM_bd HS.out.1.lo HS.out.1.hi).2.2.1
            rw [bmp, tv_ups hc, if_neg (by omega), bmp]
          · rw [tv_ups hc, if_neg hb2]
            exact take_tvx (HS.out.1.on HA.out.1) HX.out.2.1.tak HX.out.2.2.2 b hb
          · rw [tv_ups hc, if_pos rfl, hq]
      obtain ⟨m, hfin⟩ := hfin
      have HF : Hid (BtE w0 w w3 D T T2 n tb a g cap ns i 0 m) := hfin
      clear hfin hor
      go_wp2
      go_ret2
      exact ⟨i, 0, m, T2, rfl, HF.out⟩
    · have HF : Hid (BtE w0 w w3 D T T2 n tb a g cap ns 0 60 2) := by
        refine ⟨⟨HG3.out, H3.out.spc, HK.out.2.1⟩, HX.out.2.1.ext, by omega, by have := HK.out.1; omega, .inr ⟨rfl, .inl ⟨rfl, ?_⟩⟩⟩
        have := HK.out.1
        omega
      clear hno h96
      go_wp2
      go_ret2
      exact ⟨0, 60, 2, T2, rfl, HF.out⟩
set_option maxRecDepth 100000 in
set_option maxHeartbeats 4000000 in
theorem filler_any (w0 w : World) (D : Dk) (T : Tx) (n : Nat) (h : Spc w0 w D T n) (hT : TabAt w0) (tb len a g cap : Nat) (ns : List Int) (ho : OwnI w g cap ns) (hO : Out w0 w D T g) (hl : ns.length = len) (ha : a < len) (hc : (tb = 0 ∧ len = 12) ∨ (nD n ≤ tb ∧ tb < n ∧ fd (nD n) n (bmp D T) tb = false ∧ len = 128 ∧ ∀ i, 0 ≤ nth ns i ∧ nth ns i < 4294967296)) (hu : T.us.length + 3 ≤ 1000000) (Tb Gb : Nat) (ht : w.cell? ⟨Tb, 0, none⟩ = some (.pointer (some ⟨T.t, 0, none⟩))) (hg : GeoAt w Gb n) :
    Calls Tryd.prog 24 #[.agg #[.int .i64 (tb : Int), .slice (some ⟨g, 0, none⟩) len cap], .int .i64 (a : Int), .pointer (some ⟨Tb, 0, none⟩), .pointer (some ⟨Gb, 0, none⟩)] w fun e w' => ∃ (i z m : Nat) (T' : Tx), e = .returned (.tuple #[.int .i64 (i : Int), .int .i64 (z : Int)]) ∧ ∃ wb, Below w.heap.size w wb ∧ BtE w0 wb w' D T T' n tb a g cap ns i z m := by
  obtain ⟨wa, hwa⟩ : ∃ wa, w.alloc (.cells #[.int .i64 (tb : Int), .slice (some ⟨g, 0, none⟩) len cap] 69) = wa := ⟨_, rfl⟩
  have HA : Hid (Below w.heap.size w wa) := by rw [← hwa]; exact below_new _
  have hbx : wa.heap[w.heap.size]? = some (.cells #[.int .i64 (tb : Int), .slice (some ⟨g, 0, none⟩) len cap] 69 (0, 0)) := by rw [← hwa]; exact heap_alloc_new _ _
  have b0 : wa.cell? ⟨w.heap.size, 0, none⟩ = some (.int .i64 (tb : Int)) := by rw [cell_of_row _ _ _ _ _ _ hbx]; rfl
  have b1 : wa.cell? ⟨w.heap.size, 1, none⟩ = some (.slice (some ⟨g, 0, none⟩) len cap) := by rw [cell_of_row _ _ _ _ _ _ hbx]; rfl
  have t0 : wa.cell? ⟨Tb, 0, none⟩ = some (.pointer (some ⟨T.t, 0, none⟩)) := (HA.out.cell (p := ⟨Tb, 0, none⟩) (block_lt_of_cell ht)).trans ht
  obtain ⟨z0, z1, z2, z3, z4⟩ := (hg.on HA.out).cells
  have HK : Hid (Calls Tryd.prog 25 #[.pointer (some ⟨T.t, 0, none⟩), geoV n, .agg #[.int .i64 (tb : Int), .slice (some ⟨g, 0, none⟩) len cap], .int .i64 (a : Int)] wa fun e w' => ∃ (i z m : Nat) (T' : Tx), e = .returned (.tuple #[.int .i64 (i : Int), .int .i64 (z : Int)]) ∧ BtE w0 wa w' D T T' n tb a g cap ns i z m) := btake_any w0 wa D T n (h.on HA.out) hT tb len a g cap ns (ho.on HA.out) (hO.mv (SMv.on HA.out (S := fun _ => False))) hl ha hc hu
  obtain ⟨tt, htt⟩ : ∃ tt, T.t = tt := ⟨_, rfl⟩
  rw [htt] at HK t0
  clear h hT ho hO hl ha hc hu ht hg hbx htt
  unfold geoV at HK
  go_enter Tryd.func24, Tryd.ntmps24
  go_wp2_with (go_at_call 25; refine HK.out.mono ?_; rintro e w1 ⟨i, z, m, T', rfl, hb⟩; have H1 : Hid (BtE w0 wa w1 D T T' n tb a g cap ns i z m) := hb; clear hb HK)
  go_ret2
  exact ⟨i, z, m, T', rfl, wa, HA.out, H1.out⟩
end Go.Proofs.YtgmccpimpbnnpaaDoor

namespace Go.Proofs.YtgmccpimpbnnpaaDoor
open Go.RowKit Go.Maps Rec
def ownN (ν : Nat → Nat) : List Int := (List.range 12).map fun i => (ν i : Int)
theorem ownN_length (ν : Nat → Nat) : (ownN ν).length = 12 := by simp [ownN]
theorem nth_ownN (ν : Nat → Nat) (i : Nat) (h : i < 12) : nth (ownN ν) i = (ν i : Int) := by simp [nth, ownN, List.getD, h]
theorem ownN_set (ν : Nat → Nat) (p i : Nat) (h : p < 12) : (ownN ν).set p (i : Int) = ownN (upN ν p i) := by
  refine ext_nth (by simp [ownN_length]) (fun j hj => ?_)
  have hj' : j < 12 := by simpa [ownN_length] using hj
  rw [nth_set _ _ _ _ (by rw [ownN_length]; exact h), nth_ownN _ _ hj', nth_ownN _ _ hj']
  by_cases e : j = p
  · subst e; rw [if_pos rfl, upN_same]
  · rw [if_neg e, upN_other _ _ e]
def withN (x : Nat → Int) (ν : Nat → Nat) : Nat → Int := fun i => if 3 ≤ i ∧ i < 15 then (ν (i - 3) : Int) else x i
theorem withN_own (x : Nat → Int) (ν : Nat → Nat) (p : Nat) (h : p < 12) : withN x ν (3 + p) = (ν p : Int) := by
  unfold withN
  rw [if_pos (by omega), show 3 + p - 3 = p by omega]
theorem inN_own {V : Nat → Nat → Int} {x : Nat → Int} {ν : Nat → Nat} (h : Tre V x ν) : inN x = ownN ν := by
  refine ext_nth (by rw [inN_length, ownN_length]) (fun j hj => ?_)
  rw [inN_length] at hj
  rw [nth_inN _ _ hj, nth_ownN _ _ hj, h.own j hj]
def nmT (D : Dk) (T : Tx) : Nat → Nat → Int := fun b a => nm (tv D T b) a
structure Wd (D : Dk) (T : Tx) (n : Nat) (x : Nat → Int) (ν : Nat → Nat) : Prop where
  tre : Tre (nmT D T) x ν
  own : Own1 (fd (nD n) n (bmp D T)) (nD n) n ν
theorem nm_zn (a : Nat) : nm (zn 512) a = 0 := by
  unfold nm
  simp only [num, nth_zn]
  rfl
theorem nm_bd {w0 w : World} {D : Dk} {T : Tx} {n : Nat} (h : Spc w0 w D T n) (b : Nat) (hb : b < n) (a : Nat) : 0 ≤ nm (tv D T b) a ∧ nm (tv D T b) a < 4294967296 := num_bd _ _ _ (h.ok b hb).2
theorem nms_bd {w0 w : World} {D : Dk} {T : Tx} {n : Nat} (h : Spc w0 w D T n) (b : Nat) (hb : b < n) (i : Nat) : 0 ≤ nth (nms (tv D T b)) i ∧ nth (nms (tv D T b)) i < 4294967296 := by
  by_cases hi : i < 128
  · rw [nth_nms _ _ hi]; exact nm_bd h b hb i
  · rw [nth_out _ _ (by rw [nms_length]; omega)]; omega
structure RowOf (D : Dk) (T : Tx) (ν : Nat → Nat) (p tb len a : Nat) (ns : List Int) : Prop where
  a : pla p = a
  o : p < 12 → tb = 0 ∧ len = 12 ∧ ns = ownN ν
  t : 12 ≤ p → tb = ν (par p) ∧ tb ≠ 0 ∧ len = 128 ∧ ns = nms (tv D T tb)
theorem RowOf.at_ {D : Dk} {T : Tx} {n : Nat} {x : Nat → Int} {ν : Nat → Nat} {p tb len a : Nat} {ns : List Int} (h : RowOf D T ν p tb len a ns) (hw : Wd D T n x ν) (hp : p < 16652) : nth ns a = (ν p : Int) ∧ ns.length = len ∧ a < len := by
  by_cases e : p < 12
  · obtain ⟨_, h2, h3⟩ := h.o e
    have ha : a = p := by rw [← h.a]; unfold pla; rw [if_pos e]
    rw [h3, ha, nth_ownN _ _ e, ownN_length, h2]
    exact ⟨rfl, rfl, e⟩
  · obtain ⟨h1, h0, h2, h3⟩ := h.t (by omega)
    have hb := (par_lt (by omega) hp).2.2.2
    rw [h.a] at hb
    rw [h3, nth_nms _ _ hb, nms_length, h2]
    refine ⟨?_, rfl, hb⟩
    have := hw.tre.tab p (by omega) hp (by rw [← h1]; exact h0)
    rw [← h1, h.a] at this
    exact this
theorem Wd.take {w0 w : World} {D : Dk} {T T' : Tx} {n : Nat} {x : Nat → Int} {ν : Nat → Nat} {p i tb len a : Nat} {ns : List Int} (hs : Spc w0 w D T n) (h : Wd D T n x ν) (hr : RowOf D T ν p tb len a ns) (hp : p < 16652) (hz : ν p = 0) (b : BtO D T T' n i tb a ns) : Wd D T' n (withN x (upN ν p i)) (upN ν p i) := by
  have hN := nM_bd hs.lo hs.hi
  have hi := fd_bd b.lo.1
  have hne : ∀ q, ν q ≠ 0 → ν q ≠ i := fun q hq e => by
    have := (h.own.good q hq).2.2
    rw [e, b.lo.1] at this
    cases this
  have hit : i ≠ tb := by
    by_cases e : p < 12
    · rw [(hr.o e).1]; omega
    · obtain ⟨h1, h0, _, _⟩ := hr.t (by omega)
      rw [h1] at h0 ⊢
      exact fun e => hne _ h0 e.symm
  refine ⟨h.tre.take h.own (by omega) hp hz (fun e => by rw [← (hr.t e).1]; exact (hr.t e).2.1) b.lo.1 hi.1 (fun q hq => ?_) (fun c _ => ?_) (fun e c hc => ?_) (fun c hc1 hc2 hc3 => ?_), ?_⟩
  · rw [withN_own _ _ _ hq]
    by_cases e : q = p
    · subst e; rw [if_pos rfl, upN_same]
    · rw [if_neg e, upN_other _ _ e, h.tre.own q hq]
  · unfold nmT
    rw [b.tvE i (by omega) hit, if_pos rfl, nm_zn]
  · obtain ⟨h1, h0, h2, h3⟩ := hr.t e
    have hg := (h.own.good _ (by rw [← h1]; exact h0))
    rw [← h1] at hg ⊢
    unfold nmT
    have hbd : ∀ j, 0 ≤ nth (ns.set a (i : Int)) j ∧ nth (ns.set a (i : Int)) j < 4294967296 := set_bd (by rw [h3]; exact nms_bd hs tb hg.2.1) (by have := hs.hi; omega)
    have hb := (par_lt e hp).2.2.2
    rw [hr.a] at hb
    rw [b.tvT h0, rb, nm_rbk _ 128 (Nat.le_refl _) hbd c hc, if_pos hc, nth_set _ _ _ _ (by rw [h3, nms_length]; exact hb), hr.a, h3, nth_nms _ _ hc]
  · unfold nmT
    have hct : c ≠ tb := by
      by_cases e : p < 12
      · rw [(hr.o e).1]; omega
      · rw [(hr.t (by omega)).1]; exact hc3 (by omega)
    have hci : c ≠ i := fun e => by rw [e, b.lo.1] at hc2; cases hc2
    rw [b.tvE c (by omega) hct, if_neg hci]
  · rw [b.fdE]
    exact h.own.take (by omega) b.lo.1 hi.1 hi.2
end Go.Proofs.YtgmccpimpbnnpaaDoor
