import Derived.Test.YtiblfmcnffhpdaaGreatDoorCtE
namespace Go.Proofs.YtiblfmcnffhpdaaGreatDoor
open Go.RowKit Go.Maps Rec
theorem belowNC (n : Nat) (w : World) (m : Nat) : Below n w (w.drewN m) := ⟨rfl, rfl, rfl, Nat.le_refl _, fun _ _ => rfl⟩
theorem infoStr : (Tryz.prog.info? 9).map (fun i => (i.zero, i.size, i.bytes)) = some (some (.string ⟨#[]⟩), 1, 16) := by kernel_rfl
theorem wp_strC {ops : Array Oper} {rest : List Oper} {o : Oper} {a : Act} {Q : Exit → Act → World → Prop} {wx : World} (hgd : o.guard = none) (s x : Operand)
    (ho : o.op = .call { callee := .builtin .append, args := #[s, x], argTypes := #[62, 62] }) (v : Value) (n : Nat) (ss : List Value) (hs : a.eval s = v) (hx : a.eval x = .slice (some ⟨wx.heap.size, 0, none⟩) 1 1)
    (t : ByteArray) (hR : wx.ownsRow 0 9 1 v n ss) (hn : n ≤ 100000)
    (h : ∀ b cap w', w'.ownsRow 0 9 1 (.slice (some ⟨b, 0, none⟩) (n + 1) cap) (n + 1) (ss ++ [.string t]) → Fr (fun k => v.ownBlock = some k) wx w' → (v.ownBlock = some b ∨ wx.heap.size ≤ b) → wpList Tryz.prog ops Q rest (a.put o.dst (.slice (some ⟨b, 0, none⟩) (n + 1) cap)) w') :
    wpList Tryz.prog ops Q (o :: rest) a (wx.alloc (.cells #[.string t] 9)) := by
  obtain ⟨i0, hi, hz0, hz1, hz2⟩ := info_parts infoStr
  have hal : Below wx.heap.size wx (wx.alloc (.cells #[.string t] 9)) := (Below.refl _ _).alloc (Nat.le_refl _) _
  refine wp_own hgd s x 62 ho 9 i0 _ 1 16 Tryz.underlying62 hi hz0 hz1 hz2 rfl (by decide) v n _ hs (owns_fr hR (below_fr hal (fun _ => False)) (fun _ _ e => e)) ⟨wx.heap.size, 0, none⟩ 1 1 [.string t] hx (by decide) rfl (fun j u hj => ?_) (fun u hu => ?_) (by unfold maxLen; omega) (by omega) ?_
  · cases j with
    | zero => cases hj; rw [Addr.add_lit]; rw [cell_of_row _ _ _ _ _ _ (heap_alloc_new _ _)]; rfl
    | succ j => simp at hj
  · rw [List.mem_singleton.1 hu]; rfl
  · intro b cap w' h1 h2 h3
    refine h b cap w' h1 ((below_fr hal (fun k => v.ownBlock = some k)).trans h2 (fun k hk => .inl hk)) ?_
    rcases h3 with h3 | h3
    · exact .inl h3
    · exact .inr (Nat.le_trans hal.size h3)
def txL (S : Nat → ByteArray) (j : Nat) : List Value := (List.range j).map fun i => .string (S i)
theorem txL_snoc (S : Nat → ByteArray) (j : Nat) : txL S (j + 1) = txL S j ++ [.string (S j)] := by simp [txL, List.range_succ]
structure TxR (w0 w : World) (v : Value) (j : Nat) (S : Nat → ByteArray) : Prop where
  row : w.ownsRow 0 9 1 v j (txL S j)
  new : ∀ b, v.ownBlock = some b → w0.heap.size ≤ b
  bel : Below w0.heap.size w0 w
theorem TxR.nil (w : World) (S : Nat → ByteArray) : TxR w w (.slice none 0 0) 0 S := ⟨World.ownsRow_nil _ _ _ _, fun b e => by simp [Value.ownBlock] at e, Below.refl _ _⟩
theorem TxR.on {w0 w w' : World} {v : Value} {j : Nat} {S : Nat → ByteArray} (h : TxR w0 w v j S) (hb : Below w.heap.size w w') : TxR w0 w' v j S := ⟨owns_fr h.row (below_fr hb (fun _ => False)) (fun _ _ e => e), h.new, h.bel.trans (hb.mono h.bel.size)⟩
theorem TxR.add {w0 w w' : World} {v : Value} {j b cap : Nat} {S : Nat → ByteArray} (h : TxR w0 w v j S) (h1 : w'.ownsRow 0 9 1 (.slice (some ⟨b, 0, none⟩) (j + 1) cap) (j + 1) (txL S j ++ [.string (S j)])) (h2 : Fr (fun k => v.ownBlock = some k) w w') (h3 : v.ownBlock = some b ∨ w.heap.size ≤ b) : TxR w0 w' (.slice (some ⟨b, 0, none⟩) (j + 1) cap) (j + 1) S := by
  refine ⟨by rw [txL_snoc]; exact h1, fun k e => ?_, h.bel.trans (h2.below _ (fun k hk => h.new k hk) h.bel.size)⟩
  cases e
  rcases h3 with h3 | h3
  · exact h.new b h3
  · exact Nat.le_trans h.bel.size h3
theorem TxR.cells {w0 w : World} {v : Value} {j : Nat} {S : Nat → ByteArray} (h : TxR w0 w v j S) : ∃ (a : Option Addr) (c : Nat), v = .slice a j c ∧ (j = 0 ∨ ∃ b, a = some ⟨b, 0, none⟩ ∧ w0.heap.size ≤ b ∧ b < w.heap.size ∧ ∀ i, i < j → w.cell? ⟨b, 0 + i, none⟩ = some (.string (S i))) := by
  rcases h.row.2 with ⟨e, hz⟩ | ⟨gb, cap, cur, e, hbase, hgb, r1, r2, r3, r4⟩
  · subst hz
    exact ⟨none, 0, e, .inl rfl⟩
  · refine ⟨_, _, e, .inr ⟨gb, rfl, h.new gb (by rw [e]; rfl), (Array.getElem?_eq_some_iff.1 hgb).1, fun i hi => ?_⟩⟩
    have h3 := h.row
    rw [e] at h3
    have := h3.cellAt i (by omega)
    rw [Nat.zero_add, this]
    simp [txL, hi]
structure CsX (w1 w : World) (D : Dk) (T : Tx) (n G X H tt : Nat) (x : Nat → Int) (ν : Nat → Nat) (Ob : Nat) (y : Nat → Int) (aw : Option Addr) (Lw : Nat) (f : Nat → Int) (ab : Option Addr) (SS : Nat → ByteArray) : Prop where
  b : CsB w1 w D T n G X H tt x ν
  o : Bq w1 w D T Ob (.cells #[.int .i64 (y 0), .int .i64 (y 1), .int .i64 (y 2), .int .i64 (y 3), .int .i64 (y 4), .int .i64 (y 5), .int .i64 (y 6), .int .i64 (y 7), .int .i64 (y 8), .int .i64 (y 9), .int .i64 (y 10), .int .i64 (y 11), .int .i64 (y 12), .int .i64 (y 13), .int .i64 (y 14)] 35 (0, 0))
  nu : NuO w1 w D T aw Lw f
  tx : Lw = 0 ∨ ∃ b, ab = some ⟨b, 0, none⟩ ∧ (∀ i, i < Lw → w.cell? ⟨b, 0 + i, none⟩ = some (.string (SS i))) ∧ Out w1 w D T b
theorem CsX.mv {w1 w w' : World} {D : Dk} {T T' : Tx} {n G X H tt : Nat} {x : Nat → Int} {ν : Nat → Nat} {Ob : Nat} {y : Nat → Int} {aw : Option Addr} {Lw : Nat} {f : Nat → Int} {ab : Option Addr} {SS : Nat → ByteArray} (h : CsX w1 w D T n G X H tt x ν Ob y aw Lw f ab SS) (s : Spc w1 w' D T' n) (m : SMv (fun _ => False) w T w' T') : CsX w1 w' D T' n G X H tt x ν Ob y aw Lw f ab SS :=
  ⟨h.b.mv s m, h.o.mv m, h.nu.mv m, h.tx.imp id (fun ⟨b, e1, e2, e3⟩ => ⟨b, e1, fun i hi => m.fr.cell (e2 i hi) (fun e => e.elim e3.no id), e3.mv m⟩)⟩
theorem CsX.on {w1 w w' : World} {D : Dk} {T : Tx} {n G X H tt : Nat} {x : Nat → Int} {ν : Nat → Nat} {Ob : Nat} {y : Nat → Int} {aw : Option Addr} {Lw : Nat} {f : Nat → Int} {ab : Option Addr} {SS : Nat → ByteArray} (h : CsX w1 w D T n G X H tt x ν Ob y aw Lw f ab SS) (hb : Below w.heap.size w w') : CsX w1 w' D T n G X H tt x ν Ob y aw Lw f ab SS := h.mv (h.b.spc.on hb) (SMv.on hb)
theorem CsX.gon {w1 w w' : World} {D : Dk} {T T' : Tx} {n G X H tt : Nat} {x : Nat → Int} {ν : Nat → Nat} {Ob : Nat} {y : Nat → Int} {aw : Option Addr} {Lw : Nat} {f : Nat → Int} {ab : Option Addr} {SS : Nat → ByteArray} (h : CsX w1 w D T n G X H tt x ν Ob y aw Lw f ab SS) (g : Gon w1 w w' D T T' n (fun _ => False)) : CsX w1 w' D T' n G X H tt x ν Ob y aw Lw f ab SS := h.mv g.spc g.mv
theorem CsX.big {w1 w w' : World} {D : Dk} {T T' : Tx} {n G X H tt : Nat} {x : Nat → Int} {ν : Nat → Nat} {Ob : Nat} {y : Nat → Int} {aw : Option Addr} {Lw : Nat} {f : Nat → Int} {ab : Option Addr} {SS : Nat → ByteArray} (h : CsX w1 w D T n G X H tt x ν Ob y aw Lw f ab SS) (b : BigE w1 w w' D T T' n) : CsX w1 w' D T' n G X H tt x ν Ob y aw Lw f ab SS := h.mv b.spc (SMv.of b.mv)
theorem CuR.sx {w1 w w' : World} {D : Dk} {T T' : Tx} {n G X H tt : Nat} {x : Nat → Int} {ν : Nat → Nat} {Ob : Nat} {y : Nat → Int} {aw : Option Addr} {Lw : Nat} {f : Nat → Int} {ab : Option Addr} {SS : Nat → ByteArray} {k z : Nat} {x2 y2 : Nat → Int} {μ : Nat → Nat} (h : CsX w1 w D T n G X H tt x ν Ob y aw Lw f ab SS) (c : CuR w1 w w' D T T' n k x2 μ y2 z) : CsX w1 w' D T' n G X H tt x ν Ob y aw Lw f ab SS := by
  rcases c with ⟨_, _, _, hg, _⟩ | ⟨_, _, _, hb⟩
  · exact h.gon hg
  · exact h.big hb
theorem CuR.bq {w1 w w' : World} {D : Dk} {T T' : Tx} {n k z Y : Nat} {x2 y2 : Nat → Int} {μ : Nat → Nat} {o : Obj} (h : Bq w1 w D T Y o) (c : CuR w1 w w' D T T' n k x2 μ y2 z) : Bq w1 w' D T' Y o := by
  rcases c with ⟨_, _, _, hg, _⟩ | ⟨_, _, _, hb⟩
  · exact h.gon hg
  · exact h.mv (SMv.of hb.mv)
theorem CuR.z {w1 w w' : World} {D : Dk} {T T' : Tx} {n k z : Nat} {x2 y2 : Nat → Int} {μ : Nat → Nat} (c : CuR w1 w w' D T T' n k x2 μ y2 z) : z = 0 ∨ z = 60 := by
  rcases c with ⟨h, _⟩ | ⟨h, _⟩
  · exact .inl h
  · exact .inr h
theorem CuR.us {w1 w w' : World} {D : Dk} {T T' : Tx} {n k z : Nat} {x2 y2 : Nat → Int} {μ : Nat → Nat} (c : CuR w1 w w' D T T' n k x2 μ y2 z) : T'.us.length ≤ T.us.length + 16652 := by
  rcases c with ⟨_, _, h, _⟩ | ⟨_, _, _, h⟩
  · exact h.us
  · rw [h.us]; omega
theorem CuR.wd {w1 w w' : World} {D : Dk} {T T' : Tx} {n k z : Nat} {x2 y2 : Nat → Int} {μ : Nat → Nat} (c : CuR w1 w w' D T T' n k x2 μ y2 z) : ∃ ρ, Wd D T' n y2 ρ ∧ (z = 0 → ρ = cvP μ k) := by
  rcases c with ⟨_, h1, h2, _⟩ | ⟨h0, h1, _, _⟩
  · exact ⟨cvP μ k, by rw [h1]; exact h2.wd, fun _ => rfl⟩
  · exact ⟨fun _ => 0, by rw [h1]; exact ⟨Tre.none (fun _ _ => rfl), Own1.none⟩, fun e => by omega⟩
theorem sx_new {w1 w : World} {D : Dk} {T : Tx} {n G X H tt : Nat} {x : Nat → Int} {ν : Nat → Nat} {Ob : Nat} {y : Nat → Int} {aw : Option Addr} {Lw : Nat} {f : Nat → Int} {ab : Option Addr} {SS : Nat → ByteArray} {Tb Lb : Nat} {o : Obj} (h : CsX w1 w D T n G X H tt x ν Ob y aw Lw f ab SS) (hT : Bq w1 w D T Tb o) (hL : w.heap.size = Lb) : Lb ≠ G ∧ Lb ≠ X ∧ Lb ≠ H ∧ Lb ≠ Ob ∧ Lb ≠ Tb ∧ (0 < Lw → ∀ g, aw = some ⟨g, 0, none⟩ → Lb ≠ g) ∧ (0 < Lw → ∀ g, ab = some ⟨g, 0, none⟩ → Lb ≠ g) := by
  have h1 := h.b.g.out.lt
  have h2 := h.b.x.out.lt
  have h3 := h.b.ho.lt
  have h4 := h.o.out.lt
  have h5 := hT.out.lt
  refine ⟨by omega, by omega, by omega, by omega, by omega, fun hp g e => ?_, fun hp g e => ?_⟩
  · rcases h.nu with h0 | ⟨g', e', _, ho⟩
    · omega
    · rw [e] at e'; cases e'; have := ho.lt; omega
  · rcases h.tx with h0 | ⟨g', e', _, ho⟩
    · omega
    · rw [e] at e'; cases e'; have := ho.lt; omega
theorem sx_fr {w1 w w' : World} {D : Dk} {T : Tx} {n G X H tt : Nat} {x : Nat → Int} {ν : Nat → Nat} {Ob : Nat} {y : Nat → Int} {aw : Option Addr} {Lw : Nat} {f : Nat → Int} {ab : Option Addr} {SS : Nat → ByteArray} {Tb Lb r9 : Nat} {o : Array Value} {ty : TypeId} (h : CsX w1 w D T n G X H tt x ν Ob y aw Lw f ab SS) (hT : Bq w1 w D T Tb (.cells o ty (0, 0))) (hL : Out w1 w D T Lb) (xf : Fr (fun k => k = Lb ∨ r9 ≤ k) w w') (hN : Lb ≠ G ∧ Lb ≠ X ∧ Lb ≠ H ∧ Lb ≠ Ob ∧ Lb ≠ Tb ∧ (0 < Lw → ∀ g, aw = some ⟨g, 0, none⟩ → Lb ≠ g) ∧ (0 < Lw → ∀ g, ab = some ⟨g, 0, none⟩ → Lb ≠ g)) (hr : w.heap.size ≤ r9) : CsX w1 w' D T n G X H tt x ν Ob y aw Lw f ab SS ∧ Bq w1 w' D T Tb (.cells o ty (0, 0)) ∧ Out w1 w' D T Lb := by
  have hm : SMv (fun k => k = Lb ∨ r9 ≤ k) w T w' T := SMv.fr_ xf
  have key : ∀ q, q < w.heap.size → Lb ≠ q → ¬ (q = Lb ∨ r9 ≤ q) := fun q h1 h2 e => by rcases e with e | e <;> omega
  obtain ⟨n1, n2, n3, n4, n5, n6, n7⟩ := hN
  refine ⟨⟨⟨h.b.spc.frG xf (fun k hk => by rcases hk with e | e; exact .inr (e ▸ hL); exact .inl (by omega)), ⟨xf.heap h.b.g.row (key G h.b.g.out.lt n1), h.b.g.out.mv hm⟩, ⟨xf.heap h.b.x.row (key X h.b.x.out.lt n2), h.b.x.out.mv hm⟩, h.b.h.hp (xf.block H h.b.h.lt (key H h.b.h.lt n3)), h.b.ho.mv hm, h.b.t, h.b.gx⟩, ⟨xf.heap h.o.row (key Ob h.o.out.lt n4), h.o.out.mv hm⟩, ?_, ?_⟩, ⟨xf.heap hT.row (key Tb hT.out.lt n5), hT.out.mv hm⟩, hL.mv hm⟩
  · rcases h.nu with e | ⟨g, e, hc, ho⟩
    · exact .inl e
    · by_cases h0 : Lw = 0
      · exact .inl h0
      · exact .inr ⟨g, e, fun i hi => xf.cell (hc i hi) (key g ho.lt (n6 (by omega) g e)), ho.mv hm⟩
  · rcases h.tx with e | ⟨g, e, hc, ho⟩
    · exact .inl e
    · by_cases h0 : Lw = 0
      · exact .inl h0
      · exact .inr ⟨g, e, fun i hi => xf.cell (hc i hi) (key g ho.lt (n7 (by omega) g e)), ho.mv hm⟩
theorem backC (w1 w : World) (D : Dk) (T T' : Tx) (n : Nat) (h : Spc w1 w D T' n) (hE : ∃ m, Ext T T' m) (mk : Nat) (hm : T.us.length = mk) (hc : (lst T.c n).length ≤ 96) (hok : ∀ i, i < n → (tv D T i).length = 512 ∧ ∀ j, 0 ≤ nth (tv D T i) j ∧ nth (tv D T i) j < 256) (tt : Nat) (ht : T'.t = tt) :
    Calls Tryz.prog 24 #[.pointer (some ⟨tt, 0, none⟩), .int .i64 (mk : Int)] w fun e w' => e = .returned (.int .i64 0) ∧ ∃ T2, Spc w1 w' D T2 n ∧ SMv (fun _ => False) w T' w' T2 ∧ T2.c = T.c ∧ T2.us = T.us := by
  obtain ⟨k, ext, e1, e2, e3⟩ := hE
  have hd : T'.us.drop mk = ext := by rw [e1]; exact List.drop_left' hm
  have htk : T'.us.take mk = T.us := by rw [e1]; exact List.take_left' hm
  have hl : mk ≤ T'.us.length := by rw [e1, List.length_append]; omega
  have := tback_ok w T' h.ses.tx (by rw [h.nb]; exact h.hi) mk hl (by rw [hd, e3, h.nb]; exact hc)
  rw [ht] at this
  refine this.mono ?_
  rintro e w' ⟨rfl, T2, h1, h2, h3, h4⟩
  rw [hd, e3] at h3
  rw [htk] at h4
  refine ⟨rfl, T2, ⟨h.ses.mv h1 h2, h.dn, h2.nb.trans h.nb, h.lo, h.hi, fun i hi => ?_⟩, SMv.of h2, h3, h4⟩
  have := hok i hi
  unfold tv at this ⊢
  rw [h3]
  exact this
theorem withN_two (x : Nat → Int) (ν μ : Nat → Nat) : withN (withN x ν) μ = withN x μ := by
  funext i
  unfold withN
  split <;> rfl
theorem wr_dom {T T' : Tx} {n : Nat} {x : Nat → Int} {ν : Nat → Nat} {k : Nat} {D : Dk} (h : CtP D T T' n x ν k) (hg : ∀ p, gone ν k p = false) (ok : COk T.c n) (ok' : COk T'.c n) : (lst T'.c n).length = (lst T.c n).length ∧ wrN T'.c n = wrN T.c n := by
  have e := lst_dom ok ok' (fun j => by
    cases e : (T.c j).isSome
    · cases e2 : (T'.c j).isSome
      · rfl
      · rw [h.new hg j e2] at e; cases e
    · rw [h.dom j e])
  refine ⟨?_, by unfold wrN; rw [e]⟩
  have := congrArg List.length e
  simpa using this
end Go.Proofs.YtiblfmcnffhpdaaGreatDoor
