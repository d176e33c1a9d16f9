import Derived.Test.YtklgjagkgfbcfaaDoorPlays
namespace Go.Proofs.YtklgjagkgfbcfaaDoor
open Go.RowKit Rec

structure OpR where
  kind : Int
  at_ : Int
  n : Int
  v : Int
  s : ByteArray
structure OpAt (w : World) (b off : Nat) (q : OpR) : Prop where
  f0 : w.cell? ⟨b, off, none⟩ = some (.int .i64 q.kind)
  f1 : w.cell? ⟨b, off + 1, none⟩ = some (.int .i64 q.at_)
  f2 : w.cell? ⟨b, off + 2, none⟩ = some (.int .i64 q.n)
  f3 : w.cell? ⟨b, off + 3, none⟩ = some (.int .u64 q.v)
  f4 : w.cell? ⟨b, off + 4, none⟩ = some (.string q.s)
theorem OpAt.on {w w' : World} {b off : Nat} {q : OpR} (h : OpAt w b off q) (hb : Below w.heap.size w w') : OpAt w' b off q := by
  have hlt : b < w.heap.size := block_lt_of_cell h.f0
  constructor <;> (rw [hb.cell (by exact hlt)])
  · exact h.f0
  · exact h.f1
  · exact h.f2
  · exact h.f3
  · exact h.f4
structure OpOk (q : OpR) : Prop where
  a1 : q.at_ ≤ 9223372036854775807
  n1 : q.n ≤ 9223372036854775807
  v1 : 0 ≤ q.v ∧ q.v < 18446744073709551616
  s1 : q.s.size ≤ 9223372036854775807
structure Ops (w : World) (a0 : Option Addr) (L : List OpR) : Prop where
  at_ : L = [] ∨ ∃ b off, a0 = some ⟨b, off, none⟩ ∧ ∀ i q, L[i]? = some q → OpAt w b (off + i * 5) q
  each : ∀ q ∈ L, OpOk q

theorem info9 : (Tryd.prog.info? 9).map (fun i => (i.zero, i.size, i.bytes)) = some (some (.string ⟨#[]⟩), 1, 16) := by kernel_rfl
/-- where an append lays its row -/
theorem append_block {w : World} {B : Nat} {v : Value} {k : Nat} {ts : List Value} (ty : TypeId) (hown : w.ownsRow B 9 1 v k ts) {pb po : Nat} {c : Nat} {t : Value} (hp : w.cell? ⟨pb, po, none⟩ = some t) (ht : t.oneCell' = true) (h47 : (k + 1) * 16 ≤ 140737488355328)
    {v' : Value} {w' : World} (hr : (Builtin.append_ #[44, 44] ty #[v, .slice (some ⟨pb, po, none⟩) 1 c]).run Tryd.prog w = .ok v' w') : ∃ g cap, v' = .slice (some ⟨g, 0, none⟩) (k + 1) cap ∧ (v.ownBlock = some g ∨ w.heap.size ≤ g) := by
  obtain ⟨i0, hi, hz0, hz1, hz2⟩ := info_parts info9
  have hnews : ∀ j u, [t][j]? = some u → w.cell? ((⟨pb, po, none⟩ : Addr).add j) = some u := by
    intro j u hj
    cases j with
    | zero => simp at hj; subst hj; rw [Addr.add_lit, Nat.add_zero]; exact hp
    | succ j => simp at hj
  rcases hown.2 with ⟨rfl, rfl⟩ | ⟨g, cap, cur, rfl, hbg, hg, hnc, hcm, hcs, htake⟩
  · have h := run_append_nil (P := Tryd.prog) w 44 ty 9 i0 _ Tryd.underlying44 hi hz0 ⟨pb, po, none⟩ 1 c [t] (by rw [hz1]; rfl) hnews (by omega) (by omega) (by omega)
    rw [h] at hr
    cases hr
    exact ⟨_, _, rfl, .inr (Nat.le_refl _)⟩
  · by_cases hroom : k + 1 ≤ cap
    · have h := run_append_room (P := Tryd.prog) w 44 ty 9 i0 Tryd.underlying44 hi g k cap cur hg ⟨pb, po, none⟩ 1 c [t] (by rw [hz1]; rfl) hnews (by intro u hu; simp at hu; subst hu; exact ht) hroom (by rw [hz1, hcs]; simpa using hroom)
      rw [h] at hr
      cases hr
      exact ⟨_, _, rfl, .inl rfl⟩
    · have h := run_append_grow (P := Tryd.prog) w 44 ty 9 i0 _ Tryd.underlying44 hi hz0 ⟨g, 0, none⟩ k cap ts (by rw [hz1]; exact hown.1) (hown.cells (g := g) rfl) ⟨pb, po, none⟩ 1 c [t] (by rw [hz1]; rfl) hnews (by omega) (by omega) (growslice_fits (by omega) (by rw [hz2]; exact h47))
      rw [h] at hr
      cases hr
      exact ⟨_, _, rfl, .inr (Nat.le_refl _)⟩
/-- 'append(s, t)', s a row of strings of one's own -/
theorem wp_sapp {ops : Array Oper} {rest : List Oper} {o : Oper} {a : Act} {Q : Exit → Act → World → Prop} {w : World} (hgd : o.guard = none) (s x : Operand)
    (ho : o.op = .call { callee := .builtin .append, args := #[s, x], argTypes := #[44, 44] }) (B : Nat) (v : Value) (k : Nat) (ts : List Value) (hs : a.eval s = v) (hown : w.ownsRow B 9 1 v k ts) (pb po : Nat) (c : Nat) (t : Value)
    (hx : a.eval x = .slice (some ⟨pb, po, none⟩) 1 c) (hp : w.cell? ⟨pb, po, none⟩ = some t) (ht : t.oneCell' = true) (h47 : (k + 1) * 16 ≤ 140737488355328) (hB : B ≤ w.heap.size)
    (h : ∀ g cap w', w'.ownsRow B 9 1 (.slice (some ⟨g, 0, none⟩) (k + 1) cap) (k + 1) (ts ++ [t]) → w.grownBy w' v.ownBlock → (v.ownBlock = some g ∨ w.heap.size ≤ g) → wpList Tryd.prog ops Q rest (a.put o.dst (.slice (some ⟨g, 0, none⟩) (k + 1) cap)) w') :
    wpList Tryd.prog ops Q (o :: rest) a w := by
  obtain ⟨i0, hi, hz0, hz1, hz2⟩ := info_parts info9
  have hnews : ∀ j u, [t][j]? = some u → w.cell? ((⟨pb, po, none⟩ : Addr).add j) = some u := by
    intro j u hj
    cases j with
    | zero => simp at hj; subst hj; rw [Addr.add_lit, Nat.add_zero]; exact hp
    | succ j => simp at hj
  obtain ⟨v', w', hr, h2, h3, _⟩ := run_append_own (P := Tryd.prog) w B 44 o.type 9 i0 _ 1 16 Tryd.underlying44 hi hz0 hz1 hz2 rfl (by decide) v k ts hown ⟨pb, po, none⟩ 1 c [t] (by rfl) hnews (by intro u hu; simp at hu; subst hu; exact ht) (by unfold maxLen; omega) h47 hB
  obtain ⟨g, cap, rfl, hgb⟩ := append_block o.type hown hp ht h47 hr
  refine wpList_plain hgd fun K hK => ?_
  unfold Oper.wp execOp
  simp only [ho, resolve, invoke, builtin, Sem.run_bind, Sem.run_pure, Result.andThen_ok, List.map_toArray, List.map_cons, List.map_nil, hs, hx, hr]
  exact hK _ _ (h g cap w' h2 h3 hgb)
end Go.Proofs.YtklgjagkgfbcfaaDoor
