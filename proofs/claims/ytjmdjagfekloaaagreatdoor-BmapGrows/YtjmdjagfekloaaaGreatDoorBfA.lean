import Derived.Test.YtjmdjagfekloaaaGreatDoorKKnB
namespace Go.Proofs.YtjmdjagfekloaaaGreatDoor
open Go.RowKit Go.Maps Rec

def ixQ (v : Int) : Nat := (v % 18446744073709551616 % 16522).toNat
def stQ (v : Int) : Nat := 1 + (v % 18446744073709551616 % 300).toNat
theorem ixQ_bd (v : Int) : ixQ v < 16522 := by unfold ixQ; omega
theorem stQ_bd (v : Int) : 0 < stQ v ∧ stQ v ≤ 300 := by unfold stQ; omega
theorem indexQ (w : World) (M : Int) : Calls Tryz.prog 10 #[.int .i64 M] w fun e w' => e = .returned (.int .i64 (ixQ M : Nat)) ∧ w = w' := by
  obtain ⟨U, hU⟩ : ∃ U, M % 18446744073709551616 = U := ⟨_, rfl⟩
  have e0 : IntKind.u64.wrap M = U := by rw [← hU]; simp [IntKind.wrap, IntKind.bits, IntKind.signed]
  have hU0 : 0 ≤ U := by omega
  obtain ⟨n, hn⟩ : ∃ n, ixQ M = n := ⟨_, rfl⟩
  have e3 : U % 16522 = (n : Int) := by rw [← hn, ixQ, hU]; omega
  have hb : n < 16522 := by rw [← hn]; exact ixQ_bd M
  have e1 : IntKind.u64.wrap (n : Int) = (n : Int) := by simp [IntKind.wrap, IntKind.bits, IntKind.signed]; omega
  have e2 : IntKind.i64.wrap (n : Int) = (n : Int) := by rw [IntKind.wrap_i64]; omega
  have e4 : U.tmod 16522 = (n : Int) := by rw [Int.tmod_eq_emod_of_nonneg hU0]; exact e3
  rw [hn]
  go_enter Tryz.func10, Tryz.ntmps10
  go_wp2
  go_ret
  exact ⟨rfl, rfl⟩
theorem add_off (g j : Nat) : (⟨g, 0, none⟩ : Addr).add j = ⟨g, 0 + j, none⟩ := by unfold Addr.add; split <;> simp_all
/-- a list of numbers beside a session -/
def NuO (w0 w : World) (D : Dk) (T : Tx) (a : Option Addr) (m : Nat) (f : Nat → Int) : Prop := m = 0 ∨ ∃ g, a = some ⟨g, 0, none⟩ ∧ (∀ i, i < m → w.cell? ⟨g, 0 + i, none⟩ = some (.int .i64 (f i))) ∧ Out w0 w D T g
def PrO (w0 w : World) (D : Dk) (T : Tx) (a : Option Addr) (m : Nat) (f1 f2 : Nat → Int) : Prop := m = 0 ∨ ∃ g, a = some ⟨g, 0, none⟩ ∧ (∀ i, i < m → w.cell? ⟨g, 0 + i * 2, none⟩ = some (.int .i64 (f1 i)) ∧ w.cell? ⟨g, 0 + i * 2 + 1, none⟩ = some (.int .i64 (f2 i))) ∧ Out w0 w D T g
theorem NuO.num {w0 w : World} {D : Dk} {T : Tx} {a : Option Addr} {m : Nat} {f : Nat → Int} (h : NuO w0 w D T a m f) : NumAt w a m f := h.imp id (fun ⟨g, e, hc, _⟩ => ⟨g, 0, e, hc⟩)
theorem PrO.prs {w0 w : World} {D : Dk} {T : Tx} {a : Option Addr} {m : Nat} {f1 f2 : Nat → Int} (h : PrO w0 w D T a m f1 f2) : PrsAt w a m f1 f2 := h.imp id (fun ⟨g, e, hc, _⟩ => ⟨g, 0, e, hc⟩)
theorem NuO.mv {w0 w w' : World} {D : Dk} {T T' : Tx} {a : Option Addr} {m : Nat} {f : Nat → Int} (h : NuO w0 w D T a m f) (x : SMv (fun _ => False) w T w' T') : NuO w0 w' D T' a m f := h.imp id (fun ⟨g, e, hc, ho⟩ => ⟨g, e, fun i hi => x.fr.cell (hc i hi) (fun e => e.elim ho.no id), ho.mv x⟩)
theorem PrO.mv {w0 w w' : World} {D : Dk} {T T' : Tx} {a : Option Addr} {m : Nat} {f1 f2 : Nat → Int} (h : PrO w0 w D T a m f1 f2) (x : SMv (fun _ => False) w T w' T') : PrO w0 w' D T' a m f1 f2 := h.imp id (fun ⟨g, e, hc, ho⟩ => ⟨g, e, fun i hi => ⟨x.fr.cell (hc i hi).1 (fun e => e.elim ho.no id), x.fr.cell (hc i hi).2 (fun e => e.elim ho.no id)⟩, ho.mv x⟩)
theorem Bq.mv {w0 w w' : World} {D : Dk} {T T' : Tx} {p : Nat} {o : Obj} (h : Bq w0 w D T p o) (x : SMv (fun _ => False) w T w' T') : Bq w0 w' D T' p o := ⟨x.fr.heap h.row (fun e => e.elim h.out.no id), h.out.mv x⟩
theorem own_numG {w0 w w' : World} {D : Dk} {T : Tx} {n b : Nat} {v : Value} {m : Nat} {xs : List Int} (hs : Spc w0 w D T n) (h : w'.ownsRow b 3 1 v m (xs.map (Value.int .i64))) (hb : ∀ k, v.ownBlock = some k → w.heap.size ≤ k) : ∃ a c, v = .slice a m c ∧ NuO w0 w' D T a m (fun i => xs.getD i 0) := by
  rcases h.2 with ⟨e1, e2⟩ | ⟨g, cap, cur, e, _, hr, _⟩
  · exact ⟨none, 0, by rw [e1, e2], .inl e2⟩
  · refine ⟨some ⟨g, 0, none⟩, cap, e, .inr ⟨g, rfl, fun i hi => ?_, Out.of hs (hb g (by rw [e]; rfl)) (heap_lt hr)⟩⟩
    have hl : xs.length = m := by have := h.1; simp at this; exact this
    have hc := World.ownsRow.cells h (g := g) (by rw [e]; rfl) i (.int .i64 (xs.getD i 0)) (by rw [List.getElem?_map, List.getElem?_eq_getElem (by omega), List.getD_eq_getElem?_getD, List.getElem?_eq_getElem (by omega)]; rfl)
    rw [add_off] at hc
    exact hc
theorem prV_at : ∀ (l : List (Nat × Nat)) (i : Nat), i < l.length → (prV l)[i * 2]? = some (.int .i64 ((l.getD i (0, 0)).1 : Int)) ∧ (prV l)[i * 2 + 1]? = some (.int .i64 ((l.getD i (0, 0)).2 : Int))
  | [], i, h => absurd h (by simp)
  | q :: l, 0, _ => ⟨rfl, rfl⟩
  | q :: l, i + 1, h => by
    have := prV_at l i (by simp at h; omega)
    have e : prV (q :: l) = .int .i64 (q.1 : Int) :: .int .i64 (q.2 : Int) :: prV l := rfl
    have e1 : (i + 1) * 2 = i * 2 + 1 + 1 := by omega
    rw [e, e1]
    exact this
theorem own_prsG {w0 w w' : World} {D : Dk} {T : Tx} {n b : Nat} {v : Value} {l : List (Nat × Nat)} (hs : Spc w0 w D T n) (h : w'.ownsRow b 57 2 v l.length (prV l)) (hb : ∀ k, v.ownBlock = some k → w.heap.size ≤ k) : ∃ a c, v = .slice a l.length c ∧ PrO w0 w' D T a l.length (fun i => ((l.getD i (0, 0)).1 : Int)) (fun i => ((l.getD i (0, 0)).2 : Int)) := by
  rcases h.2 with ⟨e1, e2⟩ | ⟨g, cap, cur, e, _, hr, _⟩
  · exact ⟨none, 0, by rw [e1, e2], .inl e2⟩
  · refine ⟨some ⟨g, 0, none⟩, cap, e, .inr ⟨g, rfl, fun i hi => ?_, Out.of hs (hb g (by rw [e]; rfl)) (heap_lt hr)⟩⟩
    have hc := World.ownsRow.cells h (g := g) (by rw [e]; rfl)
    have hp := prV_at l i hi
    have h1 := hc _ _ hp.1
    have h2 := hc _ _ hp.2
    rw [add_off] at h1 h2
    exact ⟨h1, h2⟩
theorem natV_map (l : List Nat) : natV l = (l.map fun (x : Nat) => (x : Int)).map (Value.int .i64) := by unfold natV; rw [List.map_map]; rfl
/-- All's answer beside the session -/
theorem allQ (w0 w : World) (D : Dk) (T : Tx) (n : Nat) (h : Spc w0 w D T n) (hT : TabAt w0) (x : Nat → Int) (ν : Nat → Nat) (hw : Wd D T n x ν) :
    Calls Tryz.prog 17 #[.pointer (some ⟨T.t, 0, none⟩), geoV n, inV x] w fun e w' => ∃ a c a' c', e = .returned (.tuple #[.slice a (allB ν).length c, .slice a' (allT ν).length c', .int .i64 0]) ∧ PrO w0 w' D T a (allB ν).length (fun i => (((allB ν).getD i (0, 0)).1 : Int)) (fun i => (((allB ν).getD i (0, 0)).2 : Int)) ∧ NuO w0 w' D T a' (allT ν).length (fun i => ((allT ν).map fun (x : Nat) => (x : Int)).getD i 0) ∧ Below w.heap.size w w' := by
  refine (all_any w0 w D T n h hT x ν hw).mono ?_
  rintro e w' ⟨vb, vt, rfl, h1, h2, h3, h4, hb⟩
  obtain ⟨a, c, rfl, hp⟩ := own_prsG h h1 h3
  rw [natV_map] at h2
  obtain ⟨a', c', rfl, hq⟩ := own_numG h h2 h4
  exact ⟨a, c, a', c', rfl, hp, hq, hb⟩
theorem writtenQ (w0 w : World) (D : Dk) (T : Tx) (n : Nat) (h : Spc w0 w D T n) :
    Calls Tryz.prog 16 #[.pointer (some ⟨T.t, 0, none⟩)] w fun e w' => ∃ a c, e = .returned (.slice a (lst T.c n).length c) ∧ NuO w0 w' D T a (lst T.c n).length (fun i => ((lst T.c n).map Bk.n).getD i 0) ∧ Below w.heap.size w w' := by
  refine (written_any w T h.ses.tx).mono ?_
  rintro e w' ⟨v, rfl, h1, _, hb⟩
  rw [h.nb] at h1
  have hk : ∀ k, v.ownBlock = some k → w.heap.size ≤ k := fun k hk => by
    rcases h1.2 with ⟨e1, _⟩ | ⟨g, cap, cur, e, hg, _⟩
    · rw [e1] at hk; cases hk
    · rw [e] at hk
      have : g = k := by injection hk
      omega
  obtain ⟨a, c, rfl, hq⟩ := own_numG h h1 hk
  exact ⟨a, c, rfl, hq, hb⟩
end Go.Proofs.YtjmdjagfekloaaaGreatDoor
