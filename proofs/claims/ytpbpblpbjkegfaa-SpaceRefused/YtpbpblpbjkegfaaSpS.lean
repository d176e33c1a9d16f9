import Derived.Test.YtpbpblpbjkegfaaSpR
import Derived.Test.YtpbpblpbjkegfaaSpN
namespace Go.Proofs.Ytpbpblpbjkegfaa
open Go.RowKit Go.Maps Rec

theorem written_len (w : World) (T : Tx) (h : TxAt w T) (k : Nat) (hk : (lst T.c T.nb).length = k) :
    Calls Try.prog 7 #[.pointer (some ⟨T.t, 0, none⟩)] w fun e w' => ∃ va vc, e = .returned (.slice va k vc) ∧ Below w.heap.size w w' := by
  refine (written_any w T h).mono ?_
  rintro e w' ⟨v, rfl, ho, _, hb⟩
  obtain ⟨a, c, hv, _⟩ := owns_slice ho
  rw [hk] at hv
  exact ⟨a, c, by rw [hv], hb⟩
theorem fB_none (n i : Nat) (h0 : nD n ≤ i) (h1 : i < n) : fB n [] 0 i = false := by
  rw [fB, if_neg (by simp), decide_eq_false (by omega)]
  simp
/-- k blocks are put, from the one behind the first data block on -/
structure Rf (w0 w : World) (D : Dk) (T : Tx) (n P k : Nat) : Prop where
  spc : Spc w0 w D T n
  geo : GeoAt w P n
  aP : ¬ T.all P
  dom : ∀ j, (T.c j).isSome = decide (nD n + 1 ≤ j ∧ j < nD n + 1 + k)
  cnt : (lst T.c n).length = k
  us : T.us.length = k
  fde : fd (nD n) n (bmp D T) = fun j => decide (nD n ≤ j ∧ j < n)
theorem Rf.on {w0 w w' : World} {D : Dk} {T : Tx} {n P k : Nat} (h : Rf w0 w D T n P k) (hb : Below w.heap.size w w') : Rf w0 w' D T n P k := ⟨h.spc.on hb, h.geo.on hb, h.aP, h.dom, h.cnt, h.us, h.fde⟩
theorem Rf.empty {w0 w : World} {D : Dk} {T : Tx} {n P k : Nat} (h : Rf w0 w D T n P k) (j : Nat) (hj : ¬ (nD n + 1 ≤ j ∧ j < nD n + 1 + k)) : T.c j = Option.none := by
  have := h.dom j
  rw [decide_eq_false hj] at this
  cases e : T.c j with
  | none => rfl
  | some q => rw [e] at this; cases this
theorem Rf.lo {w0 w : World} {D : Dk} {T : Tx} {n P k : Nat} (h : Rf w0 w D T n P k) : IsLo (fd (nD n) n (bmp D T)) (nD n) := by
  have hN := nM_bd h.spc.lo h.spc.hi
  rw [h.fde]
  exact ⟨decide_eq_true ⟨Nat.le_refl _, hN.2.2.2.2.1⟩, fun j hj => decide_eq_false (by omega)⟩
theorem geo_mv {w w' : World} {T T' : Tx} {P n : Nat} (hg : GeoAt w P n) (ha : ¬ T.all P) (m : TMv w T w' T') : GeoAt w' P n ∧ ¬ T'.all P := by
  have hP := heap_lt hg
  refine ⟨m.fr.heap hg (fun e => ha (.inl e)), fun e => ?_⟩
  rcases m.al _ e with e | e
  · exact ha e
  · omega
/-- the same session behind a refused call -/
theorem Rf.big {w0 w w' : World} {D : Dk} {T T' : Tx} {n P k : Nat} (h : Rf w0 w D T n P k) (b : BigE w0 w w' D T T' n) : Rf w0 w' D T' n P k := by
  obtain ⟨g1, g2⟩ := geo_mv h.geo h.aP b.mv
  have hb : bmp D T' = bmp D T := by
    funext j
    unfold bmp tv
    rw [b.c]
  exact ⟨b.spc, g1, g2, by rw [b.c]; exact h.dom, by rw [b.c]; exact h.cnt, by rw [b.us]; exact h.us, by rw [hb]; exact h.fde⟩
/-- one block more -/
theorem Rf.write {w0 w : World} {D : Dk} {T : Tx} {n P k : Nat} (h : Rf w0 w D T n P k) (hk : k < 96) (hn : nD n + 1 + k < n) (p : Addr) (c : Nat) (x : List Int) (hb : Bytes w (some p) x) (hx : x.length = 512) :
    Calls Try.prog 10 #[.pointer (some ⟨T.t, 0, none⟩), .int .i64 ((nD n + 1 + k : Nat) : Int), .slice (some p) 512 c] w fun e w' => e = .returned (.int .i64 0) ∧ ∃ T', T'.t = T.t ∧ Rf w0 w' D T' n P (k + 1) ∧ Ext T T' 1 := by
  have hN := nM_bd h.spc.lo h.spc.hi
  refine (h.spc.write (nD n + 1 + k) (by omega) hn p c x hb hx (.inr (by rw [h.cnt]; exact hk)) (by rw [h.us]; omega)).mono ?_
  rintro e w' ⟨rfl, T', g⟩
  obtain ⟨q, hc, hq⟩ := g.c
  obtain ⟨u, hu, hui, huo⟩ := g.u
  obtain ⟨g1, g2⟩ := geo_mv h.geo h.aP g.mv
  have hf := h.empty (nD n + 1 + k) (by omega)
  refine ⟨rfl, T', g.t, ⟨g.spc, g1, g2, fun j => ?_, ?_, by rw [hu, List.length_append, h.us]; rfl, ?_⟩, [u], hu, rfl, ?_⟩
  · rw [hc]
    by_cases e : j = nD n + 1 + k
    · subst e
      rw [ups_same]
      symm
      exact decide_eq_true (by omega)
    · rw [ups_other _ _ e, h.dom j]
      congr 1
      apply propext
      omega
  · rw [hc, lst_len_ups hn, h.cnt, hf]; rfl
  · rw [← h.fde]
    refine fd_cong (M := nM n) (fun j hj => ?_) hN.2.2.1
    rw [bmp, tv_ups hc, if_neg (by omega), bmp]
  · show ups T'.c u.i u.old = T.c
    rw [hc, hui, huo, ups_back]
end Go.Proofs.Ytpbpblpbjkegfaa
