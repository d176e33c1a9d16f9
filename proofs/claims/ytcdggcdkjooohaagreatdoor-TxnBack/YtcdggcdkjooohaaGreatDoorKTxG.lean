import Derived.Test.YtcdggcdkjooohaaGreatDoorTxK
import Derived.Deep.MidRow
import Derived.Deep.RegionHeldLaw
namespace Go.Proofs.YtcdggcdkjooohaaGreatDoor
open Go.RowKit Go.Maps Rec

def rowU (f : Nat → Int) : Array Value := ((List.range 118).map fun j => Value.int .u8 (f j)).toArray
def rowB (f : Nat → Bool) : Array Value := ((List.range 118).map fun j => Value.bool (f j)).toArray
def updF {α : Type} (f : Nat → α) (i : Nat) (x : α) : Nat → α := fun j => if j = i then x else f j
theorem updF_same {α : Type} (f : Nat → α) (i : Nat) (x : α) : updF f i x i = x := by simp [updF]
theorem updF_other {α : Type} (f : Nat → α) {i j : Nat} (x : α) (h : j ≠ i) : updF f i x j = f j := by simp [updF, h]
theorem rowU_at (f : Nat → Int) (i : Nat) (h : i < 118) : (rowU f)[i]? = some (.int .u8 (f i)) := by simp [rowU, h]
theorem rowB_at (f : Nat → Bool) (i : Nat) (h : i < 118) : (rowB f)[i]? = some (.bool (f i)) := by simp [rowB, h]
theorem rowU_set (f : Nat → Int) (i : Nat) (x : Int) : (rowU f).setIfInBounds i (.int .u8 x) = rowU (updF f i x) := by
  apply Array.ext_getElem?
  intro j
  simp only [rowU, updF, Array.getElem?_setIfInBounds, List.size_toArray, List.length_map, List.length_range, List.getElem?_toArray, List.getElem?_map]
  by_cases h : i = j
  · subst h
    by_cases h2 : i < 118 <;> simp [h2]
  · rw [if_neg h]
    by_cases h2 : j < 118 <;> simp [h2, Ne.symm h]
theorem rowB_set (f : Nat → Bool) (i : Nat) (x : Bool) : (rowB f).setIfInBounds i (.bool x) = rowB (updF f i x) := by
  apply Array.ext_getElem?
  intro j
  simp only [rowB, updF, Array.getElem?_setIfInBounds, List.size_toArray, List.length_map, List.length_range, List.getElem?_toArray, List.getElem?_map]
  by_cases h : i = j
  · subst h
    by_cases h2 : i < 118 <;> simp [h2]
  · rw [if_neg h]
    by_cases h2 : j < 118 <;> simp [h2, Ne.symm h]
theorem zeroU : Tryz.zeroCells28 = rowU (fun _ => 0) := by kernel_rfl
theorem zeroB : Tryz.zeroCells29 = rowB (fun _ => false) := by kernel_rfl
theorem lst_few {c : Cm} (h : COk c 118) : (lst c 118).length ≤ 20 := by
  have e : lst c 118 = lst c 98 ++ (List.range' 98 20).filterMap c := by
    unfold lst
    rw [← List.filterMap_append]
    rfl
  have e2 : lst c 98 = [] := by
    unfold lst
    refine List.filterMap_eq_nil_iff.2 (fun i hi => ?_)
    cases hc : c i with
    | none => rfl
    | some q => have := h.lo i q hc; have := List.mem_range.1 hi; omega
  rw [e, e2]
  have := List.length_filterMap_le c (List.range' 98 20)
  simpa using this
/-- to go back over undo steps, the last one first -/
def undo (c : Cm) (us : List Un) : Cm := us.foldr (fun u c => ups c u.i u.old) c
theorem undo_snoc (c : Cm) (us : List Un) (u : Un) : undo c (us ++ [u]) = undo (ups c u.i u.old) us := by simp [undo]
/-- a transaction that was written on -/
def Ext (T T' : Tx) (k : Nat) : Prop := ∃ ext, T'.us = T.us ++ ext ∧ ext.length = k ∧ undo T'.c ext = T.c
theorem Ext.refl (T : Tx) : Ext T T 0 := ⟨[], by simp, rfl, rfl⟩
theorem Ext.next {T T' T'' : Tx} {k : Nat} {q : Option Bk} {u : Un} {i : Nat} (h : Ext T T' k) (hc : T''.c = ups T'.c i q) (hu : T''.us = T'.us ++ [u]) (hi : u.i = i) (ho : u.old = T'.c i) : Ext T T'' (k + 1) := by
  obtain ⟨ext, e1, e2, e3⟩ := h
  refine ⟨ext ++ [u], by rw [hu, e1, List.append_assoc], by simp [e2], ?_⟩
  rw [undo_snoc, hc, hi, ho, ups_back, e3]
/-- what the two rows say of a transaction -/
def Cnt (c0 c : Cm) (now : Nat → Int) (is : Nat → Bool) : Prop := ∀ i, 98 ≤ i → i < 118 → (0 ≤ now i ∧ now i < 256) ∧ (is i = true → ∃ q, c i = some q ∧ q.x = one (now i)) ∧ (is i = false → c i = c0 i ∧ now i = (i : Int))
theorem Cnt.put {c0 c : Cm} {now : Nat → Int} {is : Nat → Bool} (h : Cnt c0 c now is) (i : Nat) (q : Bk) (x : Int) (hx : 0 ≤ x ∧ x < 256) (hq : q.x = one x) : Cnt c0 (ups c i (some q)) (updF now i x) (updF is i true) := fun j h0 h1 => by
  by_cases e : j = i
  · subst e
    rw [updF_same, updF_same, ups_same]
    exact ⟨hx, fun _ => ⟨q, rfl, hq⟩, fun e => by cases e⟩
  · rw [updF_other _ _ e, updF_other _ _ e, ups_other _ _ e]
    exact h j h0 h1
theorem cells_setCell {w : World} {b i : Nat} {cs : Array Value} {t : TypeId} {v : Value} (h : w.heap[b]? = some (.cells cs t (0, 0))) : (w.setCell ⟨b, i, none⟩ v).heap[b]? = some (.cells (cs.setIfInBounds i v) t (0, 0)) := heap_setCell_same w b i cs t v h
set_option maxRecDepth 100000 in
set_option maxHeartbeats 4000000 in
theorem place_any (w : World) (b x : Int) : Calls Tryz.prog 45 #[.agg #[.int .i64 b, .int .u8 x]] w fun e w' => e = .returned (.int .i64 (98 + b % 20)) ∧ Below w.heap.size w w' := by
  have HM : Hid (∀ wx, Calls Tryz.prog 21 #[.int .i64 b, .int .i64 20] wx fun e w' => e = .returned (.int .i64 (b % 20)) ∧ wx = w') := fun wx => mod_any wx b 20 (by omega) (by omega)
  have hw : wrap64 (98 + b % 20) = 98 + b % 20 := by rw [wrap64]; omega
  go_enter Tryz.func45, Tryz.ntmps45
  go_wp2_with (go_at_call 21; refine (HM.out _).mono ?_; rintro e w' ⟨rfl, rfl⟩)
  go_ret
  exact ⟨rfl, (Below.refl _ w).alloc (Nat.le_refl _) _⟩
end Go.Proofs.YtcdggcdkjooohaaGreatDoor

namespace Go.Proofs.YtcdggcdkjooohaaGreatDoor
open Go.RowKit Go.Maps Rec

/-- between two puts -/
structure FS (w0 w wr : World) (D : Dk) (T0 T : Tx) (s : Nat) (now : Nat → Int) (is : Nat → Bool) : Prop where
  ses : Ses w0 wr D T
  mv : TMv w T0 wr T
  r1 : wr.heap[s]? = some (.cells (rowU fun _ => 0) 28 (0, 0))
  r2 : wr.heap[s + 1]? = some (.cells (rowB fun _ => false) 29 (0, 0))
  ra : wr.heap[s + 2]? = some (.cells (rowU now) 28 (0, 0))
  rb : wr.heap[s + 3]? = some (.cells (rowB is) 29 (0, 0))
  na : ∀ k, s ≤ k → k < s + 4 → ¬ T.all k
  nd : ∀ k, D.all k → k < s
  lo : w.heap.size ≤ s
theorem FS.on {w0 w wr wx : World} {D : Dk} {T0 T : Tx} {s : Nat} {now : Nat → Int} {is : Nat → Bool} (h : FS w0 w wr D T0 T s now is) (hb : Below wr.heap.size wr wx) : FS w0 w wx D T0 T s now is :=
  ⟨h.ses.on hb, h.mv.trans (TMv.on hb), (hb.block _ (heap_lt h.r1)).trans h.r1, (hb.block _ (heap_lt h.r2)).trans h.r2, (hb.block _ (heap_lt h.ra)).trans h.ra, (hb.block _ (heap_lt h.rb)).trans h.rb, h.na, h.nd, h.lo⟩
theorem FS.write {w0 w wr w' : World} {D : Dk} {T0 T T' : Tx} {s : Nat} {now : Nat → Int} {is : Nat → Bool} (h : FS w0 w wr D T0 T s now is) (hs : Ses w0 w' D T') (hm : TMv wr T w' T') : FS w0 w w' D T0 T' s now is := by
  have hn : ∀ k, s ≤ k → k < s + 4 → ¬ T.has k := fun k h1 h2 hh => h.na k h1 h2 (.inl hh)
  have hz := heap_lt h.rb
  refine ⟨hs, h.mv.trans hm, hm.fr.heap h.r1 (hn _ (by omega) (by omega)), hm.fr.heap h.r2 (hn _ (by omega) (by omega)), hm.fr.heap h.ra (hn _ (by omega) (by omega)), hm.fr.heap h.rb (hn _ (by omega) (by omega)), fun k h1 h2 hk => ?_, h.nd, h.lo⟩
  rcases hm.al k hk with e | e
  · exact h.na k h1 h2 e
  · omega
theorem FS.set {w0 w wr w' : World} {D : Dk} {T0 T : Tx} {s b : Nat} {now now' : Nat → Int} {is is' : Nat → Bool} (h : FS w0 w wr D T0 T s now is) (hF : Fr (fun k => k = b) wr w') (h1 : s ≤ b) (h2 : b < s + 4) (b1 : b ≠ s) (b2 : b ≠ s + 1)
    (ra : w'.heap[s + 2]? = some (.cells (rowU now') 28 (0, 0))) (rb : w'.heap[s + 3]? = some (.cells (rowB is') 29 (0, 0))) : FS w0 w w' D T0 T s now' is' := by
  have hl := h.lo
  have hsz := h.mv.fr.size
  refine ⟨⟨⟨h.ses.dk.disk.fr hF (fun k hk e => ?_), h.ses.dk.far, h.ses.dk.bel.trans (hF.below _ (fun k hk => ?_) h.ses.dk.bel.size)⟩, h.ses.tx.fr hF (fun k hk e => ?_), h.ses.d, h.ses.nb, h.ses.ap1, h.ses.ap2, h.ses.far⟩, ⟨h.mv.fr.trans hF (fun k hk => .inr (by rw [hk]; omega)), h.mv.al, h.mv.has, h.mv.t, h.mv.d, h.mv.nb⟩, hF.heap h.r1 (fun e => b1 e.symm), hF.heap h.r2 (fun e => b2 e.symm), ra, rb, h.na, h.nd, h.lo⟩
  · subst e
    have := h.nd k hk
    omega
  · subst hk
    have hfar : ∀ k, T.all k → w0.heap.size ≤ k := h.ses.far
    have := h.ses.dk.far D.d (.inl (.inl rfl))
    have := h.nd D.d (.inl (.inl rfl))
    omega
  · subst e
    exact h.na k h1 h2 hk
theorem FS.setA {w0 w wr : World} {D : Dk} {T0 T : Tx} {s : Nat} {now : Nat → Int} {is : Nat → Bool} (h : FS w0 w wr D T0 T s now is) (i : Nat) (x : Int) : FS w0 w (wr.setCell ⟨s + 2, i, none⟩ (.int .u8 x)) D T0 T s (updF now i x) is := by
  refine h.set Fr.set (by omega) (by omega) (by omega) (by omega) ?_ (Fr.set.heap h.rb (by omega))
  rw [← rowU_set]
  exact cells_setCell h.ra
theorem FS.setB {w0 w wr : World} {D : Dk} {T0 T : Tx} {s : Nat} {now : Nat → Int} {is : Nat → Bool} (h : FS w0 w wr D T0 T s now is) (i : Nat) (x : Bool) : FS w0 w (wr.setCell ⟨s + 3, i, none⟩ (.bool x)) D T0 T s now (updF is i x) := by
  refine h.set Fr.set (by omega) (by omega) (by omega) (by omega) (Fr.set.heap h.ra (by omega)) ?_
  rw [← rowB_set]
  exact cells_setCell h.rb
theorem FS.start {w0 w : World} {D : Dk} {T : Tx} (S : Ses w0 w D T) : FS w0 w ((((w.alloc (.cells (rowU fun _ => 0) 28)).alloc (.cells (rowB fun _ => false) 29)).alloc (.cells (rowU fun _ => 0) 28)).alloc (.cells (rowB fun _ => false) 29)) D T T w.heap.size (fun _ => 0) (fun _ => false) := by
  have hb : Below w.heap.size w ((((w.alloc (.cells (rowU fun _ => 0) 28)).alloc (.cells (rowB fun _ => false) 29)).alloc (.cells (rowU fun _ => 0) 28)).alloc (.cells (rowB fun _ => false) 29)) := ((((Below.refl _ w).alloc (Nat.le_refl _) _).alloc (by simp) _).alloc (by simp; omega) _).alloc (by simp; omega) _
  refine ⟨S.on hb, TMv.on hb, ?_, ?_, ?_, ?_, fun k h1 h2 hk => ?_, fun k hk => S.dk.disk.allLt hk, Nat.le_refl _⟩
  · exact (Below.heap_alloc _ _ _ (by simp; omega)).trans ((Below.heap_alloc _ _ _ (by simp; omega)).trans ((Below.heap_alloc _ _ _ (by simp)).trans (heap_alloc_new _ _)))
  · have := heap_alloc_new (w.alloc (.cells (rowU fun _ => 0) 28)) (.cells (rowB fun _ => false) 29)
    rw [World.size_alloc] at this
    exact (Below.heap_alloc _ _ _ (by simp)).trans ((Below.heap_alloc _ _ _ (by simp)).trans this)
  · have := heap_alloc_new ((w.alloc (.cells (rowU fun _ => 0) 28)).alloc (.cells (rowB fun _ => false) 29)) (.cells (rowU fun _ => 0) 28)
    rw [World.size_alloc, World.size_alloc] at this
    exact (Below.heap_alloc _ _ _ (by simp)).trans this
  · have := heap_alloc_new (((w.alloc (.cells (rowU fun _ => 0) 28)).alloc (.cells (rowB fun _ => false) 29)).alloc (.cells (rowU fun _ => 0) 28)) (.cells (rowB fun _ => false) 29)
    rw [World.size_alloc, World.size_alloc, World.size_alloc] at this
    exact this
  · have := S.tx.lt hk
    omega
end Go.Proofs.YtcdggcdkjooohaaGreatDoor
