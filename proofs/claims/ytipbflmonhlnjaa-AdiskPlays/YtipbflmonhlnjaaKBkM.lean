import Derived.Test.YtipbflmonhlnjaaBkL
import Derived.Deep.RegionHeld3
import Derived.Test.YtipbflmonhlnjaaKAPend
namespace Go.Proofs.Ytipbflmonhlnjaa
open Go.RowKit Rec
section
variable {o : Oper} {ρ : Operand → Value} {w : World}
theorem ex_move {x : Operand} {v : Value} (ho : o.op = .move x) (hx : ρ x = v) : (execOp ρ o).run Try.prog w = .ok (.value v) w := by
  simp only [execOp, ho, hx, Sem.run_pure]
theorem ex_nil {x : Operand} {p : Addr} (ho : o.op = .nilCheck x) (hx : ρ x = .pointer (some p)) : (execOp ρ o).run Try.prog w = .ok (.value (.pointer (some p))) w := by
  simp only [execOp, ho, hx, Sem.run_pure]
theorem ex_field1 {x : Operand} {kb : Nat} (ho : o.op = .fieldAddr 41 x 1) (hx : ρ x = .pointer (some ⟨kb, 0, none⟩)) : (execOp ρ o).run Try.prog w = .ok (.value (.pointer (some ⟨kb, 1, none⟩))) w := by
  simp [execOp, ho, hx, go_sem]
theorem ex_field3 {x : Operand} {kb : Nat} (ho : o.op = .fieldAddr 41 x 3) (hx : ρ x = .pointer (some ⟨kb, 0, none⟩)) : (execOp ρ o).run Try.prog w = .ok (.value (.pointer (some ⟨kb, 3, none⟩))) w := by
  simp [execOp, ho, hx, go_sem]
theorem ex_load1 {x : Operand} {p : Addr} {a : Option Addr} {n c : Nat} (ho : o.op = .load 38 x) (hx : ρ x = .pointer (some p)) (hc : w.cell? p = some (.slice a n c)) : (execOp ρ o).run Try.prog w = .ok (.value (.slice a n c)) w := by
  simp [execOp, ho, hx, hc, go_sem]
theorem ex_load3 {x : Operand} {p : Addr} {a : Option Addr} {n c : Nat} (ho : o.op = .load 39 x) (hx : ρ x = .pointer (some p)) (hc : w.cell? p = some (.slice a n c)) : (execOp ρ o).run Try.prog w = .ok (.value (.slice a n c)) w := by
  simp [execOp, ho, hx, hc, go_sem]
theorem ex_index1 {x y : Operand} {g n c k : Nat} (ho : o.op = .indexAddr 38 x y) (hx : ρ x = .slice (some ⟨g, 0, none⟩) n c) (hy : ρ y = .int .i64 (k : Int)) (hk : k < n) : (execOp ρ o).run Try.prog w = .ok (.value (.pointer (some ⟨g, k, none⟩))) w := by
  have h1 : ¬ (k : Int) < 0 := by omega
  simp [execOp, ho, hx, hy, go_sem, hk]
theorem ex_sub {y : Operand} {k : Nat} {m : Int} (ho : o.op = .binOp .sub 3 (.const (.int .i64 (-1000))) y 3) (hc : ρ (.const (.int .i64 (-1000))) = .int .i64 (-1000)) (hy : ρ y = .int .i64 (k : Int)) (hk : k ≤ 1000000000000) (hm : (-1000 : Int) - (k : Int) = m) : (execOp ρ o).run Try.prog w = .ok (.value (.int .i64 m)) w := by
  have h1 : -9223372036854775808 ≤ (-1000 : Int) - (k : Int) ∧ (-1000 : Int) - (k : Int) ≤ 9223372036854775807 := by omega
  subst hm
  have h2 : IntKind.i64.wrap ((-1000 : Int) - (k : Int)) = (-1000 : Int) - (k : Int) := IntWalk.i64_in _ h1
  simp [execOp, ho, hc, hy, go_sem, h2]
theorem ex_loadI {x : Operand} {p : Addr} {a : Option Addr} {n c : Nat} (ho : o.op = .load 75 x) (hx : ρ x = .pointer (some p)) (hc : w.cell? p = some (.slice a n c)) : (execOp ρ o).run Try.prog w = .ok (.value (.slice a n c)) w := by
  simp [execOp, ho, hx, hc, go_sem]
theorem ex_buildI {x : Operand} {m : Int} (ho : o.op = .buildSlice 75 1 #[(0, x)]) (hx : ρ x = .int .i64 m) : (execOp ρ o).run Try.prog w = .ok (.value (.slice (some ⟨w.heap.size, 0, none⟩) 1 1)) (w.alloc (.cells #[.int .i64 m] 3)) := by
  simp [execOp, ho, hx, go_sem]
theorem ex_storeI {x y : Operand} {p : Addr} {v0 : Value} {pa : Option Addr} {n c : Nat} (ho : o.op = .store 75 x y) (hx : ρ x = .pointer (some p)) (hy : ρ y = .slice pa n c) (hc : w.cell? p = some v0) (hf : w.frozen? p = false) : (execOp ρ o).run Try.prog w = .ok .skip (w.setCell p (.slice pa n c)) := by
  simp [execOp, ho, hx, hy, hc, hf, go_sem]
end
section
variable {o : Oper} {a : Act} {w : World} {K : Act → World → Prop} {Q : Exit → Act → World → Prop}
theorem stw_load {x : Operand} {p : Addr} {pa : Option Addr} {n c : Nat} (ho : o.op = .load 75 x) (hx : a.eval x = .pointer (some p)) (hc : w.cell? p = some (.slice pa n c)) (d : Nat) (hd : o.dst = some d) (h : K (a.put (some d) (.slice pa n c)) w) : o.wp Try.prog a w K Q := by
  unfold Oper.wp
  rw [ex_loadI ho hx hc]
  rw [← hd] at h
  exact h
theorem stw_build {x : Operand} {m : Int} (ho : o.op = .buildSlice 75 1 #[(0, x)]) (hx : a.eval x = .int .i64 m) (d : Nat) (hd : o.dst = some d) (h : K (a.put (some d) (.slice (some ⟨w.heap.size, 0, none⟩) 1 1)) (w.alloc (.cells #[.int .i64 m] 3))) : o.wp Try.prog a w K Q := by
  unfold Oper.wp
  rw [ex_buildI ho hx]
  rw [← hd] at h
  exact h
theorem stw_store {x y : Operand} {p : Addr} {v0 : Value} {pa : Option Addr} {n c : Nat} (ho : o.op = .store 75 x y) (hx : a.eval x = .pointer (some p)) (hy : a.eval y = .slice pa n c) (hc : w.cell? p = some v0) (hf : w.frozen? p = false) (hd : o.dst = none) (h : K a (w.setCell p (.slice pa n c))) : o.wp Try.prog a w K Q := by
  unfold Oper.wp
  rw [ex_storeI ho hx hy hc hf]
  simp only [Oper.upon, hd]
  exact h
end
/-- a step that may be taken first, its slot by name -/
theorem tkH {P : Program} {md : Region.Mode} {ops : Array Oper} {Q : Exit → Act → World → Prop} {S : World → Prop} {i : Nat} {oi : Oper} {v : Value} (d : Nat) {fuel : Nat} {listed : Array Bool} {a : Act} {w : World} (hi : ops[i]? = some oi) (hd : oi.dst = some d)
    (hs : Region.noSelect ops = true) (hf : Region.free md ops listed i = true) (hr : (Region.ready md ops listed).contains i = true)
    (hQ : ∀ c a w, Q (.panic c) (a.put oi.dst v) w → Q (.panic c) a w) (hy : YieldsIf P ops S oi v a) (hS : S w)
    (h : wpAnyH P md ops Q S fuel (listed.setIfInBounds i true) (a.put (some d) v) w) : wpAnyH P md ops Q S (fuel + 1) listed a w :=
  wpAnyH_take hi hs hf hr hQ hy hS (by rw [hd]; exact h)
end Go.Proofs.Ytipbflmonhlnjaa

namespace Go.Proofs.Ytipbflmonhlnjaa
open Go.RowKit Rec

theorem infoBoA : (Try.prog.info? 4).map (fun i => (i.zero, i.size, i.bytes)) = some (some (.bool false), 1, 1) := by kernel_rfl
theorem Bools.news {w : World} {p : Addr} {n c : Nat} {l : List Bool} (h : Bools w (.slice (some p) n c) l) : ∀ j u, (l.map Value.bool)[j]? = some u → w.cell? (p.add j) = some u := by
  intro j u hj
  obtain ⟨a, c', hv, hb⟩ := h
  cases hv
  rw [List.getElem?_map] at hj
  cases hl : l[j]? with
  | none => rw [hl] at hj; cases hj
  | some x =>
    rw [hl] at hj
    cases hj
    rcases hb with rfl | ⟨b, off, e, hc⟩
    · simp at hl
    · cases e
      rw [Addr.add_lit]; exact hc j x hl
set_option maxRecDepth 100000 in
set_option maxHeartbeats 800000 in
theorem sclone_nil (w : World) : Calls Try.prog 58 #[.slice none 0 0] w fun e w' => e = .returned (.slice none 0 0) ∧ w = w' := by
  have E1 : ∀ w : World, (binOp .eql 42 (.slice none 0 0) (.slice none 0 0)).run Try.prog w = .ok (.bool true) w := fun w => run_eql_nil_slice w _ _ _ _ _ _ _ Try.underlying42
  go_enter Try.func58, Try.ntmps58
  go_wp2
  go_ret
  exact ⟨rfl, rfl⟩
set_option maxRecDepth 100000 in
set_option maxHeartbeats 800000 in
theorem sclone_some (w : World) (p : Addr) (c : Nat) (l : List Bool) (h : Bools w (.slice (some p) l.length c) l) (h47 : l.length ≤ 140737488355328) :
    Calls Try.prog 58 #[.slice (some p) l.length c] w fun e w' => ∃ v', e = .returned v' ∧ Bools w' v' l ∧ (∀ k, v'.ownBlock = some k → w.heap.size ≤ k ∧ k < w'.heap.size) ∧ Below w.heap.size w w' := by
  have HB : Hid (Bools w (.slice (some p) l.length c) l) := h
  obtain ⟨i1, j1, j2, j3, j4⟩ := info_parts infoBoA
  clear h
  have E1 : ∀ w : World, (binOp .eql 42 (.slice (some p) l.length c) (.slice none 0 0)).run Try.prog w = .ok (.bool false) w := fun w => Go.Lib.run_eql_slice_some_nil w p l.length c Try.underlying42
  have HA : Hid (Below w.heap.size w (w.alloc (.cells #[] 4))) := (Below.refl _ _).alloc (Nat.le_refl _) _
  have HE : Hid ((w.alloc (.cells #[] 4)).ownsRow w.heap.size 4 1 (.slice (some ⟨w.heap.size, 0, none⟩) 0 0) 0 []) := ⟨rfl, .inr ⟨_, _, _, rfl, Nat.le_refl _, heap_alloc_new _ _, Nat.le_refl _, Nat.zero_le _, rfl, rfl⟩⟩
  have HN : Hid (∀ j u, (l.map Value.bool)[j]? = some u → (w.alloc (.cells #[] 4)).cell? (p.add j) = some u) := fun j u hj => (fr_alloc (fun _ => False) w _).cell (HB.out.news j u hj) (fun e => e)
  go_enter Try.func58, Try.ntmps58
  go_wp2_with (at_builtin; refine wpList_append_own _ rfl (.tmp 5) (.tmp 6) 42 rfl w.heap.size 4 i1 _ 1 1 Try.underlying42 j1 j2 j3 j4 rfl (by decide) (.slice (some ⟨w.heap.size, 0, none⟩) 0 0) 0 [] rfl HE.out p l.length c (l.map Value.bool) rfl (by simp) HN.out (by intro u hu; simp at hu; rcases hu with ⟨_, rfl⟩ | ⟨_, rfl⟩ <;> rfl) (by unfold maxLen; omega) (by omega) HA.out.size ?_; intro v' w' ho hg hn; have HZ : Hid (w'.ownsRow w.heap.size 4 1 v' (0 + l.length) ([] ++ l.map Value.bool) ∧ (w.alloc (.cells #[] 4)).grownBy w' (some w.heap.size)) := ⟨ho, hg⟩; clear ho hg hn)
  go_ret
  have ho := HZ.out.1
  rw [Nat.zero_add, List.nil_append] at ho
  have ho0 : w'.ownsRow 0 4 1 v' l.length (l.map Value.bool) := ⟨ho.1, by
    rcases ho.2 with h | ⟨g, cap, cur, h1, h2, h3⟩
    · exact .inl h
    · exact .inr ⟨g, cap, cur, h1, Nat.zero_le _, h3⟩⟩
  refine ⟨v', rfl, bools_of ho0, fun k hk => ⟨?_, owns_block ho0 hk⟩, HA.out.grown HZ.out.2 HA.out.size (by intro k hk; cases hk; exact Nat.le_refl _)⟩
  rcases ho.2 with ⟨rfl, _⟩ | ⟨g, cap, cur, rfl, h2, h3⟩
  · cases hk
  · cases hk; exact h2
/-- a power cut armed -/
def Dk.arm (D : Dk) (t : Int) (v : Value) (keep : List Bool) : Dk := { D with at_ := t, kv := v, keep := keep }
def AD.arm (a : AD) (t : Int) (keep : List Bool) : AD := { a with at_ := t, keep := keep }
theorem arm_all {n : Nat} {D : Dk} {t : Int} {v : Value} {keep : List Bool} (h : ∀ k, v.ownBlock = some k → n ≤ k) : Al n D (D.arm t v keep) := by
  rintro k (hk | hk | hk | hk)
  · exact .inl (.inl hk)
  · exact .inr (h k hk)
  · exact .inl (.inr (.inr (.inl hk)))
  · exact .inl (.inr (.inr (.inr hk)))
theorem Disk.armed {w wb w1 w2 : World} {D : Dk} {t : Int} {v : Value} {keep : List Bool} (h : Disk w D) (hb : Below w.heap.size w wb) (hk : Bools wb v keep) (hv : ∀ k, v.ownBlock = some k → w.heap.size ≤ k ∧ k < wb.heap.size) (ht : t ≤ 9223372036854775807)
    (e1 : w1 = wb.setCell ⟨D.d, 6, none⟩ (.int .i64 t)) (e2 : w2 = w1.setCell ⟨D.d, 7, none⟩ v) : Disk w2 (D.arm t v keep) ∧ Mv w D w2 (D.arm t v keep) := by
  have f1 : Fr (fun i => i = D.d) wb w1 := e1 ▸ Fr.set
  have f2 : Fr (fun i => i = D.d) w1 w2 := e2 ▸ Fr.set
  have f : Fr (fun i => i = D.d) wb w2 := f1.trans f2 (fun _ e => .inl e)
  have hw := h.on hb
  have hfr : Fr D.has wb w2 := f.mono (fun _ e => .inl e)
  have hm : Mv w D w2 (D.arm t v keep) := ⟨(below_fr hb D.has).trans hfr (fun _ h => .inl h), fun _ h => .inl h, rfl, rfl⟩
  refine ⟨?_, hm⟩
  exact {
    row := by
      have r1 := heap_setCell_same _ _ 6 _ _ (.int .i64 t) hw.row
      rw [← e1] at r1
      have r2 := heap_setCell_same _ _ 7 _ _ v r1
      rw [← e2] at r2
      exact r2
    las := hw.las.fr f (fun e => h.ap.dL e.symm)
    lasl := h.lasl
    nb0 := h.nb0
    nb1 := h.nb1
    nws := owns_fr hw.nws f (fun k hk e => by cases hk; exact h.ap.dn e.symm)
    pen := owns_fr hw.pen f (fun k hk => (h.ap.p k hk).1)
    penb := fun p hp => ⟨(h.penb p hp).1, (h.penb p hp).2.1, (hw.penb p hp).2.2.1.fr hfr (h.penb p hp).2.2.2, (h.penb p hp).2.2.2⟩
    tap := owns_fr hw.tap f (fun k hk => (h.ap.t k hk).1)
    tapb := fun a ha => by
      rcases hw.tapb a ha with ⟨h1, h2, h3, h4, g, cap, h5, h6, h7⟩ | h'
      · exact .inl ⟨h1, h2, h3, h4, g, cap, h5, h6.fr hfr h7, h7⟩
      · exact .inr h'
    kee := hk.fr f (fun _ k hk e => absurd (hv k hk).1 (by have := h.lt; have e : k = D.d := e; omega))
    keb := fun k hk e => absurd (h.hasLt e) (Nat.not_lt.2 (hv k hk).1)
    kel := fun k hk => Nat.lt_of_lt_of_le (hv k hk).2 hfr.size
    ap := ⟨h.ap.dL, h.ap.dn, h.ap.Ln, h.ap.p, h.ap.t⟩
    dn := h.dn
    pl := h.pl
    tl := h.tl
    wrs := h.wrs
    fls := h.fls
    at1 := ht }
set_option maxRecDepth 100000 in
set_option maxHeartbeats 800000 in
theorem arm_no (w : World) (D : Dk) (h : Disk w D) (t : Int) (v : Value) (hd : D.down = true) : Calls Try.prog 24 #[.pointer (some ⟨D.d, 0, none⟩), .agg #[.int .i64 t, v]] w fun e w' => e = .returned (.int .i64 30) ∧ Below w.heap.size w w' := by
  have C8 : w.cell? ⟨D.d, 8, none⟩ = some (.bool true) := by rw [← hd]; exact h.cell 8
  have HA : Hid (Below w.heap.size w (w.alloc (.cells #[.int .i64 t, v] 66))) := (Below.refl _ _).alloc (Nat.le_refl _) _
  have C8' : (w.alloc (.cells #[.int .i64 t, v] 66)).cell? ⟨D.d, 8, none⟩ = some (.bool true) := (fr_alloc (fun _ => False) w _).cell C8 (fun e => e)
  clear h
  go_enter Try.func24, Try.ntmps24
  go_wp2
  go_ret
  exact ⟨rfl, HA.out⟩
set_option maxRecDepth 100000 in
set_option maxHeartbeats 1600000 in
theorem arm_yes (w : World) (D : Dk) (h : Disk w D) (t : Int) (a : Option Addr) (c : Nat) (keep : List Bool) (hk : Bools w (.slice a keep.length c) keep) (hn : a = none → c = 0) (h47 : keep.length ≤ 140737488355328) (ht : t ≤ 9223372036854775807) (hd : D.down = false) :
    Calls Try.prog 24 #[.pointer (some ⟨D.d, 0, none⟩), .agg #[.int .i64 t, .slice a keep.length c]] w fun e w' => e = .returned (.int .i64 0) ∧ ∃ D', Disk w' D' ∧ Mv w D w' D' ∧ Al w.heap.size D D' ∧ D'.abs = D.abs.arm t keep := by
  have HS : Hid (∀ wx, Below w.heap.size w wx → Calls Try.prog 58 #[.slice a keep.length c] wx fun e w' => ∃ v', e = .returned v' ∧ Bools w' v' keep ∧ (∀ k, v'.ownBlock = some k → wx.heap.size ≤ k ∧ k < w'.heap.size) ∧ Below wx.heap.size wx w') := fun wx hx => by
    cases a with
    | none =>
      obtain rfl := hn rfl
      have e : keep = [] := by
        obtain ⟨a, c, hv, hb⟩ := hk
        rcases hb with e | ⟨b, off, e, _⟩
        · exact e
        · cases hv; cases e
      subst e
      exact (sclone_nil wx).mono (by
        rintro e w' ⟨rfl, rfl⟩
        exact ⟨_, rfl, ⟨none, 0, rfl, .inl rfl⟩, (fun k hk => by cases hk), Below.refl _ _⟩)
    | some p => exact sclone_some wx p c keep (hk.on hx) h47
  have HD : Hid (Disk w D) := h
  have HA : Hid (Below w.heap.size w (w.alloc (.cells #[.int .i64 t, .slice a keep.length c] 66))) := (Below.refl _ _).alloc (Nat.le_refl _) _
  have HR := heap_alloc_new w (.cells #[.int .i64 t, .slice a keep.length c] 66)
  have HC : Hid (∀ j, (w.alloc (.cells #[.int .i64 t, .slice a keep.length c] 66)).cell? ⟨w.heap.size, j, none⟩ = (#[Value.int .i64 t, .slice a keep.length c])[j]?) := fun j => cell_of_row _ _ _ _ _ _ HR
  clear h hk HR
  go_enter Try.func24, Try.ntmps24
  go_upto_region 1 with fail
  generalize w.alloc (.cells #[.int .i64 t, .slice a keep.length c] 66) = wa at *
  have C8 : wa.cell? ⟨D.d, 8, none⟩ = some (.bool false) := by rw [← hd]; exact (HD.out.on HA.out).cell 8
  have S0 : wa.cell? ⟨w.heap.size, 0, none⟩ = some (.int .i64 t) := HC.out 0
  have S1 : wa.cell? ⟨w.heap.size, 1, none⟩ = some (.slice a keep.length c) := HC.out 1
  have HB : Hid (Below w.heap.size w wa.drew) := HA.out.drew
  go_wp2
  go_region_law (go_simp; go_at_call 58; refine (HS.out _ HB.out).mono ?_; rintro e w1 ⟨v', rfl, h1, h2, h3⟩; have h1c := h1; obtain ⟨a2, c2, hv2, h1d⟩ := h1c; subst hv2; clear h1d; have H1 : Hid (Bools w1 (.slice a2 keep.length c2) keep ∧ (∀ k, (Value.slice a2 keep.length c2).ownBlock = some k → w.heap.size ≤ k ∧ k < w1.heap.size) ∧ Below w.heap.size w w1) := ⟨h1, fun k hk => ⟨Nat.le_trans HB.out.size (h2 k hk).1, (h2 k hk).2⟩, HB.out.trans (h3.mono HB.out.size)⟩; have T0 : w1.cell? ⟨w.heap.size, 0, none⟩ = some (.int .i64 t) := (below_fr ((Below.refl _ wa).drew.trans h3) (fun _ => False)).cell S0 (fun e => e); have R1 := (HD.out.on H1.out.2.2).frozen 6; have R2 : w1.frozen? ⟨D.d, 7, none⟩ = false := (HD.out.on H1.out.2.2).frozen 7; have R3 : w1.cell? ⟨D.d, 6, none⟩ = some (.int .i64 D.at_) := (HD.out.on H1.out.2.2).cell 6; have R4 : w1.cell? ⟨D.d, 7, none⟩ = some D.kv := (HD.out.on H1.out.2.2).cell 7; clear h1 h2 h3)
  all_goals
    go_wp2
    go_ret
    have hz := HD.out.armed (t := t) H1.out.2.2 H1.out.1 H1.out.2.1 ht rfl rfl
    exact ⟨rfl, _, hz.1, hz.2, arm_all (fun k hk => (H1.out.2.1 k hk).1), rfl⟩
end Go.Proofs.Ytipbflmonhlnjaa
