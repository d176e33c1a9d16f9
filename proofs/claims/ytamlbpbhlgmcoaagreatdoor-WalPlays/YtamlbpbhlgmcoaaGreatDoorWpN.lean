import Derived.Test.YtamlbpbhlgmcoaaGreatDoorKWpL
import Derived.Test.YtamlbpbhlgmcoaaGreatDoorKWLa
namespace Go.Proofs.YtamlbpbhlgmcoaaGreatDoor
open Go.RowKit Rec
theorem lnCells_get (Q : List LnR) (r : List Value) (j : Nat) (q : LnR) (h : Q[j]? = some q) : (Q.flatMap LnR.cells ++ r)[j * 2]? = some (.int .i64 q.n) ∧ (Q.flatMap LnR.cells ++ r)[j * 2 + 1]? = some (.slice (some ⟨q.g, 0, none⟩) q.x.length q.c) := by
  induction Q generalizing j with
  | nil => simp at h
  | cons p Q ih =>
    rw [List.flatMap_cons, List.append_assoc]
    cases j with
    | zero => simp only [List.getElem?_cons_zero, Option.some.injEq] at h; subst h; exact ⟨rfl, rfl⟩
    | succ j =>
      rw [List.getElem?_cons_succ] at h
      have := ih j h
      rw [show (j + 1) * 2 = j * 2 + 2 by omega, show j * 2 + 2 + 1 = (j * 2 + 1) + 2 by omega]
      exact this
/-- what was lent, as it was -/
structure KpA (w : World) (g cap n : Nat) (Q : List LnR) : Prop where
  row : w.ownsRow 0 58 2 (.slice (some ⟨g, 0, none⟩) (n + 1) cap) (n + 1) (Q.flatMap LnR.cells ++ [.int .i64 (-7), .slice none 0 0])
  len : Q.length = n
  each : ∀ q ∈ Q, OwnB w q.g q.c (q.x ++ [77, 78, 79])
theorem KpA.fr {S : Nat → Prop} {w w' : World} {g cap n : Nat} {Q : List LnR} (h : KpA w g cap n Q) (x : Fr S w w') (hg : ¬ S g) (hq : ∀ q ∈ Q, ¬ S q.g) : KpA w' g cap n Q := ⟨owns_fr h.row x (fun k e => by cases e; exact hg), h.len, fun q hm => (h.each q hm).fr x (hq q hm)⟩
theorem KpA.on {w w' : World} {g cap n : Nat} {Q : List LnR} (h : KpA w g cap n Q) (hb : Below w.heap.size w w') : KpA w' g cap n Q := h.fr (below_fr hb (fun _ => False)) (fun e => e) (fun _ _ e => e)
theorem KpA.cell {w : World} {g cap n j : Nat} {Q : List LnR} {q : LnR} (h : KpA w g cap n Q) (hq : Q[j]? = some q) : w.cell? ⟨g, j * 2, none⟩ = some (.int .i64 q.n) ∧ w.cell? ⟨g, j * 2 + 1, none⟩ = some (.slice (some ⟨q.g, 0, none⟩) q.x.length q.c) := by
  obtain ⟨h1, h2⟩ := lnCells_get Q [.int .i64 (-7), .slice none 0 0] j q hq
  have hl := (List.getElem?_eq_some_iff.1 hq).1
  have := h.len
  constructor
  · rw [h.row.cellAt (j * 2) (by omega), h1]
  · rw [h.row.cellAt (j * 2 + 1) (by omega), h2]
theorem KpA.last {w : World} {g cap n : Nat} {Q : List LnR} (h : KpA w g cap n Q) : w.cell? ⟨g, n * 2, none⟩ = some (.int .i64 (-7)) := by
  rw [h.row.cellAt (n * 2) (by omega), List.getElem?_append_right (by rw [lnCells_len, h.len]; exact Nat.le_refl _), lnCells_len, h.len, Nat.sub_self]; rfl
theorem stg_bown {ops : Array Oper} {o : Oper} {a : Act} {w : World} {K : Act → World → Prop} {Q : Exit → Act → World → Prop} {E : Prop} (hw : Region.wanted o (yielded ops a.tmps) = true) (s x : Operand)
    (ho : o.op = .call { callee := .builtin .append, args := #[s, x], argTypes := #[37, 37] }) (v : Value) (k : Nat) (l : List Int) (hs : a.eval s = v) (hown : w.ownsRow 0 5 1 v k (l.map (Value.int .u8)))
    (ad : Addr) (m c : Nat) (y : List Int) (hx : a.eval x = .slice (some ad) m c) (hm : 0 < m) (hl : y.length = m) (hb : Bytes w (some ad) y) (h47 : k + m ≤ 140737488355328)
    (h : ∀ g cap w', w'.ownsRow 0 5 1 (.slice (some ⟨g, 0, none⟩) (k + m) cap) (k + m) ((l ++ y).map (Value.int .u8)) → Fr (fun k => v.ownBlock = some k) w w' → (v.ownBlock = some g ∨ w.heap.size ≤ g) → K (a.put o.dst (.slice (some ⟨g, 0, none⟩) (k + m) cap)) w') :
    if Region.wanted o (yielded ops a.tmps) = true then Oper.wp Tryz.prog o a w K Q else E := by
  rw [if_pos hw]
  obtain ⟨i0, hi, hz0, hz1, hz2⟩ := info_parts info5
  obtain ⟨g, cap, w', hr, h2, h3, hgb⟩ := run_own 37 o.type 5 i0 _ 1 1 Tryz.underlying37 hi hz0 hz1 hz2 rfl (by decide) v k _ hown ad m c (y.map (Value.int .u8)) hm (by rw [List.length_map, hl, Nat.mul_one]) hb.news (cells_u8 y) (by unfold maxLen; omega) (by omega)
  unfold Oper.wp
  simp only [execOp, ho, resolve, invoke, builtin, Sem.run_bind, Sem.run_pure, Result.andThen_ok, List.map_toArray, List.map_cons, List.map_nil, hs, hx, hr]
  rw [← List.map_append] at h2
  exact h g cap w' h2 h3 hgb
theorem stg_dupB {ops : Array Oper} {o : Oper} {a : Act} {w : World} {K : Act → World → Prop} {Q : Exit → Act → World → Prop} {E : Prop} (hw : Region.wanted o (yielded ops a.tmps) = true) (s x : Operand)
    (ho : o.op = .call { callee := .builtin .append, args := #[s, x], argTypes := #[37, 37] }) (B g0 : Nat) (hs : a.eval s = .slice (some ⟨g0, 0, none⟩) 0 0) (hown : w.ownsRow B 5 1 (.slice (some ⟨g0, 0, none⟩) 0 0) 0 []) (hB : B ≤ w.heap.size)
    (pa : Option Addr) (m c : Nat) (y : List Int) (hx : a.eval x = .slice pa m c) (hn : pa = none → c = 0) (hl : y.length = m) (hb : Bytes w pa y) (h47 : m ≤ 140737488355328)
    (h : ∀ v w', w'.ownsRow 0 5 1 v m (y.map (Value.int .u8)) → Fr (fun k => k = g0) w w' → (∀ k, v.ownBlock = some k → B ≤ k) → K (a.put o.dst v) w') :
    if Region.wanted o (yielded ops a.tmps) = true then Oper.wp Tryz.prog o a w K Q else E := by
  rw [if_pos hw]
  obtain ⟨i0, hi, hz0, hz1, hz2⟩ := info_parts info5
  have hR : ∀ (v1 : Value) (w1 : World), w1.ownsRow B 5 1 v1 m (y.map (Value.int .u8)) → (w1.ownsRow 0 5 1 v1 m (y.map (Value.int .u8)) ∧ ∀ k, v1.ownBlock = some k → B ≤ k) := fun v1 w1 ho => by
    rcases ho.2 with ⟨rfl, h0⟩ | ⟨g, cap, cur, rfl, h2, h3⟩
    · exact ⟨⟨ho.1, .inl ⟨rfl, h0⟩⟩, fun k hk => by cases hk⟩
    · exact ⟨⟨ho.1, .inr ⟨g, cap, cur, rfl, Nat.zero_le _, h3⟩⟩, fun k hk => by cases hk; exact h2⟩
  cases pa with
  | none =>
    have hy : y = [] := hb.nil
    subst hy
    have hm : m = 0 := hl.symm
    subst hm
    have hc := hn rfl
    subst hc
    have hrun := run_append_owned_none (P := Tryz.prog) (w := w) B 37 o.type 5 i0 1 Tryz.underlying37 hi _ 0 [] hown
    unfold Oper.wp
    simp [execOp, ho, resolve, invoke, builtin, hs, hx, hrun, Result.andThen]
    obtain ⟨h1, h2⟩ := hR _ _ hown
    exact h _ _ h1 (Fr.refl _ _) h2
  | some p =>
    refine wp_append_own w s x 37 ho B 5 i0 _ 1 1 Tryz.underlying37 hi hz0 hz1 hz2 rfl (by decide) _ 0 [] hs hown p m c (y.map (Value.int .u8)) hx (by rw [List.length_map, hl, Nat.mul_one]) hb.news (cells_u8 y) (by unfold maxLen; omega) (by omega) hB ?_
    intro v1 w1 ho hg _
    rw [Nat.zero_add, List.nil_append] at ho
    obtain ⟨h1, h2⟩ := hR _ _ ho
    exact h _ _ h1 ((grown_fr hg).mono (fun k e => by cases e; rfl)) h2
/-- the two rows that kept lays, in whatever order -/
structure Emp (w wx : World) (g0 : Nat) : Prop where
  own : wx.ownsRow w.heap.size 5 1 (.slice (some ⟨g0, 0, none⟩) 0 0) 0 []
  bel : Below w.heap.size w wx
  lo : w.heap.size ≤ g0
theorem emp_a (w : World) : Emp w (w.drew.alloc (.cells #[] 5)) w.heap.size := ⟨⟨rfl, .inr ⟨_, _, _, rfl, Nat.le_refl _, heap_alloc_new _ _, Nat.le_refl _, Nat.zero_le _, rfl, rfl⟩⟩, (Below.refl _ _).drew.alloc (Nat.le_refl _) _, Nat.le_refl _⟩
theorem emp_b (w : World) (o : Obj) : Emp w ((w.drew.alloc (.cells #[] 5)).alloc o) w.heap.size := by
  have h := emp_a w
  have hb : Below (w.drew.alloc (.cells #[] 5)).heap.size (w.drew.alloc (.cells #[] 5)) ((w.drew.alloc (.cells #[] 5)).alloc o) := (Below.refl _ _).alloc (Nat.le_refl _) _
  exact ⟨owns_fr h.own (below_fr hb (fun _ => False)) (fun _ _ e => e), h.bel.trans (hb.mono h.bel.size), h.lo⟩
theorem emp_c (w : World) (o : Obj) : Emp w ((w.drew.alloc o).alloc (.cells #[] 5)) (w.heap.size + 1) := by
  have hs : (w.drew.alloc o).heap.size = w.heap.size + 1 := by
    show (w.heap.push o).size = w.heap.size + 1
    exact Array.size_push _
  have hb : Below w.heap.size w (w.drew.alloc o) := (Below.refl _ _).drew.alloc (Nat.le_refl _) _
  rw [← hs]
  exact ⟨⟨rfl, .inr ⟨_, _, _, rfl, hb.size, heap_alloc_new _ _, Nat.le_refl _, Nat.zero_le _, rfl, rfl⟩⟩, hb.trans (((Below.refl _ _).alloc (Nat.le_refl _) _).mono hb.size), hb.size⟩
theorem emp_b3 (w : World) : Bytes ((w.drew.alloc (.cells #[] 5)).alloc (.cells #[.int .u8 77, .int .u8 78, .int .u8 79] 5)) (some ⟨w.heap.size + 1, 0, none⟩) [77, 78, 79] := by
  have hs : (w.drew.alloc (.cells #[] 5)).heap.size = w.heap.size + 1 := by
    show (w.heap.push _).size = w.heap.size + 1
    exact Array.size_push _
  rw [← hs]
  exact news3 (heap_alloc_new _ _)
theorem emp_c3 (w : World) : Bytes ((w.drew.alloc (.cells #[.int .u8 77, .int .u8 78, .int .u8 79] 5)).alloc (.cells #[] 5)) (some ⟨w.heap.size, 0, none⟩) [77, 78, 79] :=
  (news3 (heap_alloc_new w.drew _)).on ((Below.refl _ _).alloc (Nat.le_refl _) _)
/-- behind the first append -/
structure Du1 (w w1 : World) (v : Value) (m : Nat) (x : List Int) : Prop where
  own : w1.ownsRow 0 5 1 v m (x.map (Value.int .u8))
  far : ∀ k, v.ownBlock = some k → w.heap.size ≤ k
  bel : Below w.heap.size w w1
theorem Emp.dup {w wx w1 : World} {g0 m : Nat} {v : Value} {x : List Int} (h : Emp w wx g0) (h1 : w1.ownsRow 0 5 1 v m (x.map (Value.int .u8))) (h2 : Fr (fun k => k = g0) wx w1) (h3 : ∀ k, v.ownBlock = some k → w.heap.size ≤ k) : Du1 w w1 v m x := ⟨h1, h3, h.bel.trans (h2.below _ (fun k e => by rw [show k = g0 from e]; exact h.lo) h.bel.size)⟩
theorem Du1.on {w w1 w2 : World} {v : Value} {m : Nat} {x : List Int} (h : Du1 w w1 v m x) (hb : Below w1.heap.size w1 w2) : Du1 w w2 v m x := ⟨owns_on h.own hb, h.far, h.bel.trans (hb.mono h.bel.size)⟩
set_option maxRecDepth 100000 in
set_option maxHeartbeats 8000000 in
theorem wkept_any (w : World) (g cap n c : Nat) (a0 : Option Addr) (Q : List LnR) (L : List BG) (hK : KpA w g cap n Q) (hL : BGs w a0 L) (hn : L.length = n) (hQ : lnOf Q = bgOf L) (hl : n ≤ 4398046511000) (hx : ∀ q ∈ L, q.x.length ≤ 140737488351232) :
    Calls Tryz.prog 27 #[.slice (some ⟨g, 0, none⟩) n cap, .slice a0 n c] w fun e w' => e = .returned (.bool true) ∧ Below w.heap.size w w' := by
  have hcap : n + 1 ≤ cap := by
    obtain ⟨_, _, e, k1, _⟩ := owns_slice hK.row
    cases e; exact k1
  have HL : Hid (BGs w a0 L ∧ L.length = n ∧ (∀ q ∈ L, q.x.length ≤ 140737488351232) ∧ KpA w g cap n Q ∧ lnOf Q = bgOf L) := ⟨hL, hn, hx, hK, hQ⟩
  clear hL hn hx hK hQ
  go_enter Tryz.func27, Tryz.ntmps27
  go_wp2
  go_loopw [6, 7, 8] (fun s6 _ _ wr => ∃ j : Nat, j ≤ n ∧ s6 = .int .i64 j ∧ Below w.heap.size w wr) (fun s6 _ _ _ => n - (intOf s6).toNat)
  case atStart => exact ⟨0, Nat.zero_le _, rfl, Below.refl _ _⟩
  case round =>
    obtain ⟨j, hj, rfl, hB⟩ := hrel
    have HB : Hid (Below w.heap.size w wr) := hB
    clear hB
    by_cases hlt : j < n
    · have hjl : j < L.length := by rw [HL.out.2.1]; exact hlt
      obtain ⟨q, hq⟩ : ∃ q, L[j]? = some q := ⟨_, List.getElem?_eq_getElem hjl⟩
      have hpq : ∃ p, Q[j]? = some p ∧ p.n = q.n ∧ p.x = q.x := by
        have h1 : (lnOf Q)[j]? = some (q.n, q.x) := by rw [HL.out.2.2.2.2]; unfold bgOf; rw [List.getElem?_map, hq]; rfl
        unfold lnOf at h1
        rw [List.getElem?_map] at h1
        cases hp : Q[j]? with
        | none => rw [hp] at h1; cases h1
        | some p => rw [hp] at h1; simp at h1; exact ⟨p, rfl, h1.1, h1.2⟩
      obtain ⟨p, hp, hpn, hpx⟩ := hpq
      have HBe : Hid (Bytes w q.a q.x ∧ (q.a = none → q.c = 0) ∧ q.x.length ≤ 140737488351232 ∧ OwnB w p.g p.c (q.x ++ [77, 78, 79])) := ⟨((HL.out.1.each q (List.mem_of_getElem? hq)).1), (HL.out.1.each q (List.mem_of_getElem? hq)).2, HL.out.2.2.1 q (List.mem_of_getElem? hq), by rw [← hpx]; exact HL.out.2.2.2.1.each p (List.mem_of_getElem? hp)⟩
      obtain ⟨b, off, rfl, hc⟩ := HL.out.1.at_.resolve_left (by intro e; rw [e] at hjl; simp at hjl)
      obtain ⟨c1, c2⟩ := hc j q hq
      obtain ⟨c3, c4⟩ := HL.out.2.2.2.1.cell hp
      rw [hpn] at c3
      rw [hpx] at c4
      have HC : Hid (∀ wz, Below w.heap.size w wz → (wz.cell? ⟨b, off + j * 2, none⟩ = some (.int .i64 q.n) ∧ wz.cell? ⟨b, off + j * 2 + 1, none⟩ = some (.slice q.a q.x.length q.c)) ∧ wz.cell? ⟨g, j * 2, none⟩ = some (.int .i64 q.n) ∧ wz.cell? ⟨g, j * 2 + 1, none⟩ = some (.slice (some ⟨p.g, 0, none⟩) q.x.length p.c)) := fun wz hb => ⟨⟨(below_fr hb (fun _ => False)).cell c1 (fun e => e), (below_fr hb (fun _ => False)).cell c2 (fun e => e)⟩, (below_fr hb (fun _ => False)).cell c3 (fun e => e), (below_fr hb (fun _ => False)).cell c4 (fun e => e)⟩
      clear c1 c2 c3 c4 hc hq hjl hp hpn hpx
      obtain ⟨m, hm⟩ : ∃ m, q.x.length = m := ⟨_, rfl⟩
      have HM : Hid (q.x.length = m) := hm
      rw [hm] at HC
      have hmb : m ≤ 140737488351232 := by rw [← hm]; exact HBe.out.2.2.1
      clear hm
      have hcap3 : m + 3 ≤ p.c := by have := HBe.out.2.2.2.room; rw [List.length_append, HM.out] at this; exact this
      obtain ⟨pg, hpg⟩ : ∃ pg, p.g = pg := ⟨_, rfl⟩
      obtain ⟨pc, hpc⟩ : ∃ pc, p.c = pc := ⟨_, rfl⟩
      rw [hpg, hpc] at HC HBe
      rw [hpc] at hcap3
      clear hpg hpc
      have c1 := (HC.out wr HB.out).1.1
      have c2 := (HC.out wr HB.out).1.2
      have c3 := (HC.out wr HB.out).2.1
      have c4 := (HC.out wr HB.out).2.2
      go_upto_region 7 with fail
      clear c1 c2 c3 c4
      have HBd : Hid (Below w.heap.size w wr.drew) := HB.out.drew
      have hl3 : (q.x ++ [77, 78, 79]).length = m + 3 := by rw [List.length_append, HM.out]; rfl
      have HSm : Hid (∀ w2 g2 cap2, OwnB w2 g2 cap2 (q.x ++ [77, 78, 79]) → Below wr.heap.size wr w2 → Calls Tryz.prog 14 #[.slice (some ⟨pg, 0, none⟩) (m + 3 : Nat) pc, .slice (some ⟨g2, 0, none⟩) (m + 3 : Nat) cap2] w2 fun e w' => e = .returned (.bool true) ∧ w2 = w') := fun w2 g2 cap2 h1 h2 => sameBytes_yes w2 _ _ (m + 3) pc cap2 _ (HBe.out.2.2.2.on (HB.out.trans (h2.mono HB.out.size))).bytes h1.bytes hl3
      clear hl3
      go_region_held3 (fun w' => (w'.cell? ⟨b, off + j * 2, none⟩ = some (.int .i64 q.n) ∧ w'.cell? ⟨b, off + j * 2 + 1, none⟩ = some (.slice q.a m q.c)) ∧ w'.cell? ⟨g, j * 2, none⟩ = some (.int .i64 q.n) ∧ w'.cell? ⟨g, j * 2 + 1, none⟩ = some (.slice (some ⟨pg, 0, none⟩) m pc)) (first | exact HC.out _ HBd.out | exact HC.out _ (HBd.out.alloc HBd.out.size _) | exact HC.out _ ((HBd.out.alloc HBd.out.size _).alloc (HBd.out.alloc HBd.out.size _).size _) | exact HC.out _ (HB.out.trans (D2.out.2.mono HB.out.size)) | exact HC.out _ (HB.out.trans (D1.out.bel.mono HB.out.size)) | exact HC.out _ (HB.out.trans ((D1.out.bel.alloc D1.out.bel.size _).mono HB.out.size)) | exact HC.out _ (HB.out.trans ((emp_a wr).bel.mono HB.out.size)) | go_keep) (first
        | (refine stg_dupB (by rfl) (.tmp 57) (.tmp 62) (by rfl) wr.heap.size _ (by rfl) (emp_a wr).own (emp_a wr).bel.size q.a m q.c q.x (by rfl) HBe.out.2.1 HM.out (HBe.out.1.on (HB.out.trans ((emp_a wr).bel.mono HB.out.size))) (by omega) ?_
           intro v1 w1 h1 h2 h3
           have D1 : Hid (Du1 wr w1 v1 m q.x) := (emp_a wr).dup h1 h2 h3
           clear h1 h2 h3)
        | (refine stg_dupB (by rfl) (.tmp 57) (.tmp 62) (by rfl) wr.heap.size _ (by rfl) (emp_b wr _).own (emp_b wr _).bel.size q.a m q.c q.x (by rfl) HBe.out.2.1 HM.out (HBe.out.1.on (HB.out.trans ((emp_b wr _).bel.mono HB.out.size))) (by omega) ?_
           intro v1 w1 h1 h2 h3
           have D1 : Hid (Du1 wr w1 v1 m q.x) := (emp_b wr _).dup h1 h2 h3
           have T3 : Hid (Bytes w1 (some ⟨wr.heap.size + 1, 0, none⟩) [77, 78, 79]) := bytes_frE (emp_b3 wr) h2 (fun _ p e => by cases e; show ¬ (wr.heap.size + 1 = wr.heap.size); omega)
           clear h1 h2 h3)
        | (refine stg_dupB (by rfl) (.tmp 57) (.tmp 62) (by rfl) wr.heap.size _ (by rfl) (emp_c wr _).own (emp_c wr _).bel.size q.a m q.c q.x (by rfl) HBe.out.2.1 HM.out (HBe.out.1.on (HB.out.trans ((emp_c wr _).bel.mono HB.out.size))) (by omega) ?_
           intro v1 w1 h1 h2 h3
           have D1 : Hid (Du1 wr w1 v1 m q.x) := (emp_c wr _).dup h1 h2 h3
           have T3 : Hid (Bytes w1 (some ⟨wr.heap.size, 0, none⟩) [77, 78, 79]) := bytes_frE (emp_c3 wr) h2 (fun _ p e => by cases e; show ¬ (wr.heap.size = wr.heap.size + 1); omega)
           clear h1 h2 h3)
        | (refine stg_bown (by rfl) (.tmp 63) (.tmp 64) (by rfl) v1 m q.x (by rfl) D1.out.own _ 3 3 [77, 78, 79] (by rfl) (by decide) rfl T3.out (by omega) ?_
           intro g2 cap2 w2 h1 h2 h3
           have D2 : Hid (OwnB w2 g2 cap2 (q.x ++ [77, 78, 79]) ∧ Below wr.heap.size wr w2) := ⟨ownB_of h1 (by rw [List.length_append, HM.out]; rfl) (by omega) (wf_two HBe.out.1.wf (wf_list (by decide))), D1.out.bel.trans (h2.below _ D1.out.far D1.out.bel.size)⟩
           clear h1 h2 h3)
        | (refine stg_bown (by rfl) (.tmp 63) (.tmp 64) (by rfl) v1 m q.x (by rfl) (D1.out.on ((Below.refl _ _).alloc (Nat.le_refl _) _)).own ⟨w1.heap.size, 0, none⟩ 3 3 [77, 78, 79] (by rfl) (by decide) rfl (news3 (heap_alloc_new w1 _)) (by omega) ?_
           intro g2 cap2 w2 h1 h2 h3
           have D2 : Hid (OwnB w2 g2 cap2 (q.x ++ [77, 78, 79]) ∧ Below wr.heap.size wr w2) := ⟨ownB_of h1 (by rw [List.length_append, HM.out]; rfl) (by omega) (wf_two HBe.out.1.wf (wf_list (by decide))), (D1.out.bel.alloc D1.out.bel.size _).trans (h2.below _ D1.out.far (D1.out.bel.alloc D1.out.bel.size _).size)⟩
           clear h1 h2 h3)
        | (go_at_call 14; refine (HSm.out w2 g2 cap2 D2.out.1 D2.out.2).mono ?_; rintro e w' ⟨rfl, rfl⟩))
      all_goals
        go_wp2
        exact ⟨⟨j + 1, hlt, rfl, HB.out.trans (D2.out.2.mono HB.out.size)⟩, by simp [intOf]; omega⟩
    · have e : j = n := by omega
      subst e
      have c1 := (HL.out.2.2.2.1.on HB.out).last
      go_wp2
      go_ret
      exact ⟨rfl, HB.out⟩
end Go.Proofs.YtamlbpbhlgmcoaaGreatDoor
