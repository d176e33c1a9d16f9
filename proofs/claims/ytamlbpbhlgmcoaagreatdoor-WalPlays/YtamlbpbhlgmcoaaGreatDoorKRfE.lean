import Derived.Test.YtamlbpbhlgmcoaaGreatDoorKRfA
namespace Go.Proofs.YtamlbpbhlgmcoaaGreatDoor
open Go.RowKit Rec
set_option maxRecDepth 100000 in
set_option maxHeartbeats 1600000 in
theorem rflush_out (w : World) (D : RDk) (h : RDisk w D) (ho : D.out = true) : Calls Tryz.prog 32 #[.pointer (some ⟨D.r, 0, none⟩)] w fun e w' => e = .returned (.int .i64 30) ∧ w = w' := by
  have c4 : w.cell? ⟨D.r, 4, none⟩ = some (.bool true) := by rw [h.cell 4, ← ho]; rfl
  clear h
  go_enter Tryz.func32, Tryz.ntmps32
  go_wp2
  go_ret
  exact ⟨rfl, rfl⟩
/-- an act of a flush -/
def fq : ActR := ⟨2, 0, none, 0, []⟩
set_option maxRecDepth 100000 in
set_option maxHeartbeats 4000000 in
theorem rflush_gone (w : World) (D : RDk) (h : RDisk w D) (ho : D.out = false) (hg : D.gone = true) (hfl : -9223372036854775808 ≤ D.fl ∧ D.fl + 1 ≤ 9223372036854775807) (hlt : D.left ≤ 9223372036854775807) :
    Calls Tryz.prog 32 #[.pointer (some ⟨D.r, 0, none⟩)] w fun e w' => e = .returned (.int .i64 30) ∧ RDisk w' (RDk.goes { D with fl := D.fl + 1 }) ∧ Fr (fun k => k = D.r) w w' := by
  have c4 : w.cell? ⟨D.r, 4, none⟩ = some (.bool false) := by rw [h.cell 4, ← ho]; rfl
  have c6 : w.cell? ⟨D.r, 6, none⟩ = some (.int .i64 D.fl) := h.cell 6
  have f6 := h.frozen 6
  obtain ⟨p1, p2⟩ := h.put (D' := { D with fl := D.fl + 1 }) 6 (.int .i64 (D.fl + 1)) rfl rfl rfl ⟨rfl, rfl, rfl⟩ ⟨rfl, rfl⟩ ⟨rfl, rfl⟩ h.lft
  obtain ⟨w3, hw3⟩ : ∃ w3, w.setCell ⟨D.r, 6, none⟩ (.int .i64 (D.fl + 1)) = w3 := ⟨_, rfl⟩
  rw [hw3] at p1 p2
  have HG : Hid (Calls Tryz.prog 68 #[.pointer (some ⟨D.r, 0, none⟩)] w3 fun e w' => e = .returned (.bool true) ∧ RDisk w' (RDk.goes { D with fl := D.fl + 1 }) ∧ Fr (fun k => k = D.r) w w') := by
    refine (rgoes_any w3 _ p1 ho hlt).mono ?_
    rintro e w' ⟨rfl, h1, h2⟩
    refine ⟨?_, h1, p2.trans h2 (fun k e => .inl e)⟩
    have e2 : RDk.gone { D with fl := D.fl + 1 } = D.gone := rfl
    rw [e2, hg]
  obtain ⟨D5, hD5⟩ : ∃ D5 : RDk, RDk.goes { D with fl := D.fl + 1 } = D5 := ⟨_, rfl⟩
  rw [hD5] at HG ⊢
  clear h p1 p2 hg ho hD5
  go_enter Tryz.func32, Tryz.ntmps32
  go_wp2_with (go_at_call 68; refine HG.out.mono ?_; rintro e w6 ⟨rfl, h1, h2⟩; have H6 : Hid (RDisk w6 D5 ∧ Fr (fun k => k = D.r) w w6) := ⟨h1, h2⟩; clear h1 h2)
  go_ret
  exact ⟨rfl, H6.out⟩
theorem fadd {w w6 wx w7 : World} {D D5 : RDk} {r nL la b bc : Nat} {aa : Option Addr} (h6 : RDisk w6 D5) (f6 : Fr (fun k => k = r) w w6) (e1 : D5.av = .slice aa nL la) (e2 : D5.r = r) (e3 : D5.L = D.L) (e4 : D.av = .slice aa nL la) (e5 : D.L.length = nL) (ha : Below w6.heap.size w6 wx)
    (h1 : w7.ownsRow 0 79 3 (.slice (some ⟨b, 0, none⟩) (nL + 1) bc) (nL + 1) (D.L.flatMap ActR.cells ++ [.int .i64 2, .int .i64 0, .slice none 0 0])) (h2 : Fr (fun k => (Value.slice aa nL la).ownBlock = some k) wx w7) (hL : nL + 1 ≤ 1000000000000) :
    w7.heap[r]? = some (.cells D5.cells 41 (0, 0)) ∧ RDisk (w7.setCell ⟨r, 1, none⟩ (.slice (some ⟨b, 0, none⟩) (nL + 1) bc)) { D5 with av := .slice (some ⟨b, 0, none⟩) (nL + 1) bc, L := D.L ++ [fq] } ∧ Fr (fun k => k = r ∨ D.av.ownBlock = some k) w (w7.setCell ⟨r, 1, none⟩ (.slice (some ⟨b, 0, none⟩) (nL + 1) bc)) := by
  subst e2
  have hl5 : D5.L.length = nL := by rw [e3]; exact e5
  subst hl5
  rw [← e3] at h1 ⊢
  rw [← e1] at h2
  obtain ⟨g1, g2, g3⟩ := (h6.on ha).add (q := fq) (b := b) (cap := bc) (w1 := w7) (.inr ⟨rfl, rfl, rfl, rfl, rfl⟩) h1 h2 hL
  rw [e4, ← e1]
  exact ⟨g1, g2, ((f6.mono (fun k e => .inl e)).trans (below_fr ha (fun _ => False)) (fun _ e => e.elim)).trans g3 (fun k e => .inl e)⟩
/-- behind a flush -/
def RFlu (w : World) (D : RDk) (w' : World) : Prop := ∃ b bc, RDisk w' { (RDk.goes { D with fl := D.fl + 1 }) with av := .slice (some ⟨b, 0, none⟩) (D.L.length + 1) bc, L := D.L ++ [fq] } ∧ Fr (fun k => k = D.r ∨ D.av.ownBlock = some k) w w' ∧ (D.av.ownBlock = some b ∨ w.heap.size ≤ b)
set_option maxRecDepth 100000 in
set_option maxHeartbeats 4000000 in
theorem rflush_ok (w : World) (D : RDk) (h : RDisk w D) (ho : D.out = false) (hg : D.gone = false) (hfl : -9223372036854775808 ≤ D.fl ∧ D.fl + 1 ≤ 9223372036854775807) (hlt : D.left ≤ 9223372036854775807) (hL : D.L.length + 1 ≤ 1000000000000) :
    Calls Tryz.prog 32 #[.pointer (some ⟨D.r, 0, none⟩)] w fun e w' => e = .returned (.int .i64 0) ∧ RFlu w D w' := by
  unfold RFlu
  have c4 : w.cell? ⟨D.r, 4, none⟩ = some (.bool false) := by rw [h.cell 4, ← ho]; rfl
  have c6 : w.cell? ⟨D.r, 6, none⟩ = some (.int .i64 D.fl) := h.cell 6
  have f6 := h.frozen 6
  obtain ⟨p1, p2⟩ := h.put (D' := { D with fl := D.fl + 1 }) 6 (.int .i64 (D.fl + 1)) rfl rfl rfl ⟨rfl, rfl, rfl⟩ ⟨rfl, rfl⟩ ⟨rfl, rfl⟩ h.lft
  obtain ⟨w3, hw3⟩ : ∃ w3, w.setCell ⟨D.r, 6, none⟩ (.int .i64 (D.fl + 1)) = w3 := ⟨_, rfl⟩
  rw [hw3] at p1 p2
  obtain ⟨D5, hD5⟩ : ∃ D5 : RDk, RDk.goes { D with fl := D.fl + 1 } = D5 := ⟨_, rfl⟩
  have hD6 : D5.r = D.r ∧ D5.av = D.av ∧ D5.L = D.L ∧ D5.nb = D.nb := by
    rw [← hD5]; unfold RDk.goes
    split <;> exact ⟨rfl, rfl, rfl, rfl⟩
  have HG : Hid (Calls Tryz.prog 68 #[.pointer (some ⟨D.r, 0, none⟩)] w3 fun e w' => e = .returned (.bool false) ∧ RDisk w' D5 ∧ Fr (fun k => k = D.r) w w') := by
    refine (rgoes_any w3 _ p1 ho hlt).mono ?_
    rintro e w' ⟨rfl, h1, h2⟩
    rw [hD5] at h1
    refine ⟨?_, h1, p2.trans h2 (fun k e => .inl e)⟩
    have e2 : RDk.gone { D with fl := D.fl + 1 } = D.gone := rfl
    rw [e2, hg]
  obtain ⟨aa, la, hav, _⟩ := owns_slice h.acts
  obtain ⟨r, hr⟩ : ∃ r, D.r = r := ⟨_, rfl⟩
  obtain ⟨nL, hnL⟩ : ∃ nL, D.L.length = nL := ⟨_, rfl⟩
  rw [hr] at c4 c6 f6 hw3 HG
  rw [hD5, hr]
  rw [hr] at hD6
  rw [hnL] at hav hL ⊢
  have HV : Hid (D5.av = .slice aa nL la ∧ D5.r = r ∧ D5.L = D.L ∧ D.av = .slice aa nL la ∧ D.L.length = nL) := ⟨by rw [hD6.2.1, hav], hD6.1, hD6.2.2.1, hav, hnL⟩
  clear h p1 p2 hg ho hD5 hD6 hav hr hnL
  obtain ⟨i1, j1, j2, j3, j4⟩ := info_parts info36
  go_enter Tryz.func32, Tryz.ntmps32
  go_upto_region 7 with (go_at_call 68; refine HG.out.mono ?_; rintro e w6 ⟨rfl, h1, h2⟩; have H6 : Hid (RDisk w6 D5 ∧ Fr (fun k => k = r) w w6) := ⟨h1, h2⟩; clear h1 h2)
  have y1 : w6.cell? ⟨r, 1, none⟩ = some (.slice aa nL la) := by rw [← HV.out.1, ← HV.out.2.1]; exact H6.out.1.cell 1
  have HRow : Hid (w6.ownsRow 0 79 3 (.slice aa nL la) nL (D.L.flatMap ActR.cells)) := by
    have h1 := H6.out.1.acts
    rw [HV.out.1, HV.out.2.2.1, HV.out.2.2.2.2] at h1; exact h1
  have ha : Below w6.heap.size w6 (w6.alloc (.cells #[.int .i64 2, .int .i64 0, .slice none 0 0] 79)) := (Below.refl _ _).alloc (Nat.le_refl _) _
  go_wp2_with (at_builtin; refine wp_own rfl (.tmp 22) (.tmp 24) 38 rfl 79 i1 _ 3 40 Tryz.underlying38 j1 j2 j3 j4 rfl (by decide) (.slice aa nL la) nL (D.L.flatMap ActR.cells) rfl (owns_fr HRow.out (below_fr ha (fun _ => False)) (fun _ _ e => e)) ⟨w6.heap.size, 0, none⟩ 1 1 [.int .i64 2, .int .i64 0, .slice none 0 0] rfl (by decide) rfl (newsA _ _ _ _ _ _ (heap_alloc_new w6 _)) (by intro u hu; simp at hu; rcases hu with rfl | rfl | rfl <;> rfl) (by unfold maxLen; omega) (by omega) ?_
               intro b bc w7 h1 h2 h3
               have H7 : Hid (w7.heap[r]? = some (.cells D5.cells 41 (0, 0)) ∧ RDisk (w7.setCell ⟨r, 1, none⟩ (.slice (some ⟨b, 0, none⟩) (nL + 1) bc)) { D5 with av := .slice (some ⟨b, 0, none⟩) (nL + 1) bc, L := D.L ++ [fq] } ∧ Fr (fun k => k = r ∨ D.av.ownBlock = some k) w (w7.setCell ⟨r, 1, none⟩ (.slice (some ⟨b, 0, none⟩) (nL + 1) bc))) := fadd H6.out.1 H6.out.2 HV.out.1 HV.out.2.1 HV.out.2.2.1 HV.out.2.2.2.1 HV.out.2.2.2.2 ha h1 h2 hL
               have HBB : Hid (D.av.ownBlock = some b ∨ w.heap.size ≤ b) := (by rw [HV.out.2.2.2.1]; exact h3.imp id (fun e => Nat.le_trans (Nat.le_trans H6.out.2.size ha.size) e))
               have d1 : w7.cell? ⟨r, 1, none⟩ = some D5.av := cell_of_row _ _ 1 _ _ _ H7.out.1
               have e1 : w7.frozen? ⟨r, 1, none⟩ = false := frozen_of_row _ _ 1 _ _ H7.out.1
               clear h1 h2 h3)
  go_ret
  exact ⟨rfl, b, bc, H7.out.2.1, H7.out.2.2, HBB.out⟩
end Go.Proofs.YtamlbpbhlgmcoaaGreatDoor

namespace Go.Proofs.YtamlbpbhlgmcoaaGreatDoor
open Go.RowKit Rec
set_option maxRecDepth 100000 in
theorem app_zeroZ (w : World) (a : Option Addr) (c : Nat) : (Builtin.append_ #[39, 39] 39 #[.slice none 0 0, .slice a 0 c]).run Tryz.prog w = .ok (.slice none 0 0) w := by
  obtain ⟨i0, hi, hz0, hz1, hz2⟩ := info_parts infoBo
  cases a <;> simp [Builtin.append_, run_underlying Tryz.underlying39, sizeOf, typeInfo, hi, Builtin.lenOf, Builtin.firstCells, loadCells, loadCellsFrom]
theorem wp_zeroZ {ops : Array Oper} {rest : List Oper} {o : Oper} {a : Act} {Q : Exit → Act → World → Prop} {w : World} (hgd : o.guard = none) (s x : Operand)
    (ho : o.op = .call { callee := .builtin .append, args := #[s, x], argTypes := #[39, 39] }) (hty : o.type = 39) (hs : a.eval s = .slice none 0 0) (ad : Option Addr) (c : Nat) (hx : a.eval x = .slice ad 0 c)
    (h : wpList Tryz.prog ops Q rest (a.put o.dst (.slice none 0 0)) w) : wpList Tryz.prog ops Q (o :: rest) a w := by
  refine wpList_plain hgd fun K hK => ?_
  unfold Oper.wp execOp
  simp only [ho, hty, resolve, invoke, builtin, Sem.run_bind, Sem.run_pure, Result.andThen_ok, List.map_toArray, List.map_cons, List.map_nil, hs, hx, app_zeroZ w ad c]
  exact hK _ _ h
set_option maxRecDepth 100000 in
set_option maxHeartbeats 1600000 in
/-- marks of one's own -/
theorem rmarks_any (w : World) (ka : Option Addr) (kn kc : Nat) (keep : List Bool) (hk : Bools w (.slice ka kn kc) keep) (hkn : keep.length = kn) (h47 : kn ≤ 140737488351232) :
    Calls Tryz.prog 74 #[.slice ka kn kc] w fun e w' => ∃ v c, e = .returned (.slice v kn c) ∧ w'.ownsRow 0 4 1 (.slice v kn c) kn (keep.map Value.bool) ∧ (∀ b, (Value.slice v kn c).ownBlock = some b → w.heap.size ≤ b) ∧ Below w.heap.size w w' := by
  by_cases h0 : kn = 0
  · subst h0
    have e : keep = [] := List.eq_nil_of_length_eq_zero hkn
    subst e
    clear hk hkn
    go_enter Tryz.func74, Tryz.ntmps74
    go_wp2_with (at_builtin; refine wp_zeroZ rfl (.tmp 4) (.tmp 5) rfl rfl rfl ka kc rfl ?_)
    go_ret
    refine ⟨none, 0, rfl, ⟨rfl, .inl ⟨rfl, rfl⟩⟩, fun b e => ?_, Below.refl _ _⟩
    cases e
  · obtain ⟨b, off, rfl, hc⟩ : ∃ b off, ka = some ⟨b, off, none⟩ ∧ ∀ i x, keep[i]? = some x → w.cell? ⟨b, off + i, none⟩ = some (.bool x) := by
      obtain ⟨a, c, e, h⟩ := hk
      cases e
      rcases h with h | h
      · exact absurd (by rw [h]; rfl) h0
      · exact h
    obtain ⟨i0, hi, hz0, hz1, hz2⟩ := info_parts infoBo
    have HC : Hid (∀ j u, (keep.map Value.bool)[j]? = some u → w.cell? ((⟨b, off, none⟩ : Addr).add j) = some u) := fun j u hj => by
      rw [List.getElem?_map] at hj
      cases hx : keep[j]? with
      | none => rw [hx] at hj; cases hj
      | some x => rw [hx] at hj; cases hj; rw [Addr.add_lit]; exact hc j x hx
    have HL : Hid (keep.length = kn) := hkn
    clear hk hc hkn
    go_enter Tryz.func74, Tryz.ntmps74
    go_wp2_with (at_builtin; refine wp_own rfl (.tmp 4) (.tmp 5) 39 rfl 4 i0 _ 1 1 Tryz.underlying39 hi hz0 hz1 hz2 rfl (by decide) (.slice none 0 0) 0 [] rfl ⟨rfl, .inl ⟨rfl, rfl⟩⟩ ⟨b, off, none⟩ kn kc (keep.map Value.bool) rfl (by omega) (by rw [List.length_map, HL.out, Nat.mul_one]) HC.out (by intro u hu; rcases List.mem_map.1 hu with ⟨x, _, rfl⟩; rfl) (by unfold maxLen; omega) (by omega) ?_
                 intro g cap w2 h1 h2 h3
                 have H2 : Hid (w2.ownsRow 0 4 1 (.slice (some ⟨g, 0, none⟩) kn cap) kn (keep.map Value.bool) ∧ w.heap.size ≤ g ∧ Below w.heap.size w w2) := (by
                   rw [Nat.zero_add, List.nil_append] at h1
                   exact ⟨h1, h3.elim (fun e => by cases e) id, h2.below _ (fun k e => by cases e) (Nat.le_refl _)⟩)
                 clear h1 h2 h3)
    go_ret
    refine ⟨some ⟨g, 0, none⟩, cap, by first | rfl | (rw [Nat.zero_add]; rfl), H2.out.1, fun b e => ?_, H2.out.2.2⟩
    cases e
    exact H2.out.2.1
/-- other marks in its box -/
theorem RDisk.putK {w : World} {D : RDk} {v : Value} {K : List Bool} (h : RDisk w D) (hv : w.ownsRow 0 4 1 v K.length (K.map Value.bool)) : RDisk (w.setCell ⟨D.r, 2, none⟩ v) { D with kv := v, keep := K } ∧ Fr (fun k => k = D.r) w (w.setCell ⟨D.r, 2, none⟩ v) := by
  have x : Fr (fun k => k = D.r) w (w.setCell ⟨D.r, 2, none⟩ v) := Fr.set
  have hB : ∀ g c l, OwnB w g c l → ¬ g = D.r := fun g c l ho => ownB_ne ho h.box (by decide)
  exact ⟨⟨heap_setCell_same _ _ _ _ _ _ h.box, ownB_fr h.first x (hB _ _ _ h.first), h.flen, h.nb0, owns_fr h.acts x (fun k hk e => own_apartX h.acts h.box (by decide) (by rw [hk, e])), fun q hq => (h.each q hq).fr x hB, owns_fr hv x (fun k hk e => own_apartX hv h.box (by decide) (by rw [hk, e])), h.llen, h.lft⟩, x⟩
set_option maxRecDepth 100000 in
set_option maxHeartbeats 1600000 in
theorem rcrash_out (w : World) (D : RDk) (h : RDisk w D) (ho : D.out = true) (v : Value) : Calls Tryz.prog 36 #[.pointer (some ⟨D.r, 0, none⟩), v] w fun e w' => e = .returned (.tuple #[]) ∧ w = w' := by
  have c4 : w.cell? ⟨D.r, 4, none⟩ = some (.bool true) := by rw [h.cell 4, ← ho]; rfl
  clear h
  go_enter Tryz.func36, Tryz.ntmps36
  go_wp2
  (try simp only [Exit.inBlock, Exit.then])
  refine bodyPost_ret (results_none rfl _ _ _) rfl ?_
  exact ⟨rfl, rfl⟩
/-- behind a power cut -/
def RCr (w : World) (D : RDk) (kn : Nat) (keep : List Bool) (w' : World) : Prop := ∃ v c, RDisk w' { D with out := true, kv := .slice v kn c, keep := keep } ∧ Fr (fun k => k = D.r) w w' ∧ ∀ b, (Value.slice v kn c).ownBlock = some b → w.heap.size ≤ b
end Go.Proofs.YtamlbpbhlgmcoaaGreatDoor

namespace Go.Proofs.YtamlbpbhlgmcoaaGreatDoor
open Go.RowKit Rec
set_option maxRecDepth 100000 in
set_option maxHeartbeats 1600000 in
theorem rarm_out (w : World) (D : RDk) (h : RDisk w D) (ho : D.out = true) (t : Int) (ka : Option Addr) (kn kc : Nat) : Calls Tryz.prog 34 #[.pointer (some ⟨D.r, 0, none⟩), .agg #[.int .i64 t, .slice ka kn kc]] w fun e w' => e = .returned (.int .i64 30) ∧ Below w.heap.size w w' := by
  have hal : Below w.heap.size w (w.alloc (.cells #[.int .i64 t, .slice ka kn kc] 44)) := (Below.refl _ _).alloc (Nat.le_refl _) _
  have c4 : (w.alloc (.cells #[.int .i64 t, .slice ka kn kc] 44)).cell? ⟨D.r, 4, none⟩ = some (.bool true) := by rw [(h.on hal).cell 4, ← ho]; rfl
  clear h
  go_enter Tryz.func34, Tryz.ntmps34
  go_wp2
  go_ret
  exact ⟨rfl, hal⟩
/-- armed -/
def RAr (w : World) (D : RDk) (t : Int) (kn : Nat) (keep : List Bool) (w' : World) : Prop := ∃ v c, RDisk w' (if 0 < t then { D with left := t, kv := .slice v kn c, keep := keep } else { D with left := 0 }) ∧ Fr (fun k => k = D.r) w w' ∧ ∀ b, (Value.slice v kn c).ownBlock = some b → w.heap.size ≤ b
end Go.Proofs.YtamlbpbhlgmcoaaGreatDoor

namespace Go.Proofs.YtamlbpbhlgmcoaaGreatDoor
open Go.RowKit Rec
theorem cells_at (L : List ActR) (i : Nat) (q : ActR) (h : L[i]? = some q) : (L.flatMap ActR.cells)[i * 3]? = some (.int .i64 q.kind) ∧ (L.flatMap ActR.cells)[i * 3 + 1]? = some (.int .i64 q.b) ∧ (L.flatMap ActR.cells)[i * 3 + 2]? = some (.slice q.a q.x.length q.c) := by
  induction L generalizing i with
  | nil => simp at h
  | cons p L ih =>
    cases i with
    | zero => cases h; exact ⟨rfl, rfl, rfl⟩
    | succ i =>
      have := ih i (by simpa using h)
      have e : (i + 1) * 3 = i * 3 + 3 := by omega
      rw [e]
      exact this
theorem RAct.bytes {w : World} {nb : Nat} {q : ActR} (h : RAct w nb q) : Bytes w q.a q.x := by
  rcases h with ⟨_, _, _, _, g, e, ho⟩ | ⟨_, _, e, _, e2⟩
  · rw [e]; exact ho.bytes
  · rw [e, e2]; exact ⟨by simp, fun i => by simp [nth], .inl rfl⟩
theorem RAct.ok {w : World} {nb : Nat} {q : ActR} (h : RAct w nb q) : actE nb q = 0 := by
  unfold actE
  rcases h with ⟨h1, h2, h3, h4, _⟩ | ⟨h1, _⟩
  · rw [if_pos h1, if_pos ⟨h2, h3⟩, if_pos h4]
  · rw [if_neg (by omega), if_pos h1]
/-- its acts, to be read -/
theorem RDisk.at_ {w : World} {D : RDk} (h : RDisk w D) : ∃ a c, D.av = .slice a D.L.length c ∧ Acts w a D.L := by
  obtain ⟨a, c, e, _⟩ := owns_slice h.acts
  refine ⟨a, c, e, ?_, fun q hq => (h.each q hq).bytes, by have := h.llen; omega⟩
  by_cases h0 : D.L = []
  · exact .inl h0
  · rcases h.acts.2 with ⟨_, e2⟩ | ⟨g, cap, cur, e2, _⟩
    · exact absurd (List.eq_nil_of_length_eq_zero e2) h0
    · rw [e] at e2
      cases e2
      refine .inr ⟨g, 0, rfl, fun i q hq => ?_⟩
      have hc := fun j u hj => World.ownsRow.cells h.acts (g := g) (by rw [e]; rfl) j u hj
      obtain ⟨e0, e1, e2⟩ := cells_at D.L i q hq
      have t := fun j u hj => by have := hc j u hj; rw [Addr.add_lit, Nat.zero_add] at this; exact this
      rw [Nat.zero_add]
      exact ⟨t _ _ e0, t _ _ e1, t _ _ e2⟩
theorem RDisk.kept {w : World} {D : RDk} (h : RDisk w D) : ∃ a c, D.kv = .slice a D.keep.length c ∧ Bools w D.kv D.keep := by
  obtain ⟨a, c, e, _⟩ := owns_slice h.keep
  refine ⟨a, c, e, a, c, e, ?_⟩
  by_cases h0 : D.keep = []
  · exact .inl h0
  · rcases h.keep.2 with ⟨_, e2⟩ | ⟨g, cap, cur, e2, _⟩
    · exact absurd (List.eq_nil_of_length_eq_zero e2) h0
    · rw [e] at e2
      cases e2
      refine .inr ⟨g, 0, rfl, fun i x hx => ?_⟩
      have := World.ownsRow.cells h.keep (g := g) (by rw [e]; rfl) i (.bool x) (by rw [List.getElem?_map, hx]; rfl)
      rw [Addr.add_lit] at this
      exact this
end Go.Proofs.YtamlbpbhlgmcoaaGreatDoor

namespace Go.Proofs.YtamlbpbhlgmcoaaGreatDoor
open Go.RowKit Rec
/-- what lasts -/
def RDk.img (D : RDk) : List Int := lft D.f D.L (if D.out then D.keep else []) D.L.length
set_option maxRecDepth 100000 in
set_option maxHeartbeats 4000000 in
theorem rimage_any (w : World) (D : RDk) (h : RDisk w D) (hk : D.keep.length ≤ 1000000000000000) : Calls Tryz.prog 16 #[.pointer (some ⟨D.r, 0, none⟩)] w fun e w' => ∃ g cap, e = .returned (.slice (some ⟨g, 0, none⟩) (512 * D.nb) cap) ∧ w.heap.size ≤ g ∧ OwnB w' g cap D.img ∧ Below w.heap.size w w' := by
  obtain ⟨aa, ac, ha, hA⟩ := h.at_
  obtain ⟨ka, kc, hkv, hB⟩ := h.kept
  rw [hkv] at hB
  have c0 : w.cell? ⟨D.r, 0, none⟩ = some (.slice (some ⟨D.gf, 0, none⟩) (512 * D.nb) D.cf) := h.cell 0
  have c1 : w.cell? ⟨D.r, 1, none⟩ = some (.slice aa D.L.length ac) := by rw [← ha]; exact h.cell 1
  have c2 : w.cell? ⟨D.r, 2, none⟩ = some (.slice ka D.keep.length kc) := by rw [← hkv]; exact h.cell 2
  have c4 : w.cell? ⟨D.r, 4, none⟩ = some (.bool D.out) := h.cell 4
  have CL : Hid (∀ wx, Below w.heap.size w wx → ∀ (ka : Option Addr) (kn kc : Nat) (keep : List Bool), Bools w (.slice ka kn kc) keep → keep.length = kn → kn ≤ 1000000000000000 → Calls Tryz.prog 41 #[.slice (some ⟨D.gf, 0, none⟩) (512 * D.nb) D.cf, .slice aa D.L.length ac, .slice ka kn kc] wx fun e w' => ∃ g cap, e = .returned (.slice (some ⟨g, 0, none⟩) (512 * D.nb) cap) ∧ w.heap.size ≤ g ∧ OwnB w' g cap (lft D.f D.L keep D.L.length) ∧ Below w.heap.size w w') := fun wx hb ka kn kc keep hk1 hk2 hk3 => by
    refine (rleft_any wx ⟨D.gf, 0, none⟩ D.cf D.nb D.f (h.first.on hb).bytes h.flen h.nb0.1 h.nb0.2 aa D.L.length ac D.L (hA.on hb) rfl (fun q hq => (h.each q hq).ok) ka kn kc keep (hk1.on hb) hk2 hk3).mono ?_
    rintro e w' ⟨g, cap, rfl, h1, h2, h3⟩
    exact ⟨g, cap, rfl, Nat.le_trans hb.size h1, h2, hb.trans (h3.mono hb.size)⟩
  have HD : Hid (Below w.heap.size w w.drew) := (Below.refl _ _).drew
  have HB : Hid (Bools w (.slice ka D.keep.length kc) D.keep) := hB
  have hB0 : Bools w (.slice none 0 0) [] := ⟨none, 0, rfl, .inl rfl⟩
  have HB0 : Hid (Bools w (.slice none 0 0) []) := hB0
  unfold RDk.img
  clear h hA hB hB0 ha hkv
  obtain ⟨r, nb, gf, cf, f, av, L, kv, keep, left, out, wr, fl⟩ := D
  dsimp only at c0 c1 c2 c4 CL HB hk ⊢
  cases out
  · go_enter Tryz.func16, Tryz.ntmps16
    go_upto_region 3 with fail
    go_region_held3 (fun w' => w'.cell? ⟨r, 0, none⟩ = some (.slice (some ⟨gf, 0, none⟩) (512 * nb) cf) ∧ w'.cell? ⟨r, 1, none⟩ = some (.slice aa L.length ac)) (first | exact ⟨c0, c1⟩ | go_keep | trivial)
      (first
        | (go_at_call 41; refine (CL.out _ (by first | exact HD.out | exact Below.refl _ _) _ _ _ _ HB0.out rfl (by omega)).mono ?_; rintro e u ⟨g, cap, rfl, h1, h2, h3⟩
           have H1 : Hid (w.heap.size ≤ g ∧ OwnB u g cap (lft f L [] L.length) ∧ Below w.heap.size w u) := ⟨h1, h2, h3⟩
           have k0 : u.cell? ⟨r, 0, none⟩ = some (.slice (some ⟨gf, 0, none⟩) (512 * nb) cf) ∧ u.cell? ⟨r, 1, none⟩ = some (.slice aa L.length ac) := ⟨(h3.cell (block_lt_of_cell c0)).trans c0, (h3.cell (block_lt_of_cell c1)).trans c1⟩
           clear h1 h2 h3))
    all_goals
      go_wp2
      go_ret
      exact ⟨g, cap, rfl, H1.out⟩
  · go_enter Tryz.func16, Tryz.ntmps16
    go_upto_region 2 with fail
    go_region_held3 (fun w' => w'.cell? ⟨r, 0, none⟩ = some (.slice (some ⟨gf, 0, none⟩) (512 * nb) cf) ∧ w'.cell? ⟨r, 1, none⟩ = some (.slice aa L.length ac) ∧ w'.cell? ⟨r, 2, none⟩ = some (.slice ka keep.length kc)) (first | exact ⟨c0, c1, c2⟩ | go_keep | trivial)
      (first
        | (go_at_call 41; refine (CL.out _ (by first | exact HD.out | exact Below.refl _ _) _ _ _ _ HB.out rfl hk).mono ?_; rintro e u ⟨g, cap, rfl, h1, h2, h3⟩
           have H1 : Hid (w.heap.size ≤ g ∧ OwnB u g cap (lft f L keep L.length) ∧ Below w.heap.size w u) := ⟨h1, h2, h3⟩
           have k0 : u.cell? ⟨r, 0, none⟩ = some (.slice (some ⟨gf, 0, none⟩) (512 * nb) cf) ∧ u.cell? ⟨r, 1, none⟩ = some (.slice aa L.length ac) ∧ u.cell? ⟨r, 2, none⟩ = some (.slice ka keep.length kc) := ⟨(h3.cell (block_lt_of_cell c0)).trans c0, (h3.cell (block_lt_of_cell c1)).trans c1, (h3.cell (block_lt_of_cell c2)).trans c2⟩
           clear h1 h2 h3))
    all_goals
      go_wp2
      go_ret
      exact ⟨g, cap, rfl, H1.out⟩
end Go.Proofs.YtamlbpbhlgmcoaaGreatDoor

namespace Go.Proofs.YtamlbpbhlgmcoaaGreatDoor
open Go.RowKit Rec
/-- the last write of a block among the first k acts -/
def rdS (L : List ActR) (i : Int) : Nat → Option (List Int)
  | 0 => none
  | k + 1 => if (actN L k).kind = 1 ∧ (actN L k).b = i then some (actN L k).x else rdS L i k
/-- what a block reads -/
def RDk.read (D : RDk) (k : Nat) : List Int := (rdS D.L k D.L.length).getD ((D.f.drop (k * 512)).take 512)
set_option maxRecDepth 100000 in
set_option maxHeartbeats 4000000 in
theorem rread_ok (w : World) (D : RDk) (h : RDisk w D) (ho : D.out = false) (k : Nat) (hk : k < D.nb) : Calls Tryz.prog 93 #[.pointer (some ⟨D.r, 0, none⟩), .int .i64 (k : Int)] w fun e w' => ∃ g cap, e = .returned (.tuple #[.slice (some ⟨g, 0, none⟩) 512 cap, .int .i64 0]) ∧ w.heap.size ≤ g ∧ OwnB w' g cap (D.read k) ∧ Below w.heap.size w w' := by
  obtain ⟨aa, ac, ha, hA⟩ := h.at_
  have HD : Hid (RDisk w D ∧ Acts w aa D.L) := ⟨h, hA⟩
  have HC : Hid (∀ wx, Below w.heap.size w wx → wx.cell? ⟨D.r, 0, none⟩ = some (.slice (some ⟨D.gf, 0, none⟩) (512 * D.nb) D.cf) ∧ wx.cell? ⟨D.r, 1, none⟩ = some (.slice aa D.L.length ac) ∧ wx.cell? ⟨D.r, 4, none⟩ = some (.bool false)) := fun wx hb => ⟨(h.on hb).cell 0, by rw [← ha]; exact (h.on hb).cell 1, by rw [(h.on hb).cell 4, ← ho]; rfl⟩
  have CB : Hid (Calls Tryz.prog 60 #[.pointer (some ⟨D.r, 0, none⟩)] w fun e w' => e = .returned (.int .i64 (D.nb : Int)) ∧ Below w.heap.size w w') := rdblocks_any w D h
  have hL := h.llen
  have hn := h.nb0.2
  obtain ⟨n, hn1⟩ : ∃ n, D.L.length = n := ⟨_, rfl⟩
  have HN : Hid (D.L.length = n ∧ k < D.nb) := ⟨hn1, hk⟩
  rw [hn1] at HC hL
  obtain ⟨c0, c1, c4⟩ := HC.out w (Below.refl _ _)
  have hk' : (k : Int) < (D.nb : Int) := by omega
  have hk2 : ¬ ((D.nb : Int) ≤ (k : Int)) := by omega
  have hk0 : decide ((k : Int) < 0) = false := decide_eq_false (by omega)
  have hk4 : decide (D.nb ≤ k) = false := decide_eq_false (by omega)
  have hk5 : ¬ (D.nb ≤ k) := by omega
  clear h ha hA hn1 ho
  go_enter Tryz.func93, Tryz.ntmps93
  go_upto_region 5 with (go_at_call 60; refine CB.out.mono ?_; rintro e w1 ⟨rfl, hb1⟩; have H1 : Hid (Below w.heap.size w w1) := hb1; obtain ⟨d0, d1, d4⟩ := HC.out w1 hb1; clear hb1)
  clear CB c0 c1 c4
  go_wp2
  go_loopw [6] (fun s6 wr => ∃ m : Nat, s6 = .int .i64 ((m : Int) - 1) ∧ m ≤ n ∧ rdS D.L k n = rdS D.L k m ∧ Below w.heap.size w wr) (fun s6 _ => (intOf s6 + 1).toNat)
  case atStart => exact ⟨n, rfl, Nat.le_refl _, rfl, H1.out⟩
  case round =>
    obtain ⟨m, rfl, hm, hI⟩ := hrel
    have HI : Hid (rdS D.L k n = rdS D.L k m ∧ Below w.heap.size w wr) := hI
    clear hI d0 d1 d4
    obtain ⟨d0, d1, d4⟩ := HC.out wr HI.out.2
    by_cases h0 : m = 0
    · subst h0
      have hsub := (HD.out.1.on HI.out.2).first.sub (k * 512) 512 (by rw [HD.out.1.flen]; have := HN.out.2; omega)
      have hrm := HD.out.1.first.room
      rw [HD.out.1.flen] at hrm
      have CC : Hid (∀ c, Calls Tryz.prog 40 #[.slice (some ⟨D.gf, k * 512, none⟩) 512 c] wr fun e w' => ∃ g cap, e = .returned (.slice (some ⟨g, 0, none⟩) 512 cap) ∧ wr.heap.size ≤ g ∧ OwnB w' g cap ((D.f.drop (k * 512)).take 512) ∧ Below wr.heap.size wr w') := fun c => copied_any wr ⟨D.gf, k * 512, none⟩ 512 c _ hsub (by rw [List.length_take, List.length_drop, HD.out.1.flen]; have := HN.out.2; omega) (by omega) (by omega)
      have HRd : Hid (D.read k = (D.f.drop (k * 512)).take 512) := by
        unfold RDk.read
        rw [HN.out.1, HI.out.1]
        rfl
      have hk3 : (k : Int) < 16384 := by omega
      clear hsub
      go_wp2_with (go_at_call 40; refine (CC.out _).mono ?_; rintro e u ⟨g, cap, rfl, h1, h2, h3⟩; have G1 : Hid (wr.heap.size ≤ g ∧ OwnB u g cap ((D.f.drop (k * 512)).take 512) ∧ Below wr.heap.size wr u) := ⟨h1, h2, h3⟩; clear h1 h2 h3)
      go_ret2
      exact ⟨g, cap, rfl, Nat.le_trans HI.out.2.size G1.out.1, by rw [HRd.out]; exact G1.out.2.1, HI.out.2.trans (G1.out.2.2.mono HI.out.2.size)⟩
    · obtain ⟨j, rfl⟩ : ∃ j, m = j + 1 := ⟨m - 1, by omega⟩
      have ej : ((j + 1 : Nat) : Int) - 1 = (j : Int) := by omega
      rw [ej]
      have hjn : (j : Int) < (n : Int) := by omega
      obtain ⟨b, off, rfl, hcs⟩ := (HD.out.2.on HI.out.2).cellsAt (by rw [HN.out.1]; omega)
      have hq := hcs j (by rw [HN.out.1]; omega)
      have hmem : actN D.L j ∈ D.L := List.mem_of_getElem? (actN_some (by rw [HN.out.1]; omega))
      have hR := (HD.out.1.each _ hmem).on HI.out.2
      have f0 := hq.f0
      have f1 := hq.f1
      have f2 := hq.f2
      have hst : rdS D.L k (j + 1) = if (actN D.L j).kind = 1 ∧ (actN D.L j).b = k then some (actN D.L j).x else rdS D.L k j := rfl
      obtain ⟨q, hqe⟩ : ∃ q, actN D.L j = q := ⟨_, rfl⟩
      rw [hqe] at f0 f1 f2 hst hR
      clear hcs hq hmem hqe
      obtain ⟨kd, qb, qa, qc, qx⟩ := q
      dsimp only at f0 f1 f2 hst
      by_cases hyes : kd = 1 ∧ qb = (k : Int)
      · obtain ⟨rfl, rfl⟩ := hyes
        rw [if_pos ⟨rfl, rfl⟩] at hst
        have hx512 : qx.length = 512 := by
          rcases hR with ⟨_, _, _, h4, _⟩ | ⟨h1, _⟩
          · exact h4
          · cases h1
        have hby := hR.bytes
        rw [hx512] at f2
        obtain ⟨p, rfl⟩ : ∃ p, qa = some p := by
          rcases hR with ⟨_, _, _, _, g, e, _⟩ | ⟨h1, _⟩
          · exact ⟨_, e⟩
          · cases h1
        have CC : Hid (Calls Tryz.prog 40 #[.slice (some p) 512 qc] wr fun e w' => ∃ g cap, e = .returned (.slice (some ⟨g, 0, none⟩) 512 cap) ∧ wr.heap.size ≤ g ∧ OwnB w' g cap qx ∧ Below wr.heap.size wr w') := copied_any wr p 512 qc qx hby hx512 (by omega) (by omega)
        have HRd : Hid (D.read k = qx) := by
          unfold RDk.read
          rw [HN.out.1, HI.out.1, hst]
          rfl
        clear hby hR hst hx512
        go_wp2_with (go_at_call 40; refine CC.out.mono ?_; rintro e u ⟨g, cap, rfl, h1, h2, h3⟩; have G1 : Hid (wr.heap.size ≤ g ∧ OwnB u g cap qx ∧ Below wr.heap.size wr u) := ⟨h1, h2, h3⟩; clear h1 h2 h3)
        go_ret2
        exact ⟨g, cap, rfl, Nat.le_trans HI.out.2.size G1.out.1, by rw [HRd.out]; exact G1.out.2.1, HI.out.2.trans (G1.out.2.2.mono HI.out.2.size)⟩
      · rw [if_neg hyes] at hst
        have HS : Hid (rdS D.L k n = rdS D.L k j) := HI.out.1.trans hst
        clear hst hR
        by_cases hkd : kd = 1
        · have hqb : ¬ qb = (k : Int) := fun e => hyes ⟨hkd, e⟩
          subst hkd
          go_wp2
          go_round
          case rel => exact ⟨j, rfl, by omega, HS.out, HI.out.2⟩
          case measure => simp [intOf]
        · go_wp2
          go_roundw
          case rel =>
            first
              | exact ⟨j, rfl, by omega, HS.out, HI.out.2⟩
              | ((repeat apply Exists.intro)
                 refine ⟨?_, rfl⟩
                 exact ⟨j, rfl, by omega, HS.out, HI.out.2⟩)
          case measure => simp [intOf]
end Go.Proofs.YtamlbpbhlgmcoaaGreatDoor

namespace Go.Proofs.YtamlbpbhlgmcoaaGreatDoor
open Go.RowKit Rec
end Go.Proofs.YtamlbpbhlgmcoaaGreatDoor

namespace Go.Proofs.YtamlbpbhlgmcoaaGreatDoor
open Go.RowKit Rec
end Go.Proofs.YtamlbpbhlgmcoaaGreatDoor
